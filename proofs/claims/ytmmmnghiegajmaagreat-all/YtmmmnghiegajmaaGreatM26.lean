import Derived.Test.YtmmmnghiegajmaaGreatM25
import Derived.Deep.LoopGhost
import Derived.OwnWalk
set_option maxHeartbeats 4000000
open Go.RowKit Go.Proofs.Herald Go.Proofs.Tryz
namespace Go.Proofs.YtmmmnghiegajmaaGreat
theorem Tryz.infoStat:(prog.info? 190).map (fun i=>(i.zero,i.size,i.bytes))=some (some (.agg #[.int .i64 0,.int .i64 0,.int .i64 0,.int .i64 0,.int .i64 0,.int .i64 0]),6,48):=by kernel_rfl
theorem mK {w:World}{B:Nat}{e:TypeId}{size:Nat}{v:Value}{n:Nat}{xs:List Value}(h:w.ownsRow B e size v n xs):w.ownsRow 0 e size v n xs:=by
 refine⟨h.1,?_⟩;rcases h.2 with h2|⟨g,cap,cur,hv,_,r⟩
 .exact .inl h2
 .exact .inr ⟨g,cap,cur,hv,Qa _,r⟩
theorem zl {w:World}{B:Nat}{e:TypeId}{size n g cap:Nat}{xs:List Value}(h:w.ownsRow 0 e size (.slice (some ⟨g,0,none⟩) n cap) n xs)(hB:B<=g):w.ownsRow B e size (.slice (some ⟨g,0,none⟩) n cap) n xs:=by
 refine⟨h.1,?_⟩;rcases h.2 with ⟨h1,_⟩|⟨g',cap',cur,hv,_,r⟩
 .cases h1
 .simp at hv;obtain⟨rfl,rfl⟩:=hv;exact .inr ⟨g,cap,cur,rfl,hB,r⟩
theorem aJ.push {t:ByteArray}{B:Nat}{w W w1:World}{R g cap:Nat}{sv:Value}{st:aD}(x:Nd)(h:aJ t B w R sv st)(h0:ae w W)
  (hown1:w1.ownsRow 0 190 6 (.slice (some ⟨g,0,none⟩) (st.fl.length+1) cap) (st.fl.length+1) (ib st.fl++dR x)) (hgrow:W.grownBy w1 sv.ownBlock) (hat:sv.ownBlock=some g\/g=W.heap.size):
  aJ t B (w1.setCell ⟨R,3,none⟩ (.slice (some ⟨g,0,none⟩) (st.fl.length+1) cap)) R (.slice (some ⟨g,0,none⟩) (st.fl.length+1) cap) {st with fl:=st.fl++[x]} /\
   Below B w (w1.setCell ⟨R,3,none⟩ (.slice (some ⟨g,0,none⟩) (st.fl.length+1) cap))/\w1.heap[R]?=w.heap[R]?:=by
 have hs:=h0.size;have A3:=ak h.blk;have A5:sv.ownBlock≠some R:=fun e=>by obtain⟨_,A1,hc⟩:=kx h.own e;exact aA hc h.blk (by decide) rfl
 have A0:w1.heap[R]?=w.heap[R]?:=iU h0 hgrow A3 A5;have A2:B<=g:=by
  rcases hat with h1|h1
  .exact(kx h.own h1).1
  .have:=h.le;omega
 have A4:g≠R:=by
  obtain⟨A1,hc⟩:=ax hown1 (k:=g) rfl;exact aA hc (A0.trans h.blk) (by decide)
 refine⟨⟨h.le,?_,?_,h.suf⟩,?_,A0⟩
 .rw[cG _ (A0.trans h.blk)];rfl
 .have e1:ib (st.fl++[x])=ib st.fl++dR x:=by simp[ib]
  show World.ownsRow _ B _ 6 _ (st.fl++[x]).length (ib (st.fl++[x]));rw[e1,List.length_append];exact pH (zl hown1 A2) (fun k hk=>by simp[Value.ownBlock]at hk;subst hk;exact q8 _ _ _ _ A4)
 .have hb:Below B w w1:=⟨hgrow.os.trans h0.os,hgrow.tape.trans h0.tape,hgrow.output.trans h0.output,by have:=nw h0 hgrow;omega,fun k hk=>iU h0 hgrow (by have:=h.le;omega) (fun e=>by have:=(kx h.own e).1;omega)⟩;exact hb.setCell (p:=⟨R,3,none⟩) h.le _
theorem zS (t:ByteArray)(ht:t.size<=400)(n:Nat)(blk:aD->Bool×aD)(hblk:nI t n blk)(B R:Nat)(sv:Value)(st:aD)(w:World)(h:aJ t B w R sv st)
  (hn:st.us.length<=n+1) (hd0:0<=st.deep) (hd:st.deep+(st.us.length:Int)<=900) (hm:st.fl.length+st.us.length<=400) (hh0:0<=st.heavy) (hh:st.heavy<=65):
  Calls prog 109 #[.pointer (some ⟨R,0,none⟩)] w fun e w'=>
   e=.returned (.bool (fD t blk st).1)/\(∃ sv',aJ t B w' R sv' (fD t blk st).2)/\Below B w w'/\((fD t blk st).1=true->bY st (fD t blk st).2/\(fD t blk st).2.us.length<st.us.length)/\cr st (fD t blk st).2:=by
 have c1:w.cell? ⟨R,1,none⟩=some (.string (eo t st.us)):=by rw[ag h.blk];rfl
 have c2:w.cell? ⟨R,2,none⟩=some (.int .i64 (bz t st.us:Nat)):=by rw[ag h.blk];rfl
 obtain⟨s,hs⟩:∃ s,s=eo t st.us:=⟨_,rfl⟩;have C5:bS t st=s.data.toList:=by rw[hs];rfl
 rw[<- hs]at c1;obtain⟨kind,B5⟩:∃ k,k=cN s.data.toList:=⟨_,rfl⟩;have B7:=Ay s.data.toList;rw[<- B5]at B7;have HK:Hid (∀ W,Calls prog 124 #[.string s] W fun e w'=>e=.returned (.int .i64 kind)/\w'=W):=fun W=>by rw[B5];exact DI s W
 have HH:=ah h;have A6:¬ kind=0->0<st.us.length:=fun hk=>by
  cases hu:st.us with
  | nil=>
   exfalso;apply hk;rw[B5,hs,hu];have he:(eo t []).data.toList=[]:=rfl;rw[he];decide
  | cons p q=>simp
 have A0:fD t blk st=if kind=0 then (false,st) else
   if (dD t (aL st) kind).2.1 then
    if (db t (dD t (aL st) kind).2.2 kind).2.1 then
     if (ft t (db t (dD t (aL st) kind).2.2 kind).2.2 kind).2.1 then
      if kind=4\/kind=5 then fY t blk {(ft t (db t (dD t (aL st) kind).2.2 kind).2.2 kind).2.2 with fl:=(ft t (db t (dD t (aL st) kind).2.2 kind).2.2 kind).2.2.fl++[{kind:=kind,key:=(db t (dD t (aL st) kind).2.2 kind).1,times:=(dD t (aL st) kind).1,ticks:=(ft t (db t (dD t (aL st) kind).2.2 kind).2.2 kind).1,body:=0,els:=0}]} (ft t (db t (dD t (aL st) kind).2.2 kind).2.2 kind).2.2.fl.length
      else if kind=6 then gC t blk {(ft t (db t (dD t (aL st) kind).2.2 kind).2.2 kind).2.2 with fl:=(ft t (db t (dD t (aL st) kind).2.2 kind).2.2 kind).2.2.fl++[{kind:=kind,key:=(db t (dD t (aL st) kind).2.2 kind).1,times:=(dD t (aL st) kind).1,ticks:=(ft t (db t (dD t (aL st) kind).2.2 kind).2.2 kind).1,body:=0,els:=0}]} (ft t (db t (dD t (aL st) kind).2.2 kind).2.2 kind).2.2.fl.length (dD t (aL st) kind).1 (bz t st.us:Nat)
      else (true,{(ft t (db t (dD t (aL st) kind).2.2 kind).2.2 kind).2.2 with fl:=(ft t (db t (dD t (aL st) kind).2.2 kind).2.2 kind).2.2.fl++[{kind:=kind,key:=(db t (dD t (aL st) kind).2.2 kind).1,times:=(dD t (aL st) kind).1,ticks:=(ft t (db t (dD t (aL st) kind).2.2 kind).2.2 kind).1,body:=0,els:=0}]})
     else (false,(ft t (db t (dD t (aL st) kind).2.2 kind).2.2 kind).2.2)
    else (false,(db t (dD t (aL st) kind).2.2 kind).2.2)
   else (false,(dD t (aL st) kind).2.2):=by
  unfold fD;rw[C5,<- B5]
 obtain⟨P,hP⟩:∃ P,P=bz t st.us:=⟨_,rfl⟩;rw[<- hP]at A0 c2;obtain⟨a,hA⟩:∃ a,a=dD t (aL st) kind:=⟨_,rfl⟩;rw[<- hA]at A0;obtain⟨b,hB⟩:∃ b,b=db t a.2.2 kind:=⟨_,rfl⟩;rw[<- hB]at A0;obtain⟨c,hC⟩:∃ c,c=ft t b.2.2 kind:=⟨_,rfl⟩;rw[<- hC]at A0;have C1:=ah A0;have A4:Hid (br (aL st) a.2.2/\0<=a.1/\a.1<=9999):=by rw[hA];exact uF t (aL st) kind
 have A8:Hid (br a.2.2 b.2.2):=by rw[hB];exact vN t a.2.2 kind
 have B3:Hid (br b.2.2 c.2.2):=by rw[hC];exact uE t b.2.2 kind
 have D0:Hid (∀ W,aJ t B W R sv (aL st)->Calls prog 125 #[.pointer (some ⟨R,0,none⟩),.int .i64 kind] W fun e w'=>e=.returned (.tuple #[.int .i64 a.1,.bool a.2.1])/\aJ t B w' R sv a.2.2/\Below B W w'):=fun W hW=>by rw[hA];exact EI t ht B R sv (aL st) kind W hW
 have D1:Hid (∀ W,aJ t B W R sv a.2.2->Calls prog 126 #[.pointer (some ⟨R,0,none⟩),.int .i64 kind] W fun e w'=>e=.returned (.tuple #[.int .i64 b.1,.bool b.2.1])/\aJ t B w' R sv b.2.2/\Below B W w'):=fun W hW=>by rw[hB];exact Gu t ht B R sv a.2.2 kind W hW
 have D2:Hid (∀ W,aJ t B W R sv b.2.2->Calls prog 127 #[.pointer (some ⟨R,0,none⟩),.int .i64 kind] W fun e w'=>e=.returned (.tuple #[.int .i64 c.1,.bool c.2.1])/\aJ t B w' R sv c.2.2/\Below B W w'):=fun W hW=>by rw[hC];exact EH t ht B R sv b.2.2 kind W hW
 have gr:∀ x,br (aL st) x->cr st x:=fun x hx=>⟨by rw[hx.fl];exact v9 _,by have:=hx.less;have e:(aL st).us.length=st.us.length - 1:=List.length_tail;have e2:(aL st).fl=st.fl:=rfl;rw[hx.fl,e2];omega⟩;have C0:=ah gr;clear hs C5 B5 h A0 hP hA hB hC gr;by_cases hk0:kind=0
 .have HN:Hid (fD t blk st=(false,st)):=C1.trans (if_pos hk0);have e0:(kind==0)=true:=by simp[hk0]
  clear hk0 B7 A6;go_enter func109,ntmps109
  go_wp2_with fail
  refine(HK _).mono ?_;rintro e w' ⟨rfl,B8⟩;rw[B8];clear B8 w';go_wp2_with fail
  go_ret;rw[HN];exact⟨rfl,⟨_,HH⟩,v7 _ _,fun h=>absurd h (by simp),cr.refl _⟩
 .have C2:Hid (_=_):=C1.trans (if_neg hk0);have e0:(kind==0)=false:=by simp[hk0]
  have D9:=A6 hk0;clear A6 C1;go_enter func109,ntmps109
  go_wp2_with fail
  refine(HK _).mono ?_;rintro e w' ⟨rfl,B8⟩;rw[B8];clear B8 w';go_wp2_with fail
  refine(jK t ht B R sv st _ HH).mono ?_;rintro e w1 ⟨rfl,h1,b1⟩;have H1:Hid (aJ t B w1 R sv (aL st)/\Below B w w1):=⟨h1,b1⟩;clear h1 b1;go_wp2_with fail
  refine(D0 _ H1.1).mono ?_;rintro e w2 ⟨rfl,h2,b2⟩;have H2:Hid (aJ t B w2 R sv a.2.2/\Below B w w2):=⟨h2,H1.2.trans b2⟩;clear h2 b2 H1;cases ha1:a.2.1 with
  | false=>
   have A9:Hid (_=_):=C2.trans (if_neg (by rw[ha1];simp));clear ha1;go_wp2_with fail
   go_ret;rw[A9];exact⟨rfl,⟨_,H2.1⟩,H2.2,fun h=>absurd h (by simp),C0 _ A4.1⟩
  | true=>
   have A9:Hid (_=_):=C2.trans (if_pos ha1);clear ha1 C2;go_wp2_with fail
   refine(D1 _ H2.1).mono ?_;rintro e w3 ⟨rfl,h3,b3⟩;have H3:Hid (aJ t B w3 R sv b.2.2/\Below B w w3):=⟨h3,H2.2.trans b3⟩;clear h3 b3 H2;cases hb1:b.2.1 with
   | false=>
    have B0:Hid (_=_):=A9.trans (if_neg (by rw[hb1];simp));clear hb1;go_wp2_with fail
    go_ret;rw[B0];exact⟨rfl,⟨_,H3.1⟩,H3.2,fun h=>absurd h (by simp),C0 _ (A4.1.trans A8)⟩
   | true=>
    have B0:Hid (_=_):=A9.trans (if_pos hb1);clear hb1 A9;go_wp2_with fail
    refine(D2 _ H3.1).mono ?_;rintro e w4 ⟨rfl,h4,b4⟩;have H4:Hid (aJ t B w4 R sv c.2.2/\Below B w w4):=⟨h4,H3.2.trans b4⟩;clear h4 b4 H3;cases hc1:c.2.1 with
    | false=>
     have B1:Hid (_=_):=B0.trans (if_neg (by rw[hc1];simp));clear hc1;go_wp2_with fail
     go_ret;rw[B1];exact⟨rfl,⟨_,H4.1⟩,H4.2,fun h=>absurd h (by simp),C0 _ ((A4.1.trans A8).trans B3)⟩
    | true=>
     have B1:Hid (_=_):=B0.trans (if_pos hc1);clear hc1 B0;obtain⟨a0,A2,C8⟩:=nF H4.1.own;have A7:=H4.1;rw[C8]at A7;have d3:w4.cell? ⟨R,3,none⟩=some (.slice a0 c.2.2.fl.length A2):=by rw[ag A7.blk];rfl
     have A5:c.2.2.fl=st.fl:=((A4.1.trans A8).trans B3).fl;have D7:c.2.2.fl.length<=400:=by rw[A5];omega
     have D8:c.2.2.us.length<=st.us.length - 1:=by have h0:=((A4.1.trans A8).trans B3).less;have e:(aL st).us.length=st.us.length - 1:=List.length_tail;omega
     have C6:c.2.2.deep=st.deep:=((A4.1.trans A8).trans B3).deep;have C7:c.2.2.heavy=st.heavy:=((A4.1.trans A8).trans B3).heavy;have ta:=A4.2;have B6:=mK A7.own;have C4:=ah A7;have A1:Hid (c.2.2.fl=st.fl/\c.2.2.deep=st.deep/\c.2.2.heavy=st.heavy):=⟨A5,C6,C7⟩;have C9:Value.ownBlock (.slice a0 c.2.2.fl.length A2)≠some R:=fun e=>by obtain⟨_,D6,hc⟩:=kx A7.own e;exact aA hc A7.blk (by decide) rfl
     have D5:=ah C9;obtain⟨D3,D4⟩:=ta;clear A7 C8 A5 C6 C7 C9;go_wp2_with (at_builtin;refine jZ _ rfl (.tmp 56) (.tmp 62) 115 rfl 190 _ 6 48 underlying115 Tryz.infoStat rfl (by decide) (by decide) (.slice a0 c.2.2.fl.length A2) _ _ w4.heap.size [.int .i64 kind,.int .i64 b.1,.int .i64 a.1,.int .i64 c.1,.int .i64 0,.int .i64 0] (by rfl) (by exact B6.alloc _) (by exact v8 _ _) (by rfl) rfl (by simp[Value.oneCell']) (by omega) ?_)
     intro g cap w5 hown5 hgrow hat hlt5;obtain⟨p1,p2,p3⟩:=C4.push {kind:=kind,key:=b.1,times:=a.1,ticks:=c.1,body:=0,els:=0} (ae.alloc _ _) hown5 hgrow (by simpa using hat);have y3:w5.cell? ⟨R,3,none⟩=some (.slice a0 c.2.2.fl.length A2):=(World.cell?_of_block p3).trans d3;have E0:w5.frozen? ⟨R,3,none⟩=false:=(World.frozen?_of_block p3).trans (aC C4.blk);have H5:Hid (aJ t B (w5.setCell ⟨R,3,none⟩ (.slice (some ⟨g,0,none⟩) (c.2.2.fl.length+1) cap)) R (.slice (some ⟨g,0,none⟩) (c.2.2.fl.length+1) cap) {c.2.2 with fl:=c.2.2.fl++[{kind:=kind,key:=b.1,times:=a.1,ticks:=c.1,body:=0,els:=0}]}/\Below B w (w5.setCell ⟨R,3,none⟩ (.slice (some ⟨g,0,none⟩) (c.2.2.fl.length+1) cap))):=⟨p1,H4.2.trans p2⟩;have B9:({c.2.2 with fl:=c.2.2.fl++[{kind:=kind,key:=b.1,times:=a.1,ticks:=c.1,body:=0,els:=0}]}:aD).fl.length=st.fl.length+1:=by show(c.2.2.fl++[_]).length=_;rw[List.length_append,A1.1];rfl
     have A3:Hid (bY st {c.2.2 with fl:=c.2.2.fl++[{kind:=kind,key:=b.1,times:=a.1,ticks:=c.1,body:=0,els:=0}]}/\({c.2.2 with fl:=c.2.2.fl++[{kind:=kind,key:=b.1,times:=a.1,ticks:=c.1,body:=0,els:=0}]}:aD).us.length<st.us.length):=⟨⟨A1.2.1,A1.2.2,by rw[B9];omega,by rw[B9];show _+c.2.2.us.length<=_;omega,by show c.2.2.us.length<=_;omega⟩,by show c.2.2.us.length < _;omega⟩;have C3:=ah B9;clear p1 p2 p3 hown5 hgrow hat B6 B9;by_cases h45:kind=4\/kind=5
     .have B2:Hid (_=_):=B1.trans (if_pos h45);have B4:((kind==4)=true)\/((kind==4)=false/\(kind==5)=true):=by
       rcases h45 with h45|h45
       .exact .inl (by simp[h45])
       .exact .inr ⟨by simp[h45],by simp[h45]⟩
      clear h45 B7 hk0;rcases B4 with e4|⟨e4,e5⟩;all_goals
       go_wp2_with fail
       refine(Be t ht n blk hblk B R _ _ c.2.2.fl.length _ H5.1 (by show c.2.2.us.length<=n;omega) (by show 0<=c.2.2.deep;rw[A1.2.1];exact hd0) (by show c.2.2.deep+(c.2.2.us.length:Int)<=900;rw[A1.2.1];omega) (by rw[C3.out];show _+c.2.2.us.length<=400;omega) (by show 0<=c.2.2.heavy;rw[A1.2.2];exact hh0) (by show c.2.2.heavy<=65;rw[A1.2.2];exact hh) (by show _<(c.2.2.fl++[_]).length;simp)).mono ?_;rintro e w6 ⟨rfl,h6,b6,k6,g6⟩;go_wp2_with fail
       go_ret;rw[B2];refine⟨rfl,h6,H5.2.trans b6,fun hh=>?_,A3.1.grown.trans g6⟩;exact⟨A3.1.trans (k6 hh),Nat.lt_of_le_of_lt (k6 hh).less A3.2⟩
     .have e4:(kind==4)=false:=by simp;omega
      have e5:(kind==5)=false:=by simp;omega
      by_cases h6:kind=6
      .have B2:Hid (_=_):=(B1.trans (if_neg h45)).trans (if_pos h6);have e6:(kind==6)=true:=by simp[h6]
       clear h45 h6 B7 hk0;go_wp2_with fail
       refine(Bh t ht n blk hblk B R _ _ c.2.2.fl.length a.1 (P:Nat) _ H5.1 (by show c.2.2.us.length<=n;omega) (by show 0<=c.2.2.deep;rw[A1.2.1];exact hd0) (by show c.2.2.deep+(c.2.2.us.length:Int)<=900;rw[A1.2.1];omega) (by rw[C3.out];show _+c.2.2.us.length<=400;omega) (by show 0<=c.2.2.heavy;rw[A1.2.2];exact hh0) (by show c.2.2.heavy<=65;rw[A1.2.2];exact hh) (by show _<(c.2.2.fl++[_]).length;simp) D3 D4).mono ?_;rintro e w6 ⟨rfl,h6,b6,k6,g6⟩;go_wp2_with fail
       go_ret;rw[B2];refine⟨rfl,h6,H5.2.trans b6,fun hh=>?_,A3.1.grown.trans g6⟩;exact⟨A3.1.trans (k6 hh),Nat.lt_of_le_of_lt (k6 hh).less A3.2⟩
      .have B2:Hid (_=_):=(B1.trans (if_neg h45)).trans (if_neg h6);have e6:(kind==6)=false:=by simp[h6]
       clear h45 h6 B7 hk0;go_wp2_with fail
       go_ret;rw[B2];exact⟨rfl,⟨_,H5.1⟩,H5.2,fun _=>A3,A3.1.grown⟩
theorem sV (t:ByteArray)(ht:t.size<=400)(n:Nat)(blk:aD->Bool×aD)(hblk:nI t n blk)(behind:ByteArray)(B R:Nat)(sv:Value)(st:aD)(w:World)(h:aJ t B w R sv st)
  (hn:st.us.length<=n+1) (hd0:0<=st.deep) (hd:st.deep+(st.us.length:Int)<=900) (hm:st.fl.length+st.us.length<=400) (hh0:0<=st.heavy) (hh:st.heavy<=65):
  Calls prog 84 #[.pointer (some ⟨R,0,none⟩),.string behind] w fun e w'=>
   e=.returned (.bool (ix t (fD t blk) behind.data.toList (st.us.length+1) st).1)/\(∃ sv',aJ t B w' R sv' (ix t (fD t blk) behind.data.toList (st.us.length+1) st).2)/\Below B w w' /\
    ((ix t (fD t blk) behind.data.toList (st.us.length+1) st).1=true->bY st (ix t (fD t blk) behind.data.toList (st.us.length+1) st).2)/\cr st (ix t (fD t blk) behind.data.toList (st.us.length+1) st).2:=by
 obtain⟨Z,hZ⟩:∃ Z,Z=ix t (fD t blk) behind.data.toList (st.us.length+1) st:=⟨_,rfl⟩;rw[<- hZ];have HZ:=ah hZ;have HH:=ah h;clear hZ h;go_enter func84,ntmps84
 go_wp2_with fail
 go_loopg [5] st.us.length (fun g _ wr=>∃ (x:aD) (sx:Value) (f:Nat),g=x.us.length/\x.us.length<f/\aJ t B wr R sx x/\Below B w wr/\bY st x/\Z=ix t (fD t blk) behind.data.toList f x)
 case atStart=>exact⟨st,sv,st.us.length+1,rfl,by omega,HH.out,v7 _ _,⟨rfl,rfl,v9 _,v9 _,v9 _⟩,HZ.out⟩
 case round=>
  obtain⟨x,sx,f,rfl,hf,hx,hb,hk,hz⟩:=hrel;have c1:wr.cell? ⟨R,1,none⟩=some (.string (eo t x.us)):=by rw[ag hx.blk];rfl
  obtain⟨s,hs⟩:∃ s,s=eo t x.us:=⟨_,rfl⟩;have A2:bS t x=s.data.toList:=by rw[hs];rfl
  rw[<- hs]at c1;obtain⟨f',rfl⟩:∃ f',f=f'+1:=⟨f - 1,by omega⟩;rw[ix,A2]at hz;have HX:Hid (aJ t B wr R sx x/\Below B w wr/\bY st x):=⟨hx,hb,hk⟩;by_cases he:s.data.toList=behind.data.toList
  .rw[if_pos he]at hz;have HE:=ah hz;have e0:(s.toList==behind.toList)=true:=by rw[ByteArray.toList_eq,ByteArray.toList_eq,he];simp
   have e1:(s.toList != behind.toList)=false:=by simp[bne,e0]
   clear hs A2 he hz hx hb hk HZ;go_wp2_with fail
   go_ret;rw[HE];exact⟨rfl,⟨_,HX.1⟩,HX.2.1,fun _=>HX.2.2,HX.2.2.grown⟩
  .rw[if_neg he]at hz;have e0:(s.toList==behind.toList)=false:=by rw[ByteArray.toList_eq,ByteArray.toList_eq];simpa using he
   have e1:(s.toList != behind.toList)=true:=by simp[bne,e0]
   have A9:=hk.mass;have A8:=hk.less;have A6:=hk.deep;have A7:=hk.heavy;have A3:=zS t ht n blk hblk B R sx x wr hx (by omega) (by omega) (by omega) (by omega) (by omega) (by omega);obtain⟨q,hq⟩:∃ q,q=fD t blk x:=⟨_,rfl⟩;rw[<- hq]at A3 hz;have A4:=ah A3;have A0:=ah hz;clear hs A2 he hz hx hb hk HZ A3 hq A9 A8 A6 A7;go_wp2_with fail
   refine A4.mono ?_;rintro e w2 ⟨rfl,⟨A5,h2⟩,b2,k2,g2⟩;have H2:Hid (aJ t B w2 R A5 q.2/\Below B w w2/\(q.1=true->bY x q.2/\q.2.us.length<x.us.length)/\cr x q.2):=⟨h2,HX.2.1.trans b2,k2,g2⟩;clear h2 b2 k2 g2 A4;cases hq1:q.1 with
   | true=>
    have A1:Hid (_=_):=A0.trans (if_pos hq1);have B0:=(H2.2.2.1 hq1).2;have HQ:Hid (bY x q.2):=(H2.2.2.1 hq1).1;clear hq1 A0;go_wp2_with fail
    go_roundg q.2.us.length
    case measure=>exact B0
    case rel=>exact⟨q.2,A5,f',rfl,by omega,H2.out.1,H2.out.2.1,HX.out.2.2.trans HQ.out,A1.out⟩
   | false=>
    have A1:Hid (_=_):=A0.trans (if_neg (by rw[hq1];simp));clear hq1 A0;go_wp2_with fail
    go_ret;rw[A1];exact⟨rfl,⟨_,H2.1⟩,H2.2.1,fun h=>absurd h (by simp),HX.2.2.grown.trans H2.2.2.2⟩
theorem xz (t:ByteArray)(ht:t.size<=400):∀ n:Nat,n<=401->nI t n (kK t n dh):=by
 intro n;induction n with
 | zero=>intro _ B R sv st w h;exact absurd h (by omega)
 | succ n ih=>
  intro hn B R sv st w hl hd0 hd hm hh0 hh h;exact sV t ht n (kK t n dh) (ih (by omega)) ⟨#[125]⟩ B R sv st w h (by omega) hd0 hd hm hh0 hh
def nj (t:ByteArray):aD:={us:=(0,0)::gD t 0,fl:=[],deep:=0,heavy:=1,fault:=0,place:=0}
theorem xn (t:ByteArray):aL (nj t)=ja t:=rfl
theorem xE (t:ByteArray)(w:World)(o:Obj)(R:Nat)(hR:R=w.heap.size+1):
  aJ t R ((w.alloc o).alloc (.cells #[.string t,.string ⟨#[]⟩,.int .i64 0,.slice none 0 0,.int .i64 0,.int .i64 1,.int .i64 0,.int .i64 0] 160)) R (.slice none 0 0) (nj t):=by
 subst hR;refine⟨v9 _,?_,Qg _ _ _ _,?_⟩
 .rw[ey];have e:eo t (nj t).us=⟨#[]⟩:=by show t.extract 0 0=_;apply ByteArray.ext;simp
  rw[e];rfl
 .intro p r h;have h':(0,0)::gD t 0=p::r:=h;simp only[List.cons.injEq]at h';obtain⟨rfl,rfl⟩:=h';exact⟨rfl,v9 _,Qa _⟩
theorem aJ.nds {t:ByteArray}{B:Nat}{w:World}{R:Nat}{a:Option Addr}{n cap:Nat}{st:aD}(h:aJ t B w R (.slice a n cap) st):
  n=st.fl.length/\n<=cap/\cap<=maxLen/\∃ g,(0<n->a=some ⟨g,0,none⟩/\g<w.heap.size/\bH w g 0 st.fl):=by
 rcases h.own.2 with ⟨hv,h0⟩|⟨g,c,cur,hv,hb,hg,hn,hm,_⟩
 .simp at hv;obtain⟨_,rfl,rfl⟩:=hv;exact⟨by omega,by omega,by unfold maxLen;omega,0,by omega⟩
 .have A1:=hv;simp at hv;obtain⟨rfl,rfl,rfl⟩:=hv;refine⟨rfl,hn,hm,g,fun _=>⟨rfl,ak hg,fun i hi j u hj=>?_⟩⟩;have hc:=h.own.cells (g:=g) rfl;have A0:j<6:=by
   have:=(List.getElem?_eq_some_iff.mp hj).1;simpa[dR] using this
  have k:=hc (i*6+j) u (by rw[rf _ i hi j A0];exact hj);rw[Addr.add_lit,Nat.zero_add]at k;rw[Nat.zero_add];exact k
theorem zQ (t:ByteArray)(ht:400<t.size)(w:World):
  Calls prog 48 #[.string t] w fun e w'=>(∃ a n cap,e=.returned (.tuple #[.agg #[.slice a n cap,.int .i64 0],.int .i64 1,.int .i64 0]))/\Below w.heap.size w w':=by
 go_enter func48,ntmps48
 go_wp2_with fail
 refine bodyPost_ret (v:=.tuple #[.agg #[.slice none 0 0,.int .i64 0],.int .i64 1,.int .i64 0]) (by simp[results,results48,go_sem]) rfl ⟨⟨_,_,_,rfl⟩,?_⟩;exact(v7 _ _).alloc (v9 _) _
theorem Ff (t:ByteArray)(ht:t.size<=400)(r:Int×Int×Int)(hr:qE t r)(w:World):
  Calls prog 48 #[.string t] w fun e w'=>(∃ a n cap,e=.returned (.tuple #[.agg #[.slice a n cap,.int .i64 r.1],.int .i64 r.2.1,.int .i64 r.2.2]))/\Below w.heap.size w w':=by
 have B2:(ja t).us.length<=400:=by
  have h2:=ky t.data.toList;have h3:t.data.toList.length=t.size:=by simp
  show(dC t.data.toList).length<=400;omega
 obtain⟨E,hE⟩:∃ E,E=dZ t:=⟨_,rfl⟩;have A1:Hid (∀ o,aJ t (w.heap.size+1) ((w.alloc o).alloc (.cells #[.string t,.string ⟨#[]⟩,.int .i64 0,.slice none 0 0,.int .i64 0,.int .i64 1,.int .i64 0,.int .i64 0] 160)) (w.heap.size+1) (.slice none 0 0) (nj t)):=fun o=>xE t w o _ rfl;have A0:Hid (∀ W,aJ t (w.heap.size+1) W (w.heap.size+1) (.slice none 0 0) (ja t)->Calls prog 84 #[.pointer (some ⟨w.heap.size+1,0,none⟩),.string ⟨#[]⟩] W fun e w'=>
   e=.returned (.bool E.1)/\(∃ sv',aJ t (w.heap.size+1) w' (w.heap.size+1) sv' E.2)/\Below (w.heap.size+1) W w'):=fun W hW=>by
  rw[hE];refine(sV t ht 401 (kK t 401 dh) (xz t ht 401 (by omega)) ⟨#[]⟩ (w.heap.size+1) (w.heap.size+1) _ (ja t) W hW (by omega) (by show(0:Int)<=0;omega) (by show(0:Int)+_<=900;omega) (by show 0+_<=400;omega) (by show(0:Int)<=1;omega) (by show(1:Int)<=65;omega)).mono ?_;rintro e w' ⟨h1,h2,h3,_⟩;exact⟨h1,h2,h3⟩
 have HR:=ah hr;have HE:=ah hE;clear hr hE B2;have B0:Hid (∀ o1 o2,Below w.heap.size w ((w.alloc o1).alloc o2)):=fun o1 o2=>((v7 _ _).alloc (v9 _) _).alloc (by simp) _;go_enter func48,ntmps48
 go_wp2_with fail
 refine(jK t ht _ _ _ (nj t) _ (A1 _)).mono ?_;rintro e w1 ⟨rfl,h1,A5⟩;rw[xn]at h1;have A9:Hid (Below w.heap.size w w1):=(B0 _ _).trans (A5.mono (by simp));have H1:=ah h1;have A8:Hid (w1.heap[w.heap.size]?=some (.cells #[.slice none 0 0,.int .i64 0] 117)):=by
  show _=_;rw[A5.block w.heap.size (by omega),q9 _ _ _ (by simp)];exact v8 _ _
 clear h1 A5;go_wp2_with fail
 refine(A0 _ H1).mono ?_;rintro e w2 ⟨rfl,⟨sv,h2⟩,A6⟩;obtain⟨a,cap,B1⟩:=nF h2.own;subst B1;have A2:Hid (Below w.heap.size w w2):=A9.trans (A6.mono (by omega));have H2:=ah h2;have c2:w2.cell? ⟨w.heap.size+1,2,none⟩=some (.int .i64 (bz t E.2.us:Nat)):=(ag h2.blk).trans rfl;have c3:w2.cell? ⟨w.heap.size+1,3,none⟩=some (.slice a E.2.fl.length cap):=(ag h2.blk).trans rfl;have c6:w2.cell? ⟨w.heap.size+1,6,none⟩=some (.int .i64 E.2.fault):=(ag h2.blk).trans rfl;have c7:w2.cell? ⟨w.heap.size+1,7,none⟩=some (.int .i64 E.2.place):=(ag h2.blk).trans rfl;have g2:w2.heap[w.heap.size]?=some (.cells #[.slice none 0 0,.int .i64 0] 117):=(A6.block _ (by omega)).trans A8.out;have A4:=ah g2;have d0:w2.cell? ⟨w.heap.size,0,none⟩=some (.slice none 0 0):=(ag g2).trans rfl;have d1:w2.cell? ⟨w.heap.size,1,none⟩=some (.int .i64 0):=(ag g2).trans rfl;have y0:w2.frozen? ⟨w.heap.size,0,none⟩=false:=aC g2;have y1:w2.frozen? ⟨w.heap.size,1,none⟩=false:=aC g2;clear h2 A6 A0 H1 A1 g2 A8;have hr:=HR.out;unfold qE at hr;rw[<- HE]at hr;clear HR HE;rcases hr with ⟨hf,rfl⟩|⟨hf,hne,rfl⟩|⟨hf,h0,tr,hfl,hgood,hsz,hr⟩
 .rw[hf];go_wp2_with fail
  go_region;all_goals
   go_wp2_with fail
   refine bodyPost_ret (v:=.tuple #[.agg #[.slice none 0 0,.int .i64 0],.int .i64 2,.int .i64 (bz t E.2.us:Nat)]) (by simp[results,results48,go_sem,d0,d1]) rfl ⟨⟨_,_,_,rfl⟩,?_⟩;exact((A2.setCell (p:=⟨w.heap.size,0,none⟩) (v9 _) _).setCell (p:=⟨w.heap.size,1,none⟩) (v9 _) _).drew
 .rw[hf];have e0:(E.2.fault==0)=false:=by simpa using hne
  have e1:(E.2.fault != 0)=true:=by simpa using hne
  clear hne hf;go_wp2_with fail
  go_region;all_goals
   go_wp2_with fail
   refine bodyPost_ret (v:=.tuple #[.agg #[.slice none 0 0,.int .i64 0],.int .i64 E.2.fault,.int .i64 E.2.place]) (by simp[results,results48,go_sem,d0,d1]) rfl ⟨⟨_,_,_,rfl⟩,?_⟩;exact((A2.setCell (p:=⟨w.heap.size,0,none⟩) (v9 _) _).setCell (p:=⟨w.heap.size,1,none⟩) (v9 _) _).drew
 .rw[hf];obtain⟨n1,n2,n3,g,n4⟩:=H2.nds;have HL:Hid (Calls prog 85 #[.slice a E.2.fl.length cap] w2 fun e w'=>e=.returned (.int .i64 (cu (bE t 5 tr).1 (bE t 5 tr).2))/\Below w2.heap.size w2 w'):=
   uh t 5 tr a g 0 cap E.2.fl.length w2 (by rw[hfl]) hgood hsz (by omega) n2 n3 (fun h=>⟨(n4 h).1,(n4 h).2.1,by rw[<- hfl];exact(n4 h).2.2⟩)
  rw[h0]at c6;clear n1 n2 n3 n4 hfl hgood hsz h0 hf;generalize cu (bE t 5 tr).1 (bE t 5 tr).2=M at *;go_wp2_with fail
  refine HL.mono ?_;rintro e w3 ⟨rfl,A3⟩;have B3:w3.cell? ⟨w.heap.size+1,3,none⟩=some (.slice a E.2.fl.length cap):=by
   rw[World.cell?_of_block (A3.block (w.heap.size+1) (ak H2.blk))];exact c3
  have A7:Hid (Below w.heap.size w w3):=A2.trans (A3.mono A2.size);have g3:w3.heap[w.heap.size]?=some (.cells #[.slice none 0 0,.int .i64 0] 117):=(A3.block _ (ak A4)).trans A4;clear d0 d1 y0 y1 A3 c2 c3 c6 c7;have d0:w3.cell? ⟨w.heap.size,0,none⟩=some (.slice none 0 0):=(ag g3).trans rfl;have d1:w3.cell? ⟨w.heap.size,1,none⟩=some (.int .i64 0):=(ag g3).trans rfl;have y0:w3.frozen? ⟨w.heap.size,0,none⟩=false:=aC g3;have y1:w3.frozen? ⟨w.heap.size,1,none⟩=false:=aC g3;clear g3 A4;rcases hr with ⟨hl,rfl⟩|⟨hl,rfl⟩
  .go_wp2_with fail
   refine bodyPost_ret (v:=.tuple #[.agg #[.slice none 0 0,.int .i64 0],.int .i64 6,.int .i64 0]) (by simp[results,results48,go_sem,d0,d1]) rfl ⟨⟨_,_,_,rfl⟩,?_⟩;exact(A7.setCell (p:=⟨w.heap.size,0,none⟩) (v9 _) _).setCell (p:=⟨w.heap.size,1,none⟩) (v9 _) _
  .go_wp2_with fail
   refine bodyPost_ret (v:=.tuple #[.agg #[.slice a E.2.fl.length cap,.int .i64 M],.int .i64 0,.int .i64 0]) (by simp[results,results48,go_sem,d0,d1]) rfl ⟨⟨_,_,_,rfl⟩,?_⟩;exact(A7.setCell (p:=⟨w.heap.size,0,none⟩) (v9 _) _).setCell (p:=⟨w.heap.size,1,none⟩) (v9 _) _
end Go.Proofs.YtmmmnghiegajmaaGreat
