import Derived.Test.YtmmmnghiegajmaaGreatM36
import Derived.Deep.LoopGhost
import Derived.Test.YtmmmnghiegajmaaGreatM04
import Derived.OwnWalk
import Derived.Test.YtmmmnghiegajmaaGreatM34
set_option maxHeartbeats 4000000
namespace Go.Proofs.YtmmmnghiegajmaaGreat
open Go.RowKit Go.Proofs.Herald
theorem Tryz.infoStat:(Tryz.prog.info? 190).map (fun i=>(i.zero,i.size,i.bytes))=some (some (.agg #[.int .i64 0,.int .i64 0,.int .i64 0,.int .i64 0,.int .i64 0,.int .i64 0]),6,48):=by kernel_rfl
theorem zct {w:World}{B:Nat}{e:TypeId}{size:Nat}{v:Value}{n:Nat}{xs:List Value}(h:w.ownsRow B e size v n xs):w.ownsRow 0 e size v n xs:=by
 refine ⟨h.1,?_⟩
 rcases h.2 with h2|⟨g,cap,cur,hv,_,r⟩
 .exact .inl h2
 .exact .inr ⟨g,cap,cur,hv,Nat.zero_le _,r⟩
theorem zjz {w:World}{B:Nat}{e:TypeId}{size n g cap:Nat}{xs:List Value}(h:w.ownsRow 0 e size (.slice (some ⟨g,0,none⟩) n cap) n xs)(hB:B<=g):w.ownsRow B e size (.slice (some ⟨g,0,none⟩) n cap) n xs:=by
 refine ⟨h.1,?_⟩
 rcases h.2 with ⟨h1,_⟩|⟨g',cap',cur,hv,_,r⟩
 .cases h1
 .simp at hv
  obtain ⟨rfl,rfl⟩:=hv
  exact .inr ⟨g,cap,cur,rfl,hB,r⟩
theorem RdAt.push {t:ByteArray}{B:Nat}{w W w1:World}{R g cap:Nat}{sv:Value}{st:RSt}(x:Nd)(h:RdAt t B w R sv st)(h0:OneMore w W)
  (hown1:w1.ownsRow 0 190 6 (.slice (some ⟨g,0,none⟩) (st.fl.length+1) cap) (st.fl.length+1) (zbJ st.fl++zaX x)) (hgrow:W.grownBy w1 sv.ownBlock) (hat:sv.ownBlock=some g\/g=W.heap.size):
  RdAt t B (w1.setCell ⟨R,3,none⟩ (.slice (some ⟨g,0,none⟩) (st.fl.length+1) cap)) R (.slice (some ⟨g,0,none⟩) (st.fl.length+1) cap) {st with fl:=st.fl++[x]} /\
   Below B w (w1.setCell ⟨R,3,none⟩ (.slice (some ⟨g,0,none⟩) (st.fl.length+1) cap))/\w1.heap[R]?=w.heap[R]?:=by
 have hs:=h0.size
 have hRl:=zae h.blk
 have hvR:sv.ownBlock≠some R:=fun e=>by obtain ⟨_,cur,hc⟩:=zbo h.own e;exact zac hc h.blk (by decide) rfl
 have hR1:w1.heap[R]?=w.heap[R]?:=zbs h0 hgrow hRl hvR
 have hBg:B<=g:=by
  rcases hat with h1|h1
  .exact (zbo h.own h1).1
  .have:=h.le;omega
 have hgR:g≠R:=by
  obtain ⟨cur,hc⟩:=zad hown1 (k:=g) rfl
  exact zac hc (hR1.trans h.blk) (by decide)
 refine ⟨⟨h.le,?_,?_,h.suf⟩,?_,hR1⟩
 .rw [zah _ (hR1.trans h.blk)];rfl
 .have e1:zbJ (st.fl++[x])=zbJ st.fl++zaX x:=by simp [zbJ]
  show World.ownsRow _ B _ 6 _ (st.fl++[x]).length (zbJ (st.fl++[x]))
  rw [e1,List.length_append]
  exact zdZ (zjz hown1 hBg) (fun k hk=>by simp [Value.ownBlock] at hk;subst hk;exact Below.heap_setCell _ _ _ _ hgR)
 .have hb:Below B w w1:=⟨hgrow.os.trans h0.os,hgrow.tape.trans h0.tape,hgrow.output.trans h0.output,by have:=zdI h0 hgrow;omega,fun k hk=>zbs h0 hgrow (by have:=h.le;omega) (fun e=>by have:=(zbo h.own e).1;omega)⟩
  exact hb.setCell (p:=⟨R,3,none⟩) h.le _
theorem zj9 (t:ByteArray)(ht:t.size<=400)(n:Nat)(blk:RSt->Bool×RSt)(hblk:zf9 t n blk)(B R:Nat)(sv:Value)(st:RSt)(w:World)(h:RdAt t B w R sv st)
  (hn:st.us.length<=n+1) (hd0:0<=st.deep) (hd:st.deep+(st.us.length:Int)<=900) (hm:st.fl.length+st.us.length<=400) (hh0:0<=st.heavy) (hh:st.heavy<=65):
  Calls Tryz.prog 109 #[.pointer (some ⟨R,0,none⟩)] w fun e w'=>
   e=.returned (.bool (zaL t blk st).1)/\(∃ sv',RdAt t B w' R sv' (zaL t blk st).2)/\Below B w w'/\((zaL t blk st).1=true->Keeps st (zaL t blk st).2/\(zaL t blk st).2.us.length<st.us.length)/\Grows st (zaL t blk st).2:=by
 have c1:w.cell? ⟨R,1,none⟩=some (.string (zcf t st.us)):=by rw [zaa h.blk];rfl
 have c2:w.cell? ⟨R,2,none⟩=some (.int .i64 (atR t st.us:Nat)):=by rw [zaa h.blk];rfl
 obtain ⟨s,hs⟩:∃ s,s=zcf t st.us:=⟨_,rfl⟩
 have hby:zaD t st=s.data.toList:=by rw [hs];rfl
 rw [<- hs] at c1
 obtain ⟨kind,hkd⟩:∃ k,k=zbu s.data.toList:=⟨_,rfl⟩
 have hrg:=zku s.data.toList
 rw [<- hkd] at hrg
 have HK:Hid (∀ W,Calls Tryz.prog 124 #[.string s] W fun e w'=>e=.returned (.int .i64 kind)/\w'=W):=fun W=>by rw [hkd];exact zoo s W
 have HH:=zHd h
 have hpos:¬ kind=0->0<st.us.length:=fun hk=>by
  cases hu:st.us with
  | nil=>
   exfalso
   apply hk
   rw [hkd,hs,hu]
   have he:(zcf t []).data.toList=[]:=rfl
   rw [he];decide
  | cons p q=>simp
 have hst0:zaL t blk st=if kind=0 then (false,st) else
   if (za8 t (za4 st) kind).2.1 then
    if (zdt t (za8 t (za4 st) kind).2.2 kind).2.1 then
     if (zb1 t (zdt t (za8 t (za4 st) kind).2.2 kind).2.2 kind).2.1 then
      if kind=4\/kind=5 then zba t blk {(zb1 t (zdt t (za8 t (za4 st) kind).2.2 kind).2.2 kind).2.2 with fl:=(zb1 t (zdt t (za8 t (za4 st) kind).2.2 kind).2.2 kind).2.2.fl++[{kind:=kind,key:=(zdt t (za8 t (za4 st) kind).2.2 kind).1,times:=(za8 t (za4 st) kind).1,ticks:=(zb1 t (zdt t (za8 t (za4 st) kind).2.2 kind).2.2 kind).1,body:=0,els:=0}]} (zb1 t (zdt t (za8 t (za4 st) kind).2.2 kind).2.2 kind).2.2.fl.length
      else if kind=6 then zbg t blk {(zb1 t (zdt t (za8 t (za4 st) kind).2.2 kind).2.2 kind).2.2 with fl:=(zb1 t (zdt t (za8 t (za4 st) kind).2.2 kind).2.2 kind).2.2.fl++[{kind:=kind,key:=(zdt t (za8 t (za4 st) kind).2.2 kind).1,times:=(za8 t (za4 st) kind).1,ticks:=(zb1 t (zdt t (za8 t (za4 st) kind).2.2 kind).2.2 kind).1,body:=0,els:=0}]} (zb1 t (zdt t (za8 t (za4 st) kind).2.2 kind).2.2 kind).2.2.fl.length (za8 t (za4 st) kind).1 (atR t st.us:Nat)
      else (true,{(zb1 t (zdt t (za8 t (za4 st) kind).2.2 kind).2.2 kind).2.2 with fl:=(zb1 t (zdt t (za8 t (za4 st) kind).2.2 kind).2.2 kind).2.2.fl++[{kind:=kind,key:=(zdt t (za8 t (za4 st) kind).2.2 kind).1,times:=(za8 t (za4 st) kind).1,ticks:=(zb1 t (zdt t (za8 t (za4 st) kind).2.2 kind).2.2 kind).1,body:=0,els:=0}]})
     else (false,(zb1 t (zdt t (za8 t (za4 st) kind).2.2 kind).2.2 kind).2.2)
    else (false,(zdt t (za8 t (za4 st) kind).2.2 kind).2.2)
   else (false,(za8 t (za4 st) kind).2.2):=by
  unfold zaL
  rw [hby,<- hkd]
 obtain ⟨P,hP⟩:∃ P,P=atR t st.us:=⟨_,rfl⟩
 rw [<- hP] at hst0 c2
 obtain ⟨a,hA⟩:∃ a,a=za8 t (za4 st) kind:=⟨_,rfl⟩
 rw [<- hA] at hst0
 obtain ⟨b,hB⟩:∃ b,b=zdt t a.2.2 kind:=⟨_,rfl⟩
 rw [<- hB] at hst0
 obtain ⟨c,hC⟩:∃ c,c=zb1 t b.2.2 kind:=⟨_,rfl⟩
 rw [<- hC] at hst0
 have HN0:=zHd hst0
 have HSa:Hid (Same4 (za4 st) a.2.2/\0<=a.1/\a.1<=9999):=by rw [hA];exact zhD t (za4 st) kind
 have HSb:Hid (Same4 a.2.2 b.2.2):=by rw [hB];exact zjm t a.2.2 kind
 have HSc:Hid (Same4 b.2.2 c.2.2):=by rw [hC];exact zhC t b.2.2 kind
 have HCa:Hid (∀ W,RdAt t B W R sv (za4 st)->Calls Tryz.prog 125 #[.pointer (some ⟨R,0,none⟩),.int .i64 kind] W fun e w'=>e=.returned (.tuple #[.int .i64 a.1,.bool a.2.1])/\RdAt t B w' R sv a.2.2/\Below B W w'):=fun W hW=>by rw [hA];exact zpv t ht B R sv (za4 st) kind W hW
 have HCb:Hid (∀ W,RdAt t B W R sv a.2.2->Calls Tryz.prog 126 #[.pointer (some ⟨R,0,none⟩),.int .i64 kind] W fun e w'=>e=.returned (.tuple #[.int .i64 b.1,.bool b.2.1])/\RdAt t B w' R sv b.2.2/\Below B W w'):=fun W hW=>by rw [hB];exact zqY t ht B R sv a.2.2 kind W hW
 have HCc:Hid (∀ W,RdAt t B W R sv b.2.2->Calls Tryz.prog 127 #[.pointer (some ⟨R,0,none⟩),.int .i64 kind] W fun e w'=>e=.returned (.tuple #[.int .i64 c.1,.bool c.2.1])/\RdAt t B w' R sv c.2.2/\Below B W w'):=fun W hW=>by rw [hC];exact zpu t ht B R sv b.2.2 kind W hW
 have gr:∀ x,Same4 (za4 st) x->Grows st x:=fun x hx=>⟨by rw [hx.fl];exact Nat.le_refl _,by have:=hx.less;have e:(za4 st).us.length=st.us.length - 1:=List.length_tail;have e2:(za4 st).fl=st.fl:=rfl;rw [hx.fl,e2];omega⟩
 have HGR:=zHd gr
 clear hs hby hkd h hst0 hP hA hB hC gr
 by_cases hk0:kind=0
 .have HN:Hid (zaL t blk st=(false,st)):=HN0.out.trans (if_pos hk0)
  have e0:(kind==0)=true:=by simp [hk0]
  clear hk0 hrg hpos
  go_enter Tryz.func109,Tryz.ntmps109
  go_wp2_with fail
  refine (HK.out _).mono ?_
  rintro e w' ⟨rfl,hw'⟩
  rw [hw']
  clear hw' w'
  go_wp2_with fail
  go_ret
  rw [HN.out]
  exact ⟨rfl,⟨_,HH.out⟩,Below.refl _ _,fun h=>absurd h (by simp),Grows.refl _⟩
 .have HN1:Hid (_=_):=HN0.out.trans (if_neg hk0)
  have e0:(kind==0)=false:=by simp [hk0]
  have hup:=hpos hk0
  clear hpos HN0
  go_enter Tryz.func109,Tryz.ntmps109
  go_wp2_with fail
  refine (HK.out _).mono ?_
  rintro e w' ⟨rfl,hw'⟩
  rw [hw']
  clear hw' w'
  go_wp2_with fail
  refine (zb2 t ht B R sv st _ HH.out).mono ?_
  rintro e w1 ⟨rfl,h1,b1⟩
  have H1:Hid (RdAt t B w1 R sv (za4 st)/\Below B w w1):=⟨h1,b1⟩
  clear h1 b1
  go_wp2_with fail
  refine (HCa.out _ H1.out.1).mono ?_
  rintro e w2 ⟨rfl,h2,b2⟩
  have H2:Hid (RdAt t B w2 R sv a.2.2/\Below B w w2):=⟨h2,H1.out.2.trans b2⟩
  clear h2 b2 H1
  cases ha1:a.2.1 with
  | false=>
   have HN2:Hid (_=_):=HN1.out.trans (if_neg (by rw [ha1];simp))
   clear ha1
   go_wp2_with fail
   go_ret
   rw [HN2.out]
   exact ⟨rfl,⟨_,H2.out.1⟩,H2.out.2,fun h=>absurd h (by simp),HGR.out _ HSa.out.1⟩
  | true=>
   have HN2:Hid (_=_):=HN1.out.trans (if_pos ha1)
   clear ha1 HN1
   go_wp2_with fail
   refine (HCb.out _ H2.out.1).mono ?_
   rintro e w3 ⟨rfl,h3,b3⟩
   have H3:Hid (RdAt t B w3 R sv b.2.2/\Below B w w3):=⟨h3,H2.out.2.trans b3⟩
   clear h3 b3 H2
   cases hb1:b.2.1 with
   | false=>
    have HN3:Hid (_=_):=HN2.out.trans (if_neg (by rw [hb1];simp))
    clear hb1
    go_wp2_with fail
    go_ret
    rw [HN3.out]
    exact ⟨rfl,⟨_,H3.out.1⟩,H3.out.2,fun h=>absurd h (by simp),HGR.out _ (HSa.out.1.trans HSb.out)⟩
   | true=>
    have HN3:Hid (_=_):=HN2.out.trans (if_pos hb1)
    clear hb1 HN2
    go_wp2_with fail
    refine (HCc.out _ H3.out.1).mono ?_
    rintro e w4 ⟨rfl,h4,b4⟩
    have H4:Hid (RdAt t B w4 R sv c.2.2/\Below B w w4):=⟨h4,H3.out.2.trans b4⟩
    clear h4 b4 H3
    cases hc1:c.2.1 with
    | false=>
     have HN4:Hid (_=_):=HN3.out.trans (if_neg (by rw [hc1];simp))
     clear hc1
     go_wp2_with fail
     go_ret
     rw [HN4.out]
     exact ⟨rfl,⟨_,H4.out.1⟩,H4.out.2,fun h=>absurd h (by simp),HGR.out _ ((HSa.out.1.trans HSb.out).trans HSc.out)⟩
    | true=>
     have HN4:Hid (_=_):=HN3.out.trans (if_pos hc1)
     clear hc1 HN3
     obtain ⟨a0,cap0,hsv⟩:=zeg H4.out.1.own
     have hrd:=H4.out.1
     rw [hsv] at hrd
     have d3:w4.cell? ⟨R,3,none⟩=some (.slice a0 c.2.2.fl.length cap0):=by rw [zaa hrd.blk];rfl
     have hflc:c.2.2.fl=st.fl:=((HSa.out.1.trans HSb.out).trans HSc.out).fl
     have hlc:c.2.2.fl.length<=400:=by rw [hflc];omega
     have huc:c.2.2.us.length<=st.us.length - 1:=by have h0:=((HSa.out.1.trans HSb.out).trans HSc.out).less;have e:(za4 st).us.length=st.us.length - 1:=List.length_tail;omega
     have hdc:c.2.2.deep=st.deep:=((HSa.out.1.trans HSb.out).trans HSc.out).deep
     have hhc:c.2.2.heavy=st.heavy:=((HSa.out.1.trans HSb.out).trans HSc.out).heavy
     have ta:=HSa.out.2
     have hown:=zct hrd.own
     have HRD:=zHd hrd
     have HFL:Hid (c.2.2.fl=st.fl/\c.2.2.deep=st.deep/\c.2.2.heavy=st.heavy):=⟨hflc,hdc,hhc⟩
     have hvR:Value.ownBlock (.slice a0 c.2.2.fl.length cap0)≠some R:=fun e=>by obtain ⟨_,cur,hc⟩:=zbo hrd.own e;exact zac hc hrd.blk (by decide) rfl
     have HVR:=zHd hvR
     obtain ⟨ta0,ta1⟩:=ta
     clear hrd hsv hflc hdc hhc hvR
     go_wp2_with (at_builtin;refine za7 _ rfl (.tmp 56) (.tmp 62) 115 rfl 190 _ 6 48 Tryz.underlying115 Tryz.infoStat rfl (by decide) (by decide) (.slice a0 c.2.2.fl.length cap0) _ _ w4.heap.size [.int .i64 kind,.int .i64 b.1,.int .i64 a.1,.int .i64 c.1,.int .i64 0,.int .i64 0] (by rfl) (by exact hown.alloc _) (by exact heap_alloc_new _ _) (by rfl) rfl (by simp [Value.oneCell']) (by omega) ?_)
     intro g cap w5 hown5 hgrow hat hlt5
     obtain ⟨p1,p2,p3⟩:=HRD.out.push {kind:=kind,key:=b.1,times:=a.1,ticks:=c.1,body:=0,els:=0} (OneMore.alloc _ _) hown5 hgrow (by simpa using hat)
     have y3:w5.cell? ⟨R,3,none⟩=some (.slice a0 c.2.2.fl.length cap0):=(World.cell?_of_block p3).trans d3
     have y3z:w5.frozen? ⟨R,3,none⟩=false:=(World.frozen?_of_block p3).trans (zab HRD.out.blk)
     have H5:Hid (RdAt t B (w5.setCell ⟨R,3,none⟩ (.slice (some ⟨g,0,none⟩) (c.2.2.fl.length+1) cap)) R (.slice (some ⟨g,0,none⟩) (c.2.2.fl.length+1) cap) {c.2.2 with fl:=c.2.2.fl++[{kind:=kind,key:=b.1,times:=a.1,ticks:=c.1,body:=0,els:=0}]}/\Below B w (w5.setCell ⟨R,3,none⟩ (.slice (some ⟨g,0,none⟩) (c.2.2.fl.length+1) cap))):=⟨p1,H4.out.2.trans p2⟩
     have hl5:({c.2.2 with fl:=c.2.2.fl++[{kind:=kind,key:=b.1,times:=a.1,ticks:=c.1,body:=0,els:=0}]}:RSt).fl.length=st.fl.length+1:=by show (c.2.2.fl++[_]).length=_;rw [List.length_append,HFL.out.1];rfl
     have HK5:Hid (Keeps st {c.2.2 with fl:=c.2.2.fl++[{kind:=kind,key:=b.1,times:=a.1,ticks:=c.1,body:=0,els:=0}]}/\({c.2.2 with fl:=c.2.2.fl++[{kind:=kind,key:=b.1,times:=a.1,ticks:=c.1,body:=0,els:=0}]}:RSt).us.length<st.us.length):=⟨⟨HFL.out.2.1,HFL.out.2.2,by rw [hl5];omega,by rw [hl5];show _+c.2.2.us.length<=_;omega,by show c.2.2.us.length<=_;omega⟩,by show c.2.2.us.length < _;omega⟩
     have HL5:=zHd hl5
     clear p1 p2 p3 hown5 hgrow hat hown hl5
     by_cases h45:kind=4\/kind=5
     .have HN5:Hid (_=_):=HN4.out.trans (if_pos h45)
      have hcase:((kind==4)=true)\/((kind==4)=false/\(kind==5)=true):=by
       rcases h45 with h45|h45
       .exact .inl (by simp [h45])
       .exact .inr ⟨by simp [h45],by simp [h45]⟩
      clear h45 hrg hk0
      rcases hcase with e4|⟨e4,e5⟩
      all_goals
       go_wp2_with fail
       refine (zlS t ht n blk hblk B R _ _ c.2.2.fl.length _ H5.out.1 (by show c.2.2.us.length<=n;omega) (by show 0<=c.2.2.deep;rw [HFL.out.2.1];exact hd0) (by show c.2.2.deep+(c.2.2.us.length:Int)<=900;rw [HFL.out.2.1];omega) (by rw [HL5.out];show _+c.2.2.us.length<=400;omega) (by show 0<=c.2.2.heavy;rw [HFL.out.2.2];exact hh0) (by show c.2.2.heavy<=65;rw [HFL.out.2.2];exact hh) (by show _<(c.2.2.fl++[_]).length;simp)).mono ?_
       rintro e w6 ⟨rfl,h6,b6,k6,g6⟩
       go_wp2_with fail
       go_ret
       rw [HN5.out]
       refine ⟨rfl,h6,H5.out.2.trans b6,fun hh=>?_,HK5.out.1.grown.trans g6⟩
       exact ⟨HK5.out.1.trans (k6 hh),Nat.lt_of_le_of_lt (k6 hh).less HK5.out.2⟩
     .have e4:(kind==4)=false:=by simp;omega
      have e5:(kind==5)=false:=by simp;omega
      by_cases h6:kind=6
      .have HN5:Hid (_=_):=(HN4.out.trans (if_neg h45)).trans (if_pos h6)
       have e6:(kind==6)=true:=by simp [h6]
       clear h45 h6 hrg hk0
       go_wp2_with fail
       refine (zlV t ht n blk hblk B R _ _ c.2.2.fl.length a.1 (P:Nat) _ H5.out.1 (by show c.2.2.us.length<=n;omega) (by show 0<=c.2.2.deep;rw [HFL.out.2.1];exact hd0) (by show c.2.2.deep+(c.2.2.us.length:Int)<=900;rw [HFL.out.2.1];omega) (by rw [HL5.out];show _+c.2.2.us.length<=400;omega) (by show 0<=c.2.2.heavy;rw [HFL.out.2.2];exact hh0) (by show c.2.2.heavy<=65;rw [HFL.out.2.2];exact hh) (by show _<(c.2.2.fl++[_]).length;simp) ta0 ta1).mono ?_
       rintro e w6 ⟨rfl,h6,b6,k6,g6⟩
       go_wp2_with fail
       go_ret
       rw [HN5.out]
       refine ⟨rfl,h6,H5.out.2.trans b6,fun hh=>?_,HK5.out.1.grown.trans g6⟩
       exact ⟨HK5.out.1.trans (k6 hh),Nat.lt_of_le_of_lt (k6 hh).less HK5.out.2⟩
      .have HN5:Hid (_=_):=(HN4.out.trans (if_neg h45)).trans (if_neg h6)
       have e6:(kind==6)=false:=by simp [h6]
       clear h45 h6 hrg hk0
       go_wp2_with fail
       go_ret
       rw [HN5.out]
       exact ⟨rfl,⟨_,H5.out.1⟩,H5.out.2,fun _=>HK5.out,HK5.out.1.grown⟩
open Go.RowKit Go.Proofs.Herald
theorem zj7 (t:ByteArray)(ht:t.size<=400)(n:Nat)(blk:RSt->Bool×RSt)(hblk:zf9 t n blk)(behind:ByteArray)(B R:Nat)(sv:Value)(st:RSt)(w:World)(h:RdAt t B w R sv st)
  (hn:st.us.length<=n+1) (hd0:0<=st.deep) (hd:st.deep+(st.us.length:Int)<=900) (hm:st.fl.length+st.us.length<=400) (hh0:0<=st.heavy) (hh:st.heavy<=65):
  Calls Tryz.prog 84 #[.pointer (some ⟨R,0,none⟩),.string behind] w fun e w'=>
   e=.returned (.bool (zed t (zaL t blk) behind.data.toList (st.us.length+1) st).1)/\(∃ sv',RdAt t B w' R sv' (zed t (zaL t blk) behind.data.toList (st.us.length+1) st).2)/\Below B w w' /\
    ((zed t (zaL t blk) behind.data.toList (st.us.length+1) st).1=true->Keeps st (zed t (zaL t blk) behind.data.toList (st.us.length+1) st).2)/\Grows st (zed t (zaL t blk) behind.data.toList (st.us.length+1) st).2:=by
 obtain ⟨Z,hZ⟩:∃ Z,Z=zed t (zaL t blk) behind.data.toList (st.us.length+1) st:=⟨_,rfl⟩
 rw [<- hZ]
 have HZ:=zHd hZ
 have HH:=zHd h
 clear hZ h
 go_enter Tryz.func84,Tryz.ntmps84
 go_wp2_with fail
 go_loopg [5] st.us.length (fun g _ wr=>∃ (x:RSt) (sx:Value) (f:Nat),g=x.us.length/\x.us.length<f/\RdAt t B wr R sx x/\Below B w wr/\Keeps st x/\Z=zed t (zaL t blk) behind.data.toList f x)
 case atStart=>exact ⟨st,sv,st.us.length+1,rfl,by omega,HH.out,Below.refl _ _,⟨rfl,rfl,Nat.le_refl _,Nat.le_refl _,Nat.le_refl _⟩,HZ.out⟩
 case round=>
  obtain ⟨x,sx,f,rfl,hf,hx,hb,hk,hz⟩:=hrel
  have c1:wr.cell? ⟨R,1,none⟩=some (.string (zcf t x.us)):=by rw [zaa hx.blk];rfl
  obtain ⟨s,hs⟩:∃ s,s=zcf t x.us:=⟨_,rfl⟩
  have hby:zaD t x=s.data.toList:=by rw [hs];rfl
  rw [<- hs] at c1
  obtain ⟨f',rfl⟩:∃ f',f=f'+1:=⟨f - 1,by omega⟩
  rw [zed,hby] at hz
  have HX:Hid (RdAt t B wr R sx x/\Below B w wr/\Keeps st x):=⟨hx,hb,hk⟩
  by_cases he:s.data.toList=behind.data.toList
  .rw [if_pos he] at hz
   have HE:=zHd hz
   have e0:(s.toList==behind.toList)=true:=by rw [ByteArray.toList_eq,ByteArray.toList_eq,he];simp
   have e1:(s.toList != behind.toList)=false:=by simp [bne,e0]
   clear hs hby he hz hx hb hk HZ
   go_wp2_with fail
   go_ret
   rw [HE.out]
   exact ⟨rfl,⟨_,HX.out.1⟩,HX.out.2.1,fun _=>HX.out.2.2,HX.out.2.2.grown⟩
  .rw [if_neg he] at hz
   have e0:(s.toList==behind.toList)=false:=by rw [ByteArray.toList_eq,ByteArray.toList_eq];simpa using he
   have e1:(s.toList != behind.toList)=true:=by simp [bne,e0]
   have hkm:=hk.mass
   have hkl:=hk.less
   have hkd:=hk.deep
   have hkh:=hk.heavy
   have hcs:=zj9 t ht n blk hblk B R sx x wr hx (by omega) (by omega) (by omega) (by omega) (by omega) (by omega)
   obtain ⟨q,hq⟩:∃ q,q=zaL t blk x:=⟨_,rfl⟩
   rw [<- hq] at hcs hz
   have HCS:=zHd hcs
   have HZ2:=zHd hz
   clear hs hby he hz hx hb hk HZ hcs hq hkm hkl hkd hkh
   go_wp2_with fail
   refine HCS.out.mono ?_
   rintro e w2 ⟨rfl,⟨sv2,h2⟩,b2,k2,g2⟩
   have H2:Hid (RdAt t B w2 R sv2 q.2/\Below B w w2/\(q.1=true->Keeps x q.2/\q.2.us.length<x.us.length)/\Grows x q.2):=⟨h2,HX.out.2.1.trans b2,k2,g2⟩
   clear h2 b2 k2 g2 HCS
   cases hq1:q.1 with
   | true=>
    have HZ3:Hid (_=_):=HZ2.out.trans (if_pos hq1)
    have hlt:=(H2.out.2.2.1 hq1).2
    have HQ:Hid (Keeps x q.2):=(H2.out.2.2.1 hq1).1
    clear hq1 HZ2
    go_wp2_with fail
    go_roundg q.2.us.length
    case measure=>exact hlt
    case rel=>exact ⟨q.2,sv2,f',rfl,by omega,H2.out.1,H2.out.2.1,HX.out.2.2.trans HQ.out,HZ3.out⟩
   | false=>
    have HZ3:Hid (_=_):=HZ2.out.trans (if_neg (by rw [hq1];simp))
    clear hq1 HZ2
    go_wp2_with fail
    go_ret
    rw [HZ3.out]
    exact ⟨rfl,⟨_,H2.out.1⟩,H2.out.2.1,fun h=>absurd h (by simp),HX.out.2.2.grown.trans H2.out.2.2.2⟩
theorem zmT (t:ByteArray)(ht:t.size<=400):∀ n:Nat,n<=401->zf9 t n (zeH t n zbG):=by
 intro n
 induction n with
 | zero=>intro _ B R sv st w h;exact absurd h (by omega)
 | succ n ih=>
  intro hn B R sv st w hl hd0 hd hm hh0 hh h
  exact zj7 t ht n (zeH t n zbG) (ih (by omega)) ⟨#[125]⟩ B R sv st w h (by omega) hd0 hd hm hh0 hh
open Go.RowKit Go.Proofs.Herald
def zpY (t:ByteArray):RSt:={us:=(0,0)::zbh t 0,fl:=[],deep:=0,heavy:=1,fault:=0,place:=0}
theorem zlw (t:ByteArray):za4 (zpY t)=zdd t:=rfl
theorem znK (t:ByteArray)(w:World)(o:Obj)(R:Nat)(hR:R=w.heap.size+1):
  RdAt t R ((w.alloc o).alloc (.cells #[.string t,.string ⟨#[]⟩,.int .i64 0,.slice none 0 0,.int .i64 0,.int .i64 1,.int .i64 0,.int .i64 0] 160)) R (.slice none 0 0) (zpY t):=by
 subst hR
 refine ⟨Nat.le_refl _,?_,World.ownsRow_nil _ _ _ _,?_⟩
 .rw [zaw]
  have e:zcf t (zpY t).us=⟨#[]⟩:=by show t.extract 0 0=_;apply ByteArray.ext;simp
  rw [e];rfl
 .intro p r h
  have h':(0,0)::zbh t 0=p::r:=h
  simp only [List.cons.injEq] at h'
  obtain ⟨rfl,rfl⟩:=h'
  exact ⟨rfl,Nat.le_refl _,Nat.zero_le _⟩
theorem RdAt.nds {t:ByteArray}{B:Nat}{w:World}{R:Nat}{a:Option Addr}{n cap:Nat}{st:RSt}(h:RdAt t B w R (.slice a n cap) st):
  n=st.fl.length/\n<=cap/\cap<=maxLen/\∃ g,(0<n->a=some ⟨g,0,none⟩/\g<w.heap.size/\NdsAt w g 0 st.fl):=by
 rcases h.own.2 with ⟨hv,h0⟩|⟨g,c,cur,hv,hb,hg,hn,hm,_⟩
 .simp at hv
  obtain ⟨_,rfl,rfl⟩:=hv
  exact ⟨by omega,by omega,by unfold maxLen;omega,0,by omega⟩
 .have hv':=hv
  simp at hv
  obtain ⟨rfl,rfl,rfl⟩:=hv
  refine ⟨rfl,hn,hm,g,fun _=>⟨rfl,zae hg,fun i hi j u hj=>?_⟩⟩
  have hc:=h.own.cells (g:=g) rfl
  have hj6:j<6:=by
   have:=(List.getElem?_eq_some_iff.mp hj).1
   simpa [zaX] using this
  have k:=hc (i*6+j) u (by rw [zeQ _ i hi j hj6];exact hj)
  rw [Addr.add_lit,Nat.zero_add] at k
  rw [Nat.zero_add];exact k
theorem zj5 (t:ByteArray)(ht:400<t.size)(w:World):
  Calls Tryz.prog 48 #[.string t] w fun e w'=>(∃ a n cap,e=.returned (.tuple #[.agg #[.slice a n cap,.int .i64 0],.int .i64 1,.int .i64 0]))/\Below w.heap.size w w':=by
 go_enter Tryz.func48,Tryz.ntmps48
 go_wp2_with fail
 refine bodyPost_ret (v:=.tuple #[.agg #[.slice none 0 0,.int .i64 0],.int .i64 1,.int .i64 0]) (by simp [results,Tryz.results48,go_sem]) rfl ⟨⟨_,_,_,rfl⟩,?_⟩
 exact (Below.refl _ _).alloc (Nat.le_refl _) _
theorem zqm (t:ByteArray)(ht:t.size<=400)(r:Int×Int×Int)(hr:zgX t r)(w:World):
  Calls Tryz.prog 48 #[.string t] w fun e w'=>(∃ a n cap,e=.returned (.tuple #[.agg #[.slice a n cap,.int .i64 r.1],.int .i64 r.2.1,.int .i64 r.2.2]))/\Below w.heap.size w w':=by
 have hwl:(zdd t).us.length<=400:=by
  have h2:=zbr t.data.toList
  have h3:t.data.toList.length=t.size:=by simp
  show (za2 t.data.toList).length<=400
  omega
 obtain ⟨E,hE⟩:∃ E,E=zd9 t:=⟨_,rfl⟩
 have HPRE:Hid (∀ o,RdAt t (w.heap.size+1) ((w.alloc o).alloc (.cells #[.string t,.string ⟨#[]⟩,.int .i64 0,.slice none 0 0,.int .i64 0,.int .i64 1,.int .i64 0,.int .i64 0] 160)) (w.heap.size+1) (.slice none 0 0) (zpY t)):=fun o=>znK t w o _ rfl
 have HBLK:Hid (∀ W,RdAt t (w.heap.size+1) W (w.heap.size+1) (.slice none 0 0) (zdd t)->Calls Tryz.prog 84 #[.pointer (some ⟨w.heap.size+1,0,none⟩),.string ⟨#[]⟩] W fun e w'=>
   e=.returned (.bool E.1)/\(∃ sv',RdAt t (w.heap.size+1) w' (w.heap.size+1) sv' E.2)/\Below (w.heap.size+1) W w'):=fun W hW=>by
  rw [hE]
  refine (zj7 t ht 401 (zeH t 401 zbG) (zmT t ht 401 (by omega)) ⟨#[]⟩ (w.heap.size+1) (w.heap.size+1) _ (zdd t) W hW (by omega) (by show (0:Int)<=0;omega) (by show (0:Int)+_<=900;omega) (by show 0+_<=400;omega) (by show (0:Int)<=1;omega) (by show (1:Int)<=65;omega)).mono ?_
  rintro e w' ⟨h1,h2,h3,_⟩
  exact ⟨h1,h2,h3⟩
 have HR:=zHd hr
 have HE:=zHd hE
 clear hr hE hwl
 have HBW:Hid (∀ o1 o2,Below w.heap.size w ((w.alloc o1).alloc o2)):=fun o1 o2=>((Below.refl _ _).alloc (Nat.le_refl _) _).alloc (by simp) _
 go_enter Tryz.func48,Tryz.ntmps48
 go_wp2_with fail
 refine (zb2 t ht _ _ _ (zpY t) _ (HPRE.out _)).mono ?_
 rintro e w1 ⟨rfl,h1,hb1⟩
 rw [zlw] at h1
 have HB1:Hid (Below w.heap.size w w1):=(HBW.out _ _).trans (hb1.mono (by simp))
 have H1:=zHd h1
 have HG1:Hid (w1.heap[w.heap.size]?=some (.cells #[.slice none 0 0,.int .i64 0] 117 (0,0))):=by
  show _=_
  rw [hb1.block w.heap.size (by omega),Below.heap_alloc _ _ _ (by simp)]
  exact heap_alloc_new _ _
 clear h1 hb1
 go_wp2_with fail
 refine (HBLK.out _ H1.out).mono ?_
 rintro e w2 ⟨rfl,⟨sv,h2⟩,hb2⟩
 obtain ⟨a,cap,hsv⟩:=zeg h2.own
 subst hsv
 have HB2:Hid (Below w.heap.size w w2):=HB1.out.trans (hb2.mono (by omega))
 have H2:=zHd h2
 have c2:w2.cell? ⟨w.heap.size+1,2,none⟩=some (.int .i64 (atR t E.2.us:Nat)):=(zaa h2.blk).trans rfl
 have c3:w2.cell? ⟨w.heap.size+1,3,none⟩=some (.slice a E.2.fl.length cap):=(zaa h2.blk).trans rfl
 have c6:w2.cell? ⟨w.heap.size+1,6,none⟩=some (.int .i64 E.2.fault):=(zaa h2.blk).trans rfl
 have c7:w2.cell? ⟨w.heap.size+1,7,none⟩=some (.int .i64 E.2.place):=(zaa h2.blk).trans rfl
 have g2:w2.heap[w.heap.size]?=some (.cells #[.slice none 0 0,.int .i64 0] 117 (0,0)):=(hb2.block _ (by omega)).trans HG1.out
 have HG2:=zHd g2
 have d0:w2.cell? ⟨w.heap.size,0,none⟩=some (.slice none 0 0):=(zaa g2).trans rfl
 have d1:w2.cell? ⟨w.heap.size,1,none⟩=some (.int .i64 0):=(zaa g2).trans rfl
 have y0:w2.frozen? ⟨w.heap.size,0,none⟩=false:=zab g2
 have y1:w2.frozen? ⟨w.heap.size,1,none⟩=false:=zab g2
 clear h2 hb2 HBLK H1 HPRE g2 HG1
 have hr:=HR.out
 unfold zgX at hr
 rw [<- HE.out] at hr
 clear HR HE
 rcases hr with ⟨hf,rfl⟩|⟨hf,hne,rfl⟩|⟨hf,h0,tr,hfl,hgood,hsz,hr⟩
 .rw [hf]
  go_wp2_with fail
  go_region
  all_goals
   go_wp2_with fail
   refine bodyPost_ret (v:=.tuple #[.agg #[.slice none 0 0,.int .i64 0],.int .i64 2,.int .i64 (atR t E.2.us:Nat)]) (by simp [results,Tryz.results48,go_sem,d0,d1]) rfl ⟨⟨_,_,_,rfl⟩,?_⟩
   exact ((HB2.out.setCell (p:=⟨w.heap.size,0,none⟩) (Nat.le_refl _) _).setCell (p:=⟨w.heap.size,1,none⟩) (Nat.le_refl _) _).drew
 .rw [hf]
  have e0:(E.2.fault==0)=false:=by simpa using hne
  have e1:(E.2.fault != 0)=true:=by simpa using hne
  clear hne hf
  go_wp2_with fail
  go_region
  all_goals
   go_wp2_with fail
   refine bodyPost_ret (v:=.tuple #[.agg #[.slice none 0 0,.int .i64 0],.int .i64 E.2.fault,.int .i64 E.2.place]) (by simp [results,Tryz.results48,go_sem,d0,d1]) rfl ⟨⟨_,_,_,rfl⟩,?_⟩
   exact ((HB2.out.setCell (p:=⟨w.heap.size,0,none⟩) (Nat.le_refl _) _).setCell (p:=⟨w.heap.size,1,none⟩) (Nat.le_refl _) _).drew
 .rw [hf]
  obtain ⟨n1,n2,n3,g,n4⟩:=H2.out.nds
  have HL:Hid (Calls Tryz.prog 85 #[.slice a E.2.fl.length cap] w2 fun e w'=>e=.returned (.int .i64 (zcy (zay t 5 tr).1 (zay t 5 tr).2))/\Below w2.heap.size w2 w'):=
   zg6 t 5 tr a g 0 cap E.2.fl.length w2 (by rw [hfl]) hgood hsz (by omega) n2 n3 (fun h=>⟨(n4 h).1,(n4 h).2.1,by rw [<- hfl];exact (n4 h).2.2⟩)
  rw [h0] at c6
  clear n1 n2 n3 n4 hfl hgood hsz h0 hf
  generalize zcy (zay t 5 tr).1 (zay t 5 tr).2=M at *
  go_wp2_with fail
  refine HL.out.mono ?_
  rintro e w3 ⟨rfl,hb3⟩
  have c3':w3.cell? ⟨w.heap.size+1,3,none⟩=some (.slice a E.2.fl.length cap):=by
   rw [World.cell?_of_block (hb3.block (w.heap.size+1) (zae H2.out.blk))];exact c3
  have HB3:Hid (Below w.heap.size w w3):=HB2.out.trans (hb3.mono HB2.out.size)
  have g3:w3.heap[w.heap.size]?=some (.cells #[.slice none 0 0,.int .i64 0] 117 (0,0)):=(hb3.block _ (zae HG2.out)).trans HG2.out
  clear d0 d1 y0 y1 hb3 c2 c3 c6 c7
  have d0:w3.cell? ⟨w.heap.size,0,none⟩=some (.slice none 0 0):=(zaa g3).trans rfl
  have d1:w3.cell? ⟨w.heap.size,1,none⟩=some (.int .i64 0):=(zaa g3).trans rfl
  have y0:w3.frozen? ⟨w.heap.size,0,none⟩=false:=zab g3
  have y1:w3.frozen? ⟨w.heap.size,1,none⟩=false:=zab g3
  clear g3 HG2
  rcases hr with ⟨hl,rfl⟩|⟨hl,rfl⟩
  .go_wp2_with fail
   refine bodyPost_ret (v:=.tuple #[.agg #[.slice none 0 0,.int .i64 0],.int .i64 6,.int .i64 0]) (by simp [results,Tryz.results48,go_sem,d0,d1]) rfl ⟨⟨_,_,_,rfl⟩,?_⟩
   exact (HB3.out.setCell (p:=⟨w.heap.size,0,none⟩) (Nat.le_refl _) _).setCell (p:=⟨w.heap.size,1,none⟩) (Nat.le_refl _) _
  .go_wp2_with fail
   refine bodyPost_ret (v:=.tuple #[.agg #[.slice a E.2.fl.length cap,.int .i64 M],.int .i64 0,.int .i64 0]) (by simp [results,Tryz.results48,go_sem,d0,d1]) rfl ⟨⟨_,_,_,rfl⟩,?_⟩
   exact (HB3.out.setCell (p:=⟨w.heap.size,0,none⟩) (Nat.le_refl _) _).setCell (p:=⟨w.heap.size,1,none⟩) (Nat.le_refl _) _
end Go.Proofs.YtmmmnghiegajmaaGreat
set_option maxHeartbeats 2000000
namespace Go.Proofs.YtmmmnghiegajmaaGreat
open Go.RowKit Go.Proofs.Herald
theorem RdAt.nds2 {t:ByteArray}{B:Nat}{w:World}{R:Nat}{a:Option Addr}{n cap:Nat}{st:RSt}(h:RdAt t B w R (.slice a n cap) st):
  ∃ g,(0<n->a=some ⟨g,0,none⟩/\B<=g/\g<w.heap.size/\NdsAt w g 0 st.fl):=by
 obtain ⟨_,_,_,g,hg⟩:=h.nds
 refine ⟨g,fun hp=>?_⟩
 obtain ⟨h1,h2,h3⟩:=hg hp
 subst h1
 exact ⟨rfl,(zao h.own (k:=g) rfl).1,h2,h3⟩
set_option maxRecDepth 20000 in
theorem zmX (t:ByteArray)(ht:t.size<=400)(tr:Tree 5)(hT:TextOk t tr)(w:World):
  Calls Tryz.prog 48 #[.string t] w fun e w'=>∃ v g,e=.returned (.tuple #[.agg #[v,.int .i64 (zcy (zay t 5 tr).1 (zay t 5 tr).2)],.int .i64 0,.int .i64 0])/\SlT t 5 w' g v tr/\g<w'.heap.size/\Below w.heap.size w w':=by
 obtain ⟨M,hM⟩:∃ M,M=zcy (zay t 5 tr).1 (zay t 5 tr).2:=⟨_,rfl⟩
 have hl:=hT.short
 rw [<- hM] at hl ⊢
 have HM:=zHd hM
 clear hM
 have hwl:(zdd t).us.length<=400:=by
  have h2:=zbr t.data.toList
  have h3:t.data.toList.length=t.size:=by simp
  show (za2 t.data.toList).length<=400
  omega
 obtain ⟨E,hE⟩:∃ E,E=zd9 t:=⟨_,rfl⟩
 have HPRE:Hid (∀ o,RdAt t (w.heap.size+1) ((w.alloc o).alloc (.cells #[.string t,.string ⟨#[]⟩,.int .i64 0,.slice none 0 0,.int .i64 0,.int .i64 1,.int .i64 0,.int .i64 0] 160)) (w.heap.size+1) (.slice none 0 0) (zpY t)):=fun o=>znK t w o _ rfl
 have HBLK:Hid (∀ W,RdAt t (w.heap.size+1) W (w.heap.size+1) (.slice none 0 0) (zdd t)->Calls Tryz.prog 84 #[.pointer (some ⟨w.heap.size+1,0,none⟩),.string ⟨#[]⟩] W fun e w'=>
   e=.returned (.bool E.1)/\(∃ sv',RdAt t (w.heap.size+1) w' (w.heap.size+1) sv' E.2)/\Below (w.heap.size+1) W w'):=fun W hW=>by
  rw [hE]
  refine (zj7 t ht 401 (zeH t 401 zbG) (zmT t ht 401 (by omega)) ⟨#[]⟩ (w.heap.size+1) (w.heap.size+1) _ (zdd t) W hW (by omega) (by show (0:Int)<=0;omega) (by show (0:Int)+_<=900;omega) (by show 0+_<=400;omega) (by show (0:Int)<=1;omega) (by show (1:Int)<=65;omega)).mono ?_
  rintro e w' ⟨h1,h2,h3,_⟩
  exact ⟨h1,h2,h3⟩
 have h1:E.1=true:=by rw [hE];exact hT.ended
 have h2:E.2.fault=0:=by rw [hE];exact hT.fault
 have h3:E.2.fl=zbi t 5 tr:=by rw [hE];exact hT.flat
 have HT:=zHd hT
 clear hE hwl hT
 have HBW:Hid (∀ o1 o2,Below w.heap.size w ((w.alloc o1).alloc o2)):=fun o1 o2=>((Below.refl _ _).alloc (Nat.le_refl _) _).alloc (by simp) _
 go_enter Tryz.func48,Tryz.ntmps48
 go_wp2_with fail
 refine (zb2 t ht _ _ _ (zpY t) _ (HPRE.out _)).mono ?_
 rintro e w1 ⟨rfl,h1r,hb1⟩
 rw [zlw] at h1r
 have HB1:Hid (Below w.heap.size w w1):=(HBW.out _ _).trans (hb1.mono (by simp))
 have H1:=zHd h1r
 have HG1:Hid (w1.heap[w.heap.size]?=some (.cells #[.slice none 0 0,.int .i64 0] 117 (0,0))):=by
  show _=_
  rw [hb1.block w.heap.size (by omega),Below.heap_alloc _ _ _ (by simp)]
  exact heap_alloc_new _ _
 clear h1r hb1
 go_wp2_with fail
 refine (HBLK.out _ H1.out).mono ?_
 rintro e w2 ⟨rfl,⟨sv,h2r⟩,hb2⟩
 rw [h1]
 obtain ⟨a,cap,hsv⟩:=zeg h2r.own
 subst hsv
 have HB2:Hid (Below w.heap.size w w2):=HB1.out.trans (hb2.mono (by omega))
 have H2:=zHd h2r
 have c2:w2.cell? ⟨w.heap.size+1,2,none⟩=some (.int .i64 (atR t E.2.us:Nat)):=(zaa h2r.blk).trans rfl
 have c3:w2.cell? ⟨w.heap.size+1,3,none⟩=some (.slice a E.2.fl.length cap):=(zaa h2r.blk).trans rfl
 have c6:w2.cell? ⟨w.heap.size+1,6,none⟩=some (.int .i64 0):=by rw [<- h2];exact (zaa h2r.blk).trans rfl
 have g2:w2.heap[w.heap.size]?=some (.cells #[.slice none 0 0,.int .i64 0] 117 (0,0)):=(hb2.block _ (by omega)).trans HG1.out
 have HG2:=zHd g2
 clear h2r hb2 HBLK H1 HPRE g2 HG1 h1 h2
 obtain ⟨n1,n2,n3,_⟩:=H2.out.nds
 obtain ⟨g,n4⟩:=H2.out.nds2
 have HL:Hid (Calls Tryz.prog 85 #[.slice a E.2.fl.length cap] w2 fun e w'=>e=.returned (.int .i64 (zcy (zay t 5 tr).1 (zay t 5 tr).2))/\Below w2.heap.size w2 w'):=
  zg6 t 5 tr a g 0 cap E.2.fl.length w2 (by rw [h3]) HT.out.good HT.out.size (by omega) n2 n3 (fun h=>⟨(n4 h).1,(n4 h).2.2.1,by rw [<- h3];exact (n4 h).2.2.2⟩)
 have HN:Hid (E.2.fl.length<=cap/\cap<=maxLen/\(0<E.2.fl.length->a=some ⟨g,0,none⟩/\w.heap.size+1<=g/\g<w2.heap.size/\NdsAt w2 g 0 E.2.fl)):=⟨n2,n3,n4⟩
 have H3:=zHd h3
 clear n1 n2 n3 n4 h3 HT
 have HL2:Hid (Calls Tryz.prog 85 #[.slice a E.2.fl.length cap] w2 fun e w'=>e=.returned (.int .i64 M)/\Below w2.heap.size w2 w'):=by rw [HM.out];exact HL.out
 clear HL HM
 go_wp2_with fail
 refine HL2.out.mono ?_
 rintro e w3 ⟨rfl,hb3⟩
 have c3':w3.cell? ⟨w.heap.size+1,3,none⟩=some (.slice a E.2.fl.length cap):=by
  rw [World.cell?_of_block (hb3.block (w.heap.size+1) (zae H2.out.blk))];exact c3
 have HB3:Hid (Below w.heap.size w w3/\Below w2.heap.size w2 w3):=⟨HB2.out.trans (hb3.mono HB2.out.size),hb3⟩
 have g3:w3.heap[w.heap.size]?=some (.cells #[.slice none 0 0,.int .i64 0] 117 (0,0)):=(hb3.block _ (zae HG2.out)).trans HG2.out
 have hl3:w.heap.size<w3.heap.size:=zae g3
 clear hb3 c2 c3 c6
 have d0:w3.cell? ⟨w.heap.size,0,none⟩=some (.slice none 0 0):=(zaa g3).trans rfl
 have d1:w3.cell? ⟨w.heap.size,1,none⟩=some (.int .i64 0):=(zaa g3).trans rfl
 have y0:w3.frozen? ⟨w.heap.size,0,none⟩=false:=zab g3
 have y1:w3.frozen? ⟨w.heap.size,1,none⟩=false:=zab g3
 clear g3 HG2
 go_wp2_with fail
 refine bodyPost_ret (v:=.tuple #[.agg #[.slice a E.2.fl.length cap,.int .i64 M],.int .i64 0,.int .i64 0]) (by simp [results,Tryz.results48,go_sem,d0,d1]) rfl ?_
 have hb4:Below w.heap.size w ((w3.setCell ⟨w.heap.size,0,none⟩ (.slice a E.2.fl.length cap)).setCell ⟨w.heap.size,1,none⟩ (.int .i64 M)):=(HB3.out.1.setCell (p:=⟨w.heap.size,0,none⟩) (Nat.le_refl _) _).setCell (p:=⟨w.heap.size,1,none⟩) (Nat.le_refl _) _
 by_cases hp:0<E.2.fl.length
 .obtain ⟨k1,k2,k3,k4⟩:=HN.out.2.2 hp
  refine ⟨_,g,rfl,⟨a,_,cap,0,rfl,by rw [H3.out],HN.out.1,HN.out.2.1,fun _=>⟨k1,?_⟩⟩,?_,hb4⟩
  .rw [<- H3.out]
   refine k4.keep ?_
   rw [Below.heap_setCell _ _ _ _ (show g≠w.heap.size from by omega),Below.heap_setCell _ _ _ _ (show g≠w.heap.size from by omega)]
   exact HB3.out.2.block g k3
  .have:=HB3.out.2.size
   simp [World.setCell]
   omega
 .refine ⟨_,w.heap.size,rfl,⟨a,_,cap,0,rfl,by rw [H3.out],HN.out.1,HN.out.2.1,fun h=>absurd h hp⟩,?_,hb4⟩
  simp [World.setCell]
  exact hl3
open Go.RowKit Go.Proofs.Herald
theorem znE {w:World}{B:Nat}{e:TypeId}{size:Nat}{v:Value}{n:Nat}{xs:List Value}(h:w.ownsRow 0 e size v n xs)(hB:∀ b,v.ownBlock=some b->B<=b):w.ownsRow B e size v n xs:=by
 refine ⟨h.1,?_⟩
 rcases h.2 with h2|⟨g,cap,cur,rfl,_,r⟩
 .exact .inl h2
 .exact .inr ⟨g,cap,cur,rfl,hB g rfl,r⟩
theorem zql (t:ByteArray)(ht:t.size<=400)(tr:Tree 5)(hT:TextOk t tr)(v:Value)(g:Nat)(M:Int)(w:World)(hS:SlT t 5 w g v tr)(hg:g<w.heap.size):
  Calls Tryz.prog 49 #[.agg #[v,.int .i64 M]] w fun e w'=>∃ sv,e=.returned sv/\w'.ownsRow w.heap.size 91 4 sv (zbj t tr).length (zai (zbj t tr))/\Below w.heap.size w w':=by
 have hlen:=hT.len ht
 obtain ⟨a,n,cap,off,rfl,hn,hcap,hmax,hnd⟩:=hS
 have HB:Hid (∀ W:World,(∀ k:Nat,W.heap[k]?=((w.alloc (.cells #[.slice a n cap,.int .i64 M] 117)).alloc (.cells #[.slice none 0 0] 164)).heap[k]?) ->
   Calls Tryz.prog 86 #[.pointer (some ⟨w.heap.size+1,0,none⟩),.slice a n cap,.int .i64 ((0:Nat):Int)] W fun e w'=>e=.returned (.tuple #[])/\(∃ sv',WrAt w.heap.size w' (w.heap.size+1) sv' (zbj t tr))/\Below w.heap.size W w'):=by
  intro W hW
  have h0:=zrn t 5 tr (.slice a n cap) g 0 w.heap.size (w.heap.size+1) (.slice none 0 0) [] W ⟨a,n,cap,off,rfl,hn,hcap,hmax,fun hp=>⟨(hnd hp).1,(hnd hp).2.keep ?_⟩⟩ hT.good (by omega) hT.size (by simp;exact Nat.le_trans hlen (by omega)) hg ⟨by omega,?_,World.ownsRow_nil _ _ _ _,fun b hb=>(by cases hb)⟩
  .simpa [zbj] using h0
  .rw [hW g,Below.heap_alloc _ _ _ (by simp;omega),Below.heap_alloc _ _ _ hg]
  .rw [hW];exact zaw _ _ _
 have HB0:Hid (∀ o1 o2,Below w.heap.size w ((w.alloc o1).alloc o2)):=fun o1 o2=>((Below.refl _ _).alloc (Nat.le_refl _) _).alloc (by simp) _
 clear hT hn hcap hmax hnd hlen
 go_enter Tryz.func49,Tryz.ntmps49
 go_wp2_with fail
 refine (HB.out _ (fun _=>rfl)).mono ?_
 rintro e w1 ⟨rfl,⟨s1,h1⟩,b1⟩
 have c0:w1.cell? ⟨w.heap.size+1,0,none⟩=some s1:=(zaa h1.blk).trans rfl
 have HH:Hid (WrAt w.heap.size w1 (w.heap.size+1) s1 (zbj t tr)/\Below w.heap.size w w1):=⟨h1,(HB0.out _ _).trans b1⟩
 clear h1 b1 HB
 go_wp2_with fail
 go_ret
 exact ⟨s1,rfl,znE HH.out.1.own HH.out.1.new,HH.out.2⟩
theorem zi4 (t:ByteArray)(ht:t.size<=400)(tr:Tree 5)(hT:TextOk t tr)(w:World):
  Calls Tryz.prog 17 #[.string t] w fun e w'=>∃ sv,e=.returned (.tuple #[sv,.int .i64 0,.int .i64 0])/\w'.ownsRow w.heap.size 91 4 sv (zbj t tr).length (zai (zbj t tr))/\Below w.heap.size w w':=by
 have HT:=zHd hT
 obtain ⟨M,hM⟩:∃ M,M=zcy (zay t 5 tr).1 (zay t 5 tr).2:=⟨_,rfl⟩
 have hR:=zmX t ht tr hT w
 rw [<- hM] at hR
 have HR:=zHd hR
 clear hT hM hR
 obtain ⟨C,hC⟩:∃ C,C=zbj t tr:=⟨_,rfl⟩
 rw [<- hC]
 have HC:=zHd hC
 clear hC
 go_enter Tryz.func17,Tryz.ntmps17
 go_wp2_with fail
 refine HR.out.mono ?_
 rintro e w1 ⟨v,g,rfl,hS,hg,hb1⟩
 obtain ⟨va,vn,vc,hv⟩:∃ a n c,v=.slice a n c:=by obtain ⟨a,n,c,_,h,_⟩:=hS;exact ⟨a,n,c,h⟩
 subst hv
 have HS:Hid (SlT t 5 w1 g (.slice va vn vc) tr/\Below w.heap.size w w1):=⟨hS,hb1⟩
 clear hS hb1
 have HK:Hid (∀ o,Calls Tryz.prog 49 #[.agg #[.slice va vn vc,.int .i64 M]] (w1.alloc o) fun e w'=>∃ a cap,e=.returned (.slice a C.length cap)/\w'.ownsRow w1.heap.size 91 4 (.slice a C.length cap) C.length (zai C)/\Below w1.heap.size w1 w'):=fun o=>by
  rw [HC.out]
  refine (zql t ht tr HT.out _ g M (w1.alloc o) (HS.out.1.keep (Below.heap_alloc _ _ _ hg)) (by simp;omega)).mono ?_
  rintro e w2 ⟨sv,he,ho,hb⟩
  obtain ⟨a2,cap2,hv2⟩:=zag ho
  subst hv2
  refine ⟨a2,cap2,he,znE (zct ho) fun b hb'=>?_,((Below.refl _ _).alloc (Nat.le_refl _) _).trans (hb.mono (by simp))⟩
  have h1:=(zao ho hb').1
  simp at h1
  omega
 go_wp2_with fail
 refine (HK.out _).mono ?_
 rintro e w2 ⟨a2,cap2,rfl,ho,hb2⟩
 have HO:Hid (w2.ownsRow w.heap.size 91 4 (.slice a2 C.length cap2) C.length (zai C)/\Below w.heap.size w w2):=by
  refine ⟨znE (zct ho) fun b hb=>?_,HS.out.2.trans (hb2.mono HS.out.2.size)⟩
  have h1:=(zao ho hb).1
  have h2:=HS.out.2.size
  omega
 clear ho hb2
 go_wp2_with fail
 refine bodyPost_ret (v:=.tuple #[.slice a2 C.length cap2,.int .i64 0,.int .i64 0]) (by simp [results,Tryz.results17,go_sem]) rfl ⟨_,rfl,HO.out.1,HO.out.2⟩
theorem zgt (t:ByteArray)(f p:Int)(hf:f≠0)(w:World)(hR:∀ w:World,Calls Tryz.prog 48 #[.string t] w fun e w'=>(∃ a n cap m,e=.returned (.tuple #[.agg #[.slice a n cap,.int .i64 m],.int .i64 f,.int .i64 p]))/\Below w.heap.size w w'):
  Calls Tryz.prog 17 #[.string t] w fun e w'=>e=.returned (.tuple #[.slice none 0 0,.int .i64 f,.int .i64 p])/\Below w.heap.size w w':=by
 have HR:=zHd hR
 have b1:(f != 0)=true:=by simpa using hf
 clear hR hf
 go_enter Tryz.func17,Tryz.ntmps17
 go_wp2_with fail
 refine (HR.out _).mono ?_
 rintro e w1 ⟨⟨a,n,cap,m,rfl⟩,hb1⟩
 have HB:=zHd hb1
 clear hb1
 go_wp2_with fail
 refine bodyPost_ret (v:=.tuple #[.slice none 0 0,.int .i64 f,.int .i64 p]) (by simp [results,Tryz.results17,go_sem]) rfl ⟨rfl,HB.out.alloc HB.out.size _⟩
end Go.Proofs.YtmmmnghiegajmaaGreat
