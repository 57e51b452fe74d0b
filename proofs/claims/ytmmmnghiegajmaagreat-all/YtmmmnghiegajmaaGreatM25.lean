import Derived.Test.YtmmmnghiegajmaaGreatM24
import Derived.Deep.DeepCutAuto
import Derived.Deep.CutBlock
set_option maxHeartbeats 2000000
open Go.RowKit Go.Proofs.Herald Go.Proofs.Tryz
namespace Go.Proofs.YtmmmnghiegajmaaGreat
structure aJ (t:ByteArray)(B:Nat)(w:World)(R:Nat)(sv:Value)(st:aD):Prop where
 le:B<=R
 blk:w.heap[R]?=some (.cells #[.string t,.string (eo t st.us),.int .i64 (bz t st.us:Nat),sv,.int .i64 st.deep,.int .i64 st.heavy,.int .i64 st.fault,.int .i64 st.place] 160)
 own:w.ownsRow B 190 6 sv st.fl.length (ib st.fl)
 suf:gy t st.us
theorem pH {w w':World}{B:Nat}{e:TypeId}{size:Nat}{v:Value}{n:Nat}{xs:List Value}(h:w.ownsRow B e size v n xs)(hk:∀ k,v.ownBlock=some k->w'.heap[k]?=w.heap[k]?):w'.ownsRow B e size v n xs:=by
 refine⟨h.1,?_⟩;rcases h.2 with h2|⟨g,cap,cur,rfl,hb,hg,r⟩
 .exact .inl h2
 .exact .inr ⟨g,cap,cur,rfl,hb,by rw[hk g rfl];exact hg,r⟩
theorem kx {w:World}{B:Nat}{e:TypeId}{size:Nat}{v:Value}{n:Nat}{xs:List Value}(h:w.ownsRow B e size v n xs){k:Nat}(hk:v.ownBlock=some k):B<=k/\∃ cur,w.heap[k]?=some (.cells cur e (0,0)):=by
 rcases h.2 with ⟨rfl,_⟩|⟨g,cap,cur,rfl,hb,hg,r⟩
 .simp[Value.ownBlock]at hk
 .simp[Value.ownBlock]at hk;subst hk;exact⟨hb,cur,hg⟩
theorem aJ.keep {t:ByteArray}{B:Nat}{w w':World}{R:Nat}{sv:Value}{st:aD}(h:aJ t B w R sv st)(hk:∀ k,k<w.heap.size->w'.heap[k]?=w.heap[k]?):aJ t B w' R sv st:=
 ⟨h.le,by rw[hk R (ak h.blk)];exact h.blk,pH h.own (fun k hk'=>by obtain⟨_,c,hc⟩:=kx h.own hk';exact hk k (ak hc)),h.suf⟩
theorem aJ.set {t:ByteArray}{B:Nat}{w:World}{R:Nat}{sv:Value}{st st':aD}(h:aJ t B w R sv st)(j:Nat)(u:Value)(hfl:st'.fl=st.fl)(hsuf:gy t st'.us)
  (hc:(#[.string t,.string (eo t st.us),.int .i64 (bz t st.us:Nat),sv,.int .i64 st.deep,.int .i64 st.heavy,.int .i64 st.fault,.int .i64 st.place]:Array Value).setIfInBounds j u =
   #[.string t,.string (eo t st'.us),.int .i64 (bz t st'.us:Nat),sv,.int .i64 st'.deep,.int .i64 st'.heavy,.int .i64 st'.fault,.int .i64 st'.place]):aJ t B (w.setCell ⟨R,j,none⟩ u) R sv st':=by
 refine⟨h.le,by rw[cG _ h.blk,hc],?_,hsuf⟩;rw[hfl];exact pH h.own (fun k hk'=>by obtain⟨_,c,hc⟩:=kx h.own hk';exact q8 _ _ _ _ (aA hc h.blk (by decide)))
theorem th (t:ByteArray)(B R:Nat)(sv:Value)(st:aD)(f p:Int)(w:World)(h:aJ t B w R sv st):
  Calls prog 149 #[.pointer (some ⟨R,0,none⟩),.int .i64 f,.int .i64 p] w fun e w'=>e=.returned (.tuple #[])/\aJ t B w' R sv (cz st f p)/\Below B w w':=by
 have c6:w.cell? ⟨R,6,none⟩=some (.int .i64 st.fault):=(ag h.blk).trans rfl;have c7:w.cell? ⟨R,7,none⟩=some (.int .i64 st.place):=(ag h.blk).trans rfl;have z6:w.frozen? ⟨R,6,none⟩=false:=aC h.blk;have z7:w.frozen? ⟨R,7,none⟩=false:=aC h.blk;have HH:=ah h;obtain⟨F,hF⟩:∃ F,F=st.fault:=⟨_,rfl⟩;rw[<- hF]at c6;have HF:=ah hF;clear h hF;by_cases h1:F=0\/f<F
 .have HN:Hid (cz st f p={st with fault:=f,place:=p}):=by show _=_;unfold cz;rw[if_pos (by rw[<- HF];exact h1)]
  have A0:(F==0)=true\/((F==0)=false/\f<F):=by
   by_cases h0:F=0
   .exact .inl (by simp[h0])
   .exact .inr ⟨by simp[h0],by omega⟩
  clear h1;rcases A0 with h0|⟨h0,h1⟩;all_goals
   go_enter func149,ntmps149
   go_wp2_with fail
   go_end0;refine⟨rfl,?_,((v7 _ _).setCell (p:=⟨R,6,none⟩) HH.le _).setCell (p:=⟨R,7,none⟩) HH.le _⟩;rw[HN];exact(HH.set (st':={st with fault:=f}) 6 _ rfl HH.suf rfl).set 7 _ rfl HH.suf rfl
 .have HN:Hid (cz st f p=st):=by show _=_;unfold cz;rw[if_neg (by rw[<- HF];exact h1)]
  have h0:(F==0)=false:=by simp;omega
  have h2:¬ f<F:=by omega
  clear h1;go_enter func149,ntmps149
  go_wp2_with fail
  go_end0;refine⟨rfl,?_,v7 _ _⟩;rw[HN];exact HH
theorem aJ.heap {t:ByteArray}{B:Nat}{w w':World}{R:Nat}{sv:Value}{st:aD}(h:aJ t B w R sv st)(e:w'.heap=w.heap):aJ t B w' R sv st:=
 h.keep (fun k _=>by rw[e])
theorem Af {w w':World}(e:w'.heap=w.heap)(a:Addr)(v:Value):(w'.setCell a v).heap=(w.setCell a v).heap:=by
 unfold World.setCell;simp only[e]
theorem Below.of_heap {B:Nat}{w w1 w2:World}(h:Below B w w1)(e:w2.heap=w1.heap)(e1:w2.os=w.os)(e2:w2.tape=w.tape)(e3:w2.output=w.output):Below B w w2:=
 ⟨e1,e2,e3,by rw[e];exact h.size,fun k hk=>by rw[e];exact h.block k hk⟩
theorem jK (t:ByteArray)(ht:t.size<=400)(B R:Nat)(sv:Value)(st:aD)(w:World)(h:aJ t B w R sv st):
  Calls prog 83 #[.pointer (some ⟨R,0,none⟩)] w fun e w'=>e=.returned (.tuple #[])/\aJ t B w' R sv (aL st)/\Below B w w':=by
 obtain⟨n1,n2,n3,n4,n5,n6⟩:=h.suf.next;have c0:w.cell? ⟨R,0,none⟩=some (.string t):=(ag h.blk).trans rfl;have c1:w.cell? ⟨R,1,none⟩=some (.string (eo t st.us)):=(ag h.blk).trans rfl;have c2:w.cell? ⟨R,2,none⟩=some (.int .i64 (bz t st.us:Nat)):=(ag h.blk).trans rfl;have z1:w.frozen? ⟨R,1,none⟩=false:=aC h.blk;have z2:w.frozen? ⟨R,2,none⟩=false:=aC h.blk;have HH:=ah h;obtain⟨s,hs⟩:∃ s,s=eo t st.us:=⟨_,rfl⟩;obtain⟨i,hi⟩:∃ i,i=bz t st.us:=⟨_,rfl⟩;obtain⟨s',A2⟩:∃ s,s=eo t st.us.tail:=⟨_,rfl⟩;obtain⟨i',A1⟩:∃ i,i=bz t st.us.tail:=⟨_,rfl⟩;rw[<- hs]at c1 n1 n3;rw[<- hi]at c2 n1 n3;rw[<- A1]at n1 n2 n4 n5 n6;rw[<- A2]at n2 n5 n6;have HE:Hid (_/\_/\_/\_):=And.intro hs (And.intro hi (And.intro A2 A1));have A3:Hid (_=_):=n1;have A4:Hid (_=_):=n2;have A5:Hid (_=_):=n6;clear hs hi A2 A1 h n1 n2 n6;have HW:Hid (IntKind.i64.wrap ((i:Int)+(s.size:Int))=((i+s.size:Nat):Int)):=by
  show _=_;rw[IntKind.wrap_i64];omega
 have A0:Hid ((w.setCell ⟨R,2,none⟩ (.int .i64 (i':Nat))).cell? ⟨R,0,none⟩=some (.string t)/\(w.setCell ⟨R,2,none⟩ (.int .i64 (i':Nat))).cell? ⟨R,1,none⟩=some (.string s)/\(w.setCell ⟨R,2,none⟩ (.int .i64 (i':Nat))).cell? ⟨R,2,none⟩=some (.int .i64 (i':Nat)) /\
   (w.setCell ⟨R,2,none⟩ (.int .i64 (i':Nat))).frozen? ⟨R,1,none⟩=false):=by
  have g:=cG (j:=2) (.int .i64 (i':Nat)) HH.blk;refine⟨(ag g).trans rfl,?_,(ag g).trans rfl,aC g⟩;rw[HE.1];exact(ag g).trans rfl
 have A6:Hid (∀ W:World,Calls prog 108 #[.string t,.int .i64 (i':Nat)] W fun e w'=>e=.returned (.int .i64 ((i'+s'.size:Nat):Int))/\w'=W):=fun W=>by
  have h0:=Bv t _ i' rfl W ht n4;rw[A4]at h0;exact h0
 go_enter func83,ntmps83
 go_upto_region 0 with fail
 go_cut [0] (fun r wx=>r=.pointer (some ⟨R,0,none⟩)/\wx.cell? ⟨R,0,none⟩=some (.string t)/\wx.cell? ⟨R,1,none⟩=some (.string s)/\wx.cell? ⟨R,2,none⟩=some (.int .i64 (i':Nat))/\wx.frozen? ⟨R,1,none⟩=false /\
   Hid (wx.heap=(w.setCell ⟨R,2,none⟩ (.int .i64 (i':Nat))).heap/\wx.os=w.os/\wx.tape=w.tape/\wx.output=w.output))
 case first=>
  go_region_with (go_at_call 107;refine(zT t _ (i+s.size) HW _ ht n3).mono ?_;rw[A3];rintro e w' ⟨rfl,rfl⟩)
  all_goals
   go_wp2_with fail
   go_meet;case rel=>exact⟨rfl,A0.1,A0.2.1,A0.2.2.1,A0.2.2.2,rfl,rfl,rfl,rfl⟩
 case rest=>
  obtain⟨rfl,d0,d1,d2,y1,HX⟩:=hcut;clear A0;clear c0 c1 c2 z1 z2;go_wp2_with fail
  go_quiet ((go_at_call 108;exact Calls.quiet_of_same (A6 _)))
  go_wp2_with fail
  go_region;go_wp2_with fail
  go_end0;have eh:(wc.setCell ⟨R,1,none⟩ (.string s')).heap=((w.setCell ⟨R,2,none⟩ (.int .i64 (i':Nat))).setCell ⟨R,1,none⟩ (.string s')).heap:=Af HX.1 _ _;have A7:aJ t B ((w.setCell ⟨R,2,none⟩ (.int .i64 (i':Nat))).setCell ⟨R,1,none⟩ (.string s')) R sv (aL st):=by
   refine⟨HH.le,?_,?_,HH.suf.tail⟩
   .rw[cG _ (cG _ HH.blk)];show some (Obj.cells #[.string t,.string s',.int .i64 (i':Nat),sv,.int .i64 st.deep,.int .i64 st.heavy,.int .i64 st.fault,.int .i64 st.place] 160)=some (Obj.cells #[.string t,.string (eo t st.us.tail),.int .i64 (bz t st.us.tail:Nat),sv,.int .i64 st.deep,.int .i64 st.heavy,.int .i64 st.fault,.int .i64 st.place] 160);rw[<- HE.2.2.1,<- HE.2.2.2]
   .exact pH HH.own (fun k hk'=>by obtain⟨_,c,hc⟩:=kx HH.own hk';rw[q8 _ _ _ _ (aA hc HH.blk (by decide)),q8 _ _ _ _ (aA hc HH.blk (by decide))])
  rw[A5];refine⟨rfl,A7.heap eh,?_⟩;exact Below.of_heap (((v7 B w).setCell (p:=⟨R,2,none⟩) HH.le _).setCell (p:=⟨R,1,none⟩) HH.le _) eh HX.2.1 HX.2.2.1 HX.2.2.2
theorem oQ (t:ByteArray)(ht:t.size<=400)(B R:Nat)(sv:Value)(st:aD)(most:Int)(w:World)(h:aJ t B w R sv st):
  Calls prog 145 #[.pointer (some ⟨R,0,none⟩),.int .i64 most] w fun e w'=>
   e=.returned (.tuple #[.int .i64 (eI t st most).1,.bool (eI t st most).2.1])/\aJ t B w' R sv (eI t st most).2.2/\Below B w w':=by
 have c1:w.cell? ⟨R,1,none⟩=some (.string (eo t st.us)):=(ag h.blk).trans rfl;have c2:w.cell? ⟨R,2,none⟩=some (.int .i64 (bz t st.us:Nat)):=(ag h.blk).trans rfl;have HH:=ah h;obtain⟨s,hs⟩:∃ s,s=eo t st.us:=⟨_,rfl⟩;have A2:s.size<=400:=by rw[hs];have:=BI (t:=t) st.us;omega
 have A0:bS t st=s.data.toList:=by rw[hs];rfl
 rw[<- hs]at c1;obtain⟨i,hi⟩:∃ i,i=bz t st.us:=⟨_,rfl⟩;rw[<- hi]at c2;have hN:eI t st most=if nB s.data.toList then (nV s.data.toList,true,aL (if nV s.data.toList<1\/most<nV s.data.toList then cz st 3 (i:Nat) else st)) else (0,false,st):=by
  unfold eI;rw[A0,hi]
 have HC:Hid (∀ W,Calls prog 161 #[.string s] W fun e w'=>e=.returned (.tuple #[.int .i64 (nV s.data.toList),.bool (nB s.data.toList)])/\w'=W):=fun W=>Bg s W A2;obtain⟨V,hV⟩:∃ V,V=nV s.data.toList:=⟨_,rfl⟩;rw[<- hV]at hN HC;clear hs A0 hi hV h;cases hb:nB s.data.toList with
 | false=>
  rw[hb]at hN HC;have HN:=ah hN;clear hb hN;go_enter func145,ntmps145
  go_wp2_with fail
  refine(HC _).mono ?_;rintro e w' ⟨rfl,rfl⟩;go_wp2_with fail
  go_ret2;rw[HN];exact⟨rfl,HH,v7 _ _⟩
 | true=>
  rw[hb]at hN HC;by_cases hr:V<1\/most<V
  .have HN:Hid (eI t st most=(V,true,aL (cz st 3 (i:Nat)))):=by show _=_;rw[hN,if_pos rfl,if_pos hr]
   have hc:V<1\/(1<=V/\most<V):=by omega
   clear hb hN hr;rcases hc with hc|⟨A1,hc⟩;all_goals
    go_enter func145,ntmps145
    go_wp2_with fail
    refine(HC _).mono ?_;rintro e w' ⟨rfl,rfl⟩;go_wp2_with fail
    refine(th t B R sv st 3 (i:Nat) _ HH).mono ?_;rintro e w1 ⟨rfl,h1,b1⟩;have H1:Hid (_/\_):=And.intro h1 b1;clear h1 b1;go_wp2_with fail
    refine(jK t ht B R sv _ _ H1.1).mono ?_;rintro e w2 ⟨rfl,h2,b2⟩;go_wp2_with fail
    go_ret2;rw[HN];exact⟨rfl,h2,H1.2.trans b2⟩
  .have HN:Hid (eI t st most=(V,true,aL st)):=by show _=_;rw[hN,if_pos rfl,if_neg hr]
   have A1:1<=V:=by omega
   have hc:V<=most:=by omega
   clear hb hN hr;go_enter func145,ntmps145
   go_wp2_with fail
   refine(HC _).mono ?_;rintro e w' ⟨rfl,rfl⟩;go_wp2_with fail
   refine(jK t ht B R sv _ _ HH).mono ?_;rintro e w2 ⟨rfl,h2,b2⟩;go_wp2_with fail
   go_ret2;rw[HN];exact⟨rfl,h2,b2⟩
theorem EI (t:ByteArray)(ht:t.size<=400)(B R:Nat)(sv:Value)(st:aD)(kind:Int)(w:World)(h:aJ t B w R sv st):
  Calls prog 125 #[.pointer (some ⟨R,0,none⟩),.int .i64 kind] w fun e w'=>
   e=.returned (.tuple #[.int .i64 (dD t st kind).1,.bool (dD t st kind).2.1])/\aJ t B w' R sv (dD t st kind).2.2/\Below B w w':=by
 have HH:=ah h;clear h;by_cases h5:kind=5
 .have HN:Hid (dD t st kind=eI t st 6):=if_pos h5;have e5:(kind==5)=true:=by simp[h5]
  clear h5;go_enter func125,ntmps125
  go_wp2_with fail
  refine(oQ t ht B R sv st 6 _ HH).mono ?_;rintro e w1 ⟨rfl,h1,b1⟩;go_wp2_with fail
  go_ret2;rw[HN];exact⟨rfl,h1,b1⟩
 .have e5:(kind==5)=false:=by simp[h5]
  by_cases h6:kind=6
  .have HN:Hid (dD t st kind=eI t st 9):=(if_neg h5).trans (if_pos h6);have e6:(kind==6)=true:=by simp[h6]
   clear h5 h6;go_enter func125,ntmps125
   go_wp2_with fail
   refine(oQ t ht B R sv st 9 _ HH).mono ?_;rintro e w1 ⟨rfl,h1,b1⟩;go_wp2_with fail
   go_ret2;rw[HN];exact⟨rfl,h1,b1⟩
  .have HN:Hid (dD t st kind=(0,true,st)):=(if_neg h5).trans (if_neg h6);have e6:(kind==6)=false:=by simp[h6]
   clear h5 h6;go_enter func125,ntmps125
   go_wp2_with fail
   go_ret2;rw[HN];exact⟨rfl,HH,v7 _ _⟩
theorem EH (t:ByteArray)(ht:t.size<=400)(B R:Nat)(sv:Value)(st:aD)(kind:Int)(w:World)(h:aJ t B w R sv st):
  Calls prog 127 #[.pointer (some ⟨R,0,none⟩),.int .i64 kind] w fun e w'=>
   e=.returned (.tuple #[.int .i64 (ft t st kind).1,.bool (ft t st kind).2.1])/\aJ t B w' R sv (ft t st kind).2.2/\Below B w w':=by
 have HH:=ah h;clear h;by_cases h2:kind=2
 .have e2:(kind==2)=true:=by simp[h2]
  have HN:Hid (ft t st kind=_):=if_pos (by omega);clear h2;go_enter func127,ntmps127
  go_wp2_with fail
  refine(oQ t ht B R sv st 999 _ HH).mono ?_;rintro e w1 ⟨rfl,h1,b1⟩;go_wp2_with fail
  go_ret2;rw[HN];exact⟨rfl,h1,b1⟩
 by_cases h4:kind=4
 .have e4:(kind==4)=true:=by simp[h4]
  have HN:Hid (ft t st kind=_):=if_pos (by omega);have e2:(kind==2)=false:=by simp;omega
  clear h2 h4;go_enter func127,ntmps127
  go_wp2_with fail
  refine(oQ t ht B R sv st 999 _ HH).mono ?_;rintro e w1 ⟨rfl,h1,b1⟩;go_wp2_with fail
  go_ret2;rw[HN];exact⟨rfl,h1,b1⟩
 by_cases h5:kind=5
 .have e5:(kind==5)=true:=by simp[h5]
  have HN:Hid (ft t st kind=_):=if_pos (by omega);have e2:(kind==2)=false:=by simp;omega
  have e4:(kind==4)=false:=by simp;omega
  clear h2 h4 h5;go_enter func127,ntmps127
  go_wp2_with fail
  refine(oQ t ht B R sv st 999 _ HH).mono ?_;rintro e w1 ⟨rfl,h1,b1⟩;go_wp2_with fail
  go_ret2;rw[HN];exact⟨rfl,h1,b1⟩
 have HN:Hid (ft t st kind=(0,true,st)):=if_neg (by omega);have e2:(kind==2)=false:=by simp;omega
 have e4:(kind==4)=false:=by simp;omega
 have e5:(kind==5)=false:=by simp;omega
 clear h2 h4 h5;go_enter func127,ntmps127
 go_wp2_with fail
 go_ret2;rw[HN];exact⟨rfl,HH,v7 _ _⟩
theorem Gu (t:ByteArray)(ht:t.size<=400)(B R:Nat)(sv:Value)(st:aD)(kind:Int)(w:World)(h:aJ t B w R sv st):
  Calls prog 126 #[.pointer (some ⟨R,0,none⟩),.int .i64 kind] w fun e w'=>
   e=.returned (.tuple #[.int .i64 (db t st kind).1,.bool (db t st kind).2.1])/\aJ t B w' R sv (db t st kind).2.2/\Below B w w':=by
 have HH:=ah h;have c1:w.cell? ⟨R,1,none⟩=some (.string (eo t st.us)):=(ag h.blk).trans rfl;obtain⟨s,hs⟩:∃ s,s=eo t st.us:=⟨_,rfl⟩;have A2:bS t st=s.data.toList:=by rw[hs];rfl
 rw[<- hs]at c1;have HC:Hid (∀ W,Calls prog 146 #[.string s] W fun e w'=>e=.returned (.tuple #[.int .i64 (kV s.data.toList),.bool (kB s.data.toList)])/\w'=W):=fun W=>ED s W;have A0:Hid ((kV (bS t st),kB (bS t st),if kB (bS t st) then aL st else st)=(kV s.data.toList,kB s.data.toList,if kB s.data.toList then aL st else st)):=by show _=_;rw[A2]
 clear h hs A2;by_cases h1:kind=1
 .have e1:(kind==1)=true:=by simp[h1]
  have HN:Hid (db t st kind=_):=if_pos (by omega);clear h1;cases hb:kB s.data.toList with
  | false=>
   rw[hb]at HC A0;have HM:=HN.trans A0;have A1:=ah HM;clear HM hb;go_enter func126,ntmps126
   go_wp2_with fail
   refine(HC _).mono ?_;rintro e w' ⟨rfl,rfl⟩;go_wp2_with fail
   go_ret2;rw[A1];exact⟨rfl,HH,v7 _ _⟩
  | true=>
   rw[hb]at HC A0;have HM:=HN.trans A0;have A1:=ah HM;clear HM hb;go_enter func126,ntmps126
   go_wp2_with fail
   refine(HC _).mono ?_;rintro e w' ⟨rfl,rfl⟩;go_wp2_with fail
   refine(jK t ht B R sv _ _ HH).mono ?_;rintro e w2 ⟨rfl,h2,b2⟩;go_wp2_with fail
   go_ret2;rw[A1];exact⟨rfl,h2,b2⟩
 by_cases h4:kind=4
 .have e4:(kind==4)=true:=by simp[h4]
  have HN:Hid (db t st kind=_):=if_pos (by omega);have e1:(kind==1)=false:=by simp;omega
  clear h1 h4;cases hb:kB s.data.toList with
  | false=>
   rw[hb]at HC A0;have HM:=HN.trans A0;have A1:=ah HM;clear HM hb;go_enter func126,ntmps126
   go_wp2_with fail
   refine(HC _).mono ?_;rintro e w' ⟨rfl,rfl⟩;go_wp2_with fail
   go_ret2;rw[A1];exact⟨rfl,HH,v7 _ _⟩
  | true=>
   rw[hb]at HC A0;have HM:=HN.trans A0;have A1:=ah HM;clear HM hb;go_enter func126,ntmps126
   go_wp2_with fail
   refine(HC _).mono ?_;rintro e w' ⟨rfl,rfl⟩;go_wp2_with fail
   refine(jK t ht B R sv _ _ HH).mono ?_;rintro e w2 ⟨rfl,h2,b2⟩;go_wp2_with fail
   go_ret2;rw[A1];exact⟨rfl,h2,b2⟩
 by_cases h5:kind=5
 .have e5:(kind==5)=true:=by simp[h5]
  have HN:Hid (db t st kind=_):=if_pos (by omega);have e1:(kind==1)=false:=by simp;omega
  have e4:(kind==4)=false:=by simp;omega
  clear h1 h4 h5;cases hb:kB s.data.toList with
  | false=>
   rw[hb]at HC A0;have HM:=HN.trans A0;have A1:=ah HM;clear HM hb;go_enter func126,ntmps126
   go_wp2_with fail
   refine(HC _).mono ?_;rintro e w' ⟨rfl,rfl⟩;go_wp2_with fail
   go_ret2;rw[A1];exact⟨rfl,HH,v7 _ _⟩
  | true=>
   rw[hb]at HC A0;have HM:=HN.trans A0;have A1:=ah HM;clear HM hb;go_enter func126,ntmps126
   go_wp2_with fail
   refine(HC _).mono ?_;rintro e w' ⟨rfl,rfl⟩;go_wp2_with fail
   refine(jK t ht B R sv _ _ HH).mono ?_;rintro e w2 ⟨rfl,h2,b2⟩;go_wp2_with fail
   go_ret2;rw[A1];exact⟨rfl,h2,b2⟩
 have HN:Hid (db t st kind=(0,true,st)):=if_neg (by omega);have e1:(kind==1)=false:=by simp;omega
 have e4:(kind==4)=false:=by simp;omega
 have e5:(kind==5)=false:=by simp;omega
 clear h1 h4 h5;go_enter func126,ntmps126
 go_wp2_with fail
 go_ret2;rw[HN];exact⟨rfl,HH,v7 _ _⟩
def nI (t:ByteArray)(n:Nat)(blk:aD->Bool×aD):Prop:=
 ∀ (B R:Nat) (sv:Value) (st:aD) (w:World),st.us.length<n->0<=st.deep->st.deep+(st.us.length:Int)<=900->st.fl.length+st.us.length<=400->0<=st.heavy->st.heavy<=65->aJ t B w R sv st ->
  Calls prog 84 #[.pointer (some ⟨R,0,none⟩),.string ⟨#[125]⟩] w fun e w'=>e=.returned (.bool (blk st).1)/\(∃ sv',aJ t B w' R sv' (blk st).2)/\Below B w w'/\((blk st).1=true->bY st (blk st).2)/\cr st (blk st).2
theorem nF {w:World}{B:Nat}{e:TypeId}{size:Nat}{v:Value}{n:Nat}{xs:List Value}(h:w.ownsRow B e size v n xs):∃ a cap,v=.slice a n cap:=by
 rcases h.2 with ⟨rfl,h0⟩|⟨g,cap,cur,rfl,_⟩
 .exact⟨none,0,by rw[h0]⟩
 .exact⟨_,_,rfl⟩
theorem qk (t:ByteArray)(ht:t.size<=400)(n:Nat)(blk:aD->Bool×aD)(hblk:nI t n blk)(B R:Nat)(sv:Value)(st:aD)(w:World)(h:aJ t B w R sv st)
  (hn:st.us.length<=n) (hd0:0<=st.deep) (hd:st.deep+(st.us.length:Int)<=900) (hm:st.fl.length+st.us.length<=400) (hh0:0<=st.heavy) (hh:st.heavy<=65):
  Calls prog 147 #[.pointer (some ⟨R,0,none⟩)] w fun e w'=>
   e=.returned (.tuple #[.int .i64 ((cJ t blk st).1:Nat),.bool (cJ t blk st).2.1])/\(∃ sv',aJ t B w' R sv' (cJ t blk st).2.2)/\Below B w w'/\((cJ t blk st).2.1=true->bY st (cJ t blk st).2.2/\(cJ t blk st).2.2.us.length<st.us.length)/\cr st (cJ t blk st).2.2:=by
 have c1:w.cell? ⟨R,1,none⟩=some (.string (eo t st.us)):=(ag h.blk).trans rfl;have c2:w.cell? ⟨R,2,none⟩=some (.int .i64 (bz t st.us:Nat)):=(ag h.blk).trans rfl;have c4:w.cell? ⟨R,4,none⟩=some (.int .i64 st.deep):=(ag h.blk).trans rfl;have HH:=ah h;obtain⟨s,hs⟩:∃ s,s=eo t st.us:=⟨_,rfl⟩;have A9:bS t st=s.data.toList:=by rw[hs];rfl
 rw[<- hs]at c1;by_cases ho:s.data.toList=dK
 .have e0:(s.toList==[123])=true:=du ho;obtain⟨a,A7,B6⟩:=nF h.own;subst B6;have B5:0<st.us.length:=by
   cases hu:st.us with
   | nil=>
    exfalso;rw[hs,hu]at ho;have he:(eo t []).data.toList=[]:=rfl;rw[he]at ho;exact absurd ho (by decide)
   | cons p q=>simp
  have B8:st.fl.length<=400:=by omega
  have A8:bS t st=dK:=by rw[A9];exact ho
  clear ho A9 hs h;by_cases hdp:4<=st.deep
  .obtain⟨r,hR⟩:∃ r,r=blk (aL {(cz st 4 (bz t st.us:Nat)) with deep:=(cz st 4 (bz t st.us:Nat)).deep+1}):=⟨_,rfl⟩;have HN:Hid (cJ t blk st=if r.1 then (r.2.fl.length - st.fl.length,true,aL {r.2 with deep:=r.2.deep - 1}) else (0,false,r.2)):=by
    show _=_;unfold cJ;rw[if_neg (by rw[A8];simp),hR,if_pos hdp]
   have HS:Hid (_/\_/\_/\_):=nA st 4 (bz t st.us:Nat);have HP:Hid ((aL {(cz st 4 (bz t st.us:Nat)) with deep:=(cz st 4 (bz t st.us:Nat)).deep+1}).us.length<n/\0<=(cz st 4 (bz t st.us:Nat)).deep+1/\(cz st 4 (bz t st.us:Nat)).deep+1+((aL {(cz st 4 (bz t st.us:Nat)) with deep:=(cz st 4 (bz t st.us:Nat)).deep+1}).us.length:Int)<=900 /\
     (cz st 4 (bz t st.us:Nat)).fl.length+(aL {(cz st 4 (bz t st.us:Nat)) with deep:=(cz st 4 (bz t st.us:Nat)).deep+1}).us.length<=400/\0<=(cz st 4 (bz t st.us:Nat)).heavy/\(cz st 4 (bz t st.us:Nat)).heavy<=65):=by
    show _/\_;simp only[aL,List.length_tail];rw[HS.out.1,HS.out.2.1,HS.out.2.2.1,HS.out.2.2.2];omega
   clear A8;go_enter func147,ntmps147
   go_wp2_with fail
   refine(th t B R _ st 4 (bz t st.us:Nat) _ HH).mono ?_;rintro e w1 ⟨rfl,h1,b1⟩;have A4:=ah h1;have B2:Hid (Below B w w1):=b1;clear h1 b1;have c3:w1.cell? ⟨R,3,none⟩=some (.slice a st.fl.length A7):=by rw[ag A4.blk];rfl
   have c4:w1.cell? ⟨R,4,none⟩=some (.int .i64 st.deep):=by rw[ag A4.blk];show some (Value.int .i64 (cz st 4 (bz t st.us:Nat)).deep)=_;rw[HS.out.1]
   have z4:w1.frozen? ⟨R,4,none⟩=false:=aC A4.blk;have B1:Hid (aJ t B (w1.setCell ⟨R,4,none⟩ (.int .i64 (st.deep+1))) R (.slice a st.fl.length A7) {(cz st 4 (bz t st.us:Nat)) with deep:=(cz st 4 (bz t st.us:Nat)).deep+1}):=A4.set 4 _ rfl A4.suf (by rw[HS.out.1];rfl);go_wp2_with fail
   refine(jK t ht B R _ _ _ B1).mono ?_;rintro e w2 ⟨rfl,h2,b2⟩;have H2:Hid (_/\_):=And.intro h2 b2;clear h2 b2 c3 c4 z4;go_wp2_with fail
   refine(hblk B R _ (aL {(cz st 4 (bz t st.us:Nat)) with deep:=(cz st 4 (bz t st.us:Nat)).deep+1}) _ HP.1 HP.2.1 HP.2.2.1 HP.2.2.2.1 HP.2.2.2.2.1 HP.2.2.2.2.2 H2.1).mono ?_;rw[<- hR];clear hR;rintro e w3 ⟨rfl,⟨B7,h3⟩,b3,k3,g3⟩;have A5:Hid (Below B w w3):=B2.trans (((v7 B w1).setCell (p:=⟨R,4,none⟩) A4.le _).trans (H2.2.trans b3));have B0:Hid (cr st r.2):=by
    obtain⟨g1,g2⟩:=g3;simp only[aL,List.length_tail]at g1 g2;first|(rw[HS.out.2.2.1]at g1 g2;rw[HS.out.2.2.2]at g2;exact⟨g1,by omega⟩)|exact⟨g1,by omega⟩
   clear g3;obtain⟨a3,A0,A1⟩:=nF h3.own;rw[A1]at h3;have H3:=ah h3;clear h3 b3 A1;cases hr1:r.1 with
   | false=>
    have A2:Hid (cJ t blk st=(0,false,r.2)):=HN.trans (if_neg (by rw[hr1];simp));clear k3 hr1;go_wp2_with fail
    go_ret2;rw[A2];exact⟨rfl,⟨_,H3⟩,A5,fun h=>absurd h (by simp),B0⟩
   | true=>
    have A2:Hid (cJ t blk st=(r.2.fl.length - st.fl.length,true,aL {r.2 with deep:=r.2.deep - 1})):=HN.trans (if_pos hr1);have kk:=k3 hr1;have kd:r.2.deep=st.deep+1:=by rw[kk.deep];show(cz st 4 (bz t st.us:Nat)).deep+1=_;rw[HS.out.1]
    have kg:st.fl.length<=r.2.fl.length:=by have:=kk.grows;simp only[aL]at this;rw[HS.out.2.2.1]at this;exact this
    have km:=kk.mass;have kl:=kk.less;simp only[aL]at km kl;rw[HS.out.2.2.1,HS.out.2.2.2]at km;rw[HS.out.2.2.2]at kl;have kb:r.2.fl.length<=400:=by simp only[List.length_tail]at km;omega
    have kh:r.2.heavy=st.heavy:=by rw[kk.heavy];exact HS.out.2.1
    have d4:w3.cell? ⟨R,4,none⟩=some (.int .i64 (st.deep+1)):=by rw[ag H3.blk];show some (Value.int .i64 r.2.deep)=_;rw[kd]
    have z4:w3.frozen? ⟨R,4,none⟩=false:=aC H3.blk;have A3:Hid (aJ t B (w3.setCell ⟨R,4,none⟩ (.int .i64 st.deep)) R (.slice a3 r.2.fl.length A0) {r.2 with deep:=r.2.deep - 1}):=H3.set 4 _ rfl H3.suf (by rw[kd,show st.deep+1 - 1=st.deep from by omega];rfl);have A6:Hid (bY st (aL {r.2 with deep:=r.2.deep - 1})/\(aL {r.2 with deep:=r.2.deep - 1}).us.length<st.us.length):=by
     simp only[List.length_tail]at km kl;refine⟨⟨?_,kh,kg,?_,?_⟩,?_⟩
     .show r.2.deep - 1=_;omega
     .show r.2.fl.length+r.2.us.tail.length<=_;rw[List.length_tail];omega
     .show r.2.us.tail.length<=_;rw[List.length_tail];omega
     .show r.2.us.tail.length < _;rw[List.length_tail];omega
    have B3:Hid (r.2.deep=st.deep+1):=kd;clear k3 hr1 kk kd km kl kh;go_wp2_with fail
    refine(jK t ht B R _ _ _ A3).mono ?_;rintro e w4 ⟨rfl,h4,b4⟩;have e3:w4.cell? ⟨R,3,none⟩=some (.slice a3 r.2.fl.length A0):=by rw[ag h4.blk];rfl
    have H4:Hid (_/\_):=And.intro h4 b4;clear h4 b4 d4 z4;go_wp2_with fail
    go_ret2;rw[A2];refine⟨lN (a:=(r.2.fl.length:Int) - (st.fl.length:Int)) (by show _=((r.2.fl.length - st.fl.length:Nat):Int);omega) rfl,⟨_,H4.out.1⟩,?_,fun _=>A6.out,A6.out.1.grown⟩;exact A5.trans (((v7 B w3).setCell (p:=⟨R,4,none⟩) H3.le _).trans H4.2)
  .obtain⟨r,hR⟩:∃ r,r=blk (aL {st with deep:=st.deep+1}):=⟨_,rfl⟩;have HN:Hid (cJ t blk st=if r.1 then (r.2.fl.length - st.fl.length,true,aL {r.2 with deep:=r.2.deep - 1}) else (0,false,r.2)):=by
    show _=_;unfold cJ;rw[if_neg (by rw[A8];simp),hR,if_neg hdp]
   have HS:Hid (st.deep=st.deep/\st.heavy=st.heavy/\st.fl=st.fl/\st.us=st.us):=⟨rfl,rfl,rfl,rfl⟩;have HP:Hid ((aL {st with deep:=st.deep+1}).us.length<n/\0<=st.deep+1/\st.deep+1+((aL {st with deep:=st.deep+1}).us.length:Int)<=900/\st.fl.length+(aL {st with deep:=st.deep+1}).us.length<=400/\0<=st.heavy/\st.heavy<=65):=by
    show _/\_;simp only[aL,List.length_tail];omega
   have B4:st.deep<4:=by omega
   clear A8 hdp;go_enter func147,ntmps147
   have c3:w.cell? ⟨R,3,none⟩=some (.slice a st.fl.length A7):=by rw[ag HH.blk];rfl
   have c4:w.cell? ⟨R,4,none⟩=some (.int .i64 st.deep):=by rw[ag HH.blk];show some (Value.int .i64 (st).deep)=_;rw[HS.out.1]
   have z4:w.frozen? ⟨R,4,none⟩=false:=aC HH.blk;have B1:Hid (aJ t B (w.setCell ⟨R,4,none⟩ (.int .i64 (st.deep+1))) R (.slice a st.fl.length A7) {(st) with deep:=(st).deep+1}):=HH.set 4 _ rfl HH.suf (by rw[HS.out.1];rfl);go_wp2_with fail
   refine(jK t ht B R _ _ _ B1).mono ?_;rintro e w2 ⟨rfl,h2,b2⟩;have H2:Hid (_/\_):=And.intro h2 b2;clear h2 b2 c3 c4 z4;go_wp2_with fail
   refine(hblk B R _ (aL {(st) with deep:=(st).deep+1}) _ HP.1 HP.2.1 HP.2.2.1 HP.2.2.2.1 HP.2.2.2.2.1 HP.2.2.2.2.2 H2.1).mono ?_;rw[<- hR];clear hR;rintro e w3 ⟨rfl,⟨B7,h3⟩,b3,k3,g3⟩;have A5:Hid (Below B w w3):=(v7 B w).trans (((v7 B w).setCell (p:=⟨R,4,none⟩) HH.le _).trans (H2.2.trans b3));have B0:Hid (cr st r.2):=by
    obtain⟨g1,g2⟩:=g3;simp only[aL,List.length_tail]at g1 g2;first|(rw[HS.out.2.2.1]at g1 g2;rw[HS.out.2.2.2]at g2;exact⟨g1,by omega⟩)|exact⟨g1,by omega⟩
   clear g3;obtain⟨a3,A0,A1⟩:=nF h3.own;rw[A1]at h3;have H3:=ah h3;clear h3 b3 A1;cases hr1:r.1 with
   | false=>
    have A2:Hid (cJ t blk st=(0,false,r.2)):=HN.trans (if_neg (by rw[hr1];simp));clear k3 hr1;go_wp2_with fail
    go_ret2;rw[A2];exact⟨rfl,⟨_,H3⟩,A5,fun h=>absurd h (by simp),B0⟩
   | true=>
    have HS:Hid (st.deep=st.deep/\st.heavy=st.heavy/\st.fl=st.fl/\st.us=st.us):=⟨rfl,rfl,rfl,rfl⟩;have A2:Hid (cJ t blk st=(r.2.fl.length - st.fl.length,true,aL {r.2 with deep:=r.2.deep - 1})):=HN.trans (if_pos hr1);have kk:=k3 hr1;have kd:r.2.deep=st.deep+1:=by rw[kk.deep];show(st).deep+1=_;rw[HS.out.1]
    have kg:st.fl.length<=r.2.fl.length:=by have:=kk.grows;simp only[aL]at this;rw[HS.out.2.2.1]at this;exact this
    have km:=kk.mass;have kl:=kk.less;simp only[aL]at km kl;rw[HS.out.2.2.1,HS.out.2.2.2]at km;rw[HS.out.2.2.2]at kl;have kb:r.2.fl.length<=400:=by simp only[List.length_tail]at km;omega
    have kh:r.2.heavy=st.heavy:=by rw[kk.heavy];exact HS.out.2.1
    have d4:w3.cell? ⟨R,4,none⟩=some (.int .i64 (st.deep+1)):=by rw[ag H3.blk];show some (Value.int .i64 r.2.deep)=_;rw[kd]
    have z4:w3.frozen? ⟨R,4,none⟩=false:=aC H3.blk;have A3:Hid (aJ t B (w3.setCell ⟨R,4,none⟩ (.int .i64 st.deep)) R (.slice a3 r.2.fl.length A0) {r.2 with deep:=r.2.deep - 1}):=H3.set 4 _ rfl H3.suf (by rw[kd,show st.deep+1 - 1=st.deep from by omega];rfl);have A6:Hid (bY st (aL {r.2 with deep:=r.2.deep - 1})/\(aL {r.2 with deep:=r.2.deep - 1}).us.length<st.us.length):=by
     simp only[List.length_tail]at km kl;refine⟨⟨?_,kh,kg,?_,?_⟩,?_⟩
     .show r.2.deep - 1=_;omega
     .show r.2.fl.length+r.2.us.tail.length<=_;rw[List.length_tail];omega
     .show r.2.us.tail.length<=_;rw[List.length_tail];omega
     .show r.2.us.tail.length < _;rw[List.length_tail];omega
    have B3:Hid (r.2.deep=st.deep+1):=kd;clear k3 hr1 kk kd km kl kh;go_wp2_with fail
    refine(jK t ht B R _ _ _ A3).mono ?_;rintro e w4 ⟨rfl,h4,b4⟩;have e3:w4.cell? ⟨R,3,none⟩=some (.slice a3 r.2.fl.length A0):=by rw[ag h4.blk];rfl
    have H4:Hid (_/\_):=And.intro h4 b4;clear h4 b4 d4 z4;go_wp2_with fail
    go_ret2;rw[A2];refine⟨lN (a:=(r.2.fl.length:Int) - (st.fl.length:Int)) (by show _=((r.2.fl.length - st.fl.length:Nat):Int);omega) rfl,⟨_,H4.out.1⟩,?_,fun _=>A6.out,A6.out.1.grown⟩;exact A5.trans (((v7 B w3).setCell (p:=⟨R,4,none⟩) H3.le _).trans H4.2)
 .have HN:Hid (cJ t blk st=(0,false,st)):=by show _=_;unfold cJ;rw[if_pos (by rw[A9];exact ho)]
  have e0:(s.toList==[123])=false:=bg ho;clear ho A9 hs h;go_enter func147,ntmps147
  go_wp2_with fail
  go_ret2;rw[HN];exact⟨rfl,⟨sv,HH⟩,v7 _ _,fun h=>absurd h (by simp),cr.refl _⟩
theorem lV (x:Nd)(r:List Nd):ib (x::r)=dR x++ib r:=by simp[ib]
theorem qY:∀ (l:List Nd)(i k:Nat),i<l.length->ib (cH l i k)=(ib l).set (i*6+4) (.int .i64 (k:Nat)):=by
 intro l;induction l with
 | nil=>intro i k hi;simp at hi
 | cons x r ih=>
  intro i k hi;cases i with
  | zero=>
   have e:cH (x::r) 0 k={x with body:=k}::r:=by simp[cH]
   rw[e,lV,lV,List.set_append_left _ _ (by show 0*6+4<6;omega)];rfl
  | succ i=>
   have e:cH (x::r) (i+1) k=x::cH r i k:=by simp[cH]
   have h6:(dR x).length=6:=rfl;rw[e,lV,lV,ih i k (by simpa using hi),List.set_append_right _ _ (by omega),h6,show(i+1)*6+4 - 6=i*6+4 from by omega]
theorem yS:∀ (l:List Nd)(i k:Nat),i<l.length->ib (gQ l i k)=(ib l).set (i*6+5) (.int .i64 (k:Nat)):=by
 intro l;induction l with
 | nil=>intro i k hi;simp at hi
 | cons x r ih=>
  intro i k hi;cases i with
  | zero=>
   have e:gQ (x::r) 0 k={x with els:=k}::r:=by simp[gQ]
   rw[e,lV,lV,List.set_append_left _ _ (by show 0*6+5<6;omega)];rfl
  | succ i=>
   have e:gQ (x::r) (i+1) k=x::gQ r i k:=by simp[gQ]
   have h6:(dR x).length=6:=rfl;rw[e,lV,lV,ih i k (by simpa using hi),List.set_append_right _ _ (by omega),h6,show(i+1)*6+5 - 6=i*6+5 from by omega]
theorem AE {w:World}{B:Nat}{e:TypeId}{size n g cap:Nat}{xs:List Value}(h:w.ownsRow B e size (.slice (some ⟨g,0,none⟩) n cap) n xs)(p:Nat)(v:Value):
  (w.setCell ⟨g,p,none⟩ v).ownsRow B e size (.slice (some ⟨g,0,none⟩) n cap) n (xs.set p v):=by
 refine⟨by rw[List.length_set];exact h.1,.inr ?_⟩;rcases h.2 with ⟨h1,_⟩|⟨g',cap',cur,hv,hb,hg,hn,hm,hs,ht⟩
 .cases h1
 .simp at hv;obtain⟨rfl,rfl⟩:=hv;refine⟨g,cap,cur.setIfInBounds p v,rfl,hb,cG v hg,hn,hm,by simpa using hs,?_⟩;rw[Array.toList_setIfInBounds,List.take_set,ht]
theorem aJ.row {t:ByteArray}{B:Nat}{w:World}{R g cap:Nat}{st:aD}(h:aJ t B w R (.slice (some ⟨g,0,none⟩) st.fl.length cap) st)(p:Nat)(v:Value)(fl':List Nd)(hl:fl'.length=st.fl.length)(hc:ib fl'=(ib st.fl).set p v):
  aJ t B (w.setCell ⟨g,p,none⟩ v) R (.slice (some ⟨g,0,none⟩) st.fl.length cap) {st with fl:=fl'}:=by
 obtain⟨hB,A0,hg⟩:=kx h.own (k:=g) rfl;refine⟨h.le,by rw[q8 _ _ _ _ (aA h.blk hg (by decide))];exact h.blk,?_,h.suf⟩;show World.ownsRow _ B _ 6 _ fl'.length (ib fl');rw[hl,hc];exact AE h.own p v
theorem aJ.cellAt {t:ByteArray}{B:Nat}{w:World}{R:Nat}{sv:Value}{st:aD}(h:aJ t B w R sv st)(i:Nat)(hi:i<st.fl.length):
  ∃ g cap,sv=.slice (some ⟨g,0,none⟩) st.fl.length cap/\B<=g/\st.fl.length<=cap/\w.cell? ⟨g,i*6+4,none⟩=some (.int .i64 (st.fl[i].body:Nat))/\w.cell? ⟨g,i*6+5,none⟩=some (.int .i64 (st.fl[i].els:Nat)) /\
   w.frozen? ⟨g,i*6+4,none⟩=false/\w.frozen? ⟨g,i*6+5,none⟩=false:=by
 rcases h.own.2 with ⟨_,h0⟩|⟨g,cap,cur,hv,hb,hg,hn,_⟩
 .omega
 .have hc:=h.own.cells (g:=g) (by rw[hv];rfl);have k4:=hc (i*6+4) (.int .i64 (st.fl[i].body:Nat)) (by rw[rf _ i hi 4 (by omega)];rfl);have k5:=hc (i*6+5) (.int .i64 (st.fl[i].els:Nat)) (by rw[rf _ i hi 5 (by omega)];rfl);rw[Addr.add_lit,Nat.zero_add]at k4 k5;exact⟨g,cap,hv,hb,hn,k4,k5,aC hg,aC hg⟩
theorem iT (l:List Nd)(i k:Nat):(cH l i k).length=l.length:=by simp[cH]
theorem oi (l:List Nd)(i k:Nat):(gQ l i k).length=l.length:=by simp[gQ]
theorem Be (t:ByteArray)(ht:t.size<=400)(n:Nat)(blk:aD->Bool×aD)(hblk:nI t n blk)(B R:Nat)(sv:Value)(st:aD)(i:Nat)(w:World)(h:aJ t B w R sv st)
  (hn:st.us.length<=n) (hd0:0<=st.deep) (hd:st.deep+(st.us.length:Int)<=900) (hm:st.fl.length+st.us.length<=400) (hh0:0<=st.heavy) (hh:st.heavy<=65) (hi:i<st.fl.length):
  Calls prog 128 #[.pointer (some ⟨R,0,none⟩),.int .i64 (i:Nat)] w fun e w'=>
   e=.returned (.bool (fY t blk st i).1)/\(∃ sv',aJ t B w' R sv' (fY t blk st i).2)/\Below B w w'/\((fY t blk st i).1=true->bY st (fY t blk st i).2)/\cr st (fY t blk st i).2:=by
 obtain⟨a,ha⟩:∃ a,a=cJ t blk st:=⟨_,rfl⟩;have A0:=qk t ht n blk hblk B R sv st w h hn hd0 hd hm hh0 hh;rw[<- ha]at A0;have A1:=ah A0;have B7:fY t blk st i=if a.2.1 then (if bS t {a.2.2 with fl:=cH a.2.2.fl i a.1}=fE then ((cJ t blk (aL {a.2.2 with fl:=cH a.2.2.fl i a.1})).2.1,{(cJ t blk (aL {a.2.2 with fl:=cH a.2.2.fl i a.1})).2.2 with fl:=gQ (cJ t blk (aL {a.2.2 with fl:=cH a.2.2.fl i a.1})).2.2.fl i (cJ t blk (aL {a.2.2 with fl:=cH a.2.2.fl i a.1})).1}) else (true,{a.2.2 with fl:=cH a.2.2.fl i a.1})) else (false,a.2.2):=by
  unfold fY;rw[ha]
 have A6:=ah B7;clear A0 ha B7 h;go_enter func128,ntmps128
 go_wp2_with fail
 refine A1.mono ?_;rintro e w1 ⟨rfl,⟨D6,h1⟩,b1,k1,g1⟩;cases hr:a.2.1 with
 | false=>
  have HN:Hid (fY t blk st i=(false,a.2.2)):=A6.trans (if_neg (by rw[hr];simp));have HP:Hid (_/\_/\_):=And.intro h1 (And.intro b1 g1);clear hr k1 h1 b1 g1 A1 A6;go_wp2_with fail
  go_ret;rw[HN];exact⟨rfl,⟨_,HP.1⟩,HP.2.1,fun h=>absurd h (by simp),HP.2.2⟩
 | true=>
  obtain⟨k1,C3⟩:=k1 hr;have A2:Hid (_=_):=A6.trans (if_pos hr);obtain⟨C,hC⟩:∃ C,C=a.1:=⟨_,rfl⟩;obtain⟨A,hA⟩:∃ A,A=a.2.2:=⟨_,rfl⟩;rw[<- hC,<- hA]at A2;rw[<- hA]at h1 g1 k1 C3;have C0:i<A.fl.length:=Qh hi g1.1;obtain⟨g,B4,C2,C6,C8,c4,c5,z4,z5⟩:=h1.cellAt i C0;rw[C2]at h1;have D4:g≠R:=by obtain⟨_,D2,hg⟩:=kx h1.own (k:=g) rfl;exact aA hg h1.blk (by decide)
  have d3:w1.cell? ⟨R,3,none⟩=some (.slice (some ⟨g,0,none⟩) A.fl.length B4):=by rw[ag h1.blk];rfl
  have d1:w1.cell? ⟨R,1,none⟩=some (.string (eo t A.us)):=by rw[ag h1.blk];rfl
  have C1:A.fl.length<=400:=by have:=g1.2;omega
  have H2:Hid (aJ t B (w1.setCell ⟨g,i*6+4,none⟩ (.int .i64 (C:Nat))) R (.slice (some ⟨g,0,none⟩) A.fl.length B4) {A with fl:=cH A.fl i C}):=h1.row (i*6+4) _ _ (iT _ _ _) (qY _ _ _ C0);have B2:Hid (Below B w (w1.setCell ⟨g,i*6+4,none⟩ (.int .i64 (C:Nat)))):=b1.setCell (p:=⟨g,i*6+4,none⟩) C6 _;obtain⟨s,hs⟩:∃ s,s=eo t A.us:=⟨_,rfl⟩;have A7:bS t {A with fl:=cH A.fl i C}=s.data.toList:=by rw[hs];rfl
  rw[<- hs]at d1;have HK:Hid (bY st {A with fl:=cH A.fl i C}):=⟨k1.deep,k1.heavy,by show _<=(cH A.fl i C).length;rw[iT];exact k1.grows,by show(cH A.fl i C).length+_<=_;rw[iT];exact k1.mass,k1.less⟩;rw[<- hC];clear hr A6 A1 h1 b1 k1 hs C2 hC hA g1;by_cases he:s.data.toList=fE
  .have A3:Hid (_=_):=A2.trans (if_pos (by rw[A7];exact he));have e0:(s.toList==[101,108,115,101])=true:=du he;have C9:(s.toList != [101,108,115,101])=false:=by simp[bne,e0]
   clear he A7 A2;go_wp2_with fail
   refine(jK t ht B R _ _ _ H2).mono ?_;rintro e w2 ⟨rfl,h2,b2⟩;obtain⟨D,hD⟩:∃ D,D=aL {A with fl:=cH A.fl i C}:=⟨_,rfl⟩;rw[<- hD]at h2 A3;have C7:D.fl.length=A.fl.length/\D.us.length<=A.us.length/\D.deep=A.deep/\D.heavy=A.heavy/\A.us.length<st.us.length:=by
    rw[hD];exact⟨iT _ _ _,by show A.us.tail.length<=_;rw[List.length_tail];omega,rfl,rfl,C3⟩
   obtain⟨q1,q2,q3,q4,q5⟩:=C7;have B6:=HK.mass;have B5:=HK.less;have B0:=HK.deep;have B1:=HK.heavy;simp only[iT]at B6 B5 B0 B1;have A8:Hid (bY st D):=⟨by rw[q3,B0],by rw[q4,B1],by have:=HK.grows;simp only[iT]at this;omega,by omega,by omega⟩;have A0:=qk t ht n blk hblk B R _ D w2 h2 (by omega) (by omega) (by omega) (by omega) (by omega) (by omega);obtain⟨b,hb⟩:∃ b,b=cJ t blk D:=⟨_,rfl⟩;rw[<- hb]at A0 A3;have A1:=ah A0;have C4:Hid (Below B w w2):=B2.trans b2;clear A0 hb hD h2 b2 B6 B5 B0 B1;go_wp2_with fail
   refine A1.mono ?_;rintro e w3 ⟨rfl,⟨D7,h3⟩,b3,k3,g3⟩;have B9:i<b.2.2.fl.length:=by have:=g3.1;omega
   obtain⟨g',A4,A5,A9,B8,D0,D1,D8,D9⟩:=h3.cellAt i B9;rw[A5]at h3;have D3:w3.cell? ⟨R,3,none⟩=some (.slice (some ⟨g',0,none⟩) b.2.2.fl.length A4):=by rw[ag h3.blk];rfl
   have D5:b.2.2.fl.length<=400:=by have:=g3.2;have:=A8.mass;omega
   have H4:Hid (aJ t B (w3.setCell ⟨g',i*6+5,none⟩ (.int .i64 (b.1:Nat))) R (.slice (some ⟨g',0,none⟩) b.2.2.fl.length A4) {b.2.2 with fl:=gQ b.2.2.fl i b.1}):=h3.row (i*6+5) _ _ (oi _ _ _) (yS _ _ _ B9);have C5:Hid (Below B w (w3.setCell ⟨g',i*6+5,none⟩ (.int .i64 (b.1:Nat)))):=(C4.trans b3).setCell (p:=⟨g',i*6+5,none⟩) A9 _;have B3:Hid ((b.2.1=true->bY D b.2.2/\b.2.2.us.length<D.us.length)/\cr D b.2.2):=⟨k3,g3⟩;clear A1 h3 b3 k3 g3 A5;go_wp2_with fail
   go_ret;rw[A3];refine⟨rfl,⟨_,H4⟩,C5,fun h=>?_,?_⟩
   .have kk:=A8.trans (B3.1 h).1;exact⟨kk.deep,kk.heavy,by show _<=(gQ b.2.2.fl i b.1).length;rw[oi];exact kk.grows,by show(gQ b.2.2.fl i b.1).length+_<=_;rw[oi];exact kk.mass,kk.less⟩
   .have gg:=A8.grown.trans B3.2;exact⟨by show _<=(gQ b.2.2.fl i b.1).length;rw[oi];exact gg.1,by show(gQ b.2.2.fl i b.1).length+_<=_;rw[oi];exact gg.2⟩
  .have A3:Hid (_=_):=A2.trans (if_neg (by rw[A7];exact he));have e0:(s.toList==[101,108,115,101])=false:=bg he;have C9:(s.toList != [101,108,115,101])=true:=by simp[bne,e0]
   clear he A7 A2;go_wp2_with fail
   go_ret;rw[A3];exact⟨rfl,⟨_,H2⟩,B2,fun _=>HK,HK.grown⟩
theorem Bh (t:ByteArray)(ht:t.size<=400)(n:Nat)(blk:aD->Bool×aD)(hblk:nI t n blk)(B R:Nat)(sv:Value)(st:aD)(i:Nat)(T p:Int)(w:World)(h:aJ t B w R sv st)
  (hn:st.us.length<=n) (hd0:0<=st.deep) (hd:st.deep+(st.us.length:Int)<=900) (hm:st.fl.length+st.us.length<=400) (hh0:0<=st.heavy) (hh:st.heavy<=65) (hi:i<st.fl.length) (hT0:0<=T) (hT:T<=9999):
  Calls prog 129 #[.pointer (some ⟨R,0,none⟩),.int .i64 (i:Nat),.int .i64 T,.int .i64 p] w fun e w'=>
   e=.returned (.bool (gC t blk st i T p).1)/\(∃ sv',aJ t B w' R sv' (gC t blk st i T p).2)/\Below B w w'/\((gC t blk st i T p).1=true->bY st (gC t blk st i T p).2)/\cr st (gC t blk st i T p).2:=by
 have c5:w.cell? ⟨R,5,none⟩=some (.int .i64 st.heavy):=by rw[ag h.blk];rfl
 have z5:w.frozen? ⟨R,5,none⟩=false:=aC h.blk;have B4:0<=st.heavy*T:=Int.mul_nonneg hh0 hT0;have B5:st.heavy*T<=649935:=by
  have h1:st.heavy*T<=65*T:=Int.mul_le_mul_of_nonneg_right hh hT0;omega
 obtain⟨K,hK⟩:∃ K,K=Go.Proofs.Herald.ir st.heavy T:=⟨_,rfl⟩;have C4:0<=K/\K<=65:=by rw[hK];unfold Go.Proofs.Herald.ir;split <;> omega
 obtain⟨D1,C3⟩:=C4;have B3:Hid (∀ W,Calls prog 148 #[.int .i64 st.heavy,.int .i64 T] W fun e w'=>e=.returned (.int .i64 K)/\w'=W):=fun W=>by
  rw[hK];exact Bt st.heavy T W (by omega) (by omega)
 have H1:Hid (aJ t B (w.setCell ⟨R,5,none⟩ (.int .i64 K)) R sv {st with heavy:=K}):=h.set 5 _ rfl h.suf rfl;have HH:=ah h;have B2:Hid (Below B w (w.setCell ⟨R,5,none⟩ (.int .i64 K))):=(v7 B w).setCell (p:=⟨R,5,none⟩) h.le _;by_cases h64:64<K
 .obtain⟨a,hA⟩:∃ a,a=cJ t blk (cz {st with heavy:=K} 5 p):=⟨_,rfl⟩;have HN:Hid (gC t blk st i T p=(a.2.1,{a.2.2 with fl:=cH a.2.2.fl i a.1,heavy:=st.heavy})):=by
   show _=_;unfold gC;simp only[<- hK];rw[if_pos h64,<- hA]
  have HS:Hid ((cz {st with heavy:=K} 5 p).deep=st.deep/\(cz {st with heavy:=K} 5 p).heavy=K/\(cz {st with heavy:=K} 5 p).fl=st.fl/\(cz {st with heavy:=K} 5 p).us=st.us):=nA _ 5 p;have HP:Hid ((cz {st with heavy:=K} 5 p).us.length<=n/\0<=(cz {st with heavy:=K} 5 p).deep/\(cz {st with heavy:=K} 5 p).deep+((cz {st with heavy:=K} 5 p).us.length:Int)<=900/\(cz {st with heavy:=K} 5 p).fl.length+(cz {st with heavy:=K} 5 p).us.length<=400/\0<=(cz {st with heavy:=K} 5 p).heavy/\(cz {st with heavy:=K} 5 p).heavy<=65):=by
   show _/\_;rw[HS.out.1,HS.out.2.1,HS.out.2.2.1,HS.out.2.2.2];omega
  clear hK h B4 B5;go_enter func129,ntmps129
  go_wp2_with fail
  refine(B3 _).mono ?_;rintro e w' ⟨rfl,B0⟩;rw[B0];clear B0 w';go_wp2_with fail
  refine(th t B R sv {st with heavy:=K} 5 p _ H1).mono ?_;rintro e w2 ⟨rfl,h2,b2⟩;have H2:=ah h2;have B6:Hid (Below B w w2):=B2.trans b2;clear h2 b2 c5 z5;have A3:=qk t ht n blk hblk B R sv (cz {st with heavy:=K} 5 p) w2 H2 HP.1 HP.2.1 HP.2.2.1 HP.2.2.2.1 HP.2.2.2.2.1 HP.2.2.2.2.2;rw[<- hA]at A3;have A4:=ah A3;clear A3 hA;go_wp2_with fail
  refine A4.mono ?_;rintro e w3 ⟨rfl,⟨C7,h3⟩,b3,k3,g3⟩;have A7:st.fl.length<=a.2.2.fl.length:=by have:=g3.1;rw[HS.out.2.2.1]at this;exact this
  have A8:a.2.2.fl.length+a.2.2.us.length<=st.fl.length+st.us.length:=by have:=g3.2;rw[HS.out.2.2.1,HS.out.2.2.2]at this;exact this
  have A9:i<a.2.2.fl.length:=by omega
  obtain⟨g',A0,A1,A2,A6,B7,B8,C9,D0⟩:=h3.cellAt i A9;rw[A1]at h3;have C5:g'≠R:=by obtain⟨_,B9,hg⟩:=kx h3.own (k:=g') rfl;exact aA hg h3.blk (by decide)
  have C0:w3.cell? ⟨R,3,none⟩=some (.slice (some ⟨g',0,none⟩) a.2.2.fl.length A0):=by rw[ag h3.blk];rfl
  have C1:w3.cell? ⟨R,5,none⟩=some (.int .i64 a.2.2.heavy):=by rw[ag h3.blk];rfl
  have C8:w3.frozen? ⟨R,5,none⟩=false:=aC h3.blk;have C6:a.2.2.fl.length<=400:=by omega
  have h4:aJ t B (w3.setCell ⟨g',i*6+4,none⟩ (.int .i64 (a.1:Nat))) R (.slice (some ⟨g',0,none⟩) a.2.2.fl.length A0) {a.2.2 with fl:=cH a.2.2.fl i a.1}:=h3.row (i*6+4) _ _ (iT _ _ _) (qY _ _ _ A9);have H5:Hid (aJ t B ((w3.setCell ⟨g',i*6+4,none⟩ (.int .i64 (a.1:Nat))).setCell ⟨R,5,none⟩ (.int .i64 st.heavy)) R (.slice (some ⟨g',0,none⟩) a.2.2.fl.length A0) {a.2.2 with fl:=cH a.2.2.fl i a.1,heavy:=st.heavy}):=h4.set 5 _ rfl h4.suf rfl;have B1:Hid (Below B w ((w3.setCell ⟨g',i*6+4,none⟩ (.int .i64 (a.1:Nat))).setCell ⟨R,5,none⟩ (.int .i64 st.heavy))):=((B6.trans b3).setCell (p:=⟨g',i*6+4,none⟩) A2 _).setCell (p:=⟨R,5,none⟩) h3.le _;have A5:Hid ((a.2.1=true->bY st {a.2.2 with fl:=cH a.2.2.fl i a.1,heavy:=st.heavy})/\cr st {a.2.2 with fl:=cH a.2.2.fl i a.1,heavy:=st.heavy}):=by
   refine⟨fun hh=>⟨?_,rfl,?_,?_,?_⟩,?_,?_⟩
   .show a.2.2.deep=_;rw[(k3 hh).1.deep];exact HS.out.1
   .show _<=(cH a.2.2.fl i a.1).length;rw[iT];exact A7
   .show(cH a.2.2.fl i a.1).length+a.2.2.us.length<=_;rw[iT];exact A8
   .show a.2.2.us.length<=_;have:=(k3 hh).2;rw[HS.out.2.2.2]at this;omega
   .show _<=(cH a.2.2.fl i a.1).length;rw[iT];exact A7
   .show(cH a.2.2.fl i a.1).length+a.2.2.us.length<=_;rw[iT];exact A8
  clear A4 h3 h4 b3 k3 g3 A1;go_wp2_with fail
  go_ret;rw[HN];exact⟨rfl,⟨_,H5⟩,B1,A5.1,A5.2⟩
 .obtain⟨a,hA⟩:∃ a,a=cJ t blk {st with heavy:=K}:=⟨_,rfl⟩;have HN:Hid (gC t blk st i T p=(a.2.1,{a.2.2 with fl:=cH a.2.2.fl i a.1,heavy:=st.heavy})):=by
   show _=_;unfold gC;simp only[<- hK];rw[if_neg h64,<- hA]
  have HP:Hid (st.us.length<=n/\0<=st.deep/\st.deep+(st.us.length:Int)<=900/\st.fl.length+st.us.length<=400/\0<=K/\K<=65):=by show _/\_;omega
  have C2:K<=64:=by omega
  clear hK h B4 B5 h64;go_enter func129,ntmps129
  go_wp2_with fail
  refine(B3 _).mono ?_;rintro e w' ⟨rfl,B0⟩;rw[B0];clear B0 w';have A3:=qk t ht n blk hblk B R sv ({st with heavy:=K}) _ H1 HP.1 HP.2.1 HP.2.2.1 HP.2.2.2.1 HP.2.2.2.2.1 HP.2.2.2.2.2;rw[<- hA]at A3;have A4:=ah A3;clear A3 hA;go_wp2_with fail
  refine A4.mono ?_;rintro e w3 ⟨rfl,⟨C7,h3⟩,b3,k3,g3⟩;have A7:st.fl.length<=a.2.2.fl.length:=by have:=g3.1;exact this
  have A8:a.2.2.fl.length+a.2.2.us.length<=st.fl.length+st.us.length:=by have:=g3.2;exact this
  have A9:i<a.2.2.fl.length:=by omega
  obtain⟨g',A0,A1,A2,A6,B7,B8,C9,D0⟩:=h3.cellAt i A9;rw[A1]at h3;have C5:g'≠R:=by obtain⟨_,B9,hg⟩:=kx h3.own (k:=g') rfl;exact aA hg h3.blk (by decide)
  have C0:w3.cell? ⟨R,3,none⟩=some (.slice (some ⟨g',0,none⟩) a.2.2.fl.length A0):=by rw[ag h3.blk];rfl
  have C1:w3.cell? ⟨R,5,none⟩=some (.int .i64 a.2.2.heavy):=by rw[ag h3.blk];rfl
  have C8:w3.frozen? ⟨R,5,none⟩=false:=aC h3.blk;have C6:a.2.2.fl.length<=400:=by omega
  have h4:aJ t B (w3.setCell ⟨g',i*6+4,none⟩ (.int .i64 (a.1:Nat))) R (.slice (some ⟨g',0,none⟩) a.2.2.fl.length A0) {a.2.2 with fl:=cH a.2.2.fl i a.1}:=h3.row (i*6+4) _ _ (iT _ _ _) (qY _ _ _ A9);have H5:Hid (aJ t B ((w3.setCell ⟨g',i*6+4,none⟩ (.int .i64 (a.1:Nat))).setCell ⟨R,5,none⟩ (.int .i64 st.heavy)) R (.slice (some ⟨g',0,none⟩) a.2.2.fl.length A0) {a.2.2 with fl:=cH a.2.2.fl i a.1,heavy:=st.heavy}):=h4.set 5 _ rfl h4.suf rfl;have B1:Hid (Below B w ((w3.setCell ⟨g',i*6+4,none⟩ (.int .i64 (a.1:Nat))).setCell ⟨R,5,none⟩ (.int .i64 st.heavy))):=((B2.trans b3).setCell (p:=⟨g',i*6+4,none⟩) A2 _).setCell (p:=⟨R,5,none⟩) h3.le _;have A5:Hid ((a.2.1=true->bY st {a.2.2 with fl:=cH a.2.2.fl i a.1,heavy:=st.heavy})/\cr st {a.2.2 with fl:=cH a.2.2.fl i a.1,heavy:=st.heavy}):=by
   refine⟨fun hh=>⟨?_,rfl,?_,?_,?_⟩,?_,?_⟩
   .show a.2.2.deep=_;rw[(k3 hh).1.deep]
   .show _<=(cH a.2.2.fl i a.1).length;rw[iT];exact A7
   .show(cH a.2.2.fl i a.1).length+a.2.2.us.length<=_;rw[iT];exact A8
   .show a.2.2.us.length<=_;have:=(k3 hh).2;exact Nat.le_of_lt this
   .show _<=(cH a.2.2.fl i a.1).length;rw[iT];exact A7
   .show(cH a.2.2.fl i a.1).length+a.2.2.us.length<=_;rw[iT];exact A8
  clear A4 h3 h4 b3 k3 g3 A1;go_wp2_with fail
  go_ret;rw[HN];exact⟨rfl,⟨_,H5⟩,B1,A5.1,A5.2⟩
end Go.Proofs.YtmmmnghiegajmaaGreat
