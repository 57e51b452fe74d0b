import Derived.Test.YtmmmnghiegajmaaGreatM27
import Derived.Test.YtmmmnghiegajmaaGreatM26
set_option maxHeartbeats 2000000
set_option maxRecDepth 20000
open Go.RowKit Go.Proofs.Herald Go.Proofs.Tryz
namespace Go.Proofs.YtmmmnghiegajmaaGreat
theorem aJ.nds2 {t:ByteArray}{B:Nat}{w:World}{R:Nat}{a:Option Addr}{n cap:Nat}{st:aD}(h:aJ t B w R (.slice a n cap) st):
  ∃ g,(0<n->a=some ⟨g,0,none⟩/\B<=g/\g<w.heap.size/\bH w g 0 st.fl):=by
 obtain⟨_,_,_,g,hg⟩:=h.nds;refine⟨g,fun hp=>?_⟩;obtain⟨h1,h2,h3⟩:=hg hp;subst h1;exact⟨rfl,(cS h.own (k:=g) rfl).1,h2,h3⟩
theorem Bs (t:ByteArray)(ht:t.size<=400)(tr:af 5)(hT:bu t tr)(w:World):
  Calls prog 48 #[.string t] w fun e w'=>∃ v g,e=.returned (.tuple #[.agg #[v,.int .i64 (cu (bE t 5 tr).1 (bE t 5 tr).2)],.int .i64 0,.int .i64 0])/\fC t 5 w' g v tr/\g<w'.heap.size/\Below w.heap.size w w':=by
 obtain⟨M,hM⟩:∃ M,M=cu (bE t 5 tr).1 (bE t 5 tr).2:=⟨_,rfl⟩;have hl:=hT.short;rw[<- hM]at hl ⊢;have HM:=ah hM;clear hM;have B8:(ja t).us.length<=400:=by
  have h2:=ky t.data.toList;have h3:t.data.toList.length=t.size:=by simp
  show(dC t.data.toList).length<=400;omega
 obtain⟨E,hE⟩:∃ E,E=dZ t:=⟨_,rfl⟩;have A3:Hid (∀ o,aJ t (w.heap.size+1) ((w.alloc o).alloc (.cells #[.string t,.string ⟨#[]⟩,.int .i64 0,.slice none 0 0,.int .i64 0,.int .i64 1,.int .i64 0,.int .i64 0] 160)) (w.heap.size+1) (.slice none 0 0) (nj t)):=fun o=>xE t w o _ rfl;have A2:Hid (∀ W,aJ t (w.heap.size+1) W (w.heap.size+1) (.slice none 0 0) (ja t)->Calls prog 84 #[.pointer (some ⟨w.heap.size+1,0,none⟩),.string ⟨#[]⟩] W fun e w'=>
   e=.returned (.bool E.1)/\(∃ sv',aJ t (w.heap.size+1) w' (w.heap.size+1) sv' E.2)/\Below (w.heap.size+1) W w'):=fun W hW=>by
  rw[hE];refine(sV t ht 401 (kK t 401 dh) (xz t ht 401 (by omega)) ⟨#[]⟩ (w.heap.size+1) (w.heap.size+1) _ (ja t) W hW (by omega) (by show(0:Int)<=0;omega) (by show(0:Int)+_<=900;omega) (by show 0+_<=400;omega) (by show(0:Int)<=1;omega) (by show(1:Int)<=65;omega)).mono ?_;rintro e w' ⟨h1,h2,h3,_⟩;exact⟨h1,h2,h3⟩
 have h1:E.1=true:=by rw[hE];exact hT.ended
 have h2:E.2.fault=0:=by rw[hE];exact hT.fault
 have h3:E.2.fl=cE t 5 tr:=by rw[hE];exact hT.flat
 have HT:=ah hT;clear hE B8 hT;have B4:Hid (∀ o1 o2,Below w.heap.size w ((w.alloc o1).alloc o2)):=fun o1 o2=>((v7 _ _).alloc (v9 _) _).alloc (by simp) _;go_enter func48,ntmps48
 go_wp2_with fail
 refine(jK t ht _ _ _ (nj t) _ (A3 _)).mono ?_;rintro e w1 ⟨rfl,A7,A8⟩;rw[xn]at A7;have B3:Hid (Below w.heap.size w w1):=(B4 _ _).trans (A8.mono (by simp));have H1:=ah A7;have B1:Hid (w1.heap[w.heap.size]?=some (.cells #[.slice none 0 0,.int .i64 0] 117)):=by
  show _=_;rw[A8.block w.heap.size (by omega),q9 _ _ _ (by simp)];exact v8 _ _
 clear A7 A8;go_wp2_with fail
 refine(A2 _ H1).mono ?_;rintro e w2 ⟨rfl,⟨sv,A1⟩,A9⟩;rw[h1];obtain⟨a,A0,B7⟩:=nF A1.own;subst B7;have B0:Hid (Below w.heap.size w w2):=B3.trans (A9.mono (by omega));have H2:=ah A1;have c2:w2.cell? ⟨w.heap.size+1,2,none⟩=some (.int .i64 (bz t E.2.us:Nat)):=(ag A1.blk).trans rfl;have c3:w2.cell? ⟨w.heap.size+1,3,none⟩=some (.slice a E.2.fl.length A0):=(ag A1.blk).trans rfl;have c6:w2.cell? ⟨w.heap.size+1,6,none⟩=some (.int .i64 0):=by rw[<- h2];exact(ag A1.blk).trans rfl
 have g2:w2.heap[w.heap.size]?=some (.cells #[.slice none 0 0,.int .i64 0] 117):=(A9.block _ (by omega)).trans B1.out;have A6:=ah g2;clear A1 A9 A2 H1 A3 g2 B1 h1 h2;obtain⟨n1,n2,n3,_⟩:=H2.nds;obtain⟨g,n4⟩:=H2.nds2;have HL:Hid (Calls prog 85 #[.slice a E.2.fl.length A0] w2 fun e w'=>e=.returned (.int .i64 (cu (bE t 5 tr).1 (bE t 5 tr).2))/\Below w2.heap.size w2 w'):=
  uh t 5 tr a g 0 A0 E.2.fl.length w2 (by rw[h3]) HT.good HT.size (by omega) n2 n3 (fun h=>⟨(n4 h).1,(n4 h).2.2.1,by rw[<- h3];exact(n4 h).2.2.2⟩)
 have HN:Hid (E.2.fl.length<=A0/\A0<=maxLen/\(0<E.2.fl.length->a=some ⟨g,0,none⟩/\w.heap.size+1<=g/\g<w2.heap.size/\bH w2 g 0 E.2.fl)):=⟨n2,n3,n4⟩;have H3:=ah h3;clear n1 n2 n3 n4 h3 HT;have B5:Hid (Calls prog 85 #[.slice a E.2.fl.length A0] w2 fun e w'=>e=.returned (.int .i64 M)/\Below w2.heap.size w2 w'):=by rw[HM];exact HL
 clear HL HM;go_wp2_with fail
 refine B5.mono ?_;rintro e w3 ⟨rfl,A4⟩;have B9:w3.cell? ⟨w.heap.size+1,3,none⟩=some (.slice a E.2.fl.length A0):=by
  rw[World.cell?_of_block (A4.block (w.heap.size+1) (ak H2.blk))];exact c3
 have A5:Hid (Below w.heap.size w w3/\Below w2.heap.size w2 w3):=⟨B0.trans (A4.mono B0.size),A4⟩;have g3:w3.heap[w.heap.size]?=some (.cells #[.slice none 0 0,.int .i64 0] 117):=(A4.block _ (ak A6)).trans A6;have B6:w.heap.size<w3.heap.size:=ak g3;clear A4 c2 c3 c6;have d0:w3.cell? ⟨w.heap.size,0,none⟩=some (.slice none 0 0):=(ag g3).trans rfl;have d1:w3.cell? ⟨w.heap.size,1,none⟩=some (.int .i64 0):=(ag g3).trans rfl;have y0:w3.frozen? ⟨w.heap.size,0,none⟩=false:=aC g3;have y1:w3.frozen? ⟨w.heap.size,1,none⟩=false:=aC g3;clear g3 A6;go_wp2_with fail
 refine bodyPost_ret (v:=.tuple #[.agg #[.slice a E.2.fl.length A0,.int .i64 M],.int .i64 0,.int .i64 0]) (by simp[results,results48,go_sem,d0,d1]) rfl ?_;have B2:Below w.heap.size w ((w3.setCell ⟨w.heap.size,0,none⟩ (.slice a E.2.fl.length A0)).setCell ⟨w.heap.size,1,none⟩ (.int .i64 M)):=(A5.1.setCell (p:=⟨w.heap.size,0,none⟩) (v9 _) _).setCell (p:=⟨w.heap.size,1,none⟩) (v9 _) _;by_cases hp:0<E.2.fl.length
 .obtain⟨k1,k2,k3,k4⟩:=HN.2.2 hp;refine⟨_,g,rfl,⟨a,_,A0,0,rfl,by rw[H3],HN.1,HN.2.1,fun _=>⟨k1,?_⟩⟩,?_,B2⟩
  .rw[<- H3];refine k4.keep ?_;rw[q8 _ _ _ _ (show g≠w.heap.size from by omega),q8 _ _ _ _ (show g≠w.heap.size from by omega)];exact A5.2.block g k3
  .have:=A5.2.size;simp[World.setCell];omega
 .refine⟨_,w.heap.size,rfl,⟨a,_,A0,0,rfl,by rw[H3],HN.1,HN.2.1,fun h=>absurd h hp⟩,?_,B2⟩;simp[World.setCell];exact B6
theorem tn {w:World}{B:Nat}{e:TypeId}{size:Nat}{v:Value}{n:Nat}{xs:List Value}(h:w.ownsRow 0 e size v n xs)(hB:∀ b,v.ownBlock=some b->B<=b):w.ownsRow B e size v n xs:=by
 refine⟨h.1,?_⟩;rcases h.2 with h2|⟨g,cap,cur,rfl,_,r⟩
 .exact .inl h2
 .exact .inr ⟨g,cap,cur,rfl,hB g rfl,r⟩
theorem FF (t:ByteArray)(ht:t.size<=400)(tr:af 5)(hT:bu t tr)(v:Value)(g:Nat)(M:Int)(w:World)(hS:fC t 5 w g v tr)(hg:g<w.heap.size):
  Calls prog 49 #[.agg #[v,.int .i64 M]] w fun e w'=>∃ sv,e=.returned sv/\w'.ownsRow w.heap.size 91 4 sv (cL t tr).length (aZ (cL t tr))/\Below w.heap.size w w':=by
 have A1:=hT.len ht;obtain⟨a,n,A3,A6,rfl,hn,A0,A2,A4⟩:=hS;have HB:Hid (∀ W:World,(∀ k:Nat,W.heap[k]?=((w.alloc (.cells #[.slice a n A3,.int .i64 M] 117)).alloc (.cells #[.slice none 0 0] 164)).heap[k]?) ->
   Calls prog 86 #[.pointer (some ⟨w.heap.size+1,0,none⟩),.slice a n A3,.int .i64 ((0:Nat):Int)] W fun e w'=>e=.returned (.tuple #[])/\(∃ sv',aS w.heap.size w' (w.heap.size+1) sv' (cL t tr))/\Below w.heap.size W w'):=by
  intro W hW;have h0:=Gj t 5 tr (.slice a n A3) g 0 w.heap.size (w.heap.size+1) (.slice none 0 0) [] W ⟨a,n,A3,A6,rfl,hn,A0,A2,fun hp=>⟨(A4 hp).1,(A4 hp).2.keep ?_⟩⟩ hT.good (by omega) hT.size (by simp;exact Qc A1 (by omega)) hg ⟨by omega,?_,Qg _ _ _ _,fun b hb=>(by cases hb)⟩
  .simpa [cL] using h0
  .rw[hW g,q9 _ _ _ (by simp;omega),q9 _ _ _ hg]
  .rw[hW];exact ey _ _ _
 have A5:Hid (∀ o1 o2,Below w.heap.size w ((w.alloc o1).alloc o2)):=fun o1 o2=>((v7 _ _).alloc (v9 _) _).alloc (by simp) _;clear hT hn A0 A2 A4 A1;go_enter func49,ntmps49
 go_wp2_with fail
 refine(HB _ (fun _=>rfl)).mono ?_;rintro e w1 ⟨rfl,⟨s1,h1⟩,b1⟩;have c0:w1.cell? ⟨w.heap.size+1,0,none⟩=some s1:=(ag h1.blk).trans rfl;have HH:Hid (aS w.heap.size w1 (w.heap.size+1) s1 (cL t tr)/\Below w.heap.size w w1):=⟨h1,(A5 _ _).trans b1⟩;clear h1 b1 HB;go_wp2_with fail
 go_ret;exact⟨s1,rfl,tn HH.1.own HH.1.new,HH.2⟩
theorem zu (t:ByteArray)(ht:t.size<=400)(tr:af 5)(hT:bu t tr)(w:World):
  Calls prog 17 #[.string t] w fun e w'=>∃ sv,e=.returned (.tuple #[sv,.int .i64 0,.int .i64 0])/\w'.ownsRow w.heap.size 91 4 sv (cL t tr).length (aZ (cL t tr))/\Below w.heap.size w w':=by
 have HT:=ah hT;obtain⟨M,hM⟩:∃ M,M=cu (bE t 5 tr).1 (bE t 5 tr).2:=⟨_,rfl⟩;have hR:=Bs t ht tr hT w;rw[<- hM]at hR;have HR:=ah hR;clear hT hM hR;obtain⟨C,hC⟩:∃ C,C=cL t tr:=⟨_,rfl⟩;rw[<- hC];have HC:=ah hC;clear hC;go_enter func17,ntmps17
 go_wp2_with fail
 refine HR.mono ?_;rintro e w1 ⟨v,g,rfl,hS,hg,A1⟩;obtain⟨va,vn,vc,hv⟩:∃ a n c,v=.slice a n c:=by obtain⟨a,n,c,_,h,_⟩:=hS;exact⟨a,n,c,h⟩
 subst hv;have HS:Hid (fC t 5 w1 g (.slice va vn vc) tr/\Below w.heap.size w w1):=⟨hS,A1⟩;clear hS A1;have HK:Hid (∀ o,Calls prog 49 #[.agg #[.slice va vn vc,.int .i64 M]] (w1.alloc o) fun e w'=>∃ a cap,e=.returned (.slice a C.length cap)/\w'.ownsRow w1.heap.size 91 4 (.slice a C.length cap) C.length (aZ C)/\Below w1.heap.size w1 w'):=fun o=>by
  rw[HC];refine(FF t ht tr HT _ g M (w1.alloc o) (HS.out.1.keep (q9 _ _ _ hg)) (by simp;omega)).mono ?_;rintro e w2 ⟨sv,he,ho,hb⟩;obtain⟨a2,A0,A3⟩:=bD ho;subst A3;refine⟨a2,A0,he,tn (mK ho) fun b hb'=>?_,((v7 _ _).alloc (v9 _) _).trans (hb.mono (by simp))⟩;have h1:=(cS ho hb').1;simp at h1;omega
 go_wp2_with fail
 refine(HK _).mono ?_;rintro e w2 ⟨a2,A0,rfl,ho,A2⟩;have HO:Hid (w2.ownsRow w.heap.size 91 4 (.slice a2 C.length A0) C.length (aZ C)/\Below w.heap.size w w2):=by
  refine⟨tn (mK ho) fun b hb=>?_,HS.out.2.trans (A2.mono HS.out.2.size)⟩;have h1:=(cS ho hb).1;have h2:=HS.out.2.size;omega
 clear ho A2;go_wp2_with fail
 refine bodyPost_ret (v:=.tuple #[.slice a2 C.length A0,.int .i64 0,.int .i64 0]) (by simp[results,results17,go_sem]) rfl ⟨_,rfl,HO.1,HO.2⟩
theorem uk (t:ByteArray)(f p:Int)(hf:f≠0)(w:World)(hR:∀ w:World,Calls prog 48 #[.string t] w fun e w'=>(∃ a n cap m,e=.returned (.tuple #[.agg #[.slice a n cap,.int .i64 m],.int .i64 f,.int .i64 p]))/\Below w.heap.size w w'):
  Calls prog 17 #[.string t] w fun e w'=>e=.returned (.tuple #[.slice none 0 0,.int .i64 f,.int .i64 p])/\Below w.heap.size w w':=by
 have HR:=ah hR;have b1:(f != 0)=true:=by simpa using hf
 clear hR hf;go_enter func17,ntmps17
 go_wp2_with fail
 refine(HR _).mono ?_;rintro e w1 ⟨⟨a,n,cap,m,rfl⟩,A0⟩;have HB:=ah A0;clear A0;go_wp2_with fail
 refine bodyPost_ret (v:=.tuple #[.slice none 0 0,.int .i64 f,.int .i64 p]) (by simp[results,results17,go_sem]) rfl ⟨rfl,HB.alloc HB.size _⟩
end Go.Proofs.YtmmmnghiegajmaaGreat
