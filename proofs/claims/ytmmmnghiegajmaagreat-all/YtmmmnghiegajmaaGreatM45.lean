import Derived.Test.YtmmmnghiegajmaaGreatM44
set_option maxHeartbeats 8000000
set_option maxRecDepth 20000
open Go.RowKit Go.Proofs.Herald Go.Proofs.Tryz
namespace Go.Proofs.YtmmmnghiegajmaaGreat
section
variable {RT:Type} {M:aV RT} {G:RT->Prop} {ρ:RT->Pr->Prop} {CB:World->Prop} {cs:List am} {i:Nat} {hm hm':az Pr} {hd hd':az RT} {J J':List Nat} {w w' W w1 w2:World} {Pb H S Q:Nat} {u tv:Value} {s:HS} {d:DS} {ob:Obj}
def fc (M:aV RT)(G:RT->Prop)(CB:World->Prop)(cs:List am)(i:Nat)(hm':az Pr)(hd:az RT)(J' J:List Nat)(w:World)(Pb H S Q:Nat)(u tv:Value)(s:HS)(d:DS)(ob:Obj)(w1:World):Prop:=
 ∃ s1,QH M G CB cs (i+1) i hm' hd J' J w1 Pb H S Q u tv s1 d/\dm w Pb H S Q s d w1 s1 d/\w1.heap[w.heap.size]?=some ob
theorem oT (K:cY M G ρ CB cs)(h:QP M G ρ CB cs i hm hd J w Pb H S Q u tv s d)(hW:W=(w.alloc ob).drew)(ho:cB cs i hm' J' W H s w1):fc M G CB cs i hm' hd J' J w Pb H S Q u tv s d ob w1:=by
 have hb:Below w.heap.size w W:=by rw[hW];exact((v7 _ _).alloc (v9 _) _).drew
 have A0:W.heap[w.heap.size]?=some ob:=by rw[hW];exact v8 _ _
 obtain⟨s1,q1,g1,k1,_⟩:=h.q.prog K.k hb ho;exact⟨s1,q1,g1,(k1 _ (v9 _) (ak A0)).trans A0⟩
theorem qr (K:cY M G ρ CB cs)(hq:fc M G CB cs i hm' hd J' J w Pb H S Q u tv s d ob w1)(hs:ay ρ hd' hm')(ho:aX M G CB i hd' J' w1.drew S Q d w2):jF M G ρ CB cs i w Pb H S Q u tv s d w2:=by
 obtain⟨s1,q1,g1,_⟩:=hq;obtain⟨d1,q2,g2,_⟩:=q1.doc K.k (v7 _ _).drew ho;exact⟨hm',hd',J',s1,d1,⟨q2,hs⟩,g1.trans g2⟩
theorem qF (hq:fc M G CB cs i hm' hd J' J w Pb H S Q u tv s d ob w1):w1.cell? ⟨Pb,1,none⟩=some (.pointer (some ⟨S,0,none⟩))/\w1.heap[w.heap.size]?=some ob:=by
 obtain⟨s1,q1,_,k1⟩:=hq;exact⟨(ag q1.p).trans rfl,k1⟩
theorem fc.gd (K:cY M G ρ CB cs)(hq:fc M G CB cs i hm' hd J' J w Pb H S Q u tv s d ob w1):GD M G CB i hd J w1.drew S Q d:=by
 obtain⟨s1,q1,_,_⟩:=hq;exact(q1.below K.k (v7 _ _).drew).gd
theorem QP.gj (K:cY M G ρ CB cs)(h:QP M G ρ CB cs i hm hd J w Pb H S Q u tv s d)(hW:W=(w.alloc ob).drew):GJ cs i hm J W H s:=
 (h.q.below K.k (by rw[hW];exact((v7 _ _).alloc (v9 _) _).drew)).gj
theorem Gc (K:cY M G ρ CB cs)(O:Nat)(a b c:Int)(str:ByteArray)(h:QP M G ρ CB cs i hm hd J w Pb H S Q u tv s d)(hi:i<=2000000):
  Calls prog 13 #[.pointer (some ⟨Pb,0,none⟩),.agg #[.int .i64 1,.int .i64 a,.int .i64 b,.int .i64 c,.string str],.pointer (some ⟨O,0,none⟩)] w fun e w'=>e=.returned (.bool true)/\jF M G ρ CB cs i w Pb H S Q u tv s d w':=by
 obtain⟨b1,b2,b3⟩:=ay.trig K.hE h.same a;refine En Pb H S O a b c str (cP (aE cs) hm a).1 (cP (aE cs) hm a).2.1 (fc M G CB cs i (cP (aE cs) hm a).2.2 hd (cI (cP (aE cs) hm a).2.1 J 84 a 0) J w Pb H S Q u tv s d _) (jF M G ρ CB cs i w Pb H S Q u tv s d) w ((ag h.q.p).trans rfl) (ak h.q.p) (fun W hW=>?_) (fun w1 hq=>?_) (fun w1 hq=>qF hq)
 .refine(vi a W (h.gj K hW) hi).mono ?_;rintro e w1 ⟨rfl,ho⟩;exact⟨rfl,oT K h hW ho⟩
 .refine(vh K.k a w1.drew (hq.gd K) hi).mono ?_;rintro e w2 ⟨rfl,ho⟩;rw[b2]at ho;exact⟨by rw[b1,b2],qr K hq b3 ho⟩
theorem Gb (K:cY M G ρ CB cs)(O:Nat)(a b c:Int)(str:ByteArray)(h:QP M G ρ CB cs i hm hd J w Pb H S Q u tv s d)(hi:i<=2000000):
  Calls prog 13 #[.pointer (some ⟨Pb,0,none⟩),.agg #[.int .i64 2,.int .i64 a,.int .i64 b,.int .i64 c,.string str],.pointer (some ⟨O,0,none⟩)] w fun e w'=>e=.returned (.bool true)/\jF M G ρ CB cs i w Pb H S Q u tv s d w':=by
 obtain⟨b2,b3⟩:=ay.tick K.hE h.same a;refine Em Pb H S O a b c str (dU (aE cs) hm a).1 (fc M G CB cs i (dU (aE cs) hm a).2 hd (cI (dU (aE cs) hm a).1 J 75 a 0) J w Pb H S Q u tv s d _) (jF M G ρ CB cs i w Pb H S Q u tv s d) w ((ag h.q.p).trans rfl) (ak h.q.p) (fun W hW=>?_) (fun w1 hq=>?_) (fun w1 hq=>qF hq)
 .refine(xK a W (h.gj K hW) hi).mono ?_;rintro e w1 ⟨rfl,ho⟩;exact⟨rfl,oT K h hW ho⟩
 .refine(xJ K.k a w1.drew (hq.gd K) hi).mono ?_;rintro e w2 ⟨rfl,ho⟩;rw[b2]at ho;exact⟨by rw[b2],qr K hq b3 ho⟩
theorem Ha (K:cY M G ρ CB cs)(O:Nat)(a b c:Int)(str:ByteArray)(h:QP M G ρ CB cs i hm hd J w Pb H S Q u tv s d)(hi:i<=2000000):
  Calls prog 13 #[.pointer (some ⟨Pb,0,none⟩),.agg #[.int .i64 3,.int .i64 a,.int .i64 b,.int .i64 c,.string str],.pointer (some ⟨O,0,none⟩)] w fun e w'=>e=.returned (.bool true)/\jF M G ρ CB cs i w Pb H S Q u tv s d w':=by
 obtain⟨b2,b3⟩:=ay.ack K.hE h.same a b;refine Fc Pb H S O a b c str (di (aE cs) hm a b).1 (fc M G CB cs i (di (aE cs) hm a b).2 hd (cI (di (aE cs) hm a b).1 J 65 a b) J w Pb H S Q u tv s d _) (jF M G ρ CB cs i w Pb H S Q u tv s d) w ((ag h.q.p).trans rfl) (ak h.q.p) (fun W hW=>?_) (fun w1 hq=>?_) (fun w1 hq=>qF hq)
 .refine(xQ a b W (h.gj K hW) hi).mono ?_;rintro e w1 ⟨rfl,ho⟩;exact⟨rfl,oT K h hW ho⟩
 .refine(yl K.k a b w1.drew (hq.gd K) hi).mono ?_;rintro e w2 ⟨rfl,ho⟩;rw[b2]at ho;exact⟨by rw[b2],qr K hq b3 ho⟩
theorem CT (K:cY M G ρ CB cs)(O:Nat)(a b c:Int)(str:ByteArray)(h:QP M G ρ CB cs i hm hd J w Pb H S Q u tv s d)(hi:i<=2000000):
  Calls prog 13 #[.pointer (some ⟨Pb,0,none⟩),.agg #[.int .i64 4,.int .i64 a,.int .i64 b,.int .i64 c,.string str],.pointer (some ⟨O,0,none⟩)] w fun e w'=>e=.returned (.bool true)/\jF M G ρ CB cs i w Pb H S Q u tv s d w':=by
 obtain⟨b2,b3⟩:=ay.cancel K.hE h.same a;refine At Pb H S O a b c str (dH (aE cs) hm a).1 (fc M G CB cs i (dH (aE cs) hm a).2 hd (cI (dH (aE cs) hm a).1 J 67 a 0) J w Pb H S Q u tv s d _) (jF M G ρ CB cs i w Pb H S Q u tv s d) w ((ag h.q.p).trans rfl) (ak h.q.p) (fun W hW=>?_) (fun w1 hq=>?_) (fun w1 hq=>qF hq)
 .refine(vM a W (h.gj K hW) hi).mono ?_;rintro e w1 ⟨rfl,ho⟩;exact⟨rfl,oT K h hW ho⟩
 .refine(vL K.k a w1.drew (hq.gd K) hi).mono ?_;rintro e w2 ⟨rfl,ho⟩;rw[b2]at ho;exact⟨by rw[b2],qr K hq b3 ho⟩
theorem fc.write (K:cY M G ρ CB cs){s1:HS}(q1:QH M G CB cs (i+1) i hm' hd J' J w1 Pb H S Q u tv s1 d)(g1:dm w Pb H S Q s d w1 s1 d)(ho:w1.heap[w.heap.size]?=some ob){Z:Nat->Prop}(hB:M.B0<=w.heap.size)(hf:Fr Z w1 w')(hz:∀ k,Z k->w.heap.size<k/\¬ eE Pb H S Q s1 d k/\ek w1 k):fc M G CB cs i hm' hd J' J w Pb H S Q u tv s d ob w':=
 ⟨s1,q1.write K.k hf fun k _ hk=>⟨(hz k hk).2.1,by have:=(hz k hk).1;omega,(hz k hk).2.2⟩,g1.write hf fun k hk=>by have:=(hz k hk).1;omega,(hf.block _ (ak ho) fun hk=>by have:=(hz _ hk).1;omega).trans ho⟩
theorem EN (K:cY M G ρ CB cs)(O:Nat)(a b c:Int)(str:ByteArray)(h:QP M G ρ CB cs i hm hd J w Pb H S Q u tv s d)(hi:i<=2000000):
  Calls prog 13 #[.pointer (some ⟨Pb,0,none⟩),.agg #[.int .i64 5,.int .i64 a,.int .i64 b,.int .i64 c,.string str],.pointer (some ⟨O,0,none⟩)] w fun e w'=>e=.returned (.bool true)/\jF M G ρ CB cs i w Pb H S Q u tv s d w':=by
 obtain⟨b1,b2,b3⟩:=ay.drain h.same a;have hB:=h.q.B;have A1:∀ {X:Nat},w.heap.size<=X->¬ d.own S Q X:=fun hX hz=>by have:=h.q.gd.lt hz;omega
 refine BH Pb H S O a b c str (cU hm a).1 (cU hm a).2.1 (fc M G CB cs i (cU hm a).2.2 hd (cI (cU hm a).2.1 J 68 a 0) J w Pb H S Q u tv s d (.cells #[.int .i64 5,.int .i64 a,.int .i64 b,.int .i64 c,.string str] 47)) (jF M G ρ CB cs i w Pb H S Q u tv s d) w ((ag h.q.p).trans rfl) (ak h.q.p) ?_ ?_ (fun w1 X ox hX hox hq=>?_) (fun w1 X ox hX hox hq=>?_) (fun w1 hq=>?_)
 .refine(sG a _ (h.gj K rfl) hi).mono ?_;rintro e w1 ⟨rfl,ho⟩;obtain⟨s1,q1,g1,k1⟩:=oT K h rfl ho;refine⟨rfl,ak k1,fun o2=>fc.write K q1 g1 k1 hB ((Fr.refl (fun _=>False) _).alloc _) fun k hk=>hk.elim⟩
 .obtain⟨W,hW⟩:∃ W,W=((w.alloc (.cells #[.int .i64 5,.int .i64 a,.int .i64 b,.int .i64 c,.string str] 47)).alloc (.cells #[.int .i64 0,.int .i64 0,.int .i64 0,.int .i64 0] 87)).drew:=⟨_,rfl⟩;have hs:W.heap.size=w.heap.size+2:=by rw[hW];show((w.alloc _).alloc _).heap.size=_;simp
  have hz:W.heap[w.heap.size+1]?=some (.cells #[.int .i64 0,.int .i64 0,.int .i64 0,.int .i64 0] 87):=by rw[hW];exact ey _ _ _
  have ho:W.heap[w.heap.size]?=some (.cells #[.int .i64 5,.int .i64 a,.int .i64 b,.int .i64 c,.string str] 47):=by
   rw[hW];show((w.alloc _).alloc _).heap[w.heap.size]?=_;rw[q9 _ _ _ (by simp)];exact v8 _ _
  have hb:Below w.heap.size w W:=by rw[hW];exact(((v7 _ _).alloc (v9 _) _).alloc (by simp) _).drew
  rw[<- hW];refine(sG a W (h.q.below K.k hb).gj hi).mono ?_;rintro e w1 ⟨rfl,hn⟩;obtain⟨s1,q1,g1,k1,n1⟩:=h.q.prog K.k hb hn;have A2:=(k1 _ (by omega) (by omega)).trans hz;refine⟨rfl,A2,fun u0 u1 u2 u3=>fc.write K q1 g1 ((k1 _ (by omega) (by omega)).trans ho) hB (rZ (S:=fun k=>k=w.heap.size+1) (Fr.refl _ _) rfl _ _ _ _) fun k hk=>⟨by omega,fun hh=>?_,?_⟩⟩
  .rcases n1 k hh with hh|hh
   .have:=h.q.lt hh;omega
   .omega
  .rw[hk];exact⟨_,_,A2,by decide,by decide⟩
 .refine(sF K.k a w1.drew (hq.gd K) hi).mono ?_;rintro e w2 ⟨rfl,ho⟩;rw[b2]at ho;obtain⟨s1,q1,g1,_⟩:=hq;obtain⟨d1,q2,g2,k2,_⟩:=q1.doc K.k (v7 _ _).drew ho;refine⟨by rw[<- b1,<- b2];rfl,(k2 X (ak hox) (A1 hX)).trans hox,fun o2=>⟨_,_,_,s1,d1,⟨q2.below K.k ((v7 _ _).alloc (v9 _) _),b3⟩,g1.trans (g2.trans (dm.below ((v7 _ _).alloc (v9 _) _)))⟩⟩
 .obtain⟨s1,q1,g1,_⟩:=hq;obtain⟨W,hW⟩:∃ W,W=(w1.alloc (.cells #[.int .i64 0,.int .i64 0,.int .i64 0,.int .i64 0] 87)).drew:=⟨_,rfl⟩;have hs:W.heap.size=w1.heap.size+1:=by rw[hW];show(w1.alloc _).heap.size=_;simp
  have hz:W.heap[w1.heap.size]?=some (.cells #[.int .i64 0,.int .i64 0,.int .i64 0,.int .i64 0] 87):=by rw[hW];exact v8 _ _
  have hb:Below w1.heap.size w1 W:=by rw[hW];exact((v7 _ _).alloc (v9 _) _).drew
  have A4:=ak hox;have hg:=g1.fr.size;rw[<- hW];refine(sF K.k a W (q1.below K.k hb).gd hi).mono ?_;rintro e w2 ⟨rfl,ho⟩;rw[b2]at ho;obtain⟨d1,q2,g2,k2,n2⟩:=q1.doc K.k hb ho;have A3:=(k2 w1.heap.size (by omega) (A1 (by omega))).trans hz;have A5:=(k2 X (by omega) (A1 hX)).trans ((hb.block X A4).trans hox);refine⟨by rw[<- b1,<- b2];rfl,A3,fun u0 u1 u2 u3=>⟨?_,_,_,_,s1,d1,⟨q2.write K.k (rZ (S:=fun k=>k=w1.heap.size) (Fr.refl _ _) rfl _ _ _ _) fun k _ hk=>⟨fun hh=>?_,by omega,?_⟩,b3⟩,g1.trans (g2.write (rZ (S:=fun k=>k=w1.heap.size) (Fr.refl _ _) rfl _ _ _ _) fun k hk=>by omega)⟩⟩
  .have A0:X≠w1.heap.size:=by omega
   rw[q8 _ _ _ _ A0,q8 _ _ _ _ A0,q8 _ _ _ _ A0,q8 _ _ _ _ A0];exact A5
  .rcases n2 k hh with hh|hh
   .have:=q1.lt hh;omega
   .omega
  .rw[hk];exact⟨_,_,A3,by decide,by decide⟩
 .obtain⟨s1,q1,_,k1⟩:=hq;exact⟨(ag q1.p).trans rfl,k1,ak q1.p⟩
end
section
variable {RT:Type} {M:aV RT} {G:RT->Prop} {CB:World->Prop} {S Q:Nat} {s:DS}
structure bW (M:aV RT)(G:RT->Prop)(CB:World->Prop)(w:World)(S Q:Nat)(s:DS)(k:Nat)(h:az RT)(J:List Nat)(wr:World):Prop where
 ex:∃ s':DS,GD M G CB k h J wr S Q s'/\∀ b,s'.own S Q b->s.own S Q b\/w.heap.size<=b
 fr:Fr (s.own S Q) w wr
theorem bW.step {w wr w':World}{k:Nat}{h':az RT}{J':List Nat}{s':DS}(hg:∀ b,s'.own S Q b->s.own S Q b\/w.heap.size<=b)(hf:Fr (s.own S Q) w wr)(hn:aX M G CB k h' J' wr S Q s' w'):bW M G CB w S Q s (k+1) h' J' w':=by
 obtain⟨s1,g1,o1,f1⟩:=hn;have hz:=hf.size;refine⟨⟨s1,g1,fun b hb=>?_⟩,?_⟩
 .rcases o1 b hb with h|h
  .exact hg b h
  .exact .inr (by omega)
 .have a1:Fr (fun b=>s.own S Q b\/w.heap.size<=b) w wr:=hf.mono fun b _ hb=>.inl hb;have a2:Fr (fun b=>s.own S Q b\/w.heap.size<=b) wr w':=f1.mono fun b _ hb=>hg b hb;exact(a1.trans a2).mono fun b hb hs=>by
   rcases hs with h|h
   .exact h
   .omega
theorem bW.below (K:cy M G CB){w wr w':World}{k:Nat}{h:az RT}{J:List Nat}(a:bW M G CB w S Q s k h J wr)(hb:Below wr.heap.size wr w'):bW M G CB w S Q s k h J w':=by
 obtain⟨⟨s1,g1,o1⟩,f1⟩:=a;exact⟨⟨s1,g1.below K hb,o1⟩,f1.trans ((Fr.of_below hb).mono fun k hk hs=>by omega)⟩
theorem EJ (K:cy M G CB)(L:List Nat)(hL:∀ x∈L,x<256)(hl:L.length<=20000000)(w:World)(g:GD M G CB 0 dM [] w S Q s):
  Calls prog 62 #[.pointer (some ⟨S,0,none⟩),.string (aI L)] w fun e w'=>∃ m,e=.returned (.int .i64 ((gT M.E (gE L 0 (L.length / 19)) dM [] 0).2.2:Nat))/\m<=L.length / 19/\bW M G CB w S Q s m (gT M.E (gE L 0 (L.length / 19)) dM [] 0).1 (gT M.E (gE L 0 (L.length / 19)) dM [] 0).2.1 w':=by
 obtain⟨N,hN⟩:∃ N,N=L.length / 19:=⟨_,rfl⟩;rw[<- hN];generalize hRR:gT M.E (gE L 0 N) dM [] 0=R;have B3:=ah hRR;have HX:=ah hL;have HG:Hid (bW M G CB w S Q s 0 dM [] w):=⟨⟨s,g,fun b hb=>.inl hb⟩,Fr.refl _ _⟩;have HK:Hid (cy M G CB):=K;clear g hL hRR K;go_enter func62,ntmps62
 go_wp2_with fail
 go_loopw [1,5] (fun jv nv wr=>∃ (k:Nat) (h:az RT) (J:List Nat),k<=N/\nv=.int .i64 (k:Nat)/\jv=.string (aI (L.drop (k*19)))/\Hid (gT M.E (gE L k (N - k)) h J k=R/\bW M G CB w S Q s k h J wr)) (fun _ nv _=>N - (intOf nv).toNat)
 case atStart=>exact⟨0,dM,[],Qa _,rfl,by rw[Nat.zero_mul,List.drop_zero],B3,HG⟩
 case round=>
  clear HG;obtain⟨k,h,J,hk,rfl,rfl,HI⟩:=hrel;have hz:(aI (L.drop (k*19))).size=L.length - k*19:=by rw[iG,List.length_drop]
  have A9:Hid ((aI (L.drop (k*19))).extract 0 19=aI (gF L k)):=by
   show _=_;rw[kU];rfl
  have B2:Hid ((aI (L.drop (k*19))).extract 19 (L.length - k*19)=aI (L.drop ((k+1)*19))):=by
   show _=_;rw[kU,List.drop_drop,Qe (by rw[List.length_drop];omega),show k*19+19=(k+1)*19 by omega]
  generalize aI (L.drop (k*19))=Z at *;by_cases hlt:k<N
  .have B1:k*19+19<=L.length:=by omega
   have B4:19<=Z.size:=by omega
   obtain⟨n',A8⟩:∃ n',N - k=n'+1:=⟨N - k - 1,by omega⟩;have A4:N - (k+1)=n':=by omega
   have A3:(gF L k).length=19:=wg B1;have A2:∀ x∈gF L k,x<256:=nN HX (k*19) 19;have B0:Hid (gT M.E (gF L k::gE L (k+1) n') h J k=R):=by
    have:=HI.1;rw[A8]at this;exact this
   obtain⟨⟨s',g',A7⟩,A6⟩:=HI.2;cases hr:gU (gF L k) with
   | none=>
    have HC:=(show Hid _ from Bn S (gF L k) A2 A3 hr wr:Hid (Calls prog 91 #[.pointer (some ⟨S,0,none⟩),.string (aI (gF L k))] wr _));rw[<- A9]at HC;have A0:Hid (R=(h,J,k)):=by
     have:=B0.out;unfold gT at this;rw[hr]at this;exact this.symm
    clear hr A2 A3 A8 A4 g' A7 A6;go_wp2_with fail
    refine HC.mono ?_;rintro e w2 ⟨rfl,b2⟩;have A1:Hid (bW M G CB w S Q s k h J w2):=HI.2.below HK b2;clear b2 HC;go_wp2_with fail
    go_ret;rw[A0];exact⟨k,rfl,hk,A1⟩
   | some q=>
    obtain⟨c,a,b⟩:=q;have HC:Hid (Calls prog 91 #[.pointer (some ⟨S,0,none⟩),.string (aI (gF L k))] wr fun e w'=>e=.returned (.bool ((fx M.E h c a b).1==0))/\bW M G CB w S Q s (k+1) (fx M.E h c a b).2 (cI (fx M.E h c a b).1 J c a b) w'):=(zZ HK (gF L k) A2 A3 c a b hr wr g' (by omega)).mono fun e w' hh=>⟨hh.1,bW.step A7 A6 hh.2⟩;rw[<- A9]at HC;have A0:Hid ((if (fx M.E h c a b).1=0 then gT M.E (gE L (k+1) n') (fx M.E h c a b).2 (cI (fx M.E h c a b).1 J c a b) (k+1) else ((fx M.E h c a b).2,cI (fx M.E h c a b).1 J c a b,k))=R):=by
     have:=B0.out;unfold gT at this;rw[hr]at this;exact this
    generalize cI (fx M.E h c a b).1 J c a b=J' at *;generalize fx M.E h c a b=P at *;clear hr A2 A3 A8 g' A7 A6;by_cases he:P.1=0
    .have be:(P.1==0)=true:=by simpa using he
     have A5:Hid (gT M.E (gE L (k+1) (N - (k+1))) P.2 J' (k+1)=R):=by
      have:=A0.out;rw[if_pos he]at this;rw[A4];exact this
     rw[be]at HC;clear he A4;go_wp2_with fail
     refine HC.mono ?_;rintro e w2 ⟨rfl,b2⟩;have A1:Hid (bW M G CB w S Q s (k+1) P.2 J' w2):=b2;clear b2 HC;go_wp2_with fail
     go_roundw;case rel=>exact⟨k+1,P.2,J',by omega,by go_num,by rw[B2.out],A5.out,A1.out⟩
     case measure=>simp[intOf];omega
    .have be:(P.1==0)=false:=by simpa using he
     have A5:Hid (R=(P.2,J',k)):=by
      have:=A0.out;rw[if_neg he]at this;exact this.symm
     rw[be]at HC;clear he A4;go_wp2_with fail
     refine HC.mono ?_;rintro e w2 ⟨rfl,b2⟩;have A1:Hid (bW M G CB w S Q s (k+1) P.2 J' w2):=b2;clear b2 HC;go_wp2_with fail
     go_ret;rw[A5];exact⟨k+1,rfl,hlt,A1⟩
  .have A0:Hid (R=(h,J,k)):=by
    have:=HI.1;rw[show N - k=0 by omega]at this;exact this.symm
   have B1:Z.size<19:=by omega
   go_wp2_with fail
   go_ret;rw[A0];exact⟨k,rfl,hk,HI.2⟩
end
def eG {RT:Type}(M:aV RT)(G:RT->Prop)(ρ:RT->Pr->Prop)(CB:World->Prop)(cs:List am)(N:Nat)(w:World)(S Q:Nat)(d:DS)(H:Nat)(w':World):Prop:=
 ∃ hm hd J s1 d1,GJ cs N hm J w' H s1/\GD M G CB N hd J w' S Q d1/\ay ρ hd hm/\(∀ k,s1.own H k->w.heap.size<=k)/\(∀ k,s1.own H k->¬ d1.own S Q k)/\(∀ k,d1.own S Q k->d.own S Q k\/w.heap.size<=k)/\Fr (d.own S Q) w w'
theorem eG.drew {RT:Type}{M:aV RT}{G:RT->Prop}{ρ:RT->Pr->Prop}{CB:World->Prop}{cs:List am}{N:Nat}{w w':World}{S Q:Nat}{d:DS}{H:Nat}(h:eG M G ρ CB cs N w S Q d H w')(K:cy M G CB):eG M G ρ CB cs N w S Q d H w'.drew:=by
 obtain⟨hm,hd,J,s1,d1,h1,h2,h3,h4,h5,h6,h7⟩:=h;have hb:Below w'.heap.size w' w'.drew:=(v7 _ _).drew;exact⟨hm,hd,J,s1,d1,h1.keep fun k hk=>hb.block k (h1.lt hk),h2.below K hb,h3,h4,h5,h6,h7.trans ((Fr.of_below hb).mono fun k hk hs=>by omega)⟩
theorem GJ.le {cs:List am}{i j:Nat}{h:az Pr}{J:List Nat}{w:World}{H:Nat}{s:HS}(g:GJ cs i h J w H s)(hj:i<=j):GJ cs j h J w H s:=
 ⟨⟨g.ga.fh,by have:=g.ga.n;omega,g.ga.snd,g.ga.ok.mono (by omega),g.ga.qs,by have:=g.ga.last;omega⟩,g.r,by have:=g.len;omega⟩
theorem Ck {RT:Type}{M:aV RT}{G:RT->Prop}{ρ:RT->Pr->Prop}{CB:World->Prop}{cs:List am}(K:cY M G ρ CB cs)(a:Option Addr)(b off cap:Nat)(L:List Nat)(hL:∀ x∈L,x<256)(hl:L.length<=20000000)(S Q:Nat)(d:DS)(w:World)(hc:aH w a b off cs)(hs:em cs=true)(g:GD M G CB 0 dM [] w S Q d)(hbd:0<cs.length->¬ d.own S Q b):
  Calls prog 33 #[.slice a cs.length cap,.string (aI L),.pointer (some ⟨S,0,none⟩)] w fun e w'=>∃ H,e=.returned (.tuple #[.pointer (some ⟨H,0,none⟩),.bool true])/\w.heap.size<=H/\eG M G ρ CB cs (L.length / 19) w S Q d H w':=by
 have hm:cs.length<=4398046511000:=by
  rcases Nat.lt_or_ge 1000 cs.length with h|h
  .rw[nz h]at hs;cases hs
  .omega
 have HC:Hid (aH w a b off cs/\(0<cs.length->¬ d.own S Q b)):=⟨hc,hbd⟩;have HS:=ah hs;have HL:Hid ((∀ x∈L,x<256)/\L.length<=20000000):=⟨hL,hl⟩;have HG:=ah g;have HB:Hid (M.B0<=w.heap.size):=Qc (g.sim.base S (.inl rfl)) (Nat.le_of_lt (g.lt (.inl rfl)));obtain⟨E,hE⟩:∃ E,E=gT (aE cs) (gE L 0 (L.length / 19)) dM [] 0:=⟨_,rfl⟩;obtain⟨D,hD⟩:∃ D,D=gT M.E (gE L 0 (L.length / 19)) dM [] 0:=⟨_,rfl⟩;have A9:Hid (ay ρ D.1 E.1/\D.2.1=E.2.1):=by
  obtain⟨q1,q2⟩:=sm K.hE (gE L 0 (L.length / 19)) [] 0 (ay.new ρ);rw[<- hE,<- hD]at q1 q2;exact⟨q1,by rw[q2]⟩
 have B3:D.2.2=E.2.2:=by
  have q2:=(sm K.hE (gE L 0 (L.length / 19)) [] 0 (ay.new ρ)).2;rw[<- hE,<- hD]at q2;rw[q2]
 have B9:=ah B3;have B7:Hid (∀ (X:Nat) (W:World),aH W (some ⟨X,0,none⟩) X 0 cs->Calls prog 61 #[.slice (some ⟨X,0,none⟩) cs.length (cs.length+2),.string (aI L)] W fun e w'=>∃ H,e=.returned (.tuple #[.pointer (some ⟨H,0,none⟩),.int .i64 (E.2.2:Nat),.int .i64 0])/\Hid (∃ s1,GJ cs (L.length / 19) E.1 E.2.1 w' H s1/\(∀ k,s1.own H k->W.heap.size<=k)/\Below W.heap.size W w')):=fun X W hX=>by
  refine(Fv L hL hl W W (fun k=>k<W.heap.size) (wd X 0 _ cs W hX hs) hs (fun k hk=>hk) (v7 _ _)).mono ?_;rintro e w' ⟨H,m,rfl,h1,⟨i,s1,h2,h3,h4,_,h6,_⟩,_⟩;rw[vz,<- hE]at *;exact⟨H,rfl,s1,h3.le (by omega),fun k hk=>(h4 k hk).1,h6⟩
 have B5:Hid (∀ W,GD M G CB 0 dM [] W S Q d->Calls prog 62 #[.pointer (some ⟨S,0,none⟩),.string (aI L)] W fun e w'=>e=.returned (.int .i64 (E.2.2:Nat))/\bW M G CB W S Q d (L.length / 19) D.1 E.2.1 w'):=fun W gW=>by
  refine(EJ K.k L hL hl W gW).mono ?_;rintro e w' ⟨m,rfl,h1,h2⟩;rw[<- hD]at h2 ⊢;obtain⟨⟨s',g',o'⟩,f'⟩:=h2;have e2:D.2.1=E.2.1:=A9.2;rw[e2]at g';exact⟨by rw[B3],⟨⟨s',g'.le h1,o'⟩,f'⟩⟩
 have HK:Hid (cY M G ρ CB cs):=K;generalize L.length / 19=N at *;clear hc hs hL hl g hE hD B3 hbd K;generalize aI L=Z at *;go_enter func33,ntmps33
 go_wp2_with fail
 refine(vj a b off cap cs _ HC.1 hm).mono ?_;rintro e w1 ⟨X,hX,rfl,A6,B1⟩;have H1:Hid (w1.heap[X]?=some (.cells (aZ (cs++[dQ,dQ])).toArray 91)/\Below w.heap.size w w1/\aH w1 (some ⟨X,0,none⟩) X 0 cs/\aH w1 a b off cs):=
  ⟨A6,B1,fun _=>⟨rfl,ak A6,oe (rest:=aZ [dQ,dQ]) (by rw[<- kv];exact A6)⟩,HC.1.keep B1⟩
 clear A6 B1;go_wp2_with fail
 refine(B7 X w1 H1.2.2.1).mono ?_;rintro e w2 ⟨H,rfl,B6⟩;obtain⟨s1,g2,o2,A3⟩:=id B6;have C0:w1.heap.size<=H:=o2 H (.inl (.inl rfl));have C1:X<w1.heap.size:=ak H1.1;have C2:w.heap.size<=w1.heap.size:=H1.2.1.size;have H2:Hid (w2.heap[X]?=some (.cells (aZ (cs++[dQ,dQ])).toArray 91)/\Below w.heap.size w w2/\aH w2 a b off cs):=
  ⟨(A3.block X (ak H1.1)).trans H1.1,H1.2.1.trans (A3.mono H1.2.1.size),H1.2.2.2.keep A3⟩
 have A1:Hid (GJ cs N E.1 E.2.1 w2 H s1/\∀ k,s1.own H k->w1.heap.size<=k):=⟨g2,o2⟩;clear A3 H1 g2 o2 B6 B7;go_wp2_with fail
 refine(wz a X b off cap cs _ hm H2.1 H2.2.2).mono ?_;rintro e w3 ⟨rfl,A2⟩;have H3:Hid (w3.heap[X]?=some (.cells (aZ (cs++[dQ,dQ])).toArray 91)/\Below w.heap.size w w3/\aH w3 a b off cs):=
  ⟨(A2.block X (ak H2.1)).trans H2.1,H2.2.1.trans (A2.mono H2.2.1.size),H2.2.2.keep A2⟩
 have A7:Hid (GJ cs N E.1 E.2.1 w3 H s1):=A1.1.keep fun k hk=>A2.block k (A1.1.lt hk);clear A2 H2;go_wp2_with fail
 refine(wu X cs.length _ (cs++[dQ,dQ]) _ (by simp) hm H3.1).mono ?_;rintro e w4 ⟨rfl,A5⟩;have B8:Below w.heap.size w w4:=H3.2.1.trans ((A5.mono (fun k _ hk=>by show w.heap.size<=k;omega)).below H3.out.2.1.size);have H4:Hid (Below w.heap.size w w4/\aH w4 a b off cs):=
  ⟨B8,H3.2.2.fr A5 (fun hp=>by have:=(HC.1 hp).2.1;omega)⟩
 have A8:Hid (GJ cs N E.1 E.2.1 w4 H s1):=A7.keep fun k hk=>A5.block k (A7.lt hk) fun e=>by have:=A1.2 k hk;omega
 clear A5 H3 B8 A7;go_wp2_with fail
 refine(rG a b off cap cs _ H4.2).mono ?_;rw[HS.out];rintro e w5 ⟨rfl,A4⟩;have A0:Hid (GJ cs N E.1 E.2.1 w5 H s1/\Below w.heap.size w w5/\GD M G CB 0 dM [] w5 S Q d):=
  ⟨A8.keep fun k hk=>A4.block k (A8.lt hk),H4.1.trans (A4.mono H4.1.size),HG.below HK.k (H4.1.trans (A4.mono H4.1.size))⟩
 clear A4 H4 A8;go_wp2_with fail
 refine(B5 w5 A0.2.2).mono ?_;rintro e w6 ⟨rfl,ha⟩;obtain⟨⟨d1,g6,o6⟩,f6⟩:=ha;have B4:∀ k,s1.own H k->¬ d.own S Q k:=fun k hk hz=>by have:=A1.2 k hk;have:=HG.lt hz;omega
 have B2:GJ cs N E.1 E.2.1 w6 H s1:=A0.1.keep fun k hk=>f6.block k (A0.1.lt hk) (B4 k hk);have H6:Hid (eG M G ρ CB cs N w S Q d H w6):=by
  have C3:=A0.2.1.size;refine⟨E.1,D.1,E.2.1,s1,d1,B2,g6,A9.1,fun k hk=>by have:=A1.2 k hk;omega,fun k hk hz=>?_,fun k hk=>(o6 k hk).imp id fun hh=>by omega,?_⟩
  .rcases o6 k hz with hh|hh
   .exact B4 k hk hh
   .have:=A0.1.lt hk;omega
  .exact((Fr.of_below A0.2.1).mono fun k hk hs=>by omega).trans f6
 have HJ:=(show Hid _ from rS (B:=0) (m:=N) (w0:=w6) (F:=fun _=>False) w6 ⟨N,s1,v9 _,B2,fun k _=>⟨Qa _,id⟩,fun k hk=>hk.elim,v7 _ _,Qa _⟩:Hid (Calls prog 16 #[.pointer (some ⟨H,0,none⟩)] w6 _));have c7:w6.cell? ⟨S,7,none⟩=some (.string (aI E.2.1)):=(ag g6.sim.at'.sB).trans rfl;clear B4 B2 g6 o6 f6 B5 A0 A1 A9 B9;generalize aI E.2.1=JS at *;go_wp2_with fail
 refine HJ.mono ?_;rintro e w7 ⟨rfl,hw⟩;rw[hw];clear hw HJ;go_wp2_with fail
 go_region;all_goals
  go_wp2_with fail
  go_ret2;exact⟨H,rfl,by omega,H6.out.drew HK.out.k⟩
def ln:DS:=⟨.slice none 0 0,fun _=>.slice none 0 0,[]⟩
theorem oL {S Q k:Nat}(h:ln.own S Q k):k=S\/k=Q:=by
 rcases h with hk|hk|⟨d,_,hk⟩|hk|⟨x,hx,_⟩
 .exact .inl hk
 .exact .inr hk
 .cases hk
 .cases hk
 .cases hx
theorem ym {RT:Type}{M:aV RT}{G:RT->Prop}{CB:World->Prop}{w:World}{S Q:Nat}(hS:w.heap[S]?=some (.cells #[.bool M.s.tx,M.s.pg,M.s.code,.int .i64 0,.int .i64 0,.slice none 0 0,.slice (some ⟨Q,0,none⟩) 3 3,.string ⟨#[]⟩] 60)/\w.heap[Q]?=some (.cells #[.slice none 0 0,.slice none 0 0,.slice none 0 0] 99))(hcb:CB w)(h1:M.B0<=S)(h2:M.B0<=Q):GD M G CB 0 dM [] w S Q ln:=
 ⟨⟨⟨hS.1,hS.2,fun d _=>Qg _ _ _ _,fun d e b _ _ hb=>(by cases hb),Qg _ _ _ _,fun x hx=>(by cases hx),List.Pairwise.nil⟩,fun k hk=>by
  rcases oL hk with rfl|rfl
  .exact h1
  .exact h2,trivial⟩,hcb,(cC.new _ _).mono (by simp),by simp[dM],by simp⟩
theorem eG.pair {RT:Type}{M:aV RT}{G:RT->Prop}{ρ:RT->Pr->Prop}{CB:World->Prop}{cs:List am}{N:Nat}{w w':World}{S Q:Nat}{d:DS}{H:Nat}(K:cy M G CB)(h:eG M G ρ CB cs N w S Q d H w')(hB:M.B0<=w.heap.size)(u tv:Value):
  ∃ hm hd J s1 d1,QP M G ρ CB cs N hm hd J (w'.alloc (.cells #[.pointer (some ⟨H,0,none⟩),.pointer (some ⟨S,0,none⟩),u,tv] 42)) w'.heap.size H S Q u tv s1 d1/\∀ k,eE w'.heap.size H S Q s1 d1 k->d.own S Q k\/w.heap.size<=k:=by
 obtain⟨hm,hd,J,s1,d1,h1,h2,h3,h4,h5,h6,h7⟩:=h;have hb:Below w'.heap.size w' (w'.alloc (.cells #[.pointer (some ⟨H,0,none⟩),.pointer (some ⟨S,0,none⟩),u,tv] 42)):=(v7 _ _).alloc (v9 _) _;have hz:=h7.size;refine⟨hm,hd,J,s1,d1,⟨⟨v8 _ _,h1.keep fun k hk=>hb.block k (h1.lt hk),h2.below K hb,h5,fun hk=>?_,fun hk=>?_,fun k hk=>?_,by omega⟩,h3⟩,fun k hk=>?_⟩
 .have:=h1.lt hk;omega
 .have:=h2.lt hk;omega
 .have:=h4 k hk;omega
 .rcases hk with rfl|hk|hk
  .exact .inr hz
  .exact .inr (h4 k hk)
  .exact h6 k hk
end Go.Proofs.YtmmmnghiegajmaaGreat
