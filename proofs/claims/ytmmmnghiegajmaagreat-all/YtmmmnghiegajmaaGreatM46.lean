import Derived.Test.YtmmmnghiegajmaaGreatM45
import Derived.Test.YtmmmnghiegajmaaGreatM39
open Go.RowKit Go.Proofs.Herald Go.Proofs.Tryz
namespace Go.Proofs.YtmmmnghiegajmaaGreat
structure BK (w:World)(O:Nat)(o:fu)(B0 n:Nat):Prop where
 oa:OA w O o
 base:∀ k,bP O o k->B0<=k
 n0:0<=o.n
 n1:o.n<=3*n+100
 cb:o.cb.length<=4*n
 rb:o.rb.length<=8*n
 qb:o.qb.length<=8*n
theorem BK.lt {w:World}{O:Nat}{o:fu}{B0 n:Nat}(b:BK w O o B0 n){k:Nat}(hk:bP O o k):k<w.heap.size:=(b.oa.sort hk).lt
theorem BK.keep {w w':World}{O:Nat}{o:fu}{B0 n:Nat}(b:BK w O o B0 n)(hk:∀ k,bP O o k->w'.heap[k]?=w.heap[k]?){n':Nat}(hn:n<=n'):BK w' O o B0 n':=
 ⟨b.oa.keep hk,b.base,b.n0,by have:=b.n1;omega,by have:=b.cb;omega,by have:=b.rb;omega,by have:=b.qb;omega⟩
structure PB {RT:Type}(M:aV RT)(G:RT->Prop)(ρ:RT->Pr->Prop)(CB:World->Prop)(cs:List am)(i:Nat)(hm:az Pr)(hd:az RT)(J:List Nat)(w:World)(Pb H S Q:Nat)(u tv:Value)(s:HS)(d:DS)(O:Nat)(o:fu)(n:Nat):Prop where
 q:QP M G ρ CB cs i hm hd J w Pb H S Q u tv s d
 b:BK w O o M.B0 n
 dj:∀ k,eE Pb H S Q s d k->¬ bP O o k
def mW {RT:Type}(M:aV RT)(G:RT->Prop)(ρ:RT->Pr->Prop)(CB:World->Prop)(cs:List am)(i:Nat)(w:World)(Pb H S Q:Nat)(u tv:Value)(s:HS)(d:DS)(O:Nat)(o:fu)(n:Nat)(w':World):Prop:=
 ∃ hm hd J s1 d1 o1,PB M G ρ CB cs (i+1) hm hd J w' Pb H S Q u tv s1 d1 O o1 (n+1)/\(∀ k,eE Pb H S Q s1 d1 k->eE Pb H S Q s d k\/w.heap.size<=k)/\(∀ k,bP O o1 k->bP O o k\/w.heap.size<=k)/\Fr (fun k=>eE Pb H S Q s d k\/bP O o k) w w'
section
variable {RT:Type} {M:aV RT} {G:RT->Prop} {ρ:RT->Pr->Prop} {CB:World->Prop} {cs:List am} {i:Nat} {hm:az Pr} {hd:az RT} {J:List Nat} {w w':World} {Pb H S Q:Nat} {u tv:Value} {s:HS} {d:DS} {O:Nat} {o:fu} {n:Nat}
theorem PB.next (h:PB M G ρ CB cs i hm hd J w Pb H S Q u tv s d O o n)(hq:jF M G ρ CB cs i w Pb H S Q u tv s d w'):mW M G ρ CB cs i w Pb H S Q u tv s d O o n w':=by
 obtain⟨A1,A0,J1,s1,d1,q1,g1⟩:=hq;refine⟨A1,A0,J1,s1,d1,o,⟨q1,h.b.keep (fun k hk=>g1.fr.block k (h.b.lt hk) fun hz=>h.dj k hz hk) (by omega),fun k hk hx=>?_⟩,g1.own,fun k hk=>.inl hk,g1.fr.mono fun k _ hk=>.inl hk⟩;rcases g1.own k hk with hh|hh
 .exact h.dj k hh hx
 .have:=h.b.lt hx;omega
theorem vC (K:cY M G ρ CB cs)(h:PB M G ρ CB cs i hm hd J w Pb H S Q u tv s d O o n)(hn:n<=1100000)(w0:World)(hb:Below w.heap.size w w0):
  Calls prog 15 #[.pointer (some ⟨Pb,0,none⟩),.pointer (some ⟨O,0,none⟩)] w0 fun e w'=>e=.returned (.bool true)/\mW M G ρ CB cs i w Pb H S Q u tv s d O o n w':=by
 have h1:=h.b.n1;have h2:=h.b.cb;have h3:=h.b.rb;have h4:=h.b.qb;have q0:QP M G ρ CB cs i hm hd J w0 Pb H S Q u tv s d:=⟨h.q.q.below K.k hb,h.q.same⟩;have b0:OA w0 O o:=h.b.oa.below hb;have L:LK M CB w0 Pb H S Q O u tv cs hm hd ⟨s.code,s.jr,s.rv,s.qv,s.n,aI J,d.pv,d.qv,d.rs⟩ o:=⟨q0.pp,b0,h.dj,h.b.base⟩;refine(Cf K.k.hM K.k.hCB Pb H S Q O u tv cs hm hd _ o w0 K.hE h.q.same L h.q.q.gj.ga.ok.len h.q.q.gj.ga.ok.qlen h.b.n0 (by omega) (by omega) (by omega) (by omega)).mono ?_;rintro e w' ⟨rfl,o',l1,l2,l3,l4,l5,l6,l7⟩;have hz:=hb.size;have A0:aN M.B0 w0 w':=mj l7 fun k hk hx=>⟨h.b.base k hx,b0.sort hx⟩;have q1:QP M G ρ CB cs (i+1) hm hd J w' Pb H S Q u tv s d:=⟨(q0.q.keep K.k (fun k hk=>l7.block k (q0.q.lt hk) fun hx=>h.dj k hk hx) A0).le (by omega) (by omega),h.q.same⟩;have hX:∀ k,bP O o' k->bP O o k\/w.heap.size<=k:=fun k hk=>(l6 k hk).imp id fun hh=>by omega
 refine⟨rfl,hm,hd,J,s,d,o',⟨q1,⟨l1.oa,l1.ob,by have:=h.b.n0;omega,by rw[l2];push_cast;omega,by omega,by omega,by omega⟩,l1.dj⟩,fun k hk=>.inl hk,hX,?_⟩;have f1:Fr (fun k=>eE Pb H S Q s d k\/bP O o k) w w0:=(Fr.of_below hb).mono fun k hk hs=>by omega
 exact f1.trans (l7.mono fun k _ hk=>.inr hk)
theorem Cm (K:cY M G ρ CB cs)(a b c:Int)(str:ByteArray)(h:PB M G ρ CB cs i hm hd J w Pb H S Q u tv s d O o n):
  Calls prog 13 #[.pointer (some ⟨Pb,0,none⟩),.agg #[.int .i64 7,.int .i64 a,.int .i64 b,.int .i64 c,.string str],.pointer (some ⟨O,0,none⟩)] w fun e w'=>e=.returned (.bool true)/\mW M G ρ CB cs i w Pb H S Q u tv s d O o n w':=by
 have A0:∀ {w1:World},Below w.heap.size w w1->mW M G ρ CB cs i w Pb H S Q u tv s d O o n w1:=fun hb=>h.next (h.q.stay K hb);refine(zL Pb H S O a b c str (aI J) (fun w1=>Below w.heap.size w w1) w ((ag h.q.q.p).trans rfl) (ak h.q.q.p) (fun ob=>?_)).mono ?_
 .have hb:Below w.heap.size w (w.alloc ob):=(v7 _ _).alloc (v9 _) _;have q1:=h.q.q.below K.k hb;refine(rS (B:=0) (m:=i) (w0:=w.alloc ob) (F:=fun _=>False) _ ⟨i,s,v9 _,q1.gj,fun k _=>⟨Qa _,id⟩,fun k hk=>hk.elim,v7 _ _,Qa _⟩).mono ?_;rintro e w1 ⟨rfl,rfl⟩;exact⟨rfl,(ag q1.p).trans rfl,(ag q1.gd.sim.at'.sB).trans rfl,hb⟩
 .rintro e w1 ⟨rfl,hb⟩;exact⟨rfl,A0 hb⟩
theorem FZ (K:cY M G ρ CB cs)(x:lT)(h:PB M G ρ CB cs i hm hd J w Pb H S Q u tv s d O o n)(hi:i<=2000000)(hn:n<=1100000):
  Calls prog 13 #[.pointer (some ⟨Pb,0,none⟩),.agg #[.int .i64 x.k,.int .i64 x.a,.int .i64 x.b,.int .i64 x.c,.string x.str],.pointer (some ⟨O,0,none⟩)] w fun e w'=>e=.returned (.bool true)/\mW M G ρ CB cs i w Pb H S Q u tv s d O o n w':=by
 obtain⟨k,a,b,c,str⟩:=x;simp only;by_cases h0:k<=0\/8<=k
 .exact Ek Pb O k a b c str _ w h0 fun ob=>h.next (h.q.stay K ((v7 _ _).alloc (v9 _) _))
 .have nx:∀ {e:Ending} {w':World},(e=.returned (.bool true)/\jF M G ρ CB cs i w Pb H S Q u tv s d w')->(e=.returned (.bool true)/\mW M G ρ CB cs i w Pb H S Q u tv s d O o n w'):=fun hh=>⟨hh.1,h.next hh.2⟩;rcases(show k=1\/k=2\/k=3\/k=4\/k=5\/k=6\/k=7 by omega) with rfl|rfl|rfl|rfl|rfl|rfl|rfl
  .exact(Gc K O a b c str h.q hi).mono fun _ _=>nx
  .exact(Gb K O a b c str h.q hi).mono fun _ _=>nx
  .exact(Ha K O a b c str h.q hi).mono fun _ _=>nx
  .exact(CT K O a b c str h.q hi).mono fun _ _=>nx
  .exact(EN K O a b c str h.q hi).mono fun _ _=>nx
  .exact El Pb O a b c str _ w fun ob=>vC K h hn _ ((v7 _ _).alloc (v9 _) _)
  .exact Cm K a b c str h
theorem FD (w:World)(B0:Nat)(hB:B0<=w.heap.size):BK (w.alloc (.cells #[.int .i64 0,.slice none 0 0,.slice none 0 0,.slice none 0 0] 28)) w.heap.size ⟨0,.slice none 0 0,.slice none 0 0,.slice none 0 0,[],[],[]⟩ B0 0/\∀ k,bP w.heap.size ⟨0,.slice none 0 0,.slice none 0 0,.slice none 0 0,[],[],[]⟩ k->k=w.heap.size:=by
 have hX:∀ k,bP w.heap.size ⟨0,.slice none 0 0,.slice none 0 0,.slice none 0 0,[],[],[]⟩ k->k=w.heap.size:=fun k hk=>by
  rcases hk with hk|hk|hk|hk|⟨b,hb,_⟩|⟨b,hb,_⟩|⟨b,hb,_⟩
  .exact hk
  .cases hk
  .cases hk
  .cases hk
  .cases hb
  .cases hb
  .cases hb
 exact⟨⟨⟨v8 _ _,.inl rfl,Qg _ _ _ _,Qg _ _ _ _,Qg _ _ _ _,fun b hb=>(by cases hb),fun b hb=>(by cases hb),fun b hb=>(by cases hb),fun b hb=>(by cases hb),fun b hb=>(by cases hb),fun b hb=>(by cases hb)⟩,fun k hk=>by rw[hX k hk];exact hB,by simp,by simp,by simp,by simp,by simp⟩,hX⟩
end
theorem BE {t:ByteArray}{tr:af 5}(hT:bu t tr)(ht:t.size<=400)(pg:Value)(B0:Nat)(G:TR->Prop):wM (jc t tr pg B0) G (fun w=>ai t w (fun _=>True) 5 pg tr):=by
 intro S Q rec h pv qv rs dev C w H htr hI hC hr hlast;unfold cP;by_cases hd:0<=dev/\dev<=2
 .rw[if_neg (by simpa using hd)];by_cases hl:5<=h.rs.length
  .rw[if_pos hl,oz (by simp)];exact yX S Q rec h pv qv rs dev w H hd hl
  .rw[if_neg hl,rh];have h1:=zp hT ht pg B0 S Q rec h pv qv rs dev C w H htr hI hr hlast hd hl;unfold cP at h1;rw[if_neg (by simpa using hd),if_neg hl]at h1;exact h1
 .rw[if_pos (by simpa using hd),oz (by simp)];exact Ai S Q rec h pv qv rs dev w H hd
def mx (t:ByteArray)(tr:af 5)(r:TR):Prop:=∃ p,jh t (cL t tr) 6400 p r/\tq (cL t tr) p
def pj (t:ByteArray)(tr:af 5)(r:TR)(m:Pr):Prop:=∃ p,jh t (cL t tr) 6400 p r/\mF p m
def mw (t:ByteArray)(tr:af 5)(pg:Value)(w:World):Prop:=ai t w (fun _=>True) 5 pg tr
theorem oq {t:ByteArray}{tr:af 5}(hT:bu t tr)(ht:t.size<=400)(pg:Value)(B0:Nat):cY (jc t tr pg B0) (mx t tr) (pj t tr) (mw t tr pg) (cL t tr):=
 ⟨⟨nH t tr pg B0,fun _ _ h hs=>ai.still hs _ _ _ h,(wX (hT.sound ht)).same (hT.same ht) (fun _ _=>rfl),BE hT ht pg B0 _⟩,(hT.same ht).comp (vP (hT.sound ht))⟩
structure PE where
 p:Nat
 x:Nat->Prop
 c:Nat
def eL (B0 n:Nat)(w:World)(e:PE):Prop:=
 ∃ (t:ByteArray) (tr:af 5) (pg:Value) (H S Q:Nat) (hm:az Pr) (hd:az TR) (J:List Nat) (s:HS) (d:DS),bu t tr/\t.size<=400 /\
  QP (jc t tr pg B0) (mx t tr) (pj t tr) (mw t tr pg) (cL t tr) n hm hd J w e.p H S Q (.slice (some ⟨e.c,0,none⟩) (cL t tr).length (cL t tr).length) (.string t) s d /\
  (∀ k,e.x k ↔ eE e.p H S Q s d k)/\w.heap[e.c]?=some (.cells (aZ (cL t tr)).toArray 91)/\B0<=e.c
section
variable {B0 n n':Nat} {w w':World} {e:PE}
theorem eL.lt (h:eL B0 n w e){k:Nat}(hk:e.x k):k<w.heap.size/\B0<=k/\ek w k:=by
 obtain⟨t,tr,pg,H,S,Q,hm,hd,J,s,d,_,_,q,hx,_⟩:=h;have h1:=(hx k).mp hk;exact⟨q.q.lt h1,q.q.base h1,q.q.sort h1⟩
theorem eL.clt (h:eL B0 n w e):e.c<w.heap.size/\B0<=e.c:=by
 obtain⟨t,tr,pg,H,S,Q,hm,hd,J,s,d,_,_,q,hx,hc,hb⟩:=h;exact⟨ak hc,hb⟩
theorem eL.keep (h:eL B0 n w e)(hn:n<=n')(hk:∀ k,e.x k->w'.heap[k]?=w.heap[k]?)(hst:aN B0 w w')(hc:w'.heap[e.c]?=w.heap[e.c]?):eL B0 n' w' e:=by
 obtain⟨t,tr,pg,H,S,Q,hm,hd,J,s,d,h1,h2,q,hx,h3,h4⟩:=h;exact⟨t,tr,pg,H,S,Q,hm,hd,J,s,d,h1,h2,⟨(q.q.keep (oq h1 h2 pg B0).k (fun k hk'=>hk k ((hx k).mpr hk')) hst).le hn hn,q.same⟩,hx,hc.trans h3,h4⟩
end
def kO (m:Nat)(es:Nat->PE):List Value:=(List.range m).map fun i=>.pointer (some ⟨(es i).p,0,none⟩)
theorem CR {m:Nat}{es:Nat->PE}{i:Nat}(h:i<m):(kO m es)[i]?=some (.pointer (some ⟨(es i).p,0,none⟩)):=by
 unfold kO;simp[h]
structure aU (B0 n:Nat)(w:World)(O:Nat)(o:fu)(m:Nat)(es:Nat->PE)(lv:Value):Prop where
 bk:BK w O o B0 n
 prs:∀ i,i<m->eL B0 n w (es i)
 dj:∀ i j,i<m->j<m->i≠j->∀ k,(es i).x k->¬ (es j).x k
 cx:∀ i j,i<m->j<m->¬ (es i).x (es j).c
 bx:∀ i,i<m->(∀ k,(es i).x k->¬ bP O o k)/\¬ bP O o (es i).c
 row:w.ownsRow B0 38 1 lv m (kO m es)
 lx:∀ k,lv.ownBlock=some k->¬ bP O o k/\∀ i,i<m->¬ (es i).x k/\k≠(es i).c
 len:m<=n
section
variable {B0 n n':Nat} {w w':World} {O:Nat} {o o':fu} {m:Nat} {es:Nat->PE} {lv:Value}
theorem aU.write (h:aU B0 n w O o m es lv)(hn:n<=n'){Z:Nat->Prop}(hf:Fr Z w w')(hz:∀ k,k<w.heap.size->Z k->(¬ bP O o k/\∀ i,i<m->¬ (es i).x k/\k≠(es i).c)/\lv.ownBlock≠some k/\B0<=k/\ek w k):aU B0 n' w' O o m es lv:=by
 have A0:aN B0 w w':=mj hf fun k hk hh=>(hz k hk hh).2.2;refine⟨h.bk.keep (fun k hk=>hf.block k (h.bk.lt hk) fun hh=>(hz k (h.bk.lt hk) hh).1.1 hk) hn,fun i hi=>(h.prs i hi).keep hn (fun k hk=>hf.block k ((h.prs i hi).lt hk).1 fun hh=>((hz k ((h.prs i hi).lt hk).1 hh).1.2 i hi).1 hk) A0 (hf.block _ (h.prs i hi).clt.1 fun hh=>((hz _ (h.prs i hi).clt.1 hh).1.2 i hi).2 rfl),h.dj,h.cx,h.bx,eu h.row fun k hk=>?_,h.lx,Qc h.len hn⟩;obtain⟨_,c,hc⟩:=cS h.row hk;exact hf.block k (ak hc) fun hh=>(hz k (ak hc) hh).2.1 hk
theorem aU.below (h:aU B0 n w O o m es lv)(hn:n<=n')(hb:Below w.heap.size w w'):aU B0 n' w' O o m es lv:=
 h.write hn (Fr.of_below hb) fun k hk hh=>by omega
theorem aU.play (h:aU B0 n w O o m es lv){i:Nat}(hi:i<m){e':PE}(hp:e'.p=(es i).p)(hc:e'.c=(es i).c)(hx:∀ k,e'.x k->(es i).x k\/w.heap.size<=k)(hX:∀ k,bP O o' k->bP O o k\/w.heap.size<=k)(hf:Fr (fun k=>(es i).x k\/bP O o k) w w')(hpr:eL B0 (n+1) w' e')(hb:BK w' O o' B0 (n+1))(hd:∀ k,e'.x k->¬ bP O o' k):
  aU B0 (n+1) w' O o' m (fun j=>if j=i then e' else es j) lv:=by
 have A2:aN B0 w w':=mj hf fun k hk hh=>by
  rcases hh with hh|hh
  .exact((h.prs i hi).lt hh).2
  .exact⟨h.bk.base k hh,h.bk.oa.sort hh⟩
 have hE:∀ j,j<m->∀ k,(if j=i then e' else es j).x k->(es j).x k\/w.heap.size<=k:=fun j hj k hk=>by
  split at hk
  .rename_i e;rw[e];exact hx k hk
  .exact .inl hk
 have hC:∀ j,(if j=i then e' else es j).c=(es j).c:=fun j=>by
  split
  .rename_i e;rw[e];exact hc
  .rfl
 have hP:∀ j,(if j=i then e' else es j).p=(es j).p:=fun j=>by
  split
  .rename_i e;rw[e];exact hp
  .rfl
 refine⟨hb,fun j hj=>?_,fun a b ha hb' hab k hk hk2=>?_,fun a b ha hb' hk=>?_,fun a ha=>⟨fun k hk hx2=>?_,fun hx2=>?_⟩,?_,fun k hk=>⟨fun hx2=>?_,fun a ha=>⟨fun hk2=>?_,?_⟩⟩,Nat.le_succ_of_le h.len⟩
 .split
  .exact hpr
  .rename_i hne;refine(h.prs j hj).keep (by omega) (fun k hk=>hf.block k ((h.prs j hj).lt hk).1 fun hh=>?_) A2 (hf.block _ (h.prs j hj).clt.1 fun hh=>?_)
   .rcases hh with hh|hh
    .exact h.dj i j hi hj (fun e=>hne e.symm) k hh hk
    .exact(h.bx j hj).1 k hk hh
   .rcases hh with hh|hh
    .exact h.cx i j hi hj hh
    .exact(h.bx j hj).2 hh
 .rcases hE a ha k hk with h1|h1
  .rcases hE b hb' k hk2 with h2|h2
   .exact h.dj a b ha hb' hab k h1 h2
   .have:=((h.prs a ha).lt h1).1;omega
  .by_cases hai:a=i
   .have A1:¬ b=i:=fun e=>hab (by rw[hai,e]);rw[if_neg A1]at hk2;have:=((h.prs b hb').lt hk2).1;omega
   .rw[if_neg hai]at hk;have:=((h.prs a ha).lt hk).1;omega
 .rw[hC]at hk;rcases hE a ha _ hk with h1|h1
  .exact h.cx a b ha hb' h1
  .have:=(h.prs b hb').clt.1;omega
 .by_cases hai:a=i
  .rw[if_pos hai]at hk;exact hd k hk hx2
  .rw[if_neg hai]at hk;rcases hX k hx2 with h1|h1
   .exact(h.bx a ha).1 k hk h1
   .have:=((h.prs a ha).lt hk).1;omega
 .rw[hC]at hx2;rcases hX _ hx2 with h1|h1
  .exact(h.bx a ha).2 h1
  .have:=(h.prs a ha).clt.1;omega
 .have e:kO m (fun j=>if j=i then e' else es j)=kO m es:=by
   unfold kO;exact List.map_congr_left fun j _=>by rw[hP]
  rw[e];refine eu h.row fun k hk=>?_;obtain⟨_,c,A0⟩:=cS h.row hk;exact hf.block k (ak A0) fun hh=>by
   rcases hh with hh|hh
   .exact((h.lx k hk).2 i hi).1 hh
   .exact(h.lx k hk).1 hh
 .obtain⟨_,c,A0⟩:=cS h.row hk;rcases hX k hx2 with h1|h1
  .exact(h.lx k hk).1 h1
  .have:=ak A0;omega
 .obtain⟨_,c,A0⟩:=cS h.row hk;rcases hE a ha k hk2 with h1|h1
  .exact((h.lx k hk).2 a ha).1 h1
  .have:=ak A0;omega
 .rw[hC];exact((h.lx k hk).2 a ha).2
theorem aU.books (h:aU B0 n w O o m es lv)(hX:∀ k,bP O o' k->bP O o k\/w.heap.size<=k)(hf:Fr (bP O o) w w')(hb:BK w' O o' B0 (n+1)):aU B0 (n+1) w' O o' m es lv:=by
 have A1:aN B0 w w':=mj hf fun k hk hh=>⟨h.bk.base k hh,h.bk.oa.sort hh⟩;refine⟨hb,fun j hj=>(h.prs j hj).keep (by omega) (fun k hk=>hf.block k ((h.prs j hj).lt hk).1 fun hh=>(h.bx j hj).1 k hk hh) A1 (hf.block _ (h.prs j hj).clt.1 fun hh=>(h.bx j hj).2 hh),h.dj,h.cx,fun a ha=>⟨fun k hk hx2=>?_,fun hx2=>?_⟩,eu h.row fun k hk=>?_,fun k hk=>⟨fun hx2=>?_,(h.lx k hk).2⟩,Nat.le_succ_of_le h.len⟩
 .rcases hX k hx2 with h1|h1
  .exact(h.bx a ha).1 k hk h1
  .have:=((h.prs a ha).lt hk).1;omega
 .rcases hX _ hx2 with h1|h1
  .exact(h.bx a ha).2 h1
  .have:=(h.prs a ha).clt.1;omega
 .obtain⟨_,c,A0⟩:=cS h.row hk;exact hf.block k (ak A0) (h.lx k hk).1
 .obtain⟨_,c,A0⟩:=cS h.row hk;rcases hX k hx2 with h1|h1
  .exact(h.lx k hk).1 h1
  .have:=ak A0;omega
structure dN (B0 n:Nat)(w:World)(O:Nat)(o:fu)(m:Nat)(es:Nat->PE)(lv:Value)(e:PE):Prop where
 all:aU B0 n w O o m es lv
 pr:eL B0 n w e
 dj:∀ i,i<m->∀ k,e.x k->¬ (es i).x k
 cx:∀ i,i<m->¬ e.x (es i).c/\¬ (es i).x e.c
 cc:¬ e.x e.c
 bx:(∀ k,e.x k->¬ bP O o k)/\¬ bP O o e.c
 lx:∀ k,lv.ownBlock=some k->¬ e.x k/\k≠e.c
 len:m+1<=n
theorem dN.below {e:PE}(h:dN B0 n w O o m es lv e)(hb:Below w.heap.size w w'):dN B0 n w' O o m es lv e:=
 ⟨h.all.below (v9 _) hb,h.pr.keep (v9 _) (fun k hk=>hb.block k (h.pr.lt hk).1) (pC hb) (hb.block _ h.pr.clt.1),h.dj,h.cx,h.cc,h.bx,h.lx,h.len⟩
theorem dN.push {e:PE}{w2:World}{lv2:Value}(h:dN B0 n w O o m es lv e)(hown:w2.ownsRow 0 38 1 lv2 (m+1) (kO m es++[.pointer (some ⟨e.p,0,none⟩)]))(ha:jL w w2 lv m 1 lv2):aU B0 n w2 O o (m+1) (fun j=>if j=m then e else es j) lv2/\Below B0 w w2:=by
 have hB:B0<=w.heap.size:=by have h1:=h.pr.clt;omega
 obtain⟨A3,A4⟩:=iF (w0:=w) (B:=B0) (v7 _ _) hB h.all.row hown ha;have hf:Fr (fun k=>lv.ownBlock=some k) w w2:=by
  rcases ha with ⟨g,cap,e1,_,hg⟩|⟨_,hg⟩
  .exact(Fr.refl _ _).grown hg fun k hk=>.inl (by rw[e1];exact hk)
  .exact(Fr.refl _ _).grown hg fun k hk=>by cases hk
 have A2:∀ k,lv2.ownBlock=some k->lv.ownBlock=some k\/w.heap.size<=k:=fun k hk=>by
  rcases ha with ⟨g,cap,e1,e2,hg⟩|⟨hnw,hg⟩
  .rw[e2]at hk;left;rw[e1];exact hk
  .exact .inr (hnw k hk)
 have A5:∀ k,lv.ownBlock=some k->B0<=k/\ek w k:=fun k hk=>by
  obtain⟨h1,c,hc⟩:=cS h.all.row hk;exact⟨h1,_,_,hc,by decide,by decide⟩
 have A6:aN B0 w w2:=mj hf fun k _ hk=>A5 k hk;have A1:∀ {e1:PE},eL B0 n w e1->(∀ k,lv.ownBlock=some k->¬ e1.x k/\k≠e1.c)->eL B0 n w2 e1:=fun hp hl=>hp.keep (v9 _) (fun k hk=>hf.block k (hp.lt hk).1 fun hh=>(hl k hh).1 hk) A6 (hf.block _ hp.clt.1 fun hh=>(hl _ hh).2 rfl);refine⟨⟨h.all.bk.keep (fun k hk=>hf.block k (h.all.bk.lt hk) fun hh=>(h.all.lx k hh).1 hk) (v9 _),fun i hi=>?_,fun a b ha' hb' hab k hk hk2=>?_,fun a b ha' hb' hk=>?_,fun a ha'=>?_,?_,fun k hk=>⟨fun hx2=>?_,fun a ha'=>?_⟩,h.len⟩,A3⟩
 .by_cases him:i=m
  .rw[if_pos him];exact A1 h.pr h.lx
  .rw[if_neg him];exact A1 (h.all.prs i (by omega)) fun k hk=>(h.all.lx k hk).2 i (by omega)
 .by_cases ham:a=m
  .have A0:¬ b=m:=fun e=>hab (by rw[ham,e]);rw[if_pos ham]at hk;rw[if_neg A0]at hk2;exact h.dj b (by omega) k hk hk2
  .rw[if_neg ham]at hk;by_cases A0:b=m
   .rw[if_pos A0]at hk2;exact h.dj a (by omega) k hk2 hk
   .rw[if_neg A0]at hk2;exact h.all.dj a b (by omega) (by omega) hab k hk hk2
 .by_cases ham:a=m
  .rw[if_pos ham]at hk;by_cases A0:b=m
   .rw[if_pos A0]at hk;exact h.cc hk
   .rw[if_neg A0]at hk;exact(h.cx b (by omega)).1 hk
  .rw[if_neg ham]at hk;by_cases A0:b=m
   .rw[if_pos A0]at hk;exact(h.cx a (by omega)).2 hk
   .rw[if_neg A0]at hk;exact h.all.cx a b (by omega) (by omega) hk
 .by_cases ham:a=m
  .rw[if_pos ham];exact h.bx
  .rw[if_neg ham];exact h.all.bx a (by omega)
 .have e2:kO (m+1) (fun j=>if j=m then e else es j)=kO m es++[.pointer (some ⟨e.p,0,none⟩)]:=by
   unfold kO;rw[List.range_succ,List.map_append,List.map_cons,List.map_nil];simp only[if_true];congr 1;exact List.map_congr_left fun j hj=>by rw[if_neg (by have:=List.mem_range.mp hj;omega)]
  rw[e2];exact A4
 .rcases A2 k hk with h1|h1
  .exact(h.all.lx k h1).1 hx2
  .have:=h.all.bk.lt hx2;omega
 .by_cases ham:a=m
  .rw[if_pos ham];rcases A2 k hk with h1|h1
   .exact h.lx k h1
   .exact⟨fun hk2=>by have:=(h.pr.lt hk2).1;omega,fun e2=>by have:=h.pr.clt.1;omega⟩
  .rw[if_neg ham];rcases A2 k hk with h1|h1
   .exact(h.all.lx k h1).2 a (by omega)
   .exact⟨fun hk2=>by have:=((h.all.prs a (by omega)).lt hk2).1;omega,fun e2=>by have:=(h.all.prs a (by omega)).clt.1;omega⟩
end
end Go.Proofs.YtmmmnghiegajmaaGreat
