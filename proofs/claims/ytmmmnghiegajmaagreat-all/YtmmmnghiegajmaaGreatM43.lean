import Derived.Test.YtmmmnghiegajmaaGreatM42
import Derived.Test.YtmmmnghiegajmaaGreatM40
open Go.RowKit Go.Proofs.Herald Go.Proofs.Tryz
namespace Go.Proofs.YtmmmnghiegajmaaGreat
def wM {RT:Type}(M:aV RT)(G:RT->Prop)(CB:World->Prop):Prop:=
 ∀ (S Q:Nat) (rec:ByteArray) (h:az RT) (pv:Value) (qv:Nat->Value) (rs:List Rs) (dev C:Int) (w:World),bO M w S Q rec h pv qv rs->CB w->cC M.E G C h->C<=900000000000000000->rec.size<=1000000000000->h.last<=1000000000000000000 ->
  Calls prog 35 #[.pointer (some ⟨S,0,none⟩),.int .i64 dev] w fun e w'=>e=.returned (.tuple #[.int .i64 (cP M.E h dev).1,.int .i64 (cP M.E h dev).2.1])/\aR M w S Q pv qv rs (jC rec (cP M.E h dev).2.1 84 dev 0) (cP M.E h dev).2.2 w'
theorem rh (rec:ByteArray)(c a b:Int):jC rec 0 c a b=rec++gJ c a b:=if_pos rfl
theorem oz {f:Int}(h:f≠0)(rec:ByteArray)(c a b:Int):jC rec f c a b=rec:=if_neg h
structure cy {RT:Type}(M:aV RT)(G:RT->Prop)(CB:World->Prop):Prop where
 hM:bw M
 hCB:∀ w w',CB w->aN M.B0 w w'->CB w'
 eng:dl M.E G
 trig:wM M G CB
structure DS where
 pv:Value
 qv:Nat->Value
 rs:List Rs
def DS.own (s:DS)(S Q k:Nat):Prop:=de S Q s.pv s.qv s.rs k
structure GD {RT:Type}(M:aV RT)(G:RT->Prop)(CB:World->Prop)(i:Nat)(h:az RT)(J:List Nat)(w:World)(S Q:Nat)(s:DS):Prop where
 sim:bO M w S Q (aI J) h s.pv s.qv s.rs
 cb:CB w
 ok:cC M.E G (50000000*i) h
 last:h.last<=i
 len:J.length<=19*i
section
variable {RT:Type} {M:aV RT} {G:RT->Prop} {CB:World->Prop} {i:Nat} {h h':az RT} {J J':List Nat} {w w':World} {S Q:Nat} {s:DS}
def aX (M:aV RT)(G:RT->Prop)(CB:World->Prop)(i:Nat)(h':az RT)(J':List Nat)(w:World)(S Q:Nat)(s:DS)(w':World):Prop:=
 ∃ s':DS,GD M G CB (i+1) h' J' w' S Q s'/\(∀ k,s'.own S Q k->s.own S Q k\/w.heap.size<=k)/\Fr (s.own S Q) w w'
theorem GD.lt (g:GD M G CB i h J w S Q s){k:Nat}(hk:s.own S Q k):k<w.heap.size:=g.sim.at'.lt hk
theorem GD.keep (K:cy M G CB)(g:GD M G CB i h J w S Q s)(hk:∀ k,s.own S Q k->w'.heap[k]?=w.heap[k]?)(hst:aN M.B0 w w'):GD M G CB i h J w' S Q s:=
 ⟨⟨g.sim.at'.keep hk,g.sim.base,jM (fun a b hab=>K.hM.keep _ _ a b hab hst) g.sim.rel⟩,K.hCB _ _ g.cb hst,g.ok,g.last,g.len⟩
theorem GD.below (K:cy M G CB)(g:GD M G CB i h J w S Q s)(hb:Below w.heap.size w w'):GD M G CB i h J w' S Q s:=g.keep K (fun k hk=>hb.block k (g.lt hk)) (pC hb)
theorem GD.le (g:GD M G CB i h J w S Q s){j:Nat}(hj:i<=j):GD M G CB j h J w S Q s:=
 ⟨g.sim,g.cb,g.ok.mono (by omega),by have:=g.last;omega,by have:=g.len;omega⟩
theorem aX.of (K:cy M G CB)(g:GD M G CB i h J w S Q s)(ho:aR M w S Q s.pv s.qv s.rs (aI J') h' w')(hj:J'.length<=J.length+19)(hk:cC M.E G (50000000*(i+1:Nat)) h')(hl:h'.last<=(i+1:Nat)):aX M G CB i h' J' w S Q s w':=by
 obtain⟨⟨A0,A1,A2,h1,h2⟩,h3⟩:=ho;exact⟨⟨A0,A1,A2⟩,⟨h1,K.hCB _ _ g.cb (g.sim.at'.still g.sim.base h3),hk,hl,by have:=g.len;omega⟩,h2,h3⟩
theorem vh (K:cy M G CB)(dev:Int)(w:World)(g:GD M G CB i h J w S Q s)(hi:i<=2000000):
  Calls prog 35 #[.pointer (some ⟨S,0,none⟩),.int .i64 dev] w fun e w'=>e=.returned (.tuple #[.int .i64 (cP M.E h dev).1,.int .i64 (cP M.E h dev).2.1])/\aX M G CB i (cP M.E h dev).2.2 (cI (cP M.E h dev).2.1 J 84 dev 0) w S Q s w':=by
 have h1:=g.len;have h2:=g.last;refine(K.trig S Q (aI J) h s.pv s.qv s.rs dev (50000000*i) w g.sim g.cb g.ok (by omega) (by rw[iG];omega) (by omega)).mono ?_;rintro e w' ⟨rfl,ho⟩;have e:jC (aI J) (cP M.E h dev).2.1 84 dev 0=aI (cI (cP M.E h dev).2.1 J 84 dev 0):=oo (c:=84) (by decide) J _ _ _;rw[e]at ho;have hl:=wA (E:=M.E) (h:=h) dev;exact⟨rfl,aX.of K g ho (kX _ _ _ _ _) ((cC.trig K.eng g.ok (by omega) dev).mono (by push_cast;omega)) (by push_cast;omega)⟩
theorem xJ (K:cy M G CB)(n:Int)(w:World)(g:GD M G CB i h J w S Q s)(hi:i<=2000000):
  Calls prog 37 #[.pointer (some ⟨S,0,none⟩),.int .i64 n] w fun e w'=>e=.returned (.int .i64 (dU M.E h n).1)/\aX M G CB i (dU M.E h n).2 (cI (dU M.E h n).1 J 75 n 0) w S Q s w':=by
 have h1:=g.len;have h2:=g.last;have hc:Calls prog 37 #[.pointer (some ⟨S,0,none⟩),.int .i64 n] w fun e w'=>e=.returned (.int .i64 (dU M.E h n).1)/\aR M w S Q s.pv s.qv s.rs (jC (aI J) (dU M.E h n).1 75 n 0) (dU M.E h n).2 w':=by
  unfold dU;by_cases hn:¬ (1<=n/\n<=999)\/1000000000<h.now+n
  .rw[if_pos hn,oz (by simp)];exact Ao S Q (aI J) h s.pv s.qv s.rs n _ w g.sim g.ok hn
  .rw[if_neg hn,rh];exact Ah K.hM K.eng S Q (aI J) h s.pv s.qv s.rs n _ w g.sim g.ok (by omega) (by rw[iG];omega) (by omega) (by omega) (by omega)
 refine hc.mono ?_;rintro e w' ⟨rfl,ho⟩;have e:jC (aI J) (dU M.E h n).1 75 n 0=aI (cI (dU M.E h n).1 J 75 n 0):=oo (c:=75) (by decide) J _ _ _;rw[e]at ho;have k2:=cC.tick K.eng g.ok n;exact⟨rfl,aX.of K g ho (kX _ _ _ _ _) (k2.1.mono (by push_cast;omega)) (by rw[k2.2];push_cast;omega)⟩
theorem yl (K:cy M G CB)(id num:Int)(w:World)(g:GD M G CB i h J w S Q s)(hi:i<=2000000):
  Calls prog 39 #[.pointer (some ⟨S,0,none⟩),.int .i64 id,.int .i64 num] w fun e w'=>e=.returned (.int .i64 (di M.E h id num).1)/\aX M G CB i (di M.E h id num).2 (cI (di M.E h id num).1 J 65 id num) w S Q s w':=by
 have h1:=g.len;have h2:=g.last;refine(Fm K.hM S Q (aI J) h s.pv s.qv s.rs id num (50000000*i) w g.sim g.ok (by omega) (by rw[iG];omega)).mono ?_;rintro e w' ⟨rfl,ho⟩;have e:jC (aI J) (di M.E h id num).1 65 id num=aI (cI (di M.E h id num).1 J 65 id num):=oo (c:=65) (by decide) J _ _ _;rw[e]at ho;exact⟨rfl,aX.of K g ho (kX _ _ _ _ _) ((cC.ack K.eng g.ok id num).mono (by push_cast;omega)) (by rw[wO];push_cast;omega)⟩
theorem vL (K:cy M G CB)(id:Int)(w:World)(g:GD M G CB i h J w S Q s)(hi:i<=2000000):
  Calls prog 41 #[.pointer (some ⟨S,0,none⟩),.int .i64 id] w fun e w'=>e=.returned (.int .i64 (dH M.E h id).1)/\aX M G CB i (dH M.E h id).2 (cI (dH M.E h id).1 J 67 id 0) w S Q s w':=by
 have h1:=g.len;have h2:=g.last;refine(Bz K.hM S Q (aI J) h s.pv s.qv s.rs id (50000000*i) w g.sim g.ok (by rw[iG];omega)).mono ?_;rintro e w' ⟨rfl,ho⟩;have e:jC (aI J) (dH M.E h id).1 67 id 0=aI (cI (dH M.E h id).1 J 67 id 0):=oo (c:=67) (by decide) J _ _ _;rw[e]at ho;exact⟨rfl,aX.of K g ho (kX _ _ _ _ _) ((cC.cancel g.ok id).mono (by push_cast;omega)) (by rw[ui];push_cast;omega)⟩
theorem sF (K:cy M G CB)(dev:Int)(w:World)(g:GD M G CB i h J w S Q s)(hi:i<=2000000):
  Calls prog 43 #[.pointer (some ⟨S,0,none⟩),.int .i64 dev] w fun e w'=>e=.returned (.tuple #[iN (cU h dev).1,.int .i64 (cU h dev).2.1])/\aX M G CB i (cU h dev).2.2 (cI (cU h dev).2.1 J 68 dev 0) w S Q s w':=by
 have h1:=g.len;have h2:=g.last;have hc:Calls prog 43 #[.pointer (some ⟨S,0,none⟩),.int .i64 dev] w fun e w'=>e=.returned (.tuple #[iN (cU h dev).1,.int .i64 (cU h dev).2.1])/\aR M w S Q s.pv s.qv s.rs (jC (aI J) (cU h dev).2.1 68 dev 0) (cU h dev).2.2 w':=by
  unfold cU;by_cases hd:0<=dev/\dev<=2
  .rw[if_neg (by simpa using hd)];obtain⟨d,A0⟩:∃ d:Nat,dev=(d:Nat):=⟨dev.toNat,by omega⟩;subst A0;have e:((d:Nat):Int).toNat=d:=by simp
   rw[e];cases hq:h.qs d with
   | nil=>
    rw[oz (by simp)];exact yL K.hM S Q (aI J) h s.pv s.qv s.rs d w g.sim (by omega) hq
   | cons m r=>
    have:=g.ok.qlen d;rw[hq]at this;simp at this;rw[rh];exact yW K.hM S Q (aI J) h s.pv s.qv s.rs d m r w g.sim (by omega) hq (by omega) (by rw[iG];omega)
  .rw[if_pos (by simpa using hd),oz (by simp)];exact Ag K.hM S Q (aI J) h s.pv s.qv s.rs dev w g.sim hd
 refine hc.mono ?_;rintro e w' ⟨rfl,ho⟩;have e:jC (aI J) (cU h dev).2.1 68 dev 0=aI (cI (cU h dev).2.1 J 68 dev 0):=oo (c:=68) (by decide) J _ _ _;rw[e]at ho;exact⟨rfl,aX.of K g ho (kX _ _ _ _ _) ((cC.drain g.ok dev).mono (by push_cast;omega)) (by rw[uX];push_cast;omega)⟩
end
end Go.Proofs.YtmmmnghiegajmaaGreat
