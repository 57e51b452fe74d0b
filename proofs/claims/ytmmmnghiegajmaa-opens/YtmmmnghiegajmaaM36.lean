import Derived.Test.YtmmmnghiegajmaaM32
import Derived.Test.YtmmmnghiegajmaaM35
import Derived.Deep.RegionWith
import Derived.Deep.DeepCutAuto
/- The program's herald in a game: what it keeps from call to call. -/
namespace Go.Proofs.Ytmmmnghiegajmaa
open Go.RowKit Go.Proofs.Herald
/-- A herald's own memory. -/
structure HS where
  code : Value
  jr : Value
  rv : Value
  qv : Nat → Value
  n : Nat
def HS.own (s : HS) (H k : Nat) : Prop := ownF H s.code s.jr s.rv s.qv k
/-- A herald of sound code, behind i calls. -/
structure GA (cs : List Ins) (i : Nat) (h : Her Pr) (w : World) (H : Nat) (s : HS) : Prop where
  fh : FH w H cs h s.code s.jr s.rv s.qv s.n
  n : s.n ≤ 19 * i
  snd : soundL cs = true
  ok : HOk (machE cs) (goodM cs) (50000000 * i) h
  qs : QsOk h
  last : h.last ≤ i
/-- Behind one call more. -/
def GNext (cs : List Ins) (i : Nat) (h' : Her Pr) (w : World) (H : Nat) (s : HS) (w' : World) : Prop :=
  ∃ s', GA cs (i + 1) h' w' H s' ∧ (∀ k, s'.own H k → s.own H k ∨ w.heap.size ≤ k) ∧ Fr (s.own H) w w'
theorem GA.eng {cs : List Ins} {i : Nat} {h : Her Pr} {w : World} {H : Nat} {s : HS} (g : GA cs i h w H s) : EngOk (machE cs) (goodM cs) := (codeE_ok g.snd).same (mach_same g.snd) (fun _ _ => rfl)
theorem GA.mok {cs : List Ins} {i : Nat} {h : Her Pr} {w : World} {H : Nat} {s : HS} (g : GA cs i h w H s) (hi : i ≤ 2000000) : MOk cs (50000000 * i) h :=
  ⟨g.snd, g.eng, g.ok, g.qs, by omega, by have := g.last; omega⟩
theorem GA.keep {cs : List Ins} {i : Nat} {h : Her Pr} {w w' : World} {H : Nat} {s : HS} (g : GA cs i h w H s) (hk : ∀ k, s.own H k → w'.heap[k]? = w.heap[k]?) : GA cs i h w' H s := ⟨g.fh.keep hk, g.n, g.snd, g.ok, g.qs, g.last⟩
theorem GA.below {cs : List Ins} {i : Nat} {h : Her Pr} {w w' : World} {H : Nat} {s : HS} (g : GA cs i h w H s) (hb : Below w.heap.size w w') : GA cs i h w' H s := ⟨g.fh.below hb, g.n, g.snd, g.ok, g.qs, g.last⟩
theorem GA.lt {cs : List Ins} {i : Nat} {h : Her Pr} {w : World} {H : Nat} {s : HS} (g : GA cs i h w H s) {k : Nat} (hk : s.own H k) : k < w.heap.size := g.fh.lt hk
theorem GNext.of {cs : List Ins} {i : Nat} {h h' : Her Pr} {w w' : World} {H : Nat} {s : HS} (g : GA cs i h w H s) (ho : FHOut w w' H cs h' s.code s.jr s.rv s.qv (s.n + 19)) (hk : HOk (machE cs) (goodM cs) (50000000 * (i + 1 : Nat)) h') (hq : QsOk h') (hl : h'.last ≤ (i + 1 : Nat)) : GNext cs i h' w H s w' := by
  obtain ⟨⟨jr', rv', qv', n', h1, h2, h3⟩, h4⟩ := ho
  have := g.n
  exact ⟨⟨s.code, jr', rv', qv', n'⟩, ⟨h2, by show n' ≤ _; omega, g.snd, hk, hq, hl⟩, h3, h4⟩
/-- A new herald. -/
theorem GA.new {cs : List Ins} {w : World} {H : Nat} {v : Value} (hs : soundL cs = true) (hH : w.heap[H]? = some (.cells (newHd v) 150 (0, 0))) (hv : w.ownsRow 0 128 4 v cs.length (codeCells cs)) : GA cs 0 newH w H ⟨v, .slice none 0 0, .slice none 0 0, fun _ => .slice none 0 0, 0⟩ :=
  ⟨⟨⟨⟨hH, fun d _ => World.ownsRow_nil _ _ _ _, fun d _ => by simp [newH], fun d e b _ _ hb => (by cases hb), World.ownsRow_nil _ _ _ _, fun p hp => (by simp [newH] at hp)⟩, hv⟩, [], rfl, World.ownsRow_nil _ _ _ _⟩, Nat.zero_le _, hs, (HOk.new _ _).mono (by simp), QsOk.new, by simp [newH]⟩
/-- Behind at most m calls, seen from an earlier time. -/
def GTo (cs : List Ins) (m : Nat) (h : Her Pr) (w0 : World) (H : Nat) (s0 : HS) (w : World) : Prop :=
  ∃ i s, i ≤ m ∧ GA cs i h w H s ∧ (∀ k, s.own H k → s0.own H k ∨ w0.heap.size ≤ k) ∧ Fr (s0.own H) w0 w
theorem GA.tow {cs : List Ins} {i : Nat} {h : Her Pr} {w : World} {H : Nat} {s : HS} (g : GA cs i h w H s) : GTo cs i h w H s w := ⟨i, s, Nat.le_refl _, g, fun _ hk => .inl hk, Fr.refl _ _⟩
theorem GTo.below {cs : List Ins} {m : Nat} {h : Her Pr} {w0 : World} {H : Nat} {s0 : HS} {w w' : World} (g : GTo cs m h w0 H s0 w) (hb : Below w.heap.size w w') : GTo cs m h w0 H s0 w' := by
  obtain ⟨i, s, h1, h2, h3, h4⟩ := g
  exact ⟨i, s, h1, h2.below hb, h3, h4.trans ((Fr.of_below hb).mono fun k hk hs => by omega)⟩
theorem GTo.next {cs : List Ins} {m : Nat} {h' : Her Pr} {w0 : World} {H : Nat} {s0 : HS} {w w' : World} {i : Nat} {s : HS} (hi : i ≤ m) (h3 : ∀ k, s.own H k → s0.own H k ∨ w0.heap.size ≤ k) (h4 : Fr (s0.own H) w0 w) (n : GNext cs i h' w H s w') : GTo cs (m + 1) h' w0 H s0 w' := by
  obtain ⟨s', g', o', f'⟩ := n
  refine ⟨i + 1, s', by omega, g', fun k hk => ?_, Fr.wide h4 (f'.mono fun k _ hk => h3 k hk)⟩
  rcases o' k hk with h5 | h5
  · exact h3 k h5
  · exact .inr (Nat.le_trans h4.size h5)
theorem GTo.len {cs : List Ins} {m : Nat} {h : Her Pr} {w0 : World} {H : Nat} {s0 : HS} {w : World} (g : GTo cs m h w0 H s0 w) : h.rs.length ≤ 5 := by
  obtain ⟨i, s, _, h2, _⟩ := g
  exact h2.ok.len
end Go.Proofs.Ytmmmnghiegajmaa
/- The harness: one step of a script: Drain. -/
namespace Go.Proofs.Ytmmmnghiegajmaa
open Go.RowKit Go.Proofs.Herald
/-- What is nobody's is written. -/
theorem LK.write {RT : Type} {M : Mode RT} (hM : ModeOk M) {CB : World → Prop} (hCB : ∀ w w', CB w → Still M.B0 w w' → CB w') {w w' : World} {Pb H S Q O : Nat} {u tv : Value} {cs : List Ins} {hm : Her Pr} {hd : Her RT} {s : PSt} {o : OSt} (L : LK M CB w Pb H S Q O u tv cs hm hd s o) {Z : Nat → Prop} (hf : Fr Z w w') (hz : ∀ k, Z k → k < w.heap.size → ¬ ownP Pb H S Q s k ∧ ¬ ownX O o k ∧ M.B0 ≤ k ∧ Plain w k) : LK M CB w' Pb H S Q O u tv cs hm hd s o :=
  ⟨L.pp.keep hM hCB (fun k hk => hf.block k (L.pp.lt hk) fun h => (hz k h (L.pp.lt hk)).1 hk) (still_of hf fun k hk h => ⟨(hz k h hk).2.2.1, (hz k h hk).2.2.2⟩), L.oa.keep fun k hk => hf.block k (L.oa.sort hk).lt fun h => (hz k h (L.oa.sort hk).lt).2.1 hk, L.dj, L.ob⟩
theorem fr_cells4 {S : Nat → Prop} {w w1 : World} (h : Fr S w w1) {X : Nat} (hX : S X) (u0 u1 u2 u3 : Value) : Fr S w ((((w1.setCell ⟨X, 0, none⟩ u0).setCell ⟨X, 1, none⟩ u1).setCell ⟨X, 2, none⟩ u2).setCell ⟨X, 3, none⟩ u3) :=
  (((h.setCell ⟨X, 0, none⟩ (.inl hX) _).setCell ⟨X, 1, none⟩ (.inl hX) _).setCell ⟨X, 2, none⟩ (.inl hX) _).setCell ⟨X, 3, none⟩ (.inl hX) _
theorem set_cells4 {w1 : World} {X : Nat} {t : TypeId} {z0 z1 z2 z3 : Value} (h : w1.heap[X]? = some (.cells #[z0, z1, z2, z3] t (0, 0))) (u0 u1 u2 u3 : Value) : ((((w1.setCell ⟨X, 0, none⟩ u0).setCell ⟨X, 1, none⟩ u1).setCell ⟨X, 2, none⟩ u2).setCell ⟨X, 3, none⟩ u3).heap[X]? = some (.cells #[u0, u1, u2, u3] t (0, 0)) := by
  have a1 := heap_setCell_self (j := 0) u0 h
  have a2 := heap_setCell_self (j := 1) u1 a1
  have a3 := heap_setCell_self (j := 2) u2 a2
  have a4 := heap_setCell_self (j := 3) u3 a3
  rw [a4]
  rfl
end Go.Proofs.Ytmmmnghiegajmaa
