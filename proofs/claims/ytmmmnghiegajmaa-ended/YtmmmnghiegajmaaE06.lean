import Derived.Test.YtmmmnghiegajmaaM01
import Derived.Test.YtmmmnghiegajmaaM02
import Derived.Test.YtmmmnghiegajmaaM03
import Derived.Test.YtmmmnghiegajmaaM04
import Derived.Test.YtmmmnghiegajmaaM05
import Derived.Test.YtmmmnghiegajmaaM06
import Derived.Test.YtmmmnghiegajmaaM07
import Derived.Test.YtmmmnghiegajmaaM08
import Derived.Test.YtmmmnghiegajmaaM09
import Derived.Test.YtmmmnghiegajmaaM10
import Derived.Test.YtmmmnghiegajmaaM11
import Derived.Test.YtmmmnghiegajmaaM12
import Derived.Test.YtmmmnghiegajmaaM13
import Derived.Test.YtmmmnghiegajmaaM14
import Derived.Test.YtmmmnghiegajmaaM15
import Derived.Test.YtmmmnghiegajmaaM16
import Derived.Test.YtmmmnghiegajmaaM17
import Derived.Test.YtmmmnghiegajmaaM19
import Derived.Test.YtmmmnghiegajmaaM20
import Derived.Test.YtmmmnghiegajmaaM21
import Derived.Test.YtmmmnghiegajmaaM22
import Derived.Test.YtmmmnghiegajmaaM23
import Derived.Test.YtmmmnghiegajmaaM24
import Derived.Test.YtmmmnghiegajmaaM25
import Derived.Test.YtmmmnghiegajmaaM26
import Derived.Test.YtmmmnghiegajmaaM27
import Derived.Test.YtmmmnghiegajmaaM28
import Derived.Test.YtmmmnghiegajmaaM29
import Derived.Test.YtmmmnghiegajmaaM30
import Derived.Test.YtmmmnghiegajmaaM31
import Derived.Test.YtmmmnghiegajmaaM32
import Derived.Test.YtmmmnghiegajmaaM33
import Derived.Test.YtmmmnghiegajmaaM34
import Derived.Test.YtmmmnghiegajmaaE01
import Derived.Test.YtmmmnghiegajmaaE02
import Derived.Test.YtmmmnghiegajmaaE03
import Derived.Test.YtmmmnghiegajmaaE04
import Derived.Test.YtmmmnghiegajmaaE05
namespace Go.Proofs.Ytmmmnghiegajmaa
open Go.RowKit Go.Proofs.Herald
/-- What a step answers, and the herald behind it. -/
def playH (cs : List Ins) (h : Her Pr) (k a b : Int) : (Int × Msg × Int) × Her Pr :=
  if k = 1 then (((trigH (machE cs) h a).1, ⟨0, 0, 0, 0⟩, (trigH (machE cs) h a).2.1), (trigH (machE cs) h a).2.2)
  else if k = 2 then ((0, ⟨0, 0, 0, 0⟩, (tickH (machE cs) h a).1), (tickH (machE cs) h a).2)
  else if k = 3 then ((0, ⟨0, 0, 0, 0⟩, (ackH (machE cs) h a b).1), (ackH (machE cs) h a b).2)
  else if k = 4 then ((0, ⟨0, 0, 0, 0⟩, (cancelH (machE cs) h a).1), (cancelH (machE cs) h a).2)
  else if k = 5 then ((0, (drainH h a).1, (drainH h a).2.1), (drainH h a).2.2)
  else ((0, ⟨0, 0, 0, 0⟩, 10), h)
def ansV (x : Int × Msg × Int) : Value := .agg #[.int .i64 x.1, .int .i64 x.2.1.dev, .int .i64 x.2.1.run, .int .i64 x.2.1.num, .int .i64 x.2.1.key, .int .i64 x.2.2]
def PlayOut (B : Nat) (cs : List Ins) (m : Nat) (h' : Her Pr) (w0 : World) (H : Nat) (F : Nat → Prop) (x : Int × Msg × Int) (w : World) (e : Ending) (w' : World) : Prop :=
  e = .returned (ansV x) ∧ KS B cs (m + 1) h' w0 H F w' ∧ ∀ k, F k → w'.heap[k]? = w.heap[k]?
/-- The blocks that a step makes ahead of the call. -/
structure PlayIn (B : Nat) (cs : List Ins) (m : Nat) (h : Her Pr) (w0 : World) (H : Nat) (F : Nat → Prop) (w : World) (k a b : Int) (W : World) : Prop where
  ks : KS B cs m h w0 H (fun x => F x ∨ (w.heap.size ≤ x ∧ x < w.heap.size + 3)) W
  op : W.heap[w.heap.size]? = some (.cells #[.int .i64 k, .int .i64 a, .int .i64 b] 95 (0, 0))
  res : W.heap[w.heap.size + 1]? = some (.cells #[.int .i64 0, .int .i64 0, .int .i64 0, .int .i64 0, .int .i64 0, .int .i64 0] 97 (0, 0))
  var : W.heap[w.heap.size + 1 + 1]? = some (.cells #[.int .i64 0, .int .i64 0, .int .i64 0, .int .i64 0, .int .i64 0, .int .i64 10] 97 (0, 0))
  old : ∀ x, F x → W.heap[x]? = w.heap[x]?
  b0 : B ≤ w.heap.size
theorem kp_in {B : Nat} {cs : List Ins} {m : Nat} {h : Her Pr} {w0 w : World} {H : Nat} {F : Nat → Prop} (g : KS B cs m h w0 H F w) (k a b : Int) : PlayIn B cs m h w0 H F w k a b (((w.alloc (.cells #[.int .i64 k, .int .i64 a, .int .i64 b] 95)).alloc (.cells #[.int .i64 0, .int .i64 0, .int .i64 0, .int .i64 0, .int .i64 0, .int .i64 0] 97)).alloc (.cells #[.int .i64 0, .int .i64 0, .int .i64 0, .int .i64 0, .int .i64 0, .int .i64 10] 97)) := by
  have hb : Below w.heap.size w (((w.alloc (.cells #[.int .i64 k, .int .i64 a, .int .i64 b] 95)).alloc (.cells #[.int .i64 0, .int .i64 0, .int .i64 0, .int .i64 0, .int .i64 0, .int .i64 0] 97)).alloc (.cells #[.int .i64 0, .int .i64 0, .int .i64 0, .int .i64 0, .int .i64 0, .int .i64 10] 97)) := (((Below.refl _ _).alloc (Nat.le_refl _) _).alloc (by simp) _).alloc (by simp; omega) _
  refine ⟨(g.more hb).less fun x hx => ?_, ?_, ?_, ?_, fun x hx => hb.block x (g.lt hx), g.B⟩
  · rcases hx with hx | ⟨h1, h2⟩
    · exact .inl hx
    · exact .inr ⟨h1, by simp; omega⟩
  · rw [Below.heap_alloc _ _ _ (by simp; omega), Below.heap_alloc _ _ _ (by simp)]
    exact heap_alloc_new _ _
  · rw [Below.heap_alloc _ _ _ (by simp)]
    exact heap_alloc2 _ _ _
  · have e : w.heap.size + 1 + 1 = ((w.alloc (.cells #[.int .i64 k, .int .i64 a, .int .i64 b] 95)).alloc (.cells #[.int .i64 0, .int .i64 0, .int .i64 0, .int .i64 0, .int .i64 0, .int .i64 0] 97)).heap.size := by simp
    rw [e]
    exact heap_alloc_new _ _
theorem PlayIn.after {B : Nat} {cs : List Ins} {m m' : Nat} {h h' : Her Pr} {w0 w : World} {H : Nat} {F : Nat → Prop} {k a b : Int} {W w1 : World} (p : PlayIn B cs m h w0 H F w k a b W) (hk : KS B cs m' h' w0 H (fun x => F x ∨ (w.heap.size ≤ x ∧ x < w.heap.size + 3)) w1) (hs : ∀ x, (F x ∨ (w.heap.size ≤ x ∧ x < w.heap.size + 3)) → w1.heap[x]? = W.heap[x]?) : PlayIn B cs m' h' w0 H F w k a b w1 :=
  ⟨hk, (hs _ (.inr ⟨Nat.le_refl _, by omega⟩)).trans p.op, (hs _ (.inr ⟨by omega, by omega⟩)).trans p.res, (hs _ (.inr ⟨by omega, by omega⟩)).trans p.var, fun x hx => (hs x (.inl hx)).trans (p.old x hx), p.b0⟩
theorem PlayIn.out {B : Nat} {cs : List Ins} {m : Nat} {h : Her Pr} {w0 w : World} {H : Nat} {F : Nat → Prop} {k a b : Int} {W w' : World} (p : PlayIn B cs m h w0 H F w k a b W) (hf : Fr (fun x => w.heap.size ≤ x ∧ x < w.heap.size + 3) W w') (hF : ∀ x, F x → x < w.heap.size) : KS B cs m h w0 H F w' ∧ ∀ x, F x → w'.heap[x]? = w.heap[x]? :=
  ⟨(p.ks.fr hf fun x hx _ => ⟨.inr hx, by have := p.b0; omega⟩).less fun x hx => .inl (.inl hx), fun x hx => (hf.block x (p.ks.lt (.inl hx)) fun h => by have := hF x hx; omega).trans (p.old x hx)⟩
/-- All six cells of a block are written. -/
theorem set6 {w : World} {R : Nat} {S : Nat → Prop} {x0 x1 x2 x3 x4 x5 a b c d e f : Value} {t : TypeId} (h : w.heap[R]? = some (.cells #[x0, x1, x2, x3, x4, x5] t (0, 0))) (hS : S R) :
    ((((((w.setCell ⟨R, 0, none⟩ a).setCell ⟨R, 1, none⟩ b).setCell ⟨R, 2, none⟩ c).setCell ⟨R, 3, none⟩ d).setCell ⟨R, 4, none⟩ e).setCell ⟨R, 5, none⟩ f).heap[R]? = some (.cells #[a, b, c, d, e, f] t (0, 0)) ∧ Fr S w ((((((w.setCell ⟨R, 0, none⟩ a).setCell ⟨R, 1, none⟩ b).setCell ⟨R, 2, none⟩ c).setCell ⟨R, 3, none⟩ d).setCell ⟨R, 4, none⟩ e).setCell ⟨R, 5, none⟩ f) := by
  constructor
  · rw [heap_setCell_self f (heap_setCell_self e (heap_setCell_self d (heap_setCell_self c (heap_setCell_self b (heap_setCell_self a h)))))]
    rfl
  · exact (((((((Fr.refl S w).setCell ⟨R, 0, none⟩ (.inl hS) a).setCell ⟨R, 1, none⟩ (.inl hS) b).setCell ⟨R, 2, none⟩ (.inl hS) c).setCell ⟨R, 3, none⟩ (.inl hS) d).setCell ⟨R, 4, none⟩ (.inl hS) e).setCell ⟨R, 5, none⟩ (.inl hS) f)
theorem cells_of6 {w : World} {R : Nat} {a b c d e f : Value} {t : TypeId} (h : w.heap[R]? = some (.cells #[a, b, c, d, e, f] t (0, 0))) : (w.cell? ⟨R, 0, none⟩ = some a ∧ w.cell? ⟨R, 1, none⟩ = some b ∧ w.cell? ⟨R, 2, none⟩ = some c ∧ w.cell? ⟨R, 3, none⟩ = some d ∧ w.cell? ⟨R, 4, none⟩ = some e ∧ w.cell? ⟨R, 5, none⟩ = some f) ∧ (w.frozen? ⟨R, 0, none⟩ = false ∧ w.frozen? ⟨R, 1, none⟩ = false ∧ w.frozen? ⟨R, 2, none⟩ = false ∧ w.frozen? ⟨R, 3, none⟩ = false ∧ w.frozen? ⟨R, 4, none⟩ = false ∧ w.frozen? ⟨R, 5, none⟩ = false) ∧ R < w.heap.size :=
  ⟨⟨(cell_of_heap h).trans rfl, (cell_of_heap h).trans rfl, (cell_of_heap h).trans rfl, (cell_of_heap h).trans rfl, (cell_of_heap h).trans rfl, (cell_of_heap h).trans rfl⟩, ⟨free_of_heap h, free_of_heap h, free_of_heap h, free_of_heap h, free_of_heap h, free_of_heap h⟩, heap_lt h⟩
set_option maxRecDepth 20000 in
set_option maxHeartbeats 4000000 in
theorem kp_trigger {B : Nat} {cs : List Ins} {m : Nat} {h : Her Pr} {w0 : World} {H : Nat} {F : Nat → Prop} (a b : Int) (w : World) (g : KS B cs m h w0 H F w) (hm : m ≤ 1500000) :
    Calls Try.prog 42 #[.pointer (some ⟨H, 0, none⟩), .agg #[.int .i64 1, .int .i64 a, .int .i64 b]] w (PlayOut B cs m (trigH (machE cs) h a).2.2 w0 H F ((trigH (machE cs) h a).1, ⟨0, 0, 0, 0⟩, (trigH (machE cs) h a).2.1) w) := by
  have HF : Hid (∀ x, F x → x < w.heap.size) := fun x hx => g.lt hx
  have HP := kp_in g 1 a b
  have HC : Hid (Calls Try.prog 28 #[.pointer (some ⟨H, 0, none⟩), .int .i64 a] (((w.alloc (.cells #[.int .i64 1, .int .i64 a, .int .i64 b] 95)).alloc (.cells #[.int .i64 0, .int .i64 0, .int .i64 0, .int .i64 0, .int .i64 0, .int .i64 0] 97)).alloc (.cells #[.int .i64 0, .int .i64 0, .int .i64 0, .int .i64 0, .int .i64 0, .int .i64 10] 97)) fun e w' => e = .returned (.tuple #[.int .i64 (trigH (machE cs) h a).1, .int .i64 (trigH (machE cs) h a).2.1]) ∧ PlayIn B cs (m + 1) (trigH (machE cs) h a).2.2 w0 H F w 1 a b w') :=
    (ks_Trigger a _ HP.ks (by omega)).mono fun e w' hh => ⟨hh.1, HP.after hh.2.1 hh.2.2⟩
  clear HP g
  generalize trigH (machE cs) h a = T at *
  go_enter Try.func42, Try.ntmps42
  go_wp2_with fail
  refine HC.out.mono ?_
  rintro e w1 ⟨rfl, p1⟩
  have HP1 : Hid (PlayIn B cs (m + 1) T.2.2 w0 H F w 1 a b w1) := p1
  obtain ⟨⟨r0, r1, r2, r3, r4, r5⟩, ⟨f0, f1, f2, f3, f4, f5⟩, hR⟩ := cells_of6 p1.res
  obtain ⟨⟨v0, v1, v2, v3, v4, v5⟩, ⟨g0, g1, g2, g3, g4, g5⟩, hV⟩ := cells_of6 p1.var
  clear p1 HC
  go_upto_region 18 with fail
  obtain ⟨V, hV⟩ : ∃ V, V = (w1.setCell ⟨w.heap.size + 1 + 1, 0, none⟩ (.int .i64 T.1)).setCell ⟨w.heap.size + 1 + 1, 5, none⟩ (.int .i64 T.2.1) := ⟨_, rfl⟩
  rw [← hV]
  have HVF : Hid (Fr (fun x => w.heap.size ≤ x ∧ x < w.heap.size + 3) w1 V ∧ V.heap[w.heap.size + 1]? = some (.cells #[.int .i64 0, .int .i64 0, .int .i64 0, .int .i64 0, .int .i64 0, .int .i64 0] 97 (0, 0)) ∧ V.heap[w.heap.size + 1 + 1]? = some (.cells #[.int .i64 T.1, .int .i64 0, .int .i64 0, .int .i64 0, .int .i64 0, .int .i64 T.2.1] 97 (0, 0))) := by
    rw [hV]
    refine ⟨Fr.setCell (Fr.setCell (Fr.refl _ _) _ (.inl ⟨by show w.heap.size ≤ w.heap.size + 1 + 1; omega, by show w.heap.size + 1 + 1 < w.heap.size + 3; omega⟩) _) _ (.inl ⟨by show w.heap.size ≤ w.heap.size + 1 + 1; omega, by show w.heap.size + 1 + 1 < w.heap.size + 3; omega⟩) _, ?_, ?_⟩
    · rw [Below.heap_setCell _ _ _ _ (by show w.heap.size + 1 ≠ w.heap.size + 1 + 1; omega), Below.heap_setCell _ _ _ _ (by show w.heap.size + 1 ≠ w.heap.size + 1 + 1; omega)]
      exact HP1.out.res
    · rw [heap_setCell_self _ (heap_setCell_self _ HP1.out.var)]
      rfl
  clear hV r0 r1 r2 r3 r4 r5 f0 f1 f2 f3 f4 f5 v0 v1 v2 v3 v4 v5 g0 g1 g2 g3 g4 g5 hR
  obtain ⟨⟨r0, r1, r2, r3, r4, r5⟩, ⟨f0, f1, f2, f3, f4, f5⟩, hR⟩ := cells_of6 HVF.out.2.1
  obtain ⟨⟨v0, v1, v2, v3, v4, v5⟩, _, hV⟩ := cells_of6 HVF.out.2.2
  go_wp2_with fail
  have h6 := set6 (S := (fun x => w.heap.size ≤ x ∧ x < w.heap.size + 3)) (a := .int .i64 T.1) (b := .int .i64 0) (c := .int .i64 0) (d := .int .i64 0) (e := .int .i64 0) (f := .int .i64 T.2.1) HVF.out.2.1 ⟨by omega, by omega⟩
  generalize (((((V.setCell ⟨w.heap.size + 1, 0, none⟩ (.int .i64 T.1)).setCell ⟨w.heap.size + 1, 1, none⟩ (.int .i64 0)).setCell ⟨w.heap.size + 1, 2, none⟩ (.int .i64 0)).setCell ⟨w.heap.size + 1, 3, none⟩ (.int .i64 0)).setCell ⟨w.heap.size + 1, 4, none⟩ (.int .i64 0)).setCell ⟨w.heap.size + 1, 5, none⟩ (.int .i64 T.2.1) = U at h6 ⊢
  obtain ⟨⟨u0, u1, u2, u3, u4, u5⟩, _, hU⟩ := cells_of6 h6.1
  refine bodyPost_ret (v := ansV (T.1, ⟨0, 0, 0, 0⟩, T.2.1)) (by simp [results, Try.results42, go_sem, ansV, u0, u1, u2, u3, u4, u5]) rfl ⟨rfl, HP1.out.out (HVF.out.1.trans (h6.2.mono fun _ _ hx => hx)) HF.out⟩
set_option maxRecDepth 20000 in
set_option maxHeartbeats 4000000 in
theorem kp_tick {B : Nat} {cs : List Ins} {m : Nat} {h : Her Pr} {w0 : World} {H : Nat} {F : Nat → Prop} (a b : Int) (w : World) (g : KS B cs m h w0 H F w) (hm : m ≤ 1500000) :
    Calls Try.prog 42 #[.pointer (some ⟨H, 0, none⟩), .agg #[.int .i64 2, .int .i64 a, .int .i64 b]] w (PlayOut B cs m (tickH (machE cs) h a).2 w0 H F (0, ⟨0, 0, 0, 0⟩, (tickH (machE cs) h a).1) w) := by
  have HF : Hid (∀ x, F x → x < w.heap.size) := fun x hx => g.lt hx
  have HP := kp_in g 2 a b
  have HC : Hid (Calls Try.prog 33 #[.pointer (some ⟨H, 0, none⟩), .int .i64 a] (((w.alloc (.cells #[.int .i64 2, .int .i64 a, .int .i64 b] 95)).alloc (.cells #[.int .i64 0, .int .i64 0, .int .i64 0, .int .i64 0, .int .i64 0, .int .i64 0] 97)).alloc (.cells #[.int .i64 0, .int .i64 0, .int .i64 0, .int .i64 0, .int .i64 0, .int .i64 10] 97)) fun e w' => e = .returned (.int .i64 (tickH (machE cs) h a).1) ∧ PlayIn B cs (m + 1) (tickH (machE cs) h a).2 w0 H F w 2 a b w') :=
    (ks_Tick a _ HP.ks (by omega)).mono fun e w' hh => ⟨hh.1, HP.after hh.2.1 hh.2.2⟩
  clear HP g
  generalize tickH (machE cs) h a = T at *
  go_enter Try.func42, Try.ntmps42
  go_wp2_with fail
  refine HC.out.mono ?_
  rintro e w1 ⟨rfl, p1⟩
  have HP1 : Hid (PlayIn B cs (m + 1) T.2 w0 H F w 2 a b w1) := p1
  obtain ⟨⟨r0, r1, r2, r3, r4, r5⟩, ⟨f0, f1, f2, f3, f4, f5⟩, hR⟩ := cells_of6 p1.res
  obtain ⟨⟨v0, v1, v2, v3, v4, v5⟩, ⟨g0, g1, g2, g3, g4, g5⟩, hV⟩ := cells_of6 p1.var
  clear p1 HC
  go_upto_region 18 with fail
  obtain ⟨V, hV⟩ : ∃ V, V = w1.setCell ⟨w.heap.size + 1 + 1, 5, none⟩ (.int .i64 T.1) := ⟨_, rfl⟩
  rw [← hV]
  have HVF : Hid (Fr (fun x => w.heap.size ≤ x ∧ x < w.heap.size + 3) w1 V ∧ V.heap[w.heap.size + 1]? = some (.cells #[.int .i64 0, .int .i64 0, .int .i64 0, .int .i64 0, .int .i64 0, .int .i64 0] 97 (0, 0)) ∧ V.heap[w.heap.size + 1 + 1]? = some (.cells #[.int .i64 0, .int .i64 0, .int .i64 0, .int .i64 0, .int .i64 0, .int .i64 T.1] 97 (0, 0))) := by
    rw [hV]
    refine ⟨Fr.setCell (Fr.refl _ _) _ (.inl ⟨by show w.heap.size ≤ w.heap.size + 1 + 1; omega, by show w.heap.size + 1 + 1 < w.heap.size + 3; omega⟩) _, ?_, ?_⟩
    · rw [Below.heap_setCell _ _ _ _ (by show w.heap.size + 1 ≠ w.heap.size + 1 + 1; omega)]
      exact HP1.out.res
    · rw [heap_setCell_self _ HP1.out.var]
      rfl
  clear hV r0 r1 r2 r3 r4 r5 f0 f1 f2 f3 f4 f5 v0 v1 v2 v3 v4 v5 g0 g1 g2 g3 g4 g5 hR
  obtain ⟨⟨r0, r1, r2, r3, r4, r5⟩, ⟨f0, f1, f2, f3, f4, f5⟩, hR⟩ := cells_of6 HVF.out.2.1
  obtain ⟨⟨v0, v1, v2, v3, v4, v5⟩, _, hV⟩ := cells_of6 HVF.out.2.2
  go_wp2_with fail
  have h6 := set6 (S := (fun x => w.heap.size ≤ x ∧ x < w.heap.size + 3)) (a := (.int .i64 0)) (b := (.int .i64 0)) (c := (.int .i64 0)) (d := (.int .i64 0)) (e := (.int .i64 0)) (f := (.int .i64 T.1)) HVF.out.2.1 ⟨by omega, by omega⟩
  generalize (((((V.setCell ⟨w.heap.size + 1, 0, none⟩ (.int .i64 0)).setCell ⟨w.heap.size + 1, 1, none⟩ (.int .i64 0)).setCell ⟨w.heap.size + 1, 2, none⟩ (.int .i64 0)).setCell ⟨w.heap.size + 1, 3, none⟩ (.int .i64 0)).setCell ⟨w.heap.size + 1, 4, none⟩ (.int .i64 0)).setCell ⟨w.heap.size + 1, 5, none⟩ (.int .i64 T.1) = U at h6 ⊢
  obtain ⟨⟨u0, u1, u2, u3, u4, u5⟩, _, hU⟩ := cells_of6 h6.1
  refine bodyPost_ret (v := ansV (0, ⟨0, 0, 0, 0⟩, T.1)) (by simp [results, Try.results42, go_sem, ansV, u0, u1, u2, u3, u4, u5]) rfl ⟨rfl, HP1.out.out (HVF.out.1.trans (h6.2.mono fun _ _ hx => hx)) HF.out⟩
set_option maxRecDepth 20000 in
set_option maxHeartbeats 4000000 in
theorem kp_ack {B : Nat} {cs : List Ins} {m : Nat} {h : Her Pr} {w0 : World} {H : Nat} {F : Nat → Prop} (a b : Int) (w : World) (g : KS B cs m h w0 H F w) (hm : m ≤ 1500000) :
    Calls Try.prog 42 #[.pointer (some ⟨H, 0, none⟩), .agg #[.int .i64 3, .int .i64 a, .int .i64 b]] w (PlayOut B cs m (ackH (machE cs) h a b).2 w0 H F (0, ⟨0, 0, 0, 0⟩, (ackH (machE cs) h a b).1) w) := by
  have HF : Hid (∀ x, F x → x < w.heap.size) := fun x hx => g.lt hx
  have HP := kp_in g 3 a b
  have HC : Hid (Calls Try.prog 38 #[.pointer (some ⟨H, 0, none⟩), .int .i64 a, .int .i64 b] (((w.alloc (.cells #[.int .i64 3, .int .i64 a, .int .i64 b] 95)).alloc (.cells #[.int .i64 0, .int .i64 0, .int .i64 0, .int .i64 0, .int .i64 0, .int .i64 0] 97)).alloc (.cells #[.int .i64 0, .int .i64 0, .int .i64 0, .int .i64 0, .int .i64 0, .int .i64 10] 97)) fun e w' => e = .returned (.int .i64 (ackH (machE cs) h a b).1) ∧ PlayIn B cs (m + 1) (ackH (machE cs) h a b).2 w0 H F w 3 a b w') :=
    (ks_Ack a b _ HP.ks (by omega)).mono fun e w' hh => ⟨hh.1, HP.after hh.2.1 hh.2.2⟩
  clear HP g
  generalize ackH (machE cs) h a b = T at *
  go_enter Try.func42, Try.ntmps42
  go_wp2_with fail
  refine HC.out.mono ?_
  rintro e w1 ⟨rfl, p1⟩
  have HP1 : Hid (PlayIn B cs (m + 1) T.2 w0 H F w 3 a b w1) := p1
  obtain ⟨⟨r0, r1, r2, r3, r4, r5⟩, ⟨f0, f1, f2, f3, f4, f5⟩, hR⟩ := cells_of6 p1.res
  obtain ⟨⟨v0, v1, v2, v3, v4, v5⟩, ⟨g0, g1, g2, g3, g4, g5⟩, hV⟩ := cells_of6 p1.var
  clear p1 HC
  go_upto_region 18 with fail
  obtain ⟨V, hV⟩ : ∃ V, V = w1.setCell ⟨w.heap.size + 1 + 1, 5, none⟩ (.int .i64 T.1) := ⟨_, rfl⟩
  rw [← hV]
  have HVF : Hid (Fr (fun x => w.heap.size ≤ x ∧ x < w.heap.size + 3) w1 V ∧ V.heap[w.heap.size + 1]? = some (.cells #[.int .i64 0, .int .i64 0, .int .i64 0, .int .i64 0, .int .i64 0, .int .i64 0] 97 (0, 0)) ∧ V.heap[w.heap.size + 1 + 1]? = some (.cells #[.int .i64 0, .int .i64 0, .int .i64 0, .int .i64 0, .int .i64 0, .int .i64 T.1] 97 (0, 0))) := by
    rw [hV]
    refine ⟨Fr.setCell (Fr.refl _ _) _ (.inl ⟨by show w.heap.size ≤ w.heap.size + 1 + 1; omega, by show w.heap.size + 1 + 1 < w.heap.size + 3; omega⟩) _, ?_, ?_⟩
    · rw [Below.heap_setCell _ _ _ _ (by show w.heap.size + 1 ≠ w.heap.size + 1 + 1; omega)]
      exact HP1.out.res
    · rw [heap_setCell_self _ HP1.out.var]
      rfl
  clear hV r0 r1 r2 r3 r4 r5 f0 f1 f2 f3 f4 f5 v0 v1 v2 v3 v4 v5 g0 g1 g2 g3 g4 g5 hR
  obtain ⟨⟨r0, r1, r2, r3, r4, r5⟩, ⟨f0, f1, f2, f3, f4, f5⟩, hR⟩ := cells_of6 HVF.out.2.1
  obtain ⟨⟨v0, v1, v2, v3, v4, v5⟩, _, hV⟩ := cells_of6 HVF.out.2.2
  go_wp2_with fail
  have h6 := set6 (S := (fun x => w.heap.size ≤ x ∧ x < w.heap.size + 3)) (a := (.int .i64 0)) (b := (.int .i64 0)) (c := (.int .i64 0)) (d := (.int .i64 0)) (e := (.int .i64 0)) (f := (.int .i64 T.1)) HVF.out.2.1 ⟨by omega, by omega⟩
  generalize (((((V.setCell ⟨w.heap.size + 1, 0, none⟩ (.int .i64 0)).setCell ⟨w.heap.size + 1, 1, none⟩ (.int .i64 0)).setCell ⟨w.heap.size + 1, 2, none⟩ (.int .i64 0)).setCell ⟨w.heap.size + 1, 3, none⟩ (.int .i64 0)).setCell ⟨w.heap.size + 1, 4, none⟩ (.int .i64 0)).setCell ⟨w.heap.size + 1, 5, none⟩ (.int .i64 T.1) = U at h6 ⊢
  obtain ⟨⟨u0, u1, u2, u3, u4, u5⟩, _, hU⟩ := cells_of6 h6.1
  refine bodyPost_ret (v := ansV (0, ⟨0, 0, 0, 0⟩, T.1)) (by simp [results, Try.results42, go_sem, ansV, u0, u1, u2, u3, u4, u5]) rfl ⟨rfl, HP1.out.out (HVF.out.1.trans (h6.2.mono fun _ _ hx => hx)) HF.out⟩
set_option maxRecDepth 20000 in
set_option maxHeartbeats 4000000 in
theorem kp_cancel {B : Nat} {cs : List Ins} {m : Nat} {h : Her Pr} {w0 : World} {H : Nat} {F : Nat → Prop} (a b : Int) (w : World) (g : KS B cs m h w0 H F w) (hm : m ≤ 1500000) :
    Calls Try.prog 42 #[.pointer (some ⟨H, 0, none⟩), .agg #[.int .i64 4, .int .i64 a, .int .i64 b]] w (PlayOut B cs m (cancelH (machE cs) h a).2 w0 H F (0, ⟨0, 0, 0, 0⟩, (cancelH (machE cs) h a).1) w) := by
  have HF : Hid (∀ x, F x → x < w.heap.size) := fun x hx => g.lt hx
  have HP := kp_in g 4 a b
  have HC : Hid (Calls Try.prog 40 #[.pointer (some ⟨H, 0, none⟩), .int .i64 a] (((w.alloc (.cells #[.int .i64 4, .int .i64 a, .int .i64 b] 95)).alloc (.cells #[.int .i64 0, .int .i64 0, .int .i64 0, .int .i64 0, .int .i64 0, .int .i64 0] 97)).alloc (.cells #[.int .i64 0, .int .i64 0, .int .i64 0, .int .i64 0, .int .i64 0, .int .i64 10] 97)) fun e w' => e = .returned (.int .i64 (cancelH (machE cs) h a).1) ∧ PlayIn B cs (m + 1) (cancelH (machE cs) h a).2 w0 H F w 4 a b w') :=
    (ks_Cancel a _ HP.ks (by omega)).mono fun e w' hh => ⟨hh.1, HP.after hh.2.1 hh.2.2⟩
  clear HP g
  generalize cancelH (machE cs) h a = T at *
  go_enter Try.func42, Try.ntmps42
  go_wp2_with fail
  refine HC.out.mono ?_
  rintro e w1 ⟨rfl, p1⟩
  have HP1 : Hid (PlayIn B cs (m + 1) T.2 w0 H F w 4 a b w1) := p1
  obtain ⟨⟨r0, r1, r2, r3, r4, r5⟩, ⟨f0, f1, f2, f3, f4, f5⟩, hR⟩ := cells_of6 p1.res
  obtain ⟨⟨v0, v1, v2, v3, v4, v5⟩, ⟨g0, g1, g2, g3, g4, g5⟩, hV⟩ := cells_of6 p1.var
  clear p1 HC
  go_upto_region 18 with fail
  obtain ⟨V, hV⟩ : ∃ V, V = w1.setCell ⟨w.heap.size + 1 + 1, 5, none⟩ (.int .i64 T.1) := ⟨_, rfl⟩
  rw [← hV]
  have HVF : Hid (Fr (fun x => w.heap.size ≤ x ∧ x < w.heap.size + 3) w1 V ∧ V.heap[w.heap.size + 1]? = some (.cells #[.int .i64 0, .int .i64 0, .int .i64 0, .int .i64 0, .int .i64 0, .int .i64 0] 97 (0, 0)) ∧ V.heap[w.heap.size + 1 + 1]? = some (.cells #[.int .i64 0, .int .i64 0, .int .i64 0, .int .i64 0, .int .i64 0, .int .i64 T.1] 97 (0, 0))) := by
    rw [hV]
    refine ⟨Fr.setCell (Fr.refl _ _) _ (.inl ⟨by show w.heap.size ≤ w.heap.size + 1 + 1; omega, by show w.heap.size + 1 + 1 < w.heap.size + 3; omega⟩) _, ?_, ?_⟩
    · rw [Below.heap_setCell _ _ _ _ (by show w.heap.size + 1 ≠ w.heap.size + 1 + 1; omega)]
      exact HP1.out.res
    · rw [heap_setCell_self _ HP1.out.var]
      rfl
  clear hV r0 r1 r2 r3 r4 r5 f0 f1 f2 f3 f4 f5 v0 v1 v2 v3 v4 v5 g0 g1 g2 g3 g4 g5 hR
  obtain ⟨⟨r0, r1, r2, r3, r4, r5⟩, ⟨f0, f1, f2, f3, f4, f5⟩, hR⟩ := cells_of6 HVF.out.2.1
  obtain ⟨⟨v0, v1, v2, v3, v4, v5⟩, _, hV⟩ := cells_of6 HVF.out.2.2
  go_wp2_with fail
  have h6 := set6 (S := (fun x => w.heap.size ≤ x ∧ x < w.heap.size + 3)) (a := (.int .i64 0)) (b := (.int .i64 0)) (c := (.int .i64 0)) (d := (.int .i64 0)) (e := (.int .i64 0)) (f := (.int .i64 T.1)) HVF.out.2.1 ⟨by omega, by omega⟩
  generalize (((((V.setCell ⟨w.heap.size + 1, 0, none⟩ (.int .i64 0)).setCell ⟨w.heap.size + 1, 1, none⟩ (.int .i64 0)).setCell ⟨w.heap.size + 1, 2, none⟩ (.int .i64 0)).setCell ⟨w.heap.size + 1, 3, none⟩ (.int .i64 0)).setCell ⟨w.heap.size + 1, 4, none⟩ (.int .i64 0)).setCell ⟨w.heap.size + 1, 5, none⟩ (.int .i64 T.1) = U at h6 ⊢
  obtain ⟨⟨u0, u1, u2, u3, u4, u5⟩, _, hU⟩ := cells_of6 h6.1
  refine bodyPost_ret (v := ansV (0, ⟨0, 0, 0, 0⟩, T.1)) (by simp [results, Try.results42, go_sem, ansV, u0, u1, u2, u3, u4, u5]) rfl ⟨rfl, HP1.out.out (HVF.out.1.trans (h6.2.mono fun _ _ hx => hx)) HF.out⟩
set_option maxRecDepth 20000 in
set_option maxHeartbeats 4000000 in
theorem kp_drain {B : Nat} {cs : List Ins} {m : Nat} {h : Her Pr} {w0 : World} {H : Nat} {F : Nat → Prop} (a b : Int) (w : World) (g : KS B cs m h w0 H F w) (hm : m ≤ 1500000) :
    Calls Try.prog 42 #[.pointer (some ⟨H, 0, none⟩), .agg #[.int .i64 5, .int .i64 a, .int .i64 b]] w (PlayOut B cs m (drainH h a).2.2 w0 H F (0, (drainH h a).1, (drainH h a).2.1) w) := by
  have HF : Hid (∀ x, F x → x < w.heap.size) := fun x hx => g.lt hx
  have HP := kp_in g 5 a b
  have HC : Hid (Calls Try.prog 37 #[.pointer (some ⟨H, 0, none⟩), .int .i64 a] (((w.alloc (.cells #[.int .i64 5, .int .i64 a, .int .i64 b] 95)).alloc (.cells #[.int .i64 0, .int .i64 0, .int .i64 0, .int .i64 0, .int .i64 0, .int .i64 0] 97)).alloc (.cells #[.int .i64 0, .int .i64 0, .int .i64 0, .int .i64 0, .int .i64 0, .int .i64 10] 97)) fun e w' => e = .returned (.tuple #[.agg #[.int .i64 (drainH h a).1.dev, .int .i64 (drainH h a).1.run, .int .i64 (drainH h a).1.num, .int .i64 (drainH h a).1.key], .int .i64 (drainH h a).2.1]) ∧ PlayIn B cs (m + 1) (drainH h a).2.2 w0 H F w 5 a b w') :=
    (ks_Drain a _ HP.ks (by omega)).mono fun e w' hh => ⟨hh.1, HP.after hh.2.1 hh.2.2⟩
  clear HP g
  generalize drainH h a = T at *
  go_enter Try.func42, Try.ntmps42
  go_wp2_with fail
  refine HC.out.mono ?_
  rintro e w1 ⟨rfl, p1⟩
  have HP1 : Hid (PlayIn B cs (m + 1) T.2.2 w0 H F w 5 a b w1) := p1
  obtain ⟨⟨r0, r1, r2, r3, r4, r5⟩, ⟨f0, f1, f2, f3, f4, f5⟩, hR⟩ := cells_of6 p1.res
  obtain ⟨⟨v0, v1, v2, v3, v4, v5⟩, ⟨g0, g1, g2, g3, g4, g5⟩, hV⟩ := cells_of6 p1.var
  clear p1 HC
  go_upto_region 18 with fail
  obtain ⟨V, hV⟩ : ∃ V, V = (((((w1.setCell ⟨w.heap.size + 1 + 1, 1, none⟩ (.int .i64 T.1.dev)).setCell ⟨w.heap.size + 1 + 1, 2, none⟩ (.int .i64 T.1.run)).setCell ⟨w.heap.size + 1 + 1, 3, none⟩ (.int .i64 T.1.num)).setCell ⟨w.heap.size + 1 + 1, 4, none⟩ (.int .i64 T.1.key)).setCell ⟨w.heap.size + 1 + 1, 5, none⟩ (.int .i64 T.2.1)).alloc (.cells #[.int .i64 T.1.dev, .int .i64 T.1.run, .int .i64 T.1.num, .int .i64 T.1.key] 83) := ⟨_, rfl⟩
  rw [← hV]
  have HVF : Hid (Fr (fun x => w.heap.size ≤ x ∧ x < w.heap.size + 3) w1 V ∧ V.heap[w.heap.size + 1]? = some (.cells #[.int .i64 0, .int .i64 0, .int .i64 0, .int .i64 0, .int .i64 0, .int .i64 0] 97 (0, 0)) ∧ V.heap[w.heap.size + 1 + 1]? = some (.cells #[.int .i64 0, .int .i64 T.1.dev, .int .i64 T.1.run, .int .i64 T.1.num, .int .i64 T.1.key, .int .i64 T.2.1] 97 (0, 0))) := by
    rw [hV]
    have hi : (fun x => w.heap.size ≤ x ∧ x < w.heap.size + 3) (w.heap.size + 1 + 1) := ⟨by show w.heap.size ≤ w.heap.size + 1 + 1; omega, by show w.heap.size + 1 + 1 < w.heap.size + 3; omega⟩
    refine ⟨Fr.alloc (Fr.setCell (Fr.setCell (Fr.setCell (Fr.setCell (Fr.setCell (Fr.refl _ _) _ (.inl hi) _) _ (.inl hi) _) _ (.inl hi) _) _ (.inl hi) _) _ (.inl hi) _) _, ?_, ?_⟩
    · rw [Below.heap_alloc _ _ _ (by simp only [size_setCell]; exact heap_lt HP1.out.res), Below.heap_setCell _ _ _ _ (by show w.heap.size + 1 ≠ w.heap.size + 1 + 1; omega), Below.heap_setCell _ _ _ _ (by show w.heap.size + 1 ≠ w.heap.size + 1 + 1; omega), Below.heap_setCell _ _ _ _ (by show w.heap.size + 1 ≠ w.heap.size + 1 + 1; omega), Below.heap_setCell _ _ _ _ (by show w.heap.size + 1 ≠ w.heap.size + 1 + 1; omega), Below.heap_setCell _ _ _ _ (by show w.heap.size + 1 ≠ w.heap.size + 1 + 1; omega)]
      exact HP1.out.res
    · rw [Below.heap_alloc _ _ _ (by simp only [size_setCell]; exact heap_lt HP1.out.var), heap_setCell_self _ (heap_setCell_self _ (heap_setCell_self _ (heap_setCell_self _ (heap_setCell_self _ HP1.out.var))))]
      rfl
  clear hV r0 r1 r2 r3 r4 r5 f0 f1 f2 f3 f4 f5 v0 v1 v2 v3 v4 v5 g0 g1 g2 g3 g4 g5 hR
  obtain ⟨⟨r0, r1, r2, r3, r4, r5⟩, ⟨f0, f1, f2, f3, f4, f5⟩, hR⟩ := cells_of6 HVF.out.2.1
  obtain ⟨⟨v0, v1, v2, v3, v4, v5⟩, _, hV⟩ := cells_of6 HVF.out.2.2
  go_wp2_with fail
  have h6 := set6 (S := (fun x => w.heap.size ≤ x ∧ x < w.heap.size + 3)) (a := (.int .i64 0)) (b := (.int .i64 T.1.dev)) (c := (.int .i64 T.1.run)) (d := (.int .i64 T.1.num)) (e := (.int .i64 T.1.key)) (f := (.int .i64 T.2.1)) HVF.out.2.1 ⟨by omega, by omega⟩
  generalize (((((V.setCell ⟨w.heap.size + 1, 0, none⟩ (.int .i64 0)).setCell ⟨w.heap.size + 1, 1, none⟩ (.int .i64 T.1.dev)).setCell ⟨w.heap.size + 1, 2, none⟩ (.int .i64 T.1.run)).setCell ⟨w.heap.size + 1, 3, none⟩ (.int .i64 T.1.num)).setCell ⟨w.heap.size + 1, 4, none⟩ (.int .i64 T.1.key)).setCell ⟨w.heap.size + 1, 5, none⟩ (.int .i64 T.2.1) = U at h6 ⊢
  obtain ⟨⟨u0, u1, u2, u3, u4, u5⟩, _, hU⟩ := cells_of6 h6.1
  refine bodyPost_ret (v := ansV (0, T.1, T.2.1)) (by simp [results, Try.results42, go_sem, ansV, u0, u1, u2, u3, u4, u5]) rfl ⟨rfl, HP1.out.out (HVF.out.1.trans (h6.2.mono fun _ _ hx => hx)) HF.out⟩
set_option maxRecDepth 20000 in
set_option maxHeartbeats 4000000 in
theorem kp_none {B : Nat} {cs : List Ins} {m : Nat} {h : Her Pr} {w0 : World} {H : Nat} {F : Nat → Prop} (k a b : Int) (w : World) (g : KS B cs m h w0 H F w) (hk : ¬ (1 ≤ k ∧ k ≤ 5)) :
    Calls Try.prog 42 #[.pointer (some ⟨H, 0, none⟩), .agg #[.int .i64 k, .int .i64 a, .int .i64 b]] w (PlayOut B cs m h w0 H F (0, ⟨0, 0, 0, 0⟩, 10) w) := by
  have HF : Hid (∀ x, F x → x < w.heap.size) := fun x hx => g.lt hx
  have hp := kp_in g k a b
  have HP1 : Hid (PlayIn B cs (m + 1) h w0 H F w k a b (((w.alloc (.cells #[.int .i64 k, .int .i64 a, .int .i64 b] 95)).alloc (.cells #[.int .i64 0, .int .i64 0, .int .i64 0, .int .i64 0, .int .i64 0, .int .i64 0] 97)).alloc (.cells #[.int .i64 0, .int .i64 0, .int .i64 0, .int .i64 0, .int .i64 0, .int .i64 10] 97))) := ⟨hp.ks.le (by omega), hp.op, hp.res, hp.var, hp.old, hp.b0⟩
  clear hp g
  have k1 : (k == 1) = false := by simp; omega
  have k2 : (k == 2) = false := by simp; omega
  have k3 : (k == 3) = false := by simp; omega
  have k4 : (k == 4) = false := by simp; omega
  have k5 : (k == 5) = false := by simp; omega
  go_enter Try.func42, Try.ntmps42
  go_upto_region 18 with fail
  obtain ⟨V, hV⟩ : ∃ V, V = (((w.alloc (.cells #[.int .i64 k, .int .i64 a, .int .i64 b] 95)).alloc (.cells #[.int .i64 0, .int .i64 0, .int .i64 0, .int .i64 0, .int .i64 0, .int .i64 0] 97)).alloc (.cells #[.int .i64 0, .int .i64 0, .int .i64 0, .int .i64 0, .int .i64 0, .int .i64 10] 97)) := ⟨_, rfl⟩
  rw [← hV] at HP1 ⊢
  have HVF : Hid (Fr (fun x => w.heap.size ≤ x ∧ x < w.heap.size + 3) V V ∧ V.heap[w.heap.size + 1]? = some (.cells #[.int .i64 0, .int .i64 0, .int .i64 0, .int .i64 0, .int .i64 0, .int .i64 0] 97 (0, 0)) ∧ V.heap[w.heap.size + 1 + 1]? = some (.cells #[.int .i64 0, .int .i64 0, .int .i64 0, .int .i64 0, .int .i64 0, .int .i64 10] 97 (0, 0))) := ⟨Fr.refl _ _, HP1.out.res, HP1.out.var⟩
  clear hV
  obtain ⟨⟨r0, r1, r2, r3, r4, r5⟩, ⟨f0, f1, f2, f3, f4, f5⟩, hR⟩ := cells_of6 HVF.out.2.1
  obtain ⟨⟨v0, v1, v2, v3, v4, v5⟩, _, hV⟩ := cells_of6 HVF.out.2.2
  go_wp2_with fail
  have h6 := set6 (S := (fun x => w.heap.size ≤ x ∧ x < w.heap.size + 3)) (a := (.int .i64 0)) (b := (.int .i64 0)) (c := (.int .i64 0)) (d := (.int .i64 0)) (e := (.int .i64 0)) (f := (.int .i64 10)) HVF.out.2.1 ⟨by omega, by omega⟩
  generalize (((((V.setCell ⟨w.heap.size + 1, 0, none⟩ (.int .i64 0)).setCell ⟨w.heap.size + 1, 1, none⟩ (.int .i64 0)).setCell ⟨w.heap.size + 1, 2, none⟩ (.int .i64 0)).setCell ⟨w.heap.size + 1, 3, none⟩ (.int .i64 0)).setCell ⟨w.heap.size + 1, 4, none⟩ (.int .i64 0)).setCell ⟨w.heap.size + 1, 5, none⟩ (.int .i64 10) = U at h6 ⊢
  obtain ⟨⟨u0, u1, u2, u3, u4, u5⟩, _, hU⟩ := cells_of6 h6.1
  refine bodyPost_ret (v := ansV (0, ⟨0, 0, 0, 0⟩, 10)) (by simp [results, Try.results42, go_sem, ansV, u0, u1, u2, u3, u4, u5]) rfl ⟨rfl, HP1.out.out (HVF.out.1.trans (h6.2.mono fun _ _ hx => hx)) HF.out⟩
/-- A step is played. -/
theorem c_play {B : Nat} {cs : List Ins} {m : Nat} {h : Her Pr} {w0 : World} {H : Nat} {F : Nat → Prop} (k a b : Int) (w : World) (g : KS B cs m h w0 H F w) (hm : m ≤ 1500000) :
    Calls Try.prog 42 #[.pointer (some ⟨H, 0, none⟩), .agg #[.int .i64 k, .int .i64 a, .int .i64 b]] w (PlayOut B cs m (playH cs h k a b).2 w0 H F (playH cs h k a b).1 w) := by
  unfold playH
  by_cases h1 : k = 1
  · rw [if_pos h1]
    subst h1
    exact kp_trigger a b w g hm
  rw [if_neg h1]
  by_cases h2 : k = 2
  · rw [if_pos h2]
    subst h2
    exact kp_tick a b w g hm
  rw [if_neg h2]
  by_cases h3 : k = 3
  · rw [if_pos h3]
    subst h3
    exact kp_ack a b w g hm
  rw [if_neg h3]
  by_cases h4 : k = 4
  · rw [if_pos h4]
    subst h4
    exact kp_cancel a b w g hm
  rw [if_neg h4]
  by_cases h5 : k = 5
  · rw [if_pos h5]
    subst h5
    exact kp_drain a b w g hm
  rw [if_neg h5]
  exact kp_none k a b w g (by omega)
open Go.RowKit Go.Proofs.Herald
def textG (t : ByteArray) (tr : Tree 5) : TR → Prop := fun s => ∃ r, Tied t (codeOf t tr) 6400 r s ∧ goodP (codeOf t tr) r
theorem text_eng {t : ByteArray} {tr : Tree 5} (h : TextOk t tr) (ht : t.size ≤ 400) : EngOk (textE t tr) (textG t tr) := (codeE_ok (h.sound ht)).same (h.same ht) (fun _ _ => rfl)
/-- The herald of the code, and what its runs do by the text: they end by the time en. -/
def ED (t : ByteArray) (tr : Tree 5) (en : Int) (h : Her Pr) : Prop :=
  ∃ (hc : Her Pr) (ht : Her TR) (C : Int), 0 ≤ C ∧ SameHer StR hc h ∧ SameHer (Tied t (codeOf t tr) 6400) hc ht ∧ HOk (textE t tr) (textG t tr) C ht ∧ HE t en ht
theorem ED.new {t : ByteArray} {tr : Tree 5} {en : Int} : ED t tr en newH := ⟨newH, newH, 0, Int.le_refl _, SameHer.new _, SameHer.new _, HOk.new _ _, fun r hr => by cases hr⟩
theorem ED.none {t : ByteArray} {tr : Tree 5} {en : Int} {h : Her Pr} (e : ED t tr en h) (hn : en ≤ h.now) : h.rs = [] := by
  obtain ⟨hc, ht, C, _, s1, s2, _, he⟩ := e
  have h1 := he.none (by rw [← s2.now, s1.now]; exact hn)
  have l1 := relL_len s1.rs
  have l2 := relL_len s2.rs
  rw [h1] at l2
  exact List.eq_nil_of_length_eq_zero (by rw [← l1, l2]; rfl)
theorem ED.trig {t : ByteArray} {tr : Tree 5} {en : Int} {h : Her Pr} (hT : TextOk t tr) (hz : t.size ≤ 400) (e : ED t tr en h) (hl : h.now + maxI (lastsT t 5 tr).1 (lastsT t 5 tr).2 ≤ en) (dev : Int) : ED t tr en (trigH (machE (codeOf t tr)) h dev).2.2 := by
  obtain ⟨hc, ht, C, c0, s1, s2, k, he⟩ := e
  have hE := text_eng hT hz
  have g1 := s1.trig (mach_same (hT.sound hz)) dev
  have g2 := s2.trig (hT.same hz) dev
  exact ⟨_, _, C + 10000, by omega, g1.2.2, g2.2.2, HOk.trig hE k c0 dev, HE.trig hE (GT.fine 5 _ tr hT.words hT.good) k he (by rw [← s2.now, s1.now]; exact hl) dev⟩
theorem ED.tick {t : ByteArray} {tr : Tree 5} {en : Int} {h : Her Pr} (hT : TextOk t tr) (hz : t.size ≤ 400) (e : ED t tr en h) (n : Int) : ED t tr en (tickH (machE (codeOf t tr)) h n).2 := by
  obtain ⟨hc, ht, C, c0, s1, s2, k, he⟩ := e
  have hE := text_eng hT hz
  exact ⟨_, _, C + 50000000, by omega, (s1.tick (mach_same (hT.sound hz)) n).2, (s2.tick (hT.same hz) n).2, (HOk.tick hE k n).1, he.tick hE k n⟩
theorem ED.ack {t : ByteArray} {tr : Tree 5} {en : Int} {h : Her Pr} (hT : TextOk t tr) (hz : t.size ≤ 400) (e : ED t tr en h) (id num : Int) : ED t tr en (ackH (machE (codeOf t tr)) h id num).2 := by
  obtain ⟨hc, ht, C, c0, s1, s2, k, he⟩ := e
  have hE := text_eng hT hz
  exact ⟨_, _, C + 10000, by omega, (s1.ack (mach_same (hT.sound hz)) id num).2, (s2.ack (hT.same hz) id num).2, HOk.ack hE k id num, he.ack hE k id num⟩
theorem ED.cancel {t : ByteArray} {tr : Tree 5} {en : Int} {h : Her Pr} (hT : TextOk t tr) (hz : t.size ≤ 400) (e : ED t tr en h) (id : Int) : ED t tr en (cancelH (machE (codeOf t tr)) h id).2 := by
  obtain ⟨hc, ht, C, c0, s1, s2, k, he⟩ := e
  exact ⟨_, _, C, c0, (s1.cancel (mach_same (hT.sound hz)) id).2, (s2.cancel (hT.same hz) id).2, HOk.cancel k id, he.cancel id⟩
theorem ED.drain {t : ByteArray} {tr : Tree 5} {en : Int} {h : Her Pr} (e : ED t tr en h) (dev : Int) : ED t tr en (drainH h dev).2.2 := by
  obtain ⟨hc, ht, C, c0, s1, s2, k, he⟩ := e
  exact ⟨_, _, C, c0, (s1.drain dev).2.2, (s2.drain dev).2.2, HOk.drain k dev, he.drain dev⟩
theorem ED.play {t : ByteArray} {tr : Tree 5} {en : Int} {h : Her Pr} (hT : TextOk t tr) (hz : t.size ≤ 400) (e : ED t tr en h) (k a b : Int) (hk : k ≠ 1) : ED t tr en (playH (codeOf t tr) h k a b).2 := by
  unfold playH
  rw [if_neg hk]
  split
  · exact e.tick hT hz a
  split
  · exact e.ack hT hz a b
  split
  · exact e.cancel hT hz a
  split
  · exact e.drain a
  · exact e
theorem play_now {cs : List Ins} {h : Her Pr} (k a b : Int) : (playH cs h k a b).2.now = if k = 2 ∧ (playH cs h k a b).1.2.2 = 0 then h.now + a else h.now := by
  have go_now : ∀ (h : Her Pr) (r : Pr) (y : Bool), (goH (machE cs) h r y).now = h.now := fun _ _ _ => rfl
  unfold playH
  by_cases h1 : k = 1
  · rw [if_pos h1, if_neg (by omega)]
    unfold trigH
    split
    · rfl
    · split <;> rfl
  rw [if_neg h1]
  by_cases h2 : k = 2
  · rw [if_pos h2]
    unfold tickH
    split
    · rw [if_neg (by rintro ⟨_, h⟩; cases h)]
    · rw [if_pos ⟨h2, rfl⟩]
  rw [if_neg h2]
  by_cases h3 : k = 3
  · rw [if_pos h3, if_neg (by omega)]
    unfold ackH
    cases findR (machE cs) h.rs a with
    | none => rfl
    | some r =>
      simp only
      split
      · rfl
      · split <;> rfl
  rw [if_neg h3]
  by_cases h4 : k = 4
  · rw [if_pos h4, if_neg (by omega)]
    unfold cancelH
    cases findR (machE cs) h.rs a with
    | none => rfl
    | some r => rfl
  rw [if_neg h4]
  by_cases h5 : k = 5
  · rw [if_pos h5, if_neg (by omega)]
    unfold drainH
    split
    · rfl
    · cases h.qs a.toNat with
      | nil => rfl
      | cons m r => rfl
  rw [if_neg h5, if_neg (by omega)]
theorem tick_yes {cs : List Ins} {h : Her Pr} {n : Int} (h1 : 1 ≤ n) (h2 : n ≤ 999) (h3 : h.now + n ≤ 1000000000) : (tickH (machE cs) h n).1 = 0 ∧ (tickH (machE cs) h n).2.now = h.now + n := by
  unfold tickH
  rw [if_neg (by omega)]
  exact ⟨rfl, rfl⟩
end Go.Proofs.Ytmmmnghiegajmaa
