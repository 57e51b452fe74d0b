/- What the program's functions on lists of statements give back: how long a run can take. -/
import Derived.Test.YtiaibigmbflpiaaCodeB
import Derived.Test.YtiaibigmbflpiaaPureJ
namespace Go.Proofs.Ytiaibigmbflpiaa
open Go.RowKit Go.Proofs.Herald

def ndCells (x : Nd) : List Value := [.int .i64 x.kind, .int .i64 x.key, .int .i64 x.times, .int .i64 x.ticks, .int .i64 x.body, .int .i64 x.els]

theorem heap4 (w : World) (A B C R : Obj) : ((((w.alloc A).alloc B).alloc C).alloc R).heap[w.heap.size]? = some A ∧ ((((w.alloc A).alloc B).alloc C).alloc R).heap[w.heap.size + 1]? = some B ∧
    ((((w.alloc A).alloc B).alloc C).alloc R).heap[w.heap.size + 1 + 1]? = some C ∧ ((((w.alloc A).alloc B).alloc C).alloc R).heap[w.heap.size + 1 + 1 + 1]? = some R := by
  obtain ⟨a, b, c⟩ := heap3 w A B C
  refine ⟨?_, ?_, ?_, heap_alloc_at _ _ _ (by simp)⟩
  · rw [Below.heap_alloc _ _ _ (by simp; omega)]; exact a
  · rw [Below.heap_alloc _ _ _ (by simp)]; exact b
  · rw [Below.heap_alloc _ _ _ (by simp)]; exact c

set_option maxHeartbeats 2000000 in
theorem c_statementSpan (t : ByteArray) (h : Hd) (b e : Nat) (hg : GoodHd t h) (p q r s : Int) (w : World) (hp0 : -1 ≤ p) (hp : p ≤ 10000000000000) (hq0 : -1 ≤ q) (hq : q ≤ 10000000000000) (hr0 : -1 ≤ r) (hr : r ≤ 10000000000000) (hs0 : -1 ≤ s) (hs : s ≤ 10000000000000) :
    Calls Try.prog 133 #[.agg (ndCells (ndOf t h b e)).toArray, .agg #[.int .i64 p, .int .i64 q], .agg #[.int .i64 r, .int .i64 s]] w fun e w' =>
      e = .returned (.agg #[.int .i64 (oneI t h (p, q) (r, s)).1, .int .i64 (oneI t h (p, q) (r, s)).2]) ∧ Below w.heap.size w w' := by
  have hbel : ∀ A B C R : Obj, Below w.heap.size w ((((w.alloc A).alloc B).alloc C).alloc R) := fun A B C R =>
    ((((Below.refl _ _).alloc (Nat.le_refl _) _).alloc (by simp) _).alloc (by simp; omega) _).alloc (by simp; omega) _
  have HBEL : Hid (∀ A B C R : Obj, Below w.heap.size w ((((w.alloc A).alloc B).alloc C).alloc R)) := hbel
  clear hbel
  rcases hg with ⟨hk, h1, h2⟩ | ⟨hk, h1, h2, h3, h4⟩ | ⟨hk, h1, h2, h3⟩ | ⟨hk, h1, h2, h3⟩ | ⟨hk, h1, h2, h3, h4⟩ | ⟨hk, h1, h2, h3, h4⟩
  · have HC : ndCells (ndOf t h b e) = [.int .i64 1, .int .i64 h.key, .int .i64 0, .int .i64 0, .int .i64 b, .int .i64 e] := by rw [ndOf_send b e hk]; rfl
    have HO : Hid (oneI t h (p, q) (r, s) = (0, -1)) := oneI_send (p, q) (r, s) hk
    rw [HC]
    clear HC hk
    go_enter Try.func133, Try.ntmps133
    go_wp2_with fail
    refine bodyPost_ret (v := .agg #[.int .i64 0, .int .i64 (-1)]) (by simp [results, Try.results133, go_sem]) rfl ⟨by rw [HO.out], ?_⟩
    exact HBEL.out _ _ _ _
  · have HC : ndCells (ndOf t h b e) = [.int .i64 2, .int .i64 h.key, .int .i64 0, .int .i64 h.n, .int .i64 b, .int .i64 e] := by rw [ndOf_wait b e hk]; rfl
    have HO : Hid (oneI t h (p, q) (r, s) = (h.n, -1)) := oneI_wait (p, q) (r, s) hk
    rw [HC]
    clear HC hk
    go_enter Try.func133, Try.ntmps133
    go_wp2_with fail
    refine bodyPost_ret (v := .agg #[.int .i64 h.n, .int .i64 (-1)]) (by simp [results, Try.results133, go_sem]) rfl ⟨by rw [HO.out], ?_⟩
    exact HBEL.out _ _ _ _
  · have HC : ndCells (ndOf t h b e) = [.int .i64 3, .int .i64 h.key, .int .i64 0, .int .i64 0, .int .i64 b, .int .i64 e] := by rw [ndOf_stop b e hk]; rfl
    have HO : Hid (oneI t h (p, q) (r, s) = (-1, 0)) := oneI_stop (p, q) (r, s) hk
    rw [HC]
    clear HC hk
    go_enter Try.func133, Try.ntmps133
    go_wp2_with fail
    refine bodyPost_ret (v := .agg #[.int .i64 (-1), .int .i64 0]) (by simp [results, Try.results133, go_sem]) rfl ⟨by rw [HO.out], ?_⟩
    exact HBEL.out _ _ _ _
  · have HC : ndCells (ndOf t h b e) = [.int .i64 4, .int .i64 h.key, .int .i64 0, .int .i64 h.n, .int .i64 b, .int .i64 e] := by rw [ndOf_ask b e hk]; rfl
    have HO : Hid (oneI t h (p, q) (r, s) = (maxI (behindI (h.n - 1) p) (behindI (h.n) r), maxI (behindI (h.n - 1) q) (behindI (h.n) s))) := oneI_ask (p, q) (r, s) hk h3
    rw [HC]
    clear HC hk
    go_enter Try.func133, Try.ntmps133
    go_wp2_with fail
    refine (c_answerSpan h.n p q r s _ h1 (by omega) hp0 (by omega) hq0 (by omega) hr0 (by omega) hs0 (by omega)).mono ?_
    rintro ee w1 ⟨rfl, hb1⟩
    have hz : w.heap.size + 4 ≤ w1.heap.size := by have := hb1.size; simp at this; omega
    obtain ⟨_, _, _, k3⟩ := heap4 w (.cells #[.int .i64 4, .int .i64 h.key, .int .i64 0, .int .i64 h.n, .int .i64 b, .int .i64 e] 202) (.cells #[.int .i64 p, .int .i64 q] 188) (.cells #[.int .i64 r, .int .i64 s] 188) (.cells #[.int .i64 0, .int .i64 0] 188)
    have g3 := (hb1.block (w.heap.size + 1 + 1 + 1) (by simp)).trans k3
    have r0 : w1.cell? ⟨w.heap.size + 1 + 1 + 1, 0, none⟩ = some (.int .i64 0) := (cell_of_heap g3).trans rfl
    have r1 : w1.cell? ⟨w.heap.size + 1 + 1 + 1, 1, none⟩ = some (.int .i64 0) := (cell_of_heap g3).trans rfl
    have z0 : w1.frozen? ⟨w.heap.size + 1 + 1 + 1, 0, none⟩ = false := free_of_heap g3
    have z1 : w1.frozen? ⟨w.heap.size + 1 + 1 + 1, 1, none⟩ = false := free_of_heap g3
    have HB : Hid (Below w.heap.size w w1) := (HBEL.out _ _ _ _).trans (hb1.mono (by simp; omega))
    clear hb1 g3 k3
    go_wp2_with fail
    refine bodyPost_ret (v := .agg #[.int .i64 (maxI (behindI (h.n - 1) p) (behindI (h.n) r)), .int .i64 (maxI (behindI (h.n - 1) q) (behindI (h.n) s))]) (by simp [results, Try.results133, go_sem, r0, r1]) rfl ⟨by rw [HO.out], ?_⟩
    exact (HB.out.setCell (p := ⟨w.heap.size + 1 + 1 + 1, 0, none⟩) (by simp; omega) _).setCell (p := ⟨w.heap.size + 1 + 1 + 1, 1, none⟩) (by simp; omega) _
  · have HC : ndCells (ndOf t h b e) = [.int .i64 5, .int .i64 h.key, .int .i64 h.m, .int .i64 h.n, .int .i64 b, .int .i64 e] := by rw [ndOf_retry b e hk]; rfl
    have HO : Hid (oneI t h (p, q) (r, s) = (maxI (behindI (triesS h.n h.m.toNat - 1) p) (behindI (triesS h.n h.m.toNat) r), maxI (behindI (triesS h.n h.m.toNat - 1) q) (behindI (triesS h.n h.m.toNat) s))) := by
      show _ = _
      have e1 : triesI h.n (h.m - 1).toNat = triesS h.n h.m.toNat := by rw [show h.m.toNat = (h.m - 1).toNat + 1 from by omega]; rfl
      rw [oneI_retry (p, q) (r, s) hk, e1]
    rw [HC]
    clear HC hk
    have hT := triesS_bound h.n (by omega) h2 h.m.toNat (by omega)
    have hT1 : 1 ≤ triesS h.n h.m.toNat := by rw [show h.m.toNat = (h.m - 1).toNat + 1 from by omega, triesS_succ]; have := triesS_bound h.n (by omega) h2 (h.m - 1).toNat (by omega); omega
    go_enter Try.func133, Try.ntmps133
    go_wp2_with (go_at_call 156; refine (c_allTries _ _ _ (by omega) (by omega) (by omega) (by omega)).mono ?_; rintro e w' ⟨rfl, rfl⟩)
    refine (c_answerSpan (triesS h.n h.m.toNat) p q r s _ hT1 hT.2 hp0 (by omega) hq0 (by omega) hr0 (by omega) hs0 (by omega)).mono ?_
    rintro ee w1 ⟨rfl, hb1⟩
    have hz : w.heap.size + 4 ≤ w1.heap.size := by have := hb1.size; simp at this; omega
    obtain ⟨_, _, _, k3⟩ := heap4 w (.cells #[.int .i64 5, .int .i64 h.key, .int .i64 h.m, .int .i64 h.n, .int .i64 b, .int .i64 e] 202) (.cells #[.int .i64 p, .int .i64 q] 188) (.cells #[.int .i64 r, .int .i64 s] 188) (.cells #[.int .i64 0, .int .i64 0] 188)
    have g3 := (hb1.block (w.heap.size + 1 + 1 + 1) (by simp)).trans k3
    have r0 : w1.cell? ⟨w.heap.size + 1 + 1 + 1, 0, none⟩ = some (.int .i64 0) := (cell_of_heap g3).trans rfl
    have r1 : w1.cell? ⟨w.heap.size + 1 + 1 + 1, 1, none⟩ = some (.int .i64 0) := (cell_of_heap g3).trans rfl
    have z0 : w1.frozen? ⟨w.heap.size + 1 + 1 + 1, 0, none⟩ = false := free_of_heap g3
    have z1 : w1.frozen? ⟨w.heap.size + 1 + 1 + 1, 1, none⟩ = false := free_of_heap g3
    have HB : Hid (Below w.heap.size w w1) := (HBEL.out _ _ _ _).trans (hb1.mono (by simp; omega))
    clear hb1 g3 k3
    go_wp2_with fail
    refine bodyPost_ret (v := .agg #[.int .i64 (maxI (behindI (triesS h.n h.m.toNat - 1) p) (behindI (triesS h.n h.m.toNat) r)), .int .i64 (maxI (behindI (triesS h.n h.m.toNat - 1) q) (behindI (triesS h.n h.m.toNat) s))]) (by simp [results, Try.results133, go_sem, r0, r1]) rfl ⟨by rw [HO.out], ?_⟩
    exact (HB.out.setCell (p := ⟨w.heap.size + 1 + 1 + 1, 0, none⟩) (by simp; omega) _).setCell (p := ⟨w.heap.size + 1 + 1 + 1, 1, none⟩) (by simp; omega) _
  · have HC : ndCells (ndOf t h b e) = [.int .i64 6, .int .i64 h.key, .int .i64 h.n, .int .i64 0, .int .i64 b, .int .i64 e] := by rw [ndOf_repeat b e hk]; rfl
    have HO : Hid (oneI t h (p, q) (r, s) = rounds h.n.toNat (0, -1) (p, q)) := oneI_repeat (p, q) (r, s) hk
    rw [HC]
    clear HC hk h3 h4
    go_enter Try.func133, Try.ntmps133
    go_wp2_with fail
    refine (c_repeatSpan h.n p q _ (by omega) h2 hp0 hp hq0 hq).mono ?_
    rintro ee w1 ⟨rfl, hb1⟩
    have hz : w.heap.size + 4 ≤ w1.heap.size := by have := hb1.size; simp at this; omega
    obtain ⟨_, _, _, k3⟩ := heap4 w (.cells #[.int .i64 6, .int .i64 h.key, .int .i64 h.n, .int .i64 0, .int .i64 b, .int .i64 e] 202) (.cells #[.int .i64 p, .int .i64 q] 188) (.cells #[.int .i64 r, .int .i64 s] 188) (.cells #[.int .i64 0, .int .i64 0] 188)
    have g3 := (hb1.block (w.heap.size + 1 + 1 + 1) (by simp)).trans k3
    have r0 : w1.cell? ⟨w.heap.size + 1 + 1 + 1, 0, none⟩ = some (.int .i64 0) := (cell_of_heap g3).trans rfl
    have r1 : w1.cell? ⟨w.heap.size + 1 + 1 + 1, 1, none⟩ = some (.int .i64 0) := (cell_of_heap g3).trans rfl
    have z0 : w1.frozen? ⟨w.heap.size + 1 + 1 + 1, 0, none⟩ = false := free_of_heap g3
    have z1 : w1.frozen? ⟨w.heap.size + 1 + 1 + 1, 1, none⟩ = false := free_of_heap g3
    have HB : Hid (Below w.heap.size w w1) := (HBEL.out _ _ _ _).trans (hb1.mono (by simp; omega))
    clear hb1 g3 k3
    go_wp2_with fail
    refine bodyPost_ret (v := .agg #[.int .i64 (rounds h.n.toNat (0, -1) (p, q)).1, .int .i64 (rounds h.n.toNat (0, -1) (p, q)).2]) (by simp [results, Try.results133, go_sem, r0, r1]) rfl ⟨by rw [HO.out], ?_⟩
    exact (HB.out.setCell (p := ⟨w.heap.size + 1 + 1 + 1, 0, none⟩) (by simp; omega) _).setCell (p := ⟨w.heap.size + 1 + 1 + 1, 1, none⟩) (by simp; omega) _

def ndsCells (l : List Nd) : List Value := l.flatMap ndCells

theorem ndsCells_get : ∀ (l : List Nd) (i : Nat) (hi : i < l.length) (j : Nat) (_ : j < 6), (ndsCells l)[i * 6 + j]? = (ndCells l[i])[j]? := by
  intro l
  induction l with
  | nil => intro i hi; simp at hi
  | cons x r ih =>
    intro i hi j hj
    have hl : (ndCells x).length = 6 := rfl
    cases i with
    | zero =>
      simp only [ndsCells, List.flatMap_cons, Nat.zero_mul, Nat.zero_add, List.getElem_cons_zero]
      rw [List.getElem?_append_left (by omega)]
    | succ i =>
      have := ih i (by simpa using hi) j hj
      simp only [ndsCells, List.flatMap_cons, List.getElem_cons_succ] at this ⊢
      rw [List.getElem?_append_right (by omega), show (i + 1) * 6 + j - (ndCells x).length = i * 6 + j from by omega]
      exact this

/-- The statements' cells lie at a place of a block. -/
def NdsAt (w : World) (b off : Nat) (l : List Nd) : Prop := ∀ (i : Nat) (hi : i < l.length) (j : Nat) (u : Value), (ndCells l[i])[j]? = some u → w.cell? ⟨b, off + i * 6 + j, none⟩ = some u

theorem NdsAt.keep {w w' : World} {b off : Nat} {l : List Nd} (h : NdsAt w b off l) (hk : w'.heap[b]? = w.heap[b]?) : NdsAt w' b off l := fun i hi j u hj =>
  (World.cell?_of_block hk).trans (h i hi j u hj)

theorem NdsAt.sub {w : World} {b off : Nat} {l : List Nd} (h : NdsAt w b off l) (k n : Nat) (us : List Nd) (hu : us = (l.drop k).take n) : NdsAt w b (off + k * 6) us := by
  subst hu
  intro i hi j u hj
  simp at hi
  have e : ((l.drop k).take n)[i] = l[k + i]'(by omega) := by simp
  rw [e] at hj
  have := h (k + i) (by omega) j u hj
  rw [show off + k * 6 + i * 6 + j = off + (k + i) * 6 + j from by omega]
  exact this

/-- What blockSpan gives back, of a tree d deep that lies flat. -/
def SpanSaid (t : ByteArray) (d : Nat) : Prop :=
  ∀ (tr : Tree d) (a : Option Addr) (b off cap n : Nat) (w : World), n = (flatT t d tr).length → GoodT t d tr → sizeT d tr ≤ 400 → d ≤ 5 → n ≤ cap → cap ≤ maxLen → (0 < n → a = some ⟨b, off, none⟩ ∧ b < w.heap.size ∧ NdsAt w b off (flatT t d tr)) →
    Calls Try.prog 108 #[.slice a n cap] w fun e w' => e = .returned (.agg #[.int .i64 (lastsT t d tr).1, .int .i64 (lastsT t d tr).2]) ∧ Below w.heap.size w w'

end Go.Proofs.Ytiaibigmbflpiaa
