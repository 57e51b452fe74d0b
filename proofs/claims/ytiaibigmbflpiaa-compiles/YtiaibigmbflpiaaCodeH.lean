/- The program's reader: a statement's counts are written into its record; the methods branches and repeated. -/
import Derived.Test.YtiaibigmbflpiaaCodeG
namespace Go.Proofs.Ytiaibigmbflpiaa
open Go.RowKit Go.Proofs.Herald

theorem ndsCells_cons (x : Nd) (r : List Nd) : ndsCells (x :: r) = ndCells x ++ ndsCells r := by simp [ndsCells]

theorem ndsCells_length (l : List Nd) : (ndsCells l).length = l.length * 6 := by
  induction l with
  | nil => rfl
  | cons x r ih => rw [ndsCells_cons, List.length_append, ih, List.length_cons]; show 6 + _ = _; omega

theorem ndsCells_setBody : ∀ (l : List Nd) (i k : Nat), i < l.length → ndsCells (setBody l i k) = (ndsCells l).set (i * 6 + 4) (.int .i64 (k : Nat)) := by
  intro l
  induction l with
  | nil => intro i k hi; simp at hi
  | cons x r ih =>
    intro i k hi
    cases i with
    | zero =>
      have e : setBody (x :: r) 0 k = { x with body := k } :: r := by simp [setBody]
      rw [e, ndsCells_cons, ndsCells_cons, List.set_append_left _ _ (by show 0 * 6 + 4 < 6; omega)]
      rfl
    | succ i =>
      have e : setBody (x :: r) (i + 1) k = x :: setBody r i k := by simp [setBody]
      have h6 : (ndCells x).length = 6 := rfl
      rw [e, ndsCells_cons, ndsCells_cons, ih i k (by simpa using hi), List.set_append_right _ _ (by omega), h6, show (i + 1) * 6 + 4 - 6 = i * 6 + 4 from by omega]

theorem ndsCells_setEls : ∀ (l : List Nd) (i k : Nat), i < l.length → ndsCells (setEls l i k) = (ndsCells l).set (i * 6 + 5) (.int .i64 (k : Nat)) := by
  intro l
  induction l with
  | nil => intro i k hi; simp at hi
  | cons x r ih =>
    intro i k hi
    cases i with
    | zero =>
      have e : setEls (x :: r) 0 k = { x with els := k } :: r := by simp [setEls]
      rw [e, ndsCells_cons, ndsCells_cons, List.set_append_left _ _ (by show 0 * 6 + 5 < 6; omega)]
      rfl
    | succ i =>
      have e : setEls (x :: r) (i + 1) k = x :: setEls r i k := by simp [setEls]
      have h6 : (ndCells x).length = 6 := rfl
      rw [e, ndsCells_cons, ndsCells_cons, ih i k (by simpa using hi), List.set_append_right _ _ (by omega), h6, show (i + 1) * 6 + 5 - 6 = i * 6 + 5 from by omega]

/-- A cell of an owned row is written. -/
theorem ownsRow_set {w : World} {B : Nat} {e : TypeId} {size n g cap : Nat} {xs : List Value} (h : w.ownsRow B e size (.slice (some ⟨g, 0, none⟩) n cap) n xs) (p : Nat) (v : Value) :
    (w.setCell ⟨g, p, none⟩ v).ownsRow B e size (.slice (some ⟨g, 0, none⟩) n cap) n (xs.set p v) := by
  refine ⟨by rw [List.length_set]; exact h.1, .inr ?_⟩
  rcases h.2 with ⟨h1, _⟩ | ⟨g', cap', cur, hv, hb, hg, hn, hm, hs, ht⟩
  · cases h1
  · simp at hv
    obtain ⟨rfl, rfl⟩ := hv
    refine ⟨g, cap, cur.setIfInBounds p v, rfl, hb, heap_setCell_self v hg, hn, hm, by simpa using hs, ?_⟩
    rw [Array.toList_setIfInBounds, List.take_set, ht]

theorem RdAt.row {t : ByteArray} {B : Nat} {w : World} {R g cap : Nat} {st : RSt} (h : RdAt t B w R (.slice (some ⟨g, 0, none⟩) st.fl.length cap) st) (p : Nat) (v : Value) (fl' : List Nd) (hl : fl'.length = st.fl.length) (hc : ndsCells fl' = (ndsCells st.fl).set p v) :
    RdAt t B (w.setCell ⟨g, p, none⟩ v) R (.slice (some ⟨g, 0, none⟩) st.fl.length cap) { st with fl := fl' } := by
  obtain ⟨hB, cur, hg⟩ := ownsRow_block h.own (k := g) rfl
  refine ⟨h.le, by rw [Below.heap_setCell _ _ _ _ (ne_of_type h.blk hg (by decide))]; exact h.blk, ?_, h.suf⟩
  show World.ownsRow _ B _ 6 _ fl'.length (ndsCells fl')
  rw [hl, hc]
  exact ownsRow_set h.own p v

/-- The row's cells, where the statements' counts lie. -/
theorem RdAt.cellAt {t : ByteArray} {B : Nat} {w : World} {R : Nat} {sv : Value} {st : RSt} (h : RdAt t B w R sv st) (i : Nat) (hi : i < st.fl.length) :
    ∃ g cap, sv = .slice (some ⟨g, 0, none⟩) st.fl.length cap ∧ B ≤ g ∧ st.fl.length ≤ cap ∧ w.cell? ⟨g, i * 6 + 4, none⟩ = some (.int .i64 (st.fl[i].body : Nat)) ∧ w.cell? ⟨g, i * 6 + 5, none⟩ = some (.int .i64 (st.fl[i].els : Nat)) ∧
      w.frozen? ⟨g, i * 6 + 4, none⟩ = false ∧ w.frozen? ⟨g, i * 6 + 5, none⟩ = false := by
  rcases h.own.2 with ⟨_, h0⟩ | ⟨g, cap, cur, hv, hb, hg, hn, _⟩
  · omega
  · have hc := h.own.cells (g := g) (by rw [hv]; rfl)
    have k4 := hc (i * 6 + 4) (.int .i64 (st.fl[i].body : Nat)) (by rw [ndsCells_get _ i hi 4 (by omega)]; rfl)
    have k5 := hc (i * 6 + 5) (.int .i64 (st.fl[i].els : Nat)) (by rw [ndsCells_get _ i hi 5 (by omega)]; rfl)
    rw [Addr.add_lit, Nat.zero_add] at k4 k5
    exact ⟨g, cap, hv, hb, hn, k4, k5, free_of_heap hg, free_of_heap hg⟩

end Go.Proofs.Ytiaibigmbflpiaa
