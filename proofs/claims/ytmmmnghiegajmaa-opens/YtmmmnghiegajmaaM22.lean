import Derived.Test.YtmmmnghiegajmaaM06
import Derived.Test.YtmmmnghiegajmaaM01
import Derived.Laws.AppendOwnNone
import Derived.Deep.DeepCutAuto
import Derived.Test.YtmmmnghiegajmaaM21
/- What a herald shows at first, and what the document's own shows. The first state, as both show it. The harness looks at a herald that has just begun. -/
namespace Go.Proofs.Ytmmmnghiegajmaa
open Go.RowKit Go.Proofs.Herald
theorem cells3 {w : World} {R : Nat} {e : TypeId} {u0 u1 u2 : Value} (h : w.heap[R]? = some (.cells #[u0, u1, u2] e (0, 0))) :
    w.cell? ⟨R, 0, none⟩ = some u0 ∧ w.cell? ⟨R, 1, none⟩ = some u1 ∧ w.cell? ⟨R, 2, none⟩ = some u2 ∧ w.frozen? ⟨R, 0, none⟩ = false ∧ w.frozen? ⟨R, 1, none⟩ = false ∧ w.frozen? ⟨R, 2, none⟩ = false :=
  ⟨(cell_of_heap h).trans rfl, (cell_of_heap h).trans rfl, (cell_of_heap h).trans rfl, free_of_heap h, free_of_heap h, free_of_heap h⟩
theorem run_index3 (u0 u1 u2 : Value) (w : World) :
    (Instr.index 144 (.agg #[u0, u1, u2]) (.int .i64 0)).run Try.prog w = .ok (.agg #[u0]) w ∧ (Instr.index 144 (.agg #[u0, u1, u2]) (.int .i64 1)).run Try.prog w = .ok (.agg #[u1]) w ∧ (Instr.index 144 (.agg #[u0, u1, u2]) (.int .i64 2)).run Try.prog w = .ok (.agg #[u2]) w := by
  refine ⟨?_, ?_, ?_⟩ <;> simp [Instr.index, run_underlying Try.underlying144, asIntOf, go_sem]
open Go.RowKit Go.Proofs.Herald
/-- The document's own herald as it begins. -/
def SimNew (w : World) (S Q : Nat) (cv : Value) : Prop :=
  w.heap[S]? = some (.cells #[.bool false, .slice none 0 0, cv, .int .i64 0, .int .i64 0, .slice none 0 0, .slice (some ⟨Q, 0, none⟩) 3 3, .string ⟨#[]⟩] 121 (0, 0)) ∧ w.heap[Q]? = some (.cells #[.slice none 0 0, .slice none 0 0, .slice none 0 0] 66 (0, 0))
theorem SimNew.keep {w w' : World} {S Q : Nat} {cv : Value} (h : SimNew w S Q cv) (hk : ∀ k, k = S ∨ k = Q → w'.heap[k]? = w.heap[k]?) : SimNew w' S Q cv :=
  ⟨(hk S (Or.inl rfl)).trans h.1, (hk Q (Or.inr rfl)).trans h.2⟩
theorem Try.infoMsgs : (Try.prog.info? 66).map (fun i => (i.zero, i.size, i.bytes)) = some (some (.slice none 0 0), 1, 24) := by kernel_rfl
set_option maxHeartbeats 1000000 in
theorem begin_any (w : World) : Calls Try.prog 55 #[] w fun e w' => ∃ S Q, e = .returned (.pointer (some ⟨S, 0, none⟩)) ∧ w.heap.size ≤ S ∧ w.heap.size ≤ Q ∧ SimNew w' S Q (.slice none 0 0) ∧ Below w.heap.size w w' := by
  obtain ⟨i0, hi, hz0, hz1, hz2⟩ := info_parts Try.infoMsgs
  go_enter Try.func55, Try.ntmps55
  go_wp2_with (at_make; refine wpList_make_full _ rfl _ _ 119 rfl w.heap.size 66 i0 _ 1 Try.underlying119 hi hz0 hz1 _ _ _ _ 3 rfl rfl rfl rfl (by rw [hz2]; omega) (by unfold maxLen; omega) (Nat.le_refl _) ?_)
  intro w1 hown1 hgrow1
  have g1 : w1.heap[w.heap.size]? = some (.cells #[.slice none 0 0, .slice none 0 0, .slice none 0 0] 66 (0, 0)) := by
    rcases hown1.2 with ⟨h, _⟩ | ⟨g, c, cur, hv, hb, hg, h1, h2, h3, h4⟩
    · cases h
    · simp at hv
      obtain ⟨rfl, rfl⟩ := hv
      rw [hg]
      have e1 : cur.toList = [.slice none 0 0, .slice none 0 0, .slice none 0 0] := by
        have : cur.toList.take (3 * 1) = cur.toList := List.take_of_length_le (by simp; omega)
        rw [← this, h4]; simp [madeCells, List.range, List.range.loop]
      have e2 : cur = #[.slice none 0 0, .slice none 0 0, .slice none 0 0] := by
        apply Array.ext'
        exact e1
      rw [e2]
  have HB1 : Hid (Below w.heap.size w w1) := (Below.refl _ _).grown hgrow1 (Nat.le_refl _) (fun k hk => by cases hk)
  have HG : Hid (_ = _) := g1
  clear hown1 hgrow1 g1
  go_wp2_with fail
  go_ret
  exact ⟨_, _, rfl, HB1.out.size, Nat.le_refl _, ⟨heap_alloc_new _ _, by rw [Below.heap_alloc _ _ _ (heap_lt HG.out)]; exact HG.out⟩, HB1.out.alloc HB1.out.size _⟩
open Go.RowKit Go.Proofs.Herald
theorem BookOk.keep {w w' : World} {X : Nat → Prop} {e : TypeId} {k : Nat} {b : Value × List Value} (h : BookOk w X e k b) (hk : ∀ j, X j → w'.heap[j]? = w.heap[j]?) : BookOk w' X e k b := by
  obtain ⟨h1, m, hm, h2, h3⟩ := h
  exact ⟨h1, m, hm, own_keep h2 fun g hg => hk g (h3 g hg), h3⟩
theorem OwnAt.keep {w w' : World} {X : Nat → Prop} {O : Nat} {n : Int} {cv rv qv : Value} {cb rb qb : List (Value × List Value)} (h : OwnAt w X O n cv rv qv cb rb qb) (hk : ∀ j, X j → w'.heap[j]? = w.heap[j]?) : OwnAt w' X O n cv rv qv cb rb qb :=
  ⟨(hk O h.inO).trans h.blk, h.inO, own_keep h.cown fun g hg => hk g (h.cin g hg), own_keep h.rown fun g hg => hk g (h.rin g hg), own_keep h.qown fun g hg => hk g (h.qin g hg), h.cin, h.rin, h.qin,
    fun b hb => (h.cbk b hb).keep hk, fun b hb => (h.rbk b hb).keep hk, fun b hb => (h.qbk b hb).keep hk⟩
theorem OwnAt.below {w w' : World} {X : Nat → Prop} {O : Nat} {n : Int} {cv rv qv : Value} {cb rb qb : List (Value × List Value)} (h : OwnAt w X O n cv rv qv cb rb qb) (hX : ∀ k, X k → k < w.heap.size) (hb : Below w.heap.size w w') : OwnAt w' X O n cv rv qv cb rb qb :=
  h.keep fun k hk => hb.block k (hX k hk)
end Go.Proofs.Ytmmmnghiegajmaa
/- The document's own herald of code has just begun. -/
namespace Go.Proofs.Ytmmmnghiegajmaa
open Go.RowKit Go.Proofs.Herald
set_option maxHeartbeats 1000000 in
theorem OfCode_any (w : World) (a : Option Addr) (n cap : Nat) : Calls Try.prog 16 #[.slice a n cap] w fun e w' => ∃ S Q, e = .returned (.pointer (some ⟨S, 0, none⟩)) ∧ w.heap.size ≤ S ∧ w.heap.size ≤ Q ∧ SimNew w' S Q (.slice a n cap) ∧ Below w.heap.size w w' := by
  go_enter Try.func16, Try.ntmps16
  go_wp2_with fail
  refine (begin_any _).mono ?_
  rintro e w1 ⟨S, Q, rfl, hS, hQ, hn, hb⟩
  have c2 : w1.cell? ⟨S, 2, none⟩ = some (.slice none 0 0) := (cell_of_heap hn.1).trans rfl
  have z2 : w1.frozen? ⟨S, 2, none⟩ = false := free_of_heap hn.1
  have HN : Hid (SimNew w1 S Q (.slice none 0 0) ∧ Below w.heap.size w w1) := ⟨hn, hb⟩
  clear hn hb
  go_wp2_with fail
  go_ret
  refine ⟨S, Q, rfl, hS, hQ, ⟨?_, ?_⟩, HN.out.2.setCell (p := ⟨S, 2, none⟩) hS _⟩
  · rw [heap_setCell_self _ HN.out.1.1]; rfl
  · rw [Below.heap_setCell _ _ _ _ (ne_of_type HN.out.1.2 HN.out.1.1 (by decide))]; exact HN.out.1.2
end Go.Proofs.Ytmmmnghiegajmaa
