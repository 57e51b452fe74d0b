/- The document's own journal: one record more. -/
import Derived.Test.YtmmmnghiegajmaaJrnB
namespace Go.Proofs.Ytmmmnghiegajmaa
open Go.RowKit Go.Proofs.Herald

set_option maxRecDepth 20000 in
set_option maxHeartbeats 1000000 in
theorem wrote_any (S : Nat) (cs : Array Value) (rec : ByteArray) (c a b : Int) (w : World) (hS : w.heap[S]? = some (.cells cs 121 (0, 0))) (h7 : cs[7]? = some (.string rec)) (hr : rec.size ≤ 1000000000000) :
    Calls Try.prog 120 #[.pointer (some ⟨S, 0, none⟩), .int .u8 c, .int .i64 a, .int .i64 b] w fun e w' => e = .returned (.tuple #[]) ∧ w'.heap[S]? = some (.cells (cs.setIfInBounds 7 (.string (rec ++ recS c a b))) 121 (0, 0)) ∧ Fr (fun k => k = S) w w' := by
  have c7 : w.cell? ⟨S, 7, none⟩ = some (.string rec) := (cell_of_heap hS).trans h7
  have z7 : w.frozen? ⟨S, 7, none⟩ = false := free_of_heap hS
  have hSl : S < w.heap.size := heap_lt hS
  obtain ⟨Z, hZ⟩ : ∃ Z, Z = recS c a b := ⟨_, rfl⟩
  have zz : Z.size = 19 := by rw [hZ]; exact recS_size c a b
  rw [← hZ]
  have HR : Hid (∀ W : World, Calls Try.prog 149 #[.int .u8 c, .int .i64 a, .int .i64 b] W fun e w' => e = .returned (.string Z) ∧ Below W.heap.size W w') := fun W => by rw [hZ]; exact Recorded_any c a b W
  have HS : Hid (w.heap[S]? = some (.cells cs 121 (0, 0))) := hS
  have HF : Hid (∀ w1, Below w.drew.heap.size w.drew w1 → w1.cell? ⟨S, 7, none⟩ = some (.string rec) ∧ w1.frozen? ⟨S, 7, none⟩ = false ∧ S < w1.heap.size) := fun w1 hb => by
    have h1 : w1.heap[S]? = some (.cells cs 121 (0, 0)) := (hb.block S hSl).trans HS.out
    exact ⟨(cell_of_heap h1).trans h7, free_of_heap h1, heap_lt h1⟩
  clear hZ hS h7
  go_enter Try.func120, Try.ntmps120
  go_region_with (go_at_call 149; refine (HR.out _).mono ?_; rintro e w1 ⟨rfl, hb1⟩; obtain ⟨k1, k2, k3⟩ := HF.out w1 hb1)
  all_goals
    go_end0
    have h1 : w1.heap[S]? = some (.cells cs 121 (0, 0)) := (hb1.block S hSl).trans HS.out
    refine ⟨rfl, heap_setCell_self _ h1, ?_⟩
    have f1 : Fr (fun k => k = S) w w1 := ⟨hb1.os, hb1.tape, hb1.output, hb1.size, fun k hk _ => hb1.block k hk⟩
    exact f1.setCell ⟨S, 7, none⟩ (Or.inl rfl) _

end Go.Proofs.Ytmmmnghiegajmaa
