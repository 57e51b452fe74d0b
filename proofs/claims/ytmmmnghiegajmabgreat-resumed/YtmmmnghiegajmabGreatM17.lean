import Derived.Test.YtmmmnghiegajmabGreatM06
import Derived.Test.YtmmmnghiegajmabGreatM01
import Derived.Laws.AppendOwnNone
import Derived.Deep.DeepCutAuto
import Derived.Test.YtmmmnghiegajmabGreatM08
/- What a herald shows at first, and what the document's own shows. The first state, as both show it. The harness looks at a herald that has just begun. -/
namespace Go.Proofs.YtmmmnghiegajmabGreat
open Go.RowKit Go.Proofs.Herald
theorem cells3 {w : World} {R : Nat} {e : TypeId} {u0 u1 u2 : Value} (h : w.heap[R]? = some (.cells #[u0, u1, u2] e (0, 0))) :
    w.cell? ⟨R, 0, none⟩ = some u0 ∧ w.cell? ⟨R, 1, none⟩ = some u1 ∧ w.cell? ⟨R, 2, none⟩ = some u2 ∧ w.frozen? ⟨R, 0, none⟩ = false ∧ w.frozen? ⟨R, 1, none⟩ = false ∧ w.frozen? ⟨R, 2, none⟩ = false :=
  ⟨(cell_of_heap h).trans rfl, (cell_of_heap h).trans rfl, (cell_of_heap h).trans rfl, free_of_heap h, free_of_heap h, free_of_heap h⟩
theorem run_index3 (u0 u1 u2 : Value) (w : World) :
    (Instr.index 70 (.agg #[u0, u1, u2]) (.int .i64 0)).run Tryz.prog w = .ok (.agg #[u0]) w ∧ (Instr.index 70 (.agg #[u0, u1, u2]) (.int .i64 1)).run Tryz.prog w = .ok (.agg #[u1]) w ∧ (Instr.index 70 (.agg #[u0, u1, u2]) (.int .i64 2)).run Tryz.prog w = .ok (.agg #[u2]) w := by
  refine ⟨?_, ?_, ?_⟩ <;> simp [Instr.index, run_underlying Tryz.underlying70, asIntOf, go_sem]
open Go.RowKit Go.Proofs.Herald
open Go.RowKit Go.Proofs.Herald
end Go.Proofs.YtmmmnghiegajmabGreat
