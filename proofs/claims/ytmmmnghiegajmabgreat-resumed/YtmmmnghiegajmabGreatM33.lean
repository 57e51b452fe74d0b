import Derived.Test.YtmmmnghiegajmabGreatM32
import Derived.Test.YtmmmnghiegajmabGreatM30
/- A state that keeps its bounds is sane. -/
namespace Go.Proofs.Herald
end Go.Proofs.Herald
namespace Go.Proofs.YtmmmnghiegajmabGreat
open Go.RowKit Go.Proofs.Herald
theorem cells_of3 {w : World} {R : Nat} {a b c : Value} {t : TypeId} (h : w.heap[R]? = some (.cells #[a, b, c] t (0, 0))) : w.cell? ⟨R, 0, none⟩ = some a ∧ w.cell? ⟨R, 1, none⟩ = some b ∧ w.cell? ⟨R, 2, none⟩ = some c ∧ R < w.heap.size :=
  ⟨(cell_of_heap h).trans rfl, (cell_of_heap h).trans rfl, (cell_of_heap h).trans rfl, heap_lt h⟩
end Go.Proofs.YtmmmnghiegajmabGreat
