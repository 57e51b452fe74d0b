import Derived.Deep.RegionLaw
import Derived.Deep.RegionHeld3
import Derived.BigRegion
import Derived.BigQuiet
import Derived.Deep.QuietTactic
import Derived.Test.YtmmmnghiegajmabGreatM05
import Derived.Test.YtmmmnghiegajmabGreatM04
/- What heavy of the document's own answer gives back. What Lasts and lasts of the document's own answer give back. -/
namespace Go.Proofs.YtmmmnghiegajmabGreat
open Go.RowKit Go.Proofs.Herald
theorem sum_le {α : Type} (f : α → Nat) : ∀ (l : List α) (x : α), x ∈ l → f x ≤ (l.map f).sum := by
  intro l
  induction l with
  | nil => intro x h; simp at h
  | cons y r ih =>
    intro x h
    simp only [List.mem_cons] at h
    rcases h with rfl | h
    · simp
    · have := ih x h; simp; omega
open Go.RowKit Go.Proofs.Herald
end Go.Proofs.YtmmmnghiegajmabGreat
