import Derived.Test.YtmmmnghiegajmabGreatM14
import Derived.Test.YtmmmnghiegajmabGreatM02
/- The document's own journal: a record, and one more of them. -/
namespace Go.Proofs.Herald
open Go.RowKit
end Go.Proofs.Herald
namespace Go.Proofs.YtmmmnghiegajmabGreat
open Go.RowKit Go.Proofs.Herald
theorem old_of {listed : Array Bool} {i j : Nat} (hij : i ≠ j) (h : (listed.setIfInBounds i true).getD j false = true) : listed.getD j false = true := by rwa [getD_set_ne false hij] at h
end Go.Proofs.YtmmmnghiegajmabGreat
