import Derived.Test.YtmmmnghiegajmabGreatM08
import Derived.Deep.RegionWith
import Derived.Test.YtmmmnghiegajmabGreatM05
/- The document's own herald: one instruction of a run: set, twice, loop, hold. The document's own herald: one instruction of a run: hold. The document's own herald: any instruction of sound code. -/
namespace Go.Proofs.YtmmmnghiegajmabGreat
open Go.RowKit Go.Proofs.Herald
theorem nat_of {z : Int} (h : 0 ≤ z) : ∃ j : Nat, z = (j : Nat) := ⟨z.toNat, by omega⟩
end Go.Proofs.YtmmmnghiegajmabGreat
