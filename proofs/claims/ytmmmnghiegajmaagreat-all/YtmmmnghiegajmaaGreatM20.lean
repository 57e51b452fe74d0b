import Derived.Test.YtmmmnghiegajmaaGreatM16
import Derived.ProofKit
import Derived.OpenShut
import Derived.HandedShaped
import Derived.Carry
open Go.Proofs.Herald Go.Proofs.Tryz
namespace Go.Proofs.YtmmmnghiegajmaaGreat
open Go.ChangeShapes Go.WideShapes Go.ChangeAt Go.RowKit Go.Proofs.Herald
theorem Tryz.cells3:prog.cellsOf 3=1:=by kernel_rfl
end Go.Proofs.YtmmmnghiegajmaaGreat
