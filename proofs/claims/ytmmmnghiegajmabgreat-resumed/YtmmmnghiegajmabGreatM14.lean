import Derived.Test.YtmmmnghiegajmabGreatM08
import Derived.Laws.BytesArg
import Derived.Deep.RegionLaw
import Derived.Deep.RegionHeld3
import Derived.BigRegion
import Derived.BigQuiet
import Derived.Deep.QuietTactic
import Derived.Test.YtmmmnghiegajmabGreatM05
import Derived.Test.YtmmmnghiegajmabGreatM04
/- The document's own journal: a number as eight bytes, the bits of bytes, the check of bytes. -/
namespace Go.Proofs.Herald
end Go.Proofs.Herald
namespace Go.Proofs.YtmmmnghiegajmabGreat
open Go.RowKit Go.Proofs.Herald
theorem Tryz.infoByte : (Tryz.prog.info? 5).map (fun i => (i.zero, i.size, i.bytes)) = some (some (.int .u8 0), 1, 1) := by kernel_rfl
end Go.Proofs.YtmmmnghiegajmabGreat
namespace Go.Proofs.Herald
open Go.RowKit
end Go.Proofs.Herald
namespace Go.Proofs.YtmmmnghiegajmabGreat
open Go.RowKit Go.Proofs.Herald
end Go.Proofs.YtmmmnghiegajmabGreat
namespace Go.Proofs.Herald
open Go.RowKit
end Go.Proofs.Herald
namespace Go.Proofs.YtmmmnghiegajmabGreat
open Go.RowKit Go.Proofs.Herald
end Go.Proofs.YtmmmnghiegajmabGreat
