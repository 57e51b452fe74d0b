import Derived.Test.YtmmmnghiegajmaaGreatM13
import Derived.Deep.RegionWith
import Derived.Test.YtmmmnghiegajmaaGreatM05
namespace Go.Proofs.YtmmmnghiegajmaaGreat
open Go.RowKit Go.Proofs.Herald
theorem zju {z:Int}(h:0<=z):∃ j:Nat,z=(j:Nat):=⟨z.toNat,by omega⟩
end Go.Proofs.YtmmmnghiegajmaaGreat
