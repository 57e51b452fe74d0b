import Derived.Test.YtmmmnghiegajmaaGreatRows
import Derived.Test.YtmmmnghiegajmaaGreatM21
import Derived.Test.YtmmmnghiegajmaaGreatM40
import Derived.Test.YtmmmnghiegajmaaGreatM29
import Derived.ProofKit
import Derived.OpenShut
import Derived.HandedShaped
import Derived.Carry
open Go.Proofs.Herald Go.Proofs.Tryz
namespace Go.Proofs.YtmmmnghiegajmaaGreat
open Go.ChangeShapes Go.WideShapes Go.ChangeAt Go.RowKit Go.Proofs.Herald
theorem Dq {n:Int}(h:(Lit.int .i64 n).wf=true):-9223372036854775808<=n/\n<=9223372036854775807:=by
 simp[Lit.wf]at h;exact h
theorem Dz {H:Type}{enc:TypeId×Value->H}{W:World}{base:Nat}{sp:Nat->Bool}{held:Bool}{n j:Nat}{cs:List Value}{y:DataW H×List MemPlace}(h:DataW.trod enc prog W base sp held n 3 ((cs.drop j).take 1)=some y):∃ z:Int,cs[j]?=some (.int .i64 z)/\(-9223372036854775808<=z/\z<=9223372036854775807):=by
 obtain⟨z,hz,_,hw⟩:=DataW.trod_int underlying3 h;refine⟨z,?_,Dq hw⟩;have h0:((cs.drop j).take 1)[0]?=some (.int .i64 z):=by rw[hz];rfl
 rw[List.getElem?_take_of_lt (by omega),List.getElem?_drop]at h0;simpa using h0
end Go.Proofs.YtmmmnghiegajmaaGreat
