import Derived.Test.YtmmmnghiegajmaaGreatM27
import Derived.ProofKit
import Derived.OpenShut
import Derived.HandedShaped
import Derived.Carry
namespace Go.Proofs.YtmmmnghiegajmaaGreat
open Go.ChangeShapes Go.WideShapes Go.ChangeAt Go.RowKit Go.Proofs.Herald
theorem Tryz.cells3:Tryz.prog.cellsOf 3=1:=by kernel_rfl
theorem zpV {H:Type}{enc:TypeId×Value->H}{W:World}{base:Nat}{sp:Nat->Bool}{held:Bool}{n j:Nat}{cs:List Value}{y:DataW H×List MemPlace}(h:DataW.trod enc Tryz.prog W base sp held n 3 ((cs.drop j).take 1)=some y):∃ z:Int,cs[j]?=some (.int .i64 z):=by
 obtain ⟨z,hz,_⟩:=DataW.trod_int Tryz.underlying3 h
 refine ⟨z,?_⟩
 have h0:((cs.drop j).take 1)[0]?=some (.int .i64 z):=by rw [hz];rfl
 rw [List.getElem?_take_of_lt (by omega),List.getElem?_drop] at h0
 simpa using h0
end Go.Proofs.YtmmmnghiegajmaaGreat
