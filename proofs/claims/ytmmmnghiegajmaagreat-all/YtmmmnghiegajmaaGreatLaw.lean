/- For every script whose steps hold at most 1,048,576 values and letters together: several heralds of texts, every call on any of them in any order, heralds opened again with journals that are cut or have a byte turned: each answer, state and journal is the document's, and nothing but its owner changes a list that came out. -/
import Derived.Test.YtmmmnghiegajmaaGreatM52
import Derived.JoinedCond
import Derived.Deep.CondSized
set_option maxRecDepth 100000
open Go.Proofs.Herald Go.Proofs.Tryz
namespace Go.Proofs.YtmmmnghiegajmaaGreat
open Go.ChangeShapes Go.WideShapes Go.ChangeAt Go.RowKit Go.Proofs.Herald
theorem EB:ownKnob prog.godebug=none:=by kernel_rfl
theorem AY (os:Os)(started:os.Started)(H:Type)(enc:TypeId×Value->H)(F:Stop.Interp):
  ReturnsInHanded {} Tryz.checked os 4 .any ((Rows.OpenSpec.upto Rows.allSpec).pre6 enc prog Tryz.f4 Rows.allUptoRow.domain false) (((Rows.OpenSpec.upto Rows.allSpec).at F).post enc prog Tryz.f4 false true false false):=by
 refine returnsInHanded_of_cond_sized (C:=Tryz.checked) (s:=Rows.OpenSpec.upto Rows.allSpec) (k:=Rows.uptoSmall) rfl EB started (by kernel_rfl) func4
  (OpenSpec.witness (enc:=enc) (C:=Tryz.checked) (s:=Rows.OpenSpec.upto Rows.allSpec) (k:=Rows.uptoSmall) rfl false ⟨#[],#[.slice none 0 0],[]⟩ 8 (by kernel_rfl) (by kernel_rfl) (by kernel_rfl)
   (x:=([.nil],[],[])) (by kernel_rfl) rfl (by kernel_rfl)) ?_
 intro W base args ds gs before hval0 hW _ hk _ _;have A0:∀ (j:Nat) t v,Tryz.f4.params[j]?=some t->args[j]?=some v->Value.okWide prog W .any base t v:=hval0;have A1:=hW;obtain⟨p,q,A6,hV,rfl,B2,B3⟩:=hW;have hA:DataW.TrodAll enc prog W 0 (fun _=>true) true Tryz.f4.params.toList args.toList ds p:=A6;rw[params4]at hA A0;obtain⟨v0,B5,d0,B1,p0,q0,A7,rfl,rfl,h0,r0⟩:=trodAll_cons hA;obtain⟨rfl,rfl,rfl⟩:=trodAll_nil r0;obtain rfl:args=#[v0]:=by cases args;simp_all
 obtain⟨rfl,rfl⟩:=trodVars_none hV;have A3:∀ x∈p0,x.block<W.heap.size:=fun x hx=>A1.lt x (by simp[hx]);obtain⟨sa,A4,sb,A5,A8,rfl,B0,A9,B4⟩:=zj (A0 0 22 v0 rfl rfl) h0;have A2:A8.length<=400000:=by
  have hb:Rows.uptoBulkAll ([d0]++[])<=1048576:=of_decide_eq_true hk;simp only[List.append_nil,Rows.uptoBulkAll]at hb;omega
 clear A6 hval0;simp only[List.append_nil]at A1;refine(DE sa sb A5 A4 A8 W B0 A9 A2).mono fun e W' ⟨he,hb⟩=>?_;subst he;exact⟨_,rfl,⟨_,_,_,[],_,[],A1,trodAll_cons_mk (shut_bool underlying4 _) trodAll_mk0,trodAll_cons_mk (hb.trod (by kernel_rfl) (by kernel_rfl) (by decide) h0 A3) trodAll_mk0,rfl,hb.frame _,fun h=>by cases h⟩⟩
theorem all_holds:Rows.AllUptoSaid:=
 OpenClaim.holds_of_cond 4 Tryz.f4 rfl rfl rfl rfl rfl rfl rfl ⟨rfl,rfl,rfl,rfl,rfl⟩ rfl rfl rfl rfl rfl (by kernel_rfl) func4 (by kernel_rfl)
  (of_decide_eq_true (by kernel_rfl)) (by unfold Func.isWrapper;first|(rw[if_pos (by decide +kernel)];kernel_rfl)|(rw[if_neg (by decide +kernel)];exact⟨rfl,rfl⟩))
  (fun os started H enc _ F=>AY os started H enc F)
#print axioms all_holds
end Go.Proofs.YtmmmnghiegajmaaGreat
