/- For every text and every script, where both together hold at most 1,048,576 values and letters: of a text without a fault the code that Compile makes is sound, New gives a herald of it, and then each answer of Trigger, Tick, Ack, Cancel and Drain, and the state wherever the script looks at it and at the end, are as the statements of the text do it; of a text with a fault Compile tells it as the document does. -/
import Derived.Test.YtmmmnghiegajmaaGreatRows
import Derived.Test.YtmmmnghiegajmaaGreatM49
import Derived.ProofKit
import Derived.OpenShut
import Derived.ShutString
import Derived.JoinedCond
import Derived.Deep.CondSized
import Derived.Carry
namespace Go.Proofs.YtmmmnghiegajmaaGreat
open Go.ChangeShapes Go.WideShapes Go.ChangeAt Go.RowKit Go.Proofs.Herald
open Go.ChangeMaps (open_string shut_string)
theorem znw:ownKnob Tryz.prog.godebug=none:=by kernel_rfl
set_option maxRecDepth 100000 in
theorem zjr (os:Os)(started:os.Started)(H:Type)(enc:TypeId×Value->H)(F:Stop.Interp):
  ReturnsInHanded {} Tryz.checked os 3 .any ((Rows.OpenSpec.upto Rows.meantSpec).pre6 enc Tryz.prog Tryz.f3 Rows.meantUptoRow.domain false) (((Rows.OpenSpec.upto Rows.meantSpec).at F).post enc Tryz.prog Tryz.f3 false true false false):=by
 refine returnsInHanded_of_cond_sized (C:=Tryz.checked) (s:=Rows.OpenSpec.upto Rows.meantSpec) (k:=Rows.uptoSmall) rfl znw started (by kernel_rfl) Tryz.func3
  (OpenSpec.witness (enc:=enc) (C:=Tryz.checked) (s:=Rows.OpenSpec.upto Rows.meantSpec) (k:=Rows.uptoSmall) rfl false ⟨#[],#[.string ByteArray.empty,.slice none 0 0],[]⟩ 8 (by kernel_rfl) (by kernel_rfl) (by kernel_rfl)
   (x:=([.lit (.string []),.nil],[],[])) (by kernel_rfl) rfl (by kernel_rfl)) ?_
 intro W base args ds gs before hval0 hW _ hk _ _
 have hval:∀ (j:Nat) t v,Tryz.f3.params[j]?=some t->args[j]?=some v->Value.okWide Tryz.prog W .any base t v:=hval0
 have hW':=hW
 obtain ⟨p,q,hA0,hV,rfl,hfz,hnd⟩:=hW
 have hA:DataW.TrodAll enc Tryz.prog W 0 (fun _=>true) true Tryz.f3.params.toList args.toList ds p:=hA0
 rw [Tryz.params3] at hA hval
 obtain ⟨v0,vs0,d0,ds0,p0,q0,hargs,rfl,rfl,h0,r0⟩:=trodAll_cons hA
 obtain ⟨v1,vs1,d1,ds1,p1,q1,hargs1,rfl,rfl,h1,r1⟩:=trodAll_cons r0
 obtain ⟨rfl,rfl,rfl⟩:=trodAll_nil r1
 obtain rfl:args=#[v0,v1]:=by cases args;simp_all
 obtain ⟨rfl,rfl⟩:=trodVars_none hV
 have hlt1:∀ x∈p1,x.block<W.heap.size:=fun x hx=>hW'.lt x (by simp [hx])
 obtain ⟨a0,rfl,rfl,rfl,w0⟩:=open_string Tryz.underlying9 (hval 0 9 v0 rfl rfl) h0
 obtain ⟨sa,scap,sb,soff,ops,rfl,hsc,hsl⟩:=zkH (hval 1 22 v1 rfl rfl) h1 trivial
 have hlen:ops.length<=1048576:=by
  have hb:Rows.uptoBulkAll ([_,d1]++[])<=1048576:=of_decide_eq_true hk
  simp only [List.append_nil,Rows.uptoBulkAll] at hb
  omega
 clear hA0 hval0
 simp only [List.append_nil] at hW'
 refine (zmj a0 sa sb soff scap ops W hsc hlen).mono fun e W' ⟨he,hb⟩=>?_
 subst he
 exact ⟨_,rfl,⟨_,_,_,[],_,[],hW',trodAll_cons_mk (shut_bool Tryz.underlying4 _) trodAll_mk0,trodAll_cons_mk (shut_string Tryz.underlying9 w0) (trodAll_cons_mk (hb.trod (by kernel_rfl) (by kernel_rfl) (by decide) h1 hlt1) trodAll_mk0),rfl,hb.frame _,fun h=>by cases h⟩⟩
theorem meant_holds:Rows.MeantUptoSaid:=
 OpenClaim.holds_of_cond 3 Tryz.f3 rfl rfl rfl rfl rfl rfl rfl ⟨rfl,rfl,rfl,rfl,rfl⟩ rfl rfl rfl rfl rfl (by kernel_rfl) Tryz.func3 (by kernel_rfl)
  (of_decide_eq_true (by kernel_rfl)) (by unfold Func.isWrapper;first|(rw [if_pos (by decide +kernel)];kernel_rfl)|(rw [if_neg (by decide +kernel)];exact ⟨rfl,rfl⟩))
  (fun os started H enc _ F=>zjr os started H enc F)
#print axioms meant_holds
end Go.Proofs.YtmmmnghiegajmaaGreat
