/- For every list of instructions, all bytes as a journal and every script, where the three together hold at most 1,048,576 values and letters: Open gives a herald just where the code is sound, tells how many records' calls were made as the document does, its journal is the document's; and then each answer of Trigger, Tick, Ack, Cancel, Drain and Journal, and the state wherever the script looks at it and at the end, are the document's. -/
import Derived.Test.YtmmmnghiegajmaaRows
import Derived.Test.YtmmmnghiegajmaaM42
import Derived.ProofKit
import Derived.OpenShut
import Derived.ShutString
import Derived.JoinedCond
import Derived.Deep.CondSized
import Derived.Carry
namespace Go.Proofs.Ytmmmnghiegajmaa
open Go.ChangeShapes Go.WideShapes Go.ChangeAt Go.RowKit Go.Proofs.Herald
open Go.ChangeMaps (open_string shut_string)
theorem opens_own : ownKnob Try.prog.godebug = none := by kernel_rfl
set_option maxRecDepth 100000 in
theorem opens_lifted (os : Os) (started : os.Started) (H : Type) (enc : TypeId × Value → H) (F : Stop.Interp) :
    ReturnsInHanded {} Try.checked os 7 .any ((Rows.OpenSpec.upto Rows.opensSpec).pre6 enc Try.prog Try.f7 Rows.opensUptoRow.domain false) (((Rows.OpenSpec.upto Rows.opensSpec).at F).post enc Try.prog Try.f7 false true false false) := by
  refine returnsInHanded_of_cond_sized (C := Try.checked) (s := Rows.OpenSpec.upto Rows.opensSpec) (k := Rows.uptoSmall) rfl opens_own started (by kernel_rfl) Try.func7
    (OpenSpec.witness (enc := enc) (C := Try.checked) (s := Rows.OpenSpec.upto Rows.opensSpec) (k := Rows.uptoSmall) rfl false ⟨#[], #[.slice none 0 0, .string ByteArray.empty, .slice none 0 0], []⟩ 8 (by kernel_rfl) (by kernel_rfl) (by kernel_rfl)
      (x := ([.nil, .lit (.string []), .nil], [], [])) (by kernel_rfl) rfl (by kernel_rfl)) ?_
  intro W base args ds gs before hval0 hW _ hk hwt _
  have hval : ∀ (j : Nat) t v, Try.f7.params[j]? = some t → args[j]? = some v → Value.okWide Try.prog W .any base t v := hval0
  have hW' := hW
  obtain ⟨p, q, hA0, hV, rfl, hfz, hnd⟩ := hW
  have hA : DataW.TrodAll enc Try.prog W 0 (fun _ => true) true Try.f7.params.toList args.toList ds p := hA0
  have hwt' : (DataW.weightsEach Try.prog (Try.f7.params.toList ++ (Rows.OpenSpec.upto Rows.opensSpec).bare.plain.varTypes Try.prog) (ds ++ gs)).all (· ≤ reachBytes) = true := hwt
  rw [Try.params7] at hA hval hwt'
  obtain ⟨v0, vs0, d0, ds0, p0, q0, hargs, rfl, rfl, h0, r0⟩ := trodAll_cons hA
  obtain ⟨v1, vs1, d1, ds1, p1, q1, hargs1, rfl, rfl, h1, r1⟩ := trodAll_cons r0
  obtain ⟨v2, vs2, d2, ds2, p2, q2, hargs2, rfl, rfl, h2, r2⟩ := trodAll_cons r1
  obtain ⟨rfl, rfl, rfl⟩ := trodAll_nil r2
  obtain rfl : args = #[v0, v1, v2] := by cases args; simp_all
  obtain ⟨rfl, rfl⟩ := trodVars_none hV
  have hlt0 : ∀ x ∈ p0, x.block < W.heap.size := fun x hx => hW'.lt x (by simp [hx])
  have hlt2 : ∀ x ∈ p2, x.block < W.heap.size := fun x hx => hW'.lt x (by simp [hx])
  obtain ⟨a, cap, b, off, cs, rfl, hc, hm⟩ := open_code (hval 0 26 v0 rfl rfl) h0 (fun x hx => by
    rw [List.all_eq_true] at hwt'
    have := hwt' x (by
      show x ∈ DataW.weightsEach Try.prog (26 :: _) (d0 :: _)
      rw [DataW.weightsEach, List.mem_append]
      exact Or.inl hx)
    simpa using this)
  obtain ⟨a1, rfl, rfl, rfl, w1⟩ := open_string Try.underlying9 (hval 1 9 v1 rfl rfl) h1
  obtain ⟨sa, scap, sb, soff, ops, rfl, hsc, hsl⟩ := open_script (hval 2 43 v2 rfl rfl) h2 trivial
  have hlen : ops.length ≤ 1048576 ∧ a1.size ≤ 1048576 := by
    have hb : Rows.uptoBulkAll ([d0, _, d2] ++ []) ≤ 1048576 := of_decide_eq_true hk
    simp only [List.append_nil, Rows.uptoBulkAll, Rows.uptoBulk] at hb
    have hz : a1.data.toList.length = a1.size := by simp
    omega
  clear hA0 hval0
  simp only [List.append_nil] at hW'
  refine (opens_walk a b off cap cs a1 sa sb soff scap ops W hc hm hlen.2 hsc hlen.1).mono fun e W' ⟨he, hb⟩ => ?_
  subst he
  exact ⟨_, rfl, ⟨_, _, _, [], _, [], hW', trodAll_cons_mk (shut_bool Try.underlying4 _) trodAll_mk0, trodAll_cons_mk (hb.trod (by kernel_rfl) (by kernel_rfl) (by decide) h0 hlt0) (trodAll_cons_mk (shut_string Try.underlying9 w1) (trodAll_cons_mk (hb.trod (by kernel_rfl) (by kernel_rfl) (by decide) h2 hlt2) trodAll_mk0)), rfl, hb.frame _, fun h => by cases h⟩⟩
theorem opens_holds : Rows.OpensUptoSaid :=
  OpenClaim.holds_of_cond 7 Try.f7 rfl rfl rfl rfl rfl rfl rfl ⟨rfl, rfl, rfl, rfl, rfl⟩ rfl rfl rfl rfl rfl (by kernel_rfl) Try.func7 (by kernel_rfl)
    (of_decide_eq_true (by kernel_rfl)) (by unfold Func.isWrapper; first | (rw [if_pos (by decide +kernel)]; kernel_rfl) | (rw [if_neg (by decide +kernel)]; exact ⟨rfl, rfl⟩))
    (fun os started H enc _ F => opens_lifted os started H enc F)
#print axioms opens_holds
end Go.Proofs.Ytmmmnghiegajmaa
