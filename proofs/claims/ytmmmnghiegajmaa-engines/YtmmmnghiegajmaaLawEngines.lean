/- For every list of instructions and every script, where both together hold at most 1,048,576 values and letters: New gives a herald just where the code is sound, and then each answer of Trigger, Tick, Ack, Cancel and Drain, and the state wherever the script looks at it and at the end, are the document's. -/
import Derived.Test.YtmmmnghiegajmaaRows
import Derived.Test.YtmmmnghiegajmaaHarI
import Derived.ProofKit
import Derived.OpenShut
import Derived.JoinedCond
import Derived.Deep.CondSized
import Derived.Carry
namespace Go.Proofs.Ytmmmnghiegajmaa
open Go.ChangeShapes Go.WideShapes Go.ChangeAt Go.RowKit Go.Proofs.Herald

theorem engines_own : ownKnob Try.prog.godebug = none := by kernel_rfl

set_option maxRecDepth 100000 in
theorem engines_lifted (os : Os) (started : os.Started) (H : Type) (enc : TypeId × Value → H) (F : Stop.Interp) :
    ReturnsInHanded {} Try.checked os 5 .any ((Rows.OpenSpec.upto Rows.enginesSpec).pre6 enc Try.prog Try.f5 Rows.enginesUptoRow.domain false) (((Rows.OpenSpec.upto Rows.enginesSpec).at F).post enc Try.prog Try.f5 false true false false) := by
  refine returnsInHanded_of_cond_sized (C := Try.checked) (s := Rows.OpenSpec.upto Rows.enginesSpec) (k := Rows.uptoSmall) rfl engines_own started (by kernel_rfl) Try.func5
    (OpenSpec.witness (enc := enc) (C := Try.checked) (s := Rows.OpenSpec.upto Rows.enginesSpec) (k := Rows.uptoSmall) rfl false ⟨#[], #[.slice none 0 0, .slice none 0 0], []⟩ 8 (by kernel_rfl) (by kernel_rfl) (by kernel_rfl)
      (x := ([.nil, .nil], [], [])) (by kernel_rfl) rfl (by kernel_rfl)) ?_
  intro W base args ds gs before hval0 hW _ hk hwt _
  have hval : ∀ (j : Nat) t v, Try.f5.params[j]? = some t → args[j]? = some v → Value.okWide Try.prog W .any base t v := hval0
  have hW' := hW
  obtain ⟨p, q, hA0, hV, rfl, hfz, hnd⟩ := hW
  have hA : DataW.TrodAll enc Try.prog W 0 (fun _ => true) true Try.f5.params.toList args.toList ds p := hA0
  have hwt' : (DataW.weightsEach Try.prog (Try.f5.params.toList ++ (Rows.OpenSpec.upto Rows.enginesSpec).bare.plain.varTypes Try.prog) (ds ++ gs)).all (· ≤ reachBytes) = true := hwt
  rw [Try.params5] at hA hval hwt'
  obtain ⟨v0, vs0, d0, ds0, p0, q0, hargs, rfl, rfl, h0, r0⟩ := trodAll_cons hA
  obtain ⟨v1, vs1, d1, ds1, p1, q1, hargs1, rfl, rfl, h1, r1⟩ := trodAll_cons r0
  obtain ⟨rfl, rfl, rfl⟩ := trodAll_nil r1
  obtain rfl : args = #[v0, v1] := by cases args; simp_all
  obtain ⟨rfl, rfl⟩ := trodVars_none hV
  have hlt0 : ∀ x ∈ p0, x.block < W.heap.size := fun x hx => hW'.lt x (by simp [hx])
  have hlt1 : ∀ x ∈ p1, x.block < W.heap.size := fun x hx => hW'.lt x (by simp [hx])
  obtain ⟨a, cap, b, off, cs, rfl, hc, hm⟩ := open_code (hval 0 26 v0 rfl rfl) h0 (fun x hx => by
    rw [List.all_eq_true] at hwt'
    have := hwt' x (by
      show x ∈ DataW.weightsEach Try.prog (26 :: _) (d0 :: _)
      rw [DataW.weightsEach, List.mem_append]
      exact Or.inl hx)
    simpa using this)
  obtain ⟨sa, scap, sb, soff, ops, rfl, hsc, hsl⟩ := open_script (hval 1 43 v1 rfl rfl) h1 trivial
  have hlen : ops.length ≤ 1048576 := by
    have hb : Rows.uptoBulkAll ([d0, d1] ++ []) ≤ 1048576 := of_decide_eq_true hk
    simp only [List.append_nil, Rows.uptoBulkAll] at hb
    omega
  clear hA0 hval0
  simp only [List.append_nil] at hW'
  refine (engines_walk a b off cap cs sa sb soff scap ops W hc hm hsc hlen).mono fun e W' ⟨he, hb⟩ => ?_
  subst he
  exact ⟨_, rfl, ⟨_, _, _, [], _, [], hW', trodAll_cons_mk (shut_bool Try.underlying4 _) trodAll_mk0, trodAll_cons_mk (hb.trod (by kernel_rfl) (by kernel_rfl) (by decide) h0 hlt0) (trodAll_cons_mk (hb.trod (by kernel_rfl) (by kernel_rfl) (by decide) h1 hlt1) trodAll_mk0), rfl, hb.frame _, fun h => by cases h⟩⟩

theorem engines_holds : Rows.EnginesUptoSaid :=
  OpenClaim.holds_of_cond 5 Try.f5 rfl rfl rfl rfl rfl rfl rfl ⟨rfl, rfl, rfl, rfl, rfl⟩ rfl rfl rfl rfl rfl (by kernel_rfl) Try.func5 (by kernel_rfl)
    (of_decide_eq_true (by kernel_rfl)) (by unfold Func.isWrapper; first | (rw [if_pos (by decide +kernel)]; kernel_rfl) | (rw [if_neg (by decide +kernel)]; exact ⟨rfl, rfl⟩))
    (fun os started H enc _ F => engines_lifted os started H enc F)

#print axioms engines_holds
end Go.Proofs.Ytmmmnghiegajmaa
