/- For all numbers that spell a text, every script, every cut of the journal and every script behind it, where all together hold at most 1,048,576 values and letters: a journal cut at any byte opens a herald that is as the first one was when the calls of its whole records had been made, and goes on alike. -/
import Derived.Test.YtmmmnghiegajmabGreatRows
import Derived.Test.YtmmmnghiegajmabGreatM49
import Derived.Test.YtmmmnghiegajmabGreatM51
import Derived.ProofKit
import Derived.OpenShut
import Derived.JoinedCond
import Derived.Deep.CondSized
import Derived.Carry
namespace Go.Proofs.YtmmmnghiegajmabGreat
open Go.ChangeShapes Go.WideShapes Go.ChangeAt Go.RowKit Go.Proofs.Herald
theorem resumed_own : ownKnob Tryz.prog.godebug = none := by kernel_rfl
set_option maxRecDepth 100000 in
theorem resumed_lifted (os : Os) (started : os.Started) (H : Type) (enc : TypeId × Value → H) (F : Stop.Interp) :
    ReturnsInHanded {} Tryz.checked os 3 .any ((Rows.OpenSpec.upto Rows.resumedSpec).pre6 enc Tryz.prog Tryz.f3 Rows.resumedUptoRow.domain false) (((Rows.OpenSpec.upto Rows.resumedSpec).at F).post enc Tryz.prog Tryz.f3 false true false false) := by
  refine returnsInHanded_of_cond_sized (C := Tryz.checked) (s := Rows.OpenSpec.upto Rows.resumedSpec) (k := Rows.uptoSmall) rfl resumed_own started (by kernel_rfl) Tryz.func3
    (OpenSpec.witness (enc := enc) (C := Tryz.checked) (s := Rows.OpenSpec.upto Rows.resumedSpec) (k := Rows.uptoSmall) rfl false ⟨#[], #[.slice none 0 0, .slice none 0 0, .int .i64 0, .slice none 0 0], []⟩ 8 (by kernel_rfl) (by kernel_rfl) (by kernel_rfl)
      (x := ([.nil, .nil, .lit (.int .i64 0), .nil], [], [])) (by kernel_rfl) rfl (by kernel_rfl)) ?_
  intro W base args ds gs before hval0 hW _ hk _ _
  have hval : ∀ (j : Nat) t v, Tryz.f3.params[j]? = some t → args[j]? = some v → Value.okWide Tryz.prog W .any base t v := hval0
  have hW' := hW
  obtain ⟨p, q, hA0, hV, rfl, hfz, hnd⟩ := hW
  have hA : DataW.TrodAll enc Tryz.prog W 0 (fun _ => true) true Tryz.f3.params.toList args.toList ds p := hA0
  rw [Tryz.params3] at hA hval
  obtain ⟨v0, vs0, d0, ds0, p0, q0, hargs, rfl, rfl, h0, r0⟩ := trodAll_cons hA
  obtain ⟨v1, vs1, d1, ds1, p1, q1, hargs1, rfl, rfl, h1, r1⟩ := trodAll_cons r0
  obtain ⟨v2, vs2, d2, ds2, p2, q2, hargs2, rfl, rfl, h2, r2⟩ := trodAll_cons r1
  obtain ⟨v3, vs3, d3, ds3, p3, q3, hargs3, rfl, rfl, h3, r3⟩ := trodAll_cons r2
  obtain ⟨rfl, rfl, rfl⟩ := trodAll_nil r3
  obtain rfl : args = #[v0, v1, v2, v3] := by cases args; simp_all
  obtain ⟨rfl, rfl⟩ := trodVars_none hV
  have hlt0 : ∀ x ∈ p0, x.block < W.heap.size := fun x hx => hW'.lt x (by simp [hx])
  have hlt1 : ∀ x ∈ p1, x.block < W.heap.size := fun x hx => hW'.lt x (by simp [hx])
  have hlt3 : ∀ x ∈ p3, x.block < W.heap.size := fun x hx => hW'.lt x (by simp [hx])
  obtain ⟨a, cap, b, off, xs, rfl, hc, hr, hm⟩ := open_ints (hval 0 22 v0 rfl rfl) h0
  obtain ⟨sa, scap, sb, soff, ops, rfl, hsc, hso, hsl⟩ := open_opsS (hval 1 23 v1 rfl rfl) h1
  obtain ⟨a2, rfl, rfl, rfl, w2⟩ := open_int Tryz.underlying3 (hval 2 3 v2 rfl rfl) h2
  obtain ⟨ta, tcap, tb, toff, pps, rfl, htc, _, htl⟩ := open_opsS (hval 3 23 v3 rfl rfl) h3
  have hlen : xs.length ≤ 1048576 ∧ ops.length ≤ 1048576 ∧ ops.length + pps.length ≤ 1048576 := by
    have hb : Rows.uptoBulkAll ([d0, d1, .lit (.int .i64 a2), d3] ++ []) ≤ 1048576 := of_decide_eq_true hk
    simp only [List.append_nil, Rows.uptoBulkAll] at hb
    omega
  clear hA0 hval0
  simp only [List.append_nil] at hW'
  refine (resumed_walk xs a b off cap ops sa sb soff scap a2 pps ta tb toff tcap W hc hr hlen.1 hsc hso hlen.2.1 (int_range w2) htc hlen.2.2).mono fun e W' ⟨he, hb⟩ => ?_
  subst he
  exact ⟨_, rfl, ⟨_, _, _, [], _, [], hW', trodAll_cons_mk (shut_bool Tryz.underlying4 _) trodAll_mk0, trodAll_cons_mk (hb.trod (by kernel_rfl) (by kernel_rfl) (by decide) h0 hlt0) (trodAll_cons_mk (hb.trod (by kernel_rfl) (by kernel_rfl) (by decide) h1 hlt1) (trodAll_cons_mk (shut_int Tryz.underlying3 w2) (trodAll_cons_mk (hb.trod (by kernel_rfl) (by kernel_rfl) (by decide) h3 hlt3) trodAll_mk0))), rfl, hb.frame _, fun h => by cases h⟩⟩
theorem resumed_holds : Rows.ResumedUptoSaid :=
  OpenClaim.holds_of_cond 3 Tryz.f3 rfl rfl rfl rfl rfl rfl rfl ⟨rfl, rfl, rfl, rfl, rfl⟩ rfl rfl rfl rfl rfl (by kernel_rfl) Tryz.func3 (by kernel_rfl)
    (of_decide_eq_true (by kernel_rfl)) (by unfold Func.isWrapper; first | (rw [if_pos (by decide +kernel)]; kernel_rfl) | (rw [if_neg (by decide +kernel)]; exact ⟨rfl, rfl⟩))
    (fun os started H enc _ F => resumed_lifted os started H enc F)
#print axioms resumed_holds
end Go.Proofs.YtmmmnghiegajmabGreat
