/- For all steps, devices and drains: a run that sends and waits has each message in the queue at its time, in its place, a key that stands there already renewed in its place, and none above the queue's bound, drained at whatever times. No condition. -/
import Derived.Test.YtmmmnghiegajmaaM01
import Derived.Test.YtmmmnghiegajmaaM04
import Derived.Test.YtmmmnghiegajmaaM05
import Derived.Test.YtmmmnghiegajmaaM06
import Derived.Test.YtmmmnghiegajmaaM07
import Derived.Test.YtmmmnghiegajmaaM08
import Derived.Test.YtmmmnghiegajmaaM09
import Derived.Test.YtmmmnghiegajmaaM10
import Derived.Test.YtmmmnghiegajmaaM11
import Derived.Test.YtmmmnghiegajmaaM12
import Derived.Test.YtmmmnghiegajmaaM15
import Derived.Test.YtmmmnghiegajmaaM19
import Derived.Test.YtmmmnghiegajmaaM21
import Derived.Test.YtmmmnghiegajmaaM23
import Derived.Test.YtmmmnghiegajmaaM24
import Derived.Test.YtmmmnghiegajmaaM25
import Derived.Test.YtmmmnghiegajmaaM26
import Derived.Test.YtmmmnghiegajmaaM27
import Derived.Test.YtmmmnghiegajmaaM28
import Derived.Test.YtmmmnghiegajmaaM29
import Derived.Test.YtmmmnghiegajmaaM32
import Derived.Test.YtmmmnghiegajmaaM33
import Derived.Test.YtmmmnghiegajmaaM34
import Derived.Test.YtmmmnghiegajmaaRows
import Derived.ProofKit
import Derived.OpenShut
import Derived.HandedShaped
import Derived.Carry
import Derived.Test.YtmmmnghiegajmaaT01
import Derived.Test.YtmmmnghiegajmaaT02
import Derived.Test.YtmmmnghiegajmaaT03
import Derived.Test.YtmmmnghiegajmaaT04
import Derived.Test.YtmmmnghiegajmaaT05
import Derived.Test.YtmmmnghiegajmaaT06
namespace Go.Proofs.Ytmmmnghiegajmaa
open Go.ChangeShapes Go.WideShapes Go.ChangeAt Go.RowKit Go.Proofs.Herald
theorem timeline_own : ownKnob Try.prog.godebug = none := by kernel_rfl
theorem Try.bytesIntT : Try.prog.bytesOf 3 = 8 := by kernel_rfl
/-- How many numbers can come in. -/
theorem ints_len {H : Type} {enc : TypeId × Value → H} {W : World} {sp : Nat → Bool} {held : Bool} {a : Option Addr} {len cap : Nat} {d : DataW H} {ps : List MemPlace} (hd : DataW.Trod enc Try.prog W 0 sp held 52 (.slice a len cap) d ps) (hwt : ∀ x ∈ d.weights Try.prog 52, x ≤ reachBytes) : len ≤ 17592186044416 := by
  obtain ⟨fuel, hf⟩ := hd
  rcases DataW.trod_slice Try.underlying52 hf with ⟨h, hx⟩ | ⟨ad, len', cap', elems, rest, m, _, h, hx, _, hle, _, hlen, hel, _, _⟩
  · simp [Value.cells] at h
    omega
  · simp [Value.cells] at h
    obtain ⟨rfl, rfl, rfl⟩ := h
    simp only [Prod.mk.injEq] at hx
    obtain ⟨rfl, _⟩ := hx
    have h1 := hwt ((elems.length + rest.length) * 8) (by
      simp only [DataW.weights, Try.underlying52, Try.bytesIntT, List.length_map]
      simp)
    have h2 : len * 8 ≤ (elems.length + rest.length) * 8 := Nat.mul_le_mul_right _ (by omega)
    have h3 : reachBytes ≤ 140737488355328 := by decide
    omega
set_option maxRecDepth 100000 in
theorem timeline_lifted (os : Os) (started : os.Started) (H : Type) (enc : TypeId × Value → H) :
    ReturnsInHanded {} Try.checked os 8 .any (Rows.timelineSpec.pre6 enc Try.prog Try.f8 Rows.timelineRow.domain false) (Rows.timelineSpec.post enc Try.prog Try.f8 false true false false) := by
  refine returnsInHanded_of_change_shaped (C := Try.checked) timeline_own started (by kernel_rfl) Try.func8
    (ChangeSpec.witness6 (enc := enc) (C := Try.checked) false ⟨#[], #[.slice none 0 0, .int .i64 0, .slice none 0 0], []⟩ 8 (by kernel_rfl) (by kernel_rfl) (by kernel_rfl) (by kernel_rfl)) ?_
  intro W base args ds gs before hval0 hW hcnd hwt _ _
  have hval : ∀ (j : Nat) t v, Try.f8.params[j]? = some t → args[j]? = some v → Value.okWide Try.prog W .any base t v := hval0
  have hW' := hW
  obtain ⟨p, q, hA0, hV, rfl, hfz, hnd⟩ := hW
  have hA : DataW.TrodAll enc Try.prog W 0 (fun _ => true) true Try.f8.params.toList args.toList ds p := hA0
  have hwt' : (DataW.weightsEach Try.prog (Try.f8.params.toList ++ Rows.timelineSpec.plain.varTypes Try.prog) (ds ++ gs)).all (· ≤ reachBytes) = true := hwt
  rw [Try.params8] at hA hval hwt'
  obtain ⟨v0, vs0, d0, ds0, p0, q0, hargs, rfl, rfl, h0, r0⟩ := trodAll_cons hA
  obtain ⟨v1, vs1, d1, ds1, p1, q1, hargs1, rfl, rfl, h1, r1⟩ := trodAll_cons r0
  obtain ⟨v2, vs2, d2, ds2, p2, q2, hargs2, rfl, rfl, h2, r2⟩ := trodAll_cons r1
  obtain ⟨rfl, rfl, rfl⟩ := trodAll_nil r2
  obtain rfl : args = #[v0, v1, v2] := by cases args; simp_all
  obtain ⟨rfl, rfl⟩ := trodVars_none hV
  have hlt0 : ∀ x ∈ p0, x.block < W.heap.size := fun x hx => hW'.lt x (by simp [hx])
  have hlt2 : ∀ x ∈ p2, x.block < W.heap.size := fun x hx => hW'.lt x (by simp [hx])
  rw [List.all_eq_true] at hwt'
  have hw0 : ∀ x ∈ d0.weights Try.prog 52, x ≤ reachBytes := fun x hx => by
    have := hwt' x (by
      show x ∈ DataW.weightsEach Try.prog (52 :: 3 :: 52 :: _) (d0 :: d1 :: d2 :: _)
      rw [DataW.weightsEach, List.mem_append]
      exact Or.inl hx)
    simpa using this
  have hw2 : ∀ x ∈ d2.weights Try.prog 52, x ≤ reachBytes := fun x hx => by
    have := hwt' x (by
      show x ∈ DataW.weightsEach Try.prog (52 :: 3 :: 52 :: _) (d0 :: d1 :: d2 :: _)
      rw [DataW.weightsEach, List.mem_append, DataW.weightsEach, List.mem_append, DataW.weightsEach, List.mem_append]
      exact Or.inr (Or.inr (Or.inl hx)))
    simpa using this
  obtain ⟨a, cap, b, off, xs, rfl, hc, hr, _⟩ := open_ints (hval 0 52 v0 rfl rfl) h0
  obtain ⟨dv, rfl, rfl, rfl, wd⟩ := open_int Try.underlying3 (hval 1 3 v1 rfl rfl) h1
  obtain ⟨sa, scap, sb, soff, ys, rfl, hsc, hyr, _⟩ := open_ints (hval 2 52 v2 rfl rfl) h2
  clear hA0 hval0
  simp only [List.append_nil] at hW'
  refine (timeline_walk xs a b off cap dv ys sa sb soff scap W hc hr (ints_len h0 hw0) (int_range wd).1 (int_range wd).2 hsc hyr (ints_len h2 hw2)).mono fun e W' ⟨he, hb⟩ => ?_
  subst he
  exact ⟨_, rfl, ⟨_, _, _, [], _, [], hW', trodAll_cons_mk (shut_bool Try.underlying4 _) trodAll_mk0, trodAll_cons_mk (hb.trod (by kernel_rfl) (by kernel_rfl) (by decide) h0 hlt0) (trodAll_cons_mk (shut_int Try.underlying3 wd) (trodAll_cons_mk (hb.trod (by kernel_rfl) (by kernel_rfl) (by decide) h2 hlt2) trodAll_mk0)), rfl, hb.frame _, fun h => by cases h⟩⟩
theorem timeline_holds : Rows.TimelineSaid :=
  OpenClaim.holds_of_wide 8 Try.f8 rfl rfl rfl rfl rfl rfl rfl ⟨rfl, rfl, rfl, rfl, rfl⟩ rfl rfl rfl rfl rfl (by kernel_rfl) Try.func8 (by kernel_rfl)
    (of_decide_eq_true (by kernel_rfl)) (by unfold Func.isWrapper; first | (rw [if_pos (by decide +kernel)]; kernel_rfl) | (rw [if_neg (by decide +kernel)]; exact ⟨rfl, rfl⟩))
    (fun os started H enc _ => timeline_lifted os started H enc)
#print axioms timeline_holds
end Go.Proofs.Ytmmmnghiegajmaa
