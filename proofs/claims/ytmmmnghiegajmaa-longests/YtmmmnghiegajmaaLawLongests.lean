/- For every text, the program's Longest gives the same number of ticks, the same error and the same place as the document's own Longest. No condition. -/
import Derived.Test.YtmmmnghiegajmaaRows
import Derived.Test.YtmmmnghiegajmaaCodeK
import Derived.Test.YtmmmnghiegajmaaRefI
import Derived.ProofKit
import Derived.OpenShut
import Derived.ShutString
namespace Go.Proofs.Ytmmmnghiegajmaa
open Go.ChangeShapes Go.WideShapes Go.ChangeAt Go.RowKit Go.Proofs.Herald
open Go.ChangeMaps (open_string shut_string)

set_option maxHeartbeats 1000000 in
theorem c_Longest (t : ByteArray) (r : Int × Int × Int) (hr : (400 < t.size ∧ r = (0, 1, 0)) ∨ (t.size ≤ 400 ∧ CodeAns t r)) (w : World) :
    Calls Try.prog 13 #[.string t] w fun e w' => e = .returned (.tuple #[.int .i64 r.1, .int .i64 r.2.1, .int .i64 r.2.2]) ∧ Below w.heap.size w w' := by
  have HC : Hid (∀ W : World, Calls Try.prog 43 #[.string t] W fun e w' => (∃ a n cap, e = .returned (.tuple #[.agg #[.slice a n cap, .int .i64 r.1], .int .i64 r.2.1, .int .i64 r.2.2])) ∧ Below W.heap.size W w') := fun W => by
    rcases hr with ⟨ht, rfl⟩ | ⟨ht, hr⟩
    · exact c_Read_long t ht W
    · exact c_Read t ht r hr W
  clear hr
  go_enter Try.func13, Try.ntmps13
  go_wp2_with fail
  refine (HC.out _).mono ?_
  rintro e w1 ⟨⟨a, n, cap, rfl⟩, hb1⟩
  go_wp2_with fail
  go_ret3
  exact ⟨rfl, hb1.alloc hb1.size _⟩

theorem both (t : ByteArray) : ∃ r, ((400 < t.size ∧ r = (0, 1, 0)) ∨ (t.size ≤ 400 ∧ CodeAns t r)) ∧ ∀ w : World,
    Calls Try.prog 14 #[.string t] w fun e w' => e = .returned (.tuple #[.int .i64 r.1, .int .i64 r.2.1, .int .i64 r.2.2]) ∧ Below w.heap.size w w' := by
  rcases Nat.lt_or_ge 400 t.size with ht | ht
  · refine ⟨(0, 1, 0), Or.inl ⟨ht, rfl⟩, fun w => (refLongest_long t ht w).mono fun e w' h => ⟨h.1, ?_⟩⟩
    rw [h.2]; exact Below.refl _ _
  · obtain ⟨r, h1, h2⟩ := answers t ht
    exact ⟨r, Or.inr ⟨ht, h2⟩, fun w => refLongest t ht r h1 w⟩

set_option maxHeartbeats 1000000 in
theorem longests_walk (t : ByteArray) (w : World) :
    Calls Try.prog 3 #[.string t] w fun e w' => e = .returned (.bool true) ∧ Below w.heap.size w w' := by
  obtain ⟨⟨n, e, p⟩, h1, h2⟩ := both t
  have HC : Hid (∀ w : World, Calls Try.prog 13 #[.string t] w fun x w' => x = .returned (.tuple #[.int .i64 n, .int .i64 e, .int .i64 p]) ∧ Below w.heap.size w w') := fun w => c_Longest t (n, e, p) h1 w
  have HR : Hid (∀ w : World, Calls Try.prog 14 #[.string t] w fun x w' => x = .returned (.tuple #[.int .i64 n, .int .i64 e, .int .i64 p]) ∧ Below w.heap.size w w') := h2
  clear h1 h2
  go_enter Try.func3, Try.ntmps3
  go_wp2_with fail
  refine (HC.out _).mono ?_
  rintro x w1 ⟨rfl, hb1⟩
  go_wp2_with fail
  refine (HR.out _).mono ?_
  rintro x w2 ⟨rfl, hb2⟩
  go_wp2_with fail
  go_ret
  exact ⟨rfl, hb1.trans (hb2.mono hb1.size)⟩

theorem longests_own : ownKnob Try.prog.godebug = none := by kernel_rfl

set_option maxRecDepth 100000 in
theorem longests_lifted (os : Os) (started : os.Started) (H : Type) (enc : TypeId × Value → H) :
    ReturnsInHanded {} Try.checked os 3 .any (Rows.longestsSpec.pre6 enc Try.prog Try.f3 Rows.longestsRow.domain false) (Rows.longestsSpec.post enc Try.prog Try.f3 false true false false) := by
  refine returnsInHanded_of_change (C := Try.checked) longests_own started (by kernel_rfl) Try.func3
    (ChangeSpec.witness6 (enc := enc) (C := Try.checked) false ⟨#[], #[.string ByteArray.empty], []⟩ 8 (by kernel_rfl) (by kernel_rfl) (by kernel_rfl) (by kernel_rfl)) ?_
  intro W base args ds gs before hval0 hW hcnd _
  have hval : ∀ (j : Nat) t v, Try.f3.params[j]? = some t → args[j]? = some v → Value.okWide Try.prog W .any base t v := hval0
  have hW' := hW
  obtain ⟨p, q, hA0, hV, rfl, hfz, hnd⟩ := hW
  have hA : DataW.TrodAll enc Try.prog W 0 (fun _ => true) true Try.f3.params.toList args.toList ds p := hA0
  rw [Try.params3] at hA hval
  obtain ⟨v0, vs0, d0, ds0, p0, q0, hargs, rfl, rfl, h0, r0⟩ := trodAll_cons hA
  obtain ⟨rfl, rfl, rfl⟩ := trodAll_nil r0
  obtain rfl : args = #[v0] := by cases args; simp_all
  obtain ⟨rfl, rfl⟩ := trodVars_none hV
  obtain ⟨a0, rfl, rfl, rfl, w0⟩ := open_string Try.underlying9 (hval 0 9 v0 rfl rfl) h0
  clear hA0 hval0
  simp only [List.append_nil] at hW'
  refine (longests_walk a0 W).mono fun e W' ⟨he, hb⟩ => ?_
  subst he
  exact ⟨_, rfl, ⟨_, _, _, [], _, [], hW', trodAll_cons_mk (shut_bool Try.underlying4 _) trodAll_mk0, trodAll_cons_mk (shut_string Try.underlying9 w0) trodAll_mk0, rfl, hb.frame _, fun h => by cases h⟩⟩

theorem longests_holds : Rows.LongestsSaid :=
  OpenClaim.holds_of_wide 3 Try.f3 rfl rfl rfl rfl rfl rfl rfl ⟨rfl, rfl, rfl, rfl, rfl⟩ rfl rfl rfl rfl rfl (by kernel_rfl) Try.func3 (by kernel_rfl)
    (of_decide_eq_true (by kernel_rfl)) (by unfold Func.isWrapper; first | (rw [if_pos (by decide +kernel)]; kernel_rfl) | (rw [if_neg (by decide +kernel)]; exact ⟨rfl, rfl⟩))
    (fun os started H enc _ => longests_lifted os started H enc)

#print axioms longests_holds
end Go.Proofs.Ytmmmnghiegajmaa
