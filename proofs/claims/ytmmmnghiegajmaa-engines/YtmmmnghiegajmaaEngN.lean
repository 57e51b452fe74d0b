/- The document's own herald: the run of a number. The document's own herald: the run that is due. A run of sound code as plain mathematics: what it keeps within bounds, and that it stops for a while or ends. The document's own journal: a number as eight bytes. The document's own journal: the bits of bytes. -/
import Derived.Test.YtmmmnghiegajmaaSimA
namespace Go.Proofs.Ytmmmnghiegajmaa
open Go.RowKit Go.Proofs.Herald

def ptrOf (o : Option (Nat × Int)) : Value := .pointer (o.map fun x => ⟨x.1, 0, none⟩)

set_option maxRecDepth 20000 in
set_option maxHeartbeats 4000000 in
theorem s_find (S : Nat) (pv : Value) (L : List (Nat × Int)) (id : Int) (w : World) (h5 : w.cell? ⟨S, 5, none⟩ = some pv) (hP : ProcsAt w pv L) (hl : L.length ≤ 1000) :
    Calls Try.prog 126 #[.pointer (some ⟨S, 0, none⟩), .int .i64 id] w fun e w' => e = .returned (ptrOf (L.find? fun x => x.2 == id)) ∧ SameH w w' := by
  obtain ⟨a, cap, hv⟩ := ownsRow_slice hP.own
  subst hv
  have HO : Hid (w.ownsRow 0 177 1 (.slice a L.length cap) L.length (ptrs L)) := hP.own
  have HI : Hid (∀ x ∈ L, w.cell? ⟨x.1, 0, none⟩ = some (.int .i64 x.2)) := fun x hx => by
    obtain ⟨cs, h1, h2⟩ := hP.ids x hx
    exact (cell_of_heap h1).trans h2
  clear hP
  generalize hR : ptrOf (L.find? fun x => x.2 == id) = RR
  have HR : Hid (ptrOf (L.find? fun x => x.2 == id) = RR) := hR
  clear hR
  go_enter Try.func126, Try.ntmps126
  go_wp2_with fail
  go_loopw [5] (fun i wr => ∃ k : Nat, k ≤ L.length ∧ i = .int .i64 k ∧ Hid (SameH w wr) ∧ Hid (∀ x ∈ L.take k, ¬ x.2 = id)) (fun i _ => L.length - (intOf i).toNat)
  case atStart => exact ⟨0, Nat.zero_le _, rfl, SameH.refl _, fun x hx => absurd hx (by simp)⟩
  case round =>
    obtain ⟨k, hk, rfl, HS, HT⟩ := hrel
    rw [← HS.out.cell] at h5
    by_cases hlt : k < L.length
    · obtain ⟨g, cap', hv, _, hgl⟩ := HO.out.form (by omega)
      simp at hv
      obtain ⟨rfl, rfl⟩ := hv
      have e0 : w.cell? ⟨g, k, none⟩ = some (.pointer (some ⟨L[k].1, 0, none⟩)) := own_cell HO.out rfl (by unfold ptrs; simp [hlt])
      have e1 := HI.out L[k] (List.getElem_mem hlt)
      rw [← HS.out.cell] at e0 e1
      have HYES : Hid (L[k].2 = id → .pointer (some ⟨L[k].1, 0, none⟩) = RR) := fun h => by
        rw [← HR.out, find_at L id k hlt HT.out h]; rfl
      have HNO : Hid (¬ L[k].2 = id → ∀ x ∈ L.take (k + 1), ¬ x.2 = id) := fun h x hx => by
        rw [List.take_succ_eq_append_getElem hlt] at hx
        rcases List.mem_append.mp hx with hx | hx
        · exact HT.out x hx
        · simp at hx; rw [hx]; exact h
      clear hgl
      generalize L[k] = x at *
      obtain ⟨x1, x2⟩ := x
      dsimp only at e0 e1
      by_cases hr : x2 = id
      · have b1 : (x2 == id) = true := by simpa using hr
        have HY : Hid (_ = _) := HYES.out hr
        clear hr HYES HNO
        go_wp2_with fail
        go_ret
        rw [← HY.out]
        exact ⟨rfl, HS.out⟩
      · have b1 : (x2 == id) = false := by simpa using hr
        have HN : Hid (∀ x ∈ L.take (k + 1), ¬ x.2 = id) := HNO.out hr
        clear hr HYES HNO
        go_wp2_with fail
        go_roundw
        case rel => exact ⟨k + 1, by omega, by go_num, HS, HN⟩
        case measure => simp [intOf]; omega
    · have HE : Hid (.pointer none = RR) := by
        show _ = _
        have h := HT.out
        rw [List.take_of_length_le (by omega)] at h
        rw [← HR.out, List.find?_eq_none.mpr (fun x hx => by simpa using h x hx)]
        rfl
      go_wp2_with fail
      go_ret
      rw [← HE.out]
      exact ⟨rfl, HS.out⟩

set_option maxRecDepth 20000 in
set_option maxHeartbeats 4000000 in
theorem s_due (S : Nat) (pv : Value) (L : List (Nat × Int)) (en : Int) (w : World) (h5 : w.cell? ⟨S, 5, none⟩ = some pv) (hO : w.ownsRow 0 177 1 pv L.length (ptrs L)) (hI : ∀ x ∈ L, w.cell? ⟨x.1, 3, none⟩ = some (.int .i64 x.2)) (hl : L.length ≤ 1000) :
    Calls Try.prog 124 #[.pointer (some ⟨S, 0, none⟩), .int .i64 en] w fun e w' => e = .returned (ptrOf (dueL en L)) ∧ SameH w w' := by
  obtain ⟨a, cap, hv⟩ := ownsRow_slice hO
  subst hv
  have HO : Hid (w.ownsRow 0 177 1 (.slice a L.length cap) L.length (ptrs L)) := hO
  have HI : Hid (∀ x ∈ L, w.cell? ⟨x.1, 3, none⟩ = some (.int .i64 x.2)) := hI
  clear hO hI
  generalize hR : dueL en L = RR
  have HR : Hid (dueL en L = RR) := hR
  clear hR
  go_enter Try.func124, Try.ntmps124
  go_wp2_with fail
  go_loopw [5, 6] (fun best i wr => ∃ (k : Nat) (o : Option (Nat × Int)), k ≤ L.length ∧ i = .int .i64 k ∧ best = ptrOf o ∧ Hid (SameH w wr) ∧ Hid (dueL en (L.take k) = o) ∧ Hid (∀ b, o = some b → b ∈ L)) (fun _ i _ => L.length - (intOf i).toNat)
  case atStart => exact ⟨0, none, Nat.zero_le _, rfl, rfl, SameH.refl _, rfl, fun b hb => by cases hb⟩
  case round =>
    obtain ⟨k, o, hk, rfl, rfl, HS, HT, HM⟩ := hrel
    rw [← HS.out.cell] at h5
    by_cases hlt : k < L.length
    · obtain ⟨g, cap', hv, _, hgl⟩ := HO.out.form (by omega)
      simp at hv
      obtain ⟨rfl, rfl⟩ := hv
      have e0 : w.cell? ⟨g, k, none⟩ = some (.pointer (some ⟨L[k].1, 0, none⟩)) := own_cell HO.out rfl (by unfold ptrs; simp [hlt])
      have e1 := HI.out L[k] (List.getElem_mem hlt)
      rw [← HS.out.cell] at e0 e1
      have HN : Hid (dueL en (L.take (k + 1)) = dueStep en o L[k]) := by show _ = _; rw [dueL_snoc hlt, HT.out]
      have HX : Hid (∀ b, (some L[k] : Option (Nat × Int)) = some b → b ∈ L) := fun b hb => by cases hb; exact List.getElem_mem hlt
      clear hgl
      generalize L[k] = x at *
      obtain ⟨x1, x2⟩ := x
      dsimp only at e0 e1
      by_cases hle : x2 ≤ en
      · cases o with
        | none =>
          have HE : Hid (dueL en (L.take (k + 1)) = some (x1, x2)) := by show _ = _; rw [HN.out]; unfold dueStep; rw [if_pos hle]
          unfold ptrOf
          simp only [Option.map]
          go_wp2_with fail
          go_region
          all_goals
            go_wp2_with fail
            go_roundw
            case rel => exact ⟨k + 1, some (x1, x2), by omega, by go_num, rfl, HS.out.drew, HE, HX⟩
            case measure => simp [intOf]; omega
        | some b =>
          obtain ⟨b1, b2⟩ := b
          have f1 := HI.out (b1, b2) (HM.out _ rfl)
          dsimp only at f1
          rw [← HS.out.cell] at f1
          unfold ptrOf
          simp only [Option.map]
          by_cases hbt : x2 < b2
          · have HE : Hid (dueL en (L.take (k + 1)) = some (x1, x2)) := by show _ = _; rw [HN.out]; unfold dueStep; rw [if_pos hle]; exact if_pos hbt
            go_wp2_with fail
            go_region
            all_goals
              go_wp2_with fail
              go_roundw
              case rel => exact ⟨k + 1, some (x1, x2), by omega, by go_num, rfl, HS.out.drew, HE, HX⟩
              case measure => simp [intOf]; omega
          · have HE : Hid (dueL en (L.take (k + 1)) = some (b1, b2)) := by show _ = _; rw [HN.out]; unfold dueStep; rw [if_pos hle]; exact if_neg hbt
            go_wp2_with fail
            go_region
            all_goals
              go_wp2_with fail
              go_roundw
              case rel => exact ⟨k + 1, some (b1, b2), by omega, by go_num, rfl, HS.out.drew, HE, HM⟩
              case measure => simp [intOf]; omega
      · have HE : Hid (dueL en (L.take (k + 1)) = o) := by show _ = _; rw [HN.out]; unfold dueStep; rw [if_neg hle]
        have hgt : decide (x2 ≤ en) = false := by simpa using hle
        clear hle
        cases o with
        | none =>
          unfold ptrOf
          simp only [Option.map]
          go_wp2_with fail
          go_region
          all_goals
            go_wp2_with fail
            go_roundw
            case rel => exact ⟨k + 1, none, by omega, by go_num, rfl, HS.out.drew, HE, HM⟩
            case measure => simp [intOf]; omega
        | some b =>
          unfold ptrOf
          simp only [Option.map]
          go_wp2_with fail
          go_region
          all_goals
            go_wp2_with fail
            go_roundw
            case rel => exact ⟨k + 1, some b, by omega, by go_num, rfl, HS.out.drew, HE, HM⟩
            case measure => simp [intOf]; omega
    · have HE : Hid (o = RR) := by
        show _ = _
        rw [← HT.out, ← HR.out, List.take_of_length_le (by omega)]
      go_wp2_with fail
      go_ret
      rw [← HE.out]
      exact ⟨rfl, HS.out⟩

end Go.Proofs.Ytmmmnghiegajmaa
