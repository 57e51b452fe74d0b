/- Is code sound: the document's own answer. -/
import Derived.Test.YtmmmnghiegajmaaNewA
namespace Go.Proofs.Ytmmmnghiegajmaa
open Go.RowKit Go.Proofs.Herald

set_option maxRecDepth 100000 in
set_option maxHeartbeats 8000000 in
theorem Sound_any (a : Option Addr) (b off cap : Nat) (cs : List Ins) (w : World) (hc : CodeIn w a b off cs) :
    Calls Try.prog 54 #[.slice a cs.length cap] w fun e w' => e = .returned (.bool (soundL cs)) ∧ Below w.heap.size w w' := by
  rcases Nat.lt_or_ge 1000 cs.length with hl | hl
  · have HS : Hid (soundL cs = false) := soundL_long hl
    go_enter Try.func54, Try.ntmps54
    go_wp2_with fail
    go_ret
    exact ⟨ret_bool HS.out.symm, Below.refl _ _⟩
  · have HS : Hid (soundL cs = cs.all (soundI cs.length)) := soundL_short hl
    have HC : Hid (CodeIn w a b off cs) := hc
    clear hc
    go_enter Try.func54, Try.ntmps54
    go_wp2_with fail
    go_loopw [3] (fun i wr => ∃ k : Nat, k ≤ cs.length ∧ i = .int .i64 k ∧ Hid (Below w.heap.size w wr) ∧ Hid ((cs.take k).all (soundI cs.length) = true)) (fun i _ => cs.length - (intOf i).toNat)
    case atStart => exact ⟨0, Nat.zero_le _, rfl, Below.refl _ _, by show _ = _; simp⟩
    case round =>
      obtain ⟨k, hk, rfl, HB, HT⟩ := hrel
      by_cases hlt : k < cs.length
      · obtain ⟨rfl, hblt, hca⟩ := HC.out (by omega)
        obtain ⟨c0, c1, c2, c3⟩ := (hca.keep (HB.out.block b hblt)).get k hlt
        have HTT : Hid (soundI cs.length cs[k] = true → (cs.take (k + 1)).all (soundI cs.length) = true) := fun h => all_take_succ _ cs k hlt HT.out h
        have HFF : Hid (soundI cs.length cs[k] = false → cs.all (soundI cs.length) = false) := fun h => all_not _ cs k hlt h
        have HBA : Hid (∀ o, Below w.heap.size w (wr.alloc o)) := fun o => HB.out.alloc HB.out.size o
        obtain ⟨x, hx⟩ : ∃ x, x = cs[k] := ⟨_, rfl⟩
        rw [← hx] at c0 c1 c2 c3 HTT HFF
        clear hx hca HC HB
        obtain ⟨op, xa, xb, xc⟩ := x
        simp only [] at c0 c1 c2 c3
        by_cases h0 : op = 0
        · subst h0
          have hs : soundI cs.length ⟨0, xa, xb, xc⟩ = ((xa == 0) && (xb == 0) && (xc == 0)) := rfl
          rw [hs] at HTT HFF
          clear hs
          rcases and3 (xa == 0) (xb == 0) (xc == 0) with ⟨hr, g1⟩ | ⟨hr, g1, g2⟩ | ⟨hr, g1, g2, g3⟩ | ⟨hr, g1, g2, g3⟩
          · have HF : Hid (_ = _) := HFF.out hr
            clear hr HTT HFF
            go_wp2_with (go_at_call 86; refine (within_any _ _ _ _).mono ?_; rintro e w' ⟨rfl, rfl⟩)
            go_ret
            exact ⟨ret_bool (by rw [HS.out]; exact HF.out.symm), HBA.out _⟩
          · have HF : Hid (_ = _) := HFF.out hr
            clear hr HTT HFF
            go_wp2_with (go_at_call 86; refine (within_any _ _ _ _).mono ?_; rintro e w' ⟨rfl, rfl⟩)
            go_ret
            exact ⟨ret_bool (by rw [HS.out]; exact HF.out.symm), HBA.out _⟩
          · have HF : Hid (_ = _) := HFF.out hr
            clear hr HTT HFF
            go_wp2_with (go_at_call 86; refine (within_any _ _ _ _).mono ?_; rintro e w' ⟨rfl, rfl⟩)
            go_ret
            exact ⟨ret_bool (by rw [HS.out]; exact HF.out.symm), HBA.out _⟩
          · have HF : Hid (_ = _) := HTT.out hr
            clear hr HTT HFF
            go_wp2_with (go_at_call 86; refine (within_any _ _ _ _).mono ?_; rintro e w' ⟨rfl, rfl⟩)
            go_roundw
            case rel => exact ⟨k + 1, by omega, by go_num, HBA.out _, HF⟩
            case measure => simp [intOf]; omega
        by_cases h1 : op = 1
        · subst h1
          have hs : soundI cs.length ⟨1, xa, xb, xc⟩ = ((withinB xa 0 7) && (xb == 0) && (xc == 0)) := rfl
          rw [hs] at HTT HFF
          clear hs
          rcases and3 (withinB xa 0 7) (xb == 0) (xc == 0) with ⟨hr, g1⟩ | ⟨hr, g1, g2⟩ | ⟨hr, g1, g2, g3⟩ | ⟨hr, g1, g2, g3⟩
          · have HF : Hid (_ = _) := HFF.out hr
            clear hr HTT HFF
            go_wp2_with (go_at_call 86; refine (within_any _ _ _ _).mono ?_; rintro e w' ⟨rfl, rfl⟩)
            go_ret
            exact ⟨ret_bool (by rw [HS.out]; exact HF.out.symm), HBA.out _⟩
          · have HF : Hid (_ = _) := HFF.out hr
            clear hr HTT HFF
            go_wp2_with (go_at_call 86; refine (within_any _ _ _ _).mono ?_; rintro e w' ⟨rfl, rfl⟩)
            go_ret
            exact ⟨ret_bool (by rw [HS.out]; exact HF.out.symm), HBA.out _⟩
          · have HF : Hid (_ = _) := HFF.out hr
            clear hr HTT HFF
            go_wp2_with (go_at_call 86; refine (within_any _ _ _ _).mono ?_; rintro e w' ⟨rfl, rfl⟩)
            go_ret
            exact ⟨ret_bool (by rw [HS.out]; exact HF.out.symm), HBA.out _⟩
          · have HF : Hid (_ = _) := HTT.out hr
            clear hr HTT HFF
            go_wp2_with (go_at_call 86; refine (within_any _ _ _ _).mono ?_; rintro e w' ⟨rfl, rfl⟩)
            go_roundw
            case rel => exact ⟨k + 1, by omega, by go_num, HBA.out _, HF⟩
            case measure => simp [intOf]; omega
        by_cases h2 : op = 2
        · subst h2
          have hs : soundI cs.length ⟨2, xa, xb, xc⟩ = ((withinB xa 1 999) && (xb == 0) && (xc == 0)) := rfl
          rw [hs] at HTT HFF
          clear hs
          rcases and3 (withinB xa 1 999) (xb == 0) (xc == 0) with ⟨hr, g1⟩ | ⟨hr, g1, g2⟩ | ⟨hr, g1, g2, g3⟩ | ⟨hr, g1, g2, g3⟩
          · have HF : Hid (_ = _) := HFF.out hr
            clear hr HTT HFF
            go_wp2_with (go_at_call 86; refine (within_any _ _ _ _).mono ?_; rintro e w' ⟨rfl, rfl⟩)
            go_ret
            exact ⟨ret_bool (by rw [HS.out]; exact HF.out.symm), HBA.out _⟩
          · have HF : Hid (_ = _) := HFF.out hr
            clear hr HTT HFF
            go_wp2_with (go_at_call 86; refine (within_any _ _ _ _).mono ?_; rintro e w' ⟨rfl, rfl⟩)
            go_ret
            exact ⟨ret_bool (by rw [HS.out]; exact HF.out.symm), HBA.out _⟩
          · have HF : Hid (_ = _) := HFF.out hr
            clear hr HTT HFF
            go_wp2_with (go_at_call 86; refine (within_any _ _ _ _).mono ?_; rintro e w' ⟨rfl, rfl⟩)
            go_ret
            exact ⟨ret_bool (by rw [HS.out]; exact HF.out.symm), HBA.out _⟩
          · have HF : Hid (_ = _) := HTT.out hr
            clear hr HTT HFF
            go_wp2_with (go_at_call 86; refine (within_any _ _ _ _).mono ?_; rintro e w' ⟨rfl, rfl⟩)
            go_roundw
            case rel => exact ⟨k + 1, by omega, by go_num, HBA.out _, HF⟩
            case measure => simp [intOf]; omega
        by_cases h3 : op = 3
        · subst h3
          have hs : soundI cs.length ⟨3, xa, xb, xc⟩ = ((withinB xa 0 7) && (withinB xb 1 999) && (withinB xc 0 cs.length)) := rfl
          rw [hs] at HTT HFF
          clear hs
          rcases and3 (withinB xa 0 7) (withinB xb 1 999) (withinB xc 0 cs.length) with ⟨hr, g1⟩ | ⟨hr, g1, g2⟩ | ⟨hr, g1, g2, g3⟩ | ⟨hr, g1, g2, g3⟩
          · have HF : Hid (_ = _) := HFF.out hr
            clear hr HTT HFF
            go_wp2_with (go_at_call 86; refine (within_any _ _ _ _).mono ?_; rintro e w' ⟨rfl, rfl⟩)
            go_ret
            exact ⟨ret_bool (by rw [HS.out]; exact HF.out.symm), HBA.out _⟩
          · have HF : Hid (_ = _) := HFF.out hr
            clear hr HTT HFF
            go_wp2_with (go_at_call 86; refine (within_any _ _ _ _).mono ?_; rintro e w' ⟨rfl, rfl⟩)
            go_ret
            exact ⟨ret_bool (by rw [HS.out]; exact HF.out.symm), HBA.out _⟩
          · have HF : Hid (_ = _) := HFF.out hr
            clear hr HTT HFF
            go_wp2_with (go_at_call 86; refine (within_any _ _ _ _).mono ?_; rintro e w' ⟨rfl, rfl⟩)
            go_ret
            exact ⟨ret_bool (by rw [HS.out]; exact HF.out.symm), HBA.out _⟩
          · have HF : Hid (_ = _) := HTT.out hr
            clear hr HTT HFF
            go_wp2_with (go_at_call 86; refine (within_any _ _ _ _).mono ?_; rintro e w' ⟨rfl, rfl⟩)
            go_roundw
            case rel => exact ⟨k + 1, by omega, by go_num, HBA.out _, HF⟩
            case measure => simp [intOf]; omega
        by_cases h4 : op = 4
        · subst h4
          have hs : soundI cs.length ⟨4, xa, xb, xc⟩ = ((withinB xa 0 11) && (withinB xb 0 999) && (xc == 0)) := rfl
          rw [hs] at HTT HFF
          clear hs
          rcases and3 (withinB xa 0 11) (withinB xb 0 999) (xc == 0) with ⟨hr, g1⟩ | ⟨hr, g1, g2⟩ | ⟨hr, g1, g2, g3⟩ | ⟨hr, g1, g2, g3⟩
          · have HF : Hid (_ = _) := HFF.out hr
            clear hr HTT HFF
            go_wp2_with (go_at_call 86; refine (within_any _ _ _ _).mono ?_; rintro e w' ⟨rfl, rfl⟩)
            go_ret
            exact ⟨ret_bool (by rw [HS.out]; exact HF.out.symm), HBA.out _⟩
          · have HF : Hid (_ = _) := HFF.out hr
            clear hr HTT HFF
            go_wp2_with (go_at_call 86; refine (within_any _ _ _ _).mono ?_; rintro e w' ⟨rfl, rfl⟩)
            go_ret
            exact ⟨ret_bool (by rw [HS.out]; exact HF.out.symm), HBA.out _⟩
          · have HF : Hid (_ = _) := HFF.out hr
            clear hr HTT HFF
            go_wp2_with (go_at_call 86; refine (within_any _ _ _ _).mono ?_; rintro e w' ⟨rfl, rfl⟩)
            go_ret
            exact ⟨ret_bool (by rw [HS.out]; exact HF.out.symm), HBA.out _⟩
          · have HF : Hid (_ = _) := HTT.out hr
            clear hr HTT HFF
            go_wp2_with (go_at_call 86; refine (within_any _ _ _ _).mono ?_; rintro e w' ⟨rfl, rfl⟩)
            go_roundw
            case rel => exact ⟨k + 1, by omega, by go_num, HBA.out _, HF⟩
            case measure => simp [intOf]; omega
        by_cases h5 : op = 5
        · subst h5
          have hs : soundI cs.length ⟨5, xa, xb, xc⟩ = ((withinB xa 0 11) && (xb == 0) && (xc == 0)) := rfl
          rw [hs] at HTT HFF
          clear hs
          rcases and3 (withinB xa 0 11) (xb == 0) (xc == 0) with ⟨hr, g1⟩ | ⟨hr, g1, g2⟩ | ⟨hr, g1, g2, g3⟩ | ⟨hr, g1, g2, g3⟩
          · have HF : Hid (_ = _) := HFF.out hr
            clear hr HTT HFF
            go_wp2_with (go_at_call 86; refine (within_any _ _ _ _).mono ?_; rintro e w' ⟨rfl, rfl⟩)
            go_ret
            exact ⟨ret_bool (by rw [HS.out]; exact HF.out.symm), HBA.out _⟩
          · have HF : Hid (_ = _) := HFF.out hr
            clear hr HTT HFF
            go_wp2_with (go_at_call 86; refine (within_any _ _ _ _).mono ?_; rintro e w' ⟨rfl, rfl⟩)
            go_ret
            exact ⟨ret_bool (by rw [HS.out]; exact HF.out.symm), HBA.out _⟩
          · have HF : Hid (_ = _) := HFF.out hr
            clear hr HTT HFF
            go_wp2_with (go_at_call 86; refine (within_any _ _ _ _).mono ?_; rintro e w' ⟨rfl, rfl⟩)
            go_ret
            exact ⟨ret_bool (by rw [HS.out]; exact HF.out.symm), HBA.out _⟩
          · have HF : Hid (_ = _) := HTT.out hr
            clear hr HTT HFF
            go_wp2_with (go_at_call 86; refine (within_any _ _ _ _).mono ?_; rintro e w' ⟨rfl, rfl⟩)
            go_roundw
            case rel => exact ⟨k + 1, by omega, by go_num, HBA.out _, HF⟩
            case measure => simp [intOf]; omega
        by_cases h6 : op = 6
        · subst h6
          have hs : soundI cs.length ⟨6, xa, xb, xc⟩ = ((withinB xa 0 7) && (withinB xb 0 11) && (withinB xc 0 cs.length)) := rfl
          rw [hs] at HTT HFF
          clear hs
          rcases and3 (withinB xa 0 7) (withinB xb 0 11) (withinB xc 0 cs.length) with ⟨hr, g1⟩ | ⟨hr, g1, g2⟩ | ⟨hr, g1, g2, g3⟩ | ⟨hr, g1, g2, g3⟩
          · have HF : Hid (_ = _) := HFF.out hr
            clear hr HTT HFF
            go_wp2_with (go_at_call 86; refine (within_any _ _ _ _).mono ?_; rintro e w' ⟨rfl, rfl⟩)
            go_ret
            exact ⟨ret_bool (by rw [HS.out]; exact HF.out.symm), HBA.out _⟩
          · have HF : Hid (_ = _) := HFF.out hr
            clear hr HTT HFF
            go_wp2_with (go_at_call 86; refine (within_any _ _ _ _).mono ?_; rintro e w' ⟨rfl, rfl⟩)
            go_ret
            exact ⟨ret_bool (by rw [HS.out]; exact HF.out.symm), HBA.out _⟩
          · have HF : Hid (_ = _) := HFF.out hr
            clear hr HTT HFF
            go_wp2_with (go_at_call 86; refine (within_any _ _ _ _).mono ?_; rintro e w' ⟨rfl, rfl⟩)
            go_ret
            exact ⟨ret_bool (by rw [HS.out]; exact HF.out.symm), HBA.out _⟩
          · have HF : Hid (_ = _) := HTT.out hr
            clear hr HTT HFF
            go_wp2_with (go_at_call 86; refine (within_any _ _ _ _).mono ?_; rintro e w' ⟨rfl, rfl⟩)
            go_roundw
            case rel => exact ⟨k + 1, by omega, by go_num, HBA.out _, HF⟩
            case measure => simp [intOf]; omega
        by_cases h7 : op = 7
        · subst h7
          have hs : soundI cs.length ⟨7, xa, xb, xc⟩ = ((withinB xa 0 11) && (xb == 0) && (withinB xc 0 cs.length)) := rfl
          rw [hs] at HTT HFF
          clear hs
          rcases and3 (withinB xa 0 11) (xb == 0) (withinB xc 0 cs.length) with ⟨hr, g1⟩ | ⟨hr, g1, g2⟩ | ⟨hr, g1, g2, g3⟩ | ⟨hr, g1, g2, g3⟩
          · have HF : Hid (_ = _) := HFF.out hr
            clear hr HTT HFF
            go_wp2_with (go_at_call 86; refine (within_any _ _ _ _).mono ?_; rintro e w' ⟨rfl, rfl⟩)
            go_ret
            exact ⟨ret_bool (by rw [HS.out]; exact HF.out.symm), HBA.out _⟩
          · have HF : Hid (_ = _) := HFF.out hr
            clear hr HTT HFF
            go_wp2_with (go_at_call 86; refine (within_any _ _ _ _).mono ?_; rintro e w' ⟨rfl, rfl⟩)
            go_ret
            exact ⟨ret_bool (by rw [HS.out]; exact HF.out.symm), HBA.out _⟩
          · have HF : Hid (_ = _) := HFF.out hr
            clear hr HTT HFF
            go_wp2_with (go_at_call 86; refine (within_any _ _ _ _).mono ?_; rintro e w' ⟨rfl, rfl⟩)
            go_ret
            exact ⟨ret_bool (by rw [HS.out]; exact HF.out.symm), HBA.out _⟩
          · have HF : Hid (_ = _) := HTT.out hr
            clear hr HTT HFF
            go_wp2_with (go_at_call 86; refine (within_any _ _ _ _).mono ?_; rintro e w' ⟨rfl, rfl⟩)
            go_roundw
            case rel => exact ⟨k + 1, by omega, by go_num, HBA.out _, HF⟩
            case measure => simp [intOf]; omega
        by_cases h8 : op = 8
        · subst h8
          have hs : soundI cs.length ⟨8, xa, xb, xc⟩ = ((xa == 0) && (xb == 0) && (withinB xc 0 cs.length)) := rfl
          rw [hs] at HTT HFF
          clear hs
          rcases and3 (xa == 0) (xb == 0) (withinB xc 0 cs.length) with ⟨hr, g1⟩ | ⟨hr, g1, g2⟩ | ⟨hr, g1, g2, g3⟩ | ⟨hr, g1, g2, g3⟩
          · have HF : Hid (_ = _) := HFF.out hr
            clear hr HTT HFF
            go_wp2_with (go_at_call 86; refine (within_any _ _ _ _).mono ?_; rintro e w' ⟨rfl, rfl⟩)
            go_ret
            exact ⟨ret_bool (by rw [HS.out]; exact HF.out.symm), HBA.out _⟩
          · have HF : Hid (_ = _) := HFF.out hr
            clear hr HTT HFF
            go_wp2_with (go_at_call 86; refine (within_any _ _ _ _).mono ?_; rintro e w' ⟨rfl, rfl⟩)
            go_ret
            exact ⟨ret_bool (by rw [HS.out]; exact HF.out.symm), HBA.out _⟩
          · have HF : Hid (_ = _) := HFF.out hr
            clear hr HTT HFF
            go_wp2_with (go_at_call 86; refine (within_any _ _ _ _).mono ?_; rintro e w' ⟨rfl, rfl⟩)
            go_ret
            exact ⟨ret_bool (by rw [HS.out]; exact HF.out.symm), HBA.out _⟩
          · have HF : Hid (_ = _) := HTT.out hr
            clear hr HTT HFF
            go_wp2_with (go_at_call 86; refine (within_any _ _ _ _).mono ?_; rintro e w' ⟨rfl, rfl⟩)
            go_roundw
            case rel => exact ⟨k + 1, by omega, by go_num, HBA.out _, HF⟩
            case measure => simp [intOf]; omega
        have hs : soundI cs.length ⟨op, xa, xb, xc⟩ = false := by unfold soundI; simp only [h0, h1, h2, h3, h4, h5, h6, h7, h8, if_false]
        have HF : Hid (_ = _) := HFF.out hs
        have e0 : (op == 0) = false := by simpa using h0
        have e1 : (op == 1) = false := by simpa using h1
        have e2 : (op == 2) = false := by simpa using h2
        have e3 : (op == 3) = false := by simpa using h3
        have e4 : (op == 4) = false := by simpa using h4
        have e5 : (op == 5) = false := by simpa using h5
        have e6 : (op == 6) = false := by simpa using h6
        have e7 : (op == 7) = false := by simpa using h7
        have e8 : (op == 8) = false := by simpa using h8
        clear h0 h1 h2 h3 h4 h5 h6 h7 h8 hs HTT HFF
        go_wp2_with (go_at_call 86; refine (within_any _ _ _ _).mono ?_; rintro e w' ⟨rfl, rfl⟩)
        go_ret
        exact ⟨ret_bool (by rw [HS.out]; exact HF.out.symm), HBA.out _⟩
      · have HE : Hid (cs.take k = cs) := List.take_of_length_le (by omega)
        go_wp2_with fail
        go_ret
        exact ⟨ret_bool (by rw [HS.out]; have h := HT.out; rw [HE.out] at h; exact h.symm), HB.out⟩

end Go.Proofs.Ytmmmnghiegajmaa
