import Derived.Test.YtmmmnghiegajmaaM05
/- Is code sound: the document's own answer. -/
namespace Go.Proofs.Ytmmmnghiegajmaa
open Go.RowKit Go.Proofs.Herald
set_option maxRecDepth 100000 in
set_option maxHeartbeats 8000000 in
theorem Sound_any (a : Option Addr) (b off cap : Nat) (cs : List Ins) (w : World) (hc : CodeIn w a b off cs) :
    Calls Try.prog 54 #[.slice a cs.length cap] w fun e w' => e = .returned (.bool (soundL cs)) ∧ Below w.heap.size w w' := by
  rcases Nat.lt_or_ge 1000 cs.length with hl | hl
  · have HS : Hid (soundL cs = false) := soundL_long hl
    go_enter Try.func54, Try.ntmps54
    go_wp2_with fail
    go_ret
    exact ⟨ret_bool HS.out.symm, Below.refl _ _⟩
  · have HS : Hid (soundL cs = cs.all (soundI cs.length)) := soundL_short hl
    have HC : Hid (CodeIn w a b off cs) := hc
    clear hc
    go_enter Try.func54, Try.ntmps54
    go_wp2_with fail
    go_loopw [3] (fun i wr => ∃ k : Nat, k ≤ cs.length ∧ i = .int .i64 k ∧ Hid (Below w.heap.size w wr) ∧ Hid ((cs.take k).all (soundI cs.length) = true)) (fun i _ => cs.length - (intOf i).toNat)
    case atStart => exact ⟨0, Nat.zero_le _, rfl, Below.refl _ _, by show _ = _; simp⟩
    case round =>
      obtain ⟨k, hk, rfl, HB, HT⟩ := hrel
      by_cases hlt : k < cs.length
      · obtain ⟨rfl, hblt, hca⟩ := HC.out (by omega)
        obtain ⟨c0, c1, c2, c3⟩ := (hca.keep (HB.out.block b hblt)).get k hlt
        have HTT : Hid (soundI cs.length cs[k] = true → (cs.take (k + 1)).all (soundI cs.length) = true) := fun h => all_take_succ _ cs k hlt HT.out h
        have HFF : Hid (soundI cs.length cs[k] = false → cs.all (soundI cs.length) = false) := fun h => all_not _ cs k hlt h
        have HBA : Hid (∀ o, Below w.heap.size w (wr.alloc o)) := fun o => HB.out.alloc HB.out.size o
        obtain ⟨x, hx⟩ : ∃ x, x = cs[k] := ⟨_, rfl⟩
        rw [← hx] at c0 c1 c2 c3 HTT HFF
        clear hx hca HC HB
        obtain ⟨op, xa, xb, xc⟩ := x
        simp only [] at c0 c1 c2 c3
        by_cases h0 : op = 0
        · subst h0
          have hs : soundI cs.length ⟨0, xa, xb, xc⟩ = ((xa == 0) && (xb == 0) && (xc == 0)) := rfl
          rw [hs] at HTT HFF
          clear hs
          rcases and3 (xa == 0) (xb == 0) (xc == 0) with ⟨hr, g1⟩ | ⟨hr, g1, g2⟩ | ⟨hr, g1, g2, g3⟩ | ⟨hr, g1, g2, g3⟩
          · have HF : Hid (_ = _) := HFF.out hr
            clear hr HTT HFF
            go_wp2_with (go_at_call 86; refine (within_any _ _ _ _).mono ?_; rintro e w' ⟨rfl, rfl⟩)
            go_ret
            exact ⟨ret_bool (by rw [HS.out]; exact HF.out.symm), HBA.out _⟩
          · have HF : Hid (_ = _) := HFF.out hr
            clear hr HTT HFF
            go_wp2_with (go_at_call 86; refine (within_any _ _ _ _).mono ?_; rintro e w' ⟨rfl, rfl⟩)
            go_ret
            exact ⟨ret_bool (by rw [HS.out]; exact HF.out.symm), HBA.out _⟩
          · have HF : Hid (_ = _) := HFF.out hr
            clear hr HTT HFF
            go_wp2_with (go_at_call 86; refine (within_any _ _ _ _).mono ?_; rintro e w' ⟨rfl, rfl⟩)
            go_ret
            exact ⟨ret_bool (by rw [HS.out]; exact HF.out.symm), HBA.out _⟩
          · have HF : Hid (_ = _) := HTT.out hr
            clear hr HTT HFF
            go_wp2_with (go_at_call 86; refine (within_any _ _ _ _).mono ?_; rintro e w' ⟨rfl, rfl⟩)
            go_roundw
            case rel => exact ⟨k + 1, by omega, by go_num, HBA.out _, HF⟩
            case measure => simp [intOf]; omega
        by_cases h1 : op = 1
        · subst h1
          have hs : soundI cs.length ⟨1, xa, xb, xc⟩ = ((withinB xa 0 7) && (xb == 0) && (xc == 0)) := rfl
          rw [hs] at HTT HFF
          clear hs
          rcases and3 (withinB xa 0 7) (xb == 0) (xc == 0) with ⟨hr, g1⟩ | ⟨hr, g1, g2⟩ | ⟨hr, g1, g2, g3⟩ | ⟨hr, g1, g2, g3⟩
          · have HF : Hid (_ = _) := HFF.out hr
            clear hr HTT HFF
            go_wp2_with (go_at_call 86; refine (within_any _ _ _ _).mono ?_; rintro e w' ⟨rfl, rfl⟩)
            go_ret
            exact ⟨ret_bool (by rw [HS.out]; exact HF.out.symm), HBA.out _⟩
          · have HF : Hid (_ = _) := HFF.out hr
            clear hr HTT HFF
            go_wp2_with (go_at_call 86; refine (within_any _ _ _ _).mono ?_; rintro e w' ⟨rfl, rfl⟩)
            go_ret
            exact ⟨ret_bool (by rw [HS.out]; exact HF.out.symm), HBA.out _⟩
          · have HF : Hid (_ = _) := HFF.out hr
            clear hr HTT HFF
            go_wp2_with (go_at_call 86; refine (within_any _ _ _ _).mono ?_; rintro e w' ⟨rfl, rfl⟩)
            go_ret
            exact ⟨ret_bool (by rw [HS.out]; exact HF.out.symm), HBA.out _⟩
          · have HF : Hid (_ = _) := HTT.out hr
            clear hr HTT HFF
            go_wp2_with (go_at_call 86; refine (within_any _ _ _ _).mono ?_; rintro e w' ⟨rfl, rfl⟩)
            go_roundw
            case rel => exact ⟨k + 1, by omega, by go_num, HBA.out _, HF⟩
            case measure => simp [intOf]; omega
        by_cases h2 : op = 2
        · subst h2
          have hs : soundI cs.length ⟨2, xa, xb, xc⟩ = ((withinB xa 1 999) && (xb == 0) && (xc == 0)) := rfl
          rw [hs] at HTT HFF
          clear hs
          rcases and3 (withinB xa 1 999) (xb == 0) (xc == 0) with ⟨hr, g1⟩ | ⟨hr, g1, g2⟩ | ⟨hr, g1, g2, g3⟩ | ⟨hr, g1, g2, g3⟩
          · have HF : Hid (_ = _) := HFF.out hr
            clear hr HTT HFF
            go_wp2_with (go_at_call 86; refine (within_any _ _ _ _).mono ?_; rintro e w' ⟨rfl, rfl⟩)
            go_ret
            exact ⟨ret_bool (by rw [HS.out]; exact HF.out.symm), HBA.out _⟩
          · have HF : Hid (_ = _) := HFF.out hr
            clear hr HTT HFF
            go_wp2_with (go_at_call 86; refine (within_any _ _ _ _).mono ?_; rintro e w' ⟨rfl, rfl⟩)
            go_ret
            exact ⟨ret_bool (by rw [HS.out]; exact HF.out.symm), HBA.out _⟩
          · have HF : Hid (_ = _) := HFF.out hr
            clear hr HTT HFF
            go_wp2_with (go_at_call 86; refine (within_any _ _ _ _).mono ?_; rintro e w' ⟨rfl, rfl⟩)
            go_ret
            exact ⟨ret_bool (by rw [HS.out]; exact HF.out.symm), HBA.out _⟩
          · have HF : Hid (_ = _) := HTT.out hr
            clear hr HTT HFF
            go_wp2_with (go_at_call 86; refine (within_any _ _ _ _).mono ?_; rintro e w' ⟨rfl, rfl⟩)
            go_roundw
            case rel => exact ⟨k + 1, by omega, by go_num, HBA.out _, HF⟩
            case measure => simp [intOf]; omega
        by_cases h3 : op = 3
        · subst h3
          have hs : soundI cs.length ⟨3, xa, xb, xc⟩ = ((withinB xa 0 7) && (withinB xb 1 999) && (withinB xc 0 cs.length)) := rfl
          rw [hs] at HTT HFF
          clear hs
          rcases and3 (withinB xa 0 7) (withinB xb 1 999) (withinB xc 0 cs.length) with ⟨hr, g1⟩ | ⟨hr, g1, g2⟩ | ⟨hr, g1, g2, g3⟩ | ⟨hr, g1, g2, g3⟩
          · have HF : Hid (_ = _) := HFF.out hr
            clear hr HTT HFF
            go_wp2_with (go_at_call 86; refine (within_any _ _ _ _).mono ?_; rintro e w' ⟨rfl, rfl⟩)
            go_ret
            exact ⟨ret_bool (by rw [HS.out]; exact HF.out.symm), HBA.out _⟩
          · have HF : Hid (_ = _) := HFF.out hr
            clear hr HTT HFF
            go_wp2_with (go_at_call 86; refine (within_any _ _ _ _).mono ?_; rintro e w' ⟨rfl, rfl⟩)
            go_ret
            exact ⟨ret_bool (by rw [HS.out]; exact HF.out.symm), HBA.out _⟩
          · have HF : Hid (_ = _) := HFF.out hr
            clear hr HTT HFF
            go_wp2_with (go_at_call 86; refine (within_any _ _ _ _).mono ?_; rintro e w' ⟨rfl, rfl⟩)
            go_ret
            exact ⟨ret_bool (by rw [HS.out]; exact HF.out.symm), HBA.out _⟩
          · have HF : Hid (_ = _) := HTT.out hr
            clear hr HTT HFF
            go_wp2_with (go_at_call 86; refine (within_any _ _ _ _).mono ?_; rintro e w' ⟨rfl, rfl⟩)
            go_roundw
            case rel => exact ⟨k + 1, by omega, by go_num, HBA.out _, HF⟩
            case measure => simp [intOf]; omega
        by_cases h4 : op = 4
        · subst h4
          have hs : soundI cs.length ⟨4, xa, xb, xc⟩ = ((withinB xa 0 11) && (withinB xb 0 999) && (xc == 0)) := rfl
          rw [hs] at HTT HFF
          clear hs
          rcases and3 (withinB xa 0 11) (withinB xb 0 999) (xc == 0) with ⟨hr, g1⟩ | ⟨hr, g1, g2⟩ | ⟨hr, g1, g2, g3⟩ | ⟨hr, g1, g2, g3⟩
          · have HF : Hid (_ = _) := HFF.out hr
            clear hr HTT HFF
            go_wp2_with (go_at_call 86; refine (within_any _ _ _ _).mono ?_; rintro e w' ⟨rfl, rfl⟩)
            go_ret
            exact ⟨ret_bool (by rw [HS.out]; exact HF.out.symm), HBA.out _⟩
          · have HF : Hid (_ = _) := HFF.out hr
            clear hr HTT HFF
            go_wp2_with (go_at_call 86; refine (within_any _ _ _ _).mono ?_; rintro e w' ⟨rfl, rfl⟩)
            go_ret
            exact ⟨ret_bool (by rw [HS.out]; exact HF.out.symm), HBA.out _⟩
          · have HF : Hid (_ = _) := HFF.out hr
            clear hr HTT HFF
            go_wp2_with (go_at_call 86; refine (within_any _ _ _ _).mono ?_; rintro e w' ⟨rfl, rfl⟩)
            go_ret
            exact ⟨ret_bool (by rw [HS.out]; exact HF.out.symm), HBA.out _⟩
          · have HF : Hid (_ = _) := HTT.out hr
            clear hr HTT HFF
            go_wp2_with (go_at_call 86; refine (within_any _ _ _ _).mono ?_; rintro e w' ⟨rfl, rfl⟩)
            go_roundw
            case rel => exact ⟨k + 1, by omega, by go_num, HBA.out _, HF⟩
            case measure => simp [intOf]; omega
        by_cases h5 : op = 5
        · subst h5
          have hs : soundI cs.length ⟨5, xa, xb, xc⟩ = ((withinB xa 0 11) && (xb == 0) && (xc == 0)) := rfl
          rw [hs] at HTT HFF
          clear hs
          rcases and3 (withinB xa 0 11) (xb == 0) (xc == 0) with ⟨hr, g1⟩ | ⟨hr, g1, g2⟩ | ⟨hr, g1, g2, g3⟩ | ⟨hr, g1, g2, g3⟩
          · have HF : Hid (_ = _) := HFF.out hr
            clear hr HTT HFF
            go_wp2_with (go_at_call 86; refine (within_any _ _ _ _).mono ?_; rintro e w' ⟨rfl, rfl⟩)
            go_ret
            exact ⟨ret_bool (by rw [HS.out]; exact HF.out.symm), HBA.out _⟩
          · have HF : Hid (_ = _) := HFF.out hr
            clear hr HTT HFF
            go_wp2_with (go_at_call 86; refine (within_any _ _ _ _).mono ?_; rintro e w' ⟨rfl, rfl⟩)
            go_ret
            exact ⟨ret_bool (by rw [HS.out]; exact HF.out.symm), HBA.out _⟩
          · have HF : Hid (_ = _) := HFF.out hr
            clear hr HTT HFF
            go_wp2_with (go_at_call 86; refine (within_any _ _ _ _).mono ?_; rintro e w' ⟨rfl, rfl⟩)
            go_ret
            exact ⟨ret_bool (by rw [HS.out]; exact HF.out.symm), HBA.out _⟩
          · have HF : Hid (_ = _) := HTT.out hr
            clear hr HTT HFF
            go_wp2_with (go_at_call 86; refine (within_any _ _ _ _).mono ?_; rintro e w' ⟨rfl, rfl⟩)
            go_roundw
            case rel => exact ⟨k + 1, by omega, by go_num, HBA.out _, HF⟩
            case measure => simp [intOf]; omega
        by_cases h6 : op = 6
        · subst h6
          have hs : soundI cs.length ⟨6, xa, xb, xc⟩ = ((withinB xa 0 7) && (withinB xb 0 11) && (withinB xc 0 cs.length)) := rfl
          rw [hs] at HTT HFF
          clear hs
          rcases and3 (withinB xa 0 7) (withinB xb 0 11) (withinB xc 0 cs.length) with ⟨hr, g1⟩ | ⟨hr, g1, g2⟩ | ⟨hr, g1, g2, g3⟩ | ⟨hr, g1, g2, g3⟩
          · have HF : Hid (_ = _) := HFF.out hr
            clear hr HTT HFF
            go_wp2_with (go_at_call 86; refine (within_any _ _ _ _).mono ?_; rintro e w' ⟨rfl, rfl⟩)
            go_ret
            exact ⟨ret_bool (by rw [HS.out]; exact HF.out.symm), HBA.out _⟩
          · have HF : Hid (_ = _) := HFF.out hr
            clear hr HTT HFF
            go_wp2_with (go_at_call 86; refine (within_any _ _ _ _).mono ?_; rintro e w' ⟨rfl, rfl⟩)
            go_ret
            exact ⟨ret_bool (by rw [HS.out]; exact HF.out.symm), HBA.out _⟩
          · have HF : Hid (_ = _) := HFF.out hr
            clear hr HTT HFF
            go_wp2_with (go_at_call 86; refine (within_any _ _ _ _).mono ?_; rintro e w' ⟨rfl, rfl⟩)
            go_ret
            exact ⟨ret_bool (by rw [HS.out]; exact HF.out.symm), HBA.out _⟩
          · have HF : Hid (_ = _) := HTT.out hr
            clear hr HTT HFF
            go_wp2_with (go_at_call 86; refine (within_any _ _ _ _).mono ?_; rintro e w' ⟨rfl, rfl⟩)
            go_roundw
            case rel => exact ⟨k + 1, by omega, by go_num, HBA.out _, HF⟩
            case measure => simp [intOf]; omega
        by_cases h7 : op = 7
        · subst h7
          have hs : soundI cs.length ⟨7, xa, xb, xc⟩ = ((withinB xa 0 11) && (xb == 0) && (withinB xc 0 cs.length)) := rfl
          rw [hs] at HTT HFF
          clear hs
          rcases and3 (withinB xa 0 11) (xb == 0) (withinB xc 0 cs.length) with ⟨hr, g1⟩ | ⟨hr, g1, g2⟩ | ⟨hr, g1, g2, g3⟩ | ⟨hr, g1, g2, g3⟩
          · have HF : Hid (_ = _) := HFF.out hr
            clear hr HTT HFF
            go_wp2_with (go_at_call 86; refine (within_any _ _ _ _).mono ?_; rintro e w' ⟨rfl, rfl⟩)
            go_ret
            exact ⟨ret_bool (by rw [HS.out]; exact HF.out.symm), HBA.out _⟩
          · have HF : Hid (_ = _) := HFF.out hr
            clear hr HTT HFF
            go_wp2_with (go_at_call 86; refine (within_any _ _ _ _).mono ?_; rintro e w' ⟨rfl, rfl⟩)
            go_ret
            exact ⟨ret_bool (by rw [HS.out]; exact HF.out.symm), HBA.out _⟩
          · have HF : Hid (_ = _) := HFF.out hr
            clear hr HTT HFF
            go_wp2_with (go_at_call 86; refine (within_any _ _ _ _).mono ?_; rintro e w' ⟨rfl, rfl⟩)
            go_ret
            exact ⟨ret_bool (by rw [HS.out]; exact HF.out.symm), HBA.out _⟩
          · have HF : Hid (_ = _) := HTT.out hr
            clear hr HTT HFF
            go_wp2_with (go_at_call 86; refine (within_any _ _ _ _).mono ?_; rintro e w' ⟨rfl, rfl⟩)
            go_roundw
            case rel => exact ⟨k + 1, by omega, by go_num, HBA.out _, HF⟩
            case measure => simp [intOf]; omega
        by_cases h8 : op = 8
        · subst h8
          have hs : soundI cs.length ⟨8, xa, xb, xc⟩ = ((xa == 0) && (xb == 0) && (withinB xc 0 cs.length)) := rfl
          rw [hs] at HTT HFF
          clear hs
          rcases and3 (xa == 0) (xb == 0) (withinB xc 0 cs.length) with ⟨hr, g1⟩ | ⟨hr, g1, g2⟩ | ⟨hr, g1, g2, g3⟩ | ⟨hr, g1, g2, g3⟩
          · have HF : Hid (_ = _) := HFF.out hr
            clear hr HTT HFF
            go_wp2_with (go_at_call 86; refine (within_any _ _ _ _).mono ?_; rintro e w' ⟨rfl, rfl⟩)
            go_ret
            exact ⟨ret_bool (by rw [HS.out]; exact HF.out.symm), HBA.out _⟩
          · have HF : Hid (_ = _) := HFF.out hr
            clear hr HTT HFF
            go_wp2_with (go_at_call 86; refine (within_any _ _ _ _).mono ?_; rintro e w' ⟨rfl, rfl⟩)
            go_ret
            exact ⟨ret_bool (by rw [HS.out]; exact HF.out.symm), HBA.out _⟩
          · have HF : Hid (_ = _) := HFF.out hr
            clear hr HTT HFF
            go_wp2_with (go_at_call 86; refine (within_any _ _ _ _).mono ?_; rintro e w' ⟨rfl, rfl⟩)
            go_ret
            exact ⟨ret_bool (by rw [HS.out]; exact HF.out.symm), HBA.out _⟩
          · have HF : Hid (_ = _) := HTT.out hr
            clear hr HTT HFF
            go_wp2_with (go_at_call 86; refine (within_any _ _ _ _).mono ?_; rintro e w' ⟨rfl, rfl⟩)
            go_roundw
            case rel => exact ⟨k + 1, by omega, by go_num, HBA.out _, HF⟩
            case measure => simp [intOf]; omega
        have hs : soundI cs.length ⟨op, xa, xb, xc⟩ = false := by unfold soundI; simp only [h0, h1, h2, h3, h4, h5, h6, h7, h8, if_false]
        have HF : Hid (_ = _) := HFF.out hs
        have e0 : (op == 0) = false := by simpa using h0
        have e1 : (op == 1) = false := by simpa using h1
        have e2 : (op == 2) = false := by simpa using h2
        have e3 : (op == 3) = false := by simpa using h3
        have e4 : (op == 4) = false := by simpa using h4
        have e5 : (op == 5) = false := by simpa using h5
        have e6 : (op == 6) = false := by simpa using h6
        have e7 : (op == 7) = false := by simpa using h7
        have e8 : (op == 8) = false := by simpa using h8
        clear h0 h1 h2 h3 h4 h5 h6 h7 h8 hs HTT HFF
        go_wp2_with (go_at_call 86; refine (within_any _ _ _ _).mono ?_; rintro e w' ⟨rfl, rfl⟩)
        go_ret
        exact ⟨ret_bool (by rw [HS.out]; exact HF.out.symm), HBA.out _⟩
      · have HE : Hid (cs.take k = cs) := List.take_of_length_le (by omega)
        go_wp2_with fail
        go_ret
        exact ⟨ret_bool (by rw [HS.out]; have h := HT.out; rw [HE.out] at h; exact h.symm), HB.out⟩
end Go.Proofs.Ytmmmnghiegajmaa
/- A herald as plain mathematics, over any kind of run; two heralds whose runs do the same. -/
namespace Go.Proofs.Herald
/-- What Show tells of a run. -/
structure Rn where
  id : Int
  dev : Int
  sent : Int
  til : Int
  num : Int
/-- A kind of runs: what is told of one; how one begins; how one goes on, at a time, answered or not: the queue, the run, has it ended. -/
structure Eng (R : Type) where
  pub : R → Rn
  fresh : Int → Int → R
  start : Int → List Msg → R → List Msg × R × Bool
  on : Int → Bool → List Msg → R → List Msg × R × Bool
structure Her (R : Type) where
  now : Int
  last : Int
  qs : Nat → List Msg
  rs : List R
def updQ (f : Nat → List Msg) (d : Nat) (v : List Msg) (k : Nat) : List Msg := if k = d then v else f k
def afterR {R : Type} (E : Eng R) (rs : List R) (r : R) (done : Bool) : List R :=
  if done then rs.filter (fun y => (E.pub y).id != (E.pub r).id) else rs.map (fun y => if (E.pub y).id = (E.pub r).id then r else y)
/-- Trigger: the run's number, the error, the herald. -/
def trigH {R : Type} (E : Eng R) (h : Her R) (dev : Int) : Int × Int × Her R :=
  if ¬ (0 ≤ dev ∧ dev ≤ 2) then (0, 8, h)
  else if 5 ≤ h.rs.length then (0, 9, h)
  else (h.last + 1, 0, { h with
    last := h.last + 1
    qs := updQ h.qs dev.toNat (E.start h.now (h.qs dev.toNat) (E.fresh (h.last + 1) dev)).1
    rs := afterR E (h.rs ++ [E.fresh (h.last + 1) dev]) (E.start h.now (h.qs dev.toNat) (E.fresh (h.last + 1) dev)).2.1 (E.start h.now (h.qs dev.toNat) (E.fresh (h.last + 1) dev)).2.2 })
/-- A run goes on. -/
def goH {R : Type} (E : Eng R) (h : Her R) (r : R) (yes : Bool) : Her R :=
  { h with
    qs := updQ h.qs (E.pub r).dev.toNat (E.on h.now yes (h.qs (E.pub r).dev.toNat) r).1
    rs := afterR E h.rs (E.on h.now yes (h.qs (E.pub r).dev.toNat) r).2.1 (E.on h.now yes (h.qs (E.pub r).dev.toNat) r).2.2 }
/-- Of two runs the one that goes on first, up to a time. -/
def dueF {R : Type} (E : Eng R) (en : Int) (o : Option R) (x : R) : Option R :=
  if (E.pub x).til ≤ en then (match o with | none => some x | some b => if (E.pub x).til < (E.pub b).til then some x else some b) else o
def dueR {R : Type} (E : Eng R) (en : Int) (l : List R) : Option R := l.foldl (dueF E en) none
def tickN {R : Type} (E : Eng R) (en : Int) : Nat → Her R → Her R
  | 0, h => h
  | f + 1, h => match dueR E en h.rs with
    | none => h
    | some r => tickN E en f (goH E { h with now := (E.pub r).til } r false)
/-- Tick: the error, the herald. -/
def tickH {R : Type} (E : Eng R) (h : Her R) (n : Int) : Int × Her R :=
  if ¬ (1 ≤ n ∧ n ≤ 999) ∨ 1000000000 < h.now + n then (14, h)
  else (0, { tickN E (h.now + n) 5000 h with now := h.now + n })
def findR {R : Type} (E : Eng R) (rs : List R) (id : Int) : Option R := rs.find? fun x => (E.pub x).id == id
def ackH {R : Type} (E : Eng R) (h : Her R) (id num : Int) : Int × Her R :=
  match findR E h.rs id with
  | none => (10, h)
  | some r =>
    if num = 0 ∨ (E.pub r).num ≠ num then (11, h)
    else if hasQ (h.qs (E.pub r).dev.toNat) id num then (12, h)
    else (0, goH E h r true)
def cancelH {R : Type} (E : Eng R) (h : Her R) (id : Int) : Int × Her R :=
  match findR E h.rs id with
  | none => (10, h)
  | some r => (0, { h with qs := updQ h.qs (E.pub r).dev.toNat (takeQ (h.qs (E.pub r).dev.toNat) id 0), rs := h.rs.filter (fun y => (E.pub y).id != id) })
def drainH {R : Type} (h : Her R) (dev : Int) : Msg × Int × Her R :=
  if ¬ (0 ≤ dev ∧ dev ≤ 2) then (⟨0, 0, 0, 0⟩, 8, h)
  else match h.qs dev.toNat with
    | [] => (⟨0, 0, 0, 0⟩, 13, h)
    | m :: r => (m, 0, { h with qs := updQ h.qs dev.toNat r })
def newH {R : Type} : Her R := ⟨0, 0, fun _ => [], []⟩
/-- Two lists, element by element. -/
def relL {A B : Type} (ρ : A → B → Prop) : List A → List B → Prop
  | [], [] => True
  | a :: l, b :: m => ρ a b ∧ relL ρ l m
  | _, _ => False
theorem relL_len {A B : Type} {ρ : A → B → Prop} : ∀ {l : List A} {m : List B}, relL ρ l m → l.length = m.length
  | [], [], _ => rfl
  | _ :: _, _ :: _, h => by simp [relL_len h.2]
  | [], _ :: _, h => h.elim
  | _ :: _, [], h => h.elim
theorem relL_append {A B : Type} {ρ : A → B → Prop} : ∀ {l : List A} {m : List B} {l' : List A} {m' : List B}, relL ρ l m → relL ρ l' m' → relL ρ (l ++ l') (m ++ m')
  | [], [], _, _, _, h => h
  | _ :: _, _ :: _, _, _, h, h' => ⟨h.1, relL_append h.2 h'⟩
  | [], _ :: _, _, _, h, _ => h.elim
  | _ :: _, [], _, _, h, _ => h.elim
/-- What two kinds of runs have in common. -/
structure SameEng {R S : Type} (E : Eng R) (F : Eng S) (ρ : R → S → Prop) : Prop where
  pub : ∀ a b, ρ a b → E.pub a = F.pub b
  start : ∀ now q id dev, ((E.start now q (E.fresh id dev)).1 = (F.start now q (F.fresh id dev)).1) ∧ (E.start now q (E.fresh id dev)).2.2 = (F.start now q (F.fresh id dev)).2.2 ∧
    (E.pub (E.start now q (E.fresh id dev)).2.1).id = id ∧ (F.pub (F.start now q (F.fresh id dev)).2.1).id = id ∧ ((E.start now q (E.fresh id dev)).2.2 = false → ρ (E.start now q (E.fresh id dev)).2.1 (F.start now q (F.fresh id dev)).2.1)
  fresh : ∀ id dev, (E.pub (E.fresh id dev)).id = id ∧ (F.pub (F.fresh id dev)).id = id
  on : ∀ a b, ρ a b → ∀ now yes q, (yes = true → (E.pub a).num ≠ 0) → ((E.on now yes q a).1 = (F.on now yes q b).1) ∧ (E.on now yes q a).2.2 = (F.on now yes q b).2.2 ∧
    (E.pub (E.on now yes q a).2.1).id = (E.pub a).id ∧ (F.pub (F.on now yes q b).2.1).id = (F.pub b).id ∧ ((E.on now yes q a).2.2 = false → ρ (E.on now yes q a).2.1 (F.on now yes q b).2.1)
structure SameHer {R S : Type} (ρ : R → S → Prop) (h : Her R) (k : Her S) : Prop where
  now : h.now = k.now
  last : h.last = k.last
  qs : h.qs = k.qs
  rs : relL ρ h.rs k.rs
theorem relL_filter {R S : Type} {E : Eng R} {F : Eng S} {ρ : R → S → Prop} (hp : ∀ a b, ρ a b → E.pub a = F.pub b) (id : Int) : ∀ {l : List R} {m : List S}, relL ρ l m → relL ρ (l.filter fun y => (E.pub y).id != id) (m.filter fun y => (F.pub y).id != id)
  | [], [], _ => trivial
  | a :: l, b :: m, h => by
    have e := hp a b h.1
    have ih := relL_filter hp id h.2
    simp only [List.filter_cons, e]
    split
    · exact ⟨h.1, ih⟩
    · exact ih
  | [], _ :: _, h => h.elim
  | _ :: _, [], h => h.elim
theorem relL_map {R S : Type} {E : Eng R} {F : Eng S} {ρ : R → S → Prop} (hp : ∀ a b, ρ a b → E.pub a = F.pub b) {r : R} {s : S} (hr : ρ r s) : ∀ {l : List R} {m : List S}, relL ρ l m → relL ρ (l.map fun y => if (E.pub y).id = (E.pub r).id then r else y) (m.map fun y => if (F.pub y).id = (F.pub s).id then s else y)
  | [], [], _ => trivial
  | a :: l, b :: m, h => by
    have e := hp a b h.1
    have e2 := hp r s hr
    have ih := relL_map hp hr h.2
    simp only [List.map_cons]
    refine ⟨?_, ih⟩
    rw [e, e2]
    split
    · exact hr
    · exact h.1
  | [], _ :: _, h => h.elim
  | _ :: _, [], h => h.elim
/-- Where a run's number stays out of the list, taking it out is nothing. -/
theorem relL_after {R S : Type} {E : Eng R} {F : Eng S} {ρ : R → S → Prop} (hp : ∀ a b, ρ a b → E.pub a = F.pub b) {l : List R} {m : List S} (h : relL ρ l m) {r : R} {s : S} {done : Bool} (hid : (E.pub r).id = (F.pub s).id) (hr : done = false → ρ r s) : relL ρ (afterR E l r done) (afterR F m s done) := by
  unfold afterR
  cases done with
  | true =>
    simp only [if_true]
    rw [hid]
    exact relL_filter hp _ h
  | false =>
    simp only [Bool.false_eq_true, if_false]
    exact relL_map hp (hr rfl) h
def relO {A B : Type} (ρ : A → B → Prop) : Option A → Option B → Prop
  | none, none => True
  | some a, some b => ρ a b
  | _, _ => False
theorem relL_find {R S : Type} {E : Eng R} {F : Eng S} {ρ : R → S → Prop} (hp : ∀ a b, ρ a b → E.pub a = F.pub b) (id : Int) : ∀ {l : List R} {m : List S}, relL ρ l m → relO ρ (findR E l id) (findR F m id)
  | [], [], _ => trivial
  | a :: l, b :: m, h => by
    have e := hp a b h.1
    have ih := relL_find hp id h.2
    unfold findR at ih ⊢
    simp only [List.find?_cons, e]
    split
    · exact h.1
    · exact ih
  | [], _ :: _, h => h.elim
  | _ :: _, [], h => h.elim
theorem relL_due {R S : Type} {E : Eng R} {F : Eng S} {ρ : R → S → Prop} (hp : ∀ a b, ρ a b → E.pub a = F.pub b) (en : Int) : ∀ {l : List R} {m : List S} {o : Option R} {o' : Option S}, relL ρ l m → relO ρ o o' → relO ρ (l.foldl (dueF E en) o) (m.foldl (dueF F en) o')
  | [], [], _, _, _, h => h
  | a :: l, b :: m, o, o', h, ho => by
    have e := hp a b h.1
    simp only [List.foldl_cons]
    refine relL_due hp en h.2 ?_
    unfold dueF
    rw [e]
    split
    · cases o with
      | none =>
        cases o' with
        | none => exact h.1
        | some _ => exact ho.elim
      | some x =>
        cases o' with
        | none => exact ho.elim
        | some y =>
          have e2 := hp x y ho
          show relO ρ (if _ then _ else _) (if _ then _ else _)
          rw [e2]
          split
          · exact h.1
          · exact ho
    · exact ho
  | [], _ :: _, _, _, h, _ => h.elim
  | _ :: _, [], _, _, h, _ => h.elim
theorem SameHer.trig {R S : Type} {E : Eng R} {F : Eng S} {ρ : R → S → Prop} (hE : SameEng E F ρ) {a : Her R} {b : Her S} (h : SameHer ρ a b) (dev : Int) :
    (trigH E a dev).1 = (trigH F b dev).1 ∧ (trigH E a dev).2.1 = (trigH F b dev).2.1 ∧ SameHer ρ (trigH E a dev).2.2 (trigH F b dev).2.2 := by
  unfold trigH
  rw [relL_len h.rs, h.last, h.qs, h.now]
  split
  · exact ⟨rfl, rfl, h⟩
  · split
    · exact ⟨rfl, rfl, h⟩
    · obtain ⟨h1, h2, h3, h4, h5⟩ := hE.start b.now (b.qs dev.toNat) (b.last + 1) dev
      refine ⟨rfl, rfl, ⟨rfl, rfl, ?_, ?_⟩⟩
      · show updQ _ _ _ = updQ _ _ _
        rw [h1]
      · show relL ρ (afterR E (a.rs ++ _) _ _) (afterR F (b.rs ++ _) _ _)
        rw [h2] at h5 ⊢
        cases hd : (F.start b.now (b.qs dev.toNat) (F.fresh (b.last + 1) dev)).2.2 with
        | true =>
          unfold afterR
          simp only [if_true]
          rw [h3, h4, List.filter_append, List.filter_append]
          refine relL_append (relL_filter hE.pub _ h.rs) ?_
          have e1 := (hE.fresh (b.last + 1) dev).1
          have e2 := (hE.fresh (b.last + 1) dev).2
          simp [e1, e2, relL]
        | false =>
          rw [hd] at h5
          have hr := h5 rfl
          have e1 := (hE.fresh (b.last + 1) dev).1
          have e2 := (hE.fresh (b.last + 1) dev).2
          unfold afterR
          simp only [Bool.false_eq_true, if_false, List.map_append, List.map_cons, List.map_nil]
          refine relL_append (relL_map hE.pub hr h.rs) ?_
          rw [h3, h4, e1, e2]
          simp only [if_true]
          exact ⟨hr, trivial⟩
theorem SameHer.go {R S : Type} {E : Eng R} {F : Eng S} {ρ : R → S → Prop} (hE : SameEng E F ρ) {a : Her R} {b : Her S} (h : SameHer ρ a b) {r : R} {s : S} (hr : ρ r s) (yes : Bool) (hy : yes = true → (E.pub r).num ≠ 0) : SameHer ρ (goH E a r yes) (goH F b s yes) := by
  have e := hE.pub r s hr
  obtain ⟨h1, h2, h3, h4, h5⟩ := hE.on r s hr b.now yes (b.qs (F.pub s).dev.toNat) hy
  unfold goH
  rw [h.now, h.qs, e]
  refine ⟨rfl, h.last, ?_, ?_⟩
  · show updQ _ _ _ = updQ _ _ _
    rw [h1]
  · show relL ρ (afterR E a.rs _ _) (afterR F b.rs _ _)
    rw [h2] at h5 ⊢
    exact relL_after hE.pub h.rs (by rw [h3, h4, e]) h5
theorem SameHer.tickN {R S : Type} {E : Eng R} {F : Eng S} {ρ : R → S → Prop} (hE : SameEng E F ρ) (en : Int) : ∀ (f : Nat) {a : Her R} {b : Her S}, SameHer ρ a b → SameHer ρ (Herald.tickN E en f a) (Herald.tickN F en f b) := by
  intro f
  induction f with
  | zero => intro a b h; exact h
  | succ f ih =>
    intro a b h
    have hd := relL_due hE.pub en h.rs (o := none) (o' := none) trivial
    unfold Herald.tickN dueR
    cases h1 : a.rs.foldl (dueF E en) none with
    | none =>
      rw [h1] at hd
      cases h2 : b.rs.foldl (dueF F en) none with
      | none => exact h
      | some y => rw [h2] at hd; exact hd.elim
    | some x =>
      rw [h1] at hd
      cases h2 : b.rs.foldl (dueF F en) none with
      | none => rw [h2] at hd; exact hd.elim
      | some y =>
        rw [h2] at hd
        have hxy : ρ x y := hd
        simp only
        rw [hE.pub x y hxy]
        have hh : SameHer ρ { a with now := (F.pub y).til } { b with now := (F.pub y).til } := ⟨rfl, h.last, h.qs, h.rs⟩
        exact ih (SameHer.go hE hh hxy false (fun hh => by cases hh))
theorem SameHer.tick {R S : Type} {E : Eng R} {F : Eng S} {ρ : R → S → Prop} (hE : SameEng E F ρ) {a : Her R} {b : Her S} (h : SameHer ρ a b) (n : Int) : (tickH E a n).1 = (tickH F b n).1 ∧ SameHer ρ (tickH E a n).2 (tickH F b n).2 := by
  unfold tickH
  rw [h.now]
  split
  · exact ⟨rfl, h⟩
  · have h2 := SameHer.tickN hE (b.now + n) 5000 h
    exact ⟨rfl, rfl, h2.last, h2.qs, h2.rs⟩
theorem SameHer.ack {R S : Type} {E : Eng R} {F : Eng S} {ρ : R → S → Prop} (hE : SameEng E F ρ) {a : Her R} {b : Her S} (h : SameHer ρ a b) (id num : Int) : (ackH E a id num).1 = (ackH F b id num).1 ∧ SameHer ρ (ackH E a id num).2 (ackH F b id num).2 := by
  have hf := relL_find hE.pub id h.rs
  unfold ackH
  cases h1 : findR E a.rs id with
  | none =>
    rw [h1] at hf
    cases h2 : findR F b.rs id with
    | none => exact ⟨rfl, h⟩
    | some y => rw [h2] at hf; exact hf.elim
  | some x =>
    rw [h1] at hf
    cases h2 : findR F b.rs id with
    | none => rw [h2] at hf; exact hf.elim
    | some y =>
      rw [h2] at hf
      have hxy : ρ x y := hf
      have e := hE.pub x y hxy
      simp only
      rw [e, h.qs]
      split
      · exact ⟨rfl, h⟩
      · rename_i hn
        split
        · exact ⟨rfl, h⟩
        · refine ⟨rfl, SameHer.go hE h hxy true (fun _ h0 => hn ?_)⟩
          rw [e] at h0
          by_cases hz : num = 0
          · exact Or.inl hz
          · right; rw [h0]; exact fun hh => hz hh.symm
theorem SameHer.cancel {R S : Type} {E : Eng R} {F : Eng S} {ρ : R → S → Prop} (hE : SameEng E F ρ) {a : Her R} {b : Her S} (h : SameHer ρ a b) (id : Int) : (cancelH E a id).1 = (cancelH F b id).1 ∧ SameHer ρ (cancelH E a id).2 (cancelH F b id).2 := by
  have hf := relL_find hE.pub id h.rs
  unfold cancelH
  cases h1 : findR E a.rs id with
  | none =>
    rw [h1] at hf
    cases h2 : findR F b.rs id with
    | none => exact ⟨rfl, h⟩
    | some y => rw [h2] at hf; exact hf.elim
  | some x =>
    rw [h1] at hf
    cases h2 : findR F b.rs id with
    | none => rw [h2] at hf; exact hf.elim
    | some y =>
      rw [h2] at hf
      have e := hE.pub x y hf
      refine ⟨rfl, h.now, h.last, ?_, relL_filter hE.pub id h.rs⟩
      show updQ _ _ _ = updQ _ _ _
      rw [e, h.qs]
theorem SameHer.drain {R S : Type} {ρ : R → S → Prop} {a : Her R} {b : Her S} (h : SameHer ρ a b) (dev : Int) : (drainH a dev).1 = (drainH b dev).1 ∧ (drainH a dev).2.1 = (drainH b dev).2.1 ∧ SameHer ρ (drainH a dev).2.2 (drainH b dev).2.2 := by
  unfold drainH
  rw [h.qs]
  split
  · exact ⟨rfl, rfl, h⟩
  · split
    · exact ⟨rfl, rfl, h⟩
    · exact ⟨rfl, rfl, h.now, h.last, rfl, h.rs⟩
theorem SameHer.new {R S : Type} (ρ : R → S → Prop) : SameHer ρ (newH (R := R)) (newH (R := S)) := ⟨rfl, rfl, rfl, trivial⟩
end Go.Proofs.Herald
