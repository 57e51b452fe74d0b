/- The program's reader: its methods number, times, key and ticks. -/
import Derived.Test.YtiaibigmbflpiaaCodeE
import Derived.Test.YtiaibigmbflpiaaPureL
namespace Go.Proofs.Ytiaibigmbflpiaa
open Go.RowKit Go.Proofs.Herald

theorem numV_eq (l : List UInt8) : numV l = nV l := rfl
theorem numB_eq (l : List UInt8) : numB l = nB l := rfl
theorem keyV_eq (l : List UInt8) : keyV l = kV l := rfl
theorem keyB_eq (l : List UInt8) : keyB l = kB l := rfl

set_option maxHeartbeats 1000000 in
theorem c_number (t : ByteArray) (ht : t.size ≤ 400) (B R : Nat) (sv : Value) (st : RSt) (most : Int) (w : World) (h : RdAt t B w R sv st) :
    Calls Try.prog 150 #[.pointer (some ⟨R, 0, none⟩), .int .i64 most] w fun e w' =>
      e = .returned (.tuple #[.int .i64 (numberR t st most).1, .bool (numberR t st most).2.1]) ∧ RdAt t B w' R sv (numberR t st most).2.2 ∧ Below B w w' := by
  have c1 : w.cell? ⟨R, 1, none⟩ = some (.string (wordR t st.us)) := (cell_of_heap h.blk).trans rfl
  have c2 : w.cell? ⟨R, 2, none⟩ = some (.int .i64 (atR t st.us : Nat)) := (cell_of_heap h.blk).trans rfl
  have HH : Hid (RdAt t B w R sv st) := h
  obtain ⟨s, hs⟩ : ∃ s, s = wordR t st.us := ⟨_, rfl⟩
  have hsz : s.size ≤ 400 := by rw [hs]; have := wordR_size (t := t) st.us; omega
  have hby : bytesR t st = s.data.toList := by rw [hs]; rfl
  rw [← hs] at c1
  obtain ⟨i, hi⟩ : ∃ i, i = atR t st.us := ⟨_, rfl⟩
  rw [← hi] at c2
  have hN : numberR t st most = if nB s.data.toList then (nV s.data.toList, true, advR (if nV s.data.toList < 1 ∨ most < nV s.data.toList then noteR st 3 (i : Nat) else st)) else (0, false, st) := by
    unfold numberR; rw [hby, hi]
  have HC : Hid (∀ W, Calls Try.prog 168 #[.string s] W fun e w' => e = .returned (.tuple #[.int .i64 (nV s.data.toList), .bool (nB s.data.toList)]) ∧ w' = W) := fun W => c_numberOf s W hsz
  obtain ⟨V, hV⟩ : ∃ V, V = nV s.data.toList := ⟨_, rfl⟩
  rw [← hV] at hN HC
  clear hs hby hi hV h
  cases hb : nB s.data.toList with
  | false =>
    rw [hb] at hN HC
    have HN : Hid (numberR t st most = (0, false, st)) := hN
    clear hb hN
    go_enter Try.func150, Try.ntmps150
    go_wp2_with fail
    refine (HC.out _).mono ?_
    rintro e w' ⟨rfl, rfl⟩
    go_wp2_with fail
    go_ret2
    rw [HN.out]
    exact ⟨rfl, HH.out, Below.refl _ _⟩
  | true =>
    rw [hb] at hN HC
    by_cases hr : V < 1 ∨ most < V
    · have HN : Hid (numberR t st most = (V, true, advR (noteR st 3 (i : Nat)))) := by show _ = _; rw [hN, if_pos rfl, if_pos hr]
      have hc : V < 1 ∨ (1 ≤ V ∧ most < V) := by omega
      clear hb hN hr
      rcases hc with hc | ⟨hc0, hc⟩
      all_goals
        go_enter Try.func150, Try.ntmps150
        go_wp2_with fail
        refine (HC.out _).mono ?_
        rintro e w' ⟨rfl, rfl⟩
        go_wp2_with fail
        refine (c_note t B R sv st 3 (i : Nat) _ HH.out).mono ?_
        rintro e w1 ⟨rfl, h1, b1⟩
        have H1 : Hid (_ ∧ _) := And.intro h1 b1
        clear h1 b1
        go_wp2_with fail
        refine (c_advance t ht B R sv _ _ H1.out.1).mono ?_
        rintro e w2 ⟨rfl, h2, b2⟩
        go_wp2_with fail
        go_ret2
        rw [HN.out]
        exact ⟨rfl, h2, H1.out.2.trans b2⟩
    · have HN : Hid (numberR t st most = (V, true, advR st)) := by show _ = _; rw [hN, if_pos rfl, if_neg hr]
      have hc0 : 1 ≤ V := by omega
      have hc : V ≤ most := by omega
      clear hb hN hr
      go_enter Try.func150, Try.ntmps150
      go_wp2_with fail
      refine (HC.out _).mono ?_
      rintro e w' ⟨rfl, rfl⟩
      go_wp2_with fail
      refine (c_advance t ht B R sv _ _ HH.out).mono ?_
      rintro e w2 ⟨rfl, h2, b2⟩
      go_wp2_with fail
      go_ret2
      rw [HN.out]
      exact ⟨rfl, h2, b2⟩

set_option maxHeartbeats 1000000 in
theorem c_times (t : ByteArray) (ht : t.size ≤ 400) (B R : Nat) (sv : Value) (st : RSt) (kind : Int) (w : World) (h : RdAt t B w R sv st) :
    Calls Try.prog 128 #[.pointer (some ⟨R, 0, none⟩), .int .i64 kind] w fun e w' =>
      e = .returned (.tuple #[.int .i64 (timesR t st kind).1, .bool (timesR t st kind).2.1]) ∧ RdAt t B w' R sv (timesR t st kind).2.2 ∧ Below B w w' := by
  have HH : Hid (RdAt t B w R sv st) := h
  clear h
  by_cases h5 : kind = 5
  · have HN : Hid (timesR t st kind = numberR t st 6) := if_pos h5
    have e5 : (kind == 5) = true := by simp [h5]
    clear h5
    go_enter Try.func128, Try.ntmps128
    go_wp2_with fail
    refine (c_number t ht B R sv st 6 _ HH.out).mono ?_
    rintro e w1 ⟨rfl, h1, b1⟩
    go_wp2_with fail
    go_ret2
    rw [HN.out]
    exact ⟨rfl, h1, b1⟩
  · have e5 : (kind == 5) = false := by simp [h5]
    by_cases h6 : kind = 6
    · have HN : Hid (timesR t st kind = numberR t st 9) := (if_neg h5).trans (if_pos h6)
      have e6 : (kind == 6) = true := by simp [h6]
      clear h5 h6
      go_enter Try.func128, Try.ntmps128
      go_wp2_with fail
      refine (c_number t ht B R sv st 9 _ HH.out).mono ?_
      rintro e w1 ⟨rfl, h1, b1⟩
      go_wp2_with fail
      go_ret2
      rw [HN.out]
      exact ⟨rfl, h1, b1⟩
    · have HN : Hid (timesR t st kind = (0, true, st)) := (if_neg h5).trans (if_neg h6)
      have e6 : (kind == 6) = false := by simp [h6]
      clear h5 h6
      go_enter Try.func128, Try.ntmps128
      go_wp2_with fail
      go_ret2
      rw [HN.out]
      exact ⟨rfl, HH.out, Below.refl _ _⟩

set_option maxHeartbeats 1000000 in
theorem c_ticks (t : ByteArray) (ht : t.size ≤ 400) (B R : Nat) (sv : Value) (st : RSt) (kind : Int) (w : World) (h : RdAt t B w R sv st) :
    Calls Try.prog 130 #[.pointer (some ⟨R, 0, none⟩), .int .i64 kind] w fun e w' =>
      e = .returned (.tuple #[.int .i64 (ticksR t st kind).1, .bool (ticksR t st kind).2.1]) ∧ RdAt t B w' R sv (ticksR t st kind).2.2 ∧ Below B w w' := by
  have HH : Hid (RdAt t B w R sv st) := h
  clear h
  by_cases h2 : kind = 2
  · have e2 : (kind == 2) = true := by simp [h2]
    have HN : Hid (ticksR t st kind = _) := if_pos (by omega)
    clear h2
    go_enter Try.func130, Try.ntmps130
    go_wp2_with fail
    refine (c_number t ht B R sv st 999 _ HH.out).mono ?_
    rintro e w1 ⟨rfl, h1, b1⟩
    go_wp2_with fail
    go_ret2
    rw [HN.out]
    exact ⟨rfl, h1, b1⟩
  by_cases h4 : kind = 4
  · have e4 : (kind == 4) = true := by simp [h4]
    have HN : Hid (ticksR t st kind = _) := if_pos (by omega)
    have e2 : (kind == 2) = false := by simp; omega
    clear h2 h4
    go_enter Try.func130, Try.ntmps130
    go_wp2_with fail
    refine (c_number t ht B R sv st 999 _ HH.out).mono ?_
    rintro e w1 ⟨rfl, h1, b1⟩
    go_wp2_with fail
    go_ret2
    rw [HN.out]
    exact ⟨rfl, h1, b1⟩
  by_cases h5 : kind = 5
  · have e5 : (kind == 5) = true := by simp [h5]
    have HN : Hid (ticksR t st kind = _) := if_pos (by omega)
    have e2 : (kind == 2) = false := by simp; omega
    have e4 : (kind == 4) = false := by simp; omega
    clear h2 h4 h5
    go_enter Try.func130, Try.ntmps130
    go_wp2_with fail
    refine (c_number t ht B R sv st 999 _ HH.out).mono ?_
    rintro e w1 ⟨rfl, h1, b1⟩
    go_wp2_with fail
    go_ret2
    rw [HN.out]
    exact ⟨rfl, h1, b1⟩
  have HN : Hid (ticksR t st kind = (0, true, st)) := if_neg (by omega)
  have e2 : (kind == 2) = false := by simp; omega
  have e4 : (kind == 4) = false := by simp; omega
  have e5 : (kind == 5) = false := by simp; omega
  clear h2 h4 h5
  go_enter Try.func130, Try.ntmps130
  go_wp2_with fail
  go_ret2
  rw [HN.out]
  exact ⟨rfl, HH.out, Below.refl _ _⟩

set_option maxHeartbeats 1000000 in
theorem c_key (t : ByteArray) (ht : t.size ≤ 400) (B R : Nat) (sv : Value) (st : RSt) (kind : Int) (w : World) (h : RdAt t B w R sv st) :
    Calls Try.prog 129 #[.pointer (some ⟨R, 0, none⟩), .int .i64 kind] w fun e w' =>
      e = .returned (.tuple #[.int .i64 (keyR t st kind).1, .bool (keyR t st kind).2.1]) ∧ RdAt t B w' R sv (keyR t st kind).2.2 ∧ Below B w w' := by
  have HH : Hid (RdAt t B w R sv st) := h
  have c1 : w.cell? ⟨R, 1, none⟩ = some (.string (wordR t st.us)) := (cell_of_heap h.blk).trans rfl
  obtain ⟨s, hs⟩ : ∃ s, s = wordR t st.us := ⟨_, rfl⟩
  have hby : bytesR t st = s.data.toList := by rw [hs]; rfl
  rw [← hs] at c1
  have HC : Hid (∀ W, Calls Try.prog 151 #[.string s] W fun e w' => e = .returned (.tuple #[.int .i64 (kV s.data.toList), .bool (kB s.data.toList)]) ∧ w' = W) := fun W => c_keyOf s W
  have HKR : Hid ((kV (bytesR t st), kB (bytesR t st), if kB (bytesR t st) then advR st else st) = (kV s.data.toList, kB s.data.toList, if kB s.data.toList then advR st else st)) := by show _ = _; rw [hby]
  clear h hs hby
  by_cases h1 : kind = 1
  · have e1 : (kind == 1) = true := by simp [h1]
    have HN : Hid (keyR t st kind = _) := if_pos (by omega)
    clear h1
    cases hb : kB s.data.toList with
    | false =>
      rw [hb] at HC HKR
      have HM := HN.out.trans HKR.out
      have HM2 : Hid (_ = _) := HM
      clear HM hb
      go_enter Try.func129, Try.ntmps129
      go_wp2_with fail
      refine (HC.out _).mono ?_
      rintro e w' ⟨rfl, rfl⟩
      go_wp2_with fail
      go_ret2
      rw [HM2.out]
      exact ⟨rfl, HH.out, Below.refl _ _⟩
    | true =>
      rw [hb] at HC HKR
      have HM := HN.out.trans HKR.out
      have HM2 : Hid (_ = _) := HM
      clear HM hb
      go_enter Try.func129, Try.ntmps129
      go_wp2_with fail
      refine (HC.out _).mono ?_
      rintro e w' ⟨rfl, rfl⟩
      go_wp2_with fail
      refine (c_advance t ht B R sv _ _ HH.out).mono ?_
      rintro e w2 ⟨rfl, h2, b2⟩
      go_wp2_with fail
      go_ret2
      rw [HM2.out]
      exact ⟨rfl, h2, b2⟩
  by_cases h4 : kind = 4
  · have e4 : (kind == 4) = true := by simp [h4]
    have HN : Hid (keyR t st kind = _) := if_pos (by omega)
    have e1 : (kind == 1) = false := by simp; omega
    clear h1 h4
    cases hb : kB s.data.toList with
    | false =>
      rw [hb] at HC HKR
      have HM := HN.out.trans HKR.out
      have HM2 : Hid (_ = _) := HM
      clear HM hb
      go_enter Try.func129, Try.ntmps129
      go_wp2_with fail
      refine (HC.out _).mono ?_
      rintro e w' ⟨rfl, rfl⟩
      go_wp2_with fail
      go_ret2
      rw [HM2.out]
      exact ⟨rfl, HH.out, Below.refl _ _⟩
    | true =>
      rw [hb] at HC HKR
      have HM := HN.out.trans HKR.out
      have HM2 : Hid (_ = _) := HM
      clear HM hb
      go_enter Try.func129, Try.ntmps129
      go_wp2_with fail
      refine (HC.out _).mono ?_
      rintro e w' ⟨rfl, rfl⟩
      go_wp2_with fail
      refine (c_advance t ht B R sv _ _ HH.out).mono ?_
      rintro e w2 ⟨rfl, h2, b2⟩
      go_wp2_with fail
      go_ret2
      rw [HM2.out]
      exact ⟨rfl, h2, b2⟩
  by_cases h5 : kind = 5
  · have e5 : (kind == 5) = true := by simp [h5]
    have HN : Hid (keyR t st kind = _) := if_pos (by omega)
    have e1 : (kind == 1) = false := by simp; omega
    have e4 : (kind == 4) = false := by simp; omega
    clear h1 h4 h5
    cases hb : kB s.data.toList with
    | false =>
      rw [hb] at HC HKR
      have HM := HN.out.trans HKR.out
      have HM2 : Hid (_ = _) := HM
      clear HM hb
      go_enter Try.func129, Try.ntmps129
      go_wp2_with fail
      refine (HC.out _).mono ?_
      rintro e w' ⟨rfl, rfl⟩
      go_wp2_with fail
      go_ret2
      rw [HM2.out]
      exact ⟨rfl, HH.out, Below.refl _ _⟩
    | true =>
      rw [hb] at HC HKR
      have HM := HN.out.trans HKR.out
      have HM2 : Hid (_ = _) := HM
      clear HM hb
      go_enter Try.func129, Try.ntmps129
      go_wp2_with fail
      refine (HC.out _).mono ?_
      rintro e w' ⟨rfl, rfl⟩
      go_wp2_with fail
      refine (c_advance t ht B R sv _ _ HH.out).mono ?_
      rintro e w2 ⟨rfl, h2, b2⟩
      go_wp2_with fail
      go_ret2
      rw [HM2.out]
      exact ⟨rfl, h2, b2⟩
  have HN : Hid (keyR t st kind = (0, true, st)) := if_neg (by omega)
  have e1 : (kind == 1) = false := by simp; omega
  have e4 : (kind == 4) = false := by simp; omega
  have e5 : (kind == 5) = false := by simp; omega
  clear h1 h4 h5
  go_enter Try.func129, Try.ntmps129
  go_wp2_with fail
  go_ret2
  rw [HN.out]
  exact ⟨rfl, HH.out, Below.refl _ _⟩

end Go.Proofs.Ytiaibigmbflpiaa
