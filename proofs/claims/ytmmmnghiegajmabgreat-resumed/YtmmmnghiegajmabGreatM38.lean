import Derived.Test.YtmmmnghiegajmabGreatM36
import Derived.Test.YtmmmnghiegajmabGreatM04
/- The program's reader: its methods number, times, key and ticks. The program's reader: a block in braces. The program's reader: a statement's counts are written into its record; the methods branches and repeated. The program's reader: its method branches. The program's reader: its method repeated. -/
namespace Go.Proofs.YtmmmnghiegajmabGreat
open Go.RowKit Go.Proofs.Herald
set_option maxHeartbeats 1000000 in
theorem c_number (t : ByteArray) (ht : t.size ≤ 400) (B R : Nat) (sv : Value) (st : RSt) (most : Int) (w : World) (h : RdAt t B w R sv st) :
    Calls Tryz.prog 89 #[.pointer (some ⟨R, 0, none⟩), .int .i64 most] w fun e w' =>
      e = .returned (.tuple #[.int .i64 (numberR t st most).1, .bool (numberR t st most).2.1]) ∧ RdAt t B w' R sv (numberR t st most).2.2 ∧ Below B w w' := by
  have c1 : w.cell? ⟨R, 1, none⟩ = some (.string (wordR t st.us)) := (cell_of_heap h.blk).trans rfl
  have c2 : w.cell? ⟨R, 2, none⟩ = some (.int .i64 (atR t st.us : Nat)) := (cell_of_heap h.blk).trans rfl
  have HH : Hid (RdAt t B w R sv st) := h
  obtain ⟨s, hs⟩ : ∃ s, s = wordR t st.us := ⟨_, rfl⟩
  have hsz : s.size ≤ 400 := by rw [hs]; have := wordR_size (t := t) st.us; omega
  have hby : bytesR t st = s.data.toList := by rw [hs]; rfl
  rw [← hs] at c1
  obtain ⟨i, hi⟩ : ∃ i, i = atR t st.us := ⟨_, rfl⟩
  rw [← hi] at c2
  have hN : numberR t st most = if nB s.data.toList then (nV s.data.toList, true, advR (if nV s.data.toList < 1 ∨ most < nV s.data.toList then noteR st 3 (i : Nat) else st)) else (0, false, st) := by
    unfold numberR; rw [hby, hi]
  have HC : Hid (∀ W, Calls Tryz.prog 105 #[.string s] W fun e w' => e = .returned (.tuple #[.int .i64 (nV s.data.toList), .bool (nB s.data.toList)]) ∧ w' = W) := fun W => c_numberOf s W hsz
  obtain ⟨V, hV⟩ : ∃ V, V = nV s.data.toList := ⟨_, rfl⟩
  rw [← hV] at hN HC
  clear hs hby hi hV h
  cases hb : nB s.data.toList with
  | false =>
    rw [hb] at hN HC
    have HN : Hid (numberR t st most = (0, false, st)) := hN
    clear hb hN
    go_enter Tryz.func89, Tryz.ntmps89
    go_wp2_with fail
    refine (HC.out _).mono ?_
    rintro e w' ⟨rfl, rfl⟩
    go_wp2_with fail
    go_ret2
    rw [HN.out]
    exact ⟨rfl, HH.out, Below.refl _ _⟩
  | true =>
    rw [hb] at hN HC
    by_cases hr : V < 1 ∨ most < V
    · have HN : Hid (numberR t st most = (V, true, advR (noteR st 3 (i : Nat)))) := by show _ = _; rw [hN, if_pos rfl, if_pos hr]
      have hc : V < 1 ∨ (1 ≤ V ∧ most < V) := by omega
      clear hb hN hr
      rcases hc with hc | ⟨hc0, hc⟩
      all_goals
        go_enter Tryz.func89, Tryz.ntmps89
        go_wp2_with fail
        refine (HC.out _).mono ?_
        rintro e w' ⟨rfl, rfl⟩
        go_wp2_with fail
        refine (c_note t B R sv st 3 (i : Nat) _ HH.out).mono ?_
        rintro e w1 ⟨rfl, h1, b1⟩
        have H1 : Hid (_ ∧ _) := And.intro h1 b1
        clear h1 b1
        go_wp2_with fail
        refine (c_advance t ht B R sv _ _ H1.out.1).mono ?_
        rintro e w2 ⟨rfl, h2, b2⟩
        go_wp2_with fail
        go_ret2
        rw [HN.out]
        exact ⟨rfl, h2, H1.out.2.trans b2⟩
    · have HN : Hid (numberR t st most = (V, true, advR st)) := by show _ = _; rw [hN, if_pos rfl, if_neg hr]
      have hc0 : 1 ≤ V := by omega
      have hc : V ≤ most := by omega
      clear hb hN hr
      go_enter Tryz.func89, Tryz.ntmps89
      go_wp2_with fail
      refine (HC.out _).mono ?_
      rintro e w' ⟨rfl, rfl⟩
      go_wp2_with fail
      refine (c_advance t ht B R sv _ _ HH.out).mono ?_
      rintro e w2 ⟨rfl, h2, b2⟩
      go_wp2_with fail
      go_ret2
      rw [HN.out]
      exact ⟨rfl, h2, b2⟩
set_option maxHeartbeats 1000000 in
theorem c_times (t : ByteArray) (ht : t.size ≤ 400) (B R : Nat) (sv : Value) (st : RSt) (kind : Int) (w : World) (h : RdAt t B w R sv st) :
    Calls Tryz.prog 77 #[.pointer (some ⟨R, 0, none⟩), .int .i64 kind] w fun e w' =>
      e = .returned (.tuple #[.int .i64 (timesR t st kind).1, .bool (timesR t st kind).2.1]) ∧ RdAt t B w' R sv (timesR t st kind).2.2 ∧ Below B w w' := by
  have HH : Hid (RdAt t B w R sv st) := h
  clear h
  by_cases h5 : kind = 5
  · have HN : Hid (timesR t st kind = numberR t st 6) := if_pos h5
    have e5 : (kind == 5) = true := by simp [h5]
    clear h5
    go_enter Tryz.func77, Tryz.ntmps77
    go_wp2_with fail
    refine (c_number t ht B R sv st 6 _ HH.out).mono ?_
    rintro e w1 ⟨rfl, h1, b1⟩
    go_wp2_with fail
    go_ret2
    rw [HN.out]
    exact ⟨rfl, h1, b1⟩
  · have e5 : (kind == 5) = false := by simp [h5]
    by_cases h6 : kind = 6
    · have HN : Hid (timesR t st kind = numberR t st 9) := (if_neg h5).trans (if_pos h6)
      have e6 : (kind == 6) = true := by simp [h6]
      clear h5 h6
      go_enter Tryz.func77, Tryz.ntmps77
      go_wp2_with fail
      refine (c_number t ht B R sv st 9 _ HH.out).mono ?_
      rintro e w1 ⟨rfl, h1, b1⟩
      go_wp2_with fail
      go_ret2
      rw [HN.out]
      exact ⟨rfl, h1, b1⟩
    · have HN : Hid (timesR t st kind = (0, true, st)) := (if_neg h5).trans (if_neg h6)
      have e6 : (kind == 6) = false := by simp [h6]
      clear h5 h6
      go_enter Tryz.func77, Tryz.ntmps77
      go_wp2_with fail
      go_ret2
      rw [HN.out]
      exact ⟨rfl, HH.out, Below.refl _ _⟩
set_option maxHeartbeats 1000000 in
theorem c_ticks (t : ByteArray) (ht : t.size ≤ 400) (B R : Nat) (sv : Value) (st : RSt) (kind : Int) (w : World) (h : RdAt t B w R sv st) :
    Calls Tryz.prog 79 #[.pointer (some ⟨R, 0, none⟩), .int .i64 kind] w fun e w' =>
      e = .returned (.tuple #[.int .i64 (ticksR t st kind).1, .bool (ticksR t st kind).2.1]) ∧ RdAt t B w' R sv (ticksR t st kind).2.2 ∧ Below B w w' := by
  have HH : Hid (RdAt t B w R sv st) := h
  clear h
  by_cases h2 : kind = 2
  · have e2 : (kind == 2) = true := by simp [h2]
    have HN : Hid (ticksR t st kind = _) := if_pos (by omega)
    clear h2
    go_enter Tryz.func79, Tryz.ntmps79
    go_wp2_with fail
    refine (c_number t ht B R sv st 999 _ HH.out).mono ?_
    rintro e w1 ⟨rfl, h1, b1⟩
    go_wp2_with fail
    go_ret2
    rw [HN.out]
    exact ⟨rfl, h1, b1⟩
  by_cases h4 : kind = 4
  · have e4 : (kind == 4) = true := by simp [h4]
    have HN : Hid (ticksR t st kind = _) := if_pos (by omega)
    have e2 : (kind == 2) = false := by simp; omega
    clear h2 h4
    go_enter Tryz.func79, Tryz.ntmps79
    go_wp2_with fail
    refine (c_number t ht B R sv st 999 _ HH.out).mono ?_
    rintro e w1 ⟨rfl, h1, b1⟩
    go_wp2_with fail
    go_ret2
    rw [HN.out]
    exact ⟨rfl, h1, b1⟩
  by_cases h5 : kind = 5
  · have e5 : (kind == 5) = true := by simp [h5]
    have HN : Hid (ticksR t st kind = _) := if_pos (by omega)
    have e2 : (kind == 2) = false := by simp; omega
    have e4 : (kind == 4) = false := by simp; omega
    clear h2 h4 h5
    go_enter Tryz.func79, Tryz.ntmps79
    go_wp2_with fail
    refine (c_number t ht B R sv st 999 _ HH.out).mono ?_
    rintro e w1 ⟨rfl, h1, b1⟩
    go_wp2_with fail
    go_ret2
    rw [HN.out]
    exact ⟨rfl, h1, b1⟩
  have HN : Hid (ticksR t st kind = (0, true, st)) := if_neg (by omega)
  have e2 : (kind == 2) = false := by simp; omega
  have e4 : (kind == 4) = false := by simp; omega
  have e5 : (kind == 5) = false := by simp; omega
  clear h2 h4 h5
  go_enter Tryz.func79, Tryz.ntmps79
  go_wp2_with fail
  go_ret2
  rw [HN.out]
  exact ⟨rfl, HH.out, Below.refl _ _⟩
set_option maxHeartbeats 1000000 in
theorem c_key (t : ByteArray) (ht : t.size ≤ 400) (B R : Nat) (sv : Value) (st : RSt) (kind : Int) (w : World) (h : RdAt t B w R sv st) :
    Calls Tryz.prog 78 #[.pointer (some ⟨R, 0, none⟩), .int .i64 kind] w fun e w' =>
      e = .returned (.tuple #[.int .i64 (keyR t st kind).1, .bool (keyR t st kind).2.1]) ∧ RdAt t B w' R sv (keyR t st kind).2.2 ∧ Below B w w' := by
  have HH : Hid (RdAt t B w R sv st) := h
  have c1 : w.cell? ⟨R, 1, none⟩ = some (.string (wordR t st.us)) := (cell_of_heap h.blk).trans rfl
  obtain ⟨s, hs⟩ : ∃ s, s = wordR t st.us := ⟨_, rfl⟩
  have hby : bytesR t st = s.data.toList := by rw [hs]; rfl
  rw [← hs] at c1
  have HC : Hid (∀ W, Calls Tryz.prog 90 #[.string s] W fun e w' => e = .returned (.tuple #[.int .i64 (kV s.data.toList), .bool (kB s.data.toList)]) ∧ w' = W) := fun W => c_keyOf s W
  have HKR : Hid ((kV (bytesR t st), kB (bytesR t st), if kB (bytesR t st) then advR st else st) = (kV s.data.toList, kB s.data.toList, if kB s.data.toList then advR st else st)) := by show _ = _; rw [hby]
  clear h hs hby
  by_cases h1 : kind = 1
  · have e1 : (kind == 1) = true := by simp [h1]
    have HN : Hid (keyR t st kind = _) := if_pos (by omega)
    clear h1
    cases hb : kB s.data.toList with
    | false =>
      rw [hb] at HC HKR
      have HM := HN.out.trans HKR.out
      have HM2 : Hid (_ = _) := HM
      clear HM hb
      go_enter Tryz.func78, Tryz.ntmps78
      go_wp2_with fail
      refine (HC.out _).mono ?_
      rintro e w' ⟨rfl, rfl⟩
      go_wp2_with fail
      go_ret2
      rw [HM2.out]
      exact ⟨rfl, HH.out, Below.refl _ _⟩
    | true =>
      rw [hb] at HC HKR
      have HM := HN.out.trans HKR.out
      have HM2 : Hid (_ = _) := HM
      clear HM hb
      go_enter Tryz.func78, Tryz.ntmps78
      go_wp2_with fail
      refine (HC.out _).mono ?_
      rintro e w' ⟨rfl, rfl⟩
      go_wp2_with fail
      refine (c_advance t ht B R sv _ _ HH.out).mono ?_
      rintro e w2 ⟨rfl, h2, b2⟩
      go_wp2_with fail
      go_ret2
      rw [HM2.out]
      exact ⟨rfl, h2, b2⟩
  by_cases h4 : kind = 4
  · have e4 : (kind == 4) = true := by simp [h4]
    have HN : Hid (keyR t st kind = _) := if_pos (by omega)
    have e1 : (kind == 1) = false := by simp; omega
    clear h1 h4
    cases hb : kB s.data.toList with
    | false =>
      rw [hb] at HC HKR
      have HM := HN.out.trans HKR.out
      have HM2 : Hid (_ = _) := HM
      clear HM hb
      go_enter Tryz.func78, Tryz.ntmps78
      go_wp2_with fail
      refine (HC.out _).mono ?_
      rintro e w' ⟨rfl, rfl⟩
      go_wp2_with fail
      go_ret2
      rw [HM2.out]
      exact ⟨rfl, HH.out, Below.refl _ _⟩
    | true =>
      rw [hb] at HC HKR
      have HM := HN.out.trans HKR.out
      have HM2 : Hid (_ = _) := HM
      clear HM hb
      go_enter Tryz.func78, Tryz.ntmps78
      go_wp2_with fail
      refine (HC.out _).mono ?_
      rintro e w' ⟨rfl, rfl⟩
      go_wp2_with fail
      refine (c_advance t ht B R sv _ _ HH.out).mono ?_
      rintro e w2 ⟨rfl, h2, b2⟩
      go_wp2_with fail
      go_ret2
      rw [HM2.out]
      exact ⟨rfl, h2, b2⟩
  by_cases h5 : kind = 5
  · have e5 : (kind == 5) = true := by simp [h5]
    have HN : Hid (keyR t st kind = _) := if_pos (by omega)
    have e1 : (kind == 1) = false := by simp; omega
    have e4 : (kind == 4) = false := by simp; omega
    clear h1 h4 h5
    cases hb : kB s.data.toList with
    | false =>
      rw [hb] at HC HKR
      have HM := HN.out.trans HKR.out
      have HM2 : Hid (_ = _) := HM
      clear HM hb
      go_enter Tryz.func78, Tryz.ntmps78
      go_wp2_with fail
      refine (HC.out _).mono ?_
      rintro e w' ⟨rfl, rfl⟩
      go_wp2_with fail
      go_ret2
      rw [HM2.out]
      exact ⟨rfl, HH.out, Below.refl _ _⟩
    | true =>
      rw [hb] at HC HKR
      have HM := HN.out.trans HKR.out
      have HM2 : Hid (_ = _) := HM
      clear HM hb
      go_enter Tryz.func78, Tryz.ntmps78
      go_wp2_with fail
      refine (HC.out _).mono ?_
      rintro e w' ⟨rfl, rfl⟩
      go_wp2_with fail
      refine (c_advance t ht B R sv _ _ HH.out).mono ?_
      rintro e w2 ⟨rfl, h2, b2⟩
      go_wp2_with fail
      go_ret2
      rw [HM2.out]
      exact ⟨rfl, h2, b2⟩
  have HN : Hid (keyR t st kind = (0, true, st)) := if_neg (by omega)
  have e1 : (kind == 1) = false := by simp; omega
  have e4 : (kind == 4) = false := by simp; omega
  have e5 : (kind == 5) = false := by simp; omega
  clear h1 h4 h5
  go_enter Tryz.func78, Tryz.ntmps78
  go_wp2_with fail
  go_ret2
  rw [HN.out]
  exact ⟨rfl, HH.out, Below.refl _ _⟩
open Go.RowKit Go.Proofs.Herald
/-- What block gives back, of a reader with fewer than n words left, up to a closing brace; blk: as the plain function has it. -/
def BlkSaid (t : ByteArray) (n : Nat) (blk : RSt → Bool × RSt) : Prop :=
  ∀ (B R : Nat) (sv : Value) (st : RSt) (w : World), st.us.length < n → 0 ≤ st.deep → st.deep + (st.us.length : Int) ≤ 900 → st.fl.length + st.us.length ≤ 400 → 0 ≤ st.heavy → st.heavy ≤ 65 → RdAt t B w R sv st →
    Calls Tryz.prog 44 #[.pointer (some ⟨R, 0, none⟩), .string ⟨#[125]⟩] w fun e w' => e = .returned (.bool (blk st).1) ∧ (∃ sv', RdAt t B w' R sv' (blk st).2) ∧ Below B w w' ∧ ((blk st).1 = true → Keeps st (blk st).2) ∧ Grows st (blk st).2
theorem own_value {w : World} {B : Nat} {e : TypeId} {size : Nat} {v : Value} {n : Nat} {xs : List Value} (h : w.ownsRow B e size v n xs) : ∃ a cap, v = .slice a n cap := by
  rcases h.2 with ⟨rfl, h0⟩ | ⟨g, cap, cur, rfl, _⟩
  · exact ⟨none, 0, by rw [h0]⟩
  · exact ⟨_, _, rfl⟩
set_option maxHeartbeats 2000000 in
theorem c_braced (t : ByteArray) (ht : t.size ≤ 400) (n : Nat) (blk : RSt → Bool × RSt) (hblk : BlkSaid t n blk) (B R : Nat) (sv : Value) (st : RSt) (w : World) (h : RdAt t B w R sv st)
    (hn : st.us.length ≤ n) (hd0 : 0 ≤ st.deep) (hd : st.deep + (st.us.length : Int) ≤ 900) (hm : st.fl.length + st.us.length ≤ 400) (hh0 : 0 ≤ st.heavy) (hh : st.heavy ≤ 65) :
    Calls Tryz.prog 91 #[.pointer (some ⟨R, 0, none⟩)] w fun e w' =>
      e = .returned (.tuple #[.int .i64 ((bracedR t blk st).1 : Nat), .bool (bracedR t blk st).2.1]) ∧ (∃ sv', RdAt t B w' R sv' (bracedR t blk st).2.2) ∧ Below B w w' ∧ ((bracedR t blk st).2.1 = true → Keeps st (bracedR t blk st).2.2 ∧ (bracedR t blk st).2.2.us.length < st.us.length) ∧ Grows st (bracedR t blk st).2.2 := by
  have c1 : w.cell? ⟨R, 1, none⟩ = some (.string (wordR t st.us)) := (cell_of_heap h.blk).trans rfl
  have c2 : w.cell? ⟨R, 2, none⟩ = some (.int .i64 (atR t st.us : Nat)) := (cell_of_heap h.blk).trans rfl
  have c4 : w.cell? ⟨R, 4, none⟩ = some (.int .i64 st.deep) := (cell_of_heap h.blk).trans rfl
  have HH : Hid (RdAt t B w R sv st) := h
  obtain ⟨s, hs⟩ : ∃ s, s = wordR t st.us := ⟨_, rfl⟩
  have hby : bytesR t st = s.data.toList := by rw [hs]; rfl
  rw [← hs] at c1
  by_cases ho : s.data.toList = kOpen
  · have e0 : (s.toList == [123]) = true := beq_yes ho
    obtain ⟨a, cap, hsv⟩ := own_value h.own
    subst hsv
    have hpos : 0 < st.us.length := by
      cases hu : st.us with
      | nil =>
        exfalso
        rw [hs, hu] at ho
        have he : (wordR t []).data.toList = [] := rfl
        rw [he] at ho
        exact absurd ho (by decide)
      | cons p q => simp
    have hft : st.fl.length ≤ 400 := by omega
    have hbr : bytesR t st = kOpen := by rw [hby]; exact ho
    clear ho hby hs h
    by_cases hdp : 4 ≤ st.deep
    · obtain ⟨r, hR⟩ : ∃ r, r = blk (advR { (noteR st 4 (atR t st.us : Nat)) with deep := (noteR st 4 (atR t st.us : Nat)).deep + 1 }) := ⟨_, rfl⟩
      have HN : Hid (bracedR t blk st = if r.1 then (r.2.fl.length - st.fl.length, true, advR { r.2 with deep := r.2.deep - 1 }) else (0, false, r.2)) := by
        show _ = _
        unfold bracedR
        rw [if_neg (by rw [hbr]; simp), hR, if_pos hdp]
      have HS : Hid (_ ∧ _ ∧ _ ∧ _) := noteR_keeps st 4 (atR t st.us : Nat)
      have HP : Hid ((advR { (noteR st 4 (atR t st.us : Nat)) with deep := (noteR st 4 (atR t st.us : Nat)).deep + 1 }).us.length < n ∧ 0 ≤ (noteR st 4 (atR t st.us : Nat)).deep + 1 ∧ (noteR st 4 (atR t st.us : Nat)).deep + 1 + ((advR { (noteR st 4 (atR t st.us : Nat)) with deep := (noteR st 4 (atR t st.us : Nat)).deep + 1 }).us.length : Int) ≤ 900 ∧
          (noteR st 4 (atR t st.us : Nat)).fl.length + (advR { (noteR st 4 (atR t st.us : Nat)) with deep := (noteR st 4 (atR t st.us : Nat)).deep + 1 }).us.length ≤ 400 ∧ 0 ≤ (noteR st 4 (atR t st.us : Nat)).heavy ∧ (noteR st 4 (atR t st.us : Nat)).heavy ≤ 65) := by
        show _ ∧ _
        simp only [advR, List.length_tail]
        rw [HS.out.1, HS.out.2.1, HS.out.2.2.1, HS.out.2.2.2]
        omega
      clear hbr
      go_enter Tryz.func91, Tryz.ntmps91
      go_wp2_with fail
      refine (c_note t B R _ st 4 (atR t st.us : Nat) _ HH.out).mono ?_
      rintro e w1 ⟨rfl, h1, b1⟩
      have HH1 : Hid (RdAt t B w1 R (.slice a st.fl.length cap) (noteR st 4 (atR t st.us : Nat))) := h1
      have HB1 : Hid (Below B w w1) := b1
      clear h1 b1
      have c3 : w1.cell? ⟨R, 3, none⟩ = some (.slice a st.fl.length cap) := by rw [cell_of_heap HH1.out.blk]; rfl
      have c4 : w1.cell? ⟨R, 4, none⟩ = some (.int .i64 st.deep) := by rw [cell_of_heap HH1.out.blk]; show some (Value.int .i64 (noteR st 4 (atR t st.us : Nat)).deep) = _; rw [HS.out.1]
      have z4 : w1.frozen? ⟨R, 4, none⟩ = false := free_of_heap HH1.out.blk
      have HRD : Hid (RdAt t B (w1.setCell ⟨R, 4, none⟩ (.int .i64 (st.deep + 1))) R (.slice a st.fl.length cap) { (noteR st 4 (atR t st.us : Nat)) with deep := (noteR st 4 (atR t st.us : Nat)).deep + 1 }) := HH1.out.set 4 _ rfl HH1.out.suf (by rw [HS.out.1]; rfl)
      go_wp2_with fail
      refine (c_advance t ht B R _ _ _ HRD.out).mono ?_
      rintro e w2 ⟨rfl, h2, b2⟩
      have H2 : Hid (_ ∧ _) := And.intro h2 b2
      clear h2 b2 c3 c4 z4
      go_wp2_with fail
      refine (hblk B R _ (advR { (noteR st 4 (atR t st.us : Nat)) with deep := (noteR st 4 (atR t st.us : Nat)).deep + 1 }) _ HP.out.1 HP.out.2.1 HP.out.2.2.1 HP.out.2.2.2.1 HP.out.2.2.2.2.1 HP.out.2.2.2.2.2 H2.out.1).mono ?_
      rw [← hR]
      clear hR
      rintro e w3 ⟨rfl, ⟨sv3, h3⟩, b3, k3, g3⟩
      have HBW : Hid (Below B w w3) := HB1.out.trans (((Below.refl B w1).setCell (p := ⟨R, 4, none⟩) HH1.out.le _).trans (H2.out.2.trans b3))
      have HG3 : Hid (Grows st r.2) := by
        obtain ⟨g1, g2⟩ := g3
        simp only [advR, List.length_tail] at g1 g2
        first | (rw [HS.out.2.2.1] at g1 g2; rw [HS.out.2.2.2] at g2; exact ⟨g1, by omega⟩) | exact ⟨g1, by omega⟩
      clear g3
      obtain ⟨a3, cap3, hsv3⟩ := own_value h3.own
      rw [hsv3] at h3
      have H3 : Hid (RdAt t B w3 R (.slice a3 r.2.fl.length cap3) r.2) := h3
      clear h3 b3 hsv3
      cases hr1 : r.1 with
      | false =>
        have HN2 : Hid (bracedR t blk st = (0, false, r.2)) := HN.out.trans (if_neg (by rw [hr1]; simp))
        clear k3 hr1
        go_wp2_with fail
        go_ret2
        rw [HN2.out]
        exact ⟨rfl, ⟨_, H3.out⟩, HBW.out, fun h => absurd h (by simp), HG3.out⟩
      | true =>
        have HN2 : Hid (bracedR t blk st = (r.2.fl.length - st.fl.length, true, advR { r.2 with deep := r.2.deep - 1 })) := HN.out.trans (if_pos hr1)
        have kk := k3 hr1
        have kd : r.2.deep = st.deep + 1 := by rw [kk.deep]; show (noteR st 4 (atR t st.us : Nat)).deep + 1 = _; rw [HS.out.1]
        have kg : st.fl.length ≤ r.2.fl.length := by have := kk.grows; simp only [advR] at this; rw [HS.out.2.2.1] at this; exact this
        have km := kk.mass
        have kl := kk.less
        simp only [advR] at km kl
        rw [HS.out.2.2.1, HS.out.2.2.2] at km
        rw [HS.out.2.2.2] at kl
        have kb : r.2.fl.length ≤ 400 := by simp only [List.length_tail] at km; omega
        have kh : r.2.heavy = st.heavy := by rw [kk.heavy]; exact HS.out.2.1
        have d4 : w3.cell? ⟨R, 4, none⟩ = some (.int .i64 (st.deep + 1)) := by rw [cell_of_heap H3.out.blk]; show some (Value.int .i64 r.2.deep) = _; rw [kd]
        have z4 : w3.frozen? ⟨R, 4, none⟩ = false := free_of_heap H3.out.blk
        have HRD3 : Hid (RdAt t B (w3.setCell ⟨R, 4, none⟩ (.int .i64 st.deep)) R (.slice a3 r.2.fl.length cap3) { r.2 with deep := r.2.deep - 1 }) := H3.out.set 4 _ rfl H3.out.suf (by rw [kd, show st.deep + 1 - 1 = st.deep from by omega]; rfl)
        have HKP : Hid (Keeps st (advR { r.2 with deep := r.2.deep - 1 }) ∧ (advR { r.2 with deep := r.2.deep - 1 }).us.length < st.us.length) := by
          simp only [List.length_tail] at km kl
          refine ⟨⟨?_, kh, kg, ?_, ?_⟩, ?_⟩
          · show r.2.deep - 1 = _; omega
          · show r.2.fl.length + r.2.us.tail.length ≤ _; rw [List.length_tail]; omega
          · show r.2.us.tail.length ≤ _; rw [List.length_tail]; omega
          · show r.2.us.tail.length < _; rw [List.length_tail]; omega
        have HKD : Hid (r.2.deep = st.deep + 1) := kd
        clear k3 hr1 kk kd km kl kh
        go_wp2_with fail
        refine (c_advance t ht B R _ _ _ HRD3.out).mono ?_
        rintro e w4 ⟨rfl, h4, b4⟩
        have e3 : w4.cell? ⟨R, 3, none⟩ = some (.slice a3 r.2.fl.length cap3) := by rw [cell_of_heap h4.blk]; rfl
        have H4 : Hid (_ ∧ _) := And.intro h4 b4
        clear h4 b4 d4 z4
        go_wp2_with fail
        go_ret2
        rw [HN2.out]
        refine ⟨ret_ib (a := (r.2.fl.length : Int) - (st.fl.length : Int)) (by show _ = ((r.2.fl.length - st.fl.length : Nat) : Int); omega) rfl, ⟨_, H4.out.1⟩, ?_, fun _ => HKP.out, HKP.out.1.grown⟩
        exact HBW.out.trans (((Below.refl B w3).setCell (p := ⟨R, 4, none⟩) H3.out.le _).trans H4.out.2)
    · obtain ⟨r, hR⟩ : ∃ r, r = blk (advR { st with deep := st.deep + 1 }) := ⟨_, rfl⟩
      have HN : Hid (bracedR t blk st = if r.1 then (r.2.fl.length - st.fl.length, true, advR { r.2 with deep := r.2.deep - 1 }) else (0, false, r.2)) := by
        show _ = _
        unfold bracedR
        rw [if_neg (by rw [hbr]; simp), hR, if_neg hdp]
      have HS : Hid (st.deep = st.deep ∧ st.heavy = st.heavy ∧ st.fl = st.fl ∧ st.us = st.us) := ⟨rfl, rfl, rfl, rfl⟩
      have HP : Hid ((advR { st with deep := st.deep + 1 }).us.length < n ∧ 0 ≤ st.deep + 1 ∧ st.deep + 1 + ((advR { st with deep := st.deep + 1 }).us.length : Int) ≤ 900 ∧ st.fl.length + (advR { st with deep := st.deep + 1 }).us.length ≤ 400 ∧ 0 ≤ st.heavy ∧ st.heavy ≤ 65) := by
        show _ ∧ _
        simp only [advR, List.length_tail]
        omega
      have hdp' : st.deep < 4 := by omega
      clear hbr hdp
      go_enter Tryz.func91, Tryz.ntmps91
      have c3 : w.cell? ⟨R, 3, none⟩ = some (.slice a st.fl.length cap) := by rw [cell_of_heap HH.out.blk]; rfl
      have c4 : w.cell? ⟨R, 4, none⟩ = some (.int .i64 st.deep) := by rw [cell_of_heap HH.out.blk]; show some (Value.int .i64 (st).deep) = _; rw [HS.out.1]
      have z4 : w.frozen? ⟨R, 4, none⟩ = false := free_of_heap HH.out.blk
      have HRD : Hid (RdAt t B (w.setCell ⟨R, 4, none⟩ (.int .i64 (st.deep + 1))) R (.slice a st.fl.length cap) { (st) with deep := (st).deep + 1 }) := HH.out.set 4 _ rfl HH.out.suf (by rw [HS.out.1]; rfl)
      go_wp2_with fail
      refine (c_advance t ht B R _ _ _ HRD.out).mono ?_
      rintro e w2 ⟨rfl, h2, b2⟩
      have H2 : Hid (_ ∧ _) := And.intro h2 b2
      clear h2 b2 c3 c4 z4
      go_wp2_with fail
      refine (hblk B R _ (advR { (st) with deep := (st).deep + 1 }) _ HP.out.1 HP.out.2.1 HP.out.2.2.1 HP.out.2.2.2.1 HP.out.2.2.2.2.1 HP.out.2.2.2.2.2 H2.out.1).mono ?_
      rw [← hR]
      clear hR
      rintro e w3 ⟨rfl, ⟨sv3, h3⟩, b3, k3, g3⟩
      have HBW : Hid (Below B w w3) := (Below.refl B w).trans (((Below.refl B w).setCell (p := ⟨R, 4, none⟩) HH.out.le _).trans (H2.out.2.trans b3))
      have HG3 : Hid (Grows st r.2) := by
        obtain ⟨g1, g2⟩ := g3
        simp only [advR, List.length_tail] at g1 g2
        first | (rw [HS.out.2.2.1] at g1 g2; rw [HS.out.2.2.2] at g2; exact ⟨g1, by omega⟩) | exact ⟨g1, by omega⟩
      clear g3
      obtain ⟨a3, cap3, hsv3⟩ := own_value h3.own
      rw [hsv3] at h3
      have H3 : Hid (RdAt t B w3 R (.slice a3 r.2.fl.length cap3) r.2) := h3
      clear h3 b3 hsv3
      cases hr1 : r.1 with
      | false =>
        have HN2 : Hid (bracedR t blk st = (0, false, r.2)) := HN.out.trans (if_neg (by rw [hr1]; simp))
        clear k3 hr1
        go_wp2_with fail
        go_ret2
        rw [HN2.out]
        exact ⟨rfl, ⟨_, H3.out⟩, HBW.out, fun h => absurd h (by simp), HG3.out⟩
      | true =>
        have HS : Hid (st.deep = st.deep ∧ st.heavy = st.heavy ∧ st.fl = st.fl ∧ st.us = st.us) := ⟨rfl, rfl, rfl, rfl⟩
        have HN2 : Hid (bracedR t blk st = (r.2.fl.length - st.fl.length, true, advR { r.2 with deep := r.2.deep - 1 })) := HN.out.trans (if_pos hr1)
        have kk := k3 hr1
        have kd : r.2.deep = st.deep + 1 := by rw [kk.deep]; show (st).deep + 1 = _; rw [HS.out.1]
        have kg : st.fl.length ≤ r.2.fl.length := by have := kk.grows; simp only [advR] at this; rw [HS.out.2.2.1] at this; exact this
        have km := kk.mass
        have kl := kk.less
        simp only [advR] at km kl
        rw [HS.out.2.2.1, HS.out.2.2.2] at km
        rw [HS.out.2.2.2] at kl
        have kb : r.2.fl.length ≤ 400 := by simp only [List.length_tail] at km; omega
        have kh : r.2.heavy = st.heavy := by rw [kk.heavy]; exact HS.out.2.1
        have d4 : w3.cell? ⟨R, 4, none⟩ = some (.int .i64 (st.deep + 1)) := by rw [cell_of_heap H3.out.blk]; show some (Value.int .i64 r.2.deep) = _; rw [kd]
        have z4 : w3.frozen? ⟨R, 4, none⟩ = false := free_of_heap H3.out.blk
        have HRD3 : Hid (RdAt t B (w3.setCell ⟨R, 4, none⟩ (.int .i64 st.deep)) R (.slice a3 r.2.fl.length cap3) { r.2 with deep := r.2.deep - 1 }) := H3.out.set 4 _ rfl H3.out.suf (by rw [kd, show st.deep + 1 - 1 = st.deep from by omega]; rfl)
        have HKP : Hid (Keeps st (advR { r.2 with deep := r.2.deep - 1 }) ∧ (advR { r.2 with deep := r.2.deep - 1 }).us.length < st.us.length) := by
          simp only [List.length_tail] at km kl
          refine ⟨⟨?_, kh, kg, ?_, ?_⟩, ?_⟩
          · show r.2.deep - 1 = _; omega
          · show r.2.fl.length + r.2.us.tail.length ≤ _; rw [List.length_tail]; omega
          · show r.2.us.tail.length ≤ _; rw [List.length_tail]; omega
          · show r.2.us.tail.length < _; rw [List.length_tail]; omega
        have HKD : Hid (r.2.deep = st.deep + 1) := kd
        clear k3 hr1 kk kd km kl kh
        go_wp2_with fail
        refine (c_advance t ht B R _ _ _ HRD3.out).mono ?_
        rintro e w4 ⟨rfl, h4, b4⟩
        have e3 : w4.cell? ⟨R, 3, none⟩ = some (.slice a3 r.2.fl.length cap3) := by rw [cell_of_heap h4.blk]; rfl
        have H4 : Hid (_ ∧ _) := And.intro h4 b4
        clear h4 b4 d4 z4
        go_wp2_with fail
        go_ret2
        rw [HN2.out]
        refine ⟨ret_ib (a := (r.2.fl.length : Int) - (st.fl.length : Int)) (by show _ = ((r.2.fl.length - st.fl.length : Nat) : Int); omega) rfl, ⟨_, H4.out.1⟩, ?_, fun _ => HKP.out, HKP.out.1.grown⟩
        exact HBW.out.trans (((Below.refl B w3).setCell (p := ⟨R, 4, none⟩) H3.out.le _).trans H4.out.2)
  · have HN : Hid (bracedR t blk st = (0, false, st)) := by show _ = _; unfold bracedR; rw [if_pos (by rw [hby]; exact ho)]
    have e0 : (s.toList == [123]) = false := beq_no ho
    clear ho hby hs h
    go_enter Tryz.func91, Tryz.ntmps91
    go_wp2_with fail
    go_ret2
    rw [HN.out]
    exact ⟨rfl, ⟨sv, HH.out⟩, Below.refl _ _, fun h => absurd h (by simp), Grows.refl _⟩
open Go.RowKit Go.Proofs.Herald
theorem ndsCells_cons (x : Nd) (r : List Nd) : ndsCells (x :: r) = ndCells x ++ ndsCells r := by simp [ndsCells]
theorem ndsCells_setBody : ∀ (l : List Nd) (i k : Nat), i < l.length → ndsCells (setBody l i k) = (ndsCells l).set (i * 6 + 4) (.int .i64 (k : Nat)) := by
  intro l
  induction l with
  | nil => intro i k hi; simp at hi
  | cons x r ih =>
    intro i k hi
    cases i with
    | zero =>
      have e : setBody (x :: r) 0 k = { x with body := k } :: r := by simp [setBody]
      rw [e, ndsCells_cons, ndsCells_cons, List.set_append_left _ _ (by show 0 * 6 + 4 < 6; omega)]
      rfl
    | succ i =>
      have e : setBody (x :: r) (i + 1) k = x :: setBody r i k := by simp [setBody]
      have h6 : (ndCells x).length = 6 := rfl
      rw [e, ndsCells_cons, ndsCells_cons, ih i k (by simpa using hi), List.set_append_right _ _ (by omega), h6, show (i + 1) * 6 + 4 - 6 = i * 6 + 4 from by omega]
theorem ndsCells_setEls : ∀ (l : List Nd) (i k : Nat), i < l.length → ndsCells (setEls l i k) = (ndsCells l).set (i * 6 + 5) (.int .i64 (k : Nat)) := by
  intro l
  induction l with
  | nil => intro i k hi; simp at hi
  | cons x r ih =>
    intro i k hi
    cases i with
    | zero =>
      have e : setEls (x :: r) 0 k = { x with els := k } :: r := by simp [setEls]
      rw [e, ndsCells_cons, ndsCells_cons, List.set_append_left _ _ (by show 0 * 6 + 5 < 6; omega)]
      rfl
    | succ i =>
      have e : setEls (x :: r) (i + 1) k = x :: setEls r i k := by simp [setEls]
      have h6 : (ndCells x).length = 6 := rfl
      rw [e, ndsCells_cons, ndsCells_cons, ih i k (by simpa using hi), List.set_append_right _ _ (by omega), h6, show (i + 1) * 6 + 5 - 6 = i * 6 + 5 from by omega]
/-- A cell of an owned row is written. -/
theorem ownsRow_set {w : World} {B : Nat} {e : TypeId} {size n g cap : Nat} {xs : List Value} (h : w.ownsRow B e size (.slice (some ⟨g, 0, none⟩) n cap) n xs) (p : Nat) (v : Value) :
    (w.setCell ⟨g, p, none⟩ v).ownsRow B e size (.slice (some ⟨g, 0, none⟩) n cap) n (xs.set p v) := by
  refine ⟨by rw [List.length_set]; exact h.1, .inr ?_⟩
  rcases h.2 with ⟨h1, _⟩ | ⟨g', cap', cur, hv, hb, hg, hn, hm, hs, ht⟩
  · cases h1
  · simp at hv
    obtain ⟨rfl, rfl⟩ := hv
    refine ⟨g, cap, cur.setIfInBounds p v, rfl, hb, heap_setCell_self v hg, hn, hm, by simpa using hs, ?_⟩
    rw [Array.toList_setIfInBounds, List.take_set, ht]
theorem RdAt.row {t : ByteArray} {B : Nat} {w : World} {R g cap : Nat} {st : RSt} (h : RdAt t B w R (.slice (some ⟨g, 0, none⟩) st.fl.length cap) st) (p : Nat) (v : Value) (fl' : List Nd) (hl : fl'.length = st.fl.length) (hc : ndsCells fl' = (ndsCells st.fl).set p v) :
    RdAt t B (w.setCell ⟨g, p, none⟩ v) R (.slice (some ⟨g, 0, none⟩) st.fl.length cap) { st with fl := fl' } := by
  obtain ⟨hB, cur, hg⟩ := ownsRow_block h.own (k := g) rfl
  refine ⟨h.le, by rw [Below.heap_setCell _ _ _ _ (ne_of_type h.blk hg (by decide))]; exact h.blk, ?_, h.suf⟩
  show World.ownsRow _ B _ 6 _ fl'.length (ndsCells fl')
  rw [hl, hc]
  exact ownsRow_set h.own p v
/-- The row's cells, where the statements' counts lie. -/
theorem RdAt.cellAt {t : ByteArray} {B : Nat} {w : World} {R : Nat} {sv : Value} {st : RSt} (h : RdAt t B w R sv st) (i : Nat) (hi : i < st.fl.length) :
    ∃ g cap, sv = .slice (some ⟨g, 0, none⟩) st.fl.length cap ∧ B ≤ g ∧ st.fl.length ≤ cap ∧ w.cell? ⟨g, i * 6 + 4, none⟩ = some (.int .i64 (st.fl[i].body : Nat)) ∧ w.cell? ⟨g, i * 6 + 5, none⟩ = some (.int .i64 (st.fl[i].els : Nat)) ∧
      w.frozen? ⟨g, i * 6 + 4, none⟩ = false ∧ w.frozen? ⟨g, i * 6 + 5, none⟩ = false := by
  rcases h.own.2 with ⟨_, h0⟩ | ⟨g, cap, cur, hv, hb, hg, hn, _⟩
  · omega
  · have hc := h.own.cells (g := g) (by rw [hv]; rfl)
    have k4 := hc (i * 6 + 4) (.int .i64 (st.fl[i].body : Nat)) (by rw [ndsCells_get _ i hi 4 (by omega)]; rfl)
    have k5 := hc (i * 6 + 5) (.int .i64 (st.fl[i].els : Nat)) (by rw [ndsCells_get _ i hi 5 (by omega)]; rfl)
    rw [Addr.add_lit, Nat.zero_add] at k4 k5
    exact ⟨g, cap, hv, hb, hn, k4, k5, free_of_heap hg, free_of_heap hg⟩
open Go.RowKit Go.Proofs.Herald
theorem setBody_length (l : List Nd) (i k : Nat) : (setBody l i k).length = l.length := by simp [setBody]
theorem setEls_length (l : List Nd) (i k : Nat) : (setEls l i k).length = l.length := by simp [setEls]
set_option maxHeartbeats 2000000 in
theorem c_branches (t : ByteArray) (ht : t.size ≤ 400) (n : Nat) (blk : RSt → Bool × RSt) (hblk : BlkSaid t n blk) (B R : Nat) (sv : Value) (st : RSt) (i : Nat) (w : World) (h : RdAt t B w R sv st)
    (hn : st.us.length ≤ n) (hd0 : 0 ≤ st.deep) (hd : st.deep + (st.us.length : Int) ≤ 900) (hm : st.fl.length + st.us.length ≤ 400) (hh0 : 0 ≤ st.heavy) (hh : st.heavy ≤ 65) (hi : i < st.fl.length) :
    Calls Tryz.prog 80 #[.pointer (some ⟨R, 0, none⟩), .int .i64 (i : Nat)] w fun e w' =>
      e = .returned (.bool (branchesR t blk st i).1) ∧ (∃ sv', RdAt t B w' R sv' (branchesR t blk st i).2) ∧ Below B w w' ∧ ((branchesR t blk st i).1 = true → Keeps st (branchesR t blk st i).2) ∧ Grows st (branchesR t blk st i).2 := by
  obtain ⟨a, ha⟩ : ∃ a, a = bracedR t blk st := ⟨_, rfl⟩
  have hcb := c_braced t ht n blk hblk B R sv st w h hn hd0 hd hm hh0 hh
  rw [← ha] at hcb
  have HCB : Hid (Calls _ _ _ _ _) := hcb
  have hN0 : branchesR t blk st i = if a.2.1 then (if bytesR t { a.2.2 with fl := setBody a.2.2.fl i a.1 } = kElse then ((bracedR t blk (advR { a.2.2 with fl := setBody a.2.2.fl i a.1 })).2.1, { (bracedR t blk (advR { a.2.2 with fl := setBody a.2.2.fl i a.1 })).2.2 with fl := setEls (bracedR t blk (advR { a.2.2 with fl := setBody a.2.2.fl i a.1 })).2.2.fl i (bracedR t blk (advR { a.2.2 with fl := setBody a.2.2.fl i a.1 })).1 }) else (true, { a.2.2 with fl := setBody a.2.2.fl i a.1 })) else (false, a.2.2) := by
    unfold branchesR; rw [ha]
  have HN0 : Hid (_ = _) := hN0
  clear hcb ha hN0 h
  go_enter Tryz.func80, Tryz.ntmps80
  go_wp2_with fail
  refine HCB.out.mono ?_
  rintro e w1 ⟨rfl, ⟨sv1, h1⟩, b1, k1, g1⟩
  cases hr : a.2.1 with
  | false =>
    have HN : Hid (branchesR t blk st i = (false, a.2.2)) := HN0.out.trans (if_neg (by rw [hr]; simp))
    have HP : Hid (_ ∧ _ ∧ _) := And.intro h1 (And.intro b1 g1)
    clear hr k1 h1 b1 g1 HCB HN0
    go_wp2_with fail
    go_ret
    rw [HN.out]
    exact ⟨rfl, ⟨_, HP.out.1⟩, HP.out.2.1, fun h => absurd h (by simp), HP.out.2.2⟩
  | true =>
    obtain ⟨k1, k1u⟩ := k1 hr
    have HN1 : Hid (_ = _) := HN0.out.trans (if_pos hr)
    obtain ⟨C, hC⟩ : ∃ C, C = a.1 := ⟨_, rfl⟩
    obtain ⟨A, hA⟩ : ∃ A, A = a.2.2 := ⟨_, rfl⟩
    rw [← hC, ← hA] at HN1
    rw [← hA] at h1 g1 k1 k1u
    have hiA : i < A.fl.length := Nat.lt_of_lt_of_le hi g1.1
    obtain ⟨g, cap, hsv, hBg, hcap, c4, c5, z4, z5⟩ := h1.cellAt i hiA
    rw [hsv] at h1
    have hgR : g ≠ R := by obtain ⟨_, cur, hg⟩ := ownsRow_block h1.own (k := g) rfl; exact ne_of_type hg h1.blk (by decide)
    have d3 : w1.cell? ⟨R, 3, none⟩ = some (.slice (some ⟨g, 0, none⟩) A.fl.length cap) := by rw [cell_of_heap h1.blk]; rfl
    have d1 : w1.cell? ⟨R, 1, none⟩ = some (.string (wordR t A.us)) := by rw [cell_of_heap h1.blk]; rfl
    have hl400 : A.fl.length ≤ 400 := by have := g1.2; omega
    have H2 : Hid (RdAt t B (w1.setCell ⟨g, i * 6 + 4, none⟩ (.int .i64 (C : Nat))) R (.slice (some ⟨g, 0, none⟩) A.fl.length cap) { A with fl := setBody A.fl i C }) := h1.row (i * 6 + 4) _ _ (setBody_length _ _ _) (ndsCells_setBody _ _ _ hiA)
    have HB2 : Hid (Below B w (w1.setCell ⟨g, i * 6 + 4, none⟩ (.int .i64 (C : Nat)))) := b1.setCell (p := ⟨g, i * 6 + 4, none⟩) hBg _
    obtain ⟨s, hs⟩ : ∃ s, s = wordR t A.us := ⟨_, rfl⟩
    have hby : bytesR t { A with fl := setBody A.fl i C } = s.data.toList := by rw [hs]; rfl
    rw [← hs] at d1
    have HK : Hid (Keeps st { A with fl := setBody A.fl i C }) := ⟨k1.deep, k1.heavy, by show _ ≤ (setBody A.fl i C).length; rw [setBody_length]; exact k1.grows, by show (setBody A.fl i C).length + _ ≤ _; rw [setBody_length]; exact k1.mass, k1.less⟩
    rw [← hC]
    clear hr HN0 HCB h1 b1 k1 hs hsv hC hA g1
    by_cases he : s.data.toList = kElse
    · have HN2 : Hid (_ = _) := HN1.out.trans (if_pos (by rw [hby]; exact he))
      have e0 : (s.toList == [101, 108, 115, 101]) = true := beq_yes he
      have hne : (s.toList != [101, 108, 115, 101]) = false := by simp [bne, e0]
      clear he hby HN1
      go_wp2_with fail
      refine (c_advance t ht B R _ _ _ H2.out).mono ?_
      rintro e w2 ⟨rfl, h2, b2⟩
      obtain ⟨D, hD⟩ : ∃ D, D = advR { A with fl := setBody A.fl i C } := ⟨_, rfl⟩
      rw [← hD] at h2 HN2
      have hDl : D.fl.length = A.fl.length ∧ D.us.length ≤ A.us.length ∧ D.deep = A.deep ∧ D.heavy = A.heavy ∧ A.us.length < st.us.length := by
        rw [hD]; exact ⟨setBody_length _ _ _, by show A.us.tail.length ≤ _; rw [List.length_tail]; omega, rfl, rfl, k1u⟩
      obtain ⟨q1, q2, q3, q4, q5⟩ := hDl
      have hKm := HK.out.mass
      have hKl := HK.out.less
      have hKd := HK.out.deep
      have hKh := HK.out.heavy
      simp only [setBody_length] at hKm hKl hKd hKh
      have HKD : Hid (Keeps st D) := ⟨by rw [q3, hKd], by rw [q4, hKh], by have := HK.out.grows; simp only [setBody_length] at this; omega, by omega, by omega⟩
      have hcb := c_braced t ht n blk hblk B R _ D w2 h2 (by omega) (by omega) (by omega) (by omega) (by omega) (by omega)
      obtain ⟨b, hb⟩ : ∃ b, b = bracedR t blk D := ⟨_, rfl⟩
      rw [← hb] at hcb HN2
      have HCB : Hid (Calls _ _ _ _ _) := hcb
      have HB3 : Hid (Below B w w2) := HB2.out.trans b2
      clear hcb hb hD h2 b2 hKm hKl hKd hKh
      go_wp2_with fail
      refine HCB.out.mono ?_
      rintro e w3 ⟨rfl, ⟨sv3, h3⟩, b3, k3, g3⟩
      have hi3 : i < b.2.2.fl.length := by have := g3.1; omega
      obtain ⟨g', cap', hsv', hBg', hcap', c4', c5', z4', z5'⟩ := h3.cellAt i hi3
      rw [hsv'] at h3
      have d3' : w3.cell? ⟨R, 3, none⟩ = some (.slice (some ⟨g', 0, none⟩) b.2.2.fl.length cap') := by rw [cell_of_heap h3.blk]; rfl
      have hl3 : b.2.2.fl.length ≤ 400 := by have := g3.2; have := HKD.out.mass; omega
      have H4 : Hid (RdAt t B (w3.setCell ⟨g', i * 6 + 5, none⟩ (.int .i64 (b.1 : Nat))) R (.slice (some ⟨g', 0, none⟩) b.2.2.fl.length cap') { b.2.2 with fl := setEls b.2.2.fl i b.1 }) := h3.row (i * 6 + 5) _ _ (setEls_length _ _ _) (ndsCells_setEls _ _ _ hi3)
      have HB4 : Hid (Below B w (w3.setCell ⟨g', i * 6 + 5, none⟩ (.int .i64 (b.1 : Nat)))) := (HB3.out.trans b3).setCell (p := ⟨g', i * 6 + 5, none⟩) hBg' _
      have HK3 : Hid ((b.2.1 = true → Keeps D b.2.2 ∧ b.2.2.us.length < D.us.length) ∧ Grows D b.2.2) := ⟨k3, g3⟩
      clear HCB h3 b3 k3 g3 hsv'
      go_wp2_with fail
      go_ret
      rw [HN2.out]
      refine ⟨rfl, ⟨_, H4.out⟩, HB4.out, fun h => ?_, ?_⟩
      · have kk := HKD.out.trans (HK3.out.1 h).1
        exact ⟨kk.deep, kk.heavy, by show _ ≤ (setEls b.2.2.fl i b.1).length; rw [setEls_length]; exact kk.grows, by show (setEls b.2.2.fl i b.1).length + _ ≤ _; rw [setEls_length]; exact kk.mass, kk.less⟩
      · have gg := HKD.out.grown.trans HK3.out.2
        exact ⟨by show _ ≤ (setEls b.2.2.fl i b.1).length; rw [setEls_length]; exact gg.1, by show (setEls b.2.2.fl i b.1).length + _ ≤ _; rw [setEls_length]; exact gg.2⟩
    · have HN2 : Hid (_ = _) := HN1.out.trans (if_neg (by rw [hby]; exact he))
      have e0 : (s.toList == [101, 108, 115, 101]) = false := beq_no he
      have hne : (s.toList != [101, 108, 115, 101]) = true := by simp [bne, e0]
      clear he hby HN1
      go_wp2_with fail
      go_ret
      rw [HN2.out]
      exact ⟨rfl, ⟨_, H2.out⟩, HB2.out, fun _ => HK.out, HK.out.grown⟩
open Go.RowKit Go.Proofs.Herald
set_option maxHeartbeats 2000000 in
theorem c_repeated (t : ByteArray) (ht : t.size ≤ 400) (n : Nat) (blk : RSt → Bool × RSt) (hblk : BlkSaid t n blk) (B R : Nat) (sv : Value) (st : RSt) (i : Nat) (T p : Int) (w : World) (h : RdAt t B w R sv st)
    (hn : st.us.length ≤ n) (hd0 : 0 ≤ st.deep) (hd : st.deep + (st.us.length : Int) ≤ 900) (hm : st.fl.length + st.us.length ≤ 400) (hh0 : 0 ≤ st.heavy) (hh : st.heavy ≤ 65) (hi : i < st.fl.length) (hT0 : 0 ≤ T) (hT : T ≤ 9999) :
    Calls Tryz.prog 81 #[.pointer (some ⟨R, 0, none⟩), .int .i64 (i : Nat), .int .i64 T, .int .i64 p] w fun e w' =>
      e = .returned (.bool (repeatedR t blk st i T p).1) ∧ (∃ sv', RdAt t B w' R sv' (repeatedR t blk st i T p).2) ∧ Below B w w' ∧ ((repeatedR t blk st i T p).1 = true → Keeps st (repeatedR t blk st i T p).2) ∧ Grows st (repeatedR t blk st i T p).2 := by
  have c5 : w.cell? ⟨R, 5, none⟩ = some (.int .i64 st.heavy) := by rw [cell_of_heap h.blk]; rfl
  have z5 : w.frozen? ⟨R, 5, none⟩ = false := free_of_heap h.blk
  have hp0 : 0 ≤ st.heavy * T := Int.mul_nonneg hh0 hT0
  have hp1 : st.heavy * T ≤ 649935 := by
    have h1 : st.heavy * T ≤ 65 * T := Int.mul_le_mul_of_nonneg_right hh hT0
    omega
  obtain ⟨K, hK⟩ : ∃ K, K = Go.Proofs.Herald.heavierI st.heavy T := ⟨_, rfl⟩
  have hKb : 0 ≤ K ∧ K ≤ 65 := by rw [hK]; unfold Go.Proofs.Herald.heavierI; split <;> omega
  obtain ⟨hK0, hK65⟩ := hKb
  have HCH : Hid (∀ W, Calls Tryz.prog 92 #[.int .i64 st.heavy, .int .i64 T] W fun e w' => e = .returned (.int .i64 K) ∧ w' = W) := fun W => by
    rw [hK]; exact c_heavier st.heavy T W (by omega) (by omega)
  have H1 : Hid (RdAt t B (w.setCell ⟨R, 5, none⟩ (.int .i64 K)) R sv { st with heavy := K }) := h.set 5 _ rfl h.suf rfl
  have HH : Hid (RdAt t B w R sv st) := h
  have HB1 : Hid (Below B w (w.setCell ⟨R, 5, none⟩ (.int .i64 K))) := (Below.refl B w).setCell (p := ⟨R, 5, none⟩) h.le _
  by_cases h64 : 64 < K
  · obtain ⟨a, hA⟩ : ∃ a, a = bracedR t blk (noteR { st with heavy := K } 5 p) := ⟨_, rfl⟩
    have HN : Hid (repeatedR t blk st i T p = (a.2.1, { a.2.2 with fl := setBody a.2.2.fl i a.1, heavy := st.heavy })) := by
      show _ = _
      unfold repeatedR
      simp only [← hK]
      rw [if_pos h64, ← hA]
    have HS : Hid ((noteR { st with heavy := K } 5 p).deep = st.deep ∧ (noteR { st with heavy := K } 5 p).heavy = K ∧ (noteR { st with heavy := K } 5 p).fl = st.fl ∧ (noteR { st with heavy := K } 5 p).us = st.us) := noteR_keeps _ 5 p
    have HP : Hid ((noteR { st with heavy := K } 5 p).us.length ≤ n ∧ 0 ≤ (noteR { st with heavy := K } 5 p).deep ∧ (noteR { st with heavy := K } 5 p).deep + ((noteR { st with heavy := K } 5 p).us.length : Int) ≤ 900 ∧ (noteR { st with heavy := K } 5 p).fl.length + (noteR { st with heavy := K } 5 p).us.length ≤ 400 ∧ 0 ≤ (noteR { st with heavy := K } 5 p).heavy ∧ (noteR { st with heavy := K } 5 p).heavy ≤ 65) := by
      show _ ∧ _
      rw [HS.out.1, HS.out.2.1, HS.out.2.2.1, HS.out.2.2.2]
      omega
    clear hK h hp0 hp1
    go_enter Tryz.func81, Tryz.ntmps81
    go_wp2_with fail
    refine (HCH.out _).mono ?_
    rintro e w' ⟨rfl, hw'⟩
    rw [hw']
    clear hw' w'
    go_wp2_with fail
    refine (c_note t B R sv { st with heavy := K } 5 p _ H1.out).mono ?_
    rintro e w2 ⟨rfl, h2, b2⟩
    have H2 : Hid (RdAt t B w2 R sv (noteR { st with heavy := K } 5 p)) := h2
    have HB2 : Hid (Below B w w2) := HB1.out.trans b2
    clear h2 b2 c5 z5
    have hcb := c_braced t ht n blk hblk B R sv (noteR { st with heavy := K } 5 p) w2 H2.out HP.out.1 HP.out.2.1 HP.out.2.2.1 HP.out.2.2.2.1 HP.out.2.2.2.2.1 HP.out.2.2.2.2.2
    rw [← hA] at hcb
    have HCB : Hid (Calls _ _ _ _ _) := hcb
    clear hcb hA
    go_wp2_with fail
    refine HCB.out.mono ?_
    rintro e w3 ⟨rfl, ⟨sv3, h3⟩, b3, k3, g3⟩
    have hg1 : st.fl.length ≤ a.2.2.fl.length := by have := g3.1; rw [HS.out.2.2.1] at this; exact this
    have hg2 : a.2.2.fl.length + a.2.2.us.length ≤ st.fl.length + st.us.length := by have := g3.2; rw [HS.out.2.2.1, HS.out.2.2.2] at this; exact this
    have hi3 : i < a.2.2.fl.length := by omega
    obtain ⟨g', cap', hsv', hBg', hcap', c4', c5', z4', z5'⟩ := h3.cellAt i hi3
    rw [hsv'] at h3
    have hgR : g' ≠ R := by obtain ⟨_, cur, hg⟩ := ownsRow_block h3.own (k := g') rfl; exact ne_of_type hg h3.blk (by decide)
    have d3' : w3.cell? ⟨R, 3, none⟩ = some (.slice (some ⟨g', 0, none⟩) a.2.2.fl.length cap') := by rw [cell_of_heap h3.blk]; rfl
    have d5' : w3.cell? ⟨R, 5, none⟩ = some (.int .i64 a.2.2.heavy) := by rw [cell_of_heap h3.blk]; rfl
    have y5' : w3.frozen? ⟨R, 5, none⟩ = false := free_of_heap h3.blk
    have hl3 : a.2.2.fl.length ≤ 400 := by omega
    have h4 : RdAt t B (w3.setCell ⟨g', i * 6 + 4, none⟩ (.int .i64 (a.1 : Nat))) R (.slice (some ⟨g', 0, none⟩) a.2.2.fl.length cap') { a.2.2 with fl := setBody a.2.2.fl i a.1 } := h3.row (i * 6 + 4) _ _ (setBody_length _ _ _) (ndsCells_setBody _ _ _ hi3)
    have H5 : Hid (RdAt t B ((w3.setCell ⟨g', i * 6 + 4, none⟩ (.int .i64 (a.1 : Nat))).setCell ⟨R, 5, none⟩ (.int .i64 st.heavy)) R (.slice (some ⟨g', 0, none⟩) a.2.2.fl.length cap') { a.2.2 with fl := setBody a.2.2.fl i a.1, heavy := st.heavy }) := h4.set 5 _ rfl h4.suf rfl
    have HB5 : Hid (Below B w ((w3.setCell ⟨g', i * 6 + 4, none⟩ (.int .i64 (a.1 : Nat))).setCell ⟨R, 5, none⟩ (.int .i64 st.heavy))) := ((HB2.out.trans b3).setCell (p := ⟨g', i * 6 + 4, none⟩) hBg' _).setCell (p := ⟨R, 5, none⟩) h3.le _
    have HK3 : Hid ((a.2.1 = true → Keeps st { a.2.2 with fl := setBody a.2.2.fl i a.1, heavy := st.heavy }) ∧ Grows st { a.2.2 with fl := setBody a.2.2.fl i a.1, heavy := st.heavy }) := by
      refine ⟨fun hh => ⟨?_, rfl, ?_, ?_, ?_⟩, ?_, ?_⟩
      · show a.2.2.deep = _; rw [(k3 hh).1.deep]; exact HS.out.1
      · show _ ≤ (setBody a.2.2.fl i a.1).length; rw [setBody_length]; exact hg1
      · show (setBody a.2.2.fl i a.1).length + a.2.2.us.length ≤ _; rw [setBody_length]; exact hg2
      · show a.2.2.us.length ≤ _; have := (k3 hh).2; rw [HS.out.2.2.2] at this; omega
      · show _ ≤ (setBody a.2.2.fl i a.1).length; rw [setBody_length]; exact hg1
      · show (setBody a.2.2.fl i a.1).length + a.2.2.us.length ≤ _; rw [setBody_length]; exact hg2
    clear HCB h3 h4 b3 k3 g3 hsv'
    go_wp2_with fail
    go_ret
    rw [HN.out]
    exact ⟨rfl, ⟨_, H5.out⟩, HB5.out, HK3.out.1, HK3.out.2⟩
  · obtain ⟨a, hA⟩ : ∃ a, a = bracedR t blk { st with heavy := K } := ⟨_, rfl⟩
    have HN : Hid (repeatedR t blk st i T p = (a.2.1, { a.2.2 with fl := setBody a.2.2.fl i a.1, heavy := st.heavy })) := by
      show _ = _
      unfold repeatedR
      simp only [← hK]
      rw [if_neg h64, ← hA]
    have HP : Hid (st.us.length ≤ n ∧ 0 ≤ st.deep ∧ st.deep + (st.us.length : Int) ≤ 900 ∧ st.fl.length + st.us.length ≤ 400 ∧ 0 ≤ K ∧ K ≤ 65) := by show _ ∧ _; omega
    have h64' : K ≤ 64 := by omega
    clear hK h hp0 hp1 h64
    go_enter Tryz.func81, Tryz.ntmps81
    go_wp2_with fail
    refine (HCH.out _).mono ?_
    rintro e w' ⟨rfl, hw'⟩
    rw [hw']
    clear hw' w'
    have hcb := c_braced t ht n blk hblk B R sv ({ st with heavy := K }) _ H1.out HP.out.1 HP.out.2.1 HP.out.2.2.1 HP.out.2.2.2.1 HP.out.2.2.2.2.1 HP.out.2.2.2.2.2
    rw [← hA] at hcb
    have HCB : Hid (Calls _ _ _ _ _) := hcb
    clear hcb hA
    go_wp2_with fail
    refine HCB.out.mono ?_
    rintro e w3 ⟨rfl, ⟨sv3, h3⟩, b3, k3, g3⟩
    have hg1 : st.fl.length ≤ a.2.2.fl.length := by have := g3.1; exact this
    have hg2 : a.2.2.fl.length + a.2.2.us.length ≤ st.fl.length + st.us.length := by have := g3.2; exact this
    have hi3 : i < a.2.2.fl.length := by omega
    obtain ⟨g', cap', hsv', hBg', hcap', c4', c5', z4', z5'⟩ := h3.cellAt i hi3
    rw [hsv'] at h3
    have hgR : g' ≠ R := by obtain ⟨_, cur, hg⟩ := ownsRow_block h3.own (k := g') rfl; exact ne_of_type hg h3.blk (by decide)
    have d3' : w3.cell? ⟨R, 3, none⟩ = some (.slice (some ⟨g', 0, none⟩) a.2.2.fl.length cap') := by rw [cell_of_heap h3.blk]; rfl
    have d5' : w3.cell? ⟨R, 5, none⟩ = some (.int .i64 a.2.2.heavy) := by rw [cell_of_heap h3.blk]; rfl
    have y5' : w3.frozen? ⟨R, 5, none⟩ = false := free_of_heap h3.blk
    have hl3 : a.2.2.fl.length ≤ 400 := by omega
    have h4 : RdAt t B (w3.setCell ⟨g', i * 6 + 4, none⟩ (.int .i64 (a.1 : Nat))) R (.slice (some ⟨g', 0, none⟩) a.2.2.fl.length cap') { a.2.2 with fl := setBody a.2.2.fl i a.1 } := h3.row (i * 6 + 4) _ _ (setBody_length _ _ _) (ndsCells_setBody _ _ _ hi3)
    have H5 : Hid (RdAt t B ((w3.setCell ⟨g', i * 6 + 4, none⟩ (.int .i64 (a.1 : Nat))).setCell ⟨R, 5, none⟩ (.int .i64 st.heavy)) R (.slice (some ⟨g', 0, none⟩) a.2.2.fl.length cap') { a.2.2 with fl := setBody a.2.2.fl i a.1, heavy := st.heavy }) := h4.set 5 _ rfl h4.suf rfl
    have HB5 : Hid (Below B w ((w3.setCell ⟨g', i * 6 + 4, none⟩ (.int .i64 (a.1 : Nat))).setCell ⟨R, 5, none⟩ (.int .i64 st.heavy))) := ((HB1.out.trans b3).setCell (p := ⟨g', i * 6 + 4, none⟩) hBg' _).setCell (p := ⟨R, 5, none⟩) h3.le _
    have HK3 : Hid ((a.2.1 = true → Keeps st { a.2.2 with fl := setBody a.2.2.fl i a.1, heavy := st.heavy }) ∧ Grows st { a.2.2 with fl := setBody a.2.2.fl i a.1, heavy := st.heavy }) := by
      refine ⟨fun hh => ⟨?_, rfl, ?_, ?_, ?_⟩, ?_, ?_⟩
      · show a.2.2.deep = _; rw [(k3 hh).1.deep]
      · show _ ≤ (setBody a.2.2.fl i a.1).length; rw [setBody_length]; exact hg1
      · show (setBody a.2.2.fl i a.1).length + a.2.2.us.length ≤ _; rw [setBody_length]; exact hg2
      · show a.2.2.us.length ≤ _; have := (k3 hh).2; exact Nat.le_of_lt this
      · show _ ≤ (setBody a.2.2.fl i a.1).length; rw [setBody_length]; exact hg1
      · show (setBody a.2.2.fl i a.1).length + a.2.2.us.length ≤ _; rw [setBody_length]; exact hg2
    clear HCB h3 h4 b3 k3 g3 hsv'
    go_wp2_with fail
    go_ret
    rw [HN.out]
    exact ⟨rfl, ⟨_, H5.out⟩, HB5.out, HK3.out.1, HK3.out.2⟩
end Go.Proofs.YtmmmnghiegajmabGreat
