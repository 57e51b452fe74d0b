/- The program's reader: its method branches. -/
import Derived.Test.YtiaibigmbflpiaaCodeH
namespace Go.Proofs.Ytiaibigmbflpiaa
open Go.RowKit Go.Proofs.Herald

theorem setBody_length (l : List Nd) (i k : Nat) : (setBody l i k).length = l.length := by simp [setBody]
theorem setEls_length (l : List Nd) (i k : Nat) : (setEls l i k).length = l.length := by simp [setEls]

set_option maxHeartbeats 2000000 in
theorem c_branches (t : ByteArray) (ht : t.size ≤ 400) (n : Nat) (blk : RSt → Bool × RSt) (hblk : BlkSaid t n blk) (B R : Nat) (sv : Value) (st : RSt) (i : Nat) (w : World) (h : RdAt t B w R sv st)
    (hn : st.us.length ≤ n) (hd0 : 0 ≤ st.deep) (hd : st.deep + (st.us.length : Int) ≤ 900) (hm : st.fl.length + st.us.length ≤ 400) (hh0 : 0 ≤ st.heavy) (hh : st.heavy ≤ 65) (hi : i < st.fl.length) :
    Calls Try.prog 131 #[.pointer (some ⟨R, 0, none⟩), .int .i64 (i : Nat)] w fun e w' =>
      e = .returned (.bool (branchesR t blk st i).1) ∧ (∃ sv', RdAt t B w' R sv' (branchesR t blk st i).2) ∧ Below B w w' ∧ ((branchesR t blk st i).1 = true → Keeps st (branchesR t blk st i).2) ∧ Grows st (branchesR t blk st i).2 := by
  obtain ⟨a, ha⟩ : ∃ a, a = bracedR t blk st := ⟨_, rfl⟩
  have hcb := c_braced t ht n blk hblk B R sv st w h hn hd0 hd hm hh0 hh
  rw [← ha] at hcb
  have HCB : Hid (Calls _ _ _ _ _) := hcb
  have hN0 : branchesR t blk st i = if a.2.1 then (if bytesR t { a.2.2 with fl := setBody a.2.2.fl i a.1 } = kElse then ((bracedR t blk (advR { a.2.2 with fl := setBody a.2.2.fl i a.1 })).2.1, { (bracedR t blk (advR { a.2.2 with fl := setBody a.2.2.fl i a.1 })).2.2 with fl := setEls (bracedR t blk (advR { a.2.2 with fl := setBody a.2.2.fl i a.1 })).2.2.fl i (bracedR t blk (advR { a.2.2 with fl := setBody a.2.2.fl i a.1 })).1 }) else (true, { a.2.2 with fl := setBody a.2.2.fl i a.1 })) else (false, a.2.2) := by
    unfold branchesR; rw [ha]
  have HN0 : Hid (_ = _) := hN0
  clear hcb ha hN0 h
  go_enter Try.func131, Try.ntmps131
  go_wp2_with fail
  refine HCB.out.mono ?_
  rintro e w1 ⟨rfl, ⟨sv1, h1⟩, b1, k1, g1⟩
  cases hr : a.2.1 with
  | false =>
    have HN : Hid (branchesR t blk st i = (false, a.2.2)) := HN0.out.trans (if_neg (by rw [hr]; simp))
    have HP : Hid (_ ∧ _ ∧ _) := And.intro h1 (And.intro b1 g1)
    clear hr k1 h1 b1 g1 HCB HN0
    go_wp2_with fail
    go_ret
    rw [HN.out]
    exact ⟨rfl, ⟨_, HP.out.1⟩, HP.out.2.1, fun h => absurd h (by simp), HP.out.2.2⟩
  | true =>
    obtain ⟨k1, k1u⟩ := k1 hr
    have HN1 : Hid (_ = _) := HN0.out.trans (if_pos hr)
    obtain ⟨C, hC⟩ : ∃ C, C = a.1 := ⟨_, rfl⟩
    obtain ⟨A, hA⟩ : ∃ A, A = a.2.2 := ⟨_, rfl⟩
    rw [← hC, ← hA] at HN1
    rw [← hA] at h1 g1 k1 k1u
    have hiA : i < A.fl.length := Nat.lt_of_lt_of_le hi g1.1
    obtain ⟨g, cap, hsv, hBg, hcap, c4, c5, z4, z5⟩ := h1.cellAt i hiA
    rw [hsv] at h1
    have hgR : g ≠ R := by obtain ⟨_, cur, hg⟩ := ownsRow_block h1.own (k := g) rfl; exact ne_of_type hg h1.blk (by decide)
    have d3 : w1.cell? ⟨R, 3, none⟩ = some (.slice (some ⟨g, 0, none⟩) A.fl.length cap) := by rw [cell_of_heap h1.blk]; rfl
    have d1 : w1.cell? ⟨R, 1, none⟩ = some (.string (wordR t A.us)) := by rw [cell_of_heap h1.blk]; rfl
    have hl400 : A.fl.length ≤ 400 := by have := g1.2; omega
    have H2 : Hid (RdAt t B (w1.setCell ⟨g, i * 6 + 4, none⟩ (.int .i64 (C : Nat))) R (.slice (some ⟨g, 0, none⟩) A.fl.length cap) { A with fl := setBody A.fl i C }) := h1.row (i * 6 + 4) _ _ (setBody_length _ _ _) (ndsCells_setBody _ _ _ hiA)
    have HB2 : Hid (Below B w (w1.setCell ⟨g, i * 6 + 4, none⟩ (.int .i64 (C : Nat)))) := b1.setCell (p := ⟨g, i * 6 + 4, none⟩) hBg _
    obtain ⟨s, hs⟩ : ∃ s, s = wordR t A.us := ⟨_, rfl⟩
    have hby : bytesR t { A with fl := setBody A.fl i C } = s.data.toList := by rw [hs]; rfl
    rw [← hs] at d1
    have HK : Hid (Keeps st { A with fl := setBody A.fl i C }) := ⟨k1.deep, k1.heavy, by show _ ≤ (setBody A.fl i C).length; rw [setBody_length]; exact k1.grows, by show (setBody A.fl i C).length + _ ≤ _; rw [setBody_length]; exact k1.mass, k1.less⟩
    rw [← hC]
    clear hr HN0 HCB h1 b1 k1 hs hsv hC hA g1
    by_cases he : s.data.toList = kElse
    · have HN2 : Hid (_ = _) := HN1.out.trans (if_pos (by rw [hby]; exact he))
      have e0 : (s.toList == [101, 108, 115, 101]) = true := beq_yes he
      have hne : (s.toList != [101, 108, 115, 101]) = false := by simp [bne, e0]
      clear he hby HN1
      go_wp2_with fail
      refine (c_advance t ht B R _ _ _ H2.out).mono ?_
      rintro e w2 ⟨rfl, h2, b2⟩
      obtain ⟨D, hD⟩ : ∃ D, D = advR { A with fl := setBody A.fl i C } := ⟨_, rfl⟩
      rw [← hD] at h2 HN2
      have hDl : D.fl.length = A.fl.length ∧ D.us.length ≤ A.us.length ∧ D.deep = A.deep ∧ D.heavy = A.heavy ∧ A.us.length < st.us.length := by
        rw [hD]; exact ⟨setBody_length _ _ _, by show A.us.tail.length ≤ _; rw [List.length_tail]; omega, rfl, rfl, k1u⟩
      obtain ⟨q1, q2, q3, q4, q5⟩ := hDl
      have hKm := HK.out.mass
      have hKl := HK.out.less
      have hKd := HK.out.deep
      have hKh := HK.out.heavy
      simp only [setBody_length] at hKm hKl hKd hKh
      have HKD : Hid (Keeps st D) := ⟨by rw [q3, hKd], by rw [q4, hKh], by have := HK.out.grows; simp only [setBody_length] at this; omega, by omega, by omega⟩
      have hcb := c_braced t ht n blk hblk B R _ D w2 h2 (by omega) (by omega) (by omega) (by omega) (by omega) (by omega)
      obtain ⟨b, hb⟩ : ∃ b, b = bracedR t blk D := ⟨_, rfl⟩
      rw [← hb] at hcb HN2
      have HCB : Hid (Calls _ _ _ _ _) := hcb
      have HB3 : Hid (Below B w w2) := HB2.out.trans b2
      clear hcb hb hD h2 b2 hKm hKl hKd hKh
      go_wp2_with fail
      refine HCB.out.mono ?_
      rintro e w3 ⟨rfl, ⟨sv3, h3⟩, b3, k3, g3⟩
      have hi3 : i < b.2.2.fl.length := by have := g3.1; omega
      obtain ⟨g', cap', hsv', hBg', hcap', c4', c5', z4', z5'⟩ := h3.cellAt i hi3
      rw [hsv'] at h3
      have d3' : w3.cell? ⟨R, 3, none⟩ = some (.slice (some ⟨g', 0, none⟩) b.2.2.fl.length cap') := by rw [cell_of_heap h3.blk]; rfl
      have hl3 : b.2.2.fl.length ≤ 400 := by have := g3.2; have := HKD.out.mass; omega
      have H4 : Hid (RdAt t B (w3.setCell ⟨g', i * 6 + 5, none⟩ (.int .i64 (b.1 : Nat))) R (.slice (some ⟨g', 0, none⟩) b.2.2.fl.length cap') { b.2.2 with fl := setEls b.2.2.fl i b.1 }) := h3.row (i * 6 + 5) _ _ (setEls_length _ _ _) (ndsCells_setEls _ _ _ hi3)
      have HB4 : Hid (Below B w (w3.setCell ⟨g', i * 6 + 5, none⟩ (.int .i64 (b.1 : Nat)))) := (HB3.out.trans b3).setCell (p := ⟨g', i * 6 + 5, none⟩) hBg' _
      have HK3 : Hid ((b.2.1 = true → Keeps D b.2.2 ∧ b.2.2.us.length < D.us.length) ∧ Grows D b.2.2) := ⟨k3, g3⟩
      clear HCB h3 b3 k3 g3 hsv'
      go_wp2_with fail
      go_ret
      rw [HN2.out]
      refine ⟨rfl, ⟨_, H4.out⟩, HB4.out, fun h => ?_, ?_⟩
      · have kk := HKD.out.trans (HK3.out.1 h).1
        exact ⟨kk.deep, kk.heavy, by show _ ≤ (setEls b.2.2.fl i b.1).length; rw [setEls_length]; exact kk.grows, by show (setEls b.2.2.fl i b.1).length + _ ≤ _; rw [setEls_length]; exact kk.mass, kk.less⟩
      · have gg := HKD.out.grown.trans HK3.out.2
        exact ⟨by show _ ≤ (setEls b.2.2.fl i b.1).length; rw [setEls_length]; exact gg.1, by show (setEls b.2.2.fl i b.1).length + _ ≤ _; rw [setEls_length]; exact gg.2⟩
    · have HN2 : Hid (_ = _) := HN1.out.trans (if_neg (by rw [hby]; exact he))
      have e0 : (s.toList == [101, 108, 115, 101]) = false := beq_no he
      have hne : (s.toList != [101, 108, 115, 101]) = true := by simp [bne, e0]
      clear he hby HN1
      go_wp2_with fail
      go_ret
      rw [HN2.out]
      exact ⟨rfl, ⟨_, H2.out⟩, HB2.out, fun _ => HK.out, HK.out.grown⟩

end Go.Proofs.Ytiaibigmbflpiaa
