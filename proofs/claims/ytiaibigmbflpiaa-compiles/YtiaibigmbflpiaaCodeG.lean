/- The program's reader: a block in braces. -/
import Derived.Test.YtiaibigmbflpiaaCodeF
import Derived.Test.YtiaibigmbflpiaaPureM
namespace Go.Proofs.Ytiaibigmbflpiaa
open Go.RowKit Go.Proofs.Herald

/-- What block gives back, of a reader with fewer than n words left, up to a closing brace; blk: as the plain function has it. -/
def BlkSaid (t : ByteArray) (n : Nat) (blk : RSt → Bool × RSt) : Prop :=
  ∀ (B R : Nat) (sv : Value) (st : RSt) (w : World), st.us.length < n → 0 ≤ st.deep → st.deep + (st.us.length : Int) ≤ 900 → st.fl.length + st.us.length ≤ 400 → 0 ≤ st.heavy → st.heavy ≤ 65 → RdAt t B w R sv st →
    Calls Try.prog 70 #[.pointer (some ⟨R, 0, none⟩), .string ⟨#[125]⟩] w fun e w' => e = .returned (.bool (blk st).1) ∧ (∃ sv', RdAt t B w' R sv' (blk st).2) ∧ Below B w w' ∧ ((blk st).1 = true → Keeps st (blk st).2) ∧ Grows st (blk st).2

theorem own_value {w : World} {B : Nat} {e : TypeId} {size : Nat} {v : Value} {n : Nat} {xs : List Value} (h : w.ownsRow B e size v n xs) : ∃ a cap, v = .slice a n cap := by
  rcases h.2 with ⟨rfl, h0⟩ | ⟨g, cap, cur, rfl, _⟩
  · exact ⟨none, 0, by rw [h0]⟩
  · exact ⟨_, _, rfl⟩

set_option maxHeartbeats 2000000 in
theorem c_braced (t : ByteArray) (ht : t.size ≤ 400) (n : Nat) (blk : RSt → Bool × RSt) (hblk : BlkSaid t n blk) (B R : Nat) (sv : Value) (st : RSt) (w : World) (h : RdAt t B w R sv st)
    (hn : st.us.length ≤ n) (hd0 : 0 ≤ st.deep) (hd : st.deep + (st.us.length : Int) ≤ 900) (hm : st.fl.length + st.us.length ≤ 400) (hh0 : 0 ≤ st.heavy) (hh : st.heavy ≤ 65) :
    Calls Try.prog 152 #[.pointer (some ⟨R, 0, none⟩)] w fun e w' =>
      e = .returned (.tuple #[.int .i64 ((bracedR t blk st).1 : Nat), .bool (bracedR t blk st).2.1]) ∧ (∃ sv', RdAt t B w' R sv' (bracedR t blk st).2.2) ∧ Below B w w' ∧ ((bracedR t blk st).2.1 = true → Keeps st (bracedR t blk st).2.2 ∧ (bracedR t blk st).2.2.us.length < st.us.length) ∧ Grows st (bracedR t blk st).2.2 := by
  have c1 : w.cell? ⟨R, 1, none⟩ = some (.string (wordR t st.us)) := (cell_of_heap h.blk).trans rfl
  have c2 : w.cell? ⟨R, 2, none⟩ = some (.int .i64 (atR t st.us : Nat)) := (cell_of_heap h.blk).trans rfl
  have c4 : w.cell? ⟨R, 4, none⟩ = some (.int .i64 st.deep) := (cell_of_heap h.blk).trans rfl
  have HH : Hid (RdAt t B w R sv st) := h
  obtain ⟨s, hs⟩ : ∃ s, s = wordR t st.us := ⟨_, rfl⟩
  have hby : bytesR t st = s.data.toList := by rw [hs]; rfl
  rw [← hs] at c1
  by_cases ho : s.data.toList = kOpen
  · have e0 : (s.toList == [123]) = true := beq_yes ho
    obtain ⟨a, cap, hsv⟩ := own_value h.own
    subst hsv
    have hpos : 0 < st.us.length := by
      cases hu : st.us with
      | nil =>
        exfalso
        rw [hs, hu] at ho
        have he : (wordR t []).data.toList = [] := rfl
        rw [he] at ho
        exact absurd ho (by decide)
      | cons p q => simp
    have hft : st.fl.length ≤ 400 := by omega
    have hbr : bytesR t st = kOpen := by rw [hby]; exact ho
    clear ho hby hs h
    by_cases hdp : 4 ≤ st.deep
    · obtain ⟨r, hR⟩ : ∃ r, r = blk (advR { (noteR st 4 (atR t st.us : Nat)) with deep := (noteR st 4 (atR t st.us : Nat)).deep + 1 }) := ⟨_, rfl⟩
      have HN : Hid (bracedR t blk st = if r.1 then (r.2.fl.length - st.fl.length, true, advR { r.2 with deep := r.2.deep - 1 }) else (0, false, r.2)) := by
        show _ = _
        unfold bracedR
        rw [if_neg (by rw [hbr]; simp), hR, if_pos hdp]
      have HS : Hid (_ ∧ _ ∧ _ ∧ _) := noteR_keeps st 4 (atR t st.us : Nat)
      have HP : Hid ((advR { (noteR st 4 (atR t st.us : Nat)) with deep := (noteR st 4 (atR t st.us : Nat)).deep + 1 }).us.length < n ∧ 0 ≤ (noteR st 4 (atR t st.us : Nat)).deep + 1 ∧ (noteR st 4 (atR t st.us : Nat)).deep + 1 + ((advR { (noteR st 4 (atR t st.us : Nat)) with deep := (noteR st 4 (atR t st.us : Nat)).deep + 1 }).us.length : Int) ≤ 900 ∧
          (noteR st 4 (atR t st.us : Nat)).fl.length + (advR { (noteR st 4 (atR t st.us : Nat)) with deep := (noteR st 4 (atR t st.us : Nat)).deep + 1 }).us.length ≤ 400 ∧ 0 ≤ (noteR st 4 (atR t st.us : Nat)).heavy ∧ (noteR st 4 (atR t st.us : Nat)).heavy ≤ 65) := by
        show _ ∧ _
        simp only [advR, List.length_tail]
        rw [HS.out.1, HS.out.2.1, HS.out.2.2.1, HS.out.2.2.2]
        omega
      clear hbr
      go_enter Try.func152, Try.ntmps152
      go_wp2_with fail
      refine (c_note t B R _ st 4 (atR t st.us : Nat) _ HH.out).mono ?_
      rintro e w1 ⟨rfl, h1, b1⟩
      have HH1 : Hid (RdAt t B w1 R (.slice a st.fl.length cap) (noteR st 4 (atR t st.us : Nat))) := h1
      have HB1 : Hid (Below B w w1) := b1
      clear h1 b1
      have c3 : w1.cell? ⟨R, 3, none⟩ = some (.slice a st.fl.length cap) := by rw [cell_of_heap HH1.out.blk]; rfl
      have c4 : w1.cell? ⟨R, 4, none⟩ = some (.int .i64 st.deep) := by rw [cell_of_heap HH1.out.blk]; show some (Value.int .i64 (noteR st 4 (atR t st.us : Nat)).deep) = _; rw [HS.out.1]
      have z4 : w1.frozen? ⟨R, 4, none⟩ = false := free_of_heap HH1.out.blk
      have HRD : Hid (RdAt t B (w1.setCell ⟨R, 4, none⟩ (.int .i64 (st.deep + 1))) R (.slice a st.fl.length cap) { (noteR st 4 (atR t st.us : Nat)) with deep := (noteR st 4 (atR t st.us : Nat)).deep + 1 }) := HH1.out.set 4 _ rfl HH1.out.suf (by rw [HS.out.1]; rfl)
      go_wp2_with fail
      refine (c_advance t ht B R _ _ _ HRD.out).mono ?_
      rintro e w2 ⟨rfl, h2, b2⟩
      have H2 : Hid (_ ∧ _) := And.intro h2 b2
      clear h2 b2 c3 c4 z4
      go_wp2_with fail
      refine (hblk B R _ (advR { (noteR st 4 (atR t st.us : Nat)) with deep := (noteR st 4 (atR t st.us : Nat)).deep + 1 }) _ HP.out.1 HP.out.2.1 HP.out.2.2.1 HP.out.2.2.2.1 HP.out.2.2.2.2.1 HP.out.2.2.2.2.2 H2.out.1).mono ?_
      rw [← hR]
      clear hR
      rintro e w3 ⟨rfl, ⟨sv3, h3⟩, b3, k3, g3⟩
      have HBW : Hid (Below B w w3) := HB1.out.trans (((Below.refl B w1).setCell (p := ⟨R, 4, none⟩) HH1.out.le _).trans (H2.out.2.trans b3))
      have HG3 : Hid (Grows st r.2) := by
        obtain ⟨g1, g2⟩ := g3
        simp only [advR, List.length_tail] at g1 g2
        first | (rw [HS.out.2.2.1] at g1 g2; rw [HS.out.2.2.2] at g2; exact ⟨g1, by omega⟩) | exact ⟨g1, by omega⟩
      clear g3
      obtain ⟨a3, cap3, hsv3⟩ := own_value h3.own
      rw [hsv3] at h3
      have H3 : Hid (RdAt t B w3 R (.slice a3 r.2.fl.length cap3) r.2) := h3
      clear h3 b3 hsv3
      cases hr1 : r.1 with
      | false =>
        have HN2 : Hid (bracedR t blk st = (0, false, r.2)) := HN.out.trans (if_neg (by rw [hr1]; simp))
        clear k3 hr1
        go_wp2_with fail
        go_ret2
        rw [HN2.out]
        exact ⟨rfl, ⟨_, H3.out⟩, HBW.out, fun h => absurd h (by simp), HG3.out⟩
      | true =>
        have HN2 : Hid (bracedR t blk st = (r.2.fl.length - st.fl.length, true, advR { r.2 with deep := r.2.deep - 1 })) := HN.out.trans (if_pos hr1)
        have kk := k3 hr1
        have kd : r.2.deep = st.deep + 1 := by rw [kk.deep]; show (noteR st 4 (atR t st.us : Nat)).deep + 1 = _; rw [HS.out.1]
        have kg : st.fl.length ≤ r.2.fl.length := by have := kk.grows; simp only [advR] at this; rw [HS.out.2.2.1] at this; exact this
        have km := kk.mass
        have kl := kk.less
        simp only [advR] at km kl
        rw [HS.out.2.2.1, HS.out.2.2.2] at km
        rw [HS.out.2.2.2] at kl
        have kb : r.2.fl.length ≤ 400 := by simp only [List.length_tail] at km; omega
        have kh : r.2.heavy = st.heavy := by rw [kk.heavy]; exact HS.out.2.1
        have d4 : w3.cell? ⟨R, 4, none⟩ = some (.int .i64 (st.deep + 1)) := by rw [cell_of_heap H3.out.blk]; show some (Value.int .i64 r.2.deep) = _; rw [kd]
        have z4 : w3.frozen? ⟨R, 4, none⟩ = false := free_of_heap H3.out.blk
        have HRD3 : Hid (RdAt t B (w3.setCell ⟨R, 4, none⟩ (.int .i64 st.deep)) R (.slice a3 r.2.fl.length cap3) { r.2 with deep := r.2.deep - 1 }) := H3.out.set 4 _ rfl H3.out.suf (by rw [kd, show st.deep + 1 - 1 = st.deep from by omega]; rfl)
        have HKP : Hid (Keeps st (advR { r.2 with deep := r.2.deep - 1 }) ∧ (advR { r.2 with deep := r.2.deep - 1 }).us.length < st.us.length) := by
          simp only [List.length_tail] at km kl
          refine ⟨⟨?_, kh, kg, ?_, ?_⟩, ?_⟩
          · show r.2.deep - 1 = _; omega
          · show r.2.fl.length + r.2.us.tail.length ≤ _; rw [List.length_tail]; omega
          · show r.2.us.tail.length ≤ _; rw [List.length_tail]; omega
          · show r.2.us.tail.length < _; rw [List.length_tail]; omega
        have HKD : Hid (r.2.deep = st.deep + 1) := kd
        clear k3 hr1 kk kd km kl kh
        go_wp2_with fail
        refine (c_advance t ht B R _ _ _ HRD3.out).mono ?_
        rintro e w4 ⟨rfl, h4, b4⟩
        have e3 : w4.cell? ⟨R, 3, none⟩ = some (.slice a3 r.2.fl.length cap3) := by rw [cell_of_heap h4.blk]; rfl
        have H4 : Hid (_ ∧ _) := And.intro h4 b4
        clear h4 b4 d4 z4
        go_wp2_with fail
        go_ret2
        rw [HN2.out]
        refine ⟨ret_ib (a := (r.2.fl.length : Int) - (st.fl.length : Int)) (by show _ = ((r.2.fl.length - st.fl.length : Nat) : Int); omega) rfl, ⟨_, H4.out.1⟩, ?_, fun _ => HKP.out, HKP.out.1.grown⟩
        exact HBW.out.trans (((Below.refl B w3).setCell (p := ⟨R, 4, none⟩) H3.out.le _).trans H4.out.2)
    · obtain ⟨r, hR⟩ : ∃ r, r = blk (advR { st with deep := st.deep + 1 }) := ⟨_, rfl⟩
      have HN : Hid (bracedR t blk st = if r.1 then (r.2.fl.length - st.fl.length, true, advR { r.2 with deep := r.2.deep - 1 }) else (0, false, r.2)) := by
        show _ = _
        unfold bracedR
        rw [if_neg (by rw [hbr]; simp), hR, if_neg hdp]
      have HS : Hid (st.deep = st.deep ∧ st.heavy = st.heavy ∧ st.fl = st.fl ∧ st.us = st.us) := ⟨rfl, rfl, rfl, rfl⟩
      have HP : Hid ((advR { st with deep := st.deep + 1 }).us.length < n ∧ 0 ≤ st.deep + 1 ∧ st.deep + 1 + ((advR { st with deep := st.deep + 1 }).us.length : Int) ≤ 900 ∧ st.fl.length + (advR { st with deep := st.deep + 1 }).us.length ≤ 400 ∧ 0 ≤ st.heavy ∧ st.heavy ≤ 65) := by
        show _ ∧ _
        simp only [advR, List.length_tail]
        omega
      have hdp' : st.deep < 4 := by omega
      clear hbr hdp
      go_enter Try.func152, Try.ntmps152
      have c3 : w.cell? ⟨R, 3, none⟩ = some (.slice a st.fl.length cap) := by rw [cell_of_heap HH.out.blk]; rfl
      have c4 : w.cell? ⟨R, 4, none⟩ = some (.int .i64 st.deep) := by rw [cell_of_heap HH.out.blk]; show some (Value.int .i64 (st).deep) = _; rw [HS.out.1]
      have z4 : w.frozen? ⟨R, 4, none⟩ = false := free_of_heap HH.out.blk
      have HRD : Hid (RdAt t B (w.setCell ⟨R, 4, none⟩ (.int .i64 (st.deep + 1))) R (.slice a st.fl.length cap) { (st) with deep := (st).deep + 1 }) := HH.out.set 4 _ rfl HH.out.suf (by rw [HS.out.1]; rfl)
      go_wp2_with fail
      refine (c_advance t ht B R _ _ _ HRD.out).mono ?_
      rintro e w2 ⟨rfl, h2, b2⟩
      have H2 : Hid (_ ∧ _) := And.intro h2 b2
      clear h2 b2 c3 c4 z4
      go_wp2_with fail
      refine (hblk B R _ (advR { (st) with deep := (st).deep + 1 }) _ HP.out.1 HP.out.2.1 HP.out.2.2.1 HP.out.2.2.2.1 HP.out.2.2.2.2.1 HP.out.2.2.2.2.2 H2.out.1).mono ?_
      rw [← hR]
      clear hR
      rintro e w3 ⟨rfl, ⟨sv3, h3⟩, b3, k3, g3⟩
      have HBW : Hid (Below B w w3) := (Below.refl B w).trans (((Below.refl B w).setCell (p := ⟨R, 4, none⟩) HH.out.le _).trans (H2.out.2.trans b3))
      have HG3 : Hid (Grows st r.2) := by
        obtain ⟨g1, g2⟩ := g3
        simp only [advR, List.length_tail] at g1 g2
        first | (rw [HS.out.2.2.1] at g1 g2; rw [HS.out.2.2.2] at g2; exact ⟨g1, by omega⟩) | exact ⟨g1, by omega⟩
      clear g3
      obtain ⟨a3, cap3, hsv3⟩ := own_value h3.own
      rw [hsv3] at h3
      have H3 : Hid (RdAt t B w3 R (.slice a3 r.2.fl.length cap3) r.2) := h3
      clear h3 b3 hsv3
      cases hr1 : r.1 with
      | false =>
        have HN2 : Hid (bracedR t blk st = (0, false, r.2)) := HN.out.trans (if_neg (by rw [hr1]; simp))
        clear k3 hr1
        go_wp2_with fail
        go_ret2
        rw [HN2.out]
        exact ⟨rfl, ⟨_, H3.out⟩, HBW.out, fun h => absurd h (by simp), HG3.out⟩
      | true =>
        have HS : Hid (st.deep = st.deep ∧ st.heavy = st.heavy ∧ st.fl = st.fl ∧ st.us = st.us) := ⟨rfl, rfl, rfl, rfl⟩
        have HN2 : Hid (bracedR t blk st = (r.2.fl.length - st.fl.length, true, advR { r.2 with deep := r.2.deep - 1 })) := HN.out.trans (if_pos hr1)
        have kk := k3 hr1
        have kd : r.2.deep = st.deep + 1 := by rw [kk.deep]; show (st).deep + 1 = _; rw [HS.out.1]
        have kg : st.fl.length ≤ r.2.fl.length := by have := kk.grows; simp only [advR] at this; rw [HS.out.2.2.1] at this; exact this
        have km := kk.mass
        have kl := kk.less
        simp only [advR] at km kl
        rw [HS.out.2.2.1, HS.out.2.2.2] at km
        rw [HS.out.2.2.2] at kl
        have kb : r.2.fl.length ≤ 400 := by simp only [List.length_tail] at km; omega
        have kh : r.2.heavy = st.heavy := by rw [kk.heavy]; exact HS.out.2.1
        have d4 : w3.cell? ⟨R, 4, none⟩ = some (.int .i64 (st.deep + 1)) := by rw [cell_of_heap H3.out.blk]; show some (Value.int .i64 r.2.deep) = _; rw [kd]
        have z4 : w3.frozen? ⟨R, 4, none⟩ = false := free_of_heap H3.out.blk
        have HRD3 : Hid (RdAt t B (w3.setCell ⟨R, 4, none⟩ (.int .i64 st.deep)) R (.slice a3 r.2.fl.length cap3) { r.2 with deep := r.2.deep - 1 }) := H3.out.set 4 _ rfl H3.out.suf (by rw [kd, show st.deep + 1 - 1 = st.deep from by omega]; rfl)
        have HKP : Hid (Keeps st (advR { r.2 with deep := r.2.deep - 1 }) ∧ (advR { r.2 with deep := r.2.deep - 1 }).us.length < st.us.length) := by
          simp only [List.length_tail] at km kl
          refine ⟨⟨?_, kh, kg, ?_, ?_⟩, ?_⟩
          · show r.2.deep - 1 = _; omega
          · show r.2.fl.length + r.2.us.tail.length ≤ _; rw [List.length_tail]; omega
          · show r.2.us.tail.length ≤ _; rw [List.length_tail]; omega
          · show r.2.us.tail.length < _; rw [List.length_tail]; omega
        have HKD : Hid (r.2.deep = st.deep + 1) := kd
        clear k3 hr1 kk kd km kl kh
        go_wp2_with fail
        refine (c_advance t ht B R _ _ _ HRD3.out).mono ?_
        rintro e w4 ⟨rfl, h4, b4⟩
        have e3 : w4.cell? ⟨R, 3, none⟩ = some (.slice a3 r.2.fl.length cap3) := by rw [cell_of_heap h4.blk]; rfl
        have H4 : Hid (_ ∧ _) := And.intro h4 b4
        clear h4 b4 d4 z4
        go_wp2_with fail
        go_ret2
        rw [HN2.out]
        refine ⟨ret_ib (a := (r.2.fl.length : Int) - (st.fl.length : Int)) (by show _ = ((r.2.fl.length - st.fl.length : Nat) : Int); omega) rfl, ⟨_, H4.out.1⟩, ?_, fun _ => HKP.out, HKP.out.1.grown⟩
        exact HBW.out.trans (((Below.refl B w3).setCell (p := ⟨R, 4, none⟩) H3.out.le _).trans H4.out.2)
  · have HN : Hid (bracedR t blk st = (0, false, st)) := by show _ = _; unfold bracedR; rw [if_pos (by rw [hby]; exact ho)]
    have e0 : (s.toList == [123]) = false := beq_no ho
    clear ho hby hs h
    go_enter Try.func152, Try.ntmps152
    go_wp2_with fail
    go_ret2
    rw [HN.out]
    exact ⟨rfl, ⟨sv, HH.out⟩, Below.refl _ _, fun h => absurd h (by simp), Grows.refl _⟩

end Go.Proofs.Ytiaibigmbflpiaa
