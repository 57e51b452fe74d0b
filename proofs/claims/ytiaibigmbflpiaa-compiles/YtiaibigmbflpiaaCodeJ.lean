/- The program's reader: its method repeated. -/
import Derived.Test.YtiaibigmbflpiaaCodeI
namespace Go.Proofs.Ytiaibigmbflpiaa
open Go.RowKit Go.Proofs.Herald

set_option maxHeartbeats 2000000 in
theorem c_repeated (t : ByteArray) (ht : t.size ≤ 400) (n : Nat) (blk : RSt → Bool × RSt) (hblk : BlkSaid t n blk) (B R : Nat) (sv : Value) (st : RSt) (i : Nat) (T p : Int) (w : World) (h : RdAt t B w R sv st)
    (hn : st.us.length ≤ n) (hd0 : 0 ≤ st.deep) (hd : st.deep + (st.us.length : Int) ≤ 900) (hm : st.fl.length + st.us.length ≤ 400) (hh0 : 0 ≤ st.heavy) (hh : st.heavy ≤ 65) (hi : i < st.fl.length) (hT0 : 0 ≤ T) (hT : T ≤ 9999) :
    Calls Try.prog 132 #[.pointer (some ⟨R, 0, none⟩), .int .i64 (i : Nat), .int .i64 T, .int .i64 p] w fun e w' =>
      e = .returned (.bool (repeatedR t blk st i T p).1) ∧ (∃ sv', RdAt t B w' R sv' (repeatedR t blk st i T p).2) ∧ Below B w w' ∧ ((repeatedR t blk st i T p).1 = true → Keeps st (repeatedR t blk st i T p).2) ∧ Grows st (repeatedR t blk st i T p).2 := by
  have c5 : w.cell? ⟨R, 5, none⟩ = some (.int .i64 st.heavy) := by rw [cell_of_heap h.blk]; rfl
  have z5 : w.frozen? ⟨R, 5, none⟩ = false := free_of_heap h.blk
  have hp0 : 0 ≤ st.heavy * T := Int.mul_nonneg hh0 hT0
  have hp1 : st.heavy * T ≤ 649935 := by
    have h1 : st.heavy * T ≤ 65 * T := Int.mul_le_mul_of_nonneg_right hh hT0
    omega
  obtain ⟨K, hK⟩ : ∃ K, K = Go.Proofs.Herald.heavierI st.heavy T := ⟨_, rfl⟩
  have hKb : 0 ≤ K ∧ K ≤ 65 := by rw [hK]; unfold Go.Proofs.Herald.heavierI; split <;> omega
  obtain ⟨hK0, hK65⟩ := hKb
  have HCH : Hid (∀ W, Calls Try.prog 153 #[.int .i64 st.heavy, .int .i64 T] W fun e w' => e = .returned (.int .i64 K) ∧ w' = W) := fun W => by
    rw [hK]; exact c_heavier st.heavy T W (by omega) (by omega)
  have H1 : Hid (RdAt t B (w.setCell ⟨R, 5, none⟩ (.int .i64 K)) R sv { st with heavy := K }) := h.set 5 _ rfl h.suf rfl
  have HH : Hid (RdAt t B w R sv st) := h
  have HB1 : Hid (Below B w (w.setCell ⟨R, 5, none⟩ (.int .i64 K))) := (Below.refl B w).setCell (p := ⟨R, 5, none⟩) h.le _
  by_cases h64 : 64 < K
  · obtain ⟨a, hA⟩ : ∃ a, a = bracedR t blk (noteR { st with heavy := K } 5 p) := ⟨_, rfl⟩
    have HN : Hid (repeatedR t blk st i T p = (a.2.1, { a.2.2 with fl := setBody a.2.2.fl i a.1, heavy := st.heavy })) := by
      show _ = _
      unfold repeatedR
      simp only [← hK]
      rw [if_pos h64, ← hA]
    have HS : Hid ((noteR { st with heavy := K } 5 p).deep = st.deep ∧ (noteR { st with heavy := K } 5 p).heavy = K ∧ (noteR { st with heavy := K } 5 p).fl = st.fl ∧ (noteR { st with heavy := K } 5 p).us = st.us) := noteR_keeps _ 5 p
    have HP : Hid ((noteR { st with heavy := K } 5 p).us.length ≤ n ∧ 0 ≤ (noteR { st with heavy := K } 5 p).deep ∧ (noteR { st with heavy := K } 5 p).deep + ((noteR { st with heavy := K } 5 p).us.length : Int) ≤ 900 ∧ (noteR { st with heavy := K } 5 p).fl.length + (noteR { st with heavy := K } 5 p).us.length ≤ 400 ∧ 0 ≤ (noteR { st with heavy := K } 5 p).heavy ∧ (noteR { st with heavy := K } 5 p).heavy ≤ 65) := by
      show _ ∧ _
      rw [HS.out.1, HS.out.2.1, HS.out.2.2.1, HS.out.2.2.2]
      omega
    clear hK h hp0 hp1
    go_enter Try.func132, Try.ntmps132
    go_wp2_with fail
    refine (HCH.out _).mono ?_
    rintro e w' ⟨rfl, hw'⟩
    rw [hw']
    clear hw' w'
    go_wp2_with fail
    refine (c_note t B R sv { st with heavy := K } 5 p _ H1.out).mono ?_
    rintro e w2 ⟨rfl, h2, b2⟩
    have H2 : Hid (RdAt t B w2 R sv (noteR { st with heavy := K } 5 p)) := h2
    have HB2 : Hid (Below B w w2) := HB1.out.trans b2
    clear h2 b2 c5 z5
    have hcb := c_braced t ht n blk hblk B R sv (noteR { st with heavy := K } 5 p) w2 H2.out HP.out.1 HP.out.2.1 HP.out.2.2.1 HP.out.2.2.2.1 HP.out.2.2.2.2.1 HP.out.2.2.2.2.2
    rw [← hA] at hcb
    have HCB : Hid (Calls _ _ _ _ _) := hcb
    clear hcb hA
    go_wp2_with fail
    refine HCB.out.mono ?_
    rintro e w3 ⟨rfl, ⟨sv3, h3⟩, b3, k3, g3⟩
    have hg1 : st.fl.length ≤ a.2.2.fl.length := by have := g3.1; rw [HS.out.2.2.1] at this; exact this
    have hg2 : a.2.2.fl.length + a.2.2.us.length ≤ st.fl.length + st.us.length := by have := g3.2; rw [HS.out.2.2.1, HS.out.2.2.2] at this; exact this
    have hi3 : i < a.2.2.fl.length := by omega
    obtain ⟨g', cap', hsv', hBg', hcap', c4', c5', z4', z5'⟩ := h3.cellAt i hi3
    rw [hsv'] at h3
    have hgR : g' ≠ R := by obtain ⟨_, cur, hg⟩ := ownsRow_block h3.own (k := g') rfl; exact ne_of_type hg h3.blk (by decide)
    have d3' : w3.cell? ⟨R, 3, none⟩ = some (.slice (some ⟨g', 0, none⟩) a.2.2.fl.length cap') := by rw [cell_of_heap h3.blk]; rfl
    have d5' : w3.cell? ⟨R, 5, none⟩ = some (.int .i64 a.2.2.heavy) := by rw [cell_of_heap h3.blk]; rfl
    have y5' : w3.frozen? ⟨R, 5, none⟩ = false := free_of_heap h3.blk
    have hl3 : a.2.2.fl.length ≤ 400 := by omega
    have h4 : RdAt t B (w3.setCell ⟨g', i * 6 + 4, none⟩ (.int .i64 (a.1 : Nat))) R (.slice (some ⟨g', 0, none⟩) a.2.2.fl.length cap') { a.2.2 with fl := setBody a.2.2.fl i a.1 } := h3.row (i * 6 + 4) _ _ (setBody_length _ _ _) (ndsCells_setBody _ _ _ hi3)
    have H5 : Hid (RdAt t B ((w3.setCell ⟨g', i * 6 + 4, none⟩ (.int .i64 (a.1 : Nat))).setCell ⟨R, 5, none⟩ (.int .i64 st.heavy)) R (.slice (some ⟨g', 0, none⟩) a.2.2.fl.length cap') { a.2.2 with fl := setBody a.2.2.fl i a.1, heavy := st.heavy }) := h4.set 5 _ rfl h4.suf rfl
    have HB5 : Hid (Below B w ((w3.setCell ⟨g', i * 6 + 4, none⟩ (.int .i64 (a.1 : Nat))).setCell ⟨R, 5, none⟩ (.int .i64 st.heavy))) := ((HB2.out.trans b3).setCell (p := ⟨g', i * 6 + 4, none⟩) hBg' _).setCell (p := ⟨R, 5, none⟩) h3.le _
    have HK3 : Hid ((a.2.1 = true → Keeps st { a.2.2 with fl := setBody a.2.2.fl i a.1, heavy := st.heavy }) ∧ Grows st { a.2.2 with fl := setBody a.2.2.fl i a.1, heavy := st.heavy }) := by
      refine ⟨fun hh => ⟨?_, rfl, ?_, ?_, ?_⟩, ?_, ?_⟩
      · show a.2.2.deep = _; rw [(k3 hh).1.deep]; exact HS.out.1
      · show _ ≤ (setBody a.2.2.fl i a.1).length; rw [setBody_length]; exact hg1
      · show (setBody a.2.2.fl i a.1).length + a.2.2.us.length ≤ _; rw [setBody_length]; exact hg2
      · show a.2.2.us.length ≤ _; have := (k3 hh).2; rw [HS.out.2.2.2] at this; omega
      · show _ ≤ (setBody a.2.2.fl i a.1).length; rw [setBody_length]; exact hg1
      · show (setBody a.2.2.fl i a.1).length + a.2.2.us.length ≤ _; rw [setBody_length]; exact hg2
    clear HCB h3 h4 b3 k3 g3 hsv'
    go_wp2_with fail
    go_ret
    rw [HN.out]
    exact ⟨rfl, ⟨_, H5.out⟩, HB5.out, HK3.out.1, HK3.out.2⟩
  · obtain ⟨a, hA⟩ : ∃ a, a = bracedR t blk { st with heavy := K } := ⟨_, rfl⟩
    have HN : Hid (repeatedR t blk st i T p = (a.2.1, { a.2.2 with fl := setBody a.2.2.fl i a.1, heavy := st.heavy })) := by
      show _ = _
      unfold repeatedR
      simp only [← hK]
      rw [if_neg h64, ← hA]
    have HP : Hid (st.us.length ≤ n ∧ 0 ≤ st.deep ∧ st.deep + (st.us.length : Int) ≤ 900 ∧ st.fl.length + st.us.length ≤ 400 ∧ 0 ≤ K ∧ K ≤ 65) := by show _ ∧ _; omega
    have h64' : K ≤ 64 := by omega
    clear hK h hp0 hp1 h64
    go_enter Try.func132, Try.ntmps132
    go_wp2_with fail
    refine (HCH.out _).mono ?_
    rintro e w' ⟨rfl, hw'⟩
    rw [hw']
    clear hw' w'
    have hcb := c_braced t ht n blk hblk B R sv ({ st with heavy := K }) _ H1.out HP.out.1 HP.out.2.1 HP.out.2.2.1 HP.out.2.2.2.1 HP.out.2.2.2.2.1 HP.out.2.2.2.2.2
    rw [← hA] at hcb
    have HCB : Hid (Calls _ _ _ _ _) := hcb
    clear hcb hA
    go_wp2_with fail
    refine HCB.out.mono ?_
    rintro e w3 ⟨rfl, ⟨sv3, h3⟩, b3, k3, g3⟩
    have hg1 : st.fl.length ≤ a.2.2.fl.length := by have := g3.1; exact this
    have hg2 : a.2.2.fl.length + a.2.2.us.length ≤ st.fl.length + st.us.length := by have := g3.2; exact this
    have hi3 : i < a.2.2.fl.length := by omega
    obtain ⟨g', cap', hsv', hBg', hcap', c4', c5', z4', z5'⟩ := h3.cellAt i hi3
    rw [hsv'] at h3
    have hgR : g' ≠ R := by obtain ⟨_, cur, hg⟩ := ownsRow_block h3.own (k := g') rfl; exact ne_of_type hg h3.blk (by decide)
    have d3' : w3.cell? ⟨R, 3, none⟩ = some (.slice (some ⟨g', 0, none⟩) a.2.2.fl.length cap') := by rw [cell_of_heap h3.blk]; rfl
    have d5' : w3.cell? ⟨R, 5, none⟩ = some (.int .i64 a.2.2.heavy) := by rw [cell_of_heap h3.blk]; rfl
    have y5' : w3.frozen? ⟨R, 5, none⟩ = false := free_of_heap h3.blk
    have hl3 : a.2.2.fl.length ≤ 400 := by omega
    have h4 : RdAt t B (w3.setCell ⟨g', i * 6 + 4, none⟩ (.int .i64 (a.1 : Nat))) R (.slice (some ⟨g', 0, none⟩) a.2.2.fl.length cap') { a.2.2 with fl := setBody a.2.2.fl i a.1 } := h3.row (i * 6 + 4) _ _ (setBody_length _ _ _) (ndsCells_setBody _ _ _ hi3)
    have H5 : Hid (RdAt t B ((w3.setCell ⟨g', i * 6 + 4, none⟩ (.int .i64 (a.1 : Nat))).setCell ⟨R, 5, none⟩ (.int .i64 st.heavy)) R (.slice (some ⟨g', 0, none⟩) a.2.2.fl.length cap') { a.2.2 with fl := setBody a.2.2.fl i a.1, heavy := st.heavy }) := h4.set 5 _ rfl h4.suf rfl
    have HB5 : Hid (Below B w ((w3.setCell ⟨g', i * 6 + 4, none⟩ (.int .i64 (a.1 : Nat))).setCell ⟨R, 5, none⟩ (.int .i64 st.heavy))) := ((HB1.out.trans b3).setCell (p := ⟨g', i * 6 + 4, none⟩) hBg' _).setCell (p := ⟨R, 5, none⟩) h3.le _
    have HK3 : Hid ((a.2.1 = true → Keeps st { a.2.2 with fl := setBody a.2.2.fl i a.1, heavy := st.heavy }) ∧ Grows st { a.2.2 with fl := setBody a.2.2.fl i a.1, heavy := st.heavy }) := by
      refine ⟨fun hh => ⟨?_, rfl, ?_, ?_, ?_⟩, ?_, ?_⟩
      · show a.2.2.deep = _; rw [(k3 hh).1.deep]
      · show _ ≤ (setBody a.2.2.fl i a.1).length; rw [setBody_length]; exact hg1
      · show (setBody a.2.2.fl i a.1).length + a.2.2.us.length ≤ _; rw [setBody_length]; exact hg2
      · show a.2.2.us.length ≤ _; have := (k3 hh).2; exact Nat.le_of_lt this
      · show _ ≤ (setBody a.2.2.fl i a.1).length; rw [setBody_length]; exact hg1
      · show (setBody a.2.2.fl i a.1).length + a.2.2.us.length ≤ _; rw [setBody_length]; exact hg2
    clear HCB h3 h4 b3 k3 g3 hsv'
    go_wp2_with fail
    go_ret
    rw [HN.out]
    exact ⟨rfl, ⟨_, H5.out⟩, HB5.out, HK3.out.1, HK3.out.2⟩

end Go.Proofs.Ytiaibigmbflpiaa
