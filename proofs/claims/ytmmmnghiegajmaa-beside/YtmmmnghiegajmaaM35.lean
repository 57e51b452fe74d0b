import Derived.Test.YtmmmnghiegajmaaM34
/- The law Beside is walked. -/
namespace Go.Proofs.Ytmmmnghiegajmaa
open Go.RowKit Go.Proofs.Herald
set_option maxRecDepth 40000 in
set_option maxHeartbeats 8000000 in
theorem beside_walk (key ticks : Int) (which : Bool) (w : World) (t1 : -9223372036854775808 ≤ ticks) (t2 : ticks ≤ 9223372036854775807) (k1 : -9223372036854775808 ≤ key) (k2 : key ≤ 9223372036854775807) :
    Calls Try.prog 11 #[.int .i64 key, .int .i64 ticks, .bool which] w fun e w' => e = .returned (.bool true) ∧ Below w.heap.size w w' := by
  obtain ⟨p1, p2⟩ := pickI_bound ticks 90 (by omega)
  obtain ⟨p3, p4⟩ := pickI_bound key 8 (by omega)
  obtain ⟨N, hN⟩ : ∃ N : Nat, 1 + pickI ticks 90 = (N : Nat) := ⟨(1 + pickI ticks 90).toNat, by omega⟩
  obtain ⟨K, hK⟩ : ∃ K : Nat, pickI key 8 = (K : Nat) := ⟨(pickI key 8).toNat, by omega⟩
  have hN1 : 1 ≤ N := by omega
  have hN2 : N ≤ 90 := by omega
  have hK8 : K < 8 := by omega
  have HTK : Hid (∀ W, Calls Try.prog 23 #[.int .i64 ticks, .int .i64 90] W _) := fun W => c_pick ticks 90 W (by omega) t1 t2
  have HKY : Hid (∀ W, Calls Try.prog 23 #[.int .i64 key, .int .i64 8] W _) := fun W => c_pick key 8 W (by omega) k1 k2
  have hpn : pickI ticks 90 = (N : Int) - 1 := by omega
  rw [hpn] at HTK
  rw [hK] at HKY
  have HL0 : Hid (∀ W, Calls Try.prog 24 #[.int .i64 (K : Nat)] W fun e w' => ∃ s : ByteArray, e = .returned (.string s) ∧ s.data.toList = letterB K ∧ Below W.heap.size W w') := fun W => by
    have h1 := c_letter (K : Nat) W (by omega) (by omega)
    have e : (pickI (K : Nat) 8).toNat = K := by unfold pickI; rw [if_neg (by omega)]; omega
    rw [e] at h1
    exact h1
  have HDG : Hid (∀ W, Calls Try.prog 25 #[.int .i64 (N : Nat)] W fun e w' => ∃ s : ByteArray, e = .returned (.string s) ∧ s.data.toList = digitsB N ∧ Below W.heap.size W w') := fun W => by
    have h1 := c_digits (N : Nat) W (by omega) (by omega)
    rw [Int.toNat_natCast] at h1
    exact h1
  have HSZ : Hid (∀ s : ByteArray, s.data.toList.length = s.size) := fun s => by simp
  have HDZ : Hid ((digitsB N).length ≤ 3) := (digits_all N (by omega)).2.2.2
  clear hN hK p1 p2 p3 p4 t1 t2 k1 k2
  go_enter Try.func11, Try.ntmps11
  go_wp2_with fail
  refine (HKY.out _).mono ?_
  rintro e w1 ⟨rfl, rfl⟩
  go_wp2_with fail
  refine (HTK.out _).mono ?_
  rintro e w2 ⟨rfl, rfl⟩
  have hn' : 1 + ((N : Int) - 1) = N := by omega
  go_wp2_with fail
  refine (HL0.out _).mono ?_
  rintro e w3 ⟨a0, rfl, h0, b3⟩
  have z0 : a0.size = 1 := by rw [← HSZ.out, h0]; rfl
  have H0 : Hid (a0.data.toList = letterB K ∧ Below w2.heap.size w2 w3) := ⟨h0, b3⟩
  clear h0 b3 hn' hpn HTK HKY
  go_wp2_with fail
  refine (HDG.out _).mono ?_
  rintro e w4 ⟨dg, rfl, hdg, b4⟩
  have zd : dg.size ≤ 3 := by rw [← HSZ.out, hdg]; exact HDZ.out
  have H1 : Hid (dg.data.toList = digitsB N ∧ Below w2.heap.size w2 w4) := ⟨hdg, H0.out.2.trans (b4.mono H0.out.2.size)⟩
  clear hdg b4 HDG
  go_wp2_with fail
  refine (HL0.out _).mono ?_
  rintro e w5 ⟨a1, rfl, h1, b5⟩
  have z1 : a1.size = 1 := by rw [← HSZ.out, h1]; rfl
  have H2 : Hid (a1.data.toList = letterB K ∧ Below w2.heap.size w2 w5) := ⟨h1, H1.out.2.trans (b5.mono H1.out.2.size)⟩
  clear h1 b5 HL0
  go_wp2_with fail
  generalize hT : ((⟨#[115, 101, 110, 100, 32]⟩ : ByteArray) ++ a0 ++ ⟨#[32, 119, 97, 105, 116, 32]⟩ ++ dg ++ ⟨#[32, 115, 101, 110, 100, 32]⟩ ++ a1 ++ ⟨#[32, 119, 97, 105, 116, 32, 57]⟩) = T
  obtain ⟨hsz, tr, hok, hcode⟩ := bes_text (t := T) hN1 hN2 (by rw [← hT]; exact bes_bytes H0.out.1 H2.out.1 H1.out.1 rfl rfl rfl rfl)
  have HOP := opened_ok hsz hok (by rw [hcode]; show 0 < 4; omega) w5
  rw [hcode, bes_first] at HOP
  have HB5 : Hid (Below w2.heap.size w2 w5) := H2.out.2
  clear hT hsz hok hcode H0 H1 H2 z0 z1 zd HSZ HDZ
  refine HOP.mono ?_
  rintro e w7 ⟨G, H, cv, s, rfl, hg, b7⟩
  have HGM : Hid (Game w5.heap.size (besC K N) 1 (besH 0 1 [⟨0, 1, 1, (K % 8 : Nat)⟩] [besP 1 1 (0 + (N : Int)) 2]) w7 G H cv s ∧ Below w2.heap.size w2 w7) := ⟨hg, HB5.out.trans (b7.mono HB5.out.size)⟩
  have hG7 : w7.cell? ⟨G, 0, none⟩ = some (.pointer (some ⟨H, 0, none⟩)) := (cell_of_heap hg.g).trans rfl
  have hGl : G < w7.heap.size := heap_lt hg.g
  clear hg b7 HOP
  have HT0 : Hid (GTo (besC K N) 1 (besH 0 1 [⟨0, 1, 1, (K % 8 : Nat)⟩] [besP 1 1 (0 + (N : Int)) 2]) w7 H s w7) := HGM.out.1.ga.tow
  have HKM : Hid ((K % 8 : Nat) = K) := Nat.mod_eq_of_lt hK8
  have A1 : Hid (Calls Try.prog 28 #[.pointer (some ⟨H, 0, none⟩), .int .i64 0] w7 fun e w' => e = .returned (.tuple #[.int .i64 2, .int .i64 0]) ∧ GTo (besC K N) 2 (besH 0 2 [⟨0, 1, 1, (K % 8 : Nat)⟩, ⟨0, 2, 1, (K % 8 : Nat)⟩] [besP 1 1 (0 + (N : Int)) 2, besP 2 1 (0 + (N : Int)) 2]) w7 H s w') := by
    have h := t_Trigger 0 w7 HT0.out (by omega)
    rw [bes_second] at h
    exact h
  go_wp2_with fail
  refine A1.out.mono ?_
  rintro e w8 ⟨rfl, g8⟩
  have HT8 : Hid (GTo _ _ _ _ _ _ w8) := g8
  have hG8 : w8.cell? ⟨G, 0, none⟩ = some (.pointer (some ⟨H, 0, none⟩)) := (cell_of_heap (HGM.out.1.cell g8)).trans rfl
  clear g8 A1 hG7
  go_wp2_with fail
  refine (t_Show _ HT8.out).mono ?_
  rintro e w9 ⟨sv, uv, rfl, hsv, huv, b9⟩
  rw [show (besH 0 2 [⟨0, 1, 1, (K % 8 : Nat)⟩, ⟨0, 2, 1, (K % 8 : Nat)⟩] [besP 1 1 (0 + (N : Int)) 2, besP 2 1 (0 + (N : Int)) 2]).now = 0 from rfl]
  obtain ⟨ra, rc, rfl⟩ := ownsRow_slice hsv
  have hq : (besH 0 2 [⟨0, 1, 1, (K % 8 : Nat)⟩, ⟨0, 2, 1, (K % 8 : Nat)⟩] [besP 1 1 (0 + (N : Int)) 2, besP 2 1 (0 + (N : Int)) 2]).qs 0 ++ (besH 0 2 [⟨0, 1, 1, (K % 8 : Nat)⟩, ⟨0, 2, 1, (K % 8 : Nat)⟩] [besP 1 1 (0 + (N : Int)) 2, besP 2 1 (0 + (N : Int)) 2]).qs 1 ++ (besH 0 2 [⟨0, 1, 1, (K % 8 : Nat)⟩, ⟨0, 2, 1, (K % 8 : Nat)⟩] [besP 1 1 (0 + (N : Int)) 2, besP 2 1 (0 + (N : Int)) 2]).qs 2 = [⟨0, 1, 1, (K : Nat)⟩, ⟨0, 2, 1, (K : Nat)⟩] := by rw [HKM.out]; rfl
  rw [hq] at huv
  obtain ⟨ua, uc, rfl⟩ := ownsRow_slice huv
  have HU9 : Hid (w9.ownsRow w8.heap.size 83 4 (.slice ua 2 uc) 2 (msgsCells [⟨0, 1, 1, (K : Nat)⟩, ⟨0, 2, 1, (K : Nat)⟩]) ∧ Below w8.heap.size w8 w9) := ⟨huv, b9⟩
  rw [show (besH 0 2 [⟨0, 1, 1, (K % 8 : Nat)⟩, ⟨0, 2, 1, (K % 8 : Nat)⟩] [besP 1 1 (0 + (N : Int)) 2, besP 2 1 (0 + (N : Int)) 2]).rs.length = 2 from rfl]
  rw [show ([⟨0, 1, 1, (K : Nat)⟩, ⟨0, 2, 1, (K : Nat)⟩] : List Msg).length = 2 from rfl]
  clear hsv huv b9 hq
  go_wp2_with fail
  -- the first look at the queue
  have HW : Hid (∃ W : World, W = (w9.alloc (.cells #[.int .i64 0, .slice ra 2 rc, .slice ua 2 uc] 68)).alloc (.cells #[.int .i64 0, .int .i64 1, .int .i64 1, .int .i64 (K : Nat), .int .i64 0, .int .i64 2, .int .i64 1, .int .i64 (K : Nat)] 83)) := ⟨_, rfl⟩
  have hbW : Below w9.heap.size w9 ((w9.alloc (.cells #[.int .i64 0, .slice ra 2 rc, .slice ua 2 uc] 68)).alloc (.cells #[.int .i64 0, .int .i64 1, .int .i64 1, .int .i64 (K : Nat), .int .i64 0, .int .i64 2, .int .i64 1, .int .i64 (K : Nat)] 83)) := ((Below.refl _ _).alloc (Nat.le_refl _) _).alloc (by simp) _
  have hX : ((w9.alloc (.cells #[.int .i64 0, .slice ra 2 rc, .slice ua 2 uc] 68)).alloc (.cells #[.int .i64 0, .int .i64 1, .int .i64 1, .int .i64 (K : Nat), .int .i64 0, .int .i64 2, .int .i64 1, .int .i64 (K : Nat)] 83)).heap[w9.heap.size]? = some (.cells #[.int .i64 0, .slice ra 2 rc, .slice ua 2 uc] 68 (0, 0)) := by rw [Below.heap_alloc _ _ _ (by simp)]; exact heap_alloc_new _ _
  have hQ : ((w9.alloc (.cells #[.int .i64 0, .slice ra 2 rc, .slice ua 2 uc] 68)).alloc (.cells #[.int .i64 0, .int .i64 1, .int .i64 1, .int .i64 (K : Nat), .int .i64 0, .int .i64 2, .int .i64 1, .int .i64 (K : Nat)] 83)).heap[w9.heap.size + 1]? = some (.cells (msgsCells [⟨0, 1, 1, (K : Nat)⟩, ⟨0, 2, 1, (K : Nat)⟩]).toArray 83 (0, 0)) := heap_alloc2 _ _ _
  clear HW
  generalize (w9.alloc (.cells #[.int .i64 0, .slice ra 2 rc, .slice ua 2 uc] 68)).alloc (.cells #[.int .i64 0, .int .i64 1, .int .i64 1, .int .i64 (K : Nat), .int .i64 0, .int .i64 2, .int .i64 1, .int .i64 (K : Nat)] 83) = W9 at *
  have HSQ := k_sameQueue [⟨0, 1, 1, (K : Nat)⟩, ⟨0, 2, 1, (K : Nat)⟩] ua (some ⟨w9.heap.size + 1, 0, none⟩) uc 2 W9 (own0 (own_stays HU9.out.1 fun k hk => hbW.block k (by obtain ⟨_, cur, hc⟩ := ownsRow_lies HU9.out.1 hk; exact heap_lt hc))) (made_row hQ (by simp)) (by simp)
  have H9 : Hid (Below w9.heap.size w9 W9 ∧ W9.heap[w9.heap.size]? = some (.cells #[.int .i64 0, .slice ra 2 rc, .slice ua 2 uc] 68 (0, 0))) := ⟨hbW, hX⟩
  clear hbW hX hQ
  refine HSQ.mono ?_
  rintro e w10 ⟨rfl, hs10⟩
  have hX10 : w10.heap[w9.heap.size]? = some (.cells #[.int .i64 0, .slice ra 2 rc, .slice ua 2 uc] 68 (0, 0)) := by rw [hs10.heap]; exact H9.out.2
  have x1 : w10.cell? ⟨w9.heap.size, 1, none⟩ = some (.slice ra 2 rc) := (cell_of_heap hX10).trans rfl
  have HS10 : Hid (SameH W9 w10) := hs10
  have hG10 : w10.cell? ⟨G, 0, none⟩ = some (.pointer (some ⟨H, 0, none⟩)) := by
    refine (cell_of_heap (hs10.heap ▸ (H9.out.1.block G ?_).trans ((HU9.out.2.block G ?_).trans (HGM.out.1.cell HT8.out)))).trans rfl
    · exact Nat.lt_of_lt_of_le (heap_lt (HGM.out.1.cell HT8.out)) HU9.out.2.size
    · exact heap_lt (HGM.out.1.cell HT8.out)
  clear hs10 HSQ
  obtain ⟨i8, s8, hi8, ga8, own8, fr8⟩ := HT8.out
  have H8 : Hid (GA (besC K N) i8 (besH 0 2 [⟨0, 1, 1, (K % 8 : Nat)⟩, ⟨0, 2, 1, (K % 8 : Nat)⟩] [besP 1 1 (0 + (N : Int)) 2, besP 2 1 (0 + (N : Int)) 2]) w10 H s8 ∧ (∀ k, s8.own H k → w5.heap.size ≤ k ∧ k < w8.heap.size) ∧ ¬ s8.own H G ∧ Below w2.heap.size w2 w10 ∧ w10.heap[G]? = some (.cells #[.pointer (some ⟨H, 0, none⟩), cv] 78 (0, 0)) ∧ w8.heap.size ≤ w9.heap.size ∧ w2.heap.size ≤ w9.heap.size ∧ w9.heap.size < w10.heap.size) := by
    have hG8' := HGM.out.1.cell HT8.out
    have hGl8 := heap_lt hG8'
    have s5 := HB5.out.size
    have s7 := HGM.out.1.B
    have s9 := HU9.out.2.size
    have sW := H9.out.1.size
    have hh := HS10.out.heap
    have b810 : Below w8.heap.size w8 w10 := (HU9.out.2.trans (H9.out.1.mono s9)).trans ⟨HS10.out.os, HS10.out.tape, HS10.out.output, by rw [hh]; exact Nat.le_refl _, fun k _ => by rw [hh]⟩
    have own5 : ∀ k, s8.own H k → w5.heap.size ≤ k := fun k hk => by
      rcases own8 k hk with h | h
      · exact (HGM.out.1.own k h).1
      · omega
    have f28 : Below w2.heap.size w2 w8 := HGM.out.2.trans ⟨fr8.os, fr8.tape, fr8.output, fr8.size, fun k hk => fr8.block k (by have := HGM.out.2.size; omega) fun ho => by have := (HGM.out.1.own k ho).1; omega⟩
    have f210 := f28.trans (b810.mono f28.size)
    refine ⟨ga8.below b810, fun k hk => ⟨own5 k hk, ga8.lt hk⟩, fun ho => ?_, f210, (b810.block G hGl8).trans hG8', s9, by have := f28.size; omega, ?_⟩
    · rcases own8 _ ho with h | h
      · exact (HGM.out.1.own G h).2 rfl
      · omega
    · rw [hh]
      exact heap_lt H9.out.2
  clear ga8 own8 fr8 H9 HS10 HU9
  have HK10 : Hid (KS w2.heap.size (besC K N) i8 (besH 0 2 [⟨0, 1, 1, (K % 8 : Nat)⟩, ⟨0, 2, 1, (K % 8 : Nat)⟩] [besP 1 1 (0 + (N : Int)) 2, besP 2 1 (0 + (N : Int)) 2]) w2 H (fun k => k = G ∨ k = w9.heap.size) w10) := by
    have s5 := HB5.out.size
    refine ⟨i8, s8, Nat.le_refl _, H8.out.1, fun k hk => ⟨by have := (H8.out.2.1 k hk).1; omega, ?_⟩, ?_, H8.out.2.2.2.1, H8.out.2.2.2.1.size⟩
    · rintro (rfl | rfl)
      · exact H8.out.2.2.1 hk
      · have := (H8.out.2.1 _ hk).2
        have := H8.out.2.2.2.2.2.1
        omega
    · rintro k (rfl | rfl)
      · exact heap_lt H8.out.2.2.2.2.1
      · exact H8.out.2.2.2.2.2.2.2
  have HG10 : Hid (w10.heap[G]? = some (.cells #[.pointer (some ⟨H, 0, none⟩), cv] 78 (0, 0)) ∧ w10.heap[w9.heap.size]? = some (.cells #[.int .i64 0, .slice ra 2 rc, .slice ua 2 uc] 68 (0, 0)) ∧ w2.heap.size ≤ w9.heap.size ∧ G ≠ w9.heap.size) := ⟨H8.out.2.2.2.2.1, hX10, H8.out.2.2.2.2.2.2.1, fun he => by
    have h3 := H8.out.2.2.2.2.1
    rw [he, hX10] at h3
    simp at h3⟩
  clear H8 hX10
  have A2 : Hid (Calls Try.prog 33 #[.pointer (some ⟨H, 0, none⟩), .int .i64 (N : Nat)] w10 fun e w' => e = .returned (.int .i64 0) ∧ KS w2.heap.size (besC K N) (i8 + 1) (besH N 2 [⟨0, 1, 2, (K % 8 : Nat)⟩, ⟨0, 2, 2, (K % 8 : Nat)⟩] [besP 1 2 ((N : Int) + 9) 4, besP 2 2 ((N : Int) + 9) 4]) w2 H (fun k => k = G ∨ k = w9.heap.size) w' ∧ ∀ k, (k = G ∨ k = w9.heap.size) → w'.heap[k]? = w10.heap[k]?) := by
    have h := ks_Tick (N : Nat) w10 HK10.out (by omega)
    rw [bes_tick K N hN1 hN2] at h
    exact h
  go_wp2_with fail
  refine A2.out.mono ?_
  rintro e w11 ⟨rfl, k11, p11⟩
  have hG11' := (p11 G (.inl rfl)).trans HG10.out.1
  have hX11 := (p11 _ (.inr rfl)).trans HG10.out.2.1
  have hG11 : w11.cell? ⟨G, 0, none⟩ = some (.pointer (some ⟨H, 0, none⟩)) := (cell_of_heap hG11').trans rfl
  have HK11 : Hid (KS w2.heap.size (besC K N) (i8 + 1) (besH N 2 [⟨0, 1, 2, (K % 8 : Nat)⟩, ⟨0, 2, 2, (K % 8 : Nat)⟩] [besP 1 2 ((N : Int) + 9) 4, besP 2 2 ((N : Int) + 9) 4]) w2 H (fun k => k = G ∨ k = w9.heap.size) w11) := k11
  clear k11 p11 A2 HK10 hG10
  go_wp2_with fail
  refine (ks_Show _ HK11.out).mono ?_
  rintro e w12 ⟨sv, uv, rfl, hsv, huv, b12⟩
  rw [show (besH N 2 [⟨0, 1, 2, (K % 8 : Nat)⟩, ⟨0, 2, 2, (K % 8 : Nat)⟩] [besP 1 2 ((N : Int) + 9) 4, besP 2 2 ((N : Int) + 9) 4]).now = (N : Nat) from rfl]
  obtain ⟨ra2, rc2, rfl⟩ := ownsRow_slice hsv
  have hq : (besH N 2 [⟨0, 1, 2, (K % 8 : Nat)⟩, ⟨0, 2, 2, (K % 8 : Nat)⟩] [besP 1 2 ((N : Int) + 9) 4, besP 2 2 ((N : Int) + 9) 4]).qs 0 ++ (besH N 2 [⟨0, 1, 2, (K % 8 : Nat)⟩, ⟨0, 2, 2, (K % 8 : Nat)⟩] [besP 1 2 ((N : Int) + 9) 4, besP 2 2 ((N : Int) + 9) 4]).qs 1 ++ (besH N 2 [⟨0, 1, 2, (K % 8 : Nat)⟩, ⟨0, 2, 2, (K % 8 : Nat)⟩] [besP 1 2 ((N : Int) + 9) 4, besP 2 2 ((N : Int) + 9) 4]).qs 2 = [⟨0, 1, 2, (K : Nat)⟩, ⟨0, 2, 2, (K : Nat)⟩] := by rw [HKM.out]; rfl
  rw [hq] at huv
  obtain ⟨ua2, uc2, rfl⟩ := ownsRow_slice huv
  have HU12 : Hid (w12.ownsRow w11.heap.size 83 4 (.slice ua2 2 uc2) 2 (msgsCells [⟨0, 1, 2, (K : Nat)⟩, ⟨0, 2, 2, (K : Nat)⟩]) ∧ Below w11.heap.size w11 w12) := ⟨huv, b12⟩
  rw [show (besH N 2 [⟨0, 1, 2, (K % 8 : Nat)⟩, ⟨0, 2, 2, (K % 8 : Nat)⟩] [besP 1 2 ((N : Int) + 9) 4, besP 2 2 ((N : Int) + 9) 4]).rs.length = 2 from rfl]
  rw [show ([⟨0, 1, 2, (K : Nat)⟩, ⟨0, 2, 2, (K : Nat)⟩] : List Msg).length = 2 from rfl]
  have hX12 := (b12.block _ (heap_lt hX11)).trans hX11
  have hG12 := (b12.block _ (heap_lt hG11')).trans hG11'
  have x0 : w12.cell? ⟨w9.heap.size, 0, none⟩ = some (.int .i64 0) := (cell_of_heap hX12).trans rfl
  have x1' : w12.cell? ⟨w9.heap.size, 1, none⟩ = some (.slice ra 2 rc) := (cell_of_heap hX12).trans rfl
  have x2 : w12.cell? ⟨w9.heap.size, 2, none⟩ = some (.slice ua 2 uc) := (cell_of_heap hX12).trans rfl
  have y0 : w12.frozen? ⟨w9.heap.size, 0, none⟩ = false := free_of_heap hX12
  have y1 : w12.frozen? ⟨w9.heap.size, 1, none⟩ = false := free_of_heap hX12
  have y2 : w12.frozen? ⟨w9.heap.size, 2, none⟩ = false := free_of_heap hX12
  have hXl : w9.heap.size < w12.heap.size := heap_lt hX12
  have HX : Hid (w12.heap[w9.heap.size]? = some (.cells #[.int .i64 0, .slice ra 2 rc, .slice ua 2 uc] 68 (0, 0)) ∧ w12.heap[G]? = some (.cells #[.pointer (some ⟨H, 0, none⟩), cv] 78 (0, 0)) ∧ w9.heap.size < w11.heap.size) := ⟨hX12, hG12, heap_lt hX11⟩
  have HK12 : Hid (KS w2.heap.size (besC K N) (i8 + 1) (besH N 2 [⟨0, 1, 2, (K % 8 : Nat)⟩, ⟨0, 2, 2, (K % 8 : Nat)⟩] [besP 1 2 ((N : Int) + 9) 4, besP 2 2 ((N : Int) + 9) 4]) w2 H (fun k => k = G ∨ k = w9.heap.size) w12) := HK11.out.below b12
  clear hsv huv b12 hq x1 hX11 hX12 hG12 hG11 hG11' HK11
  go_wp2_with fail
  obtain ⟨V, hV⟩ : ∃ V, V = ((w12.setCell ⟨w9.heap.size, 0, none⟩ (.int .i64 (N : Nat))).setCell ⟨w9.heap.size, 1, none⟩ (.slice ra2 2 rc2)).setCell ⟨w9.heap.size, 2, none⟩ (.slice ua2 2 uc2) := ⟨_, rfl⟩
  rw [← hV]
  have HV : Hid (V.heap[w9.heap.size]? = some (.cells #[.int .i64 (N : Nat), .slice ra2 2 rc2, .slice ua2 2 uc2] 68 (0, 0)) ∧ (∀ k, k ≠ w9.heap.size → V.heap[k]? = w12.heap[k]?) ∧ KS w2.heap.size (besC K N) (i8 + 1) (besH N 2 [⟨0, 1, 2, (K % 8 : Nat)⟩, ⟨0, 2, 2, (K % 8 : Nat)⟩] [besP 1 2 ((N : Int) + 9) 4, besP 2 2 ((N : Int) + 9) 4]) w2 H (fun k => k = G ∨ k = w9.heap.size) V ∧ V.heap.size = w12.heap.size) := by
    rw [hV]
    exact ⟨state_set HX.out.1, fun k hk => set3_other hk, HK12.out.set3 _ _ _ _ (.inr rfl) HG10.out.2.2.1, by simp⟩
  clear hV x0 x1' x2 y0 y1 y2 HK12
  obtain ⟨U, hU⟩ : ∃ U, U = V.alloc (.cells #[.int .i64 0, .int .i64 1, .int .i64 2, .int .i64 (K : Nat), .int .i64 0, .int .i64 2, .int .i64 2, .int .i64 (K : Nat)] 83) := ⟨_, rfl⟩
  rw [← hU]
  have HU : Hid (U.heap[w12.heap.size]? = some (.cells (msgsCells [⟨0, 1, 2, (K : Nat)⟩, ⟨0, 2, 2, (K : Nat)⟩]).toArray 83 (0, 0)) ∧ (∀ k, k < w12.heap.size → U.heap[k]? = V.heap[k]?) ∧ KS w2.heap.size (besC K N) (i8 + 1) (besH N 2 [⟨0, 1, 2, (K % 8 : Nat)⟩, ⟨0, 2, 2, (K % 8 : Nat)⟩] [besP 1 2 ((N : Int) + 9) 4, besP 2 2 ((N : Int) + 9) 4]) w2 H (fun k => k = G ∨ k = w9.heap.size) U) := by
    rw [hU]
    refine ⟨by rw [← HV.out.2.2.2]; exact heap_alloc_new _ _, fun k hk => Below.heap_alloc _ _ _ (by rw [HV.out.2.2.2]; exact hk), HV.out.2.2.1.below ((Below.refl _ _).alloc (Nat.le_refl _) _)⟩
  clear hU
  have HSQ := k_sameQueue [⟨0, 1, 2, (K : Nat)⟩, ⟨0, 2, 2, (K : Nat)⟩] ua2 (some ⟨w12.heap.size, 0, none⟩) uc2 2 U (own0 (own_stays HU12.out.1 fun k hk => by
    obtain ⟨g1, cur, hc⟩ := ownsRow_lies HU12.out.1 hk
    have := HX.out.2.2
    exact (HU.out.2.1 k (heap_lt hc)).trans (HV.out.2.1 k (by omega)))) (made_row HU.out.1 (by simp)) (by simp)
  refine HSQ.mono ?_
  rintro e w13 ⟨rfl, hs13⟩
  have hX13 : w13.heap[w9.heap.size]? = some (.cells #[.int .i64 (N : Nat), .slice ra2 2 rc2, .slice ua2 2 uc2] 68 (0, 0)) := by rw [hs13.heap]; exact (HU.out.2.1 _ (heap_lt HX.out.1)).trans HV.out.1
  have hG13 : w13.heap[G]? = some (.cells #[.pointer (some ⟨H, 0, none⟩), cv] 78 (0, 0)) := by rw [hs13.heap]; exact (HU.out.2.1 _ (heap_lt HX.out.2.1)).trans ((HV.out.2.1 G HG10.out.2.2.2).trans HX.out.2.1)
  have HK13 : Hid (KS w2.heap.size (besC K N) (i8 + 1) (besH N 2 [⟨0, 1, 2, (K % 8 : Nat)⟩, ⟨0, 2, 2, (K % 8 : Nat)⟩] [besP 1 2 ((N : Int) + 9) 4, besP 2 2 ((N : Int) + 9) 4]) w2 H (fun k => k = G ∨ k = w9.heap.size) w13 ∧ w13.heap[w9.heap.size]? = some (.cells #[.int .i64 (N : Nat), .slice ra2 2 rc2, .slice ua2 2 uc2] 68 (0, 0)) ∧ w13.heap[G]? = some (.cells #[.pointer (some ⟨H, 0, none⟩), cv] 78 (0, 0))) := ⟨HU.out.2.2.same hs13, hX13, hG13⟩
  have x1 : w13.cell? ⟨w9.heap.size, 1, none⟩ = some (.slice ra2 2 rc2) := (cell_of_heap hX13).trans rfl
  have hGc13 : w13.cell? ⟨G, 0, none⟩ = some (.pointer (some ⟨H, 0, none⟩)) := (cell_of_heap hG13).trans rfl
  clear HSQ hs13 HU HV HX HU12 hX13 hG13 hXl
  obtain ⟨gone, oth, hgo⟩ : ∃ gone oth : Int, (which = false ∧ gone = 1 ∧ oth = 2) ∨ (which = true ∧ gone = 2 ∧ oth = 1) := by
    cases which
    · exact ⟨1, 2, .inl ⟨rfl, rfl, rfl⟩⟩
    · exact ⟨2, 1, .inr ⟨rfl, rfl, rfl⟩⟩
  have A3 : Hid (Calls Try.prog 40 #[.pointer (some ⟨H, 0, none⟩), .int .i64 gone] w13 fun e w' => e = .returned (.int .i64 0) ∧ KS w2.heap.size (besC K N) (i8 + 1 + 1) (besH N 2 [⟨0, oth, 2, (K % 8 : Nat)⟩] [besP oth 2 ((N : Int) + 9) 4]) w2 H (fun k => k = G ∨ k = w9.heap.size) w' ∧ ∀ k, (k = G ∨ k = w9.heap.size) → w'.heap[k]? = w13.heap[k]?) := by
    have h := ks_Cancel gone w13 HK13.out.1 (by omega)
    rcases hgo with ⟨_, rfl, rfl⟩ | ⟨_, rfl, rfl⟩
    · rw [(bes_cancel K N _ _ _).1] at h
      exact h
    · rw [(bes_cancel K N _ _ _).2] at h
      exact h
  rcases hgo with ⟨rfl, rfl, rfl⟩ | ⟨rfl, rfl, rfl⟩
  · go_wp2_with fail
    refine A3.out.mono ?_
    rintro e w14 ⟨rfl, k14, p14⟩
    have hG14 := (p14 G (.inl rfl)).trans HK13.out.2.2
    have hX14 := (p14 _ (.inr rfl)).trans HK13.out.2.1
    have hGc14 : w14.cell? ⟨G, 0, none⟩ = some (.pointer (some ⟨H, 0, none⟩)) := (cell_of_heap hG14).trans rfl
    have HK14 := (show Hid _ from k14 : Hid (KS w2.heap.size (besC K N) _ _ w2 H (fun k => k = G ∨ k = w9.heap.size) w14))
    clear k14 p14 A3 x1 hGc13
    go_wp2_with fail
    refine (ks_Show _ HK14.out).mono ?_
    rintro e w15 ⟨sv, uv, rfl, hsv, huv, b15⟩
    have hnow : ∀ q rs, (besH N 2 q rs).now = (N : Nat) := fun _ _ => rfl
    have hrs : ∀ q rs, (besH N 2 q rs).rs = rs := fun _ _ => rfl
    have hqs : ∀ q rs, (besH N 2 q rs).qs 0 ++ (besH N 2 q rs).qs 1 ++ (besH N 2 q rs).qs 2 = q := fun q rs => by simp [besH]
    rw [hnow]
    rw [hrs] at hsv
    rw [hqs, HKM.out] at huv
    clear hnow hrs hqs
    obtain ⟨gr, cr, rfl, hgr, r0, r1, r2, r3, r4⟩ := run_row (r := ⟨2, 0, 2, (N : Int) + 9, 0⟩) hsv
    obtain ⟨ua3, uc3, rfl⟩ := ownsRow_slice huv
    rw [show ∀ m : Msg, [m].length = 1 from fun _ => rfl] at huv ⊢
    have hX15 := (b15.block _ (heap_lt hX14)).trans hX14
    have hG15 := (b15.block _ (heap_lt hG14)).trans hG14
    have x0 : w15.cell? ⟨w9.heap.size, 0, none⟩ = some (.int .i64 (N : Nat)) := (cell_of_heap hX15).trans rfl
    have x1 : w15.cell? ⟨w9.heap.size, 1, none⟩ = some (.slice ra2 2 rc2) := (cell_of_heap hX15).trans rfl
    have x2 : w15.cell? ⟨w9.heap.size, 2, none⟩ = some (.slice ua2 2 uc2) := (cell_of_heap hX15).trans rfl
    have y0 : w15.frozen? ⟨w9.heap.size, 0, none⟩ = false := free_of_heap hX15
    have y1 : w15.frozen? ⟨w9.heap.size, 1, none⟩ = false := free_of_heap hX15
    have y2 : w15.frozen? ⟨w9.heap.size, 2, none⟩ = false := free_of_heap hX15
    have hXl : w9.heap.size < w15.heap.size := heap_lt hX15
    have hgr14 : w14.heap.size ≤ gr := (ownsRow_lies hsv (k := gr) rfl).1
    have HX := (show Hid _ from ⟨hX15, hG15, heap_lt hX14, huv, b15, hgr14, hgr⟩ : Hid (w15.heap[w9.heap.size]? = some (.cells #[.int .i64 (N : Nat), .slice ra2 2 rc2, .slice ua2 2 uc2] 68 (0, 0)) ∧ w15.heap[G]? = some (.cells #[.pointer (some ⟨H, 0, none⟩), cv] 78 (0, 0)) ∧ w9.heap.size < w14.heap.size ∧ w15.ownsRow w14.heap.size 83 4 (.slice ua3 1 uc3) 1 (msgsCells [⟨0, 2, 2, (K : Nat)⟩]) ∧ Below w14.heap.size w14 w15 ∧ w14.heap.size ≤ gr ∧ gr < w15.heap.size))
    have HR := (show Hid _ from ⟨r0, r1, r2, r3, r4⟩ : Hid (w15.cell? ⟨gr, 0, none⟩ = some (.int .i64 2) ∧ w15.cell? ⟨gr, 1, none⟩ = some (.int .i64 0) ∧ w15.cell? ⟨gr, 2, none⟩ = some (.int .i64 2) ∧ w15.cell? ⟨gr, 3, none⟩ = some (.int .i64 ((N : Int) + 9)) ∧ w15.cell? ⟨gr, 4, none⟩ = some (.int .i64 0)))
    have HK15 := (show Hid _ from HK14.out.below b15 : Hid (KS w2.heap.size (besC K N) _ _ w2 H (fun k => k = G ∨ k = w9.heap.size) w15))
    clear hsv huv b15 hX14 hX15 hG14 hG15 hGc14 HK14 r0 r1 r2 r3 r4 hgr14
    go_wp2_with fail
    obtain ⟨V, hV⟩ : ∃ V, V = ((w15.setCell ⟨w9.heap.size, 0, none⟩ (.int .i64 (N : Nat))).setCell ⟨w9.heap.size, 1, none⟩ (.slice (some ⟨gr, 0, none⟩) 1 cr)).setCell ⟨w9.heap.size, 2, none⟩ (.slice ua3 1 uc3) := ⟨_, rfl⟩
    rw [← hV]
    have HV := (show Hid _ from by
      rw [hV]
      exact ⟨state_set HX.out.1, fun k hk => set3_other hk, HK15.out.set3 _ _ _ _ (.inr rfl) HG10.out.2.2.1, by simp⟩ : Hid (V.heap[w9.heap.size]? = some (.cells #[.int .i64 (N : Nat), .slice (some ⟨gr, 0, none⟩) 1 cr, .slice ua3 1 uc3] 68 (0, 0)) ∧ (∀ k, k ≠ w9.heap.size → V.heap[k]? = w15.heap[k]?) ∧ KS w2.heap.size (besC K N) _ _ w2 H (fun k => k = G ∨ k = w9.heap.size) V ∧ V.heap.size = w15.heap.size))
    clear hV x0 x1 x2 y0 y1 y2 HK15
    obtain ⟨U, hU⟩ : ∃ U, U = V.alloc (.cells #[.int .i64 0, .int .i64 2, .int .i64 2, .int .i64 (K : Nat)] 83) := ⟨_, rfl⟩
    rw [← hU]
    have HU := (show Hid _ from by
      rw [hU]
      exact ⟨by rw [← HV.out.2.2.2]; exact heap_alloc_new _ _, fun k hk => Below.heap_alloc _ _ _ (by rw [HV.out.2.2.2]; exact hk), HV.out.2.2.1.below ((Below.refl _ _).alloc (Nat.le_refl _) _)⟩ : Hid (U.heap[w15.heap.size]? = some (.cells (msgsCells [⟨0, 2, 2, (K : Nat)⟩]).toArray 83 (0, 0)) ∧ (∀ k, k < w15.heap.size → U.heap[k]? = V.heap[k]?) ∧ KS w2.heap.size (besC K N) _ _ w2 H (fun k => k = G ∨ k = w9.heap.size) U))
    clear hU
    have HSQ := k_sameQueue [⟨0, 2, 2, (K : Nat)⟩] ua3 (some ⟨w15.heap.size, 0, none⟩) uc3 1 U (own0 (own_stays HX.out.2.2.2.1 fun k hk => by
      obtain ⟨g1, cur, hc⟩ := ownsRow_lies HX.out.2.2.2.1 hk
      have := HX.out.2.2.1
      exact (HU.out.2.1 k (heap_lt hc)).trans (HV.out.2.1 k (by omega)))) (made_row HU.out.1 (by simp)) (by simp)
    refine HSQ.mono ?_
    rintro e w16 ⟨rfl, hs16⟩
    have hX16 : w16.heap[w9.heap.size]? = some (.cells #[.int .i64 (N : Nat), .slice (some ⟨gr, 0, none⟩) 1 cr, .slice ua3 1 uc3] 68 (0, 0)) := by rw [hs16.heap]; exact (HU.out.2.1 _ (heap_lt HX.out.1)).trans HV.out.1
    have hgc : ∀ j, w16.cell? ⟨gr, j, none⟩ = w15.cell? ⟨gr, j, none⟩ := fun j => by
      have e1 : w16.heap[gr]? = w15.heap[gr]? := by rw [hs16.heap]; exact (HU.out.2.1 gr HX.out.2.2.2.2.2.2).trans (HV.out.2.1 gr (by have := HX.out.2.2.1; have := HX.out.2.2.2.2.2.1; omega))
      simp only [World.cell?, e1]
    have HB16 : Hid (Below w2.heap.size w2 w16) := (HU.out.2.2.same hs16).back
    have x1 : w16.cell? ⟨w9.heap.size, 1, none⟩ = some (.slice (some ⟨gr, 0, none⟩) 1 cr) := (cell_of_heap hX16).trans rfl
    have r0 := (hgc 0).trans HR.out.1
    have r1 := (hgc 1).trans HR.out.2.1
    have r2 := (hgc 2).trans HR.out.2.2.1
    have r3 := (hgc 3).trans HR.out.2.2.2.1
    have r4 := (hgc 4).trans HR.out.2.2.2.2
    have hgl : gr < w16.heap.size := by rw [hs16.heap]; have := heap_lt HU.out.1; have := HX.out.2.2.2.2.2.2; omega
    have hXl' : w9.heap.size < w16.heap.size := heap_lt hX16
    clear HSQ hs16 HU HV HX HR hgc hXl hgr hX16
    go_wp2_with fail
    go_ret
    exact ⟨rfl, by first | exact HB16.out | exact HB16.out.alloc HB16.out.size _⟩
  · go_wp2_with fail
    refine A3.out.mono ?_
    rintro e w14 ⟨rfl, k14, p14⟩
    have hG14 := (p14 G (.inl rfl)).trans HK13.out.2.2
    have hX14 := (p14 _ (.inr rfl)).trans HK13.out.2.1
    have hGc14 : w14.cell? ⟨G, 0, none⟩ = some (.pointer (some ⟨H, 0, none⟩)) := (cell_of_heap hG14).trans rfl
    have HK14 := (show Hid _ from k14 : Hid (KS w2.heap.size (besC K N) _ _ w2 H (fun k => k = G ∨ k = w9.heap.size) w14))
    clear k14 p14 A3 x1 hGc13
    go_wp2_with fail
    refine (ks_Show _ HK14.out).mono ?_
    rintro e w15 ⟨sv, uv, rfl, hsv, huv, b15⟩
    have hnow : ∀ q rs, (besH N 2 q rs).now = (N : Nat) := fun _ _ => rfl
    have hrs : ∀ q rs, (besH N 2 q rs).rs = rs := fun _ _ => rfl
    have hqs : ∀ q rs, (besH N 2 q rs).qs 0 ++ (besH N 2 q rs).qs 1 ++ (besH N 2 q rs).qs 2 = q := fun q rs => by simp [besH]
    rw [hnow]
    rw [hrs] at hsv
    rw [hqs, HKM.out] at huv
    clear hnow hrs hqs
    obtain ⟨gr, cr, rfl, hgr, r0, r1, r2, r3, r4⟩ := run_row (r := ⟨1, 0, 2, (N : Int) + 9, 0⟩) hsv
    obtain ⟨ua3, uc3, rfl⟩ := ownsRow_slice huv
    rw [show ∀ m : Msg, [m].length = 1 from fun _ => rfl] at huv ⊢
    have hX15 := (b15.block _ (heap_lt hX14)).trans hX14
    have hG15 := (b15.block _ (heap_lt hG14)).trans hG14
    have x0 : w15.cell? ⟨w9.heap.size, 0, none⟩ = some (.int .i64 (N : Nat)) := (cell_of_heap hX15).trans rfl
    have x1 : w15.cell? ⟨w9.heap.size, 1, none⟩ = some (.slice ra2 2 rc2) := (cell_of_heap hX15).trans rfl
    have x2 : w15.cell? ⟨w9.heap.size, 2, none⟩ = some (.slice ua2 2 uc2) := (cell_of_heap hX15).trans rfl
    have y0 : w15.frozen? ⟨w9.heap.size, 0, none⟩ = false := free_of_heap hX15
    have y1 : w15.frozen? ⟨w9.heap.size, 1, none⟩ = false := free_of_heap hX15
    have y2 : w15.frozen? ⟨w9.heap.size, 2, none⟩ = false := free_of_heap hX15
    have hXl : w9.heap.size < w15.heap.size := heap_lt hX15
    have hgr14 : w14.heap.size ≤ gr := (ownsRow_lies hsv (k := gr) rfl).1
    have HX := (show Hid _ from ⟨hX15, hG15, heap_lt hX14, huv, b15, hgr14, hgr⟩ : Hid (w15.heap[w9.heap.size]? = some (.cells #[.int .i64 (N : Nat), .slice ra2 2 rc2, .slice ua2 2 uc2] 68 (0, 0)) ∧ w15.heap[G]? = some (.cells #[.pointer (some ⟨H, 0, none⟩), cv] 78 (0, 0)) ∧ w9.heap.size < w14.heap.size ∧ w15.ownsRow w14.heap.size 83 4 (.slice ua3 1 uc3) 1 (msgsCells [⟨0, 1, 2, (K : Nat)⟩]) ∧ Below w14.heap.size w14 w15 ∧ w14.heap.size ≤ gr ∧ gr < w15.heap.size))
    have HR := (show Hid _ from ⟨r0, r1, r2, r3, r4⟩ : Hid (w15.cell? ⟨gr, 0, none⟩ = some (.int .i64 1) ∧ w15.cell? ⟨gr, 1, none⟩ = some (.int .i64 0) ∧ w15.cell? ⟨gr, 2, none⟩ = some (.int .i64 2) ∧ w15.cell? ⟨gr, 3, none⟩ = some (.int .i64 ((N : Int) + 9)) ∧ w15.cell? ⟨gr, 4, none⟩ = some (.int .i64 0)))
    have HK15 := (show Hid _ from HK14.out.below b15 : Hid (KS w2.heap.size (besC K N) _ _ w2 H (fun k => k = G ∨ k = w9.heap.size) w15))
    clear hsv huv b15 hX14 hX15 hG14 hG15 hGc14 HK14 r0 r1 r2 r3 r4 hgr14
    go_wp2_with fail
    obtain ⟨V, hV⟩ : ∃ V, V = ((w15.setCell ⟨w9.heap.size, 0, none⟩ (.int .i64 (N : Nat))).setCell ⟨w9.heap.size, 1, none⟩ (.slice (some ⟨gr, 0, none⟩) 1 cr)).setCell ⟨w9.heap.size, 2, none⟩ (.slice ua3 1 uc3) := ⟨_, rfl⟩
    rw [← hV]
    have HV := (show Hid _ from by
      rw [hV]
      exact ⟨state_set HX.out.1, fun k hk => set3_other hk, HK15.out.set3 _ _ _ _ (.inr rfl) HG10.out.2.2.1, by simp⟩ : Hid (V.heap[w9.heap.size]? = some (.cells #[.int .i64 (N : Nat), .slice (some ⟨gr, 0, none⟩) 1 cr, .slice ua3 1 uc3] 68 (0, 0)) ∧ (∀ k, k ≠ w9.heap.size → V.heap[k]? = w15.heap[k]?) ∧ KS w2.heap.size (besC K N) _ _ w2 H (fun k => k = G ∨ k = w9.heap.size) V ∧ V.heap.size = w15.heap.size))
    clear hV x0 x1 x2 y0 y1 y2 HK15
    obtain ⟨U, hU⟩ : ∃ U, U = V.alloc (.cells #[.int .i64 0, .int .i64 1, .int .i64 2, .int .i64 (K : Nat)] 83) := ⟨_, rfl⟩
    rw [← hU]
    have HU := (show Hid _ from by
      rw [hU]
      exact ⟨by rw [← HV.out.2.2.2]; exact heap_alloc_new _ _, fun k hk => Below.heap_alloc _ _ _ (by rw [HV.out.2.2.2]; exact hk), HV.out.2.2.1.below ((Below.refl _ _).alloc (Nat.le_refl _) _)⟩ : Hid (U.heap[w15.heap.size]? = some (.cells (msgsCells [⟨0, 1, 2, (K : Nat)⟩]).toArray 83 (0, 0)) ∧ (∀ k, k < w15.heap.size → U.heap[k]? = V.heap[k]?) ∧ KS w2.heap.size (besC K N) _ _ w2 H (fun k => k = G ∨ k = w9.heap.size) U))
    clear hU
    have HSQ := k_sameQueue [⟨0, 1, 2, (K : Nat)⟩] ua3 (some ⟨w15.heap.size, 0, none⟩) uc3 1 U (own0 (own_stays HX.out.2.2.2.1 fun k hk => by
      obtain ⟨g1, cur, hc⟩ := ownsRow_lies HX.out.2.2.2.1 hk
      have := HX.out.2.2.1
      exact (HU.out.2.1 k (heap_lt hc)).trans (HV.out.2.1 k (by omega)))) (made_row HU.out.1 (by simp)) (by simp)
    refine HSQ.mono ?_
    rintro e w16 ⟨rfl, hs16⟩
    have hX16 : w16.heap[w9.heap.size]? = some (.cells #[.int .i64 (N : Nat), .slice (some ⟨gr, 0, none⟩) 1 cr, .slice ua3 1 uc3] 68 (0, 0)) := by rw [hs16.heap]; exact (HU.out.2.1 _ (heap_lt HX.out.1)).trans HV.out.1
    have hgc : ∀ j, w16.cell? ⟨gr, j, none⟩ = w15.cell? ⟨gr, j, none⟩ := fun j => by
      have e1 : w16.heap[gr]? = w15.heap[gr]? := by rw [hs16.heap]; exact (HU.out.2.1 gr HX.out.2.2.2.2.2.2).trans (HV.out.2.1 gr (by have := HX.out.2.2.1; have := HX.out.2.2.2.2.2.1; omega))
      simp only [World.cell?, e1]
    have HB16 : Hid (Below w2.heap.size w2 w16) := (HU.out.2.2.same hs16).back
    have x1 : w16.cell? ⟨w9.heap.size, 1, none⟩ = some (.slice (some ⟨gr, 0, none⟩) 1 cr) := (cell_of_heap hX16).trans rfl
    have r0 := (hgc 0).trans HR.out.1
    have r1 := (hgc 1).trans HR.out.2.1
    have r2 := (hgc 2).trans HR.out.2.2.1
    have r3 := (hgc 3).trans HR.out.2.2.2.1
    have r4 := (hgc 4).trans HR.out.2.2.2.2
    have hgl : gr < w16.heap.size := by rw [hs16.heap]; have := heap_lt HU.out.1; have := HX.out.2.2.2.2.2.2; omega
    have hXl' : w9.heap.size < w16.heap.size := heap_lt hX16
    clear HSQ hs16 HU HV HX HR hgc hXl hgr hX16
    go_wp2_with fail
    go_ret
    exact ⟨rfl, by first | exact HB16.out | exact HB16.out.alloc HB16.out.size _⟩
end Go.Proofs.Ytmmmnghiegajmaa
