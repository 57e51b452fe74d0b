import Derived.Test.YtmmmnghiegajmaaM18
import Derived.Test.YtmmmnghiegajmaaM33
import Derived.Test.YtmmmnghiegajmaaM34
import Derived.Laws.Runes
/- The law Tried is walked. -/
namespace Go.Proofs.Ytmmmnghiegajmaa
open Go.RowKit Go.Proofs.Herald
/-- The text's bytes. -/
theorem tri_bytes {a0 a1 a2 dm d x1 x2 x3 x4 x5 : ByteArray} {K M N : Nat} (h0 : a0.data.toList = letterB K) (h1 : a1.data.toList = letterB (K + 1)) (h2 : a2.data.toList = letterB (K + 2)) (hm : dm.data.toList = digitsB M) (hd : d.data.toList = digitsB N)
    (e1 : x1.data.toList = [114, 101, 116, 114, 121, 32]) (e2 : x2.data.toList = [32]) (e3 : x3.data.toList = [32, 123, 32, 115, 101, 110, 100, 32]) (e4 : x4.data.toList = [32, 125, 32, 101, 108, 115, 101, 32, 123, 32, 115, 101, 110, 100, 32]) (e5 : x5.data.toList = [32, 125]) :
    (x1 ++ dm ++ x2 ++ a0 ++ x2 ++ d ++ x3 ++ a1 ++ x4 ++ a2 ++ x5).data.toList = sp (triU K M N) ++ kShut := by
  simp only [toList_append, h0, h1, h2, hm, hd, e1, e2, e3, e4, e5, triU, sp_cons]
  simp [sp, kRetry, kOpen, kSend, kShut, kElse]
theorem pow_small : ∀ j < 6, (2 : Nat) ^ j ≤ 32 := by decide
/-- The herald ahead of the try j (T: at which time, D: how long it will be stopped), and when all have gone by. -/
def triAt (K M j T D : Nat) : Her Pr := if j < M then triH K (T : Nat) ((M : Int) - (j : Nat)) (D : Nat) ((T : Int) + (D : Nat)) ((j : Int) + 1) else triE (T : Nat) ((M : Int) + 1) ((K + 2) % 8 : Nat)
theorem triAt_next (K M N j T D : Nat) (hj : j < M) (h1 : 1 ≤ D) (h2 : D ≤ 999) (h3 : T ≤ 2000) : tickH (machE (triC K M N)) (triH K (T : Nat) ((M : Int) - (j : Nat)) (D : Nat) ((T : Int) + (D : Nat)) ((j : Int) + 1)) (D : Nat) = (0, triAt K M (j + 1) (T + D) (D * 2)) := by
  unfold triAt
  by_cases h : j + 1 < M
  · rw [if_pos h, tri_tick K M N (T : Nat) _ (D : Nat) _ (by omega) (by omega) (by omega) (by omega) (by omega)]
    have e1 : ((T + D : Nat) : Int) = (T : Int) + (D : Nat) := by omega
    have e2 : ((D * 2 : Nat) : Int) = (D : Int) * 2 := by omega
    have e3 : (M : Int) - ((j + 1 : Nat) : Int) = (M : Int) - (j : Nat) - 1 := by omega
    have e4 : ((j + 1 : Nat) : Int) + 1 = (j : Int) + 1 + 1 := by omega
    rw [e1, e2, e3, e4]
  · have e0 : (M : Int) - (j : Nat) = 1 := by omega
    rw [if_neg h, e0, tri_tick_end K M N (T : Nat) (D : Nat) _ (by omega) (by omega) (by omega) (by omega)]
    have e1 : ((T + D : Nat) : Int) = (T : Int) + (D : Nat) := by omega
    have e2 : (M : Int) + 1 = (j : Int) + 1 + 1 := by omega
    rw [e1, e2]
set_option maxRecDepth 40000 in
set_option maxHeartbeats 8000000 in
theorem tried_walk (tries ticks key which delay : Int) (w : World) (r1 : -9223372036854775808 ≤ tries) (r2 : tries ≤ 9223372036854775807) (t1 : -9223372036854775808 ≤ ticks) (t2 : ticks ≤ 9223372036854775807) (k1 : -9223372036854775808 ≤ key) (k2 : key ≤ 9223372036854775807)
    (i1 : -9223372036854775808 ≤ which) (i2 : which ≤ 9223372036854775807) (d1 : -9223372036854775808 ≤ delay) (d2 : delay ≤ 9223372036854775807) :
    Calls Try.prog 9 #[.int .i64 tries, .int .i64 ticks, .int .i64 key, .int .i64 which, .int .i64 delay] w fun e w' => e = .returned (.bool true) ∧ Below w.heap.size w w' := by
  obtain ⟨p1, p2⟩ := pickI_bound ticks 30 (by omega)
  obtain ⟨p3, p4⟩ := pickI_bound key 8 (by omega)
  obtain ⟨p5, p6⟩ := pickI_bound tries 6 (by omega)
  obtain ⟨M, hM⟩ : ∃ M : Nat, 1 + pickI tries 6 = (M : Nat) := ⟨(1 + pickI tries 6).toNat, by omega⟩
  obtain ⟨N, hN⟩ : ∃ N : Nat, 1 + pickI ticks 30 = (N : Nat) := ⟨(1 + pickI ticks 30).toNat, by omega⟩
  obtain ⟨K, hK⟩ : ∃ K : Nat, pickI key 8 = (K : Nat) := ⟨(pickI key 8).toNat, by omega⟩
  obtain ⟨p7, p8⟩ := pickI_bound which (M + 1 : Nat) (by omega)
  obtain ⟨I, hI⟩ : ∃ I : Nat, pickI which (M + 1 : Nat) = (I : Nat) := ⟨(pickI which (M + 1 : Nat)).toNat, by omega⟩
  have hM1 : 1 ≤ M := by omega
  have hM2 : M ≤ 6 := by omega
  have hN1 : 1 ≤ N := by omega
  have hN2 : N ≤ 30 := by omega
  have hK8 : K < 8 := by omega
  have hIM : I ≤ M := by omega
  have HTR : Hid (∀ W, Calls Try.prog 23 #[.int .i64 tries, .int .i64 6] W _) := fun W => c_pick tries 6 W (by omega) r1 r2
  have HTK : Hid (∀ W, Calls Try.prog 23 #[.int .i64 ticks, .int .i64 30] W _) := fun W => c_pick ticks 30 W (by omega) t1 t2
  have HKY : Hid (∀ W, Calls Try.prog 23 #[.int .i64 key, .int .i64 8] W _) := fun W => c_pick key 8 W (by omega) k1 k2
  have HWH : Hid (∀ W, Calls Try.prog 23 #[.int .i64 which, .int .i64 (M + 1 : Nat)] W _) := fun W => c_pick which (M + 1 : Nat) W (by omega) i1 i2
  have HDL : Hid (∀ (D : Nat) W, 1 ≤ D → D ≤ 1000 → Calls Try.prog 23 #[.int .i64 delay, .int .i64 (D : Nat)] W _) := fun D W h1 h2 => c_pick delay (D : Nat) W (by omega) d1 d2
  have hpm : pickI tries 6 = (M : Int) - 1 := by omega
  have hpn : pickI ticks 30 = (N : Int) - 1 := by omega
  rw [hpm] at HTR
  rw [hpn] at HTK
  rw [hK] at HKY
  rw [hI] at HWH
  have ecast : ((M + 1 : Nat) : Int) = (M : Int) + 1 := by omega
  rw [ecast] at HWH
  have HL0 : Hid (∀ W, Calls Try.prog 24 #[.int .i64 (K : Nat)] W fun e w' => ∃ s : ByteArray, e = .returned (.string s) ∧ s.data.toList = letterB K ∧ Below W.heap.size W w') := fun W => by
    have h1 := c_letter (K : Nat) W (by omega) (by omega)
    have h2 := pick_letter K 0 hK8
    rw [Nat.add_zero, Int.ofNat_zero, Int.add_zero] at h2
    rw [h2] at h1
    exact h1
  have HL1 : Hid (∀ W, Calls Try.prog 24 #[.int .i64 ((K : Nat) + 1)] W fun e w' => ∃ s : ByteArray, e = .returned (.string s) ∧ s.data.toList = letterB (K + 1) ∧ Below W.heap.size W w') := fun W => by
    have h1 := c_letter ((K : Nat) + 1) W (by omega) (by omega)
    have h2 := pick_letter K 1 hK8
    have e : ((1 : Nat) : Int) = 1 := rfl
    rw [e] at h2
    rw [h2] at h1
    exact h1
  have HL2 : Hid (∀ W, Calls Try.prog 24 #[.int .i64 ((K : Nat) + 2)] W fun e w' => ∃ s : ByteArray, e = .returned (.string s) ∧ s.data.toList = letterB (K + 2) ∧ Below W.heap.size W w') := fun W => by
    have h1 := c_letter ((K : Nat) + 2) W (by omega) (by omega)
    have h2 := pick_letter K 2 hK8
    have e : ((2 : Nat) : Int) = 2 := rfl
    rw [e] at h2
    rw [h2] at h1
    exact h1
  have HDG : Hid (∀ (n : Nat) W, n ≤ 30 → Calls Try.prog 25 #[.int .i64 (n : Nat)] W fun e w' => ∃ s : ByteArray, e = .returned (.string s) ∧ s.data.toList = digitsB n ∧ Below W.heap.size W w') := fun n W hn => by
    have h1 := c_digits (n : Nat) W (by omega) (by omega)
    rw [Int.toNat_natCast] at h1
    exact h1
  have HSZ : Hid (∀ s : ByteArray, s.data.toList.length = s.size) := fun s => by simp
  have HDZ : Hid (∀ n : Nat, n ≤ 30 → (digitsB n).length ≤ 3) := fun n hn => (digits_all n (by omega)).2.2.2
  clear hM hN hK hI p1 p2 p3 p4 p5 p6 p7 p8 t1 t2 k1 k2 d1 d2 r1 r2 i1 i2
  go_enter Try.func9, Try.ntmps9
  go_wp2_with fail
  refine (HTR.out _).mono ?_
  rintro e w0 ⟨rfl, rfl⟩
  have hm' : 1 + ((M : Int) - 1) = M := by omega
  go_wp2_with fail
  refine (HTK.out _).mono ?_
  rintro e w1 ⟨rfl, rfl⟩
  have hn' : 1 + ((N : Int) - 1) = N := by omega
  go_wp2_with fail
  refine (HKY.out _).mono ?_
  rintro e w2 ⟨rfl, rfl⟩
  clear hm' hn' hpn hpm HTK HKY HTR
  go_wp2_with fail
  refine (HDG.out M _ (by omega)).mono ?_
  rintro e w3 ⟨dm, rfl, hdm, b3⟩
  have zm : dm.size ≤ 3 := by rw [← HSZ.out, hdm]; exact HDZ.out M (by omega)
  have H0 : Hid (dm.data.toList = digitsB M ∧ Below w2.heap.size w2 w3) := ⟨hdm, b3⟩
  clear hdm b3
  go_wp2_with fail
  refine (HL0.out _).mono ?_
  rintro e w4 ⟨a0, rfl, h0, b4⟩
  have z0 : a0.size = 1 := by rw [← HSZ.out, h0]; rfl
  have H1 : Hid (a0.data.toList = letterB K ∧ Below w2.heap.size w2 w4) := ⟨h0, H0.out.2.trans (b4.mono H0.out.2.size)⟩
  clear h0 b4 HL0
  go_wp2_with fail
  refine (HDG.out N _ (by omega)).mono ?_
  rintro e w5 ⟨dg, rfl, hdg, b5⟩
  have zd : dg.size ≤ 3 := by rw [← HSZ.out, hdg]; exact HDZ.out N (by omega)
  have H2 : Hid (dg.data.toList = digitsB N ∧ Below w2.heap.size w2 w5) := ⟨hdg, H1.out.2.trans (b5.mono H1.out.2.size)⟩
  clear hdg b5 HDG
  go_wp2_with fail
  refine (HL1.out _).mono ?_
  rintro e w6 ⟨a1, rfl, h1, b6⟩
  have z1 : a1.size = 1 := by rw [← HSZ.out, h1]; rfl
  have H3 : Hid (a1.data.toList = letterB (K + 1) ∧ Below w2.heap.size w2 w6) := ⟨h1, H2.out.2.trans (b6.mono H2.out.2.size)⟩
  clear h1 b6 HL1
  go_wp2_with fail
  refine (HL2.out _).mono ?_
  rintro e w7 ⟨a2, rfl, h2, b7⟩
  have z2 : a2.size = 1 := by rw [← HSZ.out, h2]; rfl
  have H4 : Hid (a2.data.toList = letterB (K + 2) ∧ Below w2.heap.size w2 w7) := ⟨h2, H3.out.2.trans (b7.mono H3.out.2.size)⟩
  clear h2 b7 HL2
  go_wp2_with fail
  generalize hT : ((⟨#[114, 101, 116, 114, 121, 32]⟩ : ByteArray) ++ dm ++ ⟨#[32]⟩ ++ a0 ++ ⟨#[32]⟩ ++ dg ++ ⟨#[32, 123, 32, 115, 101, 110, 100, 32]⟩ ++ a1 ++ ⟨#[32, 125, 32, 101, 108, 115, 101, 32, 123, 32, 115, 101, 110, 100, 32]⟩ ++ a2 ++ ⟨#[32, 125]⟩) = T
  obtain ⟨hsz, tr, hok, hcode, hlast⟩ := tri_text (t := T) hM1 hM2 hN1 (by omega) (by rw [← hT]; exact tri_bytes H1.out.1 H3.out.1 H4.out.1 H0.out.1 H2.out.1 rfl rfl rfl rfl rfl)
  have HLG : Hid (∀ W, Calls Try.prog 13 #[.string T] W fun e w' => e = .returned (.tuple #[.int .i64 (triesI N (M - 1)), .int .i64 0, .int .i64 0]) ∧ Below W.heap.size W w') := fun W => by
    have h := c_Longest_ok hsz hok W
    rw [hlast] at h
    exact h
  have HOP : Hid (∀ W, Calls Try.prog 34 #[.string T] W fun e w' => ∃ G H cv s, e = .returned (.tuple #[.pointer (some ⟨G, 0, none⟩), .bool true]) ∧ Game W.heap.size (triC K M N) 1 (oneH 0 0 1 [⟨0, 1, 1, (K % 8 : Nat)⟩] [triP M N (0 + (N : Int)) 1]) w' G H cv s ∧ Below W.heap.size W w') := fun W => by
    have h := opened_ok hsz hok (by rw [hcode]; show 0 < 8; omega) W
    rw [hcode, tri_first K M N hN1] at h
    exact h
  have HB7 : Hid (Below w2.heap.size w2 w7) := H4.out.2
  have HTB : Hid (∀ t : Nat, t ≤ 5 → 0 ≤ triesI N t ∧ triesI N t ≤ 62937) := fun t ht => triesI_bound N (by omega) (by omega) t ht
  clear hT hsz hok hcode hlast H0 H1 H2 H3 H4 z0 z1 z2 zd zm HSZ HDZ
  go_loopw [15, 16] (fun x i wr => ∃ (t : Nat) (v : Int), 1 ≤ t ∧ t ≤ M ∧ 0 ≤ v ∧ v ≤ 62937 ∧ i = .int .i64 (t : Nat) ∧ x = .int .i64 v ∧ Hid (v = triesI N (t - 1)) ∧ Hid (Below w2.heap.size w2 wr)) (fun _ i _ => M - (intOf i).toNat)
  case atStart => exact ⟨1, N, by omega, by omega, by omega, by omega, rfl, rfl, rfl, HB7.out⟩
  case round =>
    obtain ⟨t, v, ht1, ht2, hv0, hv1, rfl, rfl, HV, HB⟩ := hrel
    by_cases hlt : t < M
    · obtain ⟨g1, g2⟩ := HTB.out t (by omega)
      have ev : triesI N t = 2 * v + N := by
        obtain ⟨u, rfl⟩ : ∃ u, t = u + 1 := ⟨t - 1, by omega⟩
        rw [HV.out]
        rfl
      have HEV : Hid (2 * v + (N : Nat) = triesI N t) := ev.symm
      rw [ev] at g1 g2
      clear ev
      go_wp2_with fail
      go_roundw
      case rel => exact ⟨t + 1, 2 * v + N, by omega, by omega, by omega, by omega, by go_num, rfl, HEV.out, HB.out⟩
      case measure => simp [intOf]; omega
    · obtain rfl : M = t := by omega
      have HLV : Hid (∀ W, Calls Try.prog 13 #[.string T] W fun e w' => e = .returned (.tuple #[.int .i64 v, .int .i64 0, .int .i64 0]) ∧ Below W.heap.size W w') := fun W => by
        rw [HV.out]
        exact HLG.out W
      clear HLG HTB HB7
      go_wp2_with fail
      refine (HLV.out _).mono ?_
      rintro e w8 ⟨rfl, b8⟩
      have HB8 : Hid (Below w2.heap.size w2 w8) := HB.out.trans (b8.mono HB.out.size)
      clear b8 HLV
      go_wp2_with fail
      refine (HOP.out _).mono ?_
      rintro e w9 ⟨G, H, cv, s, rfl, hg, b9⟩
      have HK9 : Hid (KS w2.heap.size (triC K M N) 1 (triAt K M 0 0 N) w2 H (fun k => k = G) w9 ∧ w9.heap[G]? = some (.cells #[.pointer (some ⟨H, 0, none⟩), cv] 78 (0, 0)) ∧ w2.heap.size ≤ G) := by
        have s8 := HB8.out.size
        have s9 := hg.B
        have e : triAt K M 0 0 N = oneH 0 0 1 [⟨0, 1, 1, (K % 8 : Nat)⟩] [triP M N (0 + (N : Int)) 1] := by
          unfold triAt
          rw [if_pos (by omega)]
          have e2 : (M : Int) - ((0 : Nat) : Int) = M := by omega
          rw [e2]
          rfl
        rw [e]
        exact ⟨⟨1, s, Nat.le_refl _, hg.ga, fun k hk => ⟨by have := (hg.own k hk).1; omega, (hg.own k hk).2⟩, fun k hk => by rw [hk]; exact heap_lt hg.g, HB8.out.trans (b9.mono s8), by have := b9.size; omega⟩, hg.g, by omega⟩
      have HKM : Hid ((K % 8 : Nat) = K) := Nat.mod_eq_of_lt hK8
      clear hg b9 HOP HB8 HB HV hv0 hv1 ht1 ht2 hlt
      go_wp2_with fail
      refine (HWH.out _).mono ?_
      rintro e w10 ⟨rfl, rfl⟩
      clear HWH ecast
      go_wp2_with fail
      go_loopw [23, 24] (fun nv jv wr => ∃ (j T D : Nat), j ≤ M ∧ j ≤ I ∧ T ≤ 2000 ∧ jv = .int .i64 (j : Nat) ∧ nv = .int .i64 (T : Nat) ∧ Hid (T + N = D ∧ D = N * 2 ^ j) ∧ Hid (KS w2.heap.size (triC K M N) (1 + j) (triAt K M j T D) w2 H (fun k => k = G) wr ∧ wr.heap[G]? = some (.cells #[.pointer (some ⟨H, 0, none⟩), cv] 78 (0, 0)) ∧ w2.heap.size ≤ G)) (fun _ jv _ => M - (intOf jv).toNat)
      case atStart => exact ⟨0, 0, N, by omega, by omega, by omega, rfl, rfl, ⟨by omega, by simp⟩, HK9.out⟩
      case round =>
        obtain ⟨j, T, D, hjM, hjI, hT, rfl, rfl, HD, HK⟩ := hrel
        have hGc : wr.cell? ⟨G, 0, none⟩ = some (.pointer (some ⟨H, 0, none⟩)) := (cell_of_heap HK.out.2.1).trans rfl
        have hGl : G < wr.heap.size := heap_lt HK.out.2.1
        by_cases hlt : j < M
        · have hD2 : D ≤ 960 := by
            have h1 := pow_small j (by omega)
            have h2 := Nat.mul_le_mul hN2 h1
            rw [HD.out.2]
            omega
          have hD1 : N ≤ D := by have := HD.out.1; omega
          have hsh : (N : Int) * 2 ^ j = (D : Nat) := by rw [HD.out.2]; simp
          have HKJ : Hid (KS w2.heap.size (triC K M N) (1 + j) (triH K (T : Nat) ((M : Int) - (j : Nat)) (D : Nat) ((T : Int) + (D : Nat)) ((j : Int) + 1)) w2 H (fun k => k = G) wr ∧ wr.heap[G]? = some (.cells #[.pointer (some ⟨H, 0, none⟩), cv] 78 (0, 0)) ∧ w2.heap.size ≤ G) := by
            have h := HK.out
            unfold triAt at h
            rw [if_pos hlt] at h
            exact h
          clear HK HK9
          go_wp2_with fail
          refine (ks_Show _ HKJ.out.1).mono ?_
          rintro e w11 ⟨sv, uv, rfl, hsv, huv, b11⟩
          rw [tri_now]
          rw [tri_rs, tri_pub] at hsv
          rw [tri_show, HKM.out] at huv
          obtain ⟨gr, cr, gq, cq, rfl, rfl, hal⟩ := look_run (T : Nat) ((j : Int) + 1) (K : Nat) ((T : Int) + (D : Nat)) ((j : Int) + 1) (w := w11) hsv huv (by omega)
          have HA : Hid (∀ W, W = (w11.alloc (.cells #[.int .i64 (T : Nat), .slice (some ⟨gr, 0, none⟩) 1 cr, .slice (some ⟨gq, 0, none⟩) 1 cq] 68)).drew → Calls Try.prog 35 #[.agg #[.int .i64 (T : Nat), .slice (some ⟨gr, 0, none⟩) 1 cr, .slice (some ⟨gq, 0, none⟩) 1 cq], .int .i64 (T : Nat), .int .i64 (IntKind.i64.wrap ((j : Int) + 1)), .int .i64 (K : Nat), .int .i64 (IntKind.i64.wrap ((T : Int) + IntKind.i64.wrap (D : Nat))), .int .i64 (IntKind.i64.wrap ((j : Int) + 1))] W fun e w' => e = .returned (.bool true) ∧ KS w2.heap.size (triC K M N) (1 + j) (triH K (T : Nat) ((M : Int) - (j : Nat)) (D : Nat) ((T : Int) + (D : Nat)) ((j : Int) + 1)) w2 H (fun k => k = w11.heap.size ∨ k = G) w' ∧ w'.heap[w11.heap.size]? = some (.cells #[.int .i64 (T : Nat), .slice (some ⟨gr, 0, none⟩) 1 cr, .slice (some ⟨gq, 0, none⟩) 1 cq] 68 (0, 0)) ∧ w'.heap[G]? = some (.cells #[.pointer (some ⟨H, 0, none⟩), cv] 78 (0, 0))) := fun W hW => by
            have hb : Below w11.heap.size w11 W := by rw [hW]; exact ((Below.refl _ _).alloc (Nat.le_refl _) _).drew
            have k11 := HKJ.out.1.below b11
            have kW : KS w2.heap.size (triC K M N) (1 + j) (triH K (T : Nat) ((M : Int) - (j : Nat)) (D : Nat) ((T : Int) + (D : Nat)) ((j : Int) + 1)) w2 H (fun k => k = w11.heap.size ∨ k = G) W := (k11.more hb).less fun k hk => by
              rcases hk with rfl | rfl
              · exact .inr ⟨Nat.le_refl _, by rw [hW]; simp⟩
              · exact .inl rfl
            have hX : W.heap[w11.heap.size]? = some (.cells #[.int .i64 (T : Nat), .slice (some ⟨gr, 0, none⟩) 1 cr, .slice (some ⟨gq, 0, none⟩) 1 cq] 68 (0, 0)) := by rw [hW]; exact heap_alloc_new _ _
            have hG : W.heap[G]? = some (.cells #[.pointer (some ⟨H, 0, none⟩), cv] 78 (0, 0)) := (hb.block G (k11.lt rfl)).trans ((b11.block G hGl).trans HKJ.out.2.1)
            rw [wrap_small ((j : Int) + 1) (by omega) (by omega), wrap_small ((D : Nat) : Int) (by omega) (by omega), wrap_small ((T : Int) + (D : Nat)) (by omega) (by omega)]
            refine (hal W hb).mono ?_
            rintro e w' ⟨rfl, b'⟩
            exact ⟨rfl, kW.below b', (b'.block _ (heap_lt hX)).trans hX, (b'.block _ (heap_lt hG)).trans hG⟩
          have HX2 : Hid (w2.heap.size ≤ w11.heap.size ∧ w2.heap.size ≤ G) := ⟨Nat.le_trans HKJ.out.1.B b11.size, HKJ.out.2.2⟩
          clear hsv huv b11 hal HKJ hGc
          go_upto_region 20 with fail
          go_cut [21] (fun x wx => x = .bool true ∧ Hid (KS w2.heap.size (triC K M N) (1 + j) (triH K (T : Nat) ((M : Int) - (j : Nat)) (D : Nat) ((T : Int) + (D : Nat)) ((j : Int) + 1)) w2 H (fun k => k = w11.heap.size ∨ k = G) wx ∧ wx.heap[w11.heap.size]? = some (.cells #[.int .i64 (T : Nat), .slice (some ⟨gr, 0, none⟩) 1 cr, .slice (some ⟨gq, 0, none⟩) 1 cq] 68 (0, 0)) ∧ wx.heap[G]? = some (.cells #[.pointer (some ⟨H, 0, none⟩), cv] 78 (0, 0))))
          case first =>
            go_region_with (go_at_call 35; refine (HA.out _ rfl).mono ?_; rintro e w12 ⟨rfl, ho⟩)
            all_goals
              go_wp2_with fail
              go_meet
              case rel => exact ⟨rfl, ho⟩
          case rest =>
            obtain ⟨rfl, HY⟩ := hcut
            clear HA
            have hGc : wc.cell? ⟨G, 0, none⟩ = some (.pointer (some ⟨H, 0, none⟩)) := (cell_of_heap HY.out.2.2).trans rfl
            have hGl : G < wc.heap.size := heap_lt HY.out.2.2
            by_cases hji : j = I
            · subst hji
              obtain ⟨p1, p2⟩ := pickI_bound delay (D : Nat) (by omega)
              obtain ⟨Q, hQ⟩ : ∃ Q : Nat, pickI delay (D : Nat) = (Q : Nat) := ⟨(pickI delay (D : Nat)).toNat, by omega⟩
              have HDQ : Hid (∀ W, Calls Try.prog 23 #[.int .i64 delay, .int .i64 (D : Nat)] W fun e w' => e = .returned (.int .i64 (Q : Nat)) ∧ w' = W) := fun W => by
                have h := HDL.out D W (by omega) (by omega)
                rw [hQ] at h
                exact h
              rw [hQ] at p1 p2
              have hQ2 : Q < D := by omega
              have HANS : Hid (Calls Try.prog 36 #[.pointer (some ⟨H, 0, none⟩), .int .i64 ((j : Int) + 1), .int .i64 (K : Nat), .int .i64 (Q : Nat)] wc fun e w' => e = .returned (.bool true) ∧ KS w2.heap.size (triC K M N) (1 + j + 5) (triE ((T : Int) + (Q : Nat)) ((j : Int) + 2) ((K + 1) % 8 : Nat)) w2 H (fun k => k = w11.heap.size ∨ k = G) w' ∧ ∀ k, (k = w11.heap.size ∨ k = G) → w'.heap[k]? = wc.heap[k]?) := by
                obtain ⟨s', g', back⟩ := HY.out.1.tow
                have e2 : (j : Int) + 2 = (j : Int) + 1 + 1 := by omega
                rw [e2]
                refine (c_answered (h2 := triD (T : Nat) ((M : Int) - (j : Nat)) (D : Nat) ((T : Int) + (D : Nat)) ((j : Int) + 1)) (h3 := triD ((T : Int) + (Q : Nat)) ((M : Int) - (j : Nat)) (D : Nat) ((T : Int) + (D : Nat)) ((j : Int) + 1)) ((j : Int) + 1) (K : Nat) (Q : Nat) wc g' (by omega) (by omega) (by omega) (tri_early K M N _ _ _ _ _ (by omega)) ?_ ?_ (tri_other K M N _ _ _ _ _) (tri_ack K M N _ _ _ _ _ (by omega))).mono fun e w' hh => ⟨hh.1, back hh.2⟩
                · rw [tri_drain, HKM.out]
                · by_cases h0 : Q = 0
                  · refine .inr ⟨by omega, ?_⟩
                    rw [h0]
                    show triD ((T : Int) + 0) _ _ _ _ = _
                    rw [Int.add_zero]
                  · exact .inl ⟨by omega, tri_wait K M N _ _ _ _ _ _ (by omega) (by omega) (by omega) (by omega)⟩
              clear hQ HDL
              go_wp2_with fail
              refine (HDQ.out _).mono ?_
              rintro e w13 ⟨rfl, rfl⟩
              go_wp2_with fail
              refine HANS.out.mono ?_
              rintro e w14 ⟨rfl, k14, p14⟩
              have hX14 := (p14 _ (.inl rfl)).trans HY.out.2.1
              have hG14 := (p14 _ (.inr rfl)).trans HY.out.2.2
              have hGc14 : w14.cell? ⟨G, 0, none⟩ = some (.pointer (some ⟨H, 0, none⟩)) := (cell_of_heap hG14).trans rfl
              have hGl14 : G < w14.heap.size := heap_lt hG14
              have HK14 : Hid (KS w2.heap.size (triC K M N) (1 + j + 5) (triE ((T : Int) + (Q : Nat)) ((j : Int) + 2) ((K + 1) % 8 : Nat)) w2 H (fun k => k = w11.heap.size ∨ k = G) w14) := k14
              clear k14 p14 HANS HDQ hGc hGl
              go_wp2_with fail
              refine (ks_Show _ HK14.out).mono ?_
              rintro e w15 ⟨sv, uv, rfl, hsv, huv, b15⟩
              rw [triE_now]
              rw [triE_rs] at hsv
              obtain ⟨k1, hk1⟩ : ∃ k1 : Int, ((K : Int) + 1) % 8 = k1 := ⟨_, rfl⟩
              have hk2 : (((K + 1) % 8 : Nat) : Int) = k1 := by omega
              rw [triE_show, hk2] at huv
              rw [hk2] at HK14
              obtain ⟨ra, cr2, rfl⟩ := ownsRow_slice hsv
              obtain ⟨gq2, cq2, rfl, _⟩ := msg_row huv
              rw [show ([] : List Pr).length = 0 from rfl] at hsv ⊢
              have hX15 := (b15.block _ (heap_lt hX14)).trans hX14
              have HR2 : Hid (w15.ownsRow w14.heap.size 90 5 (.slice ra 0 cr2) 0 (rnsCells []) ∧ w15.ownsRow w14.heap.size 83 4 (.slice (some ⟨gq2, 0, none⟩) 1 cq2) 1 (msgsCells [⟨0, 1, (j : Int) + 2, k1⟩]) ∧ w11.heap.size < w14.heap.size) := ⟨hsv, huv, heap_lt hX14⟩
              have HK15 : Hid (KS w2.heap.size (triC K M N) (1 + j + 5) (triE ((T : Int) + (Q : Nat)) ((j : Int) + 2) k1) w2 H (fun k => k = w11.heap.size ∨ k = G) w15) := HK14.out.below b15
              have x0 : w15.cell? ⟨w11.heap.size, 0, none⟩ = some (.int .i64 (T : Nat)) := (cell_of_heap hX15).trans rfl
              have x1 : w15.cell? ⟨w11.heap.size, 1, none⟩ = some (.slice (some ⟨gr, 0, none⟩) 1 cr) := (cell_of_heap hX15).trans rfl
              have x2 : w15.cell? ⟨w11.heap.size, 2, none⟩ = some (.slice (some ⟨gq, 0, none⟩) 1 cq) := (cell_of_heap hX15).trans rfl
              have y0 : w15.frozen? ⟨w11.heap.size, 0, none⟩ = false := free_of_heap hX15
              have y1 : w15.frozen? ⟨w11.heap.size, 1, none⟩ = false := free_of_heap hX15
              have y2 : w15.frozen? ⟨w11.heap.size, 2, none⟩ = false := free_of_heap hX15
              have hXl : w11.heap.size < w15.heap.size := heap_lt hX15
              have HAL : Hid (Calls Try.prog 35 #[.agg #[.int .i64 ((T : Int) + (Q : Nat)), .slice ra 0 cr2, .slice (some ⟨gq2, 0, none⟩) 1 cq2], .int .i64 ((T : Int) + (Q : Nat)), .int .i64 ((j : Int) + 2), .int .i64 k1, .int .i64 0, .int .i64 0] (((w15.setCell ⟨w11.heap.size, 0, none⟩ (.int .i64 ((T : Int) + (Q : Nat)))).setCell ⟨w11.heap.size, 1, none⟩ (.slice ra 0 cr2)).setCell ⟨w11.heap.size, 2, none⟩ (.slice (some ⟨gq2, 0, none⟩) 1 cq2)) fun e w' => e = .returned (.bool true) ∧ Below w2.heap.size w2 w') := by
                have hk : ∀ k, w14.heap.size ≤ k → (((w15.setCell ⟨w11.heap.size, 0, none⟩ (.int .i64 ((T : Int) + (Q : Nat)))).setCell ⟨w11.heap.size, 1, none⟩ (.slice ra 0 cr2)).setCell ⟨w11.heap.size, 2, none⟩ (.slice (some ⟨gq2, 0, none⟩) 1 cq2)).heap[k]? = w15.heap[k]? := fun k hk => set3_other (by have := HR2.out.2.2; omega)
                have kV := HK15.out.set3 w11.heap.size (.int .i64 ((T : Int) + (Q : Nat))) (.slice ra 0 cr2) (.slice (some ⟨gq2, 0, none⟩) 1 cq2) (.inl rfl) HX2.out.1
                obtain ⟨a1, a2, a3, a4, e1, e2, hal⟩ := look_none ((T : Int) + (Q : Nat)) ((j : Int) + 2) k1 0 (own_stays HR2.out.1 fun k hk' => hk k (ownsRow_lies HR2.out.1 hk').1) (own_stays HR2.out.2.1 fun k hk' => hk k (ownsRow_lies HR2.out.2.1 hk').1)
                simp only [Value.slice.injEq, Option.some.injEq, Addr.mk.injEq, true_and, and_true] at e1 e2
                obtain ⟨rfl, rfl⟩ := e1
                obtain ⟨rfl, rfl⟩ := e2
                exact (hal _ (Below.refl _ _)).mono fun e w' hh => ⟨hh.1, (kV.below hh.2).back⟩
              clear hsv huv b15 hX15 hX14 hG14 hGc14 hk2
              go_wp2_with fail
              refine HAL.out.mono ?_
              rintro e w16 ⟨rfl, b16⟩
              have HB16 : Hid (Below w2.heap.size w2 w16) := b16
              clear b16 HAL HR2 HK14 HK15 x0 x1 x2 y0 y1 y2
              go_wp2_with fail
              go_ret
              exact ⟨rfl, HB16.out⟩
            · have HTK : Hid (∀ W, W = wc.drew → Calls Try.prog 33 #[.pointer (some ⟨H, 0, none⟩), .int .i64 (IntKind.i64.wrap (D : Nat))] W fun e w' => e = .returned (.int .i64 0) ∧ KS w2.heap.size (triC K M N) (1 + j + 1) (triAt K M (j + 1) (T + D) (D * 2)) w2 H (fun k => k = w11.heap.size ∨ k = G) w' ∧ w'.heap[G]? = some (.cells #[.pointer (some ⟨H, 0, none⟩), cv] 78 (0, 0))) := fun W hW => by
                have hs : SameH wc W := by rw [hW]; exact (SameH.refl _).drew
                have h := ks_Tick (D : Nat) W (HY.out.1.same hs) (by omega)
                rw [triAt_next K M N j T D hlt (by omega) (by omega) (by omega)] at h
                rw [wrap_small ((D : Nat) : Int) (by omega) (by omega)]
                refine h.mono ?_
                rintro e w' ⟨rfl, g1, g2⟩
                exact ⟨rfl, g1, (g2 G (.inr rfl)).trans (by rw [hs.heap]; exact HY.out.2.2)⟩
              go_upto_region 29 with fail
              go_cut [18] (fun x wx => x = .int .i64 0 ∧ Hid (KS w2.heap.size (triC K M N) (1 + j + 1) (triAt K M (j + 1) (T + D) (D * 2)) w2 H (fun k => k = w11.heap.size ∨ k = G) wx ∧ wx.heap[G]? = some (.cells #[.pointer (some ⟨H, 0, none⟩), cv] 78 (0, 0))))
              case first =>
                go_region_with (go_at_call 33; refine (HTK.out _ rfl).mono ?_; rintro e w13 ⟨rfl, ho⟩)
                all_goals
                  go_wp2_with fail
                  go_meet
                  case rel => exact ⟨rfl, ho⟩
              case rest =>
                obtain ⟨rfl, HZ⟩ := hcut
                clear HTK hGc hGl
                go_wp2_with fail
                go_roundw
                case rel => exact ⟨j + 1, T + D, D * 2, by omega, by omega, by have := HD.out.1; omega, by go_num, by go_num, ⟨by have := HD.out.1; omega, by rw [HD.out.2, Nat.pow_succ, ← Nat.mul_assoc]⟩, (HZ.out.1.less fun k hk => .inr hk).le (by omega), HZ.out.2, HX2.out.2⟩
                case measure => simp [intOf]; omega
        · obtain rfl : M = j := by omega
          have HKJ : Hid (KS w2.heap.size (triC K M N) (1 + M) (triE (T : Nat) ((M : Int) + 1) ((K + 2) % 8 : Nat)) w2 H (fun k => k = G) wr) := by
            have h := HK.out.1
            unfold triAt at h
            rw [if_neg (by omega)] at h
            exact h
          clear HK HK9 HDL
          go_wp2_with fail
          refine (ks_Show _ HKJ.out).mono ?_
          rintro e w11 ⟨sv, uv, rfl, hsv, huv, b11⟩
          rw [triE_now]
          rw [triE_rs] at hsv
          obtain ⟨k1, hk1⟩ : ∃ k1 : Int, ((K : Int) + 2) % 8 = k1 := ⟨_, rfl⟩
          have hk2 : (((K + 2) % 8 : Nat) : Int) = k1 := by omega
          rw [triE_show, hk2] at huv
          rw [hk2] at HKJ
          obtain ⟨ra, cr, gq, cq, rfl, rfl, hal⟩ := look_none (T : Nat) ((M : Int) + 1) k1 0 hsv huv
          have HAL : Hid (∀ W, Below w11.heap.size w11 W → Calls Try.prog 35 _ W _) := hal
          have HB11 : Hid (∀ W, Below w11.heap.size w11 W → Below w2.heap.size w2 W) := fun W hb => ((HKJ.out.below b11).below hb).back
          clear hsv huv b11 hal hk2 hGc
          go_wp2_with fail
          refine (HAL.out _ ((Below.refl _ _).alloc (Nat.le_refl _) _)).mono ?_
          rintro e w12 ⟨rfl, b12⟩
          have HB12 : Hid (Below w2.heap.size w2 w12) := HB11.out _ (((Below.refl _ _).alloc (Nat.le_refl _) _).trans (b12.mono (by simp)))
          clear b12 HAL HB11
          go_wp2_with fail
          go_ret
          exact ⟨rfl, HB12.out⟩
end Go.Proofs.Ytmmmnghiegajmaa
