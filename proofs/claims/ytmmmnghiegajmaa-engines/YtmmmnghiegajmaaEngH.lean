/- The document's own herald: one instruction of a run: set, twice, loop, hold. The document's own herald: one instruction of a run: hold. The document's own herald: any instruction of sound code. -/
import Derived.Test.YtmmmnghiegajmaaEngE
import Derived.Deep.RegionWith
import Derived.Test.YtmmmnghiegajmaaRefA
namespace Go.Proofs.Ytmmmnghiegajmaa
open Go.RowKit Go.Proofs.Herald

/-- A register is written. -/
theorem SimCore.setR {w : World} {S Q P R : Nat} {cv : Md} {pv : Value} {rec : ByteArray} {now last : Int} {qv : Nat → Value} {qs : Nat → List Msg} {p : Pr} (h : SimCore w S Q P R cv pv rec now last qv qs p) (j : Nat) (z : Int) :
    SimCore (w.setCell ⟨R, j, none⟩ (.int .i64 z)) S Q P R cv pv rec now last qv qs { p with regs := p.regs.set j z } := by
  refine ⟨?_, ?_, fun d hd => own_keep (h.oB d hd) fun b hb => ?_, h.dis, ?_, ?_, ?_⟩
  · rw [Below.heap_setCell _ _ _ _ (ne_of_type h.sB h.rB (by decide))]; exact h.sB
  · rw [Below.heap_setCell _ _ _ _ (ne_of_type h.qB h.rB (by decide))]; exact h.qB
  · obtain ⟨c, hc⟩ := own_block (h.oB d hd) hb
    exact Below.heap_setCell _ _ _ _ (ne_of_type hc h.rB (by decide))
  · rw [Below.heap_setCell _ _ _ _ (ne_of_type h.pB h.rB (by decide))]; exact h.pB
  · rw [heap_setCell_self _ h.rB]; simp [List.map_set]
  · simpa using h.rl

theorem SimCore.reg {w : World} {S Q P R : Nat} {cv : Md} {pv : Value} {rec : ByteArray} {now last : Int} {qv : Nat → Value} {qs : Nat → List Msg} {p : Pr} (h : SimCore w S Q P R cv pv rec now last qv qs p) {j : Nat} (hj : j < 12) : w.cell? ⟨R, j, none⟩ = some (.int .i64 (regP p (j : Nat))) := by
  have hl : j < p.regs.length := by rw [h.rl]; exact hj
  rw [cell_of_heap h.rB]
  unfold regP
  simp [hl]

set_option maxRecDepth 20000 in
set_option maxHeartbeats 4000000 in
theorem s_step4 (S Q P R b off n cap : Nat) (pv : Value) (rec : ByteArray) (now last : Int) (qv : Nat → Value) (qs : Nat → List Msg) (p : Pr) (d pc : Nat) (L : List (Nat × Int)) (j : Nat) (xb xc : Int) (w : World) (h : SimCore w S Q P R (cmd (.slice (some ⟨b, off, none⟩) n cap)) pv rec now last qv qs p)
    (hpc : pc < n) (hn : n ≤ 1000) (c0 : w.cell? ⟨b, off + pc * 4, none⟩ = some (.int .i64 4)) (c1 : w.cell? ⟨b, off + pc * 4 + 1, none⟩ = some (.int .i64 (j : Nat))) (c2 : w.cell? ⟨b, off + pc * 4 + 2, none⟩ = some (.int .i64 xb)) (c3 : w.cell? ⟨b, off + pc * 4 + 3, none⟩ = some (.int .i64 xc)) (hj : j < 12) :
    Calls Try.prog 153 #[.pointer (some ⟨S, 0, none⟩), .pointer (some ⟨P, 0, none⟩), .int .i64 (pc : Nat)] w fun e w' => e = .returned (.int .i64 (pc + 1)) ∧ StepOut S Q P R (cmd (.slice (some ⟨b, off, none⟩) n cap)) pv rec now last qv qs d L w (qs d) (setP p (j : Nat) xb) false w' := by
  have s2 : w.cell? ⟨S, 2, none⟩ = some (.slice (some ⟨b, off, none⟩) n cap) := (cell_of_heap h.sB).trans rfl
  have p7 : w.cell? ⟨P, 7, none⟩ = some (.slice (some ⟨R, 0, none⟩) 12 12) := (cell_of_heap h.pB).trans rfl
  have r0 := h.reg hj
  have z0 : w.frozen? ⟨R, j, none⟩ = false := free_of_heap h.rB
  have hRl : R < w.heap.size := heap_lt h.rB
  have hPl : P < w.heap.size := heap_lt h.pB
  have HH : Hid (SimCore w S Q P R (cmd (.slice (some ⟨b, off, none⟩) n cap)) pv rec now last qv qs p) := h
  clear h
  go_enter Try.func153, Try.ntmps153
  go_wp2_with fail
  go_region
  all_goals
    go_wp2_with fail
    go_ret
    exact ⟨by go_num, .plain (((HH.out.setR j xb).below ((Below.refl _ _).alloc (Nat.le_refl _) _).drew)) ((((Fr.refl _ _).setCell ⟨R, j, none⟩ (Or.inl (Or.inr (Or.inr (Or.inl rfl)))) _).alloc _).drew)⟩

set_option maxRecDepth 20000 in
set_option maxHeartbeats 4000000 in
theorem s_step5 (S Q P R b off n cap : Nat) (pv : Value) (rec : ByteArray) (now last : Int) (qv : Nat → Value) (qs : Nat → List Msg) (p : Pr) (d pc : Nat) (L : List (Nat × Int)) (j : Nat) (xb xc : Int) (w : World) (h : SimCore w S Q P R (cmd (.slice (some ⟨b, off, none⟩) n cap)) pv rec now last qv qs p)
    (hpc : pc < n) (hn : n ≤ 1000) (c0 : w.cell? ⟨b, off + pc * 4, none⟩ = some (.int .i64 5)) (c1 : w.cell? ⟨b, off + pc * 4 + 1, none⟩ = some (.int .i64 (j : Nat))) (c2 : w.cell? ⟨b, off + pc * 4 + 2, none⟩ = some (.int .i64 xb)) (c3 : w.cell? ⟨b, off + pc * 4 + 3, none⟩ = some (.int .i64 xc)) (hj : j < 12) (hr0 : 0 ≤ regP p (j : Nat)) (hr1 : regP p (j : Nat) ≤ 1000000) :
    Calls Try.prog 153 #[.pointer (some ⟨S, 0, none⟩), .pointer (some ⟨P, 0, none⟩), .int .i64 (pc : Nat)] w fun e w' => e = .returned (.int .i64 (pc + 1)) ∧ StepOut S Q P R (cmd (.slice (some ⟨b, off, none⟩) n cap)) pv rec now last qv qs d L w (qs d) (setP p (j : Nat) (if 1000000 < 2 * regP p (j : Nat) then 1000000 else 2 * regP p (j : Nat))) false w' := by
  have s2 : w.cell? ⟨S, 2, none⟩ = some (.slice (some ⟨b, off, none⟩) n cap) := (cell_of_heap h.sB).trans rfl
  have p7 : w.cell? ⟨P, 7, none⟩ = some (.slice (some ⟨R, 0, none⟩) 12 12) := (cell_of_heap h.pB).trans rfl
  have r0 := h.reg hj
  have z0 : w.frozen? ⟨R, j, none⟩ = false := free_of_heap h.rB
  have hRl : R < w.heap.size := heap_lt h.rB
  have hPl : P < w.heap.size := heap_lt h.pB
  have hPR : P ≠ R := ne_of_type h.pB h.rB (by decide)
  have hRP : R ≠ P := hPR.symm
  have HH : Hid (SimCore w S Q P R (cmd (.slice (some ⟨b, off, none⟩) n cap)) pv rec now last qv qs p) := h
  clear h
  generalize regP p (j : Nat) = r at *
  by_cases hlt : 1000000 < 2 * r
  · rw [if_pos hlt]
    have HSET : Hid (SimCore ((w.setCell ⟨R, j, none⟩ (.int .i64 (2 * r))).setCell ⟨R, j, none⟩ (.int .i64 1000000)) S Q P R (cmd (.slice (some ⟨b, off, none⟩) n cap)) pv rec now last qv qs (setP p (j : Nat) 1000000)) := by
      have := (HH.out.setR j (2 * r)).setR j 1000000
      simp only [List.set_set] at this
      exact this
    go_enter Try.func153, Try.ntmps153
    go_wp2_with fail
    go_region
    all_goals
      go_wp2_with fail
      go_region
      all_goals
        go_wp2_with fail
        go_region
        all_goals
          go_wp2_with fail
          go_ret
          exact ⟨by go_num, .plain (HSET.out.below (((Below.refl _ _).alloc (Nat.le_refl _) _).drew.drew.drew)) ((((Fr.refl _ _).setCell ⟨R, j, none⟩ (Or.inl (Or.inr (Or.inr (Or.inl rfl)))) _).setCell ⟨R, j, none⟩ (Or.inl (Or.inr (Or.inr (Or.inl rfl)))) _).alloc _).drew.drew.drew⟩
  · rw [if_neg hlt]
    go_enter Try.func153, Try.ntmps153
    go_wp2_with fail
    go_region
    all_goals
      go_wp2_with fail
      go_region
      all_goals
        go_wp2_with fail
        go_ret
        exact ⟨by go_num, .plain ((HH.out.setR j (2 * r)).below (((Below.refl _ _).alloc (Nat.le_refl _) _).drew.drew)) (((Fr.refl _ _).setCell ⟨R, j, none⟩ (Or.inl (Or.inr (Or.inr (Or.inl rfl)))) _).alloc _).drew.drew⟩

set_option maxRecDepth 20000 in
set_option maxHeartbeats 4000000 in
theorem s_step7_more (S Q P R b off n cap : Nat) (pv : Value) (rec : ByteArray) (now last : Int) (qv : Nat → Value) (qs : Nat → List Msg) (p : Pr) (d pc : Nat) (L : List (Nat × Int)) (j : Nat) (xb xc : Int) (w : World) (h : SimCore w S Q P R (cmd (.slice (some ⟨b, off, none⟩) n cap)) pv rec now last qv qs p)
    (hpc : pc < n) (_hn : n ≤ 1000) (c0 : w.cell? ⟨b, off + pc * 4, none⟩ = some (.int .i64 7)) (c1 : w.cell? ⟨b, off + pc * 4 + 1, none⟩ = some (.int .i64 (j : Nat))) (c2 : w.cell? ⟨b, off + pc * 4 + 2, none⟩ = some (.int .i64 xb)) (c3 : w.cell? ⟨b, off + pc * 4 + 3, none⟩ = some (.int .i64 xc)) (hj : j < 12) (hr1 : regP p (j : Nat) ≤ 1000000) (hlt : 1 < regP p (j : Nat)) :
    Calls Try.prog 153 #[.pointer (some ⟨S, 0, none⟩), .pointer (some ⟨P, 0, none⟩), .int .i64 (pc : Nat)] w fun e w' => e = .returned (.int .i64 xc) ∧ StepOut S Q P R (cmd (.slice (some ⟨b, off, none⟩) n cap)) pv rec now last qv qs d L w (qs d) (setP p (j : Nat) (regP p (j : Nat) - 1)) false w' := by
  have s2 : w.cell? ⟨S, 2, none⟩ = some (.slice (some ⟨b, off, none⟩) n cap) := (cell_of_heap h.sB).trans rfl
  have p7 : w.cell? ⟨P, 7, none⟩ = some (.slice (some ⟨R, 0, none⟩) 12 12) := (cell_of_heap h.pB).trans rfl
  have r0 := h.reg hj
  have z0 : w.frozen? ⟨R, j, none⟩ = false := free_of_heap h.rB
  have hRl : R < w.heap.size := heap_lt h.rB
  have hPl : P < w.heap.size := heap_lt h.pB
  have hPR : P ≠ R := ne_of_type h.pB h.rB (by decide)
  have hRP : R ≠ P := hPR.symm
  have HH : Hid (SimCore w S Q P R (cmd (.slice (some ⟨b, off, none⟩) n cap)) pv rec now last qv qs p) := h
  clear h
  generalize regP p (j : Nat) = r at *
  go_enter Try.func153, Try.ntmps153
  go_wp2_with fail
  go_region
  all_goals
    go_wp2_with fail
    go_region
    all_goals
      go_wp2_with fail
      go_region
      all_goals
        go_wp2_with fail
        go_ret
        exact ⟨rfl, .plain ((HH.out.setR j (r - 1)).below (((Below.refl _ _).alloc (Nat.le_refl _) _).drew.drew.drew)) (((Fr.refl _ _).setCell ⟨R, j, none⟩ (Or.inl (Or.inr (Or.inr (Or.inl rfl)))) _).alloc _).drew.drew.drew⟩

set_option maxRecDepth 20000 in
set_option maxHeartbeats 4000000 in
theorem s_step7_last (S Q P R b off n cap : Nat) (pv : Value) (rec : ByteArray) (now last : Int) (qv : Nat → Value) (qs : Nat → List Msg) (p : Pr) (d pc : Nat) (L : List (Nat × Int)) (j : Nat) (xb xc : Int) (w : World) (h : SimCore w S Q P R (cmd (.slice (some ⟨b, off, none⟩) n cap)) pv rec now last qv qs p)
    (hpc : pc < n) (hn : n ≤ 1000) (c0 : w.cell? ⟨b, off + pc * 4, none⟩ = some (.int .i64 7)) (c1 : w.cell? ⟨b, off + pc * 4 + 1, none⟩ = some (.int .i64 (j : Nat))) (c2 : w.cell? ⟨b, off + pc * 4 + 2, none⟩ = some (.int .i64 xb)) (c3 : w.cell? ⟨b, off + pc * 4 + 3, none⟩ = some (.int .i64 xc)) (hj : j < 12) (hr1 : regP p (j : Nat) ≤ 1000000) (hlt : regP p (j : Nat) = 1) :
    Calls Try.prog 153 #[.pointer (some ⟨S, 0, none⟩), .pointer (some ⟨P, 0, none⟩), .int .i64 (pc : Nat)] w fun e w' => e = .returned (.int .i64 (pc + 1)) ∧ StepOut S Q P R (cmd (.slice (some ⟨b, off, none⟩) n cap)) pv rec now last qv qs d L w (qs d) (setP p (j : Nat) (regP p (j : Nat) - 1)) false w' := by
  have s2 : w.cell? ⟨S, 2, none⟩ = some (.slice (some ⟨b, off, none⟩) n cap) := (cell_of_heap h.sB).trans rfl
  have p7 : w.cell? ⟨P, 7, none⟩ = some (.slice (some ⟨R, 0, none⟩) 12 12) := (cell_of_heap h.pB).trans rfl
  have r0 := h.reg hj
  have z0 : w.frozen? ⟨R, j, none⟩ = false := free_of_heap h.rB
  have hRl : R < w.heap.size := heap_lt h.rB
  have hPl : P < w.heap.size := heap_lt h.pB
  have hPR : P ≠ R := ne_of_type h.pB h.rB (by decide)
  have hRP : R ≠ P := hPR.symm
  have HH : Hid (SimCore w S Q P R (cmd (.slice (some ⟨b, off, none⟩) n cap)) pv rec now last qv qs p) := h
  clear h
  generalize regP p (j : Nat) = r at *
  subst hlt
  go_enter Try.func153, Try.ntmps153
  go_wp2_with fail
  go_region
  all_goals
    go_wp2_with fail
    go_region
    all_goals
      go_wp2_with fail
      go_region
      all_goals
        go_wp2_with fail
        go_ret
        exact ⟨by go_num, .plain ((HH.out.setR j (1 - 1)).below (((Below.refl _ _).alloc (Nat.le_refl _) _).drew.drew.drew)) (((Fr.refl _ _).setCell ⟨R, j, none⟩ (Or.inl (Or.inr (Or.inr (Or.inl rfl)))) _).alloc _).drew.drew.drew⟩

set_option maxRecDepth 20000 in
set_option maxHeartbeats 4000000 in
theorem s_step7_none (S Q P R b off n cap : Nat) (pv : Value) (rec : ByteArray) (now last : Int) (qv : Nat → Value) (qs : Nat → List Msg) (p : Pr) (d pc : Nat) (L : List (Nat × Int)) (j : Nat) (xb xc : Int) (w : World) (h : SimCore w S Q P R (cmd (.slice (some ⟨b, off, none⟩) n cap)) pv rec now last qv qs p)
    (hpc : pc < n) (hn : n ≤ 1000) (c0 : w.cell? ⟨b, off + pc * 4, none⟩ = some (.int .i64 7)) (c1 : w.cell? ⟨b, off + pc * 4 + 1, none⟩ = some (.int .i64 (j : Nat))) (c2 : w.cell? ⟨b, off + pc * 4 + 2, none⟩ = some (.int .i64 xb)) (c3 : w.cell? ⟨b, off + pc * 4 + 3, none⟩ = some (.int .i64 xc)) (hj : j < 12) (hr1 : regP p (j : Nat) ≤ 1000000) (hlt : regP p (j : Nat) = 0) :
    Calls Try.prog 153 #[.pointer (some ⟨S, 0, none⟩), .pointer (some ⟨P, 0, none⟩), .int .i64 (pc : Nat)] w fun e w' => e = .returned (.int .i64 (pc + 1)) ∧ StepOut S Q P R (cmd (.slice (some ⟨b, off, none⟩) n cap)) pv rec now last qv qs d L w (qs d) p false w' := by
  have s2 : w.cell? ⟨S, 2, none⟩ = some (.slice (some ⟨b, off, none⟩) n cap) := (cell_of_heap h.sB).trans rfl
  have p7 : w.cell? ⟨P, 7, none⟩ = some (.slice (some ⟨R, 0, none⟩) 12 12) := (cell_of_heap h.pB).trans rfl
  have r0 := h.reg hj
  have z0 : w.frozen? ⟨R, j, none⟩ = false := free_of_heap h.rB
  have hRl : R < w.heap.size := heap_lt h.rB
  have hPl : P < w.heap.size := heap_lt h.pB
  have hPR : P ≠ R := ne_of_type h.pB h.rB (by decide)
  have hRP : R ≠ P := hPR.symm
  have HH : Hid (SimCore w S Q P R (cmd (.slice (some ⟨b, off, none⟩) n cap)) pv rec now last qv qs p) := h
  clear h
  generalize regP p (j : Nat) = r at *
  subst hlt
  go_enter Try.func153, Try.ntmps153
  go_wp2_with fail
  go_region
  all_goals
    go_wp2_with fail
    go_region
    all_goals
      go_wp2_with fail
      go_ret
      exact ⟨by go_num, .plain (HH.out.below (((Below.refl _ _).alloc (Nat.le_refl _) _).drew.drew)) (((Fr.refl _ _).alloc _).drew.drew)⟩

set_option maxRecDepth 20000 in
set_option maxHeartbeats 4000000 in
theorem s_step6 (S Q P R b off n cap : Nat) (pv : Value) (rec : ByteArray) (now last : Int) (qv : Nat → Value) (qs : Nat → List Msg) (p : Pr) (d pc : Nat) (L : List (Nat × Int)) (xa : Int) (j : Nat) (xc : Int) (w : World) (h : SimCore w S Q P R (cmd (.slice (some ⟨b, off, none⟩) n cap)) pv rec now last qv qs p)
    (hpc : pc < n) (hn : n ≤ 1000) (c0 : w.cell? ⟨b, off + pc * 4, none⟩ = some (.int .i64 6)) (c1 : w.cell? ⟨b, off + pc * 4 + 1, none⟩ = some (.int .i64 xa)) (c2 : w.cell? ⟨b, off + pc * 4 + 2, none⟩ = some (.int .i64 (j : Nat))) (c3 : w.cell? ⟨b, off + pc * 4 + 3, none⟩ = some (.int .i64 xc)) (hj : j < 12) (hr0 : 0 ≤ regP p (j : Nat)) (hr1 : regP p (j : Nat) ≤ 1000000)
    (hd : d < 3) (hdev : p.dev = (d : Nat)) (hl : (qs d).length ≤ 4) (hs0 : 0 ≤ p.sent) (hs1 : p.sent ≤ 1000000000000000000) (ht0 : 0 ≤ now) (ht1 : now ≤ 1000000000) :
    Calls Try.prog 153 #[.pointer (some ⟨S, 0, none⟩), .pointer (some ⟨P, 0, none⟩), .int .i64 (pc : Nat)] w fun e w' => e = .returned (.int .i64 (-1)) ∧ StepOut S Q P R (cmd (.slice (some ⟨b, off, none⟩) n cap)) pv rec now last qv qs d L w (sendP (qs d) p xa).1 { stopP (sendP (qs d) p xa).2.1 now (maxI 1 (regP p (j : Nat))) (sendP (qs d) p xa).2.2 with tow := xc, els := pc + 1 } false w' := by
  have s2 : w.cell? ⟨S, 2, none⟩ = some (.slice (some ⟨b, off, none⟩) n cap) := (cell_of_heap h.sB).trans rfl
  have HS := s_send S Q P R (cmd (.slice (some ⟨b, off, none⟩) n cap)) pv rec now last qv qs p xa d (w.alloc (.cells #[.int .i64 6, .int .i64 xa, .int .i64 (j : Nat), .int .i64 xc] 128)) (h.below ((Below.refl _ _).alloc (Nat.le_refl _) _)) hd hdev hl hs0 hs1
  have HH : Hid (SimCore w S Q P R (cmd (.slice (some ⟨b, off, none⟩) n cap)) pv rec now last qv qs p) := h
  have HK := (sendP_kept (qs d) p xa).1
  obtain ⟨r, hr⟩ : ∃ r, r = sendP (qs d) p xa := ⟨_, rfl⟩
  rw [← hr] at HS HK ⊢
  clear h hdev hl hs0 hs1 hr
  obtain ⟨q', p', m⟩ := r
  dsimp only at HS HK ⊢
  have HS' : Hid (Calls Try.prog 150 #[.pointer (some ⟨S, 0, none⟩), .pointer (some ⟨P, 0, none⟩), .int .i64 xa] _ _) := HS
  have HK' : Hid (regP p' (j : Nat) = regP p (j : Nat)) := by show _ = _; unfold regP; rw [HK]
  have HM : Hid (-1000000000000 ≤ now + maxI 1 (regP p (j : Nat)) ∧ now + maxI 1 (regP p (j : Nat)) ≤ 1000000000000) := by
    unfold maxI
    constructor
    · split <;> omega
    · split <;> omega
  clear HS HK
  generalize regP p (j : Nat) = rr at *
  go_enter Try.func153, Try.ntmps153
  go_wp2_with fail
  refine HS'.out.mono ?_
  rintro e w1 ⟨rfl, v, hX, hX2, hX3⟩
  obtain ⟨m0, m1, m2, m3⟩ := mark4 (HH.out.mark hd hX3)
  have p7 : w1.cell? ⟨P, 7, none⟩ = some (.slice (some ⟨R, 0, none⟩) 12 12) := (cell_of_heap hX.pB).trans rfl
  have r0 : w1.cell? ⟨R, j, none⟩ = some (.int .i64 rr) := by rw [← HK'.out]; exact hX.reg hj
  have HX : Hid (_ ∧ _ ∧ _ ∧ _) := ⟨hX, hX2, hX3, HH.out.mark hd hX3⟩
  have hPM : P ≠ w.heap.size := by have := heap_lt HH.out.pB; omega
  have HS : Hid (∀ W : World, (∀ k : Nat, W.heap[k]? = w1.heap[k]?) → Calls Try.prog 151 #[.pointer (some ⟨S, 0, none⟩), .pointer (some ⟨P, 0, none⟩), .int .i64 (maxI 1 rr), .int .i64 m] W _) := fun W hW => s_stop S Q P R _ pv rec now last _ _ p' (maxI 1 rr) m W (HX.out.1.keep fun k _ => hW k) HM.out.1 HM.out.2
  clear hX hX2 hX3 HS' c0 c1 c2 c3 s2
  go_wp2_with fail
  go_region_with (first | (go_at_call 50; refine (greater_any _ _ _).mono ?_; rintro e w' ⟨rfl, rfl⟩) | (go_at_call 151; refine (HS.out w1.drew (fun _ => rfl)).mono ?_; rintro e w2 ⟨rfl, hY, hF⟩))
  all_goals
    have hM2 := (hF.block w.heap.size (heap_lt HX.out.2.2.2) (fun hh => hPM hh.symm)).trans HX.out.2.2.2
    clear m0 m1 m2 m3 p7 r0
    obtain ⟨m0, m1, m2, m3⟩ := mark4 hM2
    have p8 : w2.cell? ⟨P, 8, none⟩ = some (.int .i64 p'.tow) := (cell_of_heap hY.pB).trans rfl
    have z8 : w2.frozen? ⟨P, 8, none⟩ = false := free_of_heap hY.pB
    have p9 : w2.cell? ⟨P, 9, none⟩ = some (.int .i64 p'.els) := (cell_of_heap hY.pB).trans rfl
    have z9 : w2.frozen? ⟨P, 9, none⟩ = false := free_of_heap hY.pB
    have HF : Fr (fun k => k = P) w1 w2 := ⟨hF.os, hF.tape, hF.output, hF.size, hF.block⟩
    have HY : Hid (_ ∧ _) := ⟨hY, HF⟩
    clear hY hF HS hM2 HF
    go_wp2_with fail
    go_ret
    refine ⟨rfl, .send ((Below.refl _ _).alloc (Nat.le_refl _) _) HX.out.2.1 HX.out.2.2.1 ((HY.out.1.setP (p' := { stopP p' now (maxI 1 rr) m with tow := xc }) 8 _ rfl rfl).setP (p' := { stopP p' now (maxI 1 rr) m with tow := xc, els := pc + 1 }) 9 _ rfl rfl) ?_⟩
    exact (HY.out.2.setCell ⟨P, 8, none⟩ (Or.inl rfl) _).setCell ⟨P, 9, none⟩ (Or.inl rfl) _

/-- What a run needs in bounds, to go on. -/
structure GoOk (d : Nat) (now : Int) (q : List Msg) (p : Pr) : Prop where
  hd : d < 3
  hdev : p.dev = (d : Nat)
  hl : q.length ≤ 4
  hs0 : 0 ≤ p.sent
  hs1 : p.sent ≤ 1000000000000000000
  ht0 : 0 ≤ now
  ht1 : now ≤ 1000000000
  regs : RegsOk p

theorem nat_of {z : Int} (h : 0 ≤ z) : ∃ j : Nat, z = (j : Nat) := ⟨z.toNat, by omega⟩

theorem s_step (S Q P R b off cap : Nat) (pv : Value) (rec : ByteArray) (now last : Int) (qv : Nat → Value) (qs : Nat → List Msg) (p : Pr) (d pc : Nat) (L : List (Nat × Int)) (cs : List Ins) (w : World) (h : SimCore w S Q P R (cmd (.slice (some ⟨b, off, none⟩) cs.length cap)) pv rec now last qv qs p)
    (hc : CodeAt w b off cs) (hsnd : soundL cs = true) (hpc : pc < cs.length) (hg : GoOk d now (qs d) p) (hP : ProcsAt w pv L) (hL : L.length ≤ 1000) :
    Calls Try.prog 153 #[.pointer (some ⟨S, 0, none⟩), .pointer (some ⟨P, 0, none⟩), .int .i64 (pc : Nat)] w fun e w' => e = .returned (.int .i64 (stepP now cs[pc] (pc : Nat) (qs d) p).2.2.1) ∧ StepOut S Q P R (cmd (.slice (some ⟨b, off, none⟩) cs.length cap)) pv rec now last qv qs d L w (stepP now cs[pc] (pc : Nat) (qs d) p).1 (stepP now cs[pc] (pc : Nat) (qs d) p).2.1 (stepP now cs[pc] (pc : Nat) (qs d) p).2.2.2 w' := by
  have hn : cs.length ≤ 1000 := by
    rcases Nat.lt_or_ge 1000 cs.length with h | h
    · rw [soundL_long h] at hsnd; cases hsnd
    · exact h
  rw [soundL_short hn] at hsnd
  have hx : soundI cs.length cs[pc] = true := List.all_eq_true.mp hsnd _ (List.getElem_mem hpc)
  obtain ⟨c0, c1, c2, c3⟩ := hc.get pc hpc
  generalize cs[pc] = x at *
  obtain ⟨op, xa, xb, xc⟩ := x
  dsimp only at c0 c1 c2 c3
  unfold soundI at hx
  dsimp only at hx
  by_cases g0 : op = 0
  · subst g0
    exact s_step0 S Q P R b off cs.length cap pv rec now last qv qs p d pc L xa xb xc w h hpc c0 c1 c2 c3 hP hL
  rw [if_neg g0] at hx
  by_cases g1 : op = 1
  · subst g1
    exact s_step1 S Q P R b off cs.length cap pv rec now last qv qs p d pc L xa xb xc w h hpc hn c0 c1 c2 c3 hg.hd hg.hdev hg.hl hg.hs0 hg.hs1
  rw [if_neg g1] at hx
  by_cases g2 : op = 2
  · subst g2
    rw [if_pos rfl] at hx
    simp only [Bool.and_eq_true] at hx
    have ha := within_parts hx.1.1
    exact s_step2 S Q P R b off cs.length cap pv rec now last qv qs p d pc L xa xb xc w h hpc hn c0 c1 c2 c3 hg.ht0 hg.ht1 (by omega) (by omega)
  rw [if_neg g2] at hx
  by_cases g3 : op = 3
  · subst g3
    rw [if_pos rfl] at hx
    simp only [Bool.and_eq_true] at hx
    have hb := within_parts hx.1.2
    refine (s_step3 S Q P R b off cs.length cap pv rec now last qv qs p d pc L xa xb xc w h hpc hn c0 c1 c2 c3 hg.hd hg.hdev hg.hl hg.hs0 hg.hs1 hg.ht0 hg.ht1 (by omega) (by omega)).mono ?_
    rintro e w' ⟨k1, k2⟩
    have e3 : stepP now ⟨3, xa, xb, xc⟩ (pc : Nat) (qs d) p = (if (sendP (qs d) p xa).2.2 = 0 then ((sendP (qs d) p xa).1, (sendP (qs d) p xa).2.1, xc, false)
     else ((sendP (qs d) p xa).1, { stopP (sendP (qs d) p xa).2.1 now xb (sendP (qs d) p xa).2.2 with tow := (pc : Int) + 1, els := xc }, -1, false)) := rfl
    rw [e3]
    by_cases hz : (sendP (qs d) p xa).2.2 = 0
    · rw [if_pos hz]; exact k1 hz
    · rw [if_neg hz]; exact k2 hz
  rw [if_neg g3] at hx
  by_cases g4 : op = 4
  · subst g4
    rw [if_pos rfl] at hx
    simp only [Bool.and_eq_true] at hx
    have ha := within_parts hx.1.1
    obtain ⟨j, rfl⟩ := nat_of ha.1
    exact s_step4 S Q P R b off cs.length cap pv rec now last qv qs p d pc L j xb xc w h hpc hn c0 c1 c2 c3 (by omega)
  rw [if_neg g4] at hx
  by_cases g5 : op = 5
  · subst g5
    rw [if_pos rfl] at hx
    simp only [Bool.and_eq_true] at hx
    have ha := within_parts hx.1.1
    obtain ⟨j, rfl⟩ := nat_of ha.1
    exact s_step5 S Q P R b off cs.length cap pv rec now last qv qs p d pc L j xb xc w h hpc hn c0 c1 c2 c3 (by omega) (hg.regs.get _).1 (hg.regs.get _).2
  rw [if_neg g5] at hx
  by_cases g6 : op = 6
  · subst g6
    rw [if_pos rfl] at hx
    simp only [Bool.and_eq_true] at hx
    have hb := within_parts hx.1.2
    obtain ⟨j, rfl⟩ := nat_of hb.1
    exact s_step6 S Q P R b off cs.length cap pv rec now last qv qs p d pc L xa j xc w h hpc hn c0 c1 c2 c3 (by omega) (hg.regs.get _).1 (hg.regs.get _).2 hg.hd hg.hdev hg.hl hg.hs0 hg.hs1 hg.ht0 hg.ht1
  rw [if_neg g6] at hx
  by_cases g7 : op = 7
  · subst g7
    rw [if_pos rfl] at hx
    simp only [Bool.and_eq_true] at hx
    have ha := within_parts hx.1.1
    obtain ⟨j, rfl⟩ := nat_of ha.1
    have hr := hg.regs.get (j : Nat)
    have e7 : stepP now ⟨7, (j : Nat), xb, xc⟩ (pc : Nat) (qs d) p = (if 0 < regP p (j : Nat) then (qs d, setP p (j : Nat) (regP p (j : Nat) - 1), if 0 < regP p (j : Nat) - 1 then xc else (pc : Int) + 1, false) else (qs d, p, (pc : Int) + 1, false)) := rfl
    rw [e7]
    by_cases hm : 1 < regP p (j : Nat)
    · rw [if_pos (by omega), if_pos (by omega)]
      exact s_step7_more S Q P R b off cs.length cap pv rec now last qv qs p d pc L j xb xc w h hpc hn c0 c1 c2 c3 (by omega) hr.2 hm
    · by_cases h1 : regP p (j : Nat) = 1
      · rw [if_pos (by omega), if_neg (by omega)]
        exact s_step7_last S Q P R b off cs.length cap pv rec now last qv qs p d pc L j xb xc w h hpc hn c0 c1 c2 c3 (by omega) hr.2 h1
      · rw [if_neg (by omega)]
        exact s_step7_none S Q P R b off cs.length cap pv rec now last qv qs p d pc L j xb xc w h hpc hn c0 c1 c2 c3 (by omega) hr.2 (by omega)
  rw [if_neg g7] at hx
  by_cases g8 : op = 8
  · subst g8
    exact s_step8 S Q P R b off cs.length cap pv rec now last qv qs p d pc L xa xb xc w h hpc c0 c1 c2 c3
  rw [if_neg g8] at hx
  cases hx

end Go.Proofs.Ytmmmnghiegajmaa
