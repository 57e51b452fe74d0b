/- The document's own herald: a run goes on till it stops or ends. The document's own herald: a stopped run goes on. The document's own herald, whole, in memory: its runs, and what one of them did. -/
import Derived.Test.YtmmmnghiegajmaaEngH
import Derived.Test.YtmmmnghiegajmaaSimA
namespace Go.Proofs.Ytmmmnghiegajmaa
open Go.RowKit Go.Proofs.Herald

/-- What stands of a run between two instructions. -/
structure Mid (d k : Nat) (now : Int) (q : List Msg) (p0 p : Pr) : Prop where
  ok : GoOk d now q p
  id : p.id = p0.id
  sent : p.sent ≤ p0.sent + k

theorem Mid.step {d k : Nat} {now : Int} {q : List Msg} {p0 p : Pr} {n : Int} {r : List Msg × Pr × Int × Bool} (h : Mid d k now q p0 p) (hr : StepOk n q p r) (hk : k < 10000) (hs : p0.sent ≤ 999999999999990000) : Mid d (k + 1) now r.1 p0 r.2.1 := by
  have h1 := h.ok.hs0
  have h2 := h.sent
  have h3 := hr.sent0
  have h4 := hr.sent1
  exact ⟨⟨h.ok.hd, hr.dev.trans h.ok.hdev, hr.len, by omega, by omega, h.ok.ht0, h.ok.ht1, hr.regs⟩, hr.id.trans h.id, by push_cast; omega⟩

set_option maxRecDepth 400000 in
set_option maxHeartbeats 4000000 in
theorem s_run (S Q P R b off cap : Nat) (a : Option Addr) (pv : Value) (rec : ByteArray) (now last : Int) (qv : Nat → Value) (qs : Nat → List Msg) (p : Pr) (d pc : Nat) (L : List (Nat × Int)) (cs : List Ins) (w : World) (h : SimCore w S Q P R (cmd (.slice a cs.length cap)) pv rec now last qv qs p)
    (hcode : 0 < cs.length → a = some ⟨b, off, none⟩ ∧ b < w.heap.size ∧ CodeAt w b off cs ∧ ¬ StepT S Q P R (qv d) b) (hsnd : soundL cs = true) (hpc : pc ≤ cs.length) (hg : GoOk d now (qs d) p) (hs : p.sent ≤ 999999999999990000) (hP : ProcsAt w pv L) (hL : L.length ≤ 1000) :
    Calls Try.prog 123 #[.pointer (some ⟨S, 0, none⟩), .pointer (some ⟨P, 0, none⟩), .int .i64 (pc : Nat)] w fun e w' => e = .returned (.tuple #[]) ∧ StepOut S Q P R (cmd (.slice a cs.length cap)) pv rec now last qv qs d L w (runP now cs 10000 (pc : Nat) (qs d) p).1 (runP now cs 10000 (pc : Nat) (qs d) p).2.1 (runP now cs 10000 (pc : Nat) (qs d) p).2.2 w' := by
  have hlen : cs.length ≤ 1000 := by
    rcases Nat.lt_or_ge 1000 cs.length with h | h
    · rw [soundL_long h] at hsnd; cases hsnd
    · exact h
  have HALL : Hid (∀ x ∈ cs, soundI cs.length x = true) := by
    have := hsnd
    rw [soundL_short hlen] at this
    exact List.all_eq_true.mp this
  have HSND : Hid (soundL cs = true) := hsnd
  have HCODE : Hid (0 < cs.length → a = some ⟨b, off, none⟩ ∧ b < w.heap.size ∧ CodeAt w b off cs ∧ ¬ StepT S Q P R (qv d) b) := hcode
  have HH : Hid (SimCore w S Q P R (cmd (.slice a cs.length cap)) pv rec now last qv qs p) := h
  have HP : Hid (ProcsAt w pv L) := hP
  have HMID : Hid (Mid d 0 now (qs d) p p) := ⟨hg, rfl, by omega⟩
  have HSENT : Hid (p.sent ≤ 999999999999990000) := hs
  have hd : d < 3 := hg.hd
  clear h hcode hsnd hg hP hs
  obtain ⟨N, hN⟩ : ∃ N : Nat, N = 10000 := ⟨_, rfl⟩
  have HN : Hid (N = 10000) := hN
  rw [← hN]
  clear hN
  generalize hR : runP now cs N (pc : Nat) (qs d) p = RR
  have HR : Hid (runP now cs N (pc : Nat) (qs d) p = RR) := hR
  clear hR
  go_enter Try.func123, Try.ntmps123
  go_wp2_with fail
  go_loopw [2, 6] (fun pcv i wr => ∃ (k pn : Nat) (q' : List Msg) (p' : Pr), k ≤ N ∧ i = .int .i64 k ∧ pcv = .int .i64 (pn : Nat) ∧ pn ≤ cs.length ∧ Hid (StepOut S Q P R (cmd (.slice a cs.length cap)) pv rec now last qv qs d L w q' p' false wr) ∧ Hid (Mid d k now q' p p') ∧ Hid (runP now cs (N - k) (pn : Nat) q' p' = RR)) (fun _ i _ => N - (intOf i).toNat)
  case atStart => exact ⟨0, pc, qs d, p, by omega, rfl, rfl, hpc, .plain HH.out (Fr.refl _ _), HMID, HR⟩
  case round =>
    obtain ⟨k, pn, q', p', hk, rfl, rfl, hpn, HO, HM, HQ⟩ := hrel
    obtain ⟨v, pv', hC, hv, hpv, -, hF⟩ := HO.out
    obtain rfl := hpv rfl
    have s2 : wr.cell? ⟨S, 2, none⟩ = some (.slice a cs.length cap) := (cell_of_heap hC.sB).trans rfl
    have hPA : ProcsAt wr pv' L := HP.out.after HH.out hC HM.out.id hd hF
    have HE : Hid (Calls Try.prog 129 #[.pointer (some ⟨S, 0, none⟩), .pointer (some ⟨P, 0, none⟩)] wr fun e w' => e = .returned (.tuple #[]) ∧ StepOut S Q P R (cmd (.slice a cs.length cap)) pv' rec now last qv qs d L w q' p' true w') :=
      (s_ended S Q P R _ pv' rec now last _ _ p' L wr hC hPA hL).mono (by
        rintro e w' ⟨rfl, v2, e1, e2, e3, e4⟩
        refine ⟨rfl, .trans (v1 := v) (q1 := q') hv hF ⟨v, v2, by rw [upd_upd, upd_upd]; exact e1, fun b hb => .inl (by rw [upd_same]; exact hb), fun hh => (by cases hh), fun _ => ⟨e2, e3⟩, e4.mono fun k _ hk => .inr (.inr (.inr (.inl hk)))⟩⟩)
    by_cases hk2 : k < N
    · have hk3 : (k : Int) < 10000 := by have := HN.out; omega
      obtain ⟨f, hf⟩ : ∃ f, N - k = f + 1 := ⟨N - k - 1, by omega⟩
      have hf2 : f = N - (k + 1) := by omega
      by_cases hlt : pn < cs.length
      · obtain ⟨rfl, hb1, hb2, hb3⟩ := HCODE.out (by omega)
        have hS := s_step S Q P R b off cap pv' rec now last _ _ p' d pn L cs wr hC (hb2.keep (hF.block b hb1 hb3)) HSND.out hlt (by rw [upd_same]; exact HM.out.ok) hPA hL
        rw [upd_same] at hS
        have hok : StepOk cs.length q' p' (stepP now cs[pn] (pn : Nat) q' p') := stepP_ok (HALL.out _ (List.getElem_mem hlt)) (by omega) (by omega) HM.out.ok.regs HM.out.ok.hl
        have hstop := runP_stop (now := now) (f := f) (q := q') (p := p') hlt
        have hon := runP_on (now := now) (f := f) (q := q') (p := p') hlt
        generalize stepP now cs[pn] (pn : Nat) q' p' = r at *
        have hq := HQ.out
        rw [hf] at hq
        have HS : Hid (Calls Try.prog 153 #[.pointer (some ⟨S, 0, none⟩), .pointer (some ⟨P, 0, none⟩), .int .i64 (pn : Nat)] wr fun e w' => e = .returned (.int .i64 r.2.2.1) ∧ StepOut S Q P R (cmd (.slice (some ⟨b, off, none⟩) cs.length cap)) pv' rec now last qv qs d L w r.1 r.2.1 r.2.2.2 w') := hS.mono fun e w' ⟨h1, h2⟩ => ⟨h1, .trans hv hF h2⟩
        have HOK : Hid (StepOk cs.length q' p' r) := hok
        by_cases hneg : r.2.2.1 < 0
        · have HRR : Hid ((r.1, r.2.1, r.2.2.2) = RR) := (hstop hneg).symm.trans hq
          clear hS hok hstop hon hq HQ hF hC hPA hv hpv HE hf hf2 hb1 hb2 hb3
          go_wp2_with fail
          refine HS.out.mono ?_
          rintro e w' ⟨rfl, hout⟩
          have HOUT : Hid (StepOut S Q P R (cmd (.slice (some ⟨b, off, none⟩) cs.length cap)) pv' rec now last qv qs d L w r.1 r.2.1 r.2.2.2 w') := hout
          clear hout HS s2
          go_wp2_with fail
          (try simp only [Exit.inBlock, Exit.then]); refine bodyPost_ret (results_none rfl _ _ _) rfl ?_
          refine ⟨rfl, ?_⟩
          rw [← HRR.out]
          exact HOUT.out
        · have hpc2 : 0 ≤ r.2.2.1 ∧ r.2.2.1 ≤ cs.length := by
            rcases hok.pc with h | h
            · omega
            · exact h
          have HRR : Hid (runP now cs (N - (k + 1)) r.2.2.1 r.1 r.2.1 = RR) := by rw [← hf2]; exact (hon hneg).symm.trans hq
          have HDN : Hid (r.2.2.2 = false) := by
            show _ = _
            cases hd2 : r.2.2.2 with
            | false => rfl
            | true => have := hok.done hd2; omega
          have HM2 : Hid (Mid d (k + 1) now r.1 p r.2.1) := HM.out.step hok (by omega) HSENT.out
          obtain ⟨z, hz⟩ : ∃ z : Nat, r.2.2.1 = (z : Nat) := nat_of hpc2.1
          have hz2 : z ≤ cs.length := by omega
          rw [hz] at HS HRR
          clear hS hok hstop hon hq HQ hF hC hPA hv hpv HE hf hf2 hb1 hb2 hb3 hneg hpc2 hz
          go_wp2_with fail
          refine HS.out.mono ?_
          rintro e w' ⟨rfl, hout⟩
          rw [HDN.out] at hout
          have HOUT : Hid (StepOut S Q P R (cmd (.slice (some ⟨b, off, none⟩) cs.length cap)) pv' rec now last qv qs d L w r.1 r.2.1 false w') := hout
          clear hout HS s2
          go_wp2_with fail
          go_roundw
          case rel => exact ⟨k + 1, z, r.1, r.2.1, by omega, by go_num, rfl, hz2, HOUT, HM2, HRR⟩
          case measure => simp [intOf]; omega
      · have HRR : Hid ((q', p', true) = RR) := by
          have hq := HQ.out
          rw [hf, runP_out (by omega)] at hq
          exact hq
        clear hF hC hPA hv hpv hf hf2 HQ
        go_wp2_with fail
        refine HE.out.mono ?_
        rintro e w' ⟨rfl, hout⟩
        have HOUT : Hid (StepOut S Q P R (cmd (.slice a cs.length cap)) pv' rec now last qv qs d L w q' p' true w') := hout
        clear hout HE s2
        go_wp2_with fail
        (try simp only [Exit.inBlock, Exit.then]); refine bodyPost_ret (results_none rfl _ _ _) rfl ?_
        refine ⟨rfl, ?_⟩
        rw [← HRR.out]
        exact HOUT.out
    · have HRR : Hid ((q', p', true) = RR) := by
        have hq := HQ.out
        rw [show N - k = 0 from by omega, runP] at hq
        exact hq
      have hk3 : k = 10000 := by have := HN.out; omega
      subst hk3
      clear hF hC hPA hv hpv HQ
      go_wp2_with fail
      refine HE.out.mono ?_
      rintro e w' ⟨rfl, hout⟩
      have HOUT : Hid (StepOut S Q P R (cmd (.slice a cs.length cap)) pv' rec now last qv qs d L w q' p' true w') := hout
      clear hout HE s2
      go_wp2_with fail
      go_end0
      refine ⟨rfl, ?_⟩
      rw [← HRR.out]
      exact HOUT.out

theorem GoOk.num0 {d : Nat} {now : Int} {q q' : List Msg} {p : Pr} (h : GoOk d now q p) (hq : q'.length ≤ q.length) : GoOk d now q' { p with num := 0 } :=
  ⟨h.hd, h.hdev, Nat.le_trans hq h.hl, h.hs0, h.hs1, h.ht0, h.ht1, h.regs⟩

/-- What a run needs around it, to go on. -/
structure Ready (S Q P R b off cap : Nat) (a : Option Addr) (pv : Value) (rec : ByteArray) (now last : Int) (qv : Nat → Value) (qs : Nat → List Msg) (p : Pr) (d : Nat) (L : List (Nat × Int)) (cs : List Ins) (w : World) : Prop where
  core : SimCore w S Q P R (cmd (.slice a cs.length cap)) pv rec now last qv qs p
  code : 0 < cs.length → a = some ⟨b, off, none⟩ ∧ b < w.heap.size ∧ CodeAt w b off cs ∧ ¬ StepT S Q P R (qv d) b
  ok : GoOk d now (qs d) p
  sent : p.sent ≤ 999999999999990000
  procs : ProcsAt w pv L

/-- It goes on at pc, behind what was done to its queue and its number. -/
theorem Ready.goes {S Q P R b off cap : Nat} {a : Option Addr} {pv : Value} {rec : ByteArray} {now last : Int} {qv : Nat → Value} {qs : Nat → List Msg} {p : Pr} {d : Nat} {L : List (Nat × Int)} {cs : List Ins} {w w1 : World} {v : Value} {q1 : List Msg} (h : Ready S Q P R b off cap a pv rec now last qv qs p d L cs w) (hsnd : soundL cs = true) (hL : L.length ≤ 1000) (pc : Nat) (hpc : pc ≤ cs.length)
    (h1 : SimCore w1 S Q P R (cmd (.slice a cs.length cap)) pv rec now last (upd qv d v) (upd qs d q1) { p with num := 0 }) (hv : ∀ b, v.ownBlock = some b → (qv d).ownBlock = some b ∨ w.heap.size ≤ b) (hF : Fr (StepT S Q P R (qv d)) w w1) (hq : q1.length ≤ (qs d).length) :
    Calls Try.prog 123 #[.pointer (some ⟨S, 0, none⟩), .pointer (some ⟨P, 0, none⟩), .int .i64 (pc : Nat)] w1 fun e w' => e = .returned (.tuple #[]) ∧ StepOut S Q P R (cmd (.slice a cs.length cap)) pv rec now last qv qs d L w (runP now cs 10000 (pc : Nat) q1 { p with num := 0 }).1 (runP now cs 10000 (pc : Nat) q1 { p with num := 0 }).2.1 (runP now cs 10000 (pc : Nat) q1 { p with num := 0 }).2.2 w' := by
  have hr := s_run S Q P R b off cap a pv rec now last (upd qv d v) (upd qs d q1) { p with num := 0 } d pc L cs w1 h1 (fun hp => by
    obtain ⟨e1, e2, e3, e4⟩ := h.code hp
    refine ⟨e1, Nat.lt_of_lt_of_le e2 hF.size, e3.keep (hF.block b e2 e4), ?_⟩
    rw [upd_same]
    rintro (hk | hk | hk | hk | hk)
    · exact e4 (.inl hk)
    · exact e4 (.inr (.inl hk))
    · exact e4 (.inr (.inr (.inl hk)))
    · exact e4 (.inr (.inr (.inr (.inl hk))))
    · rcases hv b hk with hk | hk
      · exact e4 (.inr (.inr (.inr (.inr hk))))
      · omega) hsnd hpc (by rw [upd_same]; exact h.ok.num0 hq) h.sent (h.procs.after h.core h1 rfl h.ok.hd hF) hL
  rw [upd_same] at hr
  exact hr.mono fun e w' ⟨k1, k2⟩ => ⟨k1, .trans hv hF k2⟩

set_option maxRecDepth 400000 in
set_option maxHeartbeats 4000000 in
theorem s_on_yes (S Q P R b off cap : Nat) (a : Option Addr) (pv : Value) (rec : ByteArray) (now last : Int) (qv : Nat → Value) (qs : Nat → List Msg) (p : Pr) (d pc : Nat) (L : List (Nat × Int)) (cs : List Ins) (w : World) (h : Ready S Q P R b off cap a pv rec now last qv qs p d L cs w)
    (hsnd : soundL cs = true) (hpc : pc ≤ cs.length) (hL : L.length ≤ 1000) (hto : p.tow = (pc : Nat)) :
    Calls Try.prog 125 #[.pointer (some ⟨S, 0, none⟩), .pointer (some ⟨P, 0, none⟩), .bool true] w fun e w' => e = .returned (.tuple #[]) ∧ StepOut S Q P R (cmd (.slice a cs.length cap)) pv rec now last qv qs d L w (onP now cs true (qs d) p).1 (onP now cs true (qs d) p).2.1 (onP now cs true (qs d) p).2.2 w' := by
  have e : onP now cs true (qs d) p = runP now cs 10000 (pc : Nat) (qs d) { p with num := 0 } := by rw [← hto]; rfl
  rw [e]
  have s0 : w.cell? ⟨S, 0, none⟩ = some (.bool false) := (cell_of_heap h.core.sB).trans rfl
  have p4 : w.cell? ⟨P, 4, none⟩ = some (.int .i64 p.num) := (cell_of_heap h.core.pB).trans rfl
  have z4 : w.frozen? ⟨P, 4, none⟩ = false := free_of_heap h.core.pB
  have p8 : w.cell? ⟨P, 8, none⟩ = some (.int .i64 (pc : Nat)) := by rw [← hto]; exact (cell_of_heap h.core.pB).trans rfl
  have hPS : S ≠ P := ne_of_type h.core.sB h.core.pB (by decide)
  have HR : Hid (Calls Try.prog 123 #[.pointer (some ⟨S, 0, none⟩), .pointer (some ⟨P, 0, none⟩), .int .i64 (pc : Nat)] (w.setCell ⟨P, 4, none⟩ (.int .i64 0)) _) := h.goes (v := qv d) (q1 := qs d) hsnd hL pc hpc (by rw [upd_self, upd_self]; exact h.core.setP (p' := { p with num := 0 }) 4 _ rfl rfl) (fun _ hb => .inl hb) ((Fr.refl _ _).setCell ⟨P, 4, none⟩ (Or.inl (Or.inl rfl)) _) (Nat.le_refl _)
  generalize runP now cs 10000 (pc : Nat) (qs d) { p with num := 0 } = RR at *
  clear h hsnd hto e
  go_enter Try.func125, Try.ntmps125
  go_wp2_with fail
  refine HR.out.mono ?_
  rintro e w' ⟨rfl, hout⟩
  have HOUT : Hid (StepOut _ _ _ _ _ _ _ _ _ _ _ _ _ _ _ _ _ _) := hout
  clear hout HR
  go_wp2_with fail
  go_end0
  exact ⟨rfl, HOUT.out⟩

set_option maxRecDepth 400000 in
set_option maxHeartbeats 4000000 in
theorem s_on_no (S Q P R b off cap : Nat) (a : Option Addr) (pv : Value) (rec : ByteArray) (now last : Int) (qv : Nat → Value) (qs : Nat → List Msg) (p : Pr) (d pc : Nat) (L : List (Nat × Int)) (cs : List Ins) (w : World) (h : Ready S Q P R b off cap a pv rec now last qv qs p d L cs w)
    (hsnd : soundL cs = true) (hpc : pc ≤ cs.length) (hL : L.length ≤ 1000) (hels : p.els = (pc : Nat)) :
    Calls Try.prog 125 #[.pointer (some ⟨S, 0, none⟩), .pointer (some ⟨P, 0, none⟩), .bool false] w fun e w' => e = .returned (.tuple #[]) ∧ StepOut S Q P R (cmd (.slice a cs.length cap)) pv rec now last qv qs d L w (onP now cs false (qs d) p).1 (onP now cs false (qs d) p).2.1 (onP now cs false (qs d) p).2.2 w' := by
  have s0 : w.cell? ⟨S, 0, none⟩ = some (.bool false) := (cell_of_heap h.core.sB).trans rfl
  have p4 : w.cell? ⟨P, 4, none⟩ = some (.int .i64 p.num) := (cell_of_heap h.core.pB).trans rfl
  have hPS : S ≠ P := ne_of_type h.core.sB h.core.pB (by decide)
  by_cases hnum : 0 < p.num
  · have e : onP now cs false (qs d) p = runP now cs 10000 (pc : Nat) (takeQ (qs d) p.id p.num) { p with num := 0 } := by
      rw [← hels]; unfold onP; rw [if_neg (by simp), if_pos hnum]
    rw [e]
    have HT : Hid (Calls Try.prog 128 #[.pointer (some ⟨S, 0, none⟩), .pointer (some ⟨P, 0, none⟩), .int .i64 p.num] w _) := s_take S Q P R _ pv rec now last qv qs p p.num d w h.core h.ok.hd h.ok.hdev h.ok.hl
    have HR : Hid (∀ (w1 : World) (v : Value), SimCore w1 S Q P R (cmd (.slice a cs.length cap)) pv rec now last (upd qv d v) (upd qs d (takeQ (qs d) p.id p.num)) p → (∀ b, v.ownBlock = some b → w.heap.size ≤ b) → Fr (fun k => k = Q) w w1 → Calls Try.prog 123 #[.pointer (some ⟨S, 0, none⟩), .pointer (some ⟨P, 0, none⟩), .int .i64 (pc : Nat)] (w1.setCell ⟨P, 4, none⟩ (.int .i64 0)) _) := fun w1 v h1 h2 h3 =>
      h.goes (v := v) (q1 := takeQ (qs d) p.id p.num) hsnd hL pc hpc (h1.setP (p' := { p with num := 0 }) 4 _ rfl rfl) (fun b hb => .inr (h2 b hb)) ((h3.mono fun k _ hk => .inr (.inl hk)).setCell ⟨P, 4, none⟩ (Or.inl (Or.inl rfl)) _) (takeQ_len _ _ _)
    have HEL : Hid (p.els = (pc : Nat)) := hels
    generalize runP now cs 10000 (pc : Nat) (takeQ (qs d) p.id p.num) { p with num := 0 } = RR at *
    clear h hsnd hels e
    go_enter Try.func125, Try.ntmps125
    go_wp2_with fail
    refine HT.out.mono ?_
    rintro e w1 ⟨rfl, v, h1, h2, h3⟩
    have q0 : w1.cell? ⟨S, 0, none⟩ = some (.bool false) := (cell_of_heap h1.sB).trans rfl
    have q4 : w1.cell? ⟨P, 4, none⟩ = some (.int .i64 p.num) := (cell_of_heap h1.pB).trans rfl
    have z4 : w1.frozen? ⟨P, 4, none⟩ = false := free_of_heap h1.pB
    have q9 : w1.cell? ⟨P, 9, none⟩ = some (.int .i64 (pc : Nat)) := by rw [← HEL.out]; exact (cell_of_heap h1.pB).trans rfl
    have HRR := HR.out w1 v h1 h2 h3
    clear h1 h2 h3 HR HT s0 p4
    go_wp2_with fail
    refine HRR.mono ?_
    rintro e w' ⟨rfl, hout⟩
    have HOUT : Hid (StepOut _ _ _ _ _ _ _ _ _ _ _ _ _ _ _ _ _ _) := hout
    clear hout HRR
    go_wp2_with fail
    go_end0
    exact ⟨rfl, HOUT.out⟩
  · have e : onP now cs false (qs d) p = runP now cs 10000 (pc : Nat) (qs d) { p with num := 0 } := by
      rw [← hels]; unfold onP; rw [if_neg (by simp), if_neg hnum]
    rw [e]
    have z4 : w.frozen? ⟨P, 4, none⟩ = false := free_of_heap h.core.pB
    have p9 : w.cell? ⟨P, 9, none⟩ = some (.int .i64 (pc : Nat)) := by rw [← hels]; exact (cell_of_heap h.core.pB).trans rfl
    have HR : Hid (Calls Try.prog 123 #[.pointer (some ⟨S, 0, none⟩), .pointer (some ⟨P, 0, none⟩), .int .i64 (pc : Nat)] (w.setCell ⟨P, 4, none⟩ (.int .i64 0)) _) := h.goes (v := qv d) (q1 := qs d) hsnd hL pc hpc (by rw [upd_self, upd_self]; exact h.core.setP (p' := { p with num := 0 }) 4 _ rfl rfl) (fun _ hb => .inl hb) ((Fr.refl _ _).setCell ⟨P, 4, none⟩ (Or.inl (Or.inl rfl)) _) (Nat.le_refl _)
    generalize runP now cs 10000 (pc : Nat) (qs d) { p with num := 0 } = RR at *
    clear h hsnd hels e
    go_enter Try.func125, Try.ntmps125
    go_wp2_with fail
    refine HR.out.mono ?_
    rintro e w' ⟨rfl, hout⟩
    have HOUT : Hid (StepOut _ _ _ _ _ _ _ _ _ _ _ _ _ _ _ _ _ _) := hout
    clear hout HR
    go_wp2_with fail
    go_end0
    exact ⟨rfl, HOUT.out⟩

end Go.Proofs.Ytmmmnghiegajmaa
