import Derived.Test.YtmmmnghiegajmaaM18
import Derived.Deep.LoopGhost
/- The document's own herald: Tick. -/
namespace Go.Proofs.Ytmmmnghiegajmaa
open Go.RowKit Go.Proofs.Herald
def tilsOf (rs : List Rs) : List (Nat × Int) := rs.map fun x => (x.P, x.p.til)
theorem due_mem (en : Int) : ∀ (rs : List Rs) (o : Option Rs), (tilsOf rs).foldl (dueStep en) (o.map fun x => (x.P, x.p.til)) = (rs.foldl (dueF memE en) o).map fun x => (x.P, x.p.til) := by
  intro rs
  induction rs with
  | nil => intro o; rfl
  | cons x rs ih =>
    intro o
    have e : dueStep en (o.map fun x => (x.P, x.p.til)) (x.P, x.p.til) = (dueF memE en o x).map fun x => (x.P, x.p.til) := by
      unfold dueStep dueF
      have e1 : (memE.pub x).til = x.p.til := rfl
      rw [e1]
      simp only
      split
      · cases o with
        | none => rfl
        | some b =>
          have e2 : (memE.pub b).til = b.p.til := rfl
          simp only [Option.map_some, e2]
          split <;> rfl
      · rfl
    simp only [tilsOf, List.map_cons, List.foldl_cons] at ih ⊢
    rw [e]
    exact ih _
/-- The run that is due, in memory and plain. -/
theorem due_link {RT : Type} {M : Mode RT} (hM : ModeOk M) {w : World} (en : Int) {rs : List Rs} {l : List RT} (h : relL (M.link w) rs l) :
    (dueL en (tilsOf rs) = none ∧ dueR M.E en l = none) ∨ ∃ x r, x ∈ rs ∧ dueL en (tilsOf rs) = some (x.P, x.p.til) ∧ dueR M.E en l = some r ∧ M.link w x r := by
  have hp : ∀ a b, M.link w a b → memE.pub a = M.E.pub b := fun a b hab => (hM.pub w a b hab).symm
  have h1 := relL_due hp en h (o := none) (o' := none) trivial
  have h2 := due_mem en rs none
  have h3 : dueL en (tilsOf rs) = (rs.foldl (dueF memE en) none).map fun x => (x.P, x.p.til) := h2
  rw [h3]
  unfold dueR
  cases hm : rs.foldl (dueF memE en) none with
  | none =>
    rw [hm] at h1
    cases hl : l.foldl (dueF M.E en) none with
    | none => exact .inl ⟨rfl, rfl⟩
    | some y => rw [hl] at h1; exact h1.elim
  | some x =>
    rw [hm] at h1
    cases hl : l.foldl (dueF M.E en) none with
    | none => rw [hl] at h1; exact h1.elim
    | some y =>
      rw [hl] at h1
      have hx : x ∈ rs := (dueR_some (E := memE) (en := en) (l := rs) hm).1
      exact .inr ⟨x, y, hx, rfl, rfl, h1⟩
/-- The time is laid anew. -/
theorem SimH.setNow {RT : Type} {M : Mode RT} (hM : ModeOk M) {w : World} {S Q : Nat} {rec : ByteArray} {h : Her RT} {pv : Value} {qv : Nat → Value} {rs : List Rs} (H : SimH M w S Q rec h pv qv rs) (t : Int) :
    SimH M (w.setCell ⟨S, 3, none⟩ (.int .i64 t)) S Q rec { h with now := t } pv qv rs ∧ Fr (fun k => k = S) w (w.setCell ⟨S, 3, none⟩ (.int .i64 t)) := by
  have hf : Fr (fun k => k = S) w (w.setCell ⟨S, 3, none⟩ (.int .i64 t)) := (Fr.refl (fun k => k = S) w).setCell ⟨S, 3, none⟩ (.inl rfl) _
  have hfo : Fr (ownS S Q pv qv rs) w (w.setCell ⟨S, 3, none⟩ (.int .i64 t)) := hf.mono fun k _ hk => .inl hk
  refine ⟨⟨H.at'.setS ?_ fun k ho hk => hf.block k (H.at'.lt ho) hk, H.base, relL_imp (fun a b hab => hM.keep _ _ a b hab (H.at'.still H.base hfo)) H.rel⟩, hf⟩
  rw [heap_setCell_self _ H.at'.sB]; rfl
/-- Where Tick stands, with k rounds at most to come. -/
structure TickAt {RT : Type} (M : Mode RT) (G : RT → Prop) (w : World) (S Q : Nat) (rec : ByteArray) (h : Her RT) (pv : Value) (qv : Nat → Value) (rs : List Rs) (C en : Int) (k : Nat) (wr : World) (hj : Her RT) (Cj : Int) (pvj : Value) (qvj : Nat → Value) (rsj : List Rs) : Prop where
  at' : SimH M wr S Q rec hj pvj qvj rsj
  ok : HOk M.E G Cj hj
  C1 : Cj + 10000 * (k : Int) ≤ C + 50000000
  ms : msR M.E en hj.rs ≤ k
  eq : tickN M.E en k hj = tickN M.E en 5000 h
  fr : Fr (ownS S Q pv qv rs) w wr
  own : ∀ k, ownS S Q pvj qvj rsj k → ownS S Q pv qv rs k ∨ w.heap.size ≤ k
set_option maxHeartbeats 2000000 in
theorem sim_tick_no {RT : Type} {M : Mode RT} {G : RT → Prop} (S Q : Nat) (rec : ByteArray) (h : Her RT) (pv : Value) (qv : Nat → Value) (rs : List Rs) (n C : Int) (w : World) (H : SimH M w S Q rec h pv qv rs) (hI : HOk M.E G C h) (hn : ¬ (1 ≤ n ∧ n ≤ 999) ∨ 1000000000 < h.now + n) :
    Calls Try.prog 91 #[.pointer (some ⟨S, 0, none⟩), .int .i64 n] w fun e w' => e = .returned (.int .i64 14) ∧ SimOut M w S Q pv qv rs rec h w' := by
  have c3 : w.cell? ⟨S, 3, none⟩ = some (.int .i64 h.now) := (cell_of_heap H.at'.sB).trans rfl
  have HS : Hid (SimOut M w S Q pv qv rs rec h w) := SimOut.same H (SameH.refl w) fun _ _ hl => hl
  have n0 := hI.now0
  have n1 := hI.now1
  clear H hI
  by_cases hw : 1 ≤ n ∧ n ≤ 999
  · have b1 : withinB n 1 999 = true := withinB_yes hw.1 hw.2
    have h2 : 1000000000 < h.now + n := by rcases hn with hn | hn; exact absurd hw hn; exact hn
    obtain ⟨w1, w2⟩ := hw
    clear hn
    go_enter Try.func91, Try.ntmps91
    go_wp2_with fail
    refine (within_any n 1 999 w).mono ?_
    rw [b1]
    rintro e w' ⟨rfl, rfl⟩
    go_wp2_with fail
    go_ret
    exact ⟨rfl, HS.out⟩
  · have b1 : withinB n 1 999 = false := by
      by_cases h1 : 1 ≤ n
      · exact withinB_hi (fun h2 => hw ⟨h1, h2⟩)
      · exact withinB_lo h1
    clear hn hw
    go_enter Try.func91, Try.ntmps91
    go_wp2_with fail
    refine (within_any n 1 999 w).mono ?_
    rw [b1]
    rintro e w' ⟨rfl, rfl⟩
    go_wp2_with fail
    go_ret
    exact ⟨rfl, HS.out⟩
set_option maxHeartbeats 4000000 in
theorem sim_tick_yes {RT : Type} {M : Mode RT} {G : RT → Prop} (hM : ModeOk M) (hE : EngOk M.E G) (S Q : Nat) (rec : ByteArray) (h : Her RT) (pv : Value) (qv : Nat → Value) (rs : List Rs) (n C : Int) (w : World) (H : SimH M w S Q rec h pv qv rs) (hI : HOk M.E G C h) (hC : C ≤ 900000000000000000) (hr : rec.size ≤ 1000000000000) (hn1 : 1 ≤ n) (hn2 : n ≤ 999) (hn3 : h.now + n ≤ 1000000000) :
    Calls Try.prog 91 #[.pointer (some ⟨S, 0, none⟩), .int .i64 n] w fun e w' => e = .returned (.int .i64 0) ∧ SimOut M w S Q pv qv rs (rec ++ recS 75 n 0) { tickN M.E (h.now + n) 5000 h with now := h.now + n } w' := by
  have b1 : withinB n 1 999 = true := withinB_yes hn1 hn2
  have c3 : w.cell? ⟨S, 3, none⟩ = some (.int .i64 h.now) := (cell_of_heap H.at'.sB).trans rfl
  have n0 := hI.now0
  obtain ⟨en, hen⟩ : ∃ en, en = h.now + n := ⟨_, rfl⟩
  rw [← hen]
  have HEN : Hid (en = h.now + n) := hen
  have hen1 : en ≤ 1000000000 := by omega
  have hen0 : 0 ≤ en := by omega
  have H0 : Hid (TickAt M G w S Q rec h pv qv rs C en 5000 w h C pv qv rs) := by
    refine ⟨H, hI, by omega, ?_, rfl, Fr.refl _ _, fun k hk => .inl hk⟩
    have h1 := msR_small (E := M.E) (en := en) (t := h.now) 1000 (by omega) h.rs (fun r hr => (hI.til r hr).1)
    have h2 := hI.len
    have : h.rs.length * 1000 ≤ 5 * 1000 := Nat.mul_le_mul_right _ h2
    omega
  clear H hI hen
  go_enter Try.func91, Try.ntmps91
  go_wp2_with fail
  refine (within_any n 1 999 w).mono ?_
  rw [b1]
  rintro e w' ⟨rfl, rfl⟩
  go_wp2_with fail
  rw [← HEN.out]
  go_loopg [7] 5000 (fun k _ wr => ∃ (hj : Her RT) (Cj : Int) (pvj : Value) (qvj : Nat → Value) (rsj : List Rs), Hid (TickAt M G w' S Q rec h pv qv rs C en k wr hj Cj pvj qvj rsj))
  case atStart => exact ⟨h, C, pv, qv, rs, H0⟩
  case round =>
    obtain ⟨hj, Cj, pvj, qvj, rsj, HT⟩ := hrel
    have c5 : wr.cell? ⟨S, 5, none⟩ = some pvj := (cell_of_heap HT.out.at'.at'.sB).trans rfl
    have hlj : rsj.length ≤ 5 := by rw [relL_len HT.out.at'.rel]; exact HT.out.ok.len
    have HDU : Hid (Calls Try.prog 124 #[.pointer (some ⟨S, 0, none⟩), .int .i64 en] wr fun e w' => e = .returned (ptrOf (dueL en (tilsOf rsj))) ∧ SameH wr w') := by
      refine s_due S pvj (tilsOf rsj) en wr c5 ?_ ?_ (by unfold tilsOf; rw [List.length_map]; omega)
      · have e1 : ptrs (tilsOf rsj) = ptrs (idsOf rsj) := by unfold ptrs tilsOf idsOf; rw [List.map_map, List.map_map]; rfl
        rw [e1]
        unfold tilsOf
        rw [List.length_map]
        exact HT.out.at'.at'.lB
      · intro y hy
        obtain ⟨x, hx, rfl⟩ := List.mem_map.mp hy
        exact (cell_of_heap (HT.out.at'.at'.rB x hx).1).trans rfl
    rcases due_link hM en HT.out.at'.rel with ⟨f1, f2⟩ | ⟨x, r, hx, f1, f2, hlk⟩
    · rw [f1] at HDU
      have hp : ptrOf none = .pointer none := rfl
      rw [hp] at HDU
      have HEQ : Hid (tickN M.E en 5000 h = hj) := by
        show _ = _
        rw [← HT.out.eq]
        cases gk with
        | zero => rfl
        | succ k => rw [tickN, f2]
      clear f1 f2 hp
      go_wp2_with fail
      refine HDU.out.mono ?_
      rintro e w1 ⟨rfl, hs1⟩
      have hst : Still M.B0 wr w1 := fun k _ _ => by rw [hs1.heap]
      have H1 : Hid (SimH M w1 S Q rec hj pvj qvj rsj ∧ Fr (ownS S Q pv qv rs) w' w1) :=
        ⟨⟨HT.out.at'.at'.keep fun k _ => by rw [hs1.heap], HT.out.at'.base, relL_imp (fun a b hab => hM.keep wr w1 a b hab hst) HT.out.at'.rel⟩, HT.out.fr.trans ⟨hs1.os, hs1.tape, hs1.output, by rw [hs1.heap]; exact Nat.le_refl _, fun k _ _ => by rw [hs1.heap]⟩⟩
      have k3 : w1.cell? ⟨S, 3, none⟩ = some (.int .i64 hj.now) := (cell_of_heap H1.out.1.at'.sB).trans rfl
      have z3 : w1.frozen? ⟨S, 3, none⟩ = false := free_of_heap H1.out.1.at'.sB
      clear hs1 hst HDU c5
      go_wp2_with fail
      have H2 := H1.out.1.setNow hM en
      refine (sim_wrote hM S Q rec { hj with now := en } pvj qvj rsj 75 n 0 _ H2.1 hr).mono ?_
      rintro e w2 ⟨rfl, hW, hf2⟩
      have H3 : Hid (SimOut M w' S Q pv qv rs (rec ++ recS 75 n 0) { tickN M.E en 5000 h with now := en } w2) := by
        rw [HEQ.out]
        exact ⟨⟨pvj, qvj, rsj, hW, HT.out.own⟩, (H1.out.2.trans (H2.2.mono fun k _ hk => .inl hk)).trans (hf2.mono fun k _ hk => .inl hk)⟩
      clear H2 hW hf2 k3 z3
      go_wp2_with fail
      go_ret
      exact ⟨rfl, H3.out⟩
    · rw [f1] at HDU
      have hp : ptrOf (some (x.P, x.p.til)) = .pointer (some ⟨x.P, 0, none⟩) := rfl
      rw [hp] at HDU
      obtain ⟨hrm, hte, hmin⟩ := dueR_some f2
      have hpub := hM.pub wr x r hlk
      have htil : (M.E.pub r).til = x.p.til := by rw [hpub]; rfl
      rw [htil] at hte hmin
      obtain ⟨d, hd3, hdd, hdn, hq4, hs0, hs1, ht0, _⟩ := run_bounds hM HT.out.ok hrm hlk
      have hnow0 := HT.out.ok.now0
      have hC1 := HT.out.C1
      have hk1 : 1 ≤ gk := by
        have h1 := HT.out.ms
        have h2 : 1 ≤ msR M.E en hj.rs := by
          have h3 : ∀ (l : List RT), r ∈ l → 1 ≤ msR M.E en l := by
            intro l
            induction l with
            | nil => intro h; cases h
            | cons y l ih =>
              intro h
              simp only [msR, List.map_cons, List.sum_cons] at ih ⊢
              rcases List.mem_cons.mp h with rfl | h
              · rw [htil]; omega
              · have := ih h; omega
          exact h3 _ hrm
        omega
      obtain ⟨k, rfl⟩ : ∃ k, gk = k + 1 := ⟨gk - 1, by omega⟩
      have HEQ : Hid (tickN M.E en 5000 h = tickN M.E en k (goH M.E { hj with now := x.p.til } r false)) := by
        show _ = _
        rw [← HT.out.eq, tickN, f2]
        simp only
        rw [htil]
      have hid : (M.E.pub r).id = x.p.id := by rw [hpub]; rfl
      have hE1 := hE.on x.p.til false (hj.qs d) r (HT.out.ok.good r hrm) hq4 (fun hh => by cases hh)
      have HGO : Hid (goH M.E { hj with now := x.p.til } r false = { hj with now := x.p.til, qs := updQ hj.qs d (M.E.on x.p.til false (hj.qs d) r).1, rs := afterR M.E hj.rs (M.E.on x.p.til false (hj.qs d) r).2.1 (M.E.on x.p.til false (hj.qs d) r).2.2 }) := by
        show _ = _
        unfold goH
        rw [hdn]
      have HOK : Hid (HOk M.E G (Cj + 10000) (goH M.E { hj with now := x.p.til } r false)) := HT.out.ok.go hE hrm false x.p.til (by omega) (by omega) hmin (fun hh => by cases hh)
      have HMS : Hid (msR M.E en (goH M.E { hj with now := x.p.til } r false).rs ≤ k) := by
        show msR M.E en _ ≤ k
        rw [HGO.out]
        have h1 := msR_after (E := M.E) (en := en) (r := r) (r' := (M.E.on x.p.til false (hj.qs d) r).2.1) (done := (M.E.on x.p.til false (hj.qs d) r).2.2) hE1.id (by rw [htil]; exact hte) (fun hd => by rw [htil]; exact (hE1.stop hd).2.1) hj.rs hrm HT.out.ok.nd
        have h2 := HT.out.ms
        show msR M.E en (afterR M.E hj.rs _ _) ≤ k
        omega
      have HX : Hid (x ∈ rsj ∧ (M.E.pub r).id = x.p.id ∧ M.link wr x r) := ⟨hx, hid, hlk⟩
      clear f1 f2 hp hrm hmin hpub htil hdn hlk hx hid hE1
      go_wp2_with fail
      refine HDU.out.mono ?_
      rintro e w1 ⟨rfl, hs1'⟩
      have hst : Still M.B0 wr w1 := fun k _ _ => by rw [hs1'.heap]
      have H1 : Hid (SimH M w1 S Q rec hj pvj qvj rsj ∧ Fr (ownS S Q pv qv rs) w' w1 ∧ M.link w1 x r) :=
        ⟨⟨HT.out.at'.at'.keep fun k _ => by rw [hs1'.heap], HT.out.at'.base, relL_imp (fun a b hab => hM.keep wr w1 a b hab hst) HT.out.at'.rel⟩, HT.out.fr.trans ⟨hs1'.os, hs1'.tape, hs1'.output, by rw [hs1'.heap]; exact Nat.le_refl _, fun k _ _ => by rw [hs1'.heap]⟩, hM.keep wr w1 x r HX.out.2.2 hst⟩
      have k3 : w1.cell? ⟨S, 3, none⟩ = some (.int .i64 hj.now) := (cell_of_heap H1.out.1.at'.sB).trans rfl
      have z3 : w1.frozen? ⟨S, 3, none⟩ = false := free_of_heap H1.out.1.at'.sB
      have p3 : w1.cell? ⟨x.P, 3, none⟩ = some (.int .i64 x.p.til) := (cell_of_heap (H1.out.1.at'.rB x HX.out.1).1).trans rfl
      clear hs1' hst HDU c5
      go_wp2_with fail
      have H2 := H1.out.1.setNow hM x.p.til
      have hst2 : M.link (w1.setCell ⟨S, 3, none⟩ (.int .i64 x.p.til)) x r := hM.keep _ _ x r H1.out.2.2 (H1.out.1.at'.still H1.out.1.base (H2.2.mono fun k _ hk => .inl hk))
      refine (hM.on S Q pvj rec x.p.til hj.last qvj hj.qs rsj _ x r d false H2.1.at' H2.1.base HX.out.1 hst2 hd3 hdd hq4 hs0 (by omega) (by omega) (by omega) (by omega) (fun hh => by cases hh)).mono ?_
      rintro e w4 ⟨rfl, x', v, pv', hO, hL⟩
      obtain ⟨j1, j2, j3⟩ := H2.1.after hM HX.out.1 hd3 hO (by rw [hM.eid]; exact HX.out.2.1) hL
      have H4 : Hid (TickAt M G w' S Q rec h pv qv rs C en k w4 (goH M.E { hj with now := x.p.til } r false) (Cj + 10000) pv' (upd qvj d v) (afterRs rsj x' (M.E.on x.p.til false (hj.qs d) r).2.2)) := by
        have f1 : Fr (ownS S Q pv qv rs) w' (w1.setCell ⟨S, 3, none⟩ (.int .i64 x.p.til)) := H1.out.2.1.trans (H2.2.mono fun k _ hk => .inl hk)
        refine ⟨?_, HOK.out, by omega, HMS.out, HEQ.out.symm, ?_, ?_⟩
        · rw [HGO.out]; exact j1
        · refine Fr.wide f1 (j2.mono fun k _ hk => ?_)
          rcases HT.out.own k hk with h1 | h1
          · exact .inl h1
          · exact .inr h1
        · intro k hk
          rcases j3 k hk with h1 | h1
          · exact HT.out.own k h1
          · exact .inr (Nat.le_trans f1.size h1)
      clear hO hL j1 j2 j3 H2 hst2 k3 z3 p3
      go_wp2_with fail
      go_roundg k
      case measure => omega
      case rel => exact ⟨_, _, _, _, _, H4⟩
end Go.Proofs.Ytmmmnghiegajmaa
