import Derived.Test.YtmmmnghiegajmaaM13
import Derived.Test.YtmmmnghiegajmaaM23
import Derived.Test.YtmmmnghiegajmaaM22
import Derived.Test.YtmmmnghiegajmaaM32
import Derived.Test.YtmmmnghiegajmaaM18
import Derived.Test.YtmmmnghiegajmaaM24
import Derived.Test.YtmmmnghiegajmaaM25
import Derived.Deep.RegionWith
import Derived.Deep.DeepCutAuto
/- Bounds of every call; the harness: both heralds and the owner's books, what is looked at, the plain side of each step. -/
namespace Go.Proofs.Herald
theorem HOk.trig {RT : Type} {E : Eng RT} {G : RT → Prop} (hE : EngOk E G) {C : Int} {h : Her RT} (H : HOk E G C h) (hC : 0 ≤ C) (dev : Int) : HOk E G (C + 10000) (trigH E h dev).2.2 := by
  have hm := H.mono (D := C + 10000) (by omega)
  unfold trigH
  split
  · exact hm
  · rename_i hd
    split
    · exact hm
    · rename_i hl
      have ho := hE.start h.now (h.qs dev.toNat) (h.last + 1) dev (H.qlen _)
      have hf := hE.fresh (h.last + 1) dev
      have hd' : 0 ≤ dev ∧ dev ≤ 2 := by simpa using hd
      have key : ∀ y ∈ afterR E (h.rs ++ [E.fresh (h.last + 1) dev]) (E.start h.now (h.qs dev.toNat) (E.fresh (h.last + 1) dev)).2.1 (E.start h.now (h.qs dev.toNat) (E.fresh (h.last + 1) dev)).2.2, ((E.start h.now (h.qs dev.toNat) (E.fresh (h.last + 1) dev)).2.2 = false ∧ y = (E.start h.now (h.qs dev.toNat) (E.fresh (h.last + 1) dev)).2.1) ∨ y ∈ h.rs := fun y hy => by
        rcases mem_after hy with h1 | ⟨h1, h2⟩
        · exact .inl h1
        · rcases List.mem_append.mp h1 with h1 | h1
          · exact .inr h1
          · rw [List.mem_singleton.mp h1, ho.id] at h2
            exact absurd rfl h2
      have hl0 := H.last0
      have hn0 := H.now0
      have hn1 := H.now1
      have hnd : (h.rs ++ [E.fresh (h.last + 1) dev]).Pairwise fun a b => (E.pub a).id ≠ (E.pub b).id := by
        rw [List.pairwise_append]
        refine ⟨H.nd, by simp, fun a ha b hb => ?_⟩
        rw [List.mem_singleton.mp hb, hf]
        have := H.id a ha
        show (E.pub a).id ≠ h.last + 1
        omega
      refine ⟨hn0, hn1, by show 0 ≤ h.last + 1; omega, updQ_len H.qlen ho.len, ?_, fun y hy => ?_, fun y hy => ?_, fun y hy => ?_, fun y hy => ?_, fun y hy => ?_, after_nd _ _ hnd⟩
      · refine Nat.le_trans (after_len _ _ _) ?_
        simp; omega
      · rcases key y hy with ⟨hd, rfl⟩ | hy
        · rw [ho.dev hd, hf]; exact hd'
        · exact H.dev y hy
      · rcases key y hy with ⟨hd, rfl⟩ | hy
        · have h1 := ho.sent0 hd
          have h2 := ho.sent1 hd
          rw [hf] at h1 h2
          simp only at h1 h2
          omega
        · have := H.sent y hy; omega
      · rcases key y hy with ⟨hd, rfl⟩ | hy
        · have := (ho.stop hd).2
          show h.now ≤ _ ∧ _
          omega
        · exact H.til y hy
      · show (E.pub y).id ≤ h.last + 1
        rcases key y hy with ⟨_, rfl⟩ | hy
        · rw [ho.id, hf]; exact Int.le_refl _
        · have := H.id y hy; omega
      · rcases key y hy with ⟨hd, rfl⟩ | hy
        · exact (ho.stop hd).1
        · exact H.good y hy
/-- On through a Tick: the bounds, and no run is due when there is fuel enough. -/
theorem HOk.tickN {RT : Type} {E : Eng RT} {G : RT → Prop} (hE : EngOk E G) (en : Int) (hen : en ≤ 1000000000) : ∀ (f : Nat) {C : Int} {h : Her RT}, HOk E G C h → h.now ≤ en → msR E en h.rs ≤ f → HOk E G (C + 10000 * f) (Herald.tickN E en f h) ∧ dueR E en (Herald.tickN E en f h).rs = none ∧ (Herald.tickN E en f h).last = h.last := by
  intro f
  induction f with
  | zero =>
    intro C h H hn hm
    refine ⟨H.mono (by simp), ?_, rfl⟩
    show dueR E en h.rs = none
    cases hd : dueR E en h.rs with
    | none => rfl
    | some r =>
      obtain ⟨hr, h1, _⟩ := dueR_some hd
      have h3 : ∀ (l : List RT), r ∈ l → 1 ≤ msR E en l := by
        intro l
        induction l with
        | nil => intro h; cases h
        | cons y l ih =>
          intro h
          simp only [msR, List.map_cons, List.sum_cons] at ih ⊢
          rcases List.mem_cons.mp h with h | h
          · rw [← h]; omega
          · have := ih h; omega
      have := h3 _ hr
      omega
  | succ f ih =>
    intro C h H hn hm
    unfold Herald.tickN
    cases hd : dueR E en h.rs with
    | none => exact ⟨H.mono (by omega), hd, rfl⟩
    | some r =>
      obtain ⟨hr, h1, h2⟩ := dueR_some hd
      have ht := H.til r hr
      have h0 := H.now0
      have hgo := H.go hE hr false (E.pub r).til (by omega) (by omega) h2 (fun hh => by cases hh)
      have ho := hE.on (E.pub r).til false (h.qs (E.pub r).dev.toNat) r (H.good r hr) (H.qlen _) (fun hh => by cases hh)
      have hms := msR_after (E := E) (en := en) (r := r) (r' := (E.on (E.pub r).til false (h.qs (E.pub r).dev.toNat) r).2.1) (done := (E.on (E.pub r).til false (h.qs (E.pub r).dev.toNat) r).2.2) ho.id h1 (fun hd => (ho.stop hd).2.1) h.rs hr H.nd
      have := ih hgo h1 (Nat.le_of_lt_succ (Nat.lt_of_lt_of_le hms hm))
      refine ⟨this.1.mono ?_, this.2⟩
      push_cast
      omega
theorem HOk.tick {RT : Type} {E : Eng RT} {G : RT → Prop} (hE : EngOk E G) {C : Int} {h : Her RT} (H : HOk E G C h) (n : Int) : HOk E G (C + 50000000) (tickH E h n).2 ∧ (tickH E h n).2.last = h.last := by
  unfold tickH
  split
  · exact ⟨H.mono (by omega), rfl⟩
  · rename_i hn
    have hn1 : 1 ≤ n ∧ n ≤ 999 := by
      by_cases h1 : 1 ≤ n ∧ n ≤ 999
      · exact h1
      · exact absurd (.inl h1) hn
    have h3 : h.now + n ≤ 1000000000 := by omega
    have h0 := H.now0
    have hms : msR E (h.now + n) h.rs ≤ 5000 := by
      have h1 := msR_small (E := E) (en := h.now + n) (t := h.now) 1000 (by omega) h.rs (fun r hr => (H.til r hr).1)
      have h2 := H.len
      have : h.rs.length * 1000 ≤ 5 * 1000 := Nat.mul_le_mul_right _ h2
      omega
    obtain ⟨k1, k2, k3⟩ := HOk.tickN hE (h.now + n) h3 5000 H (by omega) hms
    have hd := dueR_none k2
    exact ⟨⟨by show 0 ≤ h.now + n; omega, h3, k1.last0, k1.qlen, k1.len, k1.dev, fun r hr => by have := k1.sent r hr; omega, fun r hr => ⟨by show h.now + n ≤ _; have := hd r hr; omega, (k1.til r hr).2⟩, k1.id, k1.good, k1.nd⟩, k3⟩
theorem HOk.ack {RT : Type} {E : Eng RT} {G : RT → Prop} (hE : EngOk E G) {C : Int} {h : Her RT} (H : HOk E G C h) (id num : Int) : HOk E G (C + 10000) (ackH E h id num).2 := by
  have hm := H.mono (D := C + 10000) (by omega)
  unfold ackH
  cases hf : findR E h.rs id with
  | none => exact hm
  | some r =>
    have hr : r ∈ h.rs := List.mem_of_find?_eq_some hf
    simp only
    split
    · exact hm
    · rename_i hn
      split
      · exact hm
      · have hz : (E.pub r).num ≠ 0 := fun hh => hn (by
          by_cases h0 : num = 0
          · exact .inl h0
          · right; rw [hh]; exact fun e => h0 e.symm)
        exact H.go hE hr true h.now H.now0 H.now1 (fun y hy => (H.til y hy).1) (fun _ => hz)
theorem HOk.cancel {RT : Type} {E : Eng RT} {G : RT → Prop} {C : Int} {h : Her RT} (H : HOk E G C h) (id : Int) : HOk E G C (cancelH E h id).2 := by
  unfold cancelH
  cases hf : findR E h.rs id with
  | none => exact H
  | some r =>
    have sub : ∀ y ∈ h.rs.filter (fun y => (E.pub y).id != id), y ∈ h.rs := fun y hy => (List.mem_filter.mp hy).1
    exact ⟨H.now0, H.now1, H.last0, updQ_len H.qlen (Nat.le_trans (List.length_filter_le _ _) (H.qlen _)), Nat.le_trans (List.length_filter_le _ _) H.len, fun y hy => H.dev y (sub y hy), fun y hy => H.sent y (sub y hy), fun y hy => H.til y (sub y hy), fun y hy => H.id y (sub y hy), fun y hy => H.good y (sub y hy), H.nd.filter _⟩
theorem HOk.drain {RT : Type} {E : Eng RT} {G : RT → Prop} {C : Int} {h : Her RT} (H : HOk E G C h) (dev : Int) : HOk E G C (drainH h dev).2.2 := by
  unfold drainH
  split
  · exact H
  · cases hq : h.qs dev.toNat with
    | nil => exact H
    | cons m r =>
      have := H.qlen dev.toNat
      rw [hq] at this
      simp at this
      exact ⟨H.now0, H.now1, H.last0, updQ_len H.qlen (by omega), H.len, H.dev, H.sent, H.til, H.id, H.good, H.nd⟩
theorem trig_last {RT : Type} {E : Eng RT} {h : Her RT} (dev : Int) : (trigH E h dev).2.2.last ≤ h.last + 1 := by
  unfold trigH
  split
  · show h.last ≤ _; omega
  · split
    · show h.last ≤ _; omega
    · exact Int.le_refl _
theorem ack_last {RT : Type} {E : Eng RT} {h : Her RT} (id num : Int) : (ackH E h id num).2.last = h.last := by
  unfold ackH
  cases findR E h.rs id with
  | none => rfl
  | some r => simp only; repeat' split
              all_goals rfl
theorem cancel_last {RT : Type} {E : Eng RT} {h : Her RT} (id : Int) : (cancelH E h id).2.last = h.last := by
  unfold cancelH
  cases findR E h.rs id with
  | none => rfl
  | some r => rfl
theorem drain_last {RT : Type} {h : Her RT} (dev : Int) : (drainH h dev).2.2.last = h.last := by
  unfold drainH
  split
  · rfl
  · split <;> rfl
end Go.Proofs.Herald
namespace Go.Proofs.Ytmmmnghiegajmaa
open Go.RowKit Go.Proofs.Herald
theorem rn_get {w : World} {B g cap k : Nat} {l : List Rn} (h : w.ownsRow B 90 5 (.slice (some ⟨g, 0, none⟩) l.length cap) l.length (rnsCells l)) (hk : k < l.length) :
    w.cell? ⟨g, k * 5, none⟩ = some (.int .i64 l[k].id) ∧ w.cell? ⟨g, k * 5 + 1, none⟩ = some (.int .i64 l[k].dev) ∧ w.cell? ⟨g, k * 5 + 2, none⟩ = some (.int .i64 l[k].sent) ∧ w.cell? ⟨g, k * 5 + 3, none⟩ = some (.int .i64 l[k].til) ∧ w.cell? ⟨g, k * 5 + 4, none⟩ = some (.int .i64 l[k].num) := by
  have hget : ∀ (l : List Rn) (k : Nat) (hk : k < l.length) (j : Nat), j < 5 → (rnsCells l)[k * 5 + j]? = (rnCells l[k])[j]? := by
    intro l
    induction l with
    | nil => intro k hk; simp at hk
    | cons x l ih =>
      intro k hk j hj
      unfold rnsCells at ih ⊢
      rw [List.flatMap_cons]
      cases k with
      | zero =>
        rw [List.getElem?_append_left (by simp [rnCells]; omega)]
        simp
      | succ k =>
        rw [List.getElem?_append_right (by simp [rnCells]; omega), show (k + 1) * 5 + j - (rnCells x).length = k * 5 + j from by simp [rnCells]; omega, ih k (by simpa using hk) j hj]
        simp
  have get : ∀ j u, j < 5 → (rnCells l[k])[j]? = some u → w.cell? ⟨g, k * 5 + j, none⟩ = some u := fun j u hj hu => (own_get h (k * 5 + j) u (by rw [hget l k hk j hj]; exact hu)).1
  exact ⟨get 0 _ (by omega) rfl, get 1 _ (by omega) rfl, get 2 _ (by omega) rfl, get 3 _ (by omega) rfl, get 4 _ (by omega) rfl⟩
set_option maxRecDepth 20000 in
set_option maxHeartbeats 4000000 in
theorem sameRuns_eq (l : List Rn) (a b : Option Addr) (ca cb : Nat) (w : World) (ha : w.ownsRow 0 90 5 (.slice a l.length ca) l.length (rnsCells l)) (hb : w.ownsRow 0 90 5 (.slice b l.length cb) l.length (rnsCells l)) (hl : l.length ≤ 100000) :
    Calls Try.prog 87 #[.slice a l.length ca, .slice b l.length cb] w fun e w' => e = .returned (.bool true) ∧ SameH w w' := by
  have HA : Hid (w.ownsRow 0 90 5 (.slice a l.length ca) l.length (rnsCells l) ∧ w.ownsRow 0 90 5 (.slice b l.length cb) l.length (rnsCells l)) := ⟨ha, hb⟩
  clear ha hb
  go_enter Try.func87, Try.ntmps87
  go_wp2_with fail
  go_loopw [5] (fun i wr => ∃ k : Nat, k ≤ l.length ∧ i = .int .i64 k ∧ Hid (SameH w wr)) (fun i _ => l.length - (intOf i).toNat)
  case atStart => exact ⟨0, Nat.zero_le _, rfl, SameH.refl _⟩
  case round =>
    obtain ⟨k, hk, rfl, HS⟩ := hrel
    by_cases hlt : k < l.length
    · obtain ⟨g, ca', hv, _, _⟩ := HA.out.1.form (by omega)
      simp at hv
      obtain ⟨rfl, rfl⟩ := hv
      obtain ⟨g', cb', hv, _, _⟩ := HA.out.2.form (by omega)
      simp at hv
      obtain ⟨rfl, rfl⟩ := hv
      obtain ⟨e0, e1, e2, e3, e4⟩ := rn_get HA.out.1 hlt
      obtain ⟨f0, f1, f2, f3, f4⟩ := rn_get HA.out.2 hlt
      rw [← HS.out.cell] at e0 e1 e2 e3 e4 f0 f1 f2 f3 f4
      generalize l[k] = m at *
      go_wp2_with fail
      go_region
      all_goals
        go_wp2_with fail
        go_roundw
        case rel => exact ⟨k + 1, by omega, by go_num, HS.out.drew⟩
        case measure => simp [intOf]; omega
    · go_wp2_with fail
      go_ret
      exact ⟨rfl, HS.out⟩
set_option maxRecDepth 20000 in
set_option maxHeartbeats 4000000 in
theorem sameQueue_eq (l : List Msg) (a b : Option Addr) (ca cb : Nat) (w : World) (ha : w.ownsRow 0 83 4 (.slice a l.length ca) l.length (msgsCells l)) (hb : w.ownsRow 0 83 4 (.slice b l.length cb) l.length (msgsCells l)) (hl : l.length ≤ 100000) :
    Calls Try.prog 88 #[.slice a l.length ca, .slice b l.length cb] w fun e w' => e = .returned (.bool true) ∧ SameH w w' := by
  have HA : Hid (w.ownsRow 0 83 4 (.slice a l.length ca) l.length (msgsCells l) ∧ w.ownsRow 0 83 4 (.slice b l.length cb) l.length (msgsCells l)) := ⟨ha, hb⟩
  clear ha hb
  go_enter Try.func88, Try.ntmps88
  go_wp2_with fail
  go_loopw [5] (fun i wr => ∃ k : Nat, k ≤ l.length ∧ i = .int .i64 k ∧ Hid (SameH w wr)) (fun i _ => l.length - (intOf i).toNat)
  case atStart => exact ⟨0, Nat.zero_le _, rfl, SameH.refl _⟩
  case round =>
    obtain ⟨k, hk, rfl, HS⟩ := hrel
    by_cases hlt : k < l.length
    · obtain ⟨g, ca', hv, _, _⟩ := HA.out.1.form (by omega)
      simp at hv
      obtain ⟨rfl, rfl⟩ := hv
      obtain ⟨g', cb', hv, _, _⟩ := HA.out.2.form (by omega)
      simp at hv
      obtain ⟨rfl, rfl⟩ := hv
      obtain ⟨e0, e1, e2, e3⟩ := msg_get HA.out.1 hlt
      obtain ⟨f0, f1, f2, f3⟩ := msg_get HA.out.2 hlt
      rw [← HS.out.cell] at e0 e1 e2 e3 f0 f1 f2 f3
      generalize l[k] = m at *
      go_wp2_with fail
      go_region
      all_goals
        go_wp2_with fail
        go_roundw
        case rel => exact ⟨k + 1, by omega, by go_num, HS.out.drew⟩
        case measure => simp [intOf]; omega
    · go_wp2_with fail
      go_ret
      exact ⟨rfl, HS.out⟩
set_option maxHeartbeats 2000000 in
theorem sameState_eq (now : Int) (l : List Rn) (q : List Msg) (a b : Option Addr) (ca cb : Nat) (c d : Option Addr) (cc cd : Nat) (w : World)
    (ha : w.ownsRow 0 90 5 (.slice a l.length ca) l.length (rnsCells l)) (hb : w.ownsRow 0 90 5 (.slice b l.length cb) l.length (rnsCells l)) (hl : l.length ≤ 100000)
    (hc : w.ownsRow 0 83 4 (.slice c q.length cc) q.length (msgsCells q)) (hd : w.ownsRow 0 83 4 (.slice d q.length cd) q.length (msgsCells q)) (hq : q.length ≤ 100000) :
    Calls Try.prog 57 #[.agg #[.int .i64 now, .slice a l.length ca, .slice c q.length cc], .agg #[.int .i64 now, .slice b l.length cb, .slice d q.length cd]] w fun e w' => e = .returned (.bool true) ∧ Below w.heap.size w w' := by
  have HR : Hid (∀ W : World, Below w.heap.size w W → Calls Try.prog 87 #[.slice a l.length ca, .slice b l.length cb] W fun e w' => e = .returned (.bool true) ∧ SameH W w') := fun W hW =>
    sameRuns_eq l a b ca cb W (own_keep ha fun k hk => by obtain ⟨c, hc⟩ := own_block ha hk; exact hW.block k (heap_lt hc)) (own_keep hb fun k hk => by obtain ⟨c, hc⟩ := own_block hb hk; exact hW.block k (heap_lt hc)) hl
  have HQ : Hid (∀ W : World, Below w.heap.size w W → Calls Try.prog 88 #[.slice c q.length cc, .slice d q.length cd] W fun e w' => e = .returned (.bool true) ∧ SameH W w') := fun W hW =>
    sameQueue_eq q c d cc cd W (own_keep hc fun k hk => by obtain ⟨c, hc⟩ := own_block hc hk; exact hW.block k (heap_lt hc)) (own_keep hd fun k hk => by obtain ⟨c, hc⟩ := own_block hd hk; exact hW.block k (heap_lt hc)) hq
  clear ha hb hc hd
  obtain ⟨W, hW⟩ : ∃ W, W = (w.alloc (.cells #[.int .i64 now, .slice a l.length ca, .slice c q.length cc] 68)).alloc (.cells #[.int .i64 now, .slice b l.length cb, .slice d q.length cd] 68) := ⟨_, rfl⟩
  have HW : Hid (W = (w.alloc (.cells #[.int .i64 now, .slice a l.length ca, .slice c q.length cc] 68)).alloc (.cells #[.int .i64 now, .slice b l.length cb, .slice d q.length cd] 68) ∧ Below w.heap.size w W) := ⟨hW, by rw [hW]; exact ((Below.refl _ _).alloc (Nat.le_refl _) _).alloc (by simp) _⟩
  have HG : Hid (∀ w1, SameH W w1 → w1.heap[w.heap.size]? = some (.cells #[.int .i64 now, .slice a l.length ca, .slice c q.length cc] 68 (0, 0)) ∧ w1.heap[w.heap.size + 1]? = some (.cells #[.int .i64 now, .slice b l.length cb, .slice d q.length cd] 68 (0, 0))) := fun w1 h1 => by
    rw [h1.heap, hW]
    exact ⟨by rw [Below.heap_alloc _ _ _ (by simp)]; exact heap_alloc_new _ _, heap_alloc2 _ _ _⟩
  clear hW
  go_enter Try.func57, Try.ntmps57
  go_wp2_with fail
  rw [← HW.out.1]
  refine (HR.out W HW.out.2).mono ?_
  rintro e w1 ⟨rfl, h1⟩
  obtain ⟨m0, m1, m2, _⟩ := cells3 (HG.out w1 h1).1
  obtain ⟨n0, n1, n2, _⟩ := cells3 (HG.out w1 h1).2
  have HS1 : Hid (SameH W w1) := h1
  have HQ1 : Hid (Calls Try.prog 88 #[.slice c q.length cc, .slice d q.length cd] w1 fun e w' => e = .returned (.bool true) ∧ SameH w1 w') := HQ.out w1 (HW.out.2.trans (h1.below _))
  clear h1
  go_wp2_with fail
  refine HQ1.out.mono ?_
  rintro e w2 ⟨rfl, h2⟩
  have h12 : SameH W w2 := ⟨h2.heap.trans HS1.out.heap, h2.os.trans HS1.out.os, h2.tape.trans HS1.out.tape, h2.output.trans HS1.out.output⟩
  clear m0 m1 m2 n0 n1 n2
  obtain ⟨m0, m1, m2, _⟩ := cells3 (HG.out w2 h12).1
  obtain ⟨n0, n1, n2, _⟩ := cells3 (HG.out w2 h12).2
  have HB : Hid (Below w.heap.size w w2) := HW.out.2.trans (h12.below _)
  clear h2 h12
  go_wp2_with fail
  go_ret
  exact ⟨rfl, HB.out⟩
open Go.RowKit Go.Proofs.Herald
/-- The owner's books. -/
structure OSt where
  n : Int
  cv : Value
  rv : Value
  qv : Value
  cb : List (Value × List Value)
  rb : List (Value × List Value)
  qb : List (Value × List Value)
/-- What the owner's books own. -/
def ownX (O : Nat) (o : OSt) (k : Nat) : Prop :=
  k = O ∨ o.cv.ownBlock = some k ∨ o.rv.ownBlock = some k ∨ o.qv.ownBlock = some k ∨ (∃ b ∈ o.cb, b.1.ownBlock = some k) ∨ (∃ b ∈ o.rb, b.1.ownBlock = some k) ∨ (∃ b ∈ o.qb, b.1.ownBlock = some k)
def OA (w : World) (O : Nat) (o : OSt) : Prop := OwnAt w (ownX O o) O o.n o.cv o.rv o.qv o.cb o.rb o.qb
theorem OA.of {w : World} {X : Nat → Prop} {O : Nat} {o : OSt} (h : OwnAt w X O o.n o.cv o.rv o.qv o.cb o.rb o.qb) : OA w O o ∧ ∀ k, ownX O o k → X k := by
  refine ⟨⟨h.blk, .inl rfl, h.cown, h.rown, h.qown, fun b hb => .inr (.inl hb), fun b hb => .inr (.inr (.inl hb)), fun b hb => .inr (.inr (.inr (.inl hb))), fun b hb => ?_, fun b hb => ?_, fun b hb => ?_⟩, fun k hk => ?_⟩
  · obtain ⟨h1, m, hm, h2, _⟩ := h.cbk b hb
    exact ⟨h1, m, hm, h2, fun g hg => .inr (.inr (.inr (.inr (.inl ⟨b, hb, hg⟩))))⟩
  · obtain ⟨h1, m, hm, h2, _⟩ := h.rbk b hb
    exact ⟨h1, m, hm, h2, fun g hg => .inr (.inr (.inr (.inr (.inr (.inl ⟨b, hb, hg⟩)))))⟩
  · obtain ⟨h1, m, hm, h2, _⟩ := h.qbk b hb
    exact ⟨h1, m, hm, h2, fun g hg => .inr (.inr (.inr (.inr (.inr (.inr ⟨b, hb, hg⟩)))))⟩
  · rcases hk with rfl | hk | hk | hk | ⟨b, hb, hk⟩ | ⟨b, hb, hk⟩ | ⟨b, hb, hk⟩
    · exact h.inO
    · exact h.cin k hk
    · exact h.rin k hk
    · exact h.qin k hk
    · obtain ⟨_, _, _, _, h3⟩ := h.cbk b hb; exact h3 k hk
    · obtain ⟨_, _, _, _, h3⟩ := h.rbk b hb; exact h3 k hk
    · obtain ⟨_, _, _, _, h3⟩ := h.qbk b hb; exact h3 k hk
/-- Neither statements nor items. -/
def Plain (w : World) (k : Nat) : Prop := ∃ c t, w.heap[k]? = some (.cells c t (0, 0)) ∧ t ≠ 229 ∧ t ≠ 169
theorem OA.sort {w : World} {O : Nat} {o : OSt} (h : OA w O o) {k : Nat} (hk : ownX O o k) : Plain w k := by
  rcases hk with rfl | hk | hk | hk | ⟨b, hb, hk⟩ | ⟨b, hb, hk⟩ | ⟨b, hb, hk⟩
  · exact ⟨_, _, h.blk, by decide, by decide⟩
  · obtain ⟨c, hc⟩ := own_block h.cown hk; exact ⟨_, _, hc, by decide, by decide⟩
  · obtain ⟨c, hc⟩ := own_block h.rown hk; exact ⟨_, _, hc, by decide, by decide⟩
  · obtain ⟨c, hc⟩ := own_block h.qown hk; exact ⟨_, _, hc, by decide, by decide⟩
  · obtain ⟨_, _, _, h2, _⟩ := h.cbk b hb
    obtain ⟨c, hc⟩ := own_block h2 hk; exact ⟨_, _, hc, by decide, by decide⟩
  · obtain ⟨_, _, _, h2, _⟩ := h.rbk b hb
    obtain ⟨c, hc⟩ := own_block h2 hk; exact ⟨_, _, hc, by decide, by decide⟩
  · obtain ⟨_, _, _, h2, _⟩ := h.qbk b hb
    obtain ⟨c, hc⟩ := own_block h2 hk; exact ⟨_, _, hc, by decide, by decide⟩
theorem Plain.lt {w : World} {k : Nat} (h : Plain w k) : k < w.heap.size := by
  obtain ⟨c, t, hc, _⟩ := h
  exact heap_lt hc
theorem OA.keep {w w' : World} {O : Nat} {o : OSt} (h : OA w O o) (hk : ∀ k, ownX O o k → w'.heap[k]? = w.heap[k]?) : OA w' O o := OwnAt.keep h hk
theorem OA.below {w w' : World} {O : Nat} {o : OSt} (h : OA w O o) (hb : Below w.heap.size w w') : OA w' O o := h.keep fun k hk => hb.block k (h.sort hk).lt
/-- A state's lists come into the books. -/
theorem books_state (O : Nat) (o : OSt) (now : Int) (a : Option Addr) (nl cap : Nat) (xs : List Value) (aq : Option Addr) (nq capq : Nat) (xq : List Value) (w : World) (hn0 : 0 ≤ o.n) (hn1 : o.n ≤ 900000000) (hnl : nl ≤ 1000000) (hnq : nq ≤ 1000000) (hrb : o.rb.length ≤ 10000000) (hqb : o.qb.length ≤ 10000000)
    (h : OA w O o) (hl : w.ownsRow 0 90 5 (.slice a nl cap) nl xs) (hlq : w.ownsRow 0 83 4 (.slice aq nq capq) nq xq)
    (hlX : ∀ b, (Value.slice a nl cap).ownBlock = some b → ¬ ownX O o b) (hqX : ∀ b, (Value.slice aq nq capq).ownBlock = some b → ¬ ownX O o b) :
    Calls Try.prog 58 #[.pointer (some ⟨O, 0, none⟩), .agg #[.int .i64 now, .slice a nl cap, .slice aq nq capq]] w fun e w' => e = .returned (.tuple #[]) ∧
      ∃ o', OA w' O o' ∧ o'.n = o.n + 1 ∧ o'.cb.length = o.cb.length ∧ o'.rb.length = o.rb.length + 4 ∧ o'.qb.length = o.qb.length + 4 ∧ (∀ k, ownX O o' k → ownX O o k ∨ (Value.slice a nl cap).ownBlock = some k ∨ (Value.slice aq nq capq).ownBlock = some k ∨ w.heap.size ≤ k) ∧
        Fr (fun k => ownX O o k ∨ (Value.slice a nl cap).ownBlock = some k ∨ (Value.slice aq nq capq).ownBlock = some k) w w' := by
  refine (state_any (ownX O o) O o.n now o.cv o.rv o.qv o.cb o.rb o.qb a nl cap xs aq nq capq xq w hn0 hn1 hnl hnq hrb hqb h hl hlq hlX hqX).mono ?_
  rintro e w' ⟨rfl, rv', qv', rb', qb', h1, h2, h3, h4⟩
  obtain ⟨h5, h6⟩ := OA.of (o := ⟨o.n + 1, o.cv, rv', qv', o.cb, rb', qb'⟩) h3
  exact ⟨rfl, _, h5, rfl, rfl, h1, h2, fun k hk => (h6 k hk).2, h4⟩
theorem still_of {B0 : Nat} {w w' : World} {Z : Nat → Prop} (hf : Fr Z w w') (hz : ∀ k, k < w.heap.size → Z k → B0 ≤ k ∧ Plain w k) : Still B0 w w' := by
  intro k hk hd
  refine hf.block k hk fun ho => ?_
  obtain ⟨h1, c2, t2, hc2, h2, h3⟩ := hz k hk ho
  rcases hd with hd | ⟨c, t, z, hc, ht⟩
  · omega
  · rw [hc] at hc2
    simp only [Option.some.injEq, Obj.cells.injEq] at hc2
    obtain ⟨_, rfl, _⟩ := hc2
    rcases ht with rfl | rfl
    · exact h2 rfl
    · exact h3 rfl
theorem FH.sort {w : World} {H : Nat} {cs : List Ins} {h : Her Pr} {code rec rv : Value} {qv : Nat → Value} {n : Nat} (F : FH w H cs h code rec rv qv n) {k : Nat} (hk : ownF H code rec rv qv k) : Plain w k := by
  rcases hk with hk | hk | hk
  · obtain ⟨c, t, hc, ht⟩ := F.m.at'.sort hk
    refine ⟨c, t, hc, ?_⟩
    rcases ht with rfl | rfl | rfl
    · exact ⟨by decide, by decide⟩
    · exact ⟨by decide, by decide⟩
    · exact ⟨by decide, by decide⟩
  · obtain ⟨xs, _, h2⟩ := F.r
    obtain ⟨c, hc⟩ := own_block h2 hk
    exact ⟨_, _, hc, by decide, by decide⟩
  · obtain ⟨c, hc⟩ := own_block F.m.cd hk
    exact ⟨_, _, hc, by decide, by decide⟩
/-- A pair of heralds: where their parts are. -/
structure PSt where
  code : Value
  jr : Value
  rv : Value
  qv : Nat → Value
  n : Nat
  drec : ByteArray
  pv : Value
  dqv : Nat → Value
  rs : List Rs
def ownP (Pb H S Q : Nat) (s : PSt) (k : Nat) : Prop := k = Pb ∨ ownF H s.code s.jr s.rv s.qv k ∨ ownS S Q s.pv s.dqv s.rs k
/-- A pair of heralds in memory. -/
structure PP {RT : Type} (M : Mode RT) (CB : World → Prop) (w : World) (Pb H S Q : Nat) (u tv : Value) (cs : List Ins) (hm : Her Pr) (hd : Her RT) (s : PSt) : Prop where
  p : w.heap[Pb]? = some (.cells #[.pointer (some ⟨H, 0, none⟩), .pointer (some ⟨S, 0, none⟩), u, tv] 34 (0, 0))
  f : FH w H cs hm s.code s.jr s.rv s.qv s.n
  d : SimH M w S Q s.drec hd s.pv s.dqv s.rs
  cb : CB w
  dj : ∀ k, ownF H s.code s.jr s.rv s.qv k → ¬ ownS S Q s.pv s.dqv s.rs k
  pf : ¬ ownF H s.code s.jr s.rv s.qv Pb
  pd : ¬ ownS S Q s.pv s.dqv s.rs Pb
  fb : ∀ k, ownF H s.code s.jr s.rv s.qv k → M.B0 ≤ k
  pb : M.B0 ≤ Pb
theorem PP.lt {RT : Type} {M : Mode RT} {CB : World → Prop} {w : World} {Pb H S Q : Nat} {u tv : Value} {cs : List Ins} {hm : Her Pr} {hd : Her RT} {s : PSt} (h : PP M CB w Pb H S Q u tv cs hm hd s) {k : Nat} (hk : ownP Pb H S Q s k) : k < w.heap.size := by
  rcases hk with rfl | hk | hk
  · exact heap_lt h.p
  · exact h.f.lt hk
  · exact h.d.at'.lt hk
theorem PP.keep {RT : Type} {M : Mode RT} (hM : ModeOk M) {CB : World → Prop} (hCB : ∀ w w', CB w → Still M.B0 w w' → CB w') {w w' : World} {Pb H S Q : Nat} {u tv : Value} {cs : List Ins} {hm : Her Pr} {hd : Her RT} {s : PSt} (h : PP M CB w Pb H S Q u tv cs hm hd s) (hk : ∀ k, ownP Pb H S Q s k → w'.heap[k]? = w.heap[k]?) (hst : Still M.B0 w w') : PP M CB w' Pb H S Q u tv cs hm hd s :=
  ⟨(hk Pb (.inl rfl)).trans h.p, h.f.keep fun k hk' => hk k (.inr (.inl hk')), ⟨h.d.at'.keep fun k hk' => hk k (.inr (.inr hk')), h.d.base, relL_imp (fun a b hab => hM.keep _ _ a b hab hst) h.d.rel⟩, hCB _ _ h.cb hst, h.dj, h.pf, h.pd, h.fb, h.pb⟩
theorem still_below {B0 : Nat} {w w' : World} (hb : Below w.heap.size w w') : Still B0 w w' := fun k hk _ => hb.block k hk
theorem PP.below {RT : Type} {M : Mode RT} (hM : ModeOk M) {CB : World → Prop} (hCB : ∀ w w', CB w → Still M.B0 w w' → CB w') {w w' : World} {Pb H S Q : Nat} {u tv : Value} {cs : List Ins} {hm : Her Pr} {hd : Her RT} {s : PSt} (h : PP M CB w Pb H S Q u tv cs hm hd s) (hb : Below w.heap.size w w') : PP M CB w' Pb H S Q u tv cs hm hd s :=
  h.keep hM hCB (fun k hk => hb.block k (h.lt hk)) (still_below hb)
/-- Both tell the same of their runs. -/
theorem PP.pubs {RT : Type} {M : Mode RT} (hM : ModeOk M) {CB : World → Prop} {w : World} {Pb H S Q : Nat} {u tv : Value} {cs : List Ins} {hm : Her Pr} {hd : Her RT} {s : PSt} (h : PP M CB w Pb H S Q u tv cs hm hd s) {ρ : RT → Pr → Prop} (hE : SameEng M.E (machE cs) ρ) (hs : SameHer ρ hd hm) :
    (s.rs.map fun x => pubP x.p) = hm.rs.map pubP ∧ s.rs.length = hm.rs.length := by
  have key : ∀ {a : List Rs} {b : List RT} {c : List Pr}, relL (M.link w) a b → relL ρ b c → (a.map fun x => pubP x.p) = c.map pubP := by
    intro a
    induction a with
    | nil =>
      intro b c h1 h2
      cases b with
      | nil => cases c with
        | nil => rfl
        | cons _ _ => exact h2.elim
      | cons _ _ => exact h1.elim
    | cons x a ih =>
      intro b c h1 h2
      cases b with
      | nil => exact h1.elim
      | cons y b =>
        cases c with
        | nil => exact h2.elim
        | cons z c =>
          have e1 := hM.pub w x y h1.1
          have e2 := hE.pub y z h2.1
          have e3 : pubP x.p = pubP z := by rw [← e1, e2]; rfl
          rw [List.map_cons, List.map_cons, e3, ih h1.2 h2.2]
  exact ⟨key h.d.rel hs.rs, (relL_len h.d.rel).trans (relL_len hs.rs)⟩
open Go.RowKit Go.Proofs.Herald
/-- What is looked at: the pair, the books, and that they have nothing in common. -/
structure LK {RT : Type} (M : Mode RT) (CB : World → Prop) (w : World) (Pb H S Q O : Nat) (u tv : Value) (cs : List Ins) (hm : Her Pr) (hd : Her RT) (s : PSt) (o : OSt) : Prop where
  pp : PP M CB w Pb H S Q u tv cs hm hd s
  oa : OA w O o
  dj : ∀ k, ownP Pb H S Q s k → ¬ ownX O o k
  ob : ∀ k, ownX O o k → M.B0 ≤ k
/-- What a state came to: rows of runs and messages that are told. -/
structure Told (w : World) (B : Nat) (a : Option Addr) (ca : Nat) (l : List Rn) (c : Option Addr) (cc : Nat) (q : List Msg) : Prop where
  r : w.ownsRow B 90 5 (.slice a l.length ca) l.length (rnsCells l)
  m : w.ownsRow B 83 4 (.slice c q.length cc) q.length (msgsCells q)
theorem Told.keep {w w' : World} {B : Nat} {a : Option Addr} {ca : Nat} {l : List Rn} {c : Option Addr} {cc : Nat} {q : List Msg} (h : Told w B a ca l c cc q) (hk : ∀ k, ((Value.slice a l.length ca).ownBlock = some k ∨ (Value.slice c q.length cc).ownBlock = some k) → w'.heap[k]? = w.heap[k]?) : Told w' B a ca l c cc q :=
  ⟨own_stays h.r fun k hk' => hk k (.inl hk'), own_stays h.m fun k hk' => hk k (.inr hk')⟩
theorem Told.lt {w : World} {B : Nat} {a : Option Addr} {ca : Nat} {l : List Rn} {c : Option Addr} {cc : Nat} {q : List Msg} (h : Told w B a ca l c cc q) {k : Nat} (hk : (Value.slice a l.length ca).ownBlock = some k ∨ (Value.slice c q.length cc).ownBlock = some k) : B ≤ k ∧ k < w.heap.size ∧ Plain w k := by
  rcases hk with hk | hk
  · obtain ⟨h1, cur, hc⟩ := ownsRow_lies h.r hk
    exact ⟨h1, heap_lt hc, ⟨_, _, hc, by decide, by decide⟩⟩
  · obtain ⟨h1, cur, hc⟩ := ownsRow_lies h.m hk
    exact ⟨h1, heap_lt hc, ⟨_, _, hc, by decide, by decide⟩⟩
theorem Told.below {w w' : World} {B : Nat} {a : Option Addr} {ca : Nat} {l : List Rn} {c : Option Addr} {cc : Nat} {q : List Msg} (h : Told w B a ca l c cc q) (hb : Below w.heap.size w w') : Told w' B a ca l c cc q :=
  h.keep fun k hk => hb.block k (h.lt hk).2.1
/-- The program's state comes into the books. -/
theorem LK.state {RT : Type} {M : Mode RT} (hM : ModeOk M) {CB : World → Prop} (hCB : ∀ w w', CB w → Still M.B0 w w' → CB w') {w : World} {Pb H S Q O : Nat} {u tv : Value} {cs : List Ins} {hm : Her Pr} {hd : Her RT} {s : PSt} {o : OSt} (L : LK M CB w Pb H S Q O u tv cs hm hd s o) {B : Nat} (hB : ∀ k, ownP Pb H S Q s k ∨ ownX O o k → k < B) (hBM : M.B0 ≤ B) (hBw : B ≤ w.heap.size)
    {a : Option Addr} {ca : Nat} {l : List Rn} {c : Option Addr} {cc : Nat} {q : List Msg} (T : Told w B a ca l c cc q) (now : Int) (hl : l.length ≤ 1000) (hq : q.length ≤ 1000) (hn0 : 0 ≤ o.n) (hn1 : o.n ≤ 900000000) (hrb : o.rb.length ≤ 10000000) (hqb : o.qb.length ≤ 10000000) :
    Calls Try.prog 58 #[.pointer (some ⟨O, 0, none⟩), .agg #[.int .i64 now, .slice a l.length ca, .slice c q.length cc]] w fun e w' => e = .returned (.tuple #[]) ∧
      ∃ o', LK M CB w' Pb H S Q O u tv cs hm hd s o' ∧ o'.n = o.n + 1 ∧ o'.cb.length = o.cb.length ∧ o'.rb.length = o.rb.length + 4 ∧ o'.qb.length = o.qb.length + 4 ∧ (∀ k, ownX O o' k → ownX O o k ∨ B ≤ k) ∧ Fr (fun k => ownX O o k ∨ (Value.slice a l.length ca).ownBlock = some k ∨ (Value.slice c q.length cc).ownBlock = some k) w w' := by
  have hnot : ∀ b, ((Value.slice a l.length ca).ownBlock = some b ∨ (Value.slice c q.length cc).ownBlock = some b) → ¬ ownX O o b ∧ ¬ ownP Pb H S Q s b := fun b hb => by
    have h1 := (T.lt hb).1
    exact ⟨fun hx => by have := hB b (.inr hx); omega, fun hx => by have := hB b (.inl hx); omega⟩
  refine (books_state O o now a l.length ca (rnsCells l) c q.length cc (msgsCells q) w hn0 hn1 (by omega) (by omega) hrb hqb L.oa (own0 T.r) (own0 T.m) (fun b hb => (hnot b (.inl hb)).1) (fun b hb => (hnot b (.inr hb)).1)).mono ?_
  rintro e w' ⟨rfl, o', h1, h2, h3, h4, h5, h6, h7⟩
  have hst : Still M.B0 w w' := still_of h7 fun k hk hz => by
    rcases hz with hz | hz
    · exact ⟨L.ob k hz, L.oa.sort hz⟩
    · have := T.lt hz
      exact ⟨by omega, this.2.2⟩
  have hpp := L.pp.keep hM hCB (fun k hk => h7.block k (L.pp.lt hk) fun hz => by
    rcases hz with hz | hz
    · exact L.dj k hk hz
    · exact (hnot k hz).2 hk) hst
  have hgrow : ∀ k, ownX O o' k → ownX O o k ∨ B ≤ k := fun k hk => by
    rcases h6 k hk with h | h | h | h
    · exact .inl h
    · exact .inr (T.lt (.inl h)).1
    · exact .inr (T.lt (.inr h)).1
    · exact .inr (by omega)
  refine ⟨rfl, o', ⟨hpp, h1, fun k hk hx => ?_, fun k hk => ?_⟩, h2, h3, h4, h5, hgrow, h7⟩
  · rcases hgrow k hx with h | h
    · exact L.dj k hk h
    · have := hB k (.inl hk); omega
  · rcases hgrow k hk with h | h
    · exact L.ob k h
    · omega
theorem LK.below {RT : Type} {M : Mode RT} (hM : ModeOk M) {CB : World → Prop} (hCB : ∀ w w', CB w → Still M.B0 w w' → CB w') {w w' : World} {Pb H S Q O : Nat} {u tv : Value} {cs : List Ins} {hm : Her Pr} {hd : Her RT} {s : PSt} {o : OSt} (L : LK M CB w Pb H S Q O u tv cs hm hd s o) (hb : Below w.heap.size w w') : LK M CB w' Pb H S Q O u tv cs hm hd s o :=
  ⟨L.pp.below hM hCB hb, L.oa.below hb, L.dj, L.ob⟩
theorem LK.lt {RT : Type} {M : Mode RT} {CB : World → Prop} {w : World} {Pb H S Q O : Nat} {u tv : Value} {cs : List Ins} {hm : Her Pr} {hd : Her RT} {s : PSt} {o : OSt} (L : LK M CB w Pb H S Q O u tv cs hm hd s o) {k : Nat} (hk : ownP Pb H S Q s k ∨ ownX O o k) : k < w.heap.size := by
  rcases hk with hk | hk
  · exact L.pp.lt hk
  · exact (L.oa.sort hk).lt
set_option maxRecDepth 20000 in
set_option maxHeartbeats 4000000 in
theorem looked_any {RT : Type} {M : Mode RT} (hM : ModeOk M) {CB : World → Prop} (hCB : ∀ w w', CB w → Still M.B0 w w' → CB w') (Pb H S Q O : Nat) (u tv : Value) (cs : List Ins) (hm : Her Pr) (hd : Her RT) (s : PSt) (o : OSt) (w : World) {ρ : RT → Pr → Prop} (hE : SameEng M.E (machE cs) ρ) (hs : SameHer ρ hd hm) (L : LK M CB w Pb H S Q O u tv cs hm hd s o)
    (hrl : hm.rs.length ≤ 5) (hql : ∀ d, (hm.qs d).length ≤ 4) (hn0 : 0 ≤ o.n) (hn1 : o.n ≤ 800000000) (hcb : o.cb.length ≤ 9000000) (hrb : o.rb.length ≤ 9000000) (hqb : o.qb.length ≤ 9000000) :
    Calls Try.prog 17 #[.pointer (some ⟨Pb, 0, none⟩), .pointer (some ⟨O, 0, none⟩)] w fun e w' => e = .returned (.bool true) ∧
      ∃ o', LK M CB w' Pb H S Q O u tv cs hm hd s o' ∧ o'.n = o.n + 2 ∧ o'.cb.length = o.cb.length ∧ o'.rb.length = o.rb.length + 8 ∧ o'.qb.length = o.qb.length + 8 ∧ (∀ k, ownX O o' k → ownX O o k ∨ w.heap.size ≤ k) ∧ Fr (ownX O o) w w' := by
  obtain ⟨l, hl⟩ : ∃ l, l = hm.rs.map pubP := ⟨_, rfl⟩
  obtain ⟨q, hq⟩ : ∃ q, q = hm.qs 0 ++ hm.qs 1 ++ hm.qs 2 := ⟨_, rfl⟩
  obtain ⟨now, hnow⟩ : ∃ now, now = hm.now := ⟨_, rfl⟩
  have hll : l.length ≤ 1000 := by rw [hl, List.length_map]; omega
  have hql2 : q.length ≤ 1000 := by
    have h0 := hql 0
    have h1 := hql 1
    have h2 := hql 2
    rw [hq]
    simp
    omega
  have HDOC : Hid (Calls Try.prog 56 #[.pointer (some ⟨S, 0, none⟩)] w fun e w' => ∃ a ca c cc, e = .returned (.agg #[.int .i64 now, .slice a l.length ca, .slice c q.length cc]) ∧ Told w' w.heap.size a ca l c cc q ∧ Below w.heap.size w w') := by
    obtain ⟨e1, e2⟩ := L.pp.pubs hM hE hs
    refine (r_Show S Q M.s s.pv s.drec hd.now hd.last s.dqv hd.qs s.rs w L.pp.d.at' (by rw [e2]; omega) (fun d => by rw [hs.qs]; have := hql d; omega)).mono ?_
    rintro e w' ⟨rv, uv, rfl, h1, h2, h3⟩
    rw [e1, ← hl, e2, show hm.rs.length = l.length from by rw [hl, List.length_map]] at h1
    rw [hs.qs, ← hq] at h2
    obtain ⟨a, ca, rfl⟩ := ownsRow_slice h1
    obtain ⟨c, cc, rfl⟩ := ownsRow_slice h2
    exact ⟨a, ca, c, cc, by rw [hs.now, hnow], ⟨h1, h2⟩, h3⟩
  have HPRO : Hid (∀ W : World, FH W H cs hm s.code s.jr s.rv s.qv s.n → Calls Try.prog 30 #[.pointer (some ⟨H, 0, none⟩)] W fun e w' => ∃ a ca c cc, e = .returned (.agg #[.int .i64 now, .slice a l.length ca, .slice c q.length cc]) ∧ Told w' W.heap.size a ca l c cc q ∧ Below W.heap.size W w') := fun W F => by
    refine (f_Show H cs hm s.code s.jr s.rv s.qv s.n W F (by omega)).mono ?_
    rintro e w' ⟨rv, uv, rfl, h1, h2, h3⟩
    rw [← hl, show hm.rs.length = l.length from by rw [hl, List.length_map]] at h1
    rw [← hq] at h2
    obtain ⟨a, ca, rfl⟩ := ownsRow_slice h1
    obtain ⟨c, cc, rfl⟩ := ownsRow_slice h2
    exact ⟨a, ca, c, cc, by rw [hnow], ⟨h1, h2⟩, h3⟩
  have HL : Hid (LK M CB w Pb H S Q O u tv cs hm hd s o) := L
  have p0 : w.cell? ⟨Pb, 0, none⟩ = some (.pointer (some ⟨H, 0, none⟩)) := (cell_of_heap L.pp.p).trans rfl
  have p1 : w.cell? ⟨Pb, 1, none⟩ = some (.pointer (some ⟨S, 0, none⟩)) := (cell_of_heap L.pp.p).trans rfl
  have HB0 : Hid (M.B0 ≤ w.heap.size) := by have h1 := heap_lt L.pp.p; have h2 := L.pp.pb; show M.B0 ≤ w.heap.size; omega
  clear L hs hE hl hq hnow hql hrl
  go_enter Try.func17, Try.ntmps17
  go_wp2_with fail
  refine HDOC.out.mono ?_
  rintro e w1 ⟨da, dca, dc, dcc, rfl, hT1, hb1⟩
  obtain ⟨W1, hW1⟩ : ∃ W, W = w1.alloc (.cells #[.int .i64 now, .slice da l.length dca, .slice dc q.length dcc] 68) := ⟨_, rfl⟩
  have HW1 : Hid (W1 = w1.alloc (.cells #[.int .i64 now, .slice da l.length dca, .slice dc q.length dcc] 68)) := hW1
  have H1 : Hid (Below w.heap.size w W1 ∧ Told W1 w.heap.size da dca l dc dcc q ∧ W1.heap[w1.heap.size]? = some (.cells #[.int .i64 now, .slice da l.length dca, .slice dc q.length dcc] 68 (0, 0)) ∧ w.heap.size ≤ w1.heap.size ∧ W1.heap.size = w1.heap.size + 1) := by
    rw [hW1]
    exact ⟨hb1.alloc hb1.size _, hT1.below ((Below.refl _ _).alloc (Nat.le_refl _) _), heap_alloc_new _ _, hb1.size, by simp⟩
  have q0 : w1.cell? ⟨Pb, 0, none⟩ = some (.pointer (some ⟨H, 0, none⟩)) := (hb1.cell (p := ⟨Pb, 0, none⟩) (heap_lt HL.out.pp.p)).trans p0
  have hPl : Pb < w1.heap.size := Nat.lt_of_lt_of_le (heap_lt HL.out.pp.p) hb1.size
  clear hb1 hT1 hW1 p0 p1 HDOC
  go_wp2_with fail
  rw [← HW1.out]
  clear q0 hPl
  have HL1 : Hid (LK M CB W1 Pb H S Q O u tv cs hm hd s o) := HL.out.below hM hCB H1.out.1
  refine (HPRO.out W1 HL1.out.pp.f).mono ?_
  rintro e w2 ⟨a2, ca2, c2, cc2, rfl, hT2, hb2⟩
  have H2 : Hid (Below W1.heap.size W1 w2 ∧ Told w2 W1.heap.size a2 ca2 l c2 cc2 q) := ⟨hb2, hT2⟩
  have hD2 := (hb2.block _ (heap_lt H1.out.2.2.1)).trans H1.out.2.2.1
  obtain ⟨b0, b1, b2, _⟩ := cells3 hD2
  have hl2 : w1.heap.size < w2.heap.size := heap_lt hD2
  have HSS : Hid (∀ V : World, Below w2.heap.size w2 V → Calls Try.prog 57 #[.agg #[.int .i64 now, .slice a2 l.length ca2, .slice c2 q.length cc2], .agg #[.int .i64 now, .slice da l.length dca, .slice dc q.length dcc]] V fun e w' => e = .returned (.bool true) ∧ Below V.heap.size V w') := fun V hV => by
    have t2 := H2.out.2.below hV
    have t1 := (H1.out.2.1.below H2.out.1).below hV
    exact sameState_eq now l q a2 da ca2 dca c2 dc cc2 dcc V (own0 t2.r) (own0 t1.r) (by omega) (own0 t2.m) (own0 t1.m) (by omega)
  clear hb2 hT2 hD2
  go_wp2_with fail
  refine (HSS.out _ ((Below.refl _ _).alloc (Nat.le_refl _) _)).mono ?_
  rintro e w3 ⟨rfl, hb3⟩
  have hA3 : Below w2.heap.size w2 w3 := ((Below.refl _ _).alloc (Nat.le_refl _) _).trans (hb3.mono (by simp))
  have H3 : Hid (Below W1.heap.size W1 w3 ∧ Told w3 W1.heap.size a2 ca2 l c2 cc2 q ∧ Told w3 w.heap.size da dca l dc dcc q ∧ w3.heap[w1.heap.size]? = some (.cells #[.int .i64 now, .slice da l.length dca, .slice dc q.length dcc] 68 (0, 0))) :=
    ⟨H2.out.1.trans (hA3.mono H2.out.1.size), H2.out.2.below hA3, (H1.out.2.1.below H2.out.1).below hA3, (hA3.block _ hl2).trans ((H2.out.1.block _ (heap_lt H1.out.2.2.1)).trans H1.out.2.2.1)⟩
  have hs3 : w3.heap[w2.heap.size]? = some (.cells #[.int .i64 now, .slice a2 l.length ca2, .slice c2 q.length cc2] 68 (0, 0)) := (hb3.block _ (by simp)).trans (heap_alloc_new _ _)
  obtain ⟨s0, s1, s2, _⟩ := cells3 hs3
  have HL3 : Hid (LK M CB w3 Pb H S Q O u tv cs hm hd s o) := HL1.out.below hM hCB H3.out.1
  clear b0 b1 b2 hl2 hb3 hs3 HSS hA3 H2
  go_wp2_with fail
  have hsz3 := H3.out.1.size
  refine (HL3.out.state hM hCB (B := W1.heap.size) (fun k hk => HL1.out.lt hk) (by have := HB0.out; have := H1.out.1.size; omega) hsz3 H3.out.2.1 now hll hql2 hn0 (by omega) (by omega) (by omega)).mono ?_
  rintro e w4 ⟨rfl, o4, hL4, hn4, hc4, hr4, hq4, hg4, hf4⟩
  have H4 : Hid (LK M CB w4 Pb H S Q O u tv cs hm hd s o4 ∧ (∀ k, ownX O o4 k → ownX O o k ∨ W1.heap.size ≤ k) ∧ Told w4 w.heap.size da dca l dc dcc q ∧ w4.heap[w1.heap.size]? = some (.cells #[.int .i64 now, .slice da l.length dca, .slice dc q.length dcc] 68 (0, 0)) ∧ Fr (ownX O o) w w4) := by
    have hno : ∀ k, w.heap.size ≤ k → k < W1.heap.size → ¬ (ownX O o k ∨ (Value.slice a2 l.length ca2).ownBlock = some k ∨ (Value.slice c2 q.length cc2).ownBlock = some k) := fun k h1 h2 hz => by
      rcases hz with hz | hz
      · have := HL.out.lt (.inr hz); omega
      · have := (H3.out.2.1.lt hz).1; omega
    refine ⟨hL4, hg4, H3.out.2.2.1.keep fun k hk => ?_, ?_, ?_⟩
    · have h1 := H1.out.2.1.lt hk
      exact hf4.block k (by omega) (hno k h1.1 h1.2.1)
    · rw [hf4.block _ (heap_lt H3.out.2.2.2) (hno _ H1.out.2.2.2.1 (by have := H1.out.2.2.2.2; omega))]
      exact H3.out.2.2.2
    · have f0 : Fr (fun k => ownX O o k ∨ w.heap.size ≤ k) w w3 := ((Fr.of_below (H1.out.1.trans (H3.out.1.mono H1.out.1.size))).mono fun k _ hk => .inr hk)
      have f1 : Fr (fun k => ownX O o k ∨ w.heap.size ≤ k) w3 w4 := hf4.mono fun k _ hk => by
        rcases hk with hk | hk
        · exact .inl hk
        · have h1 := (H3.out.2.1.lt hk).1
          have h2 := H1.out.1.size
          exact .inr (by omega)
      exact (f0.trans f1).mono fun k hk hs => by
        rcases hs with h | h
        · exact h
        · omega
  have q0 : w4.cell? ⟨Pb, 0, none⟩ = some (.pointer (some ⟨H, 0, none⟩)) := (cell_of_heap hL4.pp.p).trans rfl
  clear hL4 hg4 hf4 s0 s1 s2 H3 HL3 hsz3
  go_wp2_with fail
  refine (HPRO.out w4 H4.out.1.pp.f).mono ?_
  rintro e w5 ⟨a5, ca5, c5, cc5, rfl, hT5, hb5⟩
  have H5 : Hid (Below w4.heap.size w4 w5 ∧ Told w5 w4.heap.size a5 ca5 l c5 cc5 q) := ⟨hb5, hT5⟩
  have hD5 := (hb5.block _ (heap_lt H4.out.2.2.2.1)).trans H4.out.2.2.2.1
  obtain ⟨b0, b1, b2, _⟩ := cells3 hD5
  have hl5 : w1.heap.size < w5.heap.size := heap_lt hD5
  have HSS : Hid (∀ V : World, Below w5.heap.size w5 V → Calls Try.prog 57 #[.agg #[.int .i64 now, .slice a5 l.length ca5, .slice c5 q.length cc5], .agg #[.int .i64 now, .slice da l.length dca, .slice dc q.length dcc]] V fun e w' => e = .returned (.bool true) ∧ Below V.heap.size V w') := fun V hV => by
    have t2 := H5.out.2.below hV
    have t1 := (H4.out.2.2.1.below H5.out.1).below hV
    exact sameState_eq now l q a5 da ca5 dca c5 dc cc5 dcc V (own0 t2.r) (own0 t1.r) (by omega) (own0 t2.m) (own0 t1.m) (by omega)
  clear hb5 hT5 hD5 q0
  go_wp2_with fail
  refine (HSS.out _ ((Below.refl _ _).alloc (Nat.le_refl _) _)).mono ?_
  rintro e w6 ⟨rfl, hb6⟩
  have hA6 : Below w5.heap.size w5 w6 := ((Below.refl _ _).alloc (Nat.le_refl _) _).trans (hb6.mono (by simp))
  have H6 : Hid (Below w4.heap.size w4 w6 ∧ Told w6 w4.heap.size a5 ca5 l c5 cc5 q) := ⟨H5.out.1.trans (hA6.mono H5.out.1.size), H5.out.2.below hA6⟩
  have hs6 : w6.heap[w5.heap.size]? = some (.cells #[.int .i64 now, .slice a5 l.length ca5, .slice c5 q.length cc5] 68 (0, 0)) := (hb6.block _ (by simp)).trans (heap_alloc_new _ _)
  obtain ⟨s0, s1, s2, _⟩ := cells3 hs6
  have HL6 : Hid (LK M CB w6 Pb H S Q O u tv cs hm hd s o4) := H4.out.1.below hM hCB H6.out.1
  clear b0 b1 b2 hl5 hb6 hs6 HSS hA6 H5
  go_wp2_with fail
  have hsz6 := H6.out.1.size
  refine (HL6.out.state hM hCB (B := w4.heap.size) (fun k hk => H4.out.1.lt hk) (by have := HB0.out; have := H4.out.2.2.2.2.size; omega) hsz6 H6.out.2 now hll hql2 (by omega) (by omega) (by omega) (by omega)).mono ?_
  rintro e w7 ⟨rfl, o7, hL7, hn7, hc7, hr7, hq7, hg7, hf7⟩
  have H7 : Hid (LK M CB w7 Pb H S Q O u tv cs hm hd s o7 ∧ (∀ k, ownX O o7 k → ownX O o k ∨ w.heap.size ≤ k) ∧ Fr (ownX O o) w w7) := by
    have hsz4 := H4.out.2.2.2.2.size
    have hszW := H1.out.1.size
    refine ⟨hL7, fun k hk => ?_, ?_⟩
    · rcases hg7 k hk with h | h
      · rcases H4.out.2.1 k h with h | h
        · exact .inl h
        · exact .inr (by omega)
      · exact .inr (by omega)
    · have f0 : Fr (fun k => ownX O o k ∨ w.heap.size ≤ k) w w6 := (H4.out.2.2.2.2.mono fun k _ hk => .inl hk).trans ((Fr.of_below H6.out.1).mono fun k _ hk => .inr (by omega))
      have f1 : Fr (fun k => ownX O o k ∨ w.heap.size ≤ k) w6 w7 := hf7.mono fun k _ hk => by
        rcases hk with hk | hk
        · rcases H4.out.2.1 k hk with h | h
          · exact .inl h
          · exact .inr (by omega)
        · have h1 := (H6.out.2.lt hk).1
          exact .inr (by omega)
      exact (f0.trans f1).mono fun k hk hs => by
        rcases hs with h | h
        · exact h
        · omega
  clear hL7 hg7 hf7 s0 s1 s2 H6 HL6 hsz6
  go_wp2_with fail
  refine (kept_any _ O o7.n o7.cv o7.rv o7.qv o7.cb o7.rb o7.qb w7 H7.out.1.oa (by omega) (by omega) (by omega)).mono ?_
  rintro e w8 ⟨rfl, hs8⟩
  have H8 : Hid (LK M CB w8 Pb H S Q O u tv cs hm hd s o7 ∧ Fr (ownX O o) w w8) := ⟨H7.out.1.below hM hCB (hs8.below _), H7.out.2.2.trans ((Fr.of_below (hs8.below w7.heap.size)).mono fun k hk hs => by omega)⟩
  clear hs8
  go_wp2_with fail
  go_ret
  exact ⟨rfl, o7, H8.out.1, by omega, by omega, by omega, by omega, H7.out.2.1, H8.out.2⟩
open Go.RowKit Go.Proofs.Herald
theorem fr_above {B0 : Nat} {w w' : World} {Z : Nat → Prop} (hf : Fr Z w w') (hz : ∀ k, k < w.heap.size → Z k → B0 ≤ k) (hB : B0 ≤ w.heap.size) : Below B0 w w' :=
  Fr.below (hf.mono fun k hk hz' => hz k hk hz') hB
open Go.RowKit Go.Proofs.Herald
/-- The plain side of a call. -/
structure Both {RT : Type} (M : Mode RT) (G : RT → Prop) (ρ : RT → Pr → Prop) (cs : List Ins) (i : Nat) (hm' : Her Pr) (hd' : Her RT) : Prop where
  same : SameHer ρ hd' hm'
  okd : HOk M.E G (50000000 * (i + 1 : Nat)) hd'
  okm : HOk (machE cs) (goodM cs) (50000000 * (i + 1 : Nat)) hm'
  qs : QsOk hm'
  last : hm'.last ≤ (i + 1 : Nat)
open Go.RowKit Go.Proofs.Herald
end Go.Proofs.Ytmmmnghiegajmaa
