import Derived.Test.YtmmmnghiegajmabM11
import Derived.Test.YtmmmnghiegajmabM14
import Derived.Test.YtmmmnghiegajmabM15
import Derived.Test.YtmmmnghiegajmabM28
import Derived.Test.YtmmmnghiegajmabM07
import Derived.Test.YtmmmnghiegajmabM13
import Derived.Deep.LoopGhost
import Derived.Test.YtmmmnghiegajmabM18
import Derived.Deep.RegionLaw
import Derived.Deep.RegionHeld3
import Derived.BigRegion
import Derived.BigQuiet
import Derived.Deep.QuietTactic
import Derived.Test.YtmmmnghiegajmabM05
import Derived.Test.YtmmmnghiegajmabM04
import Derived.Deep.RegionWith
import Derived.Deep.DeepCutAuto
import Derived.Test.YtmmmnghiegajmabM27
/- Bounds of every call; the harness: both heralds and the owner's books, what is looked at, the plain side of each step. -/
namespace Go.Proofs.Herald
theorem HOk.trig {RT : Type} {E : Eng RT} {G : RT → Prop} (hE : EngOk E G) {C : Int} {h : Her RT} (H : HOk E G C h) (hC : 0 ≤ C) (dev : Int) : HOk E G (C + 10000) (trigH E h dev).2.2 := by
  have hm := H.mono (D := C + 10000) (by omega)
  unfold trigH
  split
  · exact hm
  · rename_i hd
    split
    · exact hm
    · rename_i hl
      have ho := hE.start h.now (h.qs dev.toNat) (h.last + 1) dev (H.qlen _)
      have hf := hE.fresh (h.last + 1) dev
      have hd' : 0 ≤ dev ∧ dev ≤ 2 := by simpa using hd
      have key : ∀ y ∈ afterR E (h.rs ++ [E.fresh (h.last + 1) dev]) (E.start h.now (h.qs dev.toNat) (E.fresh (h.last + 1) dev)).2.1 (E.start h.now (h.qs dev.toNat) (E.fresh (h.last + 1) dev)).2.2, ((E.start h.now (h.qs dev.toNat) (E.fresh (h.last + 1) dev)).2.2 = false ∧ y = (E.start h.now (h.qs dev.toNat) (E.fresh (h.last + 1) dev)).2.1) ∨ y ∈ h.rs := fun y hy => by
        rcases mem_after hy with h1 | ⟨h1, h2⟩
        · exact .inl h1
        · rcases List.mem_append.mp h1 with h1 | h1
          · exact .inr h1
          · rw [List.mem_singleton.mp h1, ho.id] at h2
            exact absurd rfl h2
      have hl0 := H.last0
      have hn0 := H.now0
      have hn1 := H.now1
      have hnd : (h.rs ++ [E.fresh (h.last + 1) dev]).Pairwise fun a b => (E.pub a).id ≠ (E.pub b).id := by
        rw [List.pairwise_append]
        refine ⟨H.nd, by simp, fun a ha b hb => ?_⟩
        rw [List.mem_singleton.mp hb, hf]
        have := H.id a ha
        show (E.pub a).id ≠ h.last + 1
        omega
      refine ⟨hn0, hn1, by show 0 ≤ h.last + 1; omega, updQ_len H.qlen ho.len, ?_, fun y hy => ?_, fun y hy => ?_, fun y hy => ?_, fun y hy => ?_, fun y hy => ?_, after_nd _ _ hnd⟩
      · refine Nat.le_trans (after_len _ _ _) ?_
        simp; omega
      · rcases key y hy with ⟨hd, rfl⟩ | hy
        · rw [ho.dev hd, hf]; exact hd'
        · exact H.dev y hy
      · rcases key y hy with ⟨hd, rfl⟩ | hy
        · have h1 := ho.sent0 hd
          have h2 := ho.sent1 hd
          rw [hf] at h1 h2
          simp only at h1 h2
          omega
        · have := H.sent y hy; omega
      · rcases key y hy with ⟨hd, rfl⟩ | hy
        · have := (ho.stop hd).2
          show h.now ≤ _ ∧ _
          omega
        · exact H.til y hy
      · show (E.pub y).id ≤ h.last + 1
        rcases key y hy with ⟨_, rfl⟩ | hy
        · rw [ho.id, hf]; exact Int.le_refl _
        · have := H.id y hy; omega
      · rcases key y hy with ⟨hd, rfl⟩ | hy
        · exact (ho.stop hd).1
        · exact H.good y hy
/-- On through a Tick: the bounds, and no run is due when there is fuel enough. -/
theorem HOk.tickN {RT : Type} {E : Eng RT} {G : RT → Prop} (hE : EngOk E G) (en : Int) (hen : en ≤ 1000000000) : ∀ (f : Nat) {C : Int} {h : Her RT}, HOk E G C h → h.now ≤ en → msR E en h.rs ≤ f → HOk E G (C + 10000 * f) (Herald.tickN E en f h) ∧ dueR E en (Herald.tickN E en f h).rs = none ∧ (Herald.tickN E en f h).last = h.last := by
  intro f
  induction f with
  | zero =>
    intro C h H hn hm
    refine ⟨H.mono (by simp), ?_, rfl⟩
    show dueR E en h.rs = none
    cases hd : dueR E en h.rs with
    | none => rfl
    | some r =>
      obtain ⟨hr, h1, _⟩ := dueR_some hd
      have h3 : ∀ (l : List RT), r ∈ l → 1 ≤ msR E en l := by
        intro l
        induction l with
        | nil => intro h; cases h
        | cons y l ih =>
          intro h
          simp only [msR, List.map_cons, List.sum_cons] at ih ⊢
          rcases List.mem_cons.mp h with h | h
          · rw [← h]; omega
          · have := ih h; omega
      have := h3 _ hr
      omega
  | succ f ih =>
    intro C h H hn hm
    unfold Herald.tickN
    cases hd : dueR E en h.rs with
    | none => exact ⟨H.mono (by omega), hd, rfl⟩
    | some r =>
      obtain ⟨hr, h1, h2⟩ := dueR_some hd
      have ht := H.til r hr
      have h0 := H.now0
      have hgo := H.go hE hr false (E.pub r).til (by omega) (by omega) h2 (fun hh => by cases hh)
      have ho := hE.on (E.pub r).til false (h.qs (E.pub r).dev.toNat) r (H.good r hr) (H.qlen _) (fun hh => by cases hh)
      have hms := msR_after (E := E) (en := en) (r := r) (r' := (E.on (E.pub r).til false (h.qs (E.pub r).dev.toNat) r).2.1) (done := (E.on (E.pub r).til false (h.qs (E.pub r).dev.toNat) r).2.2) ho.id h1 (fun hd => (ho.stop hd).2.1) h.rs hr H.nd
      have := ih hgo h1 (Nat.le_of_lt_succ (Nat.lt_of_lt_of_le hms hm))
      refine ⟨this.1.mono ?_, this.2⟩
      push_cast
      omega
theorem HOk.tick {RT : Type} {E : Eng RT} {G : RT → Prop} (hE : EngOk E G) {C : Int} {h : Her RT} (H : HOk E G C h) (n : Int) : HOk E G (C + 50000000) (tickH E h n).2 ∧ (tickH E h n).2.last = h.last := by
  unfold tickH
  split
  · exact ⟨H.mono (by omega), rfl⟩
  · rename_i hn
    have hn1 : 1 ≤ n ∧ n ≤ 999 := by
      by_cases h1 : 1 ≤ n ∧ n ≤ 999
      · exact h1
      · exact absurd (.inl h1) hn
    have h3 : h.now + n ≤ 1000000000 := by omega
    have h0 := H.now0
    have hms : msR E (h.now + n) h.rs ≤ 5000 := by
      have h1 := msR_small (E := E) (en := h.now + n) (t := h.now) 1000 (by omega) h.rs (fun r hr => (H.til r hr).1)
      have h2 := H.len
      have : h.rs.length * 1000 ≤ 5 * 1000 := Nat.mul_le_mul_right _ h2
      omega
    obtain ⟨k1, k2, k3⟩ := HOk.tickN hE (h.now + n) h3 5000 H (by omega) hms
    have hd := dueR_none k2
    exact ⟨⟨by show 0 ≤ h.now + n; omega, h3, k1.last0, k1.qlen, k1.len, k1.dev, fun r hr => by have := k1.sent r hr; omega, fun r hr => ⟨by show h.now + n ≤ _; have := hd r hr; omega, (k1.til r hr).2⟩, k1.id, k1.good, k1.nd⟩, k3⟩
theorem HOk.ack {RT : Type} {E : Eng RT} {G : RT → Prop} (hE : EngOk E G) {C : Int} {h : Her RT} (H : HOk E G C h) (id num : Int) : HOk E G (C + 10000) (ackH E h id num).2 := by
  have hm := H.mono (D := C + 10000) (by omega)
  unfold ackH
  cases hf : findR E h.rs id with
  | none => exact hm
  | some r =>
    have hr : r ∈ h.rs := List.mem_of_find?_eq_some hf
    simp only
    split
    · exact hm
    · rename_i hn
      split
      · exact hm
      · have hz : (E.pub r).num ≠ 0 := fun hh => hn (by
          by_cases h0 : num = 0
          · exact .inl h0
          · right; rw [hh]; exact fun e => h0 e.symm)
        exact H.go hE hr true h.now H.now0 H.now1 (fun y hy => (H.til y hy).1) (fun _ => hz)
theorem HOk.cancel {RT : Type} {E : Eng RT} {G : RT → Prop} {C : Int} {h : Her RT} (H : HOk E G C h) (id : Int) : HOk E G C (cancelH E h id).2 := by
  unfold cancelH
  cases hf : findR E h.rs id with
  | none => exact H
  | some r =>
    have sub : ∀ y ∈ h.rs.filter (fun y => (E.pub y).id != id), y ∈ h.rs := fun y hy => (List.mem_filter.mp hy).1
    exact ⟨H.now0, H.now1, H.last0, updQ_len H.qlen (Nat.le_trans (List.length_filter_le _ _) (H.qlen _)), Nat.le_trans (List.length_filter_le _ _) H.len, fun y hy => H.dev y (sub y hy), fun y hy => H.sent y (sub y hy), fun y hy => H.til y (sub y hy), fun y hy => H.id y (sub y hy), fun y hy => H.good y (sub y hy), H.nd.filter _⟩
theorem HOk.drain {RT : Type} {E : Eng RT} {G : RT → Prop} {C : Int} {h : Her RT} (H : HOk E G C h) (dev : Int) : HOk E G C (drainH h dev).2.2 := by
  unfold drainH
  split
  · exact H
  · cases hq : h.qs dev.toNat with
    | nil => exact H
    | cons m r =>
      have := H.qlen dev.toNat
      rw [hq] at this
      simp at this
      exact ⟨H.now0, H.now1, H.last0, updQ_len H.qlen (by omega), H.len, H.dev, H.sent, H.til, H.id, H.good, H.nd⟩
theorem trig_last {RT : Type} {E : Eng RT} {h : Her RT} (dev : Int) : (trigH E h dev).2.2.last ≤ h.last + 1 := by
  unfold trigH
  split
  · show h.last ≤ _; omega
  · split
    · show h.last ≤ _; omega
    · exact Int.le_refl _
theorem ack_last {RT : Type} {E : Eng RT} {h : Her RT} (id num : Int) : (ackH E h id num).2.last = h.last := by
  unfold ackH
  cases findR E h.rs id with
  | none => rfl
  | some r => simp only; repeat' split
              all_goals rfl
theorem cancel_last {RT : Type} {E : Eng RT} {h : Her RT} (id : Int) : (cancelH E h id).2.last = h.last := by
  unfold cancelH
  cases findR E h.rs id with
  | none => rfl
  | some r => rfl
theorem drain_last {RT : Type} {h : Her RT} (dev : Int) : (drainH h dev).2.2.last = h.last := by
  unfold drainH
  split
  · rfl
  · split <;> rfl
end Go.Proofs.Herald
namespace Go.Proofs.Ytmmmnghiegajmab
open Go.RowKit Go.Proofs.Herald
theorem rn_get {w : World} {B g cap k : Nat} {l : List Rn} (h : w.ownsRow B 82 5 (.slice (some ⟨g, 0, none⟩) l.length cap) l.length (rnsCells l)) (hk : k < l.length) :
    w.cell? ⟨g, k * 5, none⟩ = some (.int .i64 l[k].id) ∧ w.cell? ⟨g, k * 5 + 1, none⟩ = some (.int .i64 l[k].dev) ∧ w.cell? ⟨g, k * 5 + 2, none⟩ = some (.int .i64 l[k].sent) ∧ w.cell? ⟨g, k * 5 + 3, none⟩ = some (.int .i64 l[k].til) ∧ w.cell? ⟨g, k * 5 + 4, none⟩ = some (.int .i64 l[k].num) := by
  have hget : ∀ (l : List Rn) (k : Nat) (hk : k < l.length) (j : Nat), j < 5 → (rnsCells l)[k * 5 + j]? = (rnCells l[k])[j]? := by
    intro l
    induction l with
    | nil => intro k hk; simp at hk
    | cons x l ih =>
      intro k hk j hj
      unfold rnsCells at ih ⊢
      rw [List.flatMap_cons]
      cases k with
      | zero =>
        rw [List.getElem?_append_left (by simp [rnCells]; omega)]
        simp
      | succ k =>
        rw [List.getElem?_append_right (by simp [rnCells]; omega), show (k + 1) * 5 + j - (rnCells x).length = k * 5 + j from by simp [rnCells]; omega, ih k (by simpa using hk) j hj]
        simp
  have get : ∀ j u, j < 5 → (rnCells l[k])[j]? = some u → w.cell? ⟨g, k * 5 + j, none⟩ = some u := fun j u hj hu => (own_get h (k * 5 + j) u (by rw [hget l k hk j hj]; exact hu)).1
  exact ⟨get 0 _ (by omega) rfl, get 1 _ (by omega) rfl, get 2 _ (by omega) rfl, get 3 _ (by omega) rfl, get 4 _ (by omega) rfl⟩
open Go.RowKit Go.Proofs.Herald
open Go.RowKit Go.Proofs.Herald
open Go.RowKit Go.Proofs.Herald
open Go.RowKit Go.Proofs.Herald
open Go.RowKit Go.Proofs.Herald
end Go.Proofs.Ytmmmnghiegajmab
/- The program's herald in a game: what it keeps from call to call. -/
namespace Go.Proofs.Ytmmmnghiegajmab
open Go.RowKit Go.Proofs.Herald
/-- A herald's own memory. -/
structure HS where
  code : Value
  jr : Value
  rv : Value
  qv : Nat → Value
  n : Nat
def HS.own (s : HS) (H k : Nat) : Prop := ownF H s.code s.jr s.rv s.qv k
/-- A herald of sound code, behind i calls. -/
structure GA (cs : List Ins) (i : Nat) (h : Her Pr) (w : World) (H : Nat) (s : HS) : Prop where
  fh : FH w H cs h s.code s.jr s.rv s.qv s.n
  n : s.n ≤ 19 * i
  snd : soundL cs = true
  ok : HOk (machE cs) (goodM cs) (50000000 * i) h
  qs : QsOk h
  last : h.last ≤ i
/-- Behind one call more. -/
def GNext (cs : List Ins) (i : Nat) (h' : Her Pr) (w : World) (H : Nat) (s : HS) (w' : World) : Prop :=
  ∃ s', GA cs (i + 1) h' w' H s' ∧ (∀ k, s'.own H k → s.own H k ∨ w.heap.size ≤ k) ∧ Fr (s.own H) w w'
theorem GA.eng {cs : List Ins} {i : Nat} {h : Her Pr} {w : World} {H : Nat} {s : HS} (g : GA cs i h w H s) : EngOk (machE cs) (goodM cs) := (codeE_ok g.snd).same (mach_same g.snd) (fun _ _ => rfl)
theorem GA.mok {cs : List Ins} {i : Nat} {h : Her Pr} {w : World} {H : Nat} {s : HS} (g : GA cs i h w H s) (hi : i ≤ 2000000) : MOk cs (50000000 * i) h :=
  ⟨g.snd, g.eng, g.ok, g.qs, by omega, by have := g.last; omega⟩
theorem GA.keep {cs : List Ins} {i : Nat} {h : Her Pr} {w w' : World} {H : Nat} {s : HS} (g : GA cs i h w H s) (hk : ∀ k, s.own H k → w'.heap[k]? = w.heap[k]?) : GA cs i h w' H s := ⟨g.fh.keep hk, g.n, g.snd, g.ok, g.qs, g.last⟩
theorem GA.below {cs : List Ins} {i : Nat} {h : Her Pr} {w w' : World} {H : Nat} {s : HS} (g : GA cs i h w H s) (hb : Below w.heap.size w w') : GA cs i h w' H s := ⟨g.fh.below hb, g.n, g.snd, g.ok, g.qs, g.last⟩
theorem GA.lt {cs : List Ins} {i : Nat} {h : Her Pr} {w : World} {H : Nat} {s : HS} (g : GA cs i h w H s) {k : Nat} (hk : s.own H k) : k < w.heap.size := g.fh.lt hk
theorem GNext.of {cs : List Ins} {i : Nat} {h h' : Her Pr} {w w' : World} {H : Nat} {s : HS} (g : GA cs i h w H s) (ho : FHOut w w' H cs h' s.code s.jr s.rv s.qv (s.n + 19)) (hk : HOk (machE cs) (goodM cs) (50000000 * (i + 1 : Nat)) h') (hq : QsOk h') (hl : h'.last ≤ (i + 1 : Nat)) : GNext cs i h' w H s w' := by
  obtain ⟨⟨jr', rv', qv', n', h1, h2, h3⟩, h4⟩ := ho
  have := g.n
  exact ⟨⟨s.code, jr', rv', qv', n'⟩, ⟨h2, by show n' ≤ _; omega, g.snd, hk, hq, hl⟩, h3, h4⟩
/-- A new herald. -/
theorem GA.new {cs : List Ins} {w : World} {H : Nat} {v : Value} (hs : soundL cs = true) (hH : w.heap[H]? = some (.cells (newHd v) 80 (0, 0))) (hv : w.ownsRow 0 137 4 v cs.length (codeCells cs)) : GA cs 0 newH w H ⟨v, .slice none 0 0, .slice none 0 0, fun _ => .slice none 0 0, 0⟩ :=
  ⟨⟨⟨⟨hH, fun d _ => World.ownsRow_nil _ _ _ _, fun d _ => by simp [newH], fun d e b _ _ hb => (by cases hb), World.ownsRow_nil _ _ _ _, fun p hp => (by simp [newH] at hp)⟩, hv⟩, [], rfl, World.ownsRow_nil _ _ _ _⟩, Nat.zero_le _, hs, (HOk.new _ _).mono (by simp), QsOk.new, by simp [newH]⟩
theorem g_Trigger {cs : List Ins} {i : Nat} {h : Her Pr} {H : Nat} {s : HS} (dev : Int) (w : World) (g : GA cs i h w H s) (hi : i ≤ 2000000) :
    Calls Try.prog 12 #[.pointer (some ⟨H, 0, none⟩), .int .i64 dev] w fun e w' => e = .returned (.tuple #[.int .i64 (trigH (machE cs) h dev).1, .int .i64 (trigH (machE cs) h dev).2.1]) ∧ GNext cs i (trigH (machE cs) h dev).2.2 w H s w' := by
  refine (f_Trigger H cs h s.code s.jr s.rv s.qv s.n dev (50000000 * i) w g.fh (g.mok hi) (by have := g.n; omega)).mono ?_
  rintro e w' ⟨rfl, ho⟩
  have hl := trig_last (E := machE cs) (h := h) dev
  have := g.last
  exact ⟨rfl, GNext.of g ho ((HOk.trig g.eng g.ok (by omega) dev).mono (by push_cast; omega)) (g.qs.trig (fun r hr => g.ok.id r hr) dev) (by push_cast; omega)⟩
theorem g_Tick {cs : List Ins} {i : Nat} {h : Her Pr} {H : Nat} {s : HS} (n : Int) (w : World) (g : GA cs i h w H s) (hi : i ≤ 2000000) :
    Calls Try.prog 23 #[.pointer (some ⟨H, 0, none⟩), .int .i64 n] w fun e w' => e = .returned (.int .i64 (tickH (machE cs) h n).1) ∧ GNext cs i (tickH (machE cs) h n).2 w H s w' := by
  refine (f_Tick H cs h s.code s.jr s.rv s.qv s.n n (50000000 * i) w g.fh (g.mok hi) (by have := g.n; omega)).mono ?_
  rintro e w' ⟨rfl, ho⟩
  have k2 := HOk.tick g.eng g.ok n
  have := g.last
  exact ⟨rfl, GNext.of g ho (k2.1.mono (by push_cast; omega)) (g.qs.tick g.eng g.ok n) (by rw [k2.2]; push_cast; omega)⟩
theorem g_Ack {cs : List Ins} {i : Nat} {h : Her Pr} {H : Nat} {s : HS} (id num : Int) (w : World) (g : GA cs i h w H s) (hi : i ≤ 2000000) :
    Calls Try.prog 24 #[.pointer (some ⟨H, 0, none⟩), .int .i64 id, .int .i64 num] w fun e w' => e = .returned (.int .i64 (ackH (machE cs) h id num).1) ∧ GNext cs i (ackH (machE cs) h id num).2 w H s w' := by
  refine (f_Ack H cs h s.code s.jr s.rv s.qv s.n id num (50000000 * i) w g.fh (g.mok hi) (by have := g.n; omega)).mono ?_
  rintro e w' ⟨rfl, ho⟩
  have := g.last
  exact ⟨rfl, GNext.of g ho ((HOk.ack g.eng g.ok id num).mono (by push_cast; omega)) (g.qs.ack g.ok id num) (by rw [ack_last]; push_cast; omega)⟩
theorem g_Cancel {cs : List Ins} {i : Nat} {h : Her Pr} {H : Nat} {s : HS} (id : Int) (w : World) (g : GA cs i h w H s) (hi : i ≤ 2000000) :
    Calls Try.prog 25 #[.pointer (some ⟨H, 0, none⟩), .int .i64 id] w fun e w' => e = .returned (.int .i64 (cancelH (machE cs) h id).1) ∧ GNext cs i (cancelH (machE cs) h id).2 w H s w' := by
  refine (f_Cancel H cs h s.code s.jr s.rv s.qv s.n id (50000000 * i) w g.fh (g.mok hi) (by have := g.n; omega)).mono ?_
  rintro e w' ⟨rfl, ho⟩
  have := g.last
  exact ⟨rfl, GNext.of g ho ((HOk.cancel g.ok id).mono (by push_cast; omega)) (g.qs.cancel id) (by rw [cancel_last]; push_cast; omega)⟩
theorem g_Drain {cs : List Ins} {i : Nat} {h : Her Pr} {H : Nat} {s : HS} (dev : Int) (w : World) (g : GA cs i h w H s) (hi : i ≤ 2000000) :
    Calls Try.prog 26 #[.pointer (some ⟨H, 0, none⟩), .int .i64 dev] w fun e w' => e = .returned (.tuple #[msgV (drainH h dev).1, .int .i64 (drainH h dev).2.1]) ∧ GNext cs i (drainH h dev).2.2 w H s w' := by
  refine (f_Drain H cs h s.code s.jr s.rv s.qv s.n dev (50000000 * i) w g.fh (g.mok hi) (by have := g.n; omega)).mono ?_
  rintro e w' ⟨rfl, ho⟩
  have := g.last
  exact ⟨rfl, GNext.of g ho ((HOk.drain g.ok dev).mono (by push_cast; omega)) (g.qs.drain dev) (by rw [drain_last]; push_cast; omega)⟩
/-- Behind at most m calls, seen from an earlier time. -/
def GTo (cs : List Ins) (m : Nat) (h : Her Pr) (w0 : World) (H : Nat) (s0 : HS) (w : World) : Prop :=
  ∃ i s, i ≤ m ∧ GA cs i h w H s ∧ (∀ k, s.own H k → s0.own H k ∨ w0.heap.size ≤ k) ∧ Fr (s0.own H) w0 w
theorem GA.tow {cs : List Ins} {i : Nat} {h : Her Pr} {w : World} {H : Nat} {s : HS} (g : GA cs i h w H s) : GTo cs i h w H s w := ⟨i, s, Nat.le_refl _, g, fun _ hk => .inl hk, Fr.refl _ _⟩
theorem GTo.len {cs : List Ins} {m : Nat} {h : Her Pr} {w0 : World} {H : Nat} {s0 : HS} {w : World} (g : GTo cs m h w0 H s0 w) : h.rs.length ≤ 5 := by
  obtain ⟨i, s, _, h2, _⟩ := g
  exact h2.ok.len
theorem t_Show {cs : List Ins} {m : Nat} {h : Her Pr} {w0 : World} {H : Nat} {s0 : HS} (w : World) (g : GTo cs m h w0 H s0 w) :
    Calls Try.prog 10 #[.pointer (some ⟨H, 0, none⟩)] w fun e w' => ∃ sv uv, e = .returned (.agg #[.int .i64 h.now, sv, uv]) ∧ w'.ownsRow w.heap.size 82 5 sv h.rs.length (rnsCells (h.rs.map pubP)) ∧ w'.ownsRow w.heap.size 30 4 uv (h.qs 0 ++ h.qs 1 ++ h.qs 2).length (msgsCells (h.qs 0 ++ h.qs 1 ++ h.qs 2)) ∧ Below w.heap.size w w' := by
  have hl := g.len
  obtain ⟨i, s, h1, h2, h3, h4⟩ := g
  exact f_Show H cs h s.code s.jr s.rv s.qv s.n w h2.fh (by omega)
end Go.Proofs.Ytmmmnghiegajmab
/- A state that keeps its bounds is sane. -/
namespace Go.Proofs.Herald
theorem pair_step {α : Type} {R : α → α → Prop} {l : List α} (h : l.Pairwise R) {i j : Nat} (hij : i < j) (hj : j < l.length) : R (l[i]'(Nat.lt_trans hij hj)) l[j] :=
  List.pairwise_iff_getElem.mp h i j (Nat.lt_trans hij hj) hj hij
theorem cntM_step (d : Int) (l : List Msg) (k : Nat) (hk : k < l.length) : cntM d (l.take (k + 1)) = cntM d (l.take k) + (if l[k].dev = d then 1 else 0) := by
  unfold cntM
  rw [List.take_succ_eq_append_getElem hk, List.countP_append]
  by_cases h : l[k].dev = d
  · simp [h]
  · simp [h]
end Go.Proofs.Herald
namespace Go.Proofs.Ytmmmnghiegajmab
open Go.RowKit Go.Proofs.Herald
/-- What a sane state's lists keep. -/
structure SaneOk (now : Int) (rs : List Rn) (Q : List Msg) : Prop where
  rl : rs.length ≤ 5
  ql : Q.length ≤ 1000
  til : ∀ r ∈ rs, now < r.til ∧ 0 ≤ r.num ∧ r.num ≤ r.sent
  ids : rs.Pairwise fun a b => a.id < b.id
  ap : Q.Pairwise apartM
  dev : Q.Pairwise fun a b => a.dev ≤ b.dev
  cnt : ∀ d, cntM d Q ≤ 4
/-- A state and its lists in memory. -/
structure SaneIn (now : Int) (rs : List Rn) (Q : List Msg) (ra qa : Option Addr) (rc qc X : Nat) (w : World) : Prop where
  blk : w.heap[X]? = some (.cells #[.int .i64 now, .slice ra rs.length rc, .slice qa Q.length qc] 44 (0, 0))
  rs : w.ownsRow 0 82 5 (.slice ra rs.length rc) rs.length (rnsCells rs)
  qs : w.ownsRow 0 30 4 (.slice qa Q.length qc) Q.length (msgsCells Q)
theorem SaneIn.below {now : Int} {rs : List Rn} {Q : List Msg} {ra qa : Option Addr} {rc qc X : Nat} {w w' : World} (h : SaneIn now rs Q ra qa rc qc X w) (hb : Below w.heap.size w w') : SaneIn now rs Q ra qa rc qc X w' :=
  ⟨(hb.block X (heap_lt h.blk)).trans h.blk, row_below h.rs hb, row_below h.qs hb⟩
theorem cells_of4 {w : World} {R : Nat} {a b c d : Value} {t : TypeId} (h : w.heap[R]? = some (.cells #[a, b, c, d] t (0, 0))) : w.cell? ⟨R, 0, none⟩ = some a ∧ w.cell? ⟨R, 1, none⟩ = some b ∧ w.cell? ⟨R, 2, none⟩ = some c ∧ w.cell? ⟨R, 3, none⟩ = some d ∧ R < w.heap.size :=
  ⟨(cell_of_heap h).trans rfl, (cell_of_heap h).trans rfl, (cell_of_heap h).trans rfl, (cell_of_heap h).trans rfl, heap_lt h⟩
theorem cells_of3 {w : World} {R : Nat} {a b c : Value} {t : TypeId} (h : w.heap[R]? = some (.cells #[a, b, c] t (0, 0))) : w.cell? ⟨R, 0, none⟩ = some a ∧ w.cell? ⟨R, 1, none⟩ = some b ∧ w.cell? ⟨R, 2, none⟩ = some c ∧ R < w.heap.size :=
  ⟨(cell_of_heap h).trans rfl, (cell_of_heap h).trans rfl, (cell_of_heap h).trans rfl, heap_lt h⟩
set_option maxRecDepth 20000 in
set_option maxHeartbeats 8000000 in
theorem c_sane (now : Int) (rs : List Rn) (Q : List Msg) (ra qa : Option Addr) (rc qc : Nat) (w : World) (hR : w.ownsRow 0 82 5 (.slice ra rs.length rc) rs.length (rnsCells rs)) (hQ : w.ownsRow 0 30 4 (.slice qa Q.length qc) Q.length (msgsCells Q)) (ok : SaneOk now rs Q) :
    Calls Try.prog 11 #[.agg #[.int .i64 now, .slice ra rs.length rc, .slice qa Q.length qc]] w fun e w' => e = .returned (.bool true) ∧ Below w.heap.size w w' := by
  have h1 : Below w.heap.size w (w.alloc (.cells #[.int .i64 now, .slice ra rs.length rc, .slice qa Q.length qc] 44)) := (Below.refl _ _).alloc (Nat.le_refl _) _
  have HI : Hid (SaneIn now rs Q ra qa rc qc w.heap.size (w.alloc (.cells #[.int .i64 now, .slice ra rs.length rc, .slice qa Q.length qc] 44))) := ⟨heap_alloc_new _ _, row_below hR h1, row_below hQ h1⟩
  have HB1 : Hid (Below w.heap.size w (w.alloc (.cells #[.int .i64 now, .slice ra rs.length rc, .slice qa Q.length qc] 44))) := h1
  have HK : Hid (SaneOk now rs Q) := ok
  have hrl := ok.rl
  have hql := ok.ql
  clear h1 hR hQ ok
  go_enter Try.func11, Try.ntmps11
  go_wp2_with fail
  go_loopw [3] (fun iv wr => ∃ i : Nat, i ≤ rs.length ∧ iv = .int .i64 (i : Nat) ∧ Hid (SaneIn now rs Q ra qa rc qc w.heap.size wr ∧ Below w.heap.size w wr ∧ w.heap.size < wr.heap.size)) (fun iv _ => rs.length - (intOf iv).toNat)
  case atStart => exact ⟨0, Nat.zero_le _, rfl, HI.out, HB1.out, by simp⟩
  case round =>
    obtain ⟨i, hi, rfl, HS⟩ := hrel
    obtain ⟨s0, s1, s2, hX⟩ := cells_of3 HS.out.1.blk
    by_cases hlt : i < rs.length
    · obtain ⟨g, ca', hv, _, _⟩ := HS.out.1.rs.form (by omega)
      simp at hv
      obtain ⟨rfl, rfl⟩ := hv
      obtain ⟨e0, e1, e2, e3, e4⟩ := rn_get HS.out.1.rs hlt
      obtain ⟨t1, t2, t3⟩ := HK.out.til _ (List.getElem_mem hlt)
      have b1 : decide (rs[i].til ≤ now) = false := decide_eq_false (by omega)
      have b3 : decide (rs[i].sent < rs[i].num) = false := decide_eq_false (by omega)
      have b4 : decide (rs[i].num < 0) = false := decide_eq_false (by omega)
      have HN : Hid (∀ (o : Obj) (W : World), SameH (wr.alloc o) W → SaneIn now rs Q (some ⟨g, 0, none⟩) qa rc qc w.heap.size W ∧ Below w.heap.size w W ∧ w.heap.size < W.heap.size) := fun o W hs => by
        have hb : Below wr.heap.size wr W := ((Below.refl _ _).alloc (Nat.le_refl _) o).trans (hs.below _)
        exact ⟨HS.out.1.below hb, HS.out.2.1.trans (hb.mono (by have := HS.out.2.2; omega)), by have := HS.out.2.2; have := hb.size; omega⟩
      by_cases hz : i = 0
      · subst hz
        generalize rs[0] = r at *
        go_wp2_with fail
        go_quiet (fail)
        go_wp2_with fail
        go_roundw
        case rel => exact ⟨0 + 1, by omega, by go_num, HN.out _ _ ⟨rfl, rfl, rfl, rfl⟩⟩
        case measure => simp [intOf]; omega
      · obtain ⟨j, rfl⟩ : ∃ j, i = j + 1 := ⟨i - 1, by omega⟩
        obtain ⟨p0, _, _, _, _⟩ := rn_get HS.out.1.rs (k := j) (by omega)
        have b2 : decide (rs[j + 1].id ≤ (rs[j]'(by omega)).id) = false := decide_eq_false (by have := pair_step HK.out.ids (i := j) (j := j + 1) (by omega) hlt; omega)
        have b5 : decide ((0 : Int) < ((j + 1 : Nat) : Int)) = true := decide_eq_true (by omega)
        have c1 : ((j + 1 : Nat) : Int) - 1 = ((j : Nat) : Int) := by omega
        generalize rs[j + 1] = r at *
        generalize (rs[j]'(by omega)) = y at *
        go_wp2_with fail
        go_quiet (fail)
        go_wp2_with fail
        go_roundw
        case rel => exact ⟨j + 1 + 1, by omega, by go_num, HN.out _ _ ⟨rfl, rfl, rfl, rfl⟩⟩
        case measure => simp [intOf]; omega
    · go_wp2_with fail
      clear s0 s1 s2 hX
      go_loopw [5] (fun iv wr => ∃ i : Nat, i ≤ Q.length ∧ iv = .int .i64 (i : Nat) ∧ Hid (SaneIn now rs Q ra qa rc qc w.heap.size wr ∧ Below w.heap.size w wr ∧ w.heap.size < wr.heap.size)) (fun iv _ => Q.length - (intOf iv).toNat)
      case atStart => exact ⟨0, Nat.zero_le _, rfl, HS.out⟩
      case round =>
        clear HS HI HB1 hlt hi
        obtain ⟨i, hi, rfl, HS⟩ := hrel
        obtain ⟨s0, s1, s2, hX⟩ := cells_of3 HS.out.1.blk
        by_cases hlt : i < Q.length
        · obtain ⟨g, ca', hv, _, _⟩ := HS.out.1.qs.form (by omega)
          simp at hv
          obtain ⟨rfl, rfl⟩ := hv
          obtain ⟨e0, e1, e2, e3⟩ := msg_get HS.out.1.qs hlt
          obtain ⟨M, hM⟩ : ∃ M, M = wr.heap.size := ⟨_, rfl⟩
          have HN : Hid (∀ (o : Obj), SaneIn now rs Q ra (some ⟨g, 0, none⟩) rc qc w.heap.size (wr.alloc o) ∧ Below w.heap.size w (wr.alloc o) ∧ w.heap.size < (wr.alloc o).heap.size) := fun o => by
            have hb : Below wr.heap.size wr (wr.alloc o) := (Below.refl _ _).alloc (Nat.le_refl _) o
            exact ⟨HS.out.1.below hb, HS.out.2.1.trans (hb.mono (by have := HS.out.2.2; omega)), by have := HS.out.2.2; simp; omega⟩
          have HMN : Hid (∀ (o : Array Value), (wr.alloc (.cells o 30)).heap[M]? = some (.cells o 30 (0, 0))) := fun o => by rw [hM]; exact heap_alloc_new _ _
          go_wp2_with fail
          rw [← hM]
          go_loopw [7, 8] (fun nv jv wx => ∃ j : Nat, j ≤ i + 1 ∧ jv = .int .i64 (j : Nat) ∧ nv = .int .i64 (cntM Q[i].dev (Q.take j) : Nat) ∧ Hid (SaneIn now rs Q ra (some ⟨g, 0, none⟩) rc qc w.heap.size wx ∧ Below w.heap.size w wx ∧ w.heap.size < wx.heap.size ∧ wx.heap[M]? = some (.cells #[.int .i64 Q[i].dev, .int .i64 Q[i].run, .int .i64 Q[i].num, .int .i64 Q[i].key] 30 (0, 0)))) (fun _ jv _ => i + 1 - (intOf jv).toNat)
          case atStart => exact ⟨0, Nat.zero_le _, rfl, rfl, (HN.out _).1, (HN.out _).2.1, (HN.out _).2.2, HMN.out _⟩
          case round =>
            clear HN HMN HS s0 s1 s2 hX e0 e1 e2 e3 hM
            obtain ⟨j, hj, rfl, rfl, HT⟩ := hrel
            obtain ⟨s0, s1, s2, hX⟩ := cells_of3 HT.out.1.blk
            obtain ⟨x0, x1, x2, x3, hMl⟩ := cells_of4 HT.out.2.2.2
            have hcn : cntM Q[i].dev (Q.take j) ≤ 4 := Nat.le_trans (cntM_take _ _ _) (HK.out.cnt _)
            by_cases hji : j ≤ i
            · obtain ⟨e0, e1, e2, e3⟩ := msg_get HT.out.1.qs (k := j) (by omega)
              have HN : Hid (∀ (o : Obj), SaneIn now rs Q ra (some ⟨g, 0, none⟩) rc qc w.heap.size (wr.alloc o) ∧ Below w.heap.size w (wr.alloc o) ∧ w.heap.size < (wr.alloc o).heap.size ∧ (wr.alloc o).heap[M]? = some (.cells #[.int .i64 Q[i].dev, .int .i64 Q[i].run, .int .i64 Q[i].num, .int .i64 Q[i].key] 30 (0, 0))) := fun o => by
                have hb : Below wr.heap.size wr (wr.alloc o) := (Below.refl _ _).alloc (Nat.le_refl _) o
                exact ⟨HT.out.1.below hb, HT.out.2.1.trans (hb.mono (by have := HT.out.2.2.1; omega)), by have := HT.out.2.2.1; simp; omega, (hb.block M hMl).trans HT.out.2.2.2⟩
              have HST : Hid (cntM Q[i].dev (Q.take (j + 1)) = cntM Q[i].dev (Q.take j) + (if (Q[j]'(by omega)).dev = Q[i].dev then 1 else 0)) := cntM_step _ _ _ (by omega)
              have HAP : Hid (j < i → apartM (Q[j]'(by omega)) Q[i]) := fun hh => pair_step HK.out.ap hh hlt
              have hjl : j < Q.length := by omega
              generalize Q[j] = y at *
              by_cases hd : y.dev = Q[i].dev
              · have b1 : (y.dev == Q[i].dev) = true := by simpa using hd
                have HST2 : Hid (((cntM Q[i].dev (Q.take j) : Nat) : Int) + 1 = ((cntM Q[i].dev (Q.take (j + 1)) : Nat) : Int)) := by
                  have := HST.out
                  rw [if_pos hd] at this
                  show _ = _
                  omega
                by_cases hlt2 : j < i
                · by_cases hrun : y.run = Q[i].run
                  · obtain ⟨a1, a2⟩ := HAP.out hlt2 hrun
                    have b2 : (y.run == Q[i].run) = true := by simpa using hrun
                    have b3 : (y.key == Q[i].key) = false := by simpa using a1
                    have b4 : (y.num == Q[i].num) = false := by simpa using a2
                    go_wp2_with fail
                    go_roundw
                    case rel => exact ⟨j + 1, by omega, by go_num, by rw [← HST2.out], HN.out _⟩
                    case measure => simp [intOf]; omega
                  · have b2 : (y.run == Q[i].run) = false := by simpa using hrun
                    go_wp2_with fail
                    go_roundw
                    case rel => exact ⟨j + 1, by omega, by go_num, by rw [← HST2.out], HN.out _⟩
                    case measure => simp [intOf]; omega
                · have b5 : decide (((j : Nat) : Int) < ((i : Nat) : Int)) = false := decide_eq_false (by omega)
                  go_wp2_with fail
                  go_roundw
                  case rel => exact ⟨j + 1, by omega, by go_num, by rw [← HST2.out], HN.out _⟩
                  case measure => simp [intOf]; omega
              · have b1 : (y.dev == Q[i].dev) = false := by simpa using hd
                have HST2 : Hid (cntM Q[i].dev (Q.take (j + 1)) = cntM Q[i].dev (Q.take j)) := by
                  have := HST.out
                  rw [if_neg hd] at this
                  exact this
                by_cases hlt2 : j < i
                · by_cases hrun : y.run = Q[i].run
                  · obtain ⟨a1, a2⟩ := HAP.out hlt2 hrun
                    have b2 : (y.run == Q[i].run) = true := by simpa using hrun
                    have b3 : (y.key == Q[i].key) = false := by simpa using a1
                    have b4 : (y.num == Q[i].num) = false := by simpa using a2
                    go_wp2_with fail
                    go_roundw
                    case rel => exact ⟨j + 1, by omega, by go_num, by rw [HST2.out], HN.out _⟩
                    case measure => simp [intOf]; omega
                  · have b2 : (y.run == Q[i].run) = false := by simpa using hrun
                    go_wp2_with fail
                    go_roundw
                    case rel => exact ⟨j + 1, by omega, by go_num, by rw [HST2.out], HN.out _⟩
                    case measure => simp [intOf]; omega
                · have b5 : decide (((j : Nat) : Int) < ((i : Nat) : Int)) = false := decide_eq_false (by omega)
                  go_wp2_with fail
                  go_roundw
                  case rel => exact ⟨j + 1, by omega, by go_num, by rw [HST2.out], HN.out _⟩
                  case measure => simp [intOf]; omega
            · have b0 : decide ((4 : Int) < ((cntM Q[i].dev (Q.take j) : Nat) : Int)) = false := decide_eq_false (by omega)
              have HN : Hid (∀ W, SameH wr W → SaneIn now rs Q ra (some ⟨g, 0, none⟩) rc qc w.heap.size W ∧ Below w.heap.size w W ∧ w.heap.size < W.heap.size) := fun W hs => ⟨HT.out.1.below (hs.below _), HT.out.2.1.trans (hs.below _), by rw [hs.heap]; exact HT.out.2.2.1⟩
              generalize cntM Q[i].dev (Q.take j) = cn at *
              by_cases hz : i = 0
              · have b1 : decide ((0 : Int) < ((i : Nat) : Int)) = false := decide_eq_false (by omega)
                go_wp2_with fail
                go_quiet (fail)
                go_wp2_with fail
                go_roundw
                case rel => exact ⟨i + 1, by omega, by go_num, HN.out _ ⟨rfl, rfl, rfl, rfl⟩⟩
                case measure => simp [intOf]; omega
              · obtain ⟨k, rfl⟩ : ∃ k, i = k + 1 := ⟨i - 1, by omega⟩
                obtain ⟨p0, _, _, _⟩ := msg_get HT.out.1.qs (k := k) (by omega)
                have b2 : decide (Q[k + 1].dev < (Q[k]'(by omega)).dev) = false := decide_eq_false (by have := pair_step HK.out.dev (i := k) (j := k + 1) (by omega) hlt; omega)
                have b5 : decide ((0 : Int) < ((k + 1 : Nat) : Int)) = true := decide_eq_true (by omega)
                have c1 : ((k + 1 : Nat) : Int) - 1 = ((k : Nat) : Int) := by omega
                have hkl : k < Q.length := by omega
                go_wp2_with fail
                go_quiet (fail)
                go_wp2_with fail
                go_roundw
                case rel => exact ⟨k + 1 + 1, by omega, by go_num, HN.out _ ⟨rfl, rfl, rfl, rfl⟩⟩
                case measure => simp [intOf]; omega
        · go_wp2_with fail
          go_ret
          exact ⟨rfl, HS.out.2.1⟩
end Go.Proofs.Ytmmmnghiegajmab
