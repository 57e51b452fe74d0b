import Derived.Test.YtmmmnghiegajmaaM10
import Derived.Test.YtmmmnghiegajmaaM15
import Derived.Test.YtmmmnghiegajmaaM16
import Derived.Test.YtmmmnghiegajmaaM24
import Derived.Test.YtmmmnghiegajmaaM07
import Derived.Test.YtmmmnghiegajmaaM14
import Derived.Test.YtmmmnghiegajmaaM17
import Derived.Test.YtmmmnghiegajmaaM05
import Derived.Test.YtmmmnghiegajmaaM04
import Derived.Deep.RegionWith
import Derived.Deep.DeepCutAuto
/- Bounds of every call; the harness: both heralds and the owner's books, what is looked at, the plain side of each step. -/
namespace Go.Proofs.Herald
theorem HOk.trig {RT : Type} {E : Eng RT} {G : RT → Prop} (hE : EngOk E G) {C : Int} {h : Her RT} (H : HOk E G C h) (hC : 0 ≤ C) (dev : Int) : HOk E G (C + 10000) (trigH E h dev).2.2 := by
  have hm := H.mono (D := C + 10000) (by omega)
  unfold trigH
  split
  · exact hm
  · rename_i hd
    split
    · exact hm
    · rename_i hl
      have ho := hE.start h.now (h.qs dev.toNat) (h.last + 1) dev (H.qlen _)
      have hf := hE.fresh (h.last + 1) dev
      have hd' : 0 ≤ dev ∧ dev ≤ 2 := by simpa using hd
      have key : ∀ y ∈ afterR E (h.rs ++ [E.fresh (h.last + 1) dev]) (E.start h.now (h.qs dev.toNat) (E.fresh (h.last + 1) dev)).2.1 (E.start h.now (h.qs dev.toNat) (E.fresh (h.last + 1) dev)).2.2, ((E.start h.now (h.qs dev.toNat) (E.fresh (h.last + 1) dev)).2.2 = false ∧ y = (E.start h.now (h.qs dev.toNat) (E.fresh (h.last + 1) dev)).2.1) ∨ y ∈ h.rs := fun y hy => by
        rcases mem_after hy with h1 | ⟨h1, h2⟩
        · exact .inl h1
        · rcases List.mem_append.mp h1 with h1 | h1
          · exact .inr h1
          · rw [List.mem_singleton.mp h1, ho.id] at h2
            exact absurd rfl h2
      have hl0 := H.last0
      have hn0 := H.now0
      have hn1 := H.now1
      have hnd : (h.rs ++ [E.fresh (h.last + 1) dev]).Pairwise fun a b => (E.pub a).id ≠ (E.pub b).id := by
        rw [List.pairwise_append]
        refine ⟨H.nd, by simp, fun a ha b hb => ?_⟩
        rw [List.mem_singleton.mp hb, hf]
        have := H.id a ha
        show (E.pub a).id ≠ h.last + 1
        omega
      refine ⟨hn0, hn1, by show 0 ≤ h.last + 1; omega, updQ_len H.qlen ho.len, ?_, fun y hy => ?_, fun y hy => ?_, fun y hy => ?_, fun y hy => ?_, fun y hy => ?_, after_nd _ _ hnd⟩
      · refine Nat.le_trans (after_len _ _ _) ?_
        simp; omega
      · rcases key y hy with ⟨hd, rfl⟩ | hy
        · rw [ho.dev hd, hf]; exact hd'
        · exact H.dev y hy
      · rcases key y hy with ⟨hd, rfl⟩ | hy
        · have h1 := ho.sent0 hd
          have h2 := ho.sent1 hd
          rw [hf] at h1 h2
          simp only at h1 h2
          omega
        · have := H.sent y hy; omega
      · rcases key y hy with ⟨hd, rfl⟩ | hy
        · have := (ho.stop hd).2
          show h.now ≤ _ ∧ _
          omega
        · exact H.til y hy
      · show (E.pub y).id ≤ h.last + 1
        rcases key y hy with ⟨_, rfl⟩ | hy
        · rw [ho.id, hf]; exact Int.le_refl _
        · have := H.id y hy; omega
      · rcases key y hy with ⟨hd, rfl⟩ | hy
        · exact (ho.stop hd).1
        · exact H.good y hy
/-- On through a Tick: the bounds, and no run is due when there is fuel enough. -/
theorem HOk.tickN {RT : Type} {E : Eng RT} {G : RT → Prop} (hE : EngOk E G) (en : Int) (hen : en ≤ 1000000000) : ∀ (f : Nat) {C : Int} {h : Her RT}, HOk E G C h → h.now ≤ en → msR E en h.rs ≤ f → HOk E G (C + 10000 * f) (Herald.tickN E en f h) ∧ dueR E en (Herald.tickN E en f h).rs = none ∧ (Herald.tickN E en f h).last = h.last := by
  intro f
  induction f with
  | zero =>
    intro C h H hn hm
    refine ⟨H.mono (by simp), ?_, rfl⟩
    show dueR E en h.rs = none
    cases hd : dueR E en h.rs with
    | none => rfl
    | some r =>
      obtain ⟨hr, h1, _⟩ := dueR_some hd
      have h3 : ∀ (l : List RT), r ∈ l → 1 ≤ msR E en l := by
        intro l
        induction l with
        | nil => intro h; cases h
        | cons y l ih =>
          intro h
          simp only [msR, List.map_cons, List.sum_cons] at ih ⊢
          rcases List.mem_cons.mp h with h | h
          · rw [← h]; omega
          · have := ih h; omega
      have := h3 _ hr
      omega
  | succ f ih =>
    intro C h H hn hm
    unfold Herald.tickN
    cases hd : dueR E en h.rs with
    | none => exact ⟨H.mono (by omega), hd, rfl⟩
    | some r =>
      obtain ⟨hr, h1, h2⟩ := dueR_some hd
      have ht := H.til r hr
      have h0 := H.now0
      have hgo := H.go hE hr false (E.pub r).til (by omega) (by omega) h2 (fun hh => by cases hh)
      have ho := hE.on (E.pub r).til false (h.qs (E.pub r).dev.toNat) r (H.good r hr) (H.qlen _) (fun hh => by cases hh)
      have hms := msR_after (E := E) (en := en) (r := r) (r' := (E.on (E.pub r).til false (h.qs (E.pub r).dev.toNat) r).2.1) (done := (E.on (E.pub r).til false (h.qs (E.pub r).dev.toNat) r).2.2) ho.id h1 (fun hd => (ho.stop hd).2.1) h.rs hr H.nd
      have := ih hgo h1 (Nat.le_of_lt_succ (Nat.lt_of_lt_of_le hms hm))
      refine ⟨this.1.mono ?_, this.2⟩
      push_cast
      omega
theorem HOk.tick {RT : Type} {E : Eng RT} {G : RT → Prop} (hE : EngOk E G) {C : Int} {h : Her RT} (H : HOk E G C h) (n : Int) : HOk E G (C + 50000000) (tickH E h n).2 ∧ (tickH E h n).2.last = h.last := by
  unfold tickH
  split
  · exact ⟨H.mono (by omega), rfl⟩
  · rename_i hn
    have hn1 : 1 ≤ n ∧ n ≤ 999 := by
      by_cases h1 : 1 ≤ n ∧ n ≤ 999
      · exact h1
      · exact absurd (.inl h1) hn
    have h3 : h.now + n ≤ 1000000000 := by omega
    have h0 := H.now0
    have hms : msR E (h.now + n) h.rs ≤ 5000 := by
      have h1 := msR_small (E := E) (en := h.now + n) (t := h.now) 1000 (by omega) h.rs (fun r hr => (H.til r hr).1)
      have h2 := H.len
      have : h.rs.length * 1000 ≤ 5 * 1000 := Nat.mul_le_mul_right _ h2
      omega
    obtain ⟨k1, k2, k3⟩ := HOk.tickN hE (h.now + n) h3 5000 H (by omega) hms
    have hd := dueR_none k2
    exact ⟨⟨by show 0 ≤ h.now + n; omega, h3, k1.last0, k1.qlen, k1.len, k1.dev, fun r hr => by have := k1.sent r hr; omega, fun r hr => ⟨by show h.now + n ≤ _; have := hd r hr; omega, (k1.til r hr).2⟩, k1.id, k1.good, k1.nd⟩, k3⟩
theorem HOk.ack {RT : Type} {E : Eng RT} {G : RT → Prop} (hE : EngOk E G) {C : Int} {h : Her RT} (H : HOk E G C h) (id num : Int) : HOk E G (C + 10000) (ackH E h id num).2 := by
  have hm := H.mono (D := C + 10000) (by omega)
  unfold ackH
  cases hf : findR E h.rs id with
  | none => exact hm
  | some r =>
    have hr : r ∈ h.rs := List.mem_of_find?_eq_some hf
    simp only
    split
    · exact hm
    · rename_i hn
      split
      · exact hm
      · have hz : (E.pub r).num ≠ 0 := fun hh => hn (by
          by_cases h0 : num = 0
          · exact .inl h0
          · right; rw [hh]; exact fun e => h0 e.symm)
        exact H.go hE hr true h.now H.now0 H.now1 (fun y hy => (H.til y hy).1) (fun _ => hz)
theorem HOk.cancel {RT : Type} {E : Eng RT} {G : RT → Prop} {C : Int} {h : Her RT} (H : HOk E G C h) (id : Int) : HOk E G C (cancelH E h id).2 := by
  unfold cancelH
  cases hf : findR E h.rs id with
  | none => exact H
  | some r =>
    have sub : ∀ y ∈ h.rs.filter (fun y => (E.pub y).id != id), y ∈ h.rs := fun y hy => (List.mem_filter.mp hy).1
    exact ⟨H.now0, H.now1, H.last0, updQ_len H.qlen (Nat.le_trans (List.length_filter_le _ _) (H.qlen _)), Nat.le_trans (List.length_filter_le _ _) H.len, fun y hy => H.dev y (sub y hy), fun y hy => H.sent y (sub y hy), fun y hy => H.til y (sub y hy), fun y hy => H.id y (sub y hy), fun y hy => H.good y (sub y hy), H.nd.filter _⟩
theorem HOk.drain {RT : Type} {E : Eng RT} {G : RT → Prop} {C : Int} {h : Her RT} (H : HOk E G C h) (dev : Int) : HOk E G C (drainH h dev).2.2 := by
  unfold drainH
  split
  · exact H
  · cases hq : h.qs dev.toNat with
    | nil => exact H
    | cons m r =>
      have := H.qlen dev.toNat
      rw [hq] at this
      simp at this
      exact ⟨H.now0, H.now1, H.last0, updQ_len H.qlen (by omega), H.len, H.dev, H.sent, H.til, H.id, H.good, H.nd⟩
theorem trig_last {RT : Type} {E : Eng RT} {h : Her RT} (dev : Int) : (trigH E h dev).2.2.last ≤ h.last + 1 := by
  unfold trigH
  split
  · show h.last ≤ _; omega
  · split
    · show h.last ≤ _; omega
    · exact Int.le_refl _
theorem ack_last {RT : Type} {E : Eng RT} {h : Her RT} (id num : Int) : (ackH E h id num).2.last = h.last := by
  unfold ackH
  cases findR E h.rs id with
  | none => rfl
  | some r => simp only; repeat' split
              all_goals rfl
theorem cancel_last {RT : Type} {E : Eng RT} {h : Her RT} (id : Int) : (cancelH E h id).2.last = h.last := by
  unfold cancelH
  cases findR E h.rs id with
  | none => rfl
  | some r => rfl
theorem drain_last {RT : Type} {h : Her RT} (dev : Int) : (drainH h dev).2.2.last = h.last := by
  unfold drainH
  split
  · rfl
  · split <;> rfl
end Go.Proofs.Herald
namespace Go.Proofs.Ytmmmnghiegajmaa
open Go.RowKit Go.Proofs.Herald
open Go.RowKit Go.Proofs.Herald
open Go.RowKit Go.Proofs.Herald
open Go.RowKit Go.Proofs.Herald
open Go.RowKit Go.Proofs.Herald
open Go.RowKit Go.Proofs.Herald
end Go.Proofs.Ytmmmnghiegajmaa
/- The program's herald in a game: what it keeps from call to call. -/
namespace Go.Proofs.Ytmmmnghiegajmaa
open Go.RowKit Go.Proofs.Herald
/-- A herald's own memory. -/
structure HS where
  code : Value
  jr : Value
  rv : Value
  qv : Nat → Value
  n : Nat
def HS.own (s : HS) (H k : Nat) : Prop := ownF H s.code s.jr s.rv s.qv k
/-- A herald of sound code, behind i calls. -/
structure GA (cs : List Ins) (i : Nat) (h : Her Pr) (w : World) (H : Nat) (s : HS) : Prop where
  fh : FH w H cs h s.code s.jr s.rv s.qv s.n
  n : s.n ≤ 19 * i
  snd : soundL cs = true
  ok : HOk (machE cs) (goodM cs) (50000000 * i) h
  qs : QsOk h
  last : h.last ≤ i
/-- Behind one call more. -/
def GNext (cs : List Ins) (i : Nat) (h' : Her Pr) (w : World) (H : Nat) (s : HS) (w' : World) : Prop :=
  ∃ s', GA cs (i + 1) h' w' H s' ∧ (∀ k, s'.own H k → s.own H k ∨ w.heap.size ≤ k) ∧ Fr (s.own H) w w'
theorem GA.eng {cs : List Ins} {i : Nat} {h : Her Pr} {w : World} {H : Nat} {s : HS} (g : GA cs i h w H s) : EngOk (machE cs) (goodM cs) := (codeE_ok g.snd).same (mach_same g.snd) (fun _ _ => rfl)
theorem GA.mok {cs : List Ins} {i : Nat} {h : Her Pr} {w : World} {H : Nat} {s : HS} (g : GA cs i h w H s) (hi : i ≤ 2000000) : MOk cs (50000000 * i) h :=
  ⟨g.snd, g.eng, g.ok, g.qs, by omega, by have := g.last; omega⟩
theorem GA.keep {cs : List Ins} {i : Nat} {h : Her Pr} {w w' : World} {H : Nat} {s : HS} (g : GA cs i h w H s) (hk : ∀ k, s.own H k → w'.heap[k]? = w.heap[k]?) : GA cs i h w' H s := ⟨g.fh.keep hk, g.n, g.snd, g.ok, g.qs, g.last⟩
theorem GA.below {cs : List Ins} {i : Nat} {h : Her Pr} {w w' : World} {H : Nat} {s : HS} (g : GA cs i h w H s) (hb : Below w.heap.size w w') : GA cs i h w' H s := ⟨g.fh.below hb, g.n, g.snd, g.ok, g.qs, g.last⟩
theorem GA.lt {cs : List Ins} {i : Nat} {h : Her Pr} {w : World} {H : Nat} {s : HS} (g : GA cs i h w H s) {k : Nat} (hk : s.own H k) : k < w.heap.size := g.fh.lt hk
theorem GNext.of {cs : List Ins} {i : Nat} {h h' : Her Pr} {w w' : World} {H : Nat} {s : HS} (g : GA cs i h w H s) (ho : FHOut w w' H cs h' s.code s.jr s.rv s.qv (s.n + 19)) (hk : HOk (machE cs) (goodM cs) (50000000 * (i + 1 : Nat)) h') (hq : QsOk h') (hl : h'.last ≤ (i + 1 : Nat)) : GNext cs i h' w H s w' := by
  obtain ⟨⟨jr', rv', qv', n', h1, h2, h3⟩, h4⟩ := ho
  have := g.n
  exact ⟨⟨s.code, jr', rv', qv', n'⟩, ⟨h2, by show n' ≤ _; omega, g.snd, hk, hq, hl⟩, h3, h4⟩
/-- A new herald. -/
theorem GA.new {cs : List Ins} {w : World} {H : Nat} {v : Value} (hs : soundL cs = true) (hH : w.heap[H]? = some (.cells (newHd v) 150 (0, 0))) (hv : w.ownsRow 0 128 4 v cs.length (codeCells cs)) : GA cs 0 newH w H ⟨v, .slice none 0 0, .slice none 0 0, fun _ => .slice none 0 0, 0⟩ :=
  ⟨⟨⟨⟨hH, fun d _ => World.ownsRow_nil _ _ _ _, fun d _ => by simp [newH], fun d e b _ _ hb => (by cases hb), World.ownsRow_nil _ _ _ _, fun p hp => (by simp [newH] at hp)⟩, hv⟩, [], rfl, World.ownsRow_nil _ _ _ _⟩, Nat.zero_le _, hs, (HOk.new _ _).mono (by simp), QsOk.new, by simp [newH]⟩
theorem g_Trigger {cs : List Ins} {i : Nat} {h : Her Pr} {H : Nat} {s : HS} (dev : Int) (w : World) (g : GA cs i h w H s) (hi : i ≤ 2000000) :
    Calls Try.prog 28 #[.pointer (some ⟨H, 0, none⟩), .int .i64 dev] w fun e w' => e = .returned (.tuple #[.int .i64 (trigH (machE cs) h dev).1, .int .i64 (trigH (machE cs) h dev).2.1]) ∧ GNext cs i (trigH (machE cs) h dev).2.2 w H s w' := by
  refine (f_Trigger H cs h s.code s.jr s.rv s.qv s.n dev (50000000 * i) w g.fh (g.mok hi) (by have := g.n; omega)).mono ?_
  rintro e w' ⟨rfl, ho⟩
  have hl := trig_last (E := machE cs) (h := h) dev
  have := g.last
  exact ⟨rfl, GNext.of g ho ((HOk.trig g.eng g.ok (by omega) dev).mono (by push_cast; omega)) (g.qs.trig (fun r hr => g.ok.id r hr) dev) (by push_cast; omega)⟩
theorem g_Tick {cs : List Ins} {i : Nat} {h : Her Pr} {H : Nat} {s : HS} (n : Int) (w : World) (g : GA cs i h w H s) (hi : i ≤ 2000000) :
    Calls Try.prog 33 #[.pointer (some ⟨H, 0, none⟩), .int .i64 n] w fun e w' => e = .returned (.int .i64 (tickH (machE cs) h n).1) ∧ GNext cs i (tickH (machE cs) h n).2 w H s w' := by
  refine (f_Tick H cs h s.code s.jr s.rv s.qv s.n n (50000000 * i) w g.fh (g.mok hi) (by have := g.n; omega)).mono ?_
  rintro e w' ⟨rfl, ho⟩
  have k2 := HOk.tick g.eng g.ok n
  have := g.last
  exact ⟨rfl, GNext.of g ho (k2.1.mono (by push_cast; omega)) (g.qs.tick g.eng g.ok n) (by rw [k2.2]; push_cast; omega)⟩
theorem g_Ack {cs : List Ins} {i : Nat} {h : Her Pr} {H : Nat} {s : HS} (id num : Int) (w : World) (g : GA cs i h w H s) (hi : i ≤ 2000000) :
    Calls Try.prog 38 #[.pointer (some ⟨H, 0, none⟩), .int .i64 id, .int .i64 num] w fun e w' => e = .returned (.int .i64 (ackH (machE cs) h id num).1) ∧ GNext cs i (ackH (machE cs) h id num).2 w H s w' := by
  refine (f_Ack H cs h s.code s.jr s.rv s.qv s.n id num (50000000 * i) w g.fh (g.mok hi) (by have := g.n; omega)).mono ?_
  rintro e w' ⟨rfl, ho⟩
  have := g.last
  exact ⟨rfl, GNext.of g ho ((HOk.ack g.eng g.ok id num).mono (by push_cast; omega)) (g.qs.ack g.ok id num) (by rw [ack_last]; push_cast; omega)⟩
theorem g_Cancel {cs : List Ins} {i : Nat} {h : Her Pr} {H : Nat} {s : HS} (id : Int) (w : World) (g : GA cs i h w H s) (hi : i ≤ 2000000) :
    Calls Try.prog 40 #[.pointer (some ⟨H, 0, none⟩), .int .i64 id] w fun e w' => e = .returned (.int .i64 (cancelH (machE cs) h id).1) ∧ GNext cs i (cancelH (machE cs) h id).2 w H s w' := by
  refine (f_Cancel H cs h s.code s.jr s.rv s.qv s.n id (50000000 * i) w g.fh (g.mok hi) (by have := g.n; omega)).mono ?_
  rintro e w' ⟨rfl, ho⟩
  have := g.last
  exact ⟨rfl, GNext.of g ho ((HOk.cancel g.ok id).mono (by push_cast; omega)) (g.qs.cancel id) (by rw [cancel_last]; push_cast; omega)⟩
theorem g_Drain {cs : List Ins} {i : Nat} {h : Her Pr} {H : Nat} {s : HS} (dev : Int) (w : World) (g : GA cs i h w H s) (hi : i ≤ 2000000) :
    Calls Try.prog 37 #[.pointer (some ⟨H, 0, none⟩), .int .i64 dev] w fun e w' => e = .returned (.tuple #[msgV (drainH h dev).1, .int .i64 (drainH h dev).2.1]) ∧ GNext cs i (drainH h dev).2.2 w H s w' := by
  refine (f_Drain H cs h s.code s.jr s.rv s.qv s.n dev (50000000 * i) w g.fh (g.mok hi) (by have := g.n; omega)).mono ?_
  rintro e w' ⟨rfl, ho⟩
  have := g.last
  exact ⟨rfl, GNext.of g ho ((HOk.drain g.ok dev).mono (by push_cast; omega)) (g.qs.drain dev) (by rw [drain_last]; push_cast; omega)⟩
/-- Behind at most m calls, seen from an earlier time. -/
def GTo (cs : List Ins) (m : Nat) (h : Her Pr) (w0 : World) (H : Nat) (s0 : HS) (w : World) : Prop :=
  ∃ i s, i ≤ m ∧ GA cs i h w H s ∧ (∀ k, s.own H k → s0.own H k ∨ w0.heap.size ≤ k) ∧ Fr (s0.own H) w0 w
theorem GA.tow {cs : List Ins} {i : Nat} {h : Her Pr} {w : World} {H : Nat} {s : HS} (g : GA cs i h w H s) : GTo cs i h w H s w := ⟨i, s, Nat.le_refl _, g, fun _ hk => .inl hk, Fr.refl _ _⟩
theorem GTo.below {cs : List Ins} {m : Nat} {h : Her Pr} {w0 : World} {H : Nat} {s0 : HS} {w w' : World} (g : GTo cs m h w0 H s0 w) (hb : Below w.heap.size w w') : GTo cs m h w0 H s0 w' := by
  obtain ⟨i, s, h1, h2, h3, h4⟩ := g
  exact ⟨i, s, h1, h2.below hb, h3, h4.trans ((Fr.of_below hb).mono fun k hk hs => by omega)⟩
theorem GTo.next {cs : List Ins} {m : Nat} {h' : Her Pr} {w0 : World} {H : Nat} {s0 : HS} {w w' : World} {i : Nat} {s : HS} (hi : i ≤ m) (h3 : ∀ k, s.own H k → s0.own H k ∨ w0.heap.size ≤ k) (h4 : Fr (s0.own H) w0 w) (n : GNext cs i h' w H s w') : GTo cs (m + 1) h' w0 H s0 w' := by
  obtain ⟨s', g', o', f'⟩ := n
  refine ⟨i + 1, s', by omega, g', fun k hk => ?_, Fr.wide h4 (f'.mono fun k _ hk => h3 k hk)⟩
  rcases o' k hk with h5 | h5
  · exact h3 k h5
  · exact .inr (Nat.le_trans h4.size h5)
theorem GTo.len {cs : List Ins} {m : Nat} {h : Her Pr} {w0 : World} {H : Nat} {s0 : HS} {w : World} (g : GTo cs m h w0 H s0 w) : h.rs.length ≤ 5 := by
  obtain ⟨i, s, _, h2, _⟩ := g
  exact h2.ok.len
theorem t_Trigger {cs : List Ins} {m : Nat} {h : Her Pr} {w0 : World} {H : Nat} {s0 : HS} (dev : Int) (w : World) (g : GTo cs m h w0 H s0 w) (hm : m ≤ 2000000) :
    Calls Try.prog 28 #[.pointer (some ⟨H, 0, none⟩), .int .i64 dev] w fun e w' => e = .returned (.tuple #[.int .i64 (trigH (machE cs) h dev).1, .int .i64 (trigH (machE cs) h dev).2.1]) ∧ GTo cs (m + 1) (trigH (machE cs) h dev).2.2 w0 H s0 w' := by
  obtain ⟨i, s, h1, h2, h3, h4⟩ := g
  exact (g_Trigger dev w h2 (by omega)).mono fun e w' hh => ⟨hh.1, GTo.next h1 h3 h4 hh.2⟩
theorem t_Tick {cs : List Ins} {m : Nat} {h : Her Pr} {w0 : World} {H : Nat} {s0 : HS} (n : Int) (w : World) (g : GTo cs m h w0 H s0 w) (hm : m ≤ 2000000) :
    Calls Try.prog 33 #[.pointer (some ⟨H, 0, none⟩), .int .i64 n] w fun e w' => e = .returned (.int .i64 (tickH (machE cs) h n).1) ∧ GTo cs (m + 1) (tickH (machE cs) h n).2 w0 H s0 w' := by
  obtain ⟨i, s, h1, h2, h3, h4⟩ := g
  exact (g_Tick n w h2 (by omega)).mono fun e w' hh => ⟨hh.1, GTo.next h1 h3 h4 hh.2⟩
theorem t_Ack {cs : List Ins} {m : Nat} {h : Her Pr} {w0 : World} {H : Nat} {s0 : HS} (id num : Int) (w : World) (g : GTo cs m h w0 H s0 w) (hm : m ≤ 2000000) :
    Calls Try.prog 38 #[.pointer (some ⟨H, 0, none⟩), .int .i64 id, .int .i64 num] w fun e w' => e = .returned (.int .i64 (ackH (machE cs) h id num).1) ∧ GTo cs (m + 1) (ackH (machE cs) h id num).2 w0 H s0 w' := by
  obtain ⟨i, s, h1, h2, h3, h4⟩ := g
  exact (g_Ack id num w h2 (by omega)).mono fun e w' hh => ⟨hh.1, GTo.next h1 h3 h4 hh.2⟩
theorem t_Drain {cs : List Ins} {m : Nat} {h : Her Pr} {w0 : World} {H : Nat} {s0 : HS} (dev : Int) (w : World) (g : GTo cs m h w0 H s0 w) (hm : m ≤ 2000000) :
    Calls Try.prog 37 #[.pointer (some ⟨H, 0, none⟩), .int .i64 dev] w fun e w' => e = .returned (.tuple #[msgV (drainH h dev).1, .int .i64 (drainH h dev).2.1]) ∧ GTo cs (m + 1) (drainH h dev).2.2 w0 H s0 w' := by
  obtain ⟨i, s, h1, h2, h3, h4⟩ := g
  exact (g_Drain dev w h2 (by omega)).mono fun e w' hh => ⟨hh.1, GTo.next h1 h3 h4 hh.2⟩
theorem t_Show {cs : List Ins} {m : Nat} {h : Her Pr} {w0 : World} {H : Nat} {s0 : HS} (w : World) (g : GTo cs m h w0 H s0 w) :
    Calls Try.prog 30 #[.pointer (some ⟨H, 0, none⟩)] w fun e w' => ∃ sv uv, e = .returned (.agg #[.int .i64 h.now, sv, uv]) ∧ w'.ownsRow w.heap.size 90 5 sv h.rs.length (rnsCells (h.rs.map pubP)) ∧ w'.ownsRow w.heap.size 83 4 uv (h.qs 0 ++ h.qs 1 ++ h.qs 2).length (msgsCells (h.qs 0 ++ h.qs 1 ++ h.qs 2)) ∧ Below w.heap.size w w' := by
  have hl := g.len
  obtain ⟨i, s, h1, h2, h3, h4⟩ := g
  exact f_Show H cs h s.code s.jr s.rv s.qv s.n w h2.fh (by omega)
end Go.Proofs.Ytmmmnghiegajmaa
