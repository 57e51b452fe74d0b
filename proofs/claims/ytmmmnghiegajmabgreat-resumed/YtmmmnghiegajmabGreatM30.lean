import Derived.Test.YtmmmnghiegajmabGreatM13
import Derived.Test.YtmmmnghiegajmabGreatM16
import Derived.Test.YtmmmnghiegajmabGreatM17
import Derived.Test.YtmmmnghiegajmabGreatM29
import Derived.Test.YtmmmnghiegajmabGreatM08
import Derived.Test.YtmmmnghiegajmabGreatM15
import Derived.Test.YtmmmnghiegajmabGreatM07
import Derived.Deep.LoopGhost
import Derived.Test.YtmmmnghiegajmabGreatM20
import Derived.Deep.RegionLaw
import Derived.Deep.RegionHeld3
import Derived.BigRegion
import Derived.BigQuiet
import Derived.Deep.QuietTactic
import Derived.Test.YtmmmnghiegajmabGreatM05
import Derived.Test.YtmmmnghiegajmabGreatM04
import Derived.Deep.RegionWith
import Derived.Deep.DeepCutAuto
import Derived.Laws.BytesArg
/- Bounds of every call; the harness: both heralds and the owner's books, what is looked at, the plain side of each step. -/
namespace Go.Proofs.Herald
theorem HOk.trig {RT : Type} {E : Eng RT} {G : RT → Prop} (hE : EngOk E G) {C : Int} {h : Her RT} (H : HOk E G C h) (hC : 0 ≤ C) (dev : Int) : HOk E G (C + 10000) (trigH E h dev).2.2 := by
  have hm := H.mono (D := C + 10000) (by omega)
  unfold trigH
  split
  · exact hm
  · rename_i hd
    split
    · exact hm
    · rename_i hl
      have ho := hE.start h.now (h.qs dev.toNat) (h.last + 1) dev (H.qlen _)
      have hf := hE.fresh (h.last + 1) dev
      have hd' : 0 ≤ dev ∧ dev ≤ 2 := by simpa using hd
      have key : ∀ y ∈ afterR E (h.rs ++ [E.fresh (h.last + 1) dev]) (E.start h.now (h.qs dev.toNat) (E.fresh (h.last + 1) dev)).2.1 (E.start h.now (h.qs dev.toNat) (E.fresh (h.last + 1) dev)).2.2, ((E.start h.now (h.qs dev.toNat) (E.fresh (h.last + 1) dev)).2.2 = false ∧ y = (E.start h.now (h.qs dev.toNat) (E.fresh (h.last + 1) dev)).2.1) ∨ y ∈ h.rs := fun y hy => by
        rcases mem_after hy with h1 | ⟨h1, h2⟩
        · exact .inl h1
        · rcases List.mem_append.mp h1 with h1 | h1
          · exact .inr h1
          · rw [List.mem_singleton.mp h1, ho.id] at h2
            exact absurd rfl h2
      have hl0 := H.last0
      have hn0 := H.now0
      have hn1 := H.now1
      have hnd : (h.rs ++ [E.fresh (h.last + 1) dev]).Pairwise fun a b => (E.pub a).id ≠ (E.pub b).id := by
        rw [List.pairwise_append]
        refine ⟨H.nd, by simp, fun a ha b hb => ?_⟩
        rw [List.mem_singleton.mp hb, hf]
        have := H.id a ha
        show (E.pub a).id ≠ h.last + 1
        omega
      refine ⟨hn0, hn1, by show 0 ≤ h.last + 1; omega, updQ_len H.qlen ho.len, ?_, fun y hy => ?_, fun y hy => ?_, fun y hy => ?_, fun y hy => ?_, fun y hy => ?_, after_nd _ _ hnd⟩
      · refine Nat.le_trans (after_len _ _ _) ?_
        simp; omega
      · rcases key y hy with ⟨hd, rfl⟩ | hy
        · rw [ho.dev hd, hf]; exact hd'
        · exact H.dev y hy
      · rcases key y hy with ⟨hd, rfl⟩ | hy
        · have h1 := ho.sent0 hd
          have h2 := ho.sent1 hd
          rw [hf] at h1 h2
          simp only at h1 h2
          omega
        · have := H.sent y hy; omega
      · rcases key y hy with ⟨hd, rfl⟩ | hy
        · have := (ho.stop hd).2
          show h.now ≤ _ ∧ _
          omega
        · exact H.til y hy
      · show (E.pub y).id ≤ h.last + 1
        rcases key y hy with ⟨_, rfl⟩ | hy
        · rw [ho.id, hf]; exact Int.le_refl _
        · have := H.id y hy; omega
      · rcases key y hy with ⟨hd, rfl⟩ | hy
        · exact (ho.stop hd).1
        · exact H.good y hy
/-- On through a Tick: the bounds, and no run is due when there is fuel enough. -/
theorem HOk.tickN {RT : Type} {E : Eng RT} {G : RT → Prop} (hE : EngOk E G) (en : Int) (hen : en ≤ 1000000000) : ∀ (f : Nat) {C : Int} {h : Her RT}, HOk E G C h → h.now ≤ en → msR E en h.rs ≤ f → HOk E G (C + 10000 * f) (Herald.tickN E en f h) ∧ dueR E en (Herald.tickN E en f h).rs = none ∧ (Herald.tickN E en f h).last = h.last := by
  intro f
  induction f with
  | zero =>
    intro C h H hn hm
    refine ⟨H.mono (by simp), ?_, rfl⟩
    show dueR E en h.rs = none
    cases hd : dueR E en h.rs with
    | none => rfl
    | some r =>
      obtain ⟨hr, h1, _⟩ := dueR_some hd
      have h3 : ∀ (l : List RT), r ∈ l → 1 ≤ msR E en l := by
        intro l
        induction l with
        | nil => intro h; cases h
        | cons y l ih =>
          intro h
          simp only [msR, List.map_cons, List.sum_cons] at ih ⊢
          rcases List.mem_cons.mp h with h | h
          · rw [← h]; omega
          · have := ih h; omega
      have := h3 _ hr
      omega
  | succ f ih =>
    intro C h H hn hm
    unfold Herald.tickN
    cases hd : dueR E en h.rs with
    | none => exact ⟨H.mono (by omega), hd, rfl⟩
    | some r =>
      obtain ⟨hr, h1, h2⟩ := dueR_some hd
      have ht := H.til r hr
      have h0 := H.now0
      have hgo := H.go hE hr false (E.pub r).til (by omega) (by omega) h2 (fun hh => by cases hh)
      have ho := hE.on (E.pub r).til false (h.qs (E.pub r).dev.toNat) r (H.good r hr) (H.qlen _) (fun hh => by cases hh)
      have hms := msR_after (E := E) (en := en) (r := r) (r' := (E.on (E.pub r).til false (h.qs (E.pub r).dev.toNat) r).2.1) (done := (E.on (E.pub r).til false (h.qs (E.pub r).dev.toNat) r).2.2) ho.id h1 (fun hd => (ho.stop hd).2.1) h.rs hr H.nd
      have := ih hgo h1 (Nat.le_of_lt_succ (Nat.lt_of_lt_of_le hms hm))
      refine ⟨this.1.mono ?_, this.2⟩
      push_cast
      omega
theorem HOk.tick {RT : Type} {E : Eng RT} {G : RT → Prop} (hE : EngOk E G) {C : Int} {h : Her RT} (H : HOk E G C h) (n : Int) : HOk E G (C + 50000000) (tickH E h n).2 ∧ (tickH E h n).2.last = h.last := by
  unfold tickH
  split
  · exact ⟨H.mono (by omega), rfl⟩
  · rename_i hn
    have hn1 : 1 ≤ n ∧ n ≤ 999 := by
      by_cases h1 : 1 ≤ n ∧ n ≤ 999
      · exact h1
      · exact absurd (.inl h1) hn
    have h3 : h.now + n ≤ 1000000000 := by omega
    have h0 := H.now0
    have hms : msR E (h.now + n) h.rs ≤ 5000 := by
      have h1 := msR_small (E := E) (en := h.now + n) (t := h.now) 1000 (by omega) h.rs (fun r hr => (H.til r hr).1)
      have h2 := H.len
      have : h.rs.length * 1000 ≤ 5 * 1000 := Nat.mul_le_mul_right _ h2
      omega
    obtain ⟨k1, k2, k3⟩ := HOk.tickN hE (h.now + n) h3 5000 H (by omega) hms
    have hd := dueR_none k2
    exact ⟨⟨by show 0 ≤ h.now + n; omega, h3, k1.last0, k1.qlen, k1.len, k1.dev, fun r hr => by have := k1.sent r hr; omega, fun r hr => ⟨by show h.now + n ≤ _; have := hd r hr; omega, (k1.til r hr).2⟩, k1.id, k1.good, k1.nd⟩, k3⟩
theorem HOk.ack {RT : Type} {E : Eng RT} {G : RT → Prop} (hE : EngOk E G) {C : Int} {h : Her RT} (H : HOk E G C h) (id num : Int) : HOk E G (C + 10000) (ackH E h id num).2 := by
  have hm := H.mono (D := C + 10000) (by omega)
  unfold ackH
  cases hf : findR E h.rs id with
  | none => exact hm
  | some r =>
    have hr : r ∈ h.rs := List.mem_of_find?_eq_some hf
    simp only
    split
    · exact hm
    · rename_i hn
      split
      · exact hm
      · have hz : (E.pub r).num ≠ 0 := fun hh => hn (by
          by_cases h0 : num = 0
          · exact .inl h0
          · right; rw [hh]; exact fun e => h0 e.symm)
        exact H.go hE hr true h.now H.now0 H.now1 (fun y hy => (H.til y hy).1) (fun _ => hz)
theorem HOk.cancel {RT : Type} {E : Eng RT} {G : RT → Prop} {C : Int} {h : Her RT} (H : HOk E G C h) (id : Int) : HOk E G C (cancelH E h id).2 := by
  unfold cancelH
  cases hf : findR E h.rs id with
  | none => exact H
  | some r =>
    have sub : ∀ y ∈ h.rs.filter (fun y => (E.pub y).id != id), y ∈ h.rs := fun y hy => (List.mem_filter.mp hy).1
    exact ⟨H.now0, H.now1, H.last0, updQ_len H.qlen (Nat.le_trans (List.length_filter_le _ _) (H.qlen _)), Nat.le_trans (List.length_filter_le _ _) H.len, fun y hy => H.dev y (sub y hy), fun y hy => H.sent y (sub y hy), fun y hy => H.til y (sub y hy), fun y hy => H.id y (sub y hy), fun y hy => H.good y (sub y hy), H.nd.filter _⟩
theorem HOk.drain {RT : Type} {E : Eng RT} {G : RT → Prop} {C : Int} {h : Her RT} (H : HOk E G C h) (dev : Int) : HOk E G C (drainH h dev).2.2 := by
  unfold drainH
  split
  · exact H
  · cases hq : h.qs dev.toNat with
    | nil => exact H
    | cons m r =>
      have := H.qlen dev.toNat
      rw [hq] at this
      simp at this
      exact ⟨H.now0, H.now1, H.last0, updQ_len H.qlen (by omega), H.len, H.dev, H.sent, H.til, H.id, H.good, H.nd⟩
theorem trig_last {RT : Type} {E : Eng RT} {h : Her RT} (dev : Int) : (trigH E h dev).2.2.last ≤ h.last + 1 := by
  unfold trigH
  split
  · show h.last ≤ _; omega
  · split
    · show h.last ≤ _; omega
    · exact Int.le_refl _
theorem ack_last {RT : Type} {E : Eng RT} {h : Her RT} (id num : Int) : (ackH E h id num).2.last = h.last := by
  unfold ackH
  cases findR E h.rs id with
  | none => rfl
  | some r => simp only; repeat' split
              all_goals rfl
theorem cancel_last {RT : Type} {E : Eng RT} {h : Her RT} (id : Int) : (cancelH E h id).2.last = h.last := by
  unfold cancelH
  cases findR E h.rs id with
  | none => rfl
  | some r => rfl
theorem drain_last {RT : Type} {h : Her RT} (dev : Int) : (drainH h dev).2.2.last = h.last := by
  unfold drainH
  split
  · rfl
  · split <;> rfl
end Go.Proofs.Herald
namespace Go.Proofs.YtmmmnghiegajmabGreat
open Go.RowKit Go.Proofs.Herald
theorem rn_get {w : World} {B g cap k : Nat} {l : List Rn} (h : w.ownsRow B 99 5 (.slice (some ⟨g, 0, none⟩) l.length cap) l.length (rnsCells l)) (hk : k < l.length) :
    w.cell? ⟨g, k * 5, none⟩ = some (.int .i64 l[k].id) ∧ w.cell? ⟨g, k * 5 + 1, none⟩ = some (.int .i64 l[k].dev) ∧ w.cell? ⟨g, k * 5 + 2, none⟩ = some (.int .i64 l[k].sent) ∧ w.cell? ⟨g, k * 5 + 3, none⟩ = some (.int .i64 l[k].til) ∧ w.cell? ⟨g, k * 5 + 4, none⟩ = some (.int .i64 l[k].num) := by
  have hget : ∀ (l : List Rn) (k : Nat) (hk : k < l.length) (j : Nat), j < 5 → (rnsCells l)[k * 5 + j]? = (rnCells l[k])[j]? := by
    intro l
    induction l with
    | nil => intro k hk; simp at hk
    | cons x l ih =>
      intro k hk j hj
      unfold rnsCells at ih ⊢
      rw [List.flatMap_cons]
      cases k with
      | zero =>
        rw [List.getElem?_append_left (by simp [rnCells]; omega)]
        simp
      | succ k =>
        rw [List.getElem?_append_right (by simp [rnCells]; omega), show (k + 1) * 5 + j - (rnCells x).length = k * 5 + j from by simp [rnCells]; omega, ih k (by simpa using hk) j hj]
        simp
  have get : ∀ j u, j < 5 → (rnCells l[k])[j]? = some u → w.cell? ⟨g, k * 5 + j, none⟩ = some u := fun j u hj hu => (own_get h (k * 5 + j) u (by rw [hget l k hk j hj]; exact hu)).1
  exact ⟨get 0 _ (by omega) rfl, get 1 _ (by omega) rfl, get 2 _ (by omega) rfl, get 3 _ (by omega) rfl, get 4 _ (by omega) rfl⟩
open Go.RowKit Go.Proofs.Herald
open Go.RowKit Go.Proofs.Herald
open Go.RowKit Go.Proofs.Herald
open Go.RowKit Go.Proofs.Herald
open Go.RowKit Go.Proofs.Herald
end Go.Proofs.YtmmmnghiegajmabGreat
/- The program's herald in a game: what it keeps from call to call. -/
namespace Go.Proofs.YtmmmnghiegajmabGreat
open Go.RowKit Go.Proofs.Herald
/-- A herald's own memory. -/
structure HS where
  code : Value
  jr : Value
  rv : Value
  qv : Nat → Value
  n : Nat
def HS.own (s : HS) (H k : Nat) : Prop := ownF H s.code s.jr s.rv s.qv k
/-- A herald of sound code, behind i calls. -/
structure GA (cs : List Ins) (i : Nat) (h : Her Pr) (w : World) (H : Nat) (s : HS) : Prop where
  fh : FH w H cs h s.code s.jr s.rv s.qv s.n
  n : s.n ≤ 19 * i
  snd : soundL cs = true
  ok : HOk (machE cs) (goodM cs) (50000000 * i) h
  qs : QsOk h
  last : h.last ≤ i
/-- Behind one call more. -/
def GNext (cs : List Ins) (i : Nat) (h' : Her Pr) (w : World) (H : Nat) (s : HS) (w' : World) : Prop :=
  ∃ s', GA cs (i + 1) h' w' H s' ∧ (∀ k, s'.own H k → s.own H k ∨ w.heap.size ≤ k) ∧ Fr (s.own H) w w'
theorem GA.eng {cs : List Ins} {i : Nat} {h : Her Pr} {w : World} {H : Nat} {s : HS} (g : GA cs i h w H s) : EngOk (machE cs) (goodM cs) := (codeE_ok g.snd).same (mach_same g.snd) (fun _ _ => rfl)
theorem GA.mok {cs : List Ins} {i : Nat} {h : Her Pr} {w : World} {H : Nat} {s : HS} (g : GA cs i h w H s) (hi : i ≤ 2000000) : MOk cs (50000000 * i) h :=
  ⟨g.snd, g.eng, g.ok, g.qs, by omega, by have := g.last; omega⟩
theorem GA.keep {cs : List Ins} {i : Nat} {h : Her Pr} {w w' : World} {H : Nat} {s : HS} (g : GA cs i h w H s) (hk : ∀ k, s.own H k → w'.heap[k]? = w.heap[k]?) : GA cs i h w' H s := ⟨g.fh.keep hk, g.n, g.snd, g.ok, g.qs, g.last⟩
theorem GA.below {cs : List Ins} {i : Nat} {h : Her Pr} {w w' : World} {H : Nat} {s : HS} (g : GA cs i h w H s) (hb : Below w.heap.size w w') : GA cs i h w' H s := ⟨g.fh.below hb, g.n, g.snd, g.ok, g.qs, g.last⟩
theorem GA.lt {cs : List Ins} {i : Nat} {h : Her Pr} {w : World} {H : Nat} {s : HS} (g : GA cs i h w H s) {k : Nat} (hk : s.own H k) : k < w.heap.size := g.fh.lt hk
theorem GNext.of {cs : List Ins} {i : Nat} {h h' : Her Pr} {w w' : World} {H : Nat} {s : HS} (g : GA cs i h w H s) (ho : FHOut w w' H cs h' s.code s.jr s.rv s.qv (s.n + 19)) (hk : HOk (machE cs) (goodM cs) (50000000 * (i + 1 : Nat)) h') (hq : QsOk h') (hl : h'.last ≤ (i + 1 : Nat)) : GNext cs i h' w H s w' := by
  obtain ⟨⟨jr', rv', qv', n', h1, h2, h3⟩, h4⟩ := ho
  have := g.n
  exact ⟨⟨s.code, jr', rv', qv', n'⟩, ⟨h2, by show n' ≤ _; omega, g.snd, hk, hq, hl⟩, h3, h4⟩
/-- A new herald. -/
theorem GA.new {cs : List Ins} {w : World} {H : Nat} {v : Value} (hs : soundL cs = true) (hH : w.heap[H]? = some (.cells (newHd v) 75 (0, 0))) (hv : w.ownsRow 0 117 4 v cs.length (codeCells cs)) : GA cs 0 newH w H ⟨v, .slice none 0 0, .slice none 0 0, fun _ => .slice none 0 0, 0⟩ :=
  ⟨⟨⟨⟨hH, fun d _ => World.ownsRow_nil _ _ _ _, fun d _ => by simp [newH], fun d e b _ _ hb => (by cases hb), World.ownsRow_nil _ _ _ _, fun p hp => (by simp [newH] at hp)⟩, hv⟩, [], rfl, World.ownsRow_nil _ _ _ _⟩, Nat.zero_le _, hs, (HOk.new _ _).mono (by simp), QsOk.new, by simp [newH]⟩
/-- Behind at most m calls, seen from an earlier time. -/
def GTo (cs : List Ins) (m : Nat) (h : Her Pr) (w0 : World) (H : Nat) (s0 : HS) (w : World) : Prop :=
  ∃ i s, i ≤ m ∧ GA cs i h w H s ∧ (∀ k, s.own H k → s0.own H k ∨ w0.heap.size ≤ k) ∧ Fr (s0.own H) w0 w
theorem GA.tow {cs : List Ins} {i : Nat} {h : Her Pr} {w : World} {H : Nat} {s : HS} (g : GA cs i h w H s) : GTo cs i h w H s w := ⟨i, s, Nat.le_refl _, g, fun _ hk => .inl hk, Fr.refl _ _⟩
theorem GTo.below {cs : List Ins} {m : Nat} {h : Her Pr} {w0 : World} {H : Nat} {s0 : HS} {w w' : World} (g : GTo cs m h w0 H s0 w) (hb : Below w.heap.size w w') : GTo cs m h w0 H s0 w' := by
  obtain ⟨i, s, h1, h2, h3, h4⟩ := g
  exact ⟨i, s, h1, h2.below hb, h3, h4.trans ((Fr.of_below hb).mono fun k hk hs => by omega)⟩
theorem GTo.next {cs : List Ins} {m : Nat} {h' : Her Pr} {w0 : World} {H : Nat} {s0 : HS} {w w' : World} {i : Nat} {s : HS} (hi : i ≤ m) (h3 : ∀ k, s.own H k → s0.own H k ∨ w0.heap.size ≤ k) (h4 : Fr (s0.own H) w0 w) (n : GNext cs i h' w H s w') : GTo cs (m + 1) h' w0 H s0 w' := by
  obtain ⟨s', g', o', f'⟩ := n
  refine ⟨i + 1, s', by omega, g', fun k hk => ?_, Fr.wide h4 (f'.mono fun k _ hk => h3 k hk)⟩
  rcases o' k hk with h5 | h5
  · exact h3 k h5
  · exact .inr (Nat.le_trans h4.size h5)
theorem GTo.len {cs : List Ins} {m : Nat} {h : Her Pr} {w0 : World} {H : Nat} {s0 : HS} {w : World} (g : GTo cs m h w0 H s0 w) : h.rs.length ≤ 5 := by
  obtain ⟨i, s, _, h2, _⟩ := g
  exact h2.ok.len
theorem t_Show {cs : List Ins} {m : Nat} {h : Her Pr} {w0 : World} {H : Nat} {s0 : HS} (w : World) (g : GTo cs m h w0 H s0 w) :
    Calls Tryz.prog 11 #[.pointer (some ⟨H, 0, none⟩)] w fun e w' => ∃ sv uv, e = .returned (.agg #[.int .i64 h.now, sv, uv]) ∧ w'.ownsRow w.heap.size 99 5 sv h.rs.length (rnsCells (h.rs.map pubP)) ∧ w'.ownsRow w.heap.size 29 4 uv (h.qs 0 ++ h.qs 1 ++ h.qs 2).length (msgsCells (h.qs 0 ++ h.qs 1 ++ h.qs 2)) ∧ Below w.heap.size w w' := by
  have hl := g.len
  obtain ⟨i, s, h1, h2, h3, h4⟩ := g
  exact f_Show H cs h s.code s.jr s.rv s.qv s.n w h2.fh (by omega)
end Go.Proofs.YtmmmnghiegajmabGreat
/- The records, exactly: eight bytes of a number, the check of bytes. -/
namespace Go.Proofs.Herald
open Go
/-- One bit of the division; eight; a byte; bytes. -/
def crcBit (r : Nat) : Nat := if 65535 < 2 * r then (2 * r) ^^^ 69665 else 2 * r
def crcBits : Nat → Nat → Nat
  | 0, r => r
  | k + 1, r => crcBit (crcBits k r)
def crcByte (r b : Nat) : Nat := crcBits 8 (r ^^^ (256 * b))
def crcL (bs : List Nat) : Nat := bs.foldl crcByte 65535
theorem xor_top {x : Nat} (h : 65536 ≤ x) (h2 : x < 131072) : x ^^^ 69665 < 65536 := by
  have e : 65536 = 2 ^ 16 := rfl
  rw [e]
  refine Nat.lt_pow_two_of_testBit _ fun i hi => ?_
  rw [Nat.testBit_xor]
  by_cases h16 : i = 16
  · subst h16
    have h3 : x.testBit 16 = true := by
      rw [Nat.testBit_eq_decide_div_mod_eq]
      have : x / 2 ^ 16 % 2 = 1 := by omega
      simpa using this
    have h4 : (69665 : Nat).testBit 16 = true := by decide
    rw [h3, h4]
    rfl
  · have h17 : 2 ^ 17 ≤ 2 ^ i := Nat.pow_le_pow_right (Nat.le_succ 1) (Nat.lt_of_le_of_ne hi fun e => h16 e.symm)
    have h3 : x.testBit i = false := Nat.testBit_lt_two_pow (Nat.lt_of_lt_of_le (show x < 2 ^ 17 from h2) h17)
    have h4 : (69665 : Nat).testBit i = false := Nat.testBit_lt_two_pow (Nat.lt_of_lt_of_le (show 69665 < 2 ^ 17 from by decide) h17)
    rw [h3, h4]
    rfl
theorem crcBit_lt {r : Nat} (h : r < 65536) : crcBit r < 65536 := by
  unfold crcBit
  split
  · exact xor_top (by omega) (by omega)
  · omega
theorem crcBits_lt : ∀ (k : Nat) {r : Nat}, r < 65536 → crcBits k r < 65536
  | 0, _, h => h
  | k + 1, _, h => crcBit_lt (crcBits_lt k h)
theorem xor16 {a b : Nat} (ha : a < 65536) (hb : b < 65536) : a ^^^ b < 65536 := Nat.xor_lt_two_pow (n := 16) ha hb
theorem crcByte_eq (r b : Nat) : crcByte r b = crcBits 8 (r ^^^ (256 * b)) := by unfold crcByte; rfl
theorem crcByte_lt {r b : Nat} (h : r < 65536) (hb : b < 256) : crcByte r b < 65536 := by
  rw [crcByte_eq]
  exact crcBits_lt 8 (xor16 h (by omega))
theorem crcL_lt : ∀ (bs : List Nat) {r : Nat}, r < 65536 → (∀ b ∈ bs, b < 256) → bs.foldl crcByte r < 65536
  | [], _, h, _ => h
  | b :: l, _, h, hb => by
    rw [List.foldl_cons]
    exact crcL_lt l (crcByte_lt h (hb b (List.mem_cons_self ..))) fun c hc => hb c (List.mem_cons_of_mem _ hc)
/-- Byte k of eight, the high one first. -/
def byteR (n : Int) (k : Nat) : Int := n / 2 ^ (56 - 8 * k) % 256
def eightR (n : Int) : List Int := (List.range 8).map (byteR n)
theorem i64_xor_nat (a b : Nat) (ha : a < 4611686018427387904) (hb : b < 4611686018427387904) : bits .xor .i64 (a : Int) (b : Int) = ((a ^^^ b : Nat) : Int) := by
  have hx : a ^^^ b < 2 ^ 62 := Nat.xor_lt_two_pow (by omega) (by omega)
  have h1 : (BitVec.ofInt 64 (a : Int)).toNat = a := by
    rw [BitVec.ofInt_natCast, BitVec.toNat_ofNat]; exact Nat.mod_eq_of_lt (by omega)
  have h2 : (BitVec.ofInt 64 (b : Int)).toNat = b := by
    rw [BitVec.ofInt_natCast, BitVec.toNat_ofNat]; exact Nat.mod_eq_of_lt (by omega)
  show IntKind.i64.wrap ((BitVec.ofInt 64 (a : Int) ^^^ BitVec.ofInt 64 (b : Int)).toNat : Int) = _
  rw [BitVec.toNat_xor, h1, h2, IntKind.wrap_i64]
  omega
end Go.Proofs.Herald
namespace Go.Proofs.YtmmmnghiegajmabGreat
open Go.RowKit Go.Proofs.Herald
theorem eight_snoc (n : Int) (k : Nat) : bytesV ((List.range (k + 1)).map (byteR n)) = bytesV ((List.range k).map (byteR n)) ++ [.int .u8 (byteR n k)] := by
  rw [List.range_succ, List.map_append, bytesV_append]
  rfl
set_option maxRecDepth 20000 in
set_option maxHeartbeats 4000000 in
theorem x_eight (n : Int) (w : World) :
    Calls Tryz.prog 67 #[.int .i64 n] w fun e w' => ∃ v, e = .returned v ∧ w'.ownsRow w.heap.size 5 1 v 8 (bytesV (eightR n)) ∧ Below w.heap.size w w' := by
  go_enter Tryz.func67, Tryz.ntmps67
  go_wp2_with fail
  go_loopw [3, 4] (fun v i wr => ∃ k : Nat, k ≤ 8 ∧ i = .int .i64 (56 - 8 * (k : Int)) ∧ Hid (wr.ownsRow w.heap.size 5 1 v k (bytesV ((List.range k).map (byteR n)))) ∧ Hid (Below w.heap.size w wr)) (fun _ i _ => (intOf i + 8).toNat)
  case atStart => exact ⟨0, by omega, rfl, World.ownsRow_nil _ _ _ _, Below.refl _ _⟩
  case round =>
    obtain ⟨k, hk, rfl, HV, HB⟩ := hrel
    by_cases hlt : k < 8
    · have h0 : (0 : Int) ≤ 56 - 8 * (k : Int) := by omega
      have h1 : 56 - 8 * (k : Int) ≤ 56 := by omega
      obtain ⟨s, hs⟩ : ∃ s : Nat, 56 - 8 * (k : Int) = (s : Nat) := ⟨(56 - 8 * (k : Int)).toNat, by omega⟩
      have hs1 : s ≤ 56 := by omega
      have HSK : Hid ((s : Int) - 8 = 56 - 8 * ((k + 1 : Nat) : Int) ∧ s = 56 - 8 * k) := by exact ⟨by omega, by omega⟩
      rw [hs] at *
      clear h0 h1 hs
      go_wp2_with (at_builtin; refine wpList_append_keep _ rfl (.tmp 9) (.tmp 14) 73 rfl 5 _ 1 1 Tryz.underlying73 Tryz.infoByte rfl (by decide) (by decide) u3 k 1 (bytesV ((List.range k).map (byteR n))) wr.heap.size [_] (by rfl) (by exact (own0 HV.out).alloc _) (by exact heap_alloc_new _ _) (by rfl) rfl (by simp [Value.oneCell']) (by decide) (by omega) ?_)
      intro v2 w2 hown2 ha2
      have hab := appended_below (w0 := w) (B := w.heap.size) (HB.out.alloc HB.out.size _) (by have := HB.out.size; simp; omega) (HV.out.alloc _) hown2 ha2
      have HV2 : Hid (w2.ownsRow w.heap.size 5 1 v2 (k + 1) (bytesV ((List.range (k + 1)).map (byteR n)))) := by
        show World.ownsRow _ _ _ _ _ _ _
        rw [eight_snoc]
        have e : byteR n k = n / 2 ^ s % 256 := by unfold byteR; rw [HSK.out.2]
        rw [e]
        first
          | exact hab.2
          | simpa using hab.2
      have HB2 : Hid (Below w.heap.size w w2) := hab.1
      clear hown2 ha2 hab
      go_wp2_with fail
      go_roundw
      case rel => exact ⟨k + 1, by omega, by rw [← HSK.out.1], HV2, HB2⟩
      case measure => simp [intOf]; omega
    · obtain rfl : k = 8 := by omega
      obtain ⟨av, cv, hvv⟩ := ownsRow_slice HV.out
      subst hvv
      go_wp2_with fail
      go_ret
      exact ⟨_, rfl, HV.out, HB.out⟩
theorem crcL_step (xs : List Nat) (k : Nat) (hk : k < xs.length) : (xs.take (k + 1)).foldl crcByte 65535 = crcByte ((xs.take k).foldl crcByte 65535) xs[k] := by
  rw [List.take_succ_eq_append_getElem hk, List.foldl_append, List.foldl_cons, List.foldl_nil]
def natsI (xs : List Nat) : List Int := xs.map fun (x : Nat) => ((x : Nat) : Int)
set_option maxRecDepth 20000 in
set_option maxHeartbeats 4000000 in
theorem x_check (a : Option Addr) (cap : Nat) (xs : List Nat) (w : World) (h : w.ownsRow 0 5 1 (.slice a xs.length cap) xs.length (bytesV (natsI xs))) (hx : ∀ x ∈ xs, x < 256) (hn : xs.length ≤ 1000) :
    Calls Tryz.prog 68 #[.slice a xs.length cap] w fun e w' => e = .returned (.int .i64 (crcL xs : Nat)) ∧ SameH w w' := by
  have HO : Hid (w.ownsRow 0 5 1 (.slice a xs.length cap) xs.length (bytesV (natsI xs)) ∧ ∀ x ∈ xs, x < 256) := ⟨h, hx⟩
  clear h hx
  go_enter Tryz.func68, Tryz.ntmps68
  go_wp2_with fail
  go_loopw [3, 9] (fun r i wr => ∃ k : Nat, k ≤ xs.length ∧ i = .int .i64 k ∧ r = .int .i64 ((xs.take k).foldl crcByte 65535 : Nat) ∧ Hid (SameH w wr)) (fun _ i _ => xs.length - (intOf i).toNat)
  case atStart => exact ⟨0, Nat.zero_le _, rfl, rfl, SameH.refl _⟩
  case round =>
    obtain ⟨k, hk, rfl, rfl, HS⟩ := hrel
    have hrl : (xs.take k).foldl crcByte 65535 < 65536 := crcL_lt _ (by decide) fun b hb => HO.out.2 b (List.mem_of_mem_take hb)
    by_cases hlt : k < xs.length
    · obtain ⟨g, cap', hv, _, _⟩ := HO.out.1.form (by omega)
      simp at hv
      obtain ⟨rfl, rfl⟩ := hv
      have e0 := (own_get HO.out.1 k (.int .u8 (xs[k] : Nat)) (by simp [bytesV, natsI, hlt])).1
      rw [← HS.out.cell] at e0
      have hb := HO.out.2 _ (List.getElem_mem hlt)
      have HST : Hid ((xs.take (k + 1)).foldl crcByte 65535 = crcBits 8 ((xs.take k).foldl crcByte 65535 ^^^ (256 * xs[k]))) := by
        show _ = _
        rw [crcL_step xs k hlt, crcByte_eq]
      generalize xs[k] = b at *
      generalize (xs.take k).foldl crcByte 65535 = r at *
      have HX : Hid (Go.bits .xor .i64 (r : Int) ((b : Int) * 256) = ((r ^^^ (256 * b) : Nat) : Int)) := by
        have e : (b : Int) * 256 = ((256 * b : Nat) : Int) := by push_cast; omega
        show _ = _
        rw [e]
        exact i64_xor_nat r (256 * b) (by omega) (by omega)
      have hz : r ^^^ (256 * b) < 65536 := xor16 hrl (by omega)
      go_wp2_with fail
      rw [HX.out]
      clear HX
      generalize r ^^^ (256 * b) = z at *
      go_loopw [3, 6] (fun r i wr2 => ∃ j : Nat, j ≤ 8 ∧ i = .int .i64 j ∧ r = .int .i64 (crcBits j z : Nat) ∧ Hid (SameH w wr2)) (fun _ i _ => 8 - (intOf i).toNat)
      case atStart => exact ⟨0, Nat.zero_le _, rfl, rfl, HS⟩
      case round =>
        obtain ⟨j, hj, rfl, rfl, HT⟩ := hrel
        have hx1 : crcBits j z < 65536 := crcBits_lt j hz
        by_cases hj8 : j < 8
        · have HC : Hid (crcBits (j + 1) z = if 65535 < 2 * crcBits j z then (2 * crcBits j z) ^^^ 69665 else 2 * crcBits j z) := by
            show crcBit (crcBits j z) = _
            unfold crcBit
            rfl
          generalize crcBits j z = x at *
          by_cases hc : 65535 < 2 * x
          · have hc2 : decide ((65535 : Int) < (x : Int) * 2) = true := decide_eq_true (by omega)
            have HXB : Hid (Go.bits .xor .i64 ((x : Int) * 2) 69665 = ((crcBits (j + 1) z : Nat) : Int)) := by
              have e : (x : Int) * 2 = ((2 * x : Nat) : Int) := by push_cast; omega
              show _ = _
              rw [HC.out, if_pos hc, e]
              exact i64_xor_nat (2 * x) 69665 (by omega) (by omega)
            clear hc
            go_wp2_with fail
            go_roundw
            case rel => exact ⟨j + 1, by omega, by go_num, by rw [HXB.out], HT⟩
            case measure => simp [intOf]; omega
          · have hc2 : decide ((65535 : Int) < (x : Int) * 2) = false := decide_eq_false (by omega)
            have HXB : Hid ((x : Int) * 2 = ((crcBits (j + 1) z : Nat) : Int)) := by
              show _ = _
              rw [HC.out, if_neg hc]
              push_cast
              omega
            clear hc
            go_wp2_with fail
            go_roundw
            case rel => exact ⟨j + 1, by omega, by go_num, by rw [HXB.out], HT⟩
            case measure => simp [intOf]; omega
        · obtain rfl : j = 8 := by omega
          go_wp2_with fail
          go_roundw
          case rel => exact ⟨k + 1, by omega, by go_num, by rw [HST.out], HT⟩
          case measure => simp [intOf]; omega
    · have e : xs.take k = xs := List.take_of_length_le (by omega)
      rw [e]
      go_wp2_with fail
      go_ret
      exact ⟨rfl, HS.out⟩
end Go.Proofs.YtmmmnghiegajmabGreat
/- The records, exactly: a whole record is written. -/
namespace Go.Proofs.Herald
def eightN (n : Int) : List Nat := (List.range 8).map fun k => (byteR n k).toNat
def bodyB (c : Nat) (a b : Int) : List Nat := c :: (eightN a ++ eightN b)
def recB (c : Nat) (a b : Int) : List Nat := bodyB c a b ++ [crcL (bodyB c a b) / 256, crcL (bodyB c a b) % 256]
theorem byteR_bd (n : Int) (k : Nat) : 0 ≤ byteR n k ∧ byteR n k < 256 := by
  unfold byteR
  omega
theorem eightN_len (n : Int) : (eightN n).length = 8 := by unfold eightN; rw [List.length_map, List.length_range]
theorem bodyB_len (c : Nat) (a b : Int) : (bodyB c a b).length = 17 := by unfold bodyB; rw [List.length_cons, List.length_append, eightN_len, eightN_len]
theorem recB_len (c : Nat) (a b : Int) : (recB c a b).length = 19 := by unfold recB; rw [List.length_append, bodyB_len]; rfl
theorem eightN_lt (n : Int) : ∀ x ∈ eightN n, x < 256 := fun x hx => by
  obtain ⟨k, _, rfl⟩ := List.mem_map.mp hx
  have := byteR_bd n k
  omega
theorem bodyB_lt {c : Nat} (hc : c < 256) (a b : Int) : ∀ x ∈ bodyB c a b, x < 256 := fun x hx => by
  rcases List.mem_cons.mp hx with rfl | hx
  · exact hc
  · rcases List.mem_append.mp hx with hx | hx
    · exact eightN_lt a x hx
    · exact eightN_lt b x hx
end Go.Proofs.Herald
namespace Go.Proofs.YtmmmnghiegajmabGreat
open Go.RowKit Go.Proofs.Herald
theorem eightN_int (n : Int) : natsI (eightN n) = eightR n := by
  unfold natsI eightN eightR
  rw [List.map_map]
  refine List.map_congr_left fun k _ => ?_
  have := byteR_bd n k
  simp only [Function.comp]
  omega
theorem natsI_append (a b : List Nat) : natsI (a ++ b) = natsI a ++ natsI b := List.map_append ..
theorem bodyB_int (c : Nat) (a b : Int) : natsI (bodyB c a b) = [(c : Int)] ++ eightR a ++ eightR b := by
  rw [← eightN_int, ← eightN_int, List.append_assoc, ← natsI_append]
  rfl
theorem recB_int (c : Nat) (a b : Int) : natsI (recB c a b) = natsI (bodyB c a b) ++ [((crcL (bodyB c a b) : Nat) : Int) / 256, ((crcL (bodyB c a b) : Nat) : Int) % 256] := by
  unfold recB
  rw [natsI_append]
  congr 1
set_option maxRecDepth 20000 in
set_option maxHeartbeats 4000000 in
theorem x_write (c : Nat) (hc : c < 256) (a b : Int) (w : World) :
    Calls Tryz.prog 49 #[.agg #[.int .u8 (c : Nat), .int .i64 a, .int .i64 b]] w fun e w' => ∃ v, e = .returned v ∧ w'.ownsRow w.heap.size 5 1 v 19 (bytesV (natsI (recB c a b))) ∧ Below w.heap.size w w' := by
  have HE : Hid (∀ (n : Int) (W : World), Calls Tryz.prog 67 #[.int .i64 n] W fun e w' => ∃ v, e = .returned v ∧ w'.ownsRow W.heap.size 5 1 v 8 (bytesV (eightR n)) ∧ Below W.heap.size W w') := fun n W => x_eight n W
  have HCC : Hid (c < 256) := hc
  clear hc
  go_enter Tryz.func49, Tryz.ntmps49
  go_wp2_with fail
  obtain ⟨W0, hW0⟩ : ∃ W0, W0 = (w.alloc (.cells #[.int .u8 (c : Nat), .int .i64 a, .int .i64 b] 89)).alloc (.cells #[.int .u8 (c : Nat)] 5) := ⟨_, rfl⟩
  have HB0 : Hid (Below w.heap.size w W0 ∧ W0.heap[w.heap.size]? = some (.cells #[.int .u8 (c : Nat), .int .i64 a, .int .i64 b] 89 (0, 0)) ∧ W0.ownsRow w.heap.size 5 1 (.slice (some ⟨w.heap.size + 1, 0, none⟩) 1 1) 1 (bytesV [(c : Int)])) := by
    rw [hW0]
    refine ⟨((Below.refl _ _).alloc (Nat.le_refl _) _).alloc (by simp) _, ?_, rfl, .inr ⟨w.heap.size + 1, 1, #[.int .u8 (c : Nat)], rfl, by omega, heap_alloc2 _ _ _, by omega, by unfold maxLen; omega, by rfl, by rfl⟩⟩
    rw [Below.heap_alloc _ _ _ (by simp)]
    exact heap_alloc_new _ _
  rw [← hW0]
  refine (HE.out a W0).mono ?_
  rintro e w1 ⟨v1, rfl, ho1, hb1⟩
  obtain ⟨x1, hx1⟩ : ∃ x1, x1 = eightR a := ⟨_, rfl⟩
  rw [← hx1] at ho1
  have hl1 : x1.length = 8 := by rw [hx1]; rfl
  have HX1 : Hid (x1 = eightR a) := hx1
  clear hx1
  obtain ⟨a1, cap1, hv1⟩ := ownsRow_slice ho1
  subst hv1
  have HS1 : Hid (SrcAt w1 a1 8 (bytesV x1) ∧ x1.length = 8) := ⟨src_own (own0 ho1), hl1⟩
  have H1 : Hid (Below w.heap.size w w1 ∧ w1.heap[w.heap.size]? = some (.cells #[.int .u8 (c : Nat), .int .i64 a, .int .i64 b] 89 (0, 0)) ∧ w1.ownsRow w.heap.size 5 1 (.slice (some ⟨w.heap.size + 1, 0, none⟩) 1 1) 1 (bytesV [(c : Int)])) :=
    ⟨HB0.out.1.trans (hb1.mono HB0.out.1.size), (hb1.block _ (heap_lt HB0.out.2.1)).trans HB0.out.2.1, own_stays HB0.out.2.2 fun k hk => hb1.block k (by obtain ⟨_, cur, hc⟩ := ownsRow_lies HB0.out.2.2 hk; exact heap_lt hc)⟩
  clear ho1 hb1 hW0 hl1
  go_wp2_with (at_builtin; refine wpList_append_src _ rfl (.tmp 13) (.tmp 14) 73 rfl 5 _ 1 1 Tryz.underlying73 Tryz.infoByte rfl (by decide) (by decide) (.slice (some ⟨w.heap.size + 1, 0, none⟩) 1 1) 1 (bytesV [(c : Int)]) a1 8 cap1 (bytesV x1) (by rfl) (by exact own0 H1.out.2.2) (by rfl) HS1.out.1 (by rw [bytesV_len, HS1.out.2]) (bytesV_one _) (by omega) ?_)
  intro v2 w2 hown2 ha2
  have hab2 := appended_below (w0 := w) (B := w.heap.size) H1.out.1 H1.out.1.size H1.out.2.2 hown2 ha2
  have hcall2 : w2.heap[w.heap.size]? = some (.cells #[.int .u8 (c : Nat), .int .i64 a, .int .i64 b] 89 (0, 0)) := by
    rcases ha2 with ⟨g, cap, e1, _, hg⟩ | ⟨_, hg⟩
    · rw [hg.block _ (heap_lt H1.out.2.1) (fun e => by simp at e1; have e2 : g = w.heap.size := by simpa using e.symm
                                                       omega)]
      exact H1.out.2.1
    · rw [hg.block _ (heap_lt H1.out.2.1) (by simp)]; exact H1.out.2.1
  obtain ⟨a2, cap2, hv2⟩ := ownsRow_slice hown2
  subst hv2
  have H2 : Hid (Below w.heap.size w w2 ∧ w2.heap[w.heap.size]? = some (.cells #[.int .u8 (c : Nat), .int .i64 a, .int .i64 b] 89 (0, 0)) ∧ w2.ownsRow w.heap.size 5 1 (.slice a2 9 cap2) 9 (bytesV ([(c : Int)] ++ x1))) := ⟨hab2.1, hcall2, by rw [bytesV_append]; exact hab2.2⟩
  obtain ⟨k0, k1, k2, _⟩ := cells3 hcall2
  clear hown2 ha2 hab2 hcall2
  go_wp2_with fail
  refine (HE.out b w2).mono ?_
  rintro e w3 ⟨v3, rfl, ho3, hb3⟩
  obtain ⟨x3, hx3⟩ : ∃ x3, x3 = eightR b := ⟨_, rfl⟩
  rw [← hx3] at ho3
  have hl3 : x3.length = 8 := by rw [hx3]; rfl
  have HX3 : Hid (x3 = eightR b) := hx3
  clear hx3
  obtain ⟨a3, cap3, hv3⟩ := ownsRow_slice ho3
  subst hv3
  have HS3 : Hid (SrcAt w3 a3 8 (bytesV x3) ∧ x3.length = 8) := ⟨src_own (own0 ho3), hl3⟩
  have H3 : Hid (Below w.heap.size w w3 ∧ w3.ownsRow w.heap.size 5 1 (.slice a2 9 cap2) 9 (bytesV ([(c : Int)] ++ x1))) :=
    ⟨H2.out.1.trans (hb3.mono H2.out.1.size), own_stays H2.out.2.2 fun k hk => hb3.block k (by obtain ⟨_, cur, hc⟩ := ownsRow_lies H2.out.2.2 hk; exact heap_lt hc)⟩
  clear ho3 hb3 k0 k1 k2 hl3
  go_wp2_with (at_builtin; refine wpList_append_src _ rfl (.tmp 19) (.tmp 20) 73 rfl 5 _ 1 1 Tryz.underlying73 Tryz.infoByte rfl (by decide) (by decide) (.slice a2 9 cap2) 9 (bytesV ([(c : Int)] ++ x1)) a3 8 cap3 (bytesV x3) (by rfl) (by exact own0 H3.out.2) (by rfl) HS3.out.1 (by rw [bytesV_len, HS3.out.2]) (bytesV_one _) (by omega) ?_)
  intro v4 w4 hown4 ha4
  have hab4 := appended_below (w0 := w) (B := w.heap.size) H3.out.1 H3.out.1.size H3.out.2 hown4 ha4
  obtain ⟨a4, cap4, hv4⟩ := ownsRow_slice hown4
  subst hv4
  have H4 : Hid (Below w.heap.size w w4 ∧ w4.ownsRow w.heap.size 5 1 (.slice a4 17 cap4) 17 (bytesV ([(c : Int)] ++ x1 ++ x3))) := ⟨hab4.1, by rw [bytesV_append]; exact hab4.2⟩
  have HL : Hid (([(c : Int)] ++ x1 ++ x3).length = 17) := (by simp [HS1.out.2, HS3.out.2] : ([(c : Int)] ++ x1 ++ x3).length = 17)
  clear hown4 ha4 hab4
  go_wp2_with fail
  have HBD : Hid (natsI (bodyB c a b) = [(c : Int)] ++ x1 ++ x3) := by
    show _ = _
    rw [HX1.out, HX3.out]
    exact bodyB_int c a b
  have HW4 : Hid (w4.ownsRow 0 5 1 (.slice a4 (bodyB c a b).length cap4) (bodyB c a b).length (bytesV (natsI (bodyB c a b)))) := by
    show World.ownsRow _ _ _ _ _ _ _
    rw [HBD.out, bodyB_len]
    exact own0 H4.out.2
  have HK := (show Hid _ from x_check a4 cap4 (bodyB c a b) w4 HW4.out (bodyB_lt HCC.out a b) (by rw [bodyB_len]; omega) : Hid (Calls Tryz.prog 68 #[.slice a4 (bodyB c a b).length cap4] w4 _))
  rw [bodyB_len] at HK
  refine HK.out.mono ?_
  rintro e w5 ⟨rfl, hs5⟩
  have H5 : Hid (Below w.heap.size w w5 ∧ w5.ownsRow w.heap.size 5 1 (.slice a4 17 cap4) 17 (bytesV (natsI (bodyB c a b)))) := ⟨H4.out.1.trans (hs5.below _), by rw [HBD.out]; exact own_stays H4.out.2 fun k _ => by rw [hs5.heap]⟩
  have hrl : crcL (bodyB c a b) < 65536 := crcL_lt _ (by decide) (bodyB_lt HCC.out a b)
  have HRC : Hid (natsI (recB c a b) = natsI (bodyB c a b) ++ [((crcL (bodyB c a b) : Nat) : Int) / 256, ((crcL (bodyB c a b) : Nat) : Int) % 256]) := recB_int c a b
  clear hs5 HK HW4 HBD HX1 HX3 H4 HL
  generalize crcL (bodyB c a b) = r at *
  generalize natsI (bodyB c a b) = ys at *
  have hq : ((r : Nat) : Int) / 256 % 256 = ((r : Nat) : Int) / 256 := by omega
  go_wp2_with (at_builtin; refine wpList_append_keep _ rfl (.tmp 24) (.tmp 30) 73 rfl 5 _ 1 1 Tryz.underlying73 Tryz.infoByte rfl (by decide) (by decide) (.slice a4 17 cap4) 17 2 (bytesV ys) w5.heap.size [_, _] (by rfl) (by exact (own0 H5.out.2).alloc _) (by exact heap_alloc_new _ _) (by rfl) rfl (by simp [Value.oneCell']) (by decide) (by omega) ?_)
  intro v6 w6 hown6 ha6
  have hab6 := appended_below (w0 := w) (B := w.heap.size) (H5.out.1.alloc H5.out.1.size _) (by have := H5.out.1.size; simp; omega) (H5.out.2.alloc _) hown6 ha6
  obtain ⟨a6, cap6, hv6⟩ := ownsRow_slice hown6
  subst hv6
  have H6 : Hid (w6.ownsRow w.heap.size 5 1 (.slice a6 19 cap6) 19 (bytesV (natsI (recB c a b))) ∧ Below w.heap.size w w6) := by
    rw [HRC.out, bytesV_append]
    refine ⟨?_, hab6.1⟩
    first
      | exact hab6.2
      | (rw [← hq]; exact hab6.2)
      | simpa [bytesV] using hab6.2
  clear hown6 ha6 hab6
  go_wp2_with fail
  go_ret
  exact ⟨_, rfl, H6.out.1, H6.out.2⟩
end Go.Proofs.YtmmmnghiegajmabGreat
/- Strings as lists of numbers; a number of eight bytes. -/
namespace Go.Proofs.Herald
open Go
/-- Bytes of numbers. -/
def strN (L : List Nat) : ByteArray := ⟨(L.map UInt8.ofNat).toArray⟩
theorem strN_size (L : List Nat) : (strN L).size = L.length := by simp [strN, ByteArray.size]
theorem strN_data (L : List Nat) : (strN L).data.toList = L.map UInt8.ofNat := by simp [strN]
theorem byteArray_eq {s t : ByteArray} (h : s.data.toList = t.data.toList) : s = t := by
  cases s; cases t
  congr 1
  exact Array.toList_inj.mp h
theorem strN_extract (L : List Nat) (a b : Nat) : (strN L).extract a b = strN ((L.drop a).take (b - a)) := by
  refine byteArray_eq ?_
  rw [ByteArray.data_extract, Array.toList_extract, strN_data, strN_data, List.extract_eq_take_drop, List.map_take, List.map_drop]
theorem u8_back {x : Nat} (h : x < 256) : (UInt8.ofNat x).toNat = x := by
  rw [UInt8.toNat_ofNat']
  exact Nat.mod_eq_of_lt h
theorem strN_get {L : List Nat} {i : Nat} (h : i < (strN L).size) (hi : i < L.length) (hb : L[i] < 256) : ((strN L)[i]).toNat = L[i] := by
  have e : (strN L)[i] = UInt8.ofNat L[i] := by
    show (strN L).data[i] = _
    simp [strN]
  rw [e]
  exact u8_back hb
theorem strN_inj {A B : List Nat} (hA : ∀ x ∈ A, x < 256) (hB : ∀ x ∈ B, x < 256) (h : strN A = strN B) : A = B := by
  have h1 : A.map UInt8.ofNat = B.map UInt8.ofNat := by rw [← strN_data, ← strN_data, h]
  have h2 : (A.map UInt8.ofNat).map UInt8.toNat = (B.map UInt8.ofNat).map UInt8.toNat := by rw [h1]
  rw [List.map_map, List.map_map] at h2
  have key : ∀ {L : List Nat}, (∀ x ∈ L, x < 256) → L.map (UInt8.toNat ∘ UInt8.ofNat) = L := fun {L} hL => by
    conv => rhs; rw [← List.map_id L]
    exact List.map_congr_left fun x hx => u8_back (hL x hx)
  rwa [key hA, key hB] at h2
def w64 (x : Int) : Int := (x + 9223372036854775808) % 18446744073709551616 - 9223372036854775808
/-- The value of bytes, the high one first. -/
def valB (L : List Nat) : Int := L.foldl (fun (v : Int) (b : Nat) => v * 256 + (b : Int)) 0
theorem valB_step (L : List Nat) (k : Nat) (hk : k < L.length) : valB (L.take (k + 1)) = valB (L.take k) * 256 + (L[k] : Int) := by
  unfold valB
  rw [List.take_succ_eq_append_getElem hk, List.foldl_append, List.foldl_cons, List.foldl_nil]
theorem w64_step (v : Int) (b : Nat) (hb : b < 256) : w64 (w64 v * 256) + (b : Int) = w64 (v * 256 + (b : Int)) := by
  unfold w64
  omega
theorem i64_or_low (m : Int) (b : Nat) (hm : m % 256 = 0) (h1 : -9223372036854775808 ≤ m) (h2 : m ≤ 9223372036854775552) (hb : b < 256) : bits .or .i64 m (b : Int) = m + (b : Int) := by
  have e : BitVec.ofInt 64 m &&& BitVec.ofInt 64 (b : Int) = 0#64 := by
    apply BitVec.eq_of_toNat_eq
    have t1 : (BitVec.ofInt 64 m).toNat % 256 = 0 := by
      rw [BitVec.toNat_ofInt]
      omega
    have t2 : (BitVec.ofInt 64 (b : Int)).toNat = b := by
      rw [BitVec.ofInt_natCast, BitVec.toNat_ofNat]
      omega
    rw [BitVec.toNat_and, t2]
    refine Nat.eq_of_testBit_eq fun i => ?_
    rw [Nat.testBit_and]
    by_cases hi : i < 8
    · have : (BitVec.ofInt 64 m).toNat.testBit i = false := by
        generalize (BitVec.ofInt 64 m).toNat = x at *
        have h8 := Nat.testBit_mod_two_pow x 8 i
        have e2 : x % 2 ^ 8 = 0 := t1
        rw [e2, decide_eq_true hi, Bool.true_and, Nat.zero_testBit] at h8
        exact h8.symm
      rw [this]
      simp
    · have : b.testBit i = false := Nat.testBit_lt_two_pow (Nat.lt_of_lt_of_le (show b < 2 ^ 8 from hb) (Nat.pow_le_pow_right (by omega) (by omega)))
      rw [this]
      simp
  show IntKind.i64.wrap ((BitVec.ofInt 64 m ||| BitVec.ofInt 64 (b : Int)).toNat : Int) = _
  rw [← BitVec.add_eq_or_of_and_eq_zero _ _ e, ← BitVec.ofInt_add, BitVec.toNat_ofInt, IntKind.wrap_i64]
  omega
end Go.Proofs.Herald
namespace Go.Proofs.YtmmmnghiegajmabGreat
open Go.RowKit Go.Proofs.Herald
theorem strN_nums (L : List Nat) : strOfNums (natsI L) = strN L := by
  unfold strOfNums strN natsI
  rw [List.map_map]
  congr 1
theorem w64_is (x : Int) : Go.RowKit.wrap64 x = (x + 9223372036854775808) % 18446744073709551616 - 9223372036854775808 := by unfold Go.RowKit.wrap64; rfl
set_option maxRecDepth 20000 in
set_option maxHeartbeats 4000000 in
theorem x_numberOf (L : List Nat) (hL : ∀ x ∈ L, x < 256) (hl : L.length ≤ 1000) (w : World) :
    Calls Tryz.prog 57 #[.string (strN L)] w fun e w' => e = .returned (.int .i64 (w64 (valB L))) ∧ w' = w := by
  have hz : (strN L).size = L.length := strN_size L
  have HGT : Hid (∀ (i : Nat) (h : i < (strN L).size) (hi : i < L.length), (((strN L)[i]).toNat : Int) = (L[i] : Int)) := fun i h hi => by
    rw [strN_get h hi (hL _ (List.getElem_mem hi))]
  have HL : Hid (∀ x ∈ L, x < 256) := hL
  clear hL
  go_enter Tryz.func57, Tryz.ntmps57
  go_wp2_with fail
  go_loop [3, 4] (fun n i => ∃ k : Nat, k ≤ L.length ∧ i = .int .i64 k ∧ n = .int .i64 (w64 (valB (L.take k)))) (fun _ i => L.length - (intOf i).toNat)
  case atStart => exact ⟨0, Nat.zero_le _, rfl, by rw [List.take_zero]; rfl⟩
  case round =>
    obtain ⟨k, hk, rfl, rfl⟩ := hrel
    by_cases hlt : k < L.length
    · have hlt2 : k < (strN L).size := by omega
      have e1 := HGT.out k hlt2 hlt
      have hb := HL.out _ (List.getElem_mem hlt)
      have HST : Hid (w64 (valB (L.take (k + 1))) = w64 (w64 (valB (L.take k)) * 256) + (L[k] : Int)) := by
        show _ = _
        rw [valB_step L k hlt, w64_step _ _ hb]
      generalize valB (L.take k) = v at *
      have HOR : Hid (Go.bits .or .i64 (Go.RowKit.wrap64 (w64 v * 256)) (L[k] : Int) = w64 (valB (L.take (k + 1)))) := by
        show _ = _
        have e2 : Go.RowKit.wrap64 (w64 v * 256) = w64 (w64 v * 256) := by unfold w64; exact w64_is _
        rw [HST.out, e2]
        exact i64_or_low _ _ (by unfold w64; omega) (by unfold w64; omega) (by unfold w64; omega) hb
      go_wp2_with fail
      go_round
      case rel => exact ⟨k + 1, by omega, by go_num, by rw [HOR.out]⟩
      case measure => simp [intOf]; omega
    · have e : L.take k = L := List.take_of_length_le (by omega)
      rw [e]
      go_wp2_with fail
      go_ret
      exact ⟨rfl, rfl⟩
end Go.Proofs.YtmmmnghiegajmabGreat
