import Derived.Test.YtmmmnghiegajmabM01
import Derived.Test.YtmmmnghiegajmabM04
import Derived.Test.YtmmmnghiegajmabM05
import Derived.Test.YtmmmnghiegajmabM06
import Derived.Test.YtmmmnghiegajmabM07
import Derived.Test.YtmmmnghiegajmabM08
import Derived.Test.YtmmmnghiegajmabM09
import Derived.Test.YtmmmnghiegajmabM10
import Derived.Test.YtmmmnghiegajmabM11
import Derived.Test.YtmmmnghiegajmabM14
import Derived.Test.YtmmmnghiegajmabM16
import Derived.Test.YtmmmnghiegajmabM20
import Derived.Test.YtmmmnghiegajmabM21
import Derived.Test.YtmmmnghiegajmabM22
import Derived.Test.YtmmmnghiegajmabM24
import Derived.Test.YtmmmnghiegajmabM26
import Derived.Test.YtmmmnghiegajmabM27
import Derived.Test.YtmmmnghiegajmabM28
import Derived.Test.YtmmmnghiegajmabM29
import Derived.Test.YtmmmnghiegajmabM30
import Derived.Test.YtmmmnghiegajmabM31
import Derived.Test.YtmmmnghiegajmabM32
import Derived.Test.YtmmmnghiegajmabM33
import Derived.Test.YtmmmnghiegajmabM34
import Derived.Test.YtmmmnghiegajmabM37
import Derived.Test.YtmmmnghiegajmabM38
import Derived.Test.YtmmmnghiegajmabM40
import Derived.Test.YtmmmnghiegajmabM41
import Derived.Test.YtmmmnghiegajmabM42
import Derived.WalkKit
import Derived.Deep.AppendLies
import Derived.Deep.RegionLaw
import Derived.Laws.CopyOwn
import Derived.ArgAppend
import Derived.Deep.DeepCutAuto
namespace Go.Proofs.Herald
open Go.RowKit
open Go.RowKit
theorem Fr.below {B : Nat} {a b : World} (h : Fr (fun k => B ≤ k) a b) (hB : B ≤ a.heap.size) : Below B a b :=
  ⟨h.os, h.tape, h.output, h.size, fun k hk => h.block k (by omega) (by omega)⟩
open Go.RowKit
open Go.RowKit
theorem runP_out {now : Int} {cs : List Ins} {f : Nat} {pc : Int} {q : List Msg} {p : Pr} (h : ¬ pc.toNat < cs.length) : runP now cs (f + 1) pc q p = (q, p, true) := by rw [runP, dif_neg h]
/-- Two lists, element by element. -/
def relL {A B : Type} (ρ : A → B → Prop) : List A → List B → Prop
  | [], [] => True
  | a :: l, b :: m => ρ a b ∧ relL ρ l m
  | _, _ => False
theorem relL_len {A B : Type} {ρ : A → B → Prop} : ∀ {l : List A} {m : List B}, relL ρ l m → l.length = m.length
  | [], [], _ => rfl
  | _ :: _, _ :: _, h => by simp [relL_len h.2]
  | [], _ :: _, h => h.elim
  | _ :: _, [], h => h.elim
theorem relL_append {A B : Type} {ρ : A → B → Prop} : ∀ {l : List A} {m : List B} {l' : List A} {m' : List B}, relL ρ l m → relL ρ l' m' → relL ρ (l ++ l') (m ++ m')
  | [], [], _, _, _, h => h
  | _ :: _, _ :: _, _, _, h, h' => ⟨h.1, relL_append h.2 h'⟩
  | [], _ :: _, _, _, h, _ => h.elim
  | _ :: _, [], _, _, h, _ => h.elim
structure SameHer {R S : Type} (ρ : R → S → Prop) (h : Her R) (k : Her S) : Prop where
  now : h.now = k.now
  last : h.last = k.last
  qs : h.qs = k.qs
  rs : relL ρ h.rs k.rs
theorem relL_filter {R S : Type} {E : Eng R} {F : Eng S} {ρ : R → S → Prop} (hp : ∀ a b, ρ a b → E.pub a = F.pub b) (id : Int) : ∀ {l : List R} {m : List S}, relL ρ l m → relL ρ (l.filter fun y => (E.pub y).id != id) (m.filter fun y => (F.pub y).id != id)
  | [], [], _ => trivial
  | a :: l, b :: m, h => by
    have e := hp a b h.1
    have ih := relL_filter hp id h.2
    simp only [List.filter_cons, e]
    split
    · exact ⟨h.1, ih⟩
    · exact ih
  | [], _ :: _, h => h.elim
  | _ :: _, [], h => h.elim
theorem relL_map {R S : Type} {E : Eng R} {F : Eng S} {ρ : R → S → Prop} (hp : ∀ a b, ρ a b → E.pub a = F.pub b) {r : R} {s : S} (hr : ρ r s) : ∀ {l : List R} {m : List S}, relL ρ l m → relL ρ (l.map fun y => if (E.pub y).id = (E.pub r).id then r else y) (m.map fun y => if (F.pub y).id = (F.pub s).id then s else y)
  | [], [], _ => trivial
  | a :: l, b :: m, h => by
    have e := hp a b h.1
    have e2 := hp r s hr
    have ih := relL_map hp hr h.2
    simp only [List.map_cons]
    refine ⟨?_, ih⟩
    rw [e, e2]
    split
    · exact hr
    · exact h.1
  | [], _ :: _, h => h.elim
  | _ :: _, [], h => h.elim
/-- Where a run's number stays out of the list, taking it out is nothing. -/
theorem relL_after {R S : Type} {E : Eng R} {F : Eng S} {ρ : R → S → Prop} (hp : ∀ a b, ρ a b → E.pub a = F.pub b) {l : List R} {m : List S} (h : relL ρ l m) {r : R} {s : S} {done : Bool} (hid : (E.pub r).id = (F.pub s).id) (hr : done = false → ρ r s) : relL ρ (afterR E l r done) (afterR F m s done) := by
  unfold afterR
  cases done with
  | true =>
    simp only [if_true]
    rw [hid]
    exact relL_filter hp _ h
  | false =>
    simp only [Bool.false_eq_true, if_false]
    exact relL_map hp (hr rfl) h
def relO {A B : Type} (ρ : A → B → Prop) : Option A → Option B → Prop
  | none, none => True
  | some a, some b => ρ a b
  | _, _ => False
theorem relL_find {R S : Type} {E : Eng R} {F : Eng S} {ρ : R → S → Prop} (hp : ∀ a b, ρ a b → E.pub a = F.pub b) (id : Int) : ∀ {l : List R} {m : List S}, relL ρ l m → relO ρ (findR E l id) (findR F m id)
  | [], [], _ => trivial
  | a :: l, b :: m, h => by
    have e := hp a b h.1
    have ih := relL_find hp id h.2
    unfold findR at ih ⊢
    simp only [List.find?_cons, e]
    split
    · exact h.1
    · exact ih
  | [], _ :: _, h => h.elim
  | _ :: _, [], h => h.elim
theorem relL_due {R S : Type} {E : Eng R} {F : Eng S} {ρ : R → S → Prop} (hp : ∀ a b, ρ a b → E.pub a = F.pub b) (en : Int) : ∀ {l : List R} {m : List S} {o : Option R} {o' : Option S}, relL ρ l m → relO ρ o o' → relO ρ (l.foldl (dueF E en) o) (m.foldl (dueF F en) o')
  | [], [], _, _, _, h => h
  | a :: l, b :: m, o, o', h, ho => by
    have e := hp a b h.1
    simp only [List.foldl_cons]
    refine relL_due hp en h.2 ?_
    unfold dueF
    rw [e]
    split
    · cases o with
      | none =>
        cases o' with
        | none => exact h.1
        | some _ => exact ho.elim
      | some x =>
        cases o' with
        | none => exact ho.elim
        | some y =>
          have e2 := hp x y ho
          show relO ρ (if _ then _ else _) (if _ then _ else _)
          rw [e2]
          split
          · exact h.1
          · exact ho
    · exact ho
  | [], _ :: _, _, _, h, _ => h.elim
  | _ :: _, [], _, _, h, _ => h.elim
theorem SameHer.trig {R S : Type} {E : Eng R} {F : Eng S} {ρ : R → S → Prop} (hE : SameEng E F ρ) {a : Her R} {b : Her S} (h : SameHer ρ a b) (dev : Int) :
    (trigH E a dev).1 = (trigH F b dev).1 ∧ (trigH E a dev).2.1 = (trigH F b dev).2.1 ∧ SameHer ρ (trigH E a dev).2.2 (trigH F b dev).2.2 := by
  unfold trigH
  rw [relL_len h.rs, h.last, h.qs, h.now]
  split
  · exact ⟨rfl, rfl, h⟩
  · split
    · exact ⟨rfl, rfl, h⟩
    · obtain ⟨h1, h2, h3, h4, h5⟩ := hE.start b.now (b.qs dev.toNat) (b.last + 1) dev
      refine ⟨rfl, rfl, ⟨rfl, rfl, ?_, ?_⟩⟩
      · show updQ _ _ _ = updQ _ _ _
        rw [h1]
      · show relL ρ (afterR E (a.rs ++ _) _ _) (afterR F (b.rs ++ _) _ _)
        rw [h2] at h5 ⊢
        cases hd : (F.start b.now (b.qs dev.toNat) (F.fresh (b.last + 1) dev)).2.2 with
        | true =>
          unfold afterR
          simp only [if_true]
          rw [h3, h4, List.filter_append, List.filter_append]
          refine relL_append (relL_filter hE.pub _ h.rs) ?_
          have e1 := (hE.fresh (b.last + 1) dev).1
          have e2 := (hE.fresh (b.last + 1) dev).2
          simp [e1, e2, relL]
        | false =>
          rw [hd] at h5
          have hr := h5 rfl
          have e1 := (hE.fresh (b.last + 1) dev).1
          have e2 := (hE.fresh (b.last + 1) dev).2
          unfold afterR
          simp only [Bool.false_eq_true, if_false, List.map_append, List.map_cons, List.map_nil]
          refine relL_append (relL_map hE.pub hr h.rs) ?_
          rw [h3, h4, e1, e2]
          simp only [if_true]
          exact ⟨hr, trivial⟩
theorem SameHer.go {R S : Type} {E : Eng R} {F : Eng S} {ρ : R → S → Prop} (hE : SameEng E F ρ) {a : Her R} {b : Her S} (h : SameHer ρ a b) {r : R} {s : S} (hr : ρ r s) (yes : Bool) (hy : yes = true → (E.pub r).num ≠ 0) : SameHer ρ (goH E a r yes) (goH F b s yes) := by
  have e := hE.pub r s hr
  obtain ⟨h1, h2, h3, h4, h5⟩ := hE.on r s hr b.now yes (b.qs (F.pub s).dev.toNat) hy
  unfold goH
  rw [h.now, h.qs, e]
  refine ⟨rfl, h.last, ?_, ?_⟩
  · show updQ _ _ _ = updQ _ _ _
    rw [h1]
  · show relL ρ (afterR E a.rs _ _) (afterR F b.rs _ _)
    rw [h2] at h5 ⊢
    exact relL_after hE.pub h.rs (by rw [h3, h4, e]) h5
theorem SameHer.tickN {R S : Type} {E : Eng R} {F : Eng S} {ρ : R → S → Prop} (hE : SameEng E F ρ) (en : Int) : ∀ (f : Nat) {a : Her R} {b : Her S}, SameHer ρ a b → SameHer ρ (Herald.tickN E en f a) (Herald.tickN F en f b) := by
  intro f
  induction f with
  | zero => intro a b h; exact h
  | succ f ih =>
    intro a b h
    have hd := relL_due hE.pub en h.rs (o := none) (o' := none) trivial
    unfold Herald.tickN dueR
    cases h1 : a.rs.foldl (dueF E en) none with
    | none =>
      rw [h1] at hd
      cases h2 : b.rs.foldl (dueF F en) none with
      | none => exact h
      | some y => rw [h2] at hd; exact hd.elim
    | some x =>
      rw [h1] at hd
      cases h2 : b.rs.foldl (dueF F en) none with
      | none => rw [h2] at hd; exact hd.elim
      | some y =>
        rw [h2] at hd
        have hxy : ρ x y := hd
        simp only
        rw [hE.pub x y hxy]
        have hh : SameHer ρ { a with now := (F.pub y).til } { b with now := (F.pub y).til } := ⟨rfl, h.last, h.qs, h.rs⟩
        exact ih (SameHer.go hE hh hxy false (fun hh => by cases hh))
theorem SameHer.tick {R S : Type} {E : Eng R} {F : Eng S} {ρ : R → S → Prop} (hE : SameEng E F ρ) {a : Her R} {b : Her S} (h : SameHer ρ a b) (n : Int) : (tickH E a n).1 = (tickH F b n).1 ∧ SameHer ρ (tickH E a n).2 (tickH F b n).2 := by
  unfold tickH
  rw [h.now]
  split
  · exact ⟨rfl, h⟩
  · have h2 := SameHer.tickN hE (b.now + n) 5000 h
    exact ⟨rfl, rfl, h2.last, h2.qs, h2.rs⟩
theorem SameHer.ack {R S : Type} {E : Eng R} {F : Eng S} {ρ : R → S → Prop} (hE : SameEng E F ρ) {a : Her R} {b : Her S} (h : SameHer ρ a b) (id num : Int) : (ackH E a id num).1 = (ackH F b id num).1 ∧ SameHer ρ (ackH E a id num).2 (ackH F b id num).2 := by
  have hf := relL_find hE.pub id h.rs
  unfold ackH
  cases h1 : findR E a.rs id with
  | none =>
    rw [h1] at hf
    cases h2 : findR F b.rs id with
    | none => exact ⟨rfl, h⟩
    | some y => rw [h2] at hf; exact hf.elim
  | some x =>
    rw [h1] at hf
    cases h2 : findR F b.rs id with
    | none => rw [h2] at hf; exact hf.elim
    | some y =>
      rw [h2] at hf
      have hxy : ρ x y := hf
      have e := hE.pub x y hxy
      simp only
      rw [e, h.qs]
      split
      · exact ⟨rfl, h⟩
      · rename_i hn
        split
        · exact ⟨rfl, h⟩
        · refine ⟨rfl, SameHer.go hE h hxy true (fun _ h0 => hn ?_)⟩
          rw [e] at h0
          by_cases hz : num = 0
          · exact Or.inl hz
          · right; rw [h0]; exact fun hh => hz hh.symm
theorem SameHer.cancel {R S : Type} {E : Eng R} {F : Eng S} {ρ : R → S → Prop} (hE : SameEng E F ρ) {a : Her R} {b : Her S} (h : SameHer ρ a b) (id : Int) : (cancelH E a id).1 = (cancelH F b id).1 ∧ SameHer ρ (cancelH E a id).2 (cancelH F b id).2 := by
  have hf := relL_find hE.pub id h.rs
  unfold cancelH
  cases h1 : findR E a.rs id with
  | none =>
    rw [h1] at hf
    cases h2 : findR F b.rs id with
    | none => exact ⟨rfl, h⟩
    | some y => rw [h2] at hf; exact hf.elim
  | some x =>
    rw [h1] at hf
    cases h2 : findR F b.rs id with
    | none => rw [h2] at hf; exact hf.elim
    | some y =>
      rw [h2] at hf
      have e := hE.pub x y hf
      refine ⟨rfl, h.now, h.last, ?_, relL_filter hE.pub id h.rs⟩
      show updQ _ _ _ = updQ _ _ _
      rw [e, h.qs]
theorem SameHer.drain {R S : Type} {ρ : R → S → Prop} {a : Her R} {b : Her S} (h : SameHer ρ a b) (dev : Int) : (drainH a dev).1 = (drainH b dev).1 ∧ (drainH a dev).2.1 = (drainH b dev).2.1 ∧ SameHer ρ (drainH a dev).2.2 (drainH b dev).2.2 := by
  unfold drainH
  rw [h.qs]
  split
  · exact ⟨rfl, rfl, h⟩
  · split
    · exact ⟨rfl, rfl, h⟩
    · exact ⟨rfl, rfl, h.now, h.last, rfl, h.rs⟩
theorem SameHer.new {R S : Type} (ρ : R → S → Prop) : SameHer ρ (newH (R := R)) (newH (R := S)) := ⟨rfl, rfl, rfl, trivial⟩
def itsOf : (d : Nat) → Tree d → List It
  | 0, _ => []
  | d + 1, l => l.list.map fun x => ⟨d, x, 0⟩
/-- How long what is left to do can go on at most. -/
def msS {T : Type} (t : ByteArray) (sub : T → Nat) (x : Hd × T × T) (i : Nat) : Nat :=
  if bytesOf t x.1.p = kRepeat then 1 + (x.1.n.toNat - i) * (sub x.2.1 + 1) else 1 + sub x.2.2
def msT (t : ByteArray) : (d : Nat) → Tree d → Nat
  | 0, _ => 0
  | d + 1, l => (l.list.map fun x => msS t (msT t d) x 0).sum
def msI (t : ByteArray) (x : It) : Nat := msS t (msT t x.d) x.s x.i
def msL (t : ByteArray) (l : List It) : Nat := (l.map (msI t)).sum
theorem msL_cons (t : ByteArray) (x : It) (l : List It) : msL t (x :: l) = msI t x + msL t l := by unfold msL; simp
theorem msL_append (t : ByteArray) (l m : List It) : msL t (l ++ m) = msL t l + msL t m := by unfold msL; simp
theorem msL_its (t : ByteArray) (d : Nat) (x : Tree d) : msL t (itsOf d x) = msT t d x := by
  cases d with
  | zero => rfl
  | succ d => unfold msL itsOf msT; rw [List.map_map]; rfl
/-- A run of a text: what is told of it (its registers are none), what is to be done when it is answered, and when not. -/
structure TR where
  p : Pr
  yes : List It
  no : List It
/-- What is to be done is done, till the run stops or ends: the queue, the run, has it ended. -/
def doT (t : ByteArray) (now : Int) : Nat → List It → List Msg → TR → List Msg × TR × Bool
  | 0, _, q, r => (q, r, true)
  | _ + 1, [], q, r => (q, r, true)
  | f + 1, x :: l, q, r =>
    if bytesOf t x.s.1.p = kSend then doT t now f l (sendP q r.p x.s.1.key).1 { r with p := (sendP q r.p x.s.1.key).2.1 }
    else if bytesOf t x.s.1.p = kWait then (q, { r with p := stopP r.p now x.s.1.n 0, no := l }, false)
    else if bytesOf t x.s.1.p = kStop then (q, r, true)
    else if bytesOf t x.s.1.p = kAsk then
      (if (sendP q r.p x.s.1.key).2.2 = 0 then doT t now f (itsOf x.d x.s.2.2 ++ l) (sendP q r.p x.s.1.key).1 { r with p := (sendP q r.p x.s.1.key).2.1 }
       else ((sendP q r.p x.s.1.key).1, ⟨stopP (sendP q r.p x.s.1.key).2.1 now x.s.1.n (sendP q r.p x.s.1.key).2.2, itsOf x.d x.s.2.1 ++ l, itsOf x.d x.s.2.2 ++ l⟩, false))
    else if bytesOf t x.s.1.p = kRetry then
      (if (x.i : Int) = x.s.1.m then doT t now f (itsOf x.d x.s.2.2 ++ l) q r
       else ((sendP q r.p x.s.1.key).1, ⟨stopP (sendP q r.p x.s.1.key).2.1 now (x.s.1.n * 2 ^ x.i) (sendP q r.p x.s.1.key).2.2, itsOf x.d x.s.2.1 ++ l, ⟨x.d, x.s, x.i + 1⟩ :: l⟩, false))
    else if bytesOf t x.s.1.p = kRepeat then
      (if (x.i : Int) < x.s.1.n then doT t now f (itsOf x.d x.s.2.1 ++ ⟨x.d, x.s, x.i + 1⟩ :: l) q r
       else doT t now f l q r)
    else (q, r, true)
/-- A stopped run of a text goes on. -/
def onT (t : ByteArray) (now : Int) (yes : Bool) (q : List Msg) (r : TR) : List Msg × TR × Bool :=
  if yes then doT t now (msL t r.yes + 1) r.yes q { r with p := { r.p with num := 0 } }
  else if 0 < r.p.num then doT t now (msL t r.no + 1) r.no (takeQ q r.p.id r.p.num) { r with p := { r.p with num := 0 } }
  else doT t now (msL t r.no + 1) r.no q { r with p := { r.p with num := 0 } }
/-- Runs of a text. -/
def textE (t : ByteArray) (tr : Tree 5) : Eng TR :=
  ⟨fun r => pubP r.p, fun id dev => ⟨freshP id dev, [], []⟩, fun now q r => doT t now (msT t 5 tr + 1) (itsOf 5 tr) q r, fun now yes q r => onT t now yes q r⟩
/-- The code s stands at place b. -/
def Seg (cs : List Ins) (b : Nat) (s : List Ins) : Prop := ∀ i x, s[i]? = some x → cs[b + i]? = some x
theorem Seg.append {cs : List Ins} {b : Nat} {s u : List Ins} (h : Seg cs b (s ++ u)) : Seg cs b s ∧ Seg cs (b + s.length) u := by
  refine ⟨fun i x hx => h i x ?_, fun i x hx => ?_⟩
  · rw [List.getElem?_append_left (List.getElem?_eq_some_iff.mp hx).1]; exact hx
  · rw [Nat.add_assoc]
    exact h _ x (by rw [List.getElem?_append_right (Nat.le_add_right _ _), Nat.add_sub_cancel_left]; exact hx)
theorem Seg.cons {cs : List Ins} {b : Nat} {y : Ins} {u : List Ins} (h : Seg cs b (y :: u)) : cs[b]? = some y ∧ Seg cs (b + 1) u :=
  ⟨h 0 y rfl, fun i x hx => by rw [Nat.add_assoc, Nat.add_comm 1 i]; exact h (i + 1) x hx⟩
/-- Steps at most till the next stop, without the stop's own. -/
def wtS {T : Type} (t : ByteArray) (sub : T → Nat) (x : Hd × T × T) (i : Nat) : Nat :=
  if bytesOf t x.1.p = kSend then 1
  else if bytesOf t x.1.p = kAsk ∨ bytesOf t x.1.p = kRetry then 1 + max (sub x.2.1) (sub x.2.2)
  else if bytesOf t x.1.p = kRepeat then 1 + (x.1.n.toNat - i) * (sub x.2.1 + 1)
  else 1
def wtT (t : ByteArray) : (d : Nat) → Tree d → Nat
  | 0, _ => 0
  | d + 1, l => (l.list.map fun x => wtS t (wtT t d) x 0).sum
def wtI (t : ByteArray) (x : It) : Nat := wtS t (wtT t x.d) x.s x.i
def wtL (t : ByteArray) (l : List It) : Nat := (l.map (wtI t)).sum
theorem wtL_cons (t : ByteArray) (x : It) (l : List It) : wtL t (x :: l) = wtI t x + wtL t l := by unfold wtL; simp
theorem wtL_append (t : ByteArray) (l m : List It) : wtL t (l ++ m) = wtL t l + wtL t m := by unfold wtL; simp
theorem wtL_its (t : ByteArray) (d : Nat) (x : Tree d) : wtL t (itsOf d x) = wtT t d x := by
  cases d with
  | zero => rfl
  | succ d => unfold wtL itsOf wtT; rw [List.map_map]; rfl
/-- The statements' numbers may be; a repeat stands within at most three others. -/
def OkLv (t : ByteArray) : (d : Nat) → Tree d → Nat → Prop
  | 0, _, _ => True
  | d + 1, l, lv => ∀ x : Hd × Tree d × Tree d, x ∈ l.list → GoodHd t x.1 ∧ (bytesOf t x.1.p = kRepeat → lv < 4 ∧ OkLv t d x.2.1 (lv + 1)) ∧ (¬ bytesOf t x.1.p = kRepeat → OkLv t d x.2.1 lv ∧ OkLv t d x.2.2 lv)
/-- Of one statement. -/
def OkS (t : ByteArray) (d : Nat) (x : Hd × Tree d × Tree d) (lv : Nat) : Prop :=
  GoodHd t x.1 ∧ (bytesOf t x.1.p = kRepeat → lv < 4 ∧ OkLv t d x.2.1 (lv + 1)) ∧ (¬ bytesOf t x.1.p = kRepeat → OkLv t d x.2.1 lv ∧ OkLv t d x.2.2 lv)
/-- Code at pc, with these registers, within lv repeats, does l, with j jumps that are still to come. -/
def Rp (t : ByteArray) (cs : List Ins) (g : List Int) : Nat → Nat → Nat → Nat → List It → Prop
  | 0, _, _, _, _ => False
  | n + 1, j, lv, pc, l =>
    (l = [] ∧ cs.length ≤ pc ∧ lv ≤ 4) ∨
    (∃ (j' tgt : Nat), j = j' + 1 ∧ cs[pc]? = some ⟨8, 0, 0, (tgt : Nat)⟩ ∧ Rp t cs g n j' lv tgt l) ∨
    (∃ (d : Nat) (r : List (Hd × Tree d × Tree d)) (l' : List It), Seg cs pc (compL t (compT t d) r lv pc) ∧ OkLv t (d + 1) r lv ∧ l = itsOf (d + 1) r ++ l' ∧ Rp t cs g n j lv (pc + (compL t (compT t d) r lv pc).length) l') ∨
    (∃ (d : Nat) (x : Hd × Tree d × Tree d) (i rep base : Nat) (l' : List It), bytesOf t x.1.p = kRepeat ∧ lv = rep + 1 ∧ Seg cs base (stmC t (compT t d) x rep base) ∧ OkS t d x rep ∧ pc = base + 1 + (compT t d x.2.1 (rep + 1) (base + 1)).length ∧ 1 ≤ i ∧ (i : Int) ≤ x.1.n ∧
      g.getD rep 0 = x.1.n - i + 1 ∧ l = ⟨d, x, i⟩ :: l' ∧ Rp t cs g n j rep (pc + 1) l')
theorem Rp.lv4 {t : ByteArray} {cs : List Ins} {g : List Int} : ∀ {n j lv pc : Nat} {l : List It}, Rp t cs g n j lv pc l → lv ≤ 4 := by
  intro n
  induction n with
  | zero => intro j lv pc l h; exact h.elim
  | succ n ih =>
    intro j lv pc l h
    rcases h with ⟨_, _, h⟩ | ⟨j', tgt, _, _, h⟩ | ⟨d, r, l', _, _, _, h⟩ | ⟨d, x, i, rep, base, l', hk, rfl, _, hok, _⟩
    · exact h
    · exact ih h
    · exact ih h
    · have := (hok.2.1 hk).1; omega
/-- The registers from lv on are free. -/
theorem Rp.regs {t : ByteArray} {cs : List Ins} {g g' : List Int} : ∀ {n j lv pc : Nat} {l : List It}, (∀ k, k < lv → g'.getD k 0 = g.getD k 0) → Rp t cs g n j lv pc l → Rp t cs g' n j lv pc l := by
  intro n
  induction n with
  | zero => intro j lv pc l _ h; exact h.elim
  | succ n ih =>
    intro j lv pc l hg h
    rcases h with h | ⟨j', tgt, h1, h2, h⟩ | ⟨d, r, l', h1, h2, h3, h⟩ | ⟨d, x, i, rep, base, l', h1, h2, h3, h4, h5, h6, h7, h8, h9, h⟩
    · exact Or.inl h
    · exact Or.inr (Or.inl ⟨j', tgt, h1, h2, ih hg h⟩)
    · exact Or.inr (Or.inr (Or.inl ⟨d, r, l', h1, h2, h3, ih hg h⟩))
    · exact Or.inr (Or.inr (Or.inr ⟨d, x, i, rep, base, l', h1, h2, h3, h4, h5, h6, h7, (hg rep (by omega)).trans h8, h9, ih (fun k hk => hg k (by omega)) h⟩))
/-- Somewhere deep enough. -/
def RpE (t : ByteArray) (cs : List Ins) (g : List Int) (B lv pc : Nat) (l : List It) : Prop := ∃ n j, Rp t cs g n j lv pc l ∧ wtL t l + j ≤ B
/-- Code at pc, where a run goes on without an answer. -/
def RpNo (t : ByteArray) (cs : List Ins) (g : List Int) (B pc : Nat) (l : List It) : Prop :=
  (∃ lv, RpE t cs g B lv pc l) ∨
  (∃ (d : Nat) (x : Hd × Tree d × Tree d) (i lv base n j : Nat) (l' : List It), bytesOf t x.1.p = kRetry ∧ Seg cs base (stmC t (compT t d) x lv base) ∧ OkS t d x lv ∧ pc = base + 3 ∧ 1 ≤ i ∧ (i : Int) ≤ x.1.m ∧
    g.getD 4 0 = x.1.m - i + 1 ∧ g.getD 5 0 = x.1.n * 2 ^ (i - 1) ∧ l = ⟨d, x, i⟩ :: l' ∧ Rp t cs g n j lv (base + (stmC t (compT t d) x lv base).length) l' ∧ wtL t l + j ≤ B)
/-- The same is told of two runs. -/
structure SameP (p r : Pr) : Prop where
  id : p.id = r.id
  dev : p.dev = r.dev
  sent : p.sent = r.sent
  til : p.til = r.til
  num : p.num = r.num
theorem SameP.send {p r : Pr} (h : SameP p r) (q : List Msg) (key : Int) : (sendP q p key).1 = (sendP q r key).1 ∧ (sendP q p key).2.2 = (sendP q r key).2.2 ∧ SameP (sendP q p key).2.1 (sendP q r key).2.1 := by
  unfold sendP
  rw [h.dev, h.id, h.sent]
  split
  · exact ⟨rfl, rfl, rfl, rfl, rfl, h.til, h.num⟩
  · exact ⟨rfl, rfl, h⟩
theorem SameP.stop {p r : Pr} (h : SameP p r) (now n num : Int) : SameP (stopP p now n num) (stopP r now n num) := ⟨h.id, h.dev, h.sent, rfl, rfl⟩
/-- A run of code and a run of a text that stand for one another. -/
structure Tied (t : ByteArray) (cs : List Ins) (B : Nat) (p : Pr) (r : TR) : Prop where
  pub : SameP p r.p
  len : p.regs.length = 12
  no : ∃ e : Nat, p.els = (e : Nat) ∧ RpNo t cs p.regs B e r.no
  yes : p.num ≠ 0 → ∃ (e lv : Nat), p.tow = (e : Nat) ∧ RpE t cs p.regs B lv e r.yes
theorem runP_at {now : Int} {cs : List Ins} {f pc : Nat} {x : Ins} (h : cs[pc]? = some x) (q : List Msg) (p : Pr) :
    runP now cs (f + 1) (pc : Nat) q p = if (stepP now x (pc : Nat) q p).2.2.1 < 0 then ((stepP now x (pc : Nat) q p).1, (stepP now x (pc : Nat) q p).2.1, (stepP now x (pc : Nat) q p).2.2.2) else runP now cs f (stepP now x (pc : Nat) q p).2.2.1 (stepP now x (pc : Nat) q p).1 (stepP now x (pc : Nat) q p).2.1 := by
  obtain ⟨hlt, hx⟩ := List.getElem?_eq_some_iff.mp h
  rw [runP]
  have h1 : ((pc : Nat) : Int).toNat < cs.length := by simpa using hlt
  rw [dif_pos h1]
  have h2 : cs[((pc : Nat) : Int).toNat] = x := by simpa using hx
  rw [h2]
theorem runP_past {now : Int} {cs : List Ins} {f pc : Nat} (h : cs.length ≤ pc) (q : List Msg) (p : Pr) : runP now cs (f + 1) (pc : Nat) q p = (q, p, true) := runP_out (by simp; omega)
theorem run_jump {now : Int} {cs : List Ins} {f pc c : Nat} (h : cs[pc]? = some ⟨8, 0, 0, (c : Nat)⟩) (q : List Msg) (p : Pr) : runP now cs (f + 1) (pc : Nat) q p = runP now cs f (c : Nat) q p := by
  rw [runP_at h]
  have e : stepP now ⟨8, 0, 0, (c : Nat)⟩ (pc : Nat) q p = (q, p, ((c : Nat) : Int), false) := by simp [stepP]
  rw [e, if_neg (by first | omega | (simp; done) | (simp; omega))]
theorem run_send {now : Int} {cs : List Ins} {f pc : Nat} {k : Int} (h : cs[pc]? = some ⟨1, k, 0, 0⟩) (q : List Msg) (p : Pr) : runP now cs (f + 1) (pc : Nat) q p = runP now cs f ((pc + 1 : Nat) : Int) (sendP q p k).1 (sendP q p k).2.1 := by
  rw [runP_at h]
  have e : stepP now ⟨1, k, 0, 0⟩ (pc : Nat) q p = ((sendP q p k).1, (sendP q p k).2.1, ((pc + 1 : Nat) : Int), false) := by simp [stepP]
  rw [e, if_neg (by first | omega | (simp; done) | (simp; omega))]
theorem run_set {now : Int} {cs : List Ins} {f pc a : Nat} {b : Int} (h : cs[pc]? = some ⟨4, (a : Nat), b, 0⟩) (q : List Msg) (p : Pr) : runP now cs (f + 1) (pc : Nat) q p = runP now cs f ((pc + 1 : Nat) : Int) q { p with regs := p.regs.set a b } := by
  rw [runP_at h]
  have e : stepP now ⟨4, (a : Nat), b, 0⟩ (pc : Nat) q p = (q, { p with regs := p.regs.set a b }, ((pc + 1 : Nat) : Int), false) := by simp [stepP, setP]
  rw [e, if_neg (by first | omega | (simp; done) | (simp; omega))]
theorem run_twice {now : Int} {cs : List Ins} {f pc a : Nat} (h : cs[pc]? = some ⟨5, (a : Nat), 0, 0⟩) (q : List Msg) (p : Pr) (hr : 2 * p.regs.getD a 0 ≤ 1000000) : runP now cs (f + 1) (pc : Nat) q p = runP now cs f ((pc + 1 : Nat) : Int) q { p with regs := p.regs.set a (2 * p.regs.getD a 0) } := by
  rw [runP_at h]
  have e : stepP now ⟨5, (a : Nat), 0, 0⟩ (pc : Nat) q p = (q, { p with regs := p.regs.set a (2 * p.regs.getD a 0) }, ((pc + 1 : Nat) : Int), false) := by
    have h1 : regP p ((a : Nat) : Int) = p.regs.getD a 0 := rfl
    simp only [stepP]
    rw [h1, if_neg (show ¬ 1000000 < 2 * p.regs.getD a 0 by omega)]
    simp [setP]
  rw [e, if_neg (by first | omega | (simp; done) | (simp; omega))]
theorem run_loop_on {now : Int} {cs : List Ins} {f pc a c : Nat} (h : cs[pc]? = some ⟨7, (a : Nat), 0, (c : Nat)⟩) (q : List Msg) (p : Pr) (hr : 1 < p.regs.getD a 0) : runP now cs (f + 1) (pc : Nat) q p = runP now cs f (c : Nat) q { p with regs := p.regs.set a (p.regs.getD a 0 - 1) } := by
  rw [runP_at h]
  have e : stepP now ⟨7, (a : Nat), 0, (c : Nat)⟩ (pc : Nat) q p = (q, { p with regs := p.regs.set a (p.regs.getD a 0 - 1) }, ((c : Nat) : Int), false) := by
    have h1 : regP p ((a : Nat) : Int) = p.regs.getD a 0 := rfl
    simp only [stepP]
    rw [h1, if_pos (show 0 < p.regs.getD a 0 by omega), if_pos (show 0 < p.regs.getD a 0 - 1 by omega)]
    simp [setP]
  rw [e, if_neg (by first | omega | (simp; done) | (simp; omega))]
theorem run_loop_out {now : Int} {cs : List Ins} {f pc a c : Nat} (h : cs[pc]? = some ⟨7, (a : Nat), 0, (c : Nat)⟩) (q : List Msg) (p : Pr) (hr : p.regs.getD a 0 = 1) : runP now cs (f + 1) (pc : Nat) q p = runP now cs f ((pc + 1 : Nat) : Int) q { p with regs := p.regs.set a 0 } := by
  rw [runP_at h]
  have e : stepP now ⟨7, (a : Nat), 0, (c : Nat)⟩ (pc : Nat) q p = (q, { p with regs := p.regs.set a 0 }, ((pc + 1 : Nat) : Int), false) := by
    have h1 : regP p ((a : Nat) : Int) = 1 := hr
    simp only [stepP]
    rw [h1]
    simp [setP]
  rw [e, if_neg (by first | omega | (simp; done) | (simp; omega))]
theorem run_wait {now : Int} {cs : List Ins} {f pc : Nat} {n : Int} (h : cs[pc]? = some ⟨2, n, 0, 0⟩) (q : List Msg) (p : Pr) : runP now cs (f + 1) (pc : Nat) q p = (q, { stopP p now n 0 with els := ((pc + 1 : Nat) : Int) }, false) := by
  rw [runP_at h]
  simp [stepP]
theorem run_end {now : Int} {cs : List Ins} {f pc : Nat} (h : cs[pc]? = some ⟨0, 0, 0, 0⟩) (q : List Msg) (p : Pr) : runP now cs (f + 1) (pc : Nat) q p = (q, p, true) := by
  rw [runP_at h]
  simp [stepP]
theorem run_ask_no {now : Int} {cs : List Ins} {f pc c : Nat} {k n : Int} (h : cs[pc]? = some ⟨3, k, n, (c : Nat)⟩) (q : List Msg) (p : Pr) (h0 : (sendP q p k).2.2 = 0) : runP now cs (f + 1) (pc : Nat) q p = runP now cs f (c : Nat) (sendP q p k).1 (sendP q p k).2.1 := by
  rw [runP_at h]
  have e : stepP now ⟨3, k, n, (c : Nat)⟩ (pc : Nat) q p = ((sendP q p k).1, (sendP q p k).2.1, ((c : Nat) : Int), false) := by simp [stepP, h0]
  rw [e, if_neg (by first | omega | (simp; done) | (simp; omega))]
theorem run_ask_yes {now : Int} {cs : List Ins} {f pc c : Nat} {k n : Int} (h : cs[pc]? = some ⟨3, k, n, (c : Nat)⟩) (q : List Msg) (p : Pr) (h0 : ¬ (sendP q p k).2.2 = 0) :
    runP now cs (f + 1) (pc : Nat) q p = ((sendP q p k).1, { stopP (sendP q p k).2.1 now n (sendP q p k).2.2 with tow := ((pc + 1 : Nat) : Int), els := ((c : Nat) : Int) }, false) := by
  rw [runP_at h]
  simp [stepP, h0]
theorem run_hold {now : Int} {cs : List Ins} {f pc c b : Nat} {k : Int} (h : cs[pc]? = some ⟨6, k, (b : Nat), (c : Nat)⟩) (q : List Msg) (p : Pr) (hr : 1 ≤ p.regs.getD b 0) :
    runP now cs (f + 1) (pc : Nat) q p = ((sendP q p k).1, { stopP (sendP q p k).2.1 now (p.regs.getD b 0) (sendP q p k).2.2 with tow := ((c : Nat) : Int), els := ((pc + 1 : Nat) : Int) }, false) := by
  rw [runP_at h]
  have h1 : regP p ((b : Nat) : Int) = p.regs.getD b 0 := rfl
  have h2 : maxI 1 (p.regs.getD b 0) = p.regs.getD b 0 := by unfold maxI; split <;> omega
  have e : stepP now ⟨6, k, (b : Nat), (c : Nat)⟩ (pc : Nat) q p = ((sendP q p k).1, { stopP (sendP q p k).2.1 now (p.regs.getD b 0) (sendP q p k).2.2 with tow := ((c : Nat) : Int), els := ((pc + 1 : Nat) : Int) }, -1, false) := by
    simp only [stepP]
    rw [h1, h2]
    simp
  rw [e, if_pos (by simp)]
theorem getD_set_same {l : List Int} {k : Nat} {v : Int} (h : k < l.length) : (l.set k v).getD k 0 = v := by simp [List.getD, h]
theorem getD_set_other {l : List Int} {k j : Nat} {v : Int} (h : j ≠ k) : (l.set k v).getD j 0 = l.getD j 0 := by
  simp only [List.getD]
  rw [List.getElem?_set_ne (fun e => h e.symm)]
/-- A block's code ahead of what follows. -/
theorem Rp.block {t : ByteArray} {cs : List Ins} {g : List Int} {d n j lv pc : Nat} {x : Tree d} {l : List It} (hs : Seg cs pc (compT t d x lv pc)) (ho : OkLv t d x lv) (h : Rp t cs g n j lv (pc + (compT t d x lv pc).length) l) : ∃ m, Rp t cs g m j lv pc (itsOf d x ++ l) := by
  cases d with
  | zero => exact ⟨n, h⟩
  | succ d => exact ⟨n + 1, Or.inr (Or.inr (Or.inl ⟨d, x, l, hs, ho, rfl, h⟩))⟩
theorem Rp.jump {t : ByteArray} {cs : List Ins} {g : List Int} {n j lv pc c : Nat} {l : List It} (hc : cs[pc]? = some ⟨8, 0, 0, (c : Nat)⟩) (h : Rp t cs g n j lv c l) : Rp t cs g (n + 1) (j + 1) lv pc l := Or.inr (Or.inl ⟨j, c, rfl, hc, h⟩)
/-- What both leave. -/
structure Out (t : ByteArray) (cs : List Ins) (B : Nat) (c : List Msg × Pr × Bool) (d : List Msg × TR × Bool) : Prop where
  q : c.1 = d.1
  done : c.2.2 = d.2.2
  id : c.2.1.id = d.2.1.p.id
  tied : c.2.2 = false → Tied t cs B c.2.1 d.2.1
theorem GoodHd.kind {t : ByteArray} {h : Hd} (g : GoodHd t h) : bytesOf t h.p = kSend ∨ bytesOf t h.p = kWait ∨ bytesOf t h.p = kStop ∨ bytesOf t h.p = kAsk ∨ bytesOf t h.p = kRetry ∨ bytesOf t h.p = kRepeat := by
  rcases g with ⟨h, _⟩ | ⟨h, _⟩ | ⟨h, _⟩ | ⟨h, _⟩ | ⟨h, _⟩ | ⟨h, _⟩
  · exact Or.inl h
  · exact Or.inr (Or.inl h)
  · exact Or.inr (Or.inr (Or.inl h))
  · exact Or.inr (Or.inr (Or.inr (Or.inl h)))
  · exact Or.inr (Or.inr (Or.inr (Or.inr (Or.inl h))))
  · exact Or.inr (Or.inr (Or.inr (Or.inr (Or.inr h))))
theorem doT_nil (t : ByteArray) (now : Int) (g : Nat) (q : List Msg) (r : TR) : doT t now (g + 1) [] q r = (q, r, true) := rfl
theorem doT_send {t : ByteArray} {now : Int} {g : Nat} {x : It} {l : List It} {q : List Msg} {r : TR} (h : bytesOf t x.s.1.p = kSend) : doT t now (g + 1) (x :: l) q r = doT t now g l (sendP q r.p x.s.1.key).1 { r with p := (sendP q r.p x.s.1.key).2.1 } := by
  rw [doT, if_pos h]
theorem doT_wait {t : ByteArray} {now : Int} {g : Nat} {x : It} {l : List It} {q : List Msg} {r : TR} (h : bytesOf t x.s.1.p = kWait) : doT t now (g + 1) (x :: l) q r = (q, { r with p := stopP r.p now x.s.1.n 0, no := l }, false) := by
  rw [doT, h]; rfl
theorem doT_stop {t : ByteArray} {now : Int} {g : Nat} {x : It} {l : List It} {q : List Msg} {r : TR} (h : bytesOf t x.s.1.p = kStop) : doT t now (g + 1) (x :: l) q r = (q, r, true) := by
  rw [doT, h]; rfl
theorem doT_ask_no {t : ByteArray} {now : Int} {g : Nat} {x : It} {l : List It} {q : List Msg} {r : TR} (h : bytesOf t x.s.1.p = kAsk) (h0 : (sendP q r.p x.s.1.key).2.2 = 0) : doT t now (g + 1) (x :: l) q r = doT t now g (itsOf x.d x.s.2.2 ++ l) (sendP q r.p x.s.1.key).1 { r with p := (sendP q r.p x.s.1.key).2.1 } := by
  rw [doT, h]; simp only [h0]; rfl
theorem doT_ask_yes {t : ByteArray} {now : Int} {g : Nat} {x : It} {l : List It} {q : List Msg} {r : TR} (h : bytesOf t x.s.1.p = kAsk) (h0 : ¬ (sendP q r.p x.s.1.key).2.2 = 0) :
    doT t now (g + 1) (x :: l) q r = ((sendP q r.p x.s.1.key).1, ⟨stopP (sendP q r.p x.s.1.key).2.1 now x.s.1.n (sendP q r.p x.s.1.key).2.2, itsOf x.d x.s.2.1 ++ l, itsOf x.d x.s.2.2 ++ l⟩, false) := by
  rw [doT, h]; simp only [if_neg h0]; rfl
theorem doT_retry_out {t : ByteArray} {now : Int} {g : Nat} {x : It} {l : List It} {q : List Msg} {r : TR} (h : bytesOf t x.s.1.p = kRetry) (h0 : (x.i : Int) = x.s.1.m) : doT t now (g + 1) (x :: l) q r = doT t now g (itsOf x.d x.s.2.2 ++ l) q r := by
  rw [doT, h]; simp only [if_pos h0]; rfl
theorem doT_retry_on {t : ByteArray} {now : Int} {g : Nat} {x : It} {l : List It} {q : List Msg} {r : TR} (h : bytesOf t x.s.1.p = kRetry) (h0 : ¬ (x.i : Int) = x.s.1.m) :
    doT t now (g + 1) (x :: l) q r = ((sendP q r.p x.s.1.key).1, ⟨stopP (sendP q r.p x.s.1.key).2.1 now (x.s.1.n * 2 ^ x.i) (sendP q r.p x.s.1.key).2.2, itsOf x.d x.s.2.1 ++ l, ⟨x.d, x.s, x.i + 1⟩ :: l⟩, false) := by
  rw [doT, h]; simp only [if_neg h0]; rfl
theorem doT_repeat_on {t : ByteArray} {now : Int} {g : Nat} {x : It} {l : List It} {q : List Msg} {r : TR} (h : bytesOf t x.s.1.p = kRepeat) (h0 : (x.i : Int) < x.s.1.n) : doT t now (g + 1) (x :: l) q r = doT t now g (itsOf x.d x.s.2.1 ++ ⟨x.d, x.s, x.i + 1⟩ :: l) q r := by
  rw [doT, h]; simp only [if_pos h0]; rfl
theorem doT_repeat_out {t : ByteArray} {now : Int} {g : Nat} {x : It} {l : List It} {q : List Msg} {r : TR} (h : bytesOf t x.s.1.p = kRepeat) (h0 : ¬ (x.i : Int) < x.s.1.n) : doT t now (g + 1) (x :: l) q r = doT t now g l q r := by
  rw [doT, h]; simp only [if_neg h0]; rfl
theorem FL.mono {b c : Int} {l : List (Int × Int)} (h : FL b l) (hb : b ≤ c) : FL c l := fun A acc hA h2 => by
  have h3 := h A acc hA h2
  exact ⟨by have := h3.1; omega, by have := h3.2; omega⟩
section
variable {e : Nat} {c m : Int} {kk : Nat}
end
end Go.Proofs.Herald
namespace Go.Proofs.Ytmmmnghiegajmab
open Go.RowKit Go.Proofs.Herald
theorem CodeIn.fr {w w' : World} {a : Option Addr} {b off S : Nat} {cs : List Ins} (h : CodeIn w a b off cs) (hb : Fr (fun k => k = S) w w') (hS : 0 < cs.length → b ≠ S) : CodeIn w' a b off cs := fun hp =>
  ⟨(h hp).1, Nat.lt_of_lt_of_le (h hp).2.1 hb.size, (h hp).2.2.keep (hb.block _ (h hp).2.1 (hS hp))⟩
open Go.RowKit Go.Proofs.Herald
open Go.RowKit Go.Proofs.Herald
end Go.Proofs.Ytmmmnghiegajmab
