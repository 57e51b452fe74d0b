/- The document's own herald and a plain one: what the calls have in common. -/
import Derived.Test.YtmmmnghiegajmaaSimA
import Derived.Test.YtmmmnghiegajmaaEngN
import Derived.Test.YtmmmnghiegajmaaJrnC
import Derived.Test.YtmmmnghiegajmaaSemA
namespace Go.Proofs.Ytmmmnghiegajmaa
open Go.RowKit Go.Proofs.Herald

/-- A kind of runs in the document's own memory; what is below B0 is older than the herald. -/
structure Mode (RT : Type) where
  E : Eng RT
  s : Sd
  B0 : Nat
  link : World → Rs → RT → Prop

/-- What is not a herald's own stays: old memory, statements, items. -/
def Still (B0 : Nat) (w w' : World) : Prop :=
  ∀ k, k < w.heap.size → (k < B0 ∨ ∃ c t z, w.heap[k]? = some (.cells c t z) ∧ (t = 229 ∨ t = 169)) → w'.heap[k]? = w.heap[k]?

structure ModeOk {RT : Type} (M : Mode RT) : Prop where
  pub : ∀ w x r, M.link w x r → M.E.pub r = pubP x.p
  keep : ∀ w w' x r, M.link w x r → Still M.B0 w w' → M.link w' x r
  eid : ∀ now yes q r, (M.E.pub (M.E.on now yes q r).2.1).id = (M.E.pub r).id
  on : ∀ (S Q : Nat) (pv : Value) (rec : ByteArray) (now last : Int) (qv : Nat → Value) (qs : Nat → List Msg) (rs : List Rs) (w : World) (x : Rs) (r : RT) (d : Nat) (yes : Bool), SimAt w S Q M.s pv rec now last qv qs rs → (∀ k, ownS S Q pv qv rs k → M.B0 ≤ k) → x ∈ rs → M.link w x r →
    d < 3 → x.p.dev = (d : Nat) → (qs d).length ≤ 4 → 0 ≤ x.p.sent → x.p.sent ≤ 999999999999990000 → 0 ≤ now → now ≤ 1000000000 → rs.length ≤ 1000 → (yes = true → x.p.num ≠ 0) →
    Calls Try.prog 125 #[.pointer (some ⟨S, 0, none⟩), .pointer (some ⟨x.P, 0, none⟩), .bool yes] w fun e w' => e = .returned (.tuple #[]) ∧
      ∃ x' v pv', RunOut w w' S Q M.s pv rec now last qv qs (idsOf rs) x d (M.E.on now yes (qs d) r).1 x' (M.E.on now yes (qs d) r).2.2 v pv' ∧ ((M.E.on now yes (qs d) r).2.2 = false → M.link w' x' (M.E.on now yes (qs d) r).2.1)

/-- The document's own herald is as the plain one. -/
structure SimH {RT : Type} (M : Mode RT) (w : World) (S Q : Nat) (rec : ByteArray) (h : Her RT) (pv : Value) (qv : Nat → Value) (rs : List Rs) : Prop where
  at' : SimAt w S Q M.s pv rec h.now h.last qv h.qs rs
  base : ∀ k, ownS S Q pv qv rs k → M.B0 ≤ k
  rel : relL (M.link w) rs h.rs

/-- Behind a call: it is as a plain one; what it wrote was its own. -/
structure SimOut {RT : Type} (M : Mode RT) (w : World) (S Q : Nat) (pv : Value) (qv : Nat → Value) (rs : List Rs) (rec : ByteArray) (h : Her RT) (w' : World) : Prop where
  ex : ∃ pv' qv' rs', SimH M w' S Q rec h pv' qv' rs' ∧ ∀ k, ownS S Q pv' qv' rs' k → ownS S Q pv qv rs k ∨ w.heap.size ≤ k
  fr : Fr (ownS S Q pv qv rs) w w'

theorem SimOut.same {RT : Type} {M : Mode RT} {w w' : World} {S Q : Nat} {pv : Value} {qv : Nat → Value} {rs : List Rs} {rec : ByteArray} {h : Her RT} (H : SimH M w S Q rec h pv qv rs) (hs : SameH w w') (hk : ∀ x r, M.link w x r → M.link w' x r) : SimOut M w S Q pv qv rs rec h w' := by
  refine ⟨⟨pv, qv, rs, ⟨H.at'.keep fun k _ => by rw [hs.heap], H.base, ?_⟩, fun k hk => .inl hk⟩, ⟨hs.os, hs.tape, hs.output, by rw [hs.heap]; exact Nat.le_refl _, fun k _ _ => by rw [hs.heap]⟩⟩
  have : ∀ {l : List Rs} {m : List RT}, relL (M.link w) l m → relL (M.link w') l m := by
    intro l
    induction l with
    | nil => intro m h; cases m with | nil => trivial | cons _ _ => exact h.elim
    | cons a l ih => intro m h; cases m with | nil => exact h.elim | cons b m => exact ⟨hk _ _ h.1, ih h.2⟩
  exact this H.rel

theorem relL_imp {A B : Type} {ρ σ : A → B → Prop} : ∀ {l : List A} {m : List B}, (∀ a b, ρ a b → σ a b) → relL ρ l m → relL σ l m
  | [], [], _, _ => trivial
  | _ :: _, _ :: _, hi, h => ⟨hi _ _ h.1, relL_imp hi h.2⟩
  | [], _ :: _, _, h => h.elim
  | _ :: _, [], _, h => h.elim

/-- What a herald's own calls write leaves old memory, statements and items alone. -/
theorem SimAt.still {w w' : World} {S Q : Nat} {s : Sd} {pv : Value} {rec : ByteArray} {now last : Int} {qv : Nat → Value} {qs : Nat → List Msg} {rs : List Rs} {B0 : Nat} (h : SimAt w S Q s pv rec now last qv qs rs) (hb : ∀ k, ownS S Q pv qv rs k → B0 ≤ k) (hf : Fr (ownS S Q pv qv rs) w w') : Still B0 w w' := by
  intro k hk hd
  refine hf.block k hk fun ho => ?_
  rcases hd with hd | ⟨c, t, z, hc, ht⟩
  · have := hb k ho; omega
  · obtain ⟨c2, t2, hc2, ht2⟩ := h.sort ho
    rw [hc] at hc2
    simp only [Option.some.injEq, Obj.cells.injEq] at hc2
    obtain ⟨_, rfl, _⟩ := hc2
    rcases ht with rfl | rfl
    · revert ht2; decide
    · revert ht2; decide

/-- The run of a number, in memory and plain. -/
theorem find_link {RT : Type} {M : Mode RT} (hM : ModeOk M) {w : World} (id : Int) : ∀ {rs : List Rs} {l : List RT}, relL (M.link w) rs l →
    ((idsOf rs).find? (fun x => x.2 == id) = none ∧ findR M.E l id = none) ∨ ∃ x r, x ∈ rs ∧ r ∈ l ∧ (idsOf rs).find? (fun x => x.2 == id) = some (x.P, x.p.id) ∧ findR M.E l id = some r ∧ M.link w x r ∧ x.p.id = id := by
  intro rs
  induction rs with
  | nil =>
    intro l h
    cases l with
    | nil => exact .inl ⟨rfl, rfl⟩
    | cons _ _ => exact h.elim
  | cons x rs ih =>
    intro l h
    cases l with
    | nil => exact h.elim
    | cons r l =>
      have hp := hM.pub w x r h.1
      by_cases hid : x.p.id = id
      · right
        refine ⟨x, r, List.mem_cons_self .., List.mem_cons_self .., ?_, ?_, h.1, hid⟩
        · simp [idsOf, hid]
        · unfold findR
          rw [List.find?_cons, hp]
          simp [pubP, hid]
      · have e1 : (idsOf (x :: rs)).find? (fun x => x.2 == id) = (idsOf rs).find? (fun x => x.2 == id) := by
          simp [idsOf, hid]
        have e2 : findR M.E (r :: l) id = findR M.E l id := by
          have hb : ((pubP x.p).id == id) = false := by simpa [pubP] using hid
          unfold findR
          rw [List.find?_cons, hp, hb]
        rw [e1, e2]
        rcases ih h.2 with h1 | ⟨y, s, hy, hs, h1⟩
        · exact .inl h1
        · exact .inr ⟨y, s, List.mem_cons_of_mem _ hy, List.mem_cons_of_mem _ hs, h1⟩

/-- A record more is written down. -/
theorem sim_wrote {RT : Type} {M : Mode RT} (hM : ModeOk M) (S Q : Nat) (rec : ByteArray) (h : Her RT) (pv : Value) (qv : Nat → Value) (rs : List Rs) (c a b : Int) (w : World) (H : SimH M w S Q rec h pv qv rs) (hr : rec.size ≤ 1000000000000) :
    Calls Try.prog 120 #[.pointer (some ⟨S, 0, none⟩), .int .u8 c, .int .i64 a, .int .i64 b] w fun e w' => e = .returned (.tuple #[]) ∧ SimH M w' S Q (rec ++ recS c a b) h pv qv rs ∧ Fr (fun k => k = S) w w' := by
  refine (wrote_any S _ rec c a b w H.at'.sB rfl hr).mono ?_
  rintro e w' ⟨rfl, hS, hf⟩
  have hfo : Fr (ownS S Q pv qv rs) w w' := hf.mono fun k _ hk => .inl hk
  refine ⟨rfl, ⟨H.at'.setS hS fun k ho hk => hf.block k (H.at'.lt ho) hk, H.base, relL_imp (fun x r hl => hM.keep w w' x r hl (H.at'.still H.base hfo)) H.rel⟩, hf⟩

/-- Runs in memory, by what is told of them. -/
def memE : Eng Rs := ⟨fun x => pubP x.p, fun _ _ => ⟨0, 0, .slice none 0 0, .slice none 0 0, freshP 0 0⟩, fun _ q r => (q, r, true), fun _ _ q r => (q, r, true)⟩

theorem afterRs_mem (rs : List Rs) (x : Rs) (done : Bool) : afterRs rs x done = afterR memE rs x done := rfl

/-- A run went on, or did something else: seen of both. -/
theorem SimH.after {RT : Type} {M : Mode RT} (hM : ModeOk M) {w w' : World} {S Q : Nat} {rec : ByteArray} {h : Her RT} {pv : Value} {qv : Nat → Value} {rs : List Rs} (H : SimH M w S Q rec h pv qv rs) {x x' : Rs} {r' : RT} {d : Nat} {q' : List Msg} {done : Bool} {v pv' : Value} (hx : x ∈ rs) (hd : d < 3)
    (ho : RunOut w w' S Q M.s pv rec h.now h.last qv h.qs (idsOf rs) x d q' x' done v pv') (hid : (M.E.pub r').id = x.p.id) (hl : done = false → M.link w' x' r') :
    SimH M w' S Q rec { h with qs := updQ h.qs d q', rs := afterR M.E h.rs r' done } pv' (upd qv d v) (afterRs rs x' done) ∧ Fr (ownS S Q pv qv rs) w w' ∧ ∀ k, ownS S Q pv' (upd qv d v) (afterRs rs x' done) k → ownS S Q pv qv rs k ∨ w.heap.size ≤ k := by
  obtain ⟨h1, h2, h3⟩ := H.at'.after hx hd ho
  have hst := H.at'.still H.base h2
  have hpub : ∀ a b, M.link w' a b → memE.pub a = M.E.pub b := fun a b hab => (hM.pub w' a b hab).symm
  refine ⟨⟨h1, fun k hk => ?_, ?_⟩, h2, h3⟩
  · rcases h3 k hk with h4 | h4
    · exact H.base k h4
    · have := H.base S (.inl rfl)
      have := heap_lt H.at'.sB
      omega
  · rw [afterRs_mem]
    exact relL_after hpub (relL_imp (fun a b hab => hM.keep w w' a b hab hst) H.rel) (by rw [hid]; exact ho.id) hl

end Go.Proofs.Ytmmmnghiegajmaa
