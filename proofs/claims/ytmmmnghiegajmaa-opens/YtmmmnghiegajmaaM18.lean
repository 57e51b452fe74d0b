import Derived.Test.YtmmmnghiegajmaaM16
import Derived.Test.YtmmmnghiegajmaaM12
import Derived.Test.YtmmmnghiegajmaaM08
import Derived.Test.YtmmmnghiegajmaaM13
/- The document's own herald and a plain one: what the calls have in common. -/
namespace Go.Proofs.Ytmmmnghiegajmaa
open Go.RowKit Go.Proofs.Herald
/-- A kind of runs in the document's own memory; what is below B0 is older than the herald. -/
structure Mode (RT : Type) where
  E : Eng RT
  s : Sd
  B0 : Nat
  link : World → Rs → RT → Prop
/-- What is not a herald's own stays: old memory, statements, items. -/
def Still (B0 : Nat) (w w' : World) : Prop :=
  ∀ k, k < w.heap.size → (k < B0 ∨ ∃ c t z, w.heap[k]? = some (.cells c t z) ∧ (t = 229 ∨ t = 169)) → w'.heap[k]? = w.heap[k]?
structure ModeOk {RT : Type} (M : Mode RT) : Prop where
  pub : ∀ w x r, M.link w x r → M.E.pub r = pubP x.p
  keep : ∀ w w' x r, M.link w x r → Still M.B0 w w' → M.link w' x r
  eid : ∀ now yes q r, (M.E.pub (M.E.on now yes q r).2.1).id = (M.E.pub r).id
  on : ∀ (S Q : Nat) (pv : Value) (rec : ByteArray) (now last : Int) (qv : Nat → Value) (qs : Nat → List Msg) (rs : List Rs) (w : World) (x : Rs) (r : RT) (d : Nat) (yes : Bool), SimAt w S Q M.s pv rec now last qv qs rs → (∀ k, ownS S Q pv qv rs k → M.B0 ≤ k) → x ∈ rs → M.link w x r →
    d < 3 → x.p.dev = (d : Nat) → (qs d).length ≤ 4 → 0 ≤ x.p.sent → x.p.sent ≤ 999999999999990000 → 0 ≤ now → now ≤ 1000000000 → rs.length ≤ 1000 → (yes = true → x.p.num ≠ 0) →
    Calls Try.prog 125 #[.pointer (some ⟨S, 0, none⟩), .pointer (some ⟨x.P, 0, none⟩), .bool yes] w fun e w' => e = .returned (.tuple #[]) ∧
      ∃ x' v pv', RunOut w w' S Q M.s pv rec now last qv qs (idsOf rs) x d (M.E.on now yes (qs d) r).1 x' (M.E.on now yes (qs d) r).2.2 v pv' ∧ ((M.E.on now yes (qs d) r).2.2 = false → M.link w' x' (M.E.on now yes (qs d) r).2.1)
/-- The document's own herald is as the plain one. -/
structure SimH {RT : Type} (M : Mode RT) (w : World) (S Q : Nat) (rec : ByteArray) (h : Her RT) (pv : Value) (qv : Nat → Value) (rs : List Rs) : Prop where
  at' : SimAt w S Q M.s pv rec h.now h.last qv h.qs rs
  base : ∀ k, ownS S Q pv qv rs k → M.B0 ≤ k
  rel : relL (M.link w) rs h.rs
/-- Behind a call: it is as a plain one; what it wrote was its own. -/
structure SimOut {RT : Type} (M : Mode RT) (w : World) (S Q : Nat) (pv : Value) (qv : Nat → Value) (rs : List Rs) (rec : ByteArray) (h : Her RT) (w' : World) : Prop where
  ex : ∃ pv' qv' rs', SimH M w' S Q rec h pv' qv' rs' ∧ ∀ k, ownS S Q pv' qv' rs' k → ownS S Q pv qv rs k ∨ w.heap.size ≤ k
  fr : Fr (ownS S Q pv qv rs) w w'
theorem SimOut.same {RT : Type} {M : Mode RT} {w w' : World} {S Q : Nat} {pv : Value} {qv : Nat → Value} {rs : List Rs} {rec : ByteArray} {h : Her RT} (H : SimH M w S Q rec h pv qv rs) (hs : SameH w w') (hk : ∀ x r, M.link w x r → M.link w' x r) : SimOut M w S Q pv qv rs rec h w' := by
  refine ⟨⟨pv, qv, rs, ⟨H.at'.keep fun k _ => by rw [hs.heap], H.base, ?_⟩, fun k hk => .inl hk⟩, ⟨hs.os, hs.tape, hs.output, by rw [hs.heap]; exact Nat.le_refl _, fun k _ _ => by rw [hs.heap]⟩⟩
  have : ∀ {l : List Rs} {m : List RT}, relL (M.link w) l m → relL (M.link w') l m := by
    intro l
    induction l with
    | nil => intro m h; cases m with | nil => trivial | cons _ _ => exact h.elim
    | cons a l ih => intro m h; cases m with | nil => exact h.elim | cons b m => exact ⟨hk _ _ h.1, ih h.2⟩
  exact this H.rel
theorem relL_imp {A B : Type} {ρ σ : A → B → Prop} : ∀ {l : List A} {m : List B}, (∀ a b, ρ a b → σ a b) → relL ρ l m → relL σ l m
  | [], [], _, _ => trivial
  | _ :: _, _ :: _, hi, h => ⟨hi _ _ h.1, relL_imp hi h.2⟩
  | [], _ :: _, _, h => h.elim
  | _ :: _, [], _, h => h.elim
/-- What a herald's own calls write leaves old memory, statements and items alone. -/
theorem SimAt.still {w w' : World} {S Q : Nat} {s : Sd} {pv : Value} {rec : ByteArray} {now last : Int} {qv : Nat → Value} {qs : Nat → List Msg} {rs : List Rs} {B0 : Nat} (h : SimAt w S Q s pv rec now last qv qs rs) (hb : ∀ k, ownS S Q pv qv rs k → B0 ≤ k) (hf : Fr (ownS S Q pv qv rs) w w') : Still B0 w w' := by
  intro k hk hd
  refine hf.block k hk fun ho => ?_
  rcases hd with hd | ⟨c, t, z, hc, ht⟩
  · have := hb k ho; omega
  · obtain ⟨c2, t2, hc2, ht2⟩ := h.sort ho
    rw [hc] at hc2
    simp only [Option.some.injEq, Obj.cells.injEq] at hc2
    obtain ⟨_, rfl, _⟩ := hc2
    rcases ht with rfl | rfl
    · revert ht2; decide
    · revert ht2; decide
/-- The run of a number, in memory and plain. -/
theorem find_link {RT : Type} {M : Mode RT} (hM : ModeOk M) {w : World} (id : Int) : ∀ {rs : List Rs} {l : List RT}, relL (M.link w) rs l →
    ((idsOf rs).find? (fun x => x.2 == id) = none ∧ findR M.E l id = none) ∨ ∃ x r, x ∈ rs ∧ r ∈ l ∧ (idsOf rs).find? (fun x => x.2 == id) = some (x.P, x.p.id) ∧ findR M.E l id = some r ∧ M.link w x r ∧ x.p.id = id := by
  intro rs
  induction rs with
  | nil =>
    intro l h
    cases l with
    | nil => exact .inl ⟨rfl, rfl⟩
    | cons _ _ => exact h.elim
  | cons x rs ih =>
    intro l h
    cases l with
    | nil => exact h.elim
    | cons r l =>
      have hp := hM.pub w x r h.1
      by_cases hid : x.p.id = id
      · right
        refine ⟨x, r, List.mem_cons_self .., List.mem_cons_self .., ?_, ?_, h.1, hid⟩
        · simp [idsOf, hid]
        · unfold findR
          rw [List.find?_cons, hp]
          simp [pubP, hid]
      · have e1 : (idsOf (x :: rs)).find? (fun x => x.2 == id) = (idsOf rs).find? (fun x => x.2 == id) := by
          simp [idsOf, hid]
        have e2 : findR M.E (r :: l) id = findR M.E l id := by
          have hb : ((pubP x.p).id == id) = false := by simpa [pubP] using hid
          unfold findR
          rw [List.find?_cons, hp, hb]
        rw [e1, e2]
        rcases ih h.2 with h1 | ⟨y, s, hy, hs, h1⟩
        · exact .inl h1
        · exact .inr ⟨y, s, List.mem_cons_of_mem _ hy, List.mem_cons_of_mem _ hs, h1⟩
/-- A record more is written down. -/
theorem sim_wrote {RT : Type} {M : Mode RT} (hM : ModeOk M) (S Q : Nat) (rec : ByteArray) (h : Her RT) (pv : Value) (qv : Nat → Value) (rs : List Rs) (c a b : Int) (w : World) (H : SimH M w S Q rec h pv qv rs) (hr : rec.size ≤ 1000000000000) :
    Calls Try.prog 120 #[.pointer (some ⟨S, 0, none⟩), .int .u8 c, .int .i64 a, .int .i64 b] w fun e w' => e = .returned (.tuple #[]) ∧ SimH M w' S Q (rec ++ recS c a b) h pv qv rs ∧ Fr (fun k => k = S) w w' := by
  refine (wrote_any S _ rec c a b w H.at'.sB rfl hr).mono ?_
  rintro e w' ⟨rfl, hS, hf⟩
  have hfo : Fr (ownS S Q pv qv rs) w w' := hf.mono fun k _ hk => .inl hk
  refine ⟨rfl, ⟨H.at'.setS hS fun k ho hk => hf.block k (H.at'.lt ho) hk, H.base, relL_imp (fun x r hl => hM.keep w w' x r hl (H.at'.still H.base hfo)) H.rel⟩, hf⟩
/-- Runs in memory, by what is told of them. -/
def memE : Eng Rs := ⟨fun x => pubP x.p, fun _ _ => ⟨0, 0, .slice none 0 0, .slice none 0 0, freshP 0 0⟩, fun _ q r => (q, r, true), fun _ _ q r => (q, r, true)⟩
theorem afterRs_mem (rs : List Rs) (x : Rs) (done : Bool) : afterRs rs x done = afterR memE rs x done := rfl
/-- A run went on, or did something else: seen of both. -/
theorem SimH.after {RT : Type} {M : Mode RT} (hM : ModeOk M) {w w' : World} {S Q : Nat} {rec : ByteArray} {h : Her RT} {pv : Value} {qv : Nat → Value} {rs : List Rs} (H : SimH M w S Q rec h pv qv rs) {x x' : Rs} {r' : RT} {d : Nat} {q' : List Msg} {done : Bool} {v pv' : Value} (hx : x ∈ rs) (hd : d < 3)
    (ho : RunOut w w' S Q M.s pv rec h.now h.last qv h.qs (idsOf rs) x d q' x' done v pv') (hid : (M.E.pub r').id = x.p.id) (hl : done = false → M.link w' x' r') :
    SimH M w' S Q rec { h with qs := updQ h.qs d q', rs := afterR M.E h.rs r' done } pv' (upd qv d v) (afterRs rs x' done) ∧ Fr (ownS S Q pv qv rs) w w' ∧ ∀ k, ownS S Q pv' (upd qv d v) (afterRs rs x' done) k → ownS S Q pv qv rs k ∨ w.heap.size ≤ k := by
  obtain ⟨h1, h2, h3⟩ := H.at'.after hx hd ho
  have hst := H.at'.still H.base h2
  have hpub : ∀ a b, M.link w' a b → memE.pub a = M.E.pub b := fun a b hab => (hM.pub w' a b hab).symm
  refine ⟨⟨h1, fun k hk => ?_, ?_⟩, h2, h3⟩
  · rcases h3 k hk with h4 | h4
    · exact H.base k h4
    · have := H.base S (.inl rfl)
      have := heap_lt H.at'.sB
      omega
  · rw [afterRs_mem]
    exact relL_after hpub (relL_imp (fun a b hab => hM.keep w w' a b hab hst) H.rel) (by rw [hid]; exact ho.id) hl
end Go.Proofs.Ytmmmnghiegajmaa
/- The document's own herald: Cancel, Ack. -/
namespace Go.Proofs.Ytmmmnghiegajmaa
open Go.RowKit Go.Proofs.Herald
theorem relL_mem {A B : Type} {ρ : A → B → Prop} {a : A} : ∀ {l : List A} {m : List B}, relL ρ l m → a ∈ l → ∃ b ∈ m, ρ a b
  | [], _, _, ha => by cases ha
  | x :: l, y :: m, h, ha => by
    rcases List.mem_cons.mp ha with rfl | ha
    · exact ⟨y, List.mem_cons_self .., h.1⟩
    · obtain ⟨b, hb, hr⟩ := relL_mem h.2 ha
      exact ⟨b, List.mem_cons_of_mem _ hb, hr⟩
  | _ :: _, [], h, _ => h.elim
def recAfter (rec : ByteArray) (e c a b : Int) : ByteArray := if e = 0 then rec ++ recS c a b else rec
set_option maxHeartbeats 1000000 in
theorem sim_cancel {RT : Type} {M : Mode RT} {G : RT → Prop} (hM : ModeOk M) (S Q : Nat) (rec : ByteArray) (h : Her RT) (pv : Value) (qv : Nat → Value) (rs : List Rs) (id C : Int) (w : World) (H : SimH M w S Q rec h pv qv rs) (hI : HOk M.E G C h) (hr : rec.size ≤ 1000000000000) :
    Calls Try.prog 93 #[.pointer (some ⟨S, 0, none⟩), .int .i64 id] w fun e w' => e = .returned (.int .i64 (cancelH M.E h id).1) ∧ SimOut M w S Q pv qv rs (recAfter rec (cancelH M.E h id).1 67 id 0) (cancelH M.E h id).2 w' := by
  have hlen : rs.length ≤ 5 := by rw [relL_len H.rel]; exact hI.len
  have hidl : (idsOf rs).length ≤ 1000 := by unfold idsOf; rw [List.length_map]; omega
  have c5 : w.cell? ⟨S, 5, none⟩ = some pv := (cell_of_heap H.at'.sB).trans rfl
  have HFI : Hid (Calls Try.prog 126 #[.pointer (some ⟨S, 0, none⟩), .int .i64 id] w fun e w' => e = .returned (ptrOf ((idsOf rs).find? fun x => x.2 == id)) ∧ SameH w w') := s_find S pv (idsOf rs) id w c5 H.at'.procs hidl
  have HH : Hid (SimH M w S Q rec h pv qv rs) := H
  rcases find_link hM id H.rel with ⟨f1, f2⟩ | ⟨x, r, hx, hrm, f1, f2, hlk, hid⟩
  · have HE : Hid (cancelH M.E h id = (10, h)) := by show _ = _; unfold cancelH; rw [f2]
    rw [f1] at HFI
    clear f1 f2 c5 H hI
    rw [HE.out]
    go_enter Try.func93, Try.ntmps93
    go_wp2_with fail
    refine HFI.out.mono ?_
    rintro e w1 ⟨rfl, hs1⟩
    have HS1 : Hid (SameH w w1) := hs1
    clear hs1
    have hp : ptrOf none = .pointer none := rfl
    rw [hp]
    go_wp2_with fail
    go_ret
    exact ⟨rfl, SimOut.same HH.out HS1.out fun x r hl => hM.keep w w1 x r hl fun k _ _ => by rw [HS1.out.heap]⟩
  · have hpub := hM.pub w x r hlk
    have hdev := hI.dev r hrm
    rw [hpub] at hdev
    obtain ⟨d, hdd⟩ : ∃ d : Nat, x.p.dev = (d : Nat) := ⟨x.p.dev.toNat, by have := hdev.1; simp only [pubP] at this; omega⟩
    have hd3 : d < 3 := by have := hdev.2; simp only [pubP] at this; omega
    have hq4 := hI.qlen d
    have HE : Hid (cancelH M.E h id = (0, { h with qs := updQ h.qs d (takeQ (h.qs d) x.p.id 0), rs := afterR M.E h.rs r true })) := by
      show _ = _
      unfold cancelH
      rw [f2]
      simp only
      rw [hpub]
      have e1 : (pubP x.p).dev.toNat = d := by simp only [pubP]; omega
      rw [e1, ← hid]
      have e2 : afterR M.E h.rs r true = h.rs.filter (fun y => (M.E.pub y).id != x.p.id) := by unfold afterR; rw [hpub]; rfl
      rw [e2]
    rw [f1] at HFI
    have HX : Hid (x ∈ rs ∧ (M.E.pub r).id = x.p.id) := ⟨hx, by rw [hpub]; rfl⟩
    clear f1 f2 c5 H hI hx hrm hlk hpub hdev
    rw [HE.out]
    go_enter Try.func93, Try.ntmps93
    go_wp2_with fail
    refine HFI.out.mono ?_
    rintro e w1 ⟨rfl, hs1⟩
    have HS1 : Hid (SameH w w1) := hs1
    clear hs1
    have hp : ptrOf (some (x.P, x.p.id)) = .pointer (some ⟨x.P, 0, none⟩) := rfl
    rw [hp]
    have HC1 : Hid (SimCore w1 S Q x.P x.R (M.s.md x.yv x.nv) pv rec h.now h.last qv h.qs x.p) := (HH.out.at'.core HX.out.1).keep fun k _ => by rw [HS1.out.heap]
    go_wp2_with fail
    refine (s_take S Q x.P x.R _ pv rec h.now h.last qv h.qs x.p 0 d w1 HC1.out hd3 hdd hq4).mono ?_
    rintro e w2 ⟨rfl, v, hC2, hv2, hf2⟩
    have HP2 : Hid (ProcsAt w2 pv (idsOf rs)) := by
      have hp1 : ProcsAt w1 pv (idsOf rs) := ⟨own_keep HH.out.at'.procs.own fun b _ => by rw [HS1.out.heap], fun y hy => by rw [HS1.out.heap]; exact HH.out.at'.procs.ids y hy⟩
      exact hp1.after HC1.out hC2 rfl hd3 (hf2.mono fun k _ hk => .inr (.inl hk))
    have H2 : Hid (SimCore w2 S Q x.P x.R (M.s.md x.yv x.nv) pv rec h.now h.last (upd qv d v) (upd h.qs d (takeQ (h.qs d) x.p.id 0)) x.p ∧ (∀ b, v.ownBlock = some b → w1.heap.size ≤ b) ∧ Fr (fun k => k = Q) w1 w2) := ⟨hC2, hv2, hf2⟩
    clear hC2 hv2 hf2
    go_wp2_with fail
    refine (s_ended S Q x.P x.R _ pv rec h.now h.last _ _ x.p (idsOf rs) w2 H2.out.1 HP2.out hidl).mono ?_
    rintro e w3 ⟨rfl, pv', hC3, ho3, hn3, hf3⟩
    have H3 : Hid (RunOut w w3 S Q M.s pv rec h.now h.last qv h.qs (idsOf rs) x d (takeQ (h.qs d) x.p.id 0) x true v pv') := by
      have hs := HS1.out
      have hz1 : w1.heap.size = w.heap.size := by rw [hs.heap]
      have hz2 := H2.out.2.2.size
      refine ⟨hC3, rfl, rfl, rfl, fun b hb => .inr (by have := H2.out.2.1 b hb; omega), fun hh => (by cases hh), fun _ => ⟨ho3, fun b hb => by have := hn3 b hb; omega⟩, ?_⟩
      have f1 : Fr (StepT S Q x.P x.R (qv d)) w w1 := ⟨hs.os, hs.tape, hs.output, by omega, fun k _ _ => by rw [hs.heap]⟩
      exact (f1.trans (H2.out.2.2.mono fun k _ hk => .inr (.inl hk))).trans (hf3.mono fun k _ hk => .inr (.inr (.inr (.inl hk))))
    clear hC3 ho3 hn3 hf3
    obtain ⟨k1, k2, k3⟩ := HH.out.after hM HX.out.1 hd3 H3.out HX.out.2 (fun hh => by cases hh)
    have H4 : Hid (_ ∧ _ ∧ _) := ⟨k1, k2, k3⟩
    clear k1 k2 k3
    go_wp2_with fail
    refine (sim_wrote hM S Q rec _ pv' _ _ 67 id 0 w3 H4.out.1 hr).mono ?_
    rintro e w4 ⟨rfl, hW, hf4⟩
    have H5 : Hid (SimOut M w S Q pv qv rs (rec ++ recS 67 id 0) { h with qs := updQ h.qs d (takeQ (h.qs d) x.p.id 0), rs := afterR M.E h.rs r true } w4) :=
      ⟨⟨pv', _, _, hW, H4.out.2.2⟩, H4.out.2.1.trans (hf4.mono fun k _ hk => .inl hk)⟩
    clear hW hf4
    go_wp2_with fail
    go_ret
    exact ⟨rfl, H5.out⟩
end Go.Proofs.Ytmmmnghiegajmaa
/- The document's own herald: Ack. -/
namespace Go.Proofs.Ytmmmnghiegajmaa
open Go.RowKit Go.Proofs.Herald
/-- A run of a herald: its device, its bounds. -/
theorem run_bounds {RT : Type} {M : Mode RT} {G : RT → Prop} (hM : ModeOk M) {w : World} {C : Int} {h : Her RT} (hI : HOk M.E G C h) {x : Rs} {r : RT} (hr : r ∈ h.rs) (hl : M.link w x r) :
    ∃ d : Nat, d < 3 ∧ x.p.dev = (d : Nat) ∧ (M.E.pub r).dev.toNat = d ∧ (h.qs d).length ≤ 4 ∧ 0 ≤ x.p.sent ∧ x.p.sent ≤ C ∧ h.now ≤ x.p.til ∧ x.p.til ≤ 2000000000 := by
  have hpub := hM.pub w x r hl
  have h1 := hI.dev r hr
  have h2 := hI.sent r hr
  have h3 := hI.til r hr
  rw [hpub] at h1 h2 h3 ⊢
  simp only [pubP] at h1 h2 h3 ⊢
  exact ⟨x.p.dev.toNat, by omega, by omega, rfl, hI.qlen _, h2.1, h2.2, h3.1, h3.2⟩
set_option maxHeartbeats 2000000 in
theorem sim_ack {RT : Type} {M : Mode RT} {G : RT → Prop} (hM : ModeOk M) (S Q : Nat) (rec : ByteArray) (h : Her RT) (pv : Value) (qv : Nat → Value) (rs : List Rs) (id num C : Int) (w : World) (H : SimH M w S Q rec h pv qv rs) (hI : HOk M.E G C h) (hC : C ≤ 999999999999990000) (hr : rec.size ≤ 1000000000000) :
    Calls Try.prog 92 #[.pointer (some ⟨S, 0, none⟩), .int .i64 id, .int .i64 num] w fun e w' => e = .returned (.int .i64 (ackH M.E h id num).1) ∧ SimOut M w S Q pv qv rs (recAfter rec (ackH M.E h id num).1 65 id num) (ackH M.E h id num).2 w' := by
  have hlen : rs.length ≤ 5 := by rw [relL_len H.rel]; exact hI.len
  have hidl : (idsOf rs).length ≤ 1000 := by unfold idsOf; rw [List.length_map]; omega
  have c5 : w.cell? ⟨S, 5, none⟩ = some pv := (cell_of_heap H.at'.sB).trans rfl
  have HFI : Hid (Calls Try.prog 126 #[.pointer (some ⟨S, 0, none⟩), .int .i64 id] w fun e w' => e = .returned (ptrOf ((idsOf rs).find? fun x => x.2 == id)) ∧ SameH w w') := s_find S pv (idsOf rs) id w c5 H.at'.procs hidl
  have HH : Hid (SimH M w S Q rec h pv qv rs) := H
  rcases find_link hM id H.rel with ⟨f1, f2⟩ | ⟨x, r, hx, hrm, f1, f2, hlk, hid⟩
  · have HE : Hid (ackH M.E h id num = (10, h)) := by show _ = _; unfold ackH; rw [f2]
    rw [f1] at HFI
    clear f1 f2 c5 H hI
    rw [HE.out]
    go_enter Try.func92, Try.ntmps92
    go_wp2_with fail
    refine HFI.out.mono ?_
    rintro e w1 ⟨rfl, hs1⟩
    have HS1 : Hid (SameH w w1) := hs1
    clear hs1
    have hp : ptrOf none = .pointer none := rfl
    rw [hp]
    go_wp2_with fail
    go_ret
    exact ⟨rfl, SimOut.same HH.out HS1.out fun x r hl => hM.keep w w1 x r hl fun k _ _ => by rw [HS1.out.heap]⟩
  · have hpub := hM.pub w x r hlk
    obtain ⟨d, hd3, hdd, hdn, hq4, hs0, hs1, _, _⟩ := run_bounds hM hI hrm hlk
    have hnum : (M.E.pub r).num = x.p.num := by rw [hpub]; rfl
    have HX : Hid (x ∈ rs ∧ (M.E.pub r).id = x.p.id ∧ M.link w x r) := ⟨hx, by rw [hpub]; rfl, hlk⟩
    have HNOW : Hid (0 ≤ h.now ∧ h.now ≤ 1000000000) := ⟨hI.now0, hI.now1⟩
    rw [f1] at HFI
    have hp : ptrOf (some (x.P, x.p.id)) = .pointer (some ⟨x.P, 0, none⟩) := rfl
    rw [hp] at HFI
    clear f1 c5 H hI hx hrm hlk hpub hp
    -- behind find the world is the same
    have HW : Hid (∀ w1, SameH w w1 → SimH M w1 S Q rec h pv qv rs ∧ M.link w1 x r ∧ SimCore w1 S Q x.P x.R (M.s.md x.yv x.nv) pv rec h.now h.last qv h.qs x.p ∧ SimOut M w S Q pv qv rs rec h w1) := fun w1 hs => by
      have hst : Still M.B0 w w1 := fun k _ _ => by rw [hs.heap]
      have h1 : SimH M w1 S Q rec h pv qv rs := ⟨HH.out.at'.keep fun k _ => by rw [hs.heap], HH.out.base, relL_imp (fun a b hab => hM.keep w w1 a b hab hst) HH.out.rel⟩
      exact ⟨h1, hM.keep w w1 x r HX.out.2.2 hst, h1.at'.core HX.out.1, SimOut.same HH.out hs fun a b hab => hM.keep w w1 a b hab hst⟩
    by_cases hn0 : num = 0
    · have HE : Hid (ackH M.E h id num = (11, h)) := by show _ = _; unfold ackH; rw [f2]; simp only; rw [if_pos (Or.inl hn0)]
      rw [HE.out]
      subst hn0
      clear f2 hnum
      go_enter Try.func92, Try.ntmps92
      go_wp2_with fail
      refine HFI.out.mono ?_
      rintro e w1 ⟨rfl, hs1⟩
      have HS1 : Hid (SameH w w1) := hs1
      clear hs1
      go_wp2_with fail
      go_ret
      exact ⟨rfl, (HW.out w1 HS1.out).2.2.2⟩
    · have b0 : (num == 0) = false := by simpa using hn0
      by_cases hn1 : x.p.num = num
      · have b1 : (x.p.num != num) = false := by simpa using hn1
        cases hq : hasQ (h.qs d) x.p.id num with
        | true =>
          have HE : Hid (ackH M.E h id num = (12, h)) := by
            show _ = _
            unfold ackH
            rw [f2]
            simp only
            rw [hnum, hdn, if_neg (fun hh => by rcases hh with hh | hh; exact hn0 hh; exact hh hn1), ← hid, if_pos hq]
          rw [HE.out]
          have HQ : Hid (hasQ (h.qs d) x.p.id num = true) := hq
          clear f2 hnum hq hn1 hn0
          go_enter Try.func92, Try.ntmps92
          go_wp2_with fail
          refine HFI.out.mono ?_
          rintro e w1 ⟨rfl, hs1⟩
          have HS1 : Hid (SameH w w1) := hs1
          have p4 : w1.cell? ⟨x.P, 4, none⟩ = some (.int .i64 x.p.num) := (cell_of_heap (HW.out w1 hs1).2.2.1.pB).trans rfl
          clear hs1
          go_wp2_with fail
          refine (s_queued S Q x.P x.R _ pv rec h.now h.last qv h.qs x.p num d w1 (HW.out w1 HS1.out).2.2.1 hd3 hdd hq4).mono ?_
          rw [HQ.out]
          rintro e w2 ⟨rfl, hs2⟩
          have HS2 : Hid (SameH w w2) := ⟨hs2.heap.trans HS1.out.heap, hs2.os.trans HS1.out.os, hs2.tape.trans HS1.out.tape, hs2.output.trans HS1.out.output⟩
          clear hs2
          go_wp2_with fail
          go_ret
          exact ⟨rfl, (HW.out w2 HS2.out).2.2.2⟩
        | false =>
          have HE : Hid (ackH M.E h id num = (0, { h with qs := updQ h.qs d (M.E.on h.now true (h.qs d) r).1, rs := afterR M.E h.rs (M.E.on h.now true (h.qs d) r).2.1 (M.E.on h.now true (h.qs d) r).2.2 })) := by
            show _ = _
            unfold ackH goH
            rw [f2]
            simp only
            rw [hnum, hdn, if_neg (fun hh => by rcases hh with hh | hh; exact hn0 hh; exact hh hn1), ← hid, if_neg (by rw [hq]; simp)]
          rw [HE.out]
          have HQ : Hid (hasQ (h.qs d) x.p.id num = false) := hq
          have HN : Hid (x.p.num ≠ 0) := by show _ ≠ _; rw [hn1]; exact hn0
          clear f2 hnum hq hn1 hn0
          go_enter Try.func92, Try.ntmps92
          go_wp2_with fail
          refine HFI.out.mono ?_
          rintro e w1 ⟨rfl, hs1⟩
          have HS1 : Hid (SameH w w1) := hs1
          have p4 : w1.cell? ⟨x.P, 4, none⟩ = some (.int .i64 x.p.num) := (cell_of_heap (HW.out w1 hs1).2.2.1.pB).trans rfl
          clear hs1
          go_wp2_with fail
          refine (s_queued S Q x.P x.R _ pv rec h.now h.last qv h.qs x.p num d w1 (HW.out w1 HS1.out).2.2.1 hd3 hdd hq4).mono ?_
          rw [HQ.out]
          rintro e w2 ⟨rfl, hs2⟩
          have HS2 : Hid (SameH w w2) := ⟨hs2.heap.trans HS1.out.heap, hs2.os.trans HS1.out.os, hs2.tape.trans HS1.out.tape, hs2.output.trans HS1.out.output⟩
          clear hs2 p4
          go_wp2_with fail
          refine (sim_wrote hM S Q rec h pv qv rs 65 id num w2 (HW.out w2 HS2.out).1 hr).mono ?_
          rintro e w3 ⟨rfl, hW3, hf3⟩
          have H3 : Hid (SimH M w3 S Q (rec ++ recS 65 id num) h pv qv rs ∧ M.link w3 x r ∧ Fr (ownS S Q pv qv rs) w w3) := by
            have hs := HS2.out
            have f2 : Fr (ownS S Q pv qv rs) w w2 := ⟨hs.os, hs.tape, hs.output, by rw [hs.heap]; exact Nat.le_refl _, fun k _ _ => by rw [hs.heap]⟩
            have f3 : Fr (ownS S Q pv qv rs) w w3 := f2.trans (hf3.mono fun k _ hk => .inl hk)
            exact ⟨hW3, hM.keep w w3 x r HX.out.2.2 (HH.out.at'.still HH.out.base f3), f3⟩
          clear hW3 hf3
          go_wp2_with fail
          refine (hM.on S Q pv _ h.now h.last qv h.qs rs w3 x r d true H3.out.1.at' H3.out.1.base HX.out.1 H3.out.2.1 hd3 hdd hq4 hs0 (by omega) HNOW.out.1 HNOW.out.2 (by omega) (fun _ => HN.out)).mono ?_
          rintro e w4 ⟨rfl, x', v, pv', hO, hL⟩
          obtain ⟨k1, k2, k3⟩ := H3.out.1.after hM HX.out.1 hd3 hO (by rw [hM.eid]; exact HX.out.2.1) hL
          have H4 : Hid (SimOut M w S Q pv qv rs (rec ++ recS 65 id num) { h with qs := updQ h.qs d (M.E.on h.now true (h.qs d) r).1, rs := afterR M.E h.rs (M.E.on h.now true (h.qs d) r).2.1 (M.E.on h.now true (h.qs d) r).2.2 } w4) :=
            ⟨⟨_, _, _, k1, fun k hk => by
              rcases k3 k hk with h1 | h1
              · exact .inl h1
              · exact .inr (Nat.le_trans H3.out.2.2.size h1)⟩, H3.out.2.2.trans k2⟩
          clear hO hL k1 k2 k3
          go_wp2_with fail
          go_ret
          exact ⟨rfl, H4.out⟩
      · have b1 : (x.p.num != num) = true := by simpa using hn1
        have HE : Hid (ackH M.E h id num = (11, h)) := by show _ = _; unfold ackH; rw [f2]; simp only; rw [hnum, if_pos (Or.inr hn1)]
        rw [HE.out]
        clear f2 hnum hn1 hn0
        go_enter Try.func92, Try.ntmps92
        go_wp2_with fail
        refine HFI.out.mono ?_
        rintro e w1 ⟨rfl, hs1⟩
        have HS1 : Hid (SameH w w1) := hs1
        have p4 : w1.cell? ⟨x.P, 4, none⟩ = some (.int .i64 x.p.num) := (cell_of_heap (HW.out w1 hs1).2.2.1.pB).trans rfl
        clear hs1
        go_wp2_with fail
        go_ret
        exact ⟨rfl, (HW.out w1 HS1.out).2.2.2⟩
end Go.Proofs.Ytmmmnghiegajmaa
