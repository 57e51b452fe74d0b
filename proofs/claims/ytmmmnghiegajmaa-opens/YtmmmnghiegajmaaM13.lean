import Derived.Test.YtmmmnghiegajmaaM07
/- Bounds that plain heralds keep, whatever kind their runs are of. -/
namespace Go.Proofs.Herald
/-- What a run leaves when it has stopped or ended: t: at which time, r: as it was. -/
structure EOut {RT : Type} (E : Eng RT) (G : RT → Prop) (now : Int) (r : RT) (o : List Msg × RT × Bool) : Prop where
  len : o.1.length ≤ 4
  id : (E.pub o.2.1).id = (E.pub r).id
  dev : o.2.2 = false → (E.pub o.2.1).dev = (E.pub r).dev
  sent0 : o.2.2 = false → (E.pub r).sent ≤ (E.pub o.2.1).sent
  sent1 : o.2.2 = false → (E.pub o.2.1).sent ≤ (E.pub r).sent + 10000
  stop : o.2.2 = false → G o.2.1 ∧ now < (E.pub o.2.1).til ∧ (E.pub o.2.1).til ≤ now + 1000000
/-- A kind of runs that keep bounds. -/
structure EngOk {RT : Type} (E : Eng RT) (G : RT → Prop) : Prop where
  on : ∀ now yes q r, G r → q.length ≤ 4 → (yes = true → (E.pub r).num ≠ 0) → EOut E G now r (E.on now yes q r)
  start : ∀ now q id dev, q.length ≤ 4 → EOut E G now (E.fresh id dev) (E.start now q (E.fresh id dev))
  fresh : ∀ id dev, E.pub (E.fresh id dev) = ⟨id, dev, 0, 0, 0⟩
/-- Bounds that a plain herald keeps; C: how many messages a run has sent at most. -/
structure HOk {RT : Type} (E : Eng RT) (G : RT → Prop) (C : Int) (h : Her RT) : Prop where
  now0 : 0 ≤ h.now
  now1 : h.now ≤ 1000000000
  last0 : 0 ≤ h.last
  qlen : ∀ d, (h.qs d).length ≤ 4
  len : h.rs.length ≤ 5
  dev : ∀ r ∈ h.rs, 0 ≤ (E.pub r).dev ∧ (E.pub r).dev ≤ 2
  sent : ∀ r ∈ h.rs, 0 ≤ (E.pub r).sent ∧ (E.pub r).sent ≤ C
  til : ∀ r ∈ h.rs, h.now ≤ (E.pub r).til ∧ (E.pub r).til ≤ 2000000000
  id : ∀ r ∈ h.rs, (E.pub r).id ≤ h.last
  good : ∀ r ∈ h.rs, G r
  nd : h.rs.Pairwise fun a b => (E.pub a).id ≠ (E.pub b).id
theorem HOk.new {RT : Type} (E : Eng RT) (G : RT → Prop) : HOk E G 0 newH :=
  ⟨Int.le_refl 0, (by show (0 : Int) ≤ 1000000000; omega), Int.le_refl 0, fun _ => by simp [newH], by simp [newH], fun r hr => absurd hr (by simp [newH]), fun r hr => absurd hr (by simp [newH]), fun r hr => absurd hr (by simp [newH]), fun r hr => absurd hr (by simp [newH]), fun r hr => absurd hr (by simp [newH]), List.Pairwise.nil⟩
theorem HOk.mono {RT : Type} {E : Eng RT} {G : RT → Prop} {C D : Int} {h : Her RT} (H : HOk E G C h) (hC : C ≤ D) : HOk E G D h :=
  { H with sent := fun r hr => ⟨(H.sent r hr).1, Int.le_trans (H.sent r hr).2 hC⟩ }
theorem updQ_len {f : Nat → List Msg} {d : Nat} {v : List Msg} (h : ∀ k, (f k).length ≤ 4) (hv : v.length ≤ 4) (k : Nat) : (updQ f d v k).length ≤ 4 := by
  unfold updQ; split
  · exact hv
  · exact h k
theorem mem_after {RT : Type} {E : Eng RT} {rs : List RT} {r y : RT} {done : Bool} (h : y ∈ afterR E rs r done) : (done = false ∧ y = r) ∨ (y ∈ rs ∧ (E.pub y).id ≠ (E.pub r).id) := by
  unfold afterR at h
  cases done with
  | true =>
    simp only [if_true] at h
    obtain ⟨h1, h2⟩ := List.mem_filter.mp h
    exact .inr ⟨h1, by simpa using h2⟩
  | false =>
    simp only [Bool.false_eq_true, if_false] at h
    obtain ⟨z, hz, rfl⟩ := List.mem_map.mp h
    split
    · exact .inl ⟨rfl, rfl⟩
    · rename_i hne; exact .inr ⟨hz, hne⟩
theorem after_len {RT : Type} {E : Eng RT} (rs : List RT) (r : RT) (done : Bool) : (afterR E rs r done).length ≤ rs.length := by
  unfold afterR
  cases done with
  | true => exact List.length_filter_le _ _
  | false => simp
theorem after_nd {RT : Type} {E : Eng RT} {rs : List RT} (r : RT) (done : Bool) (h : rs.Pairwise fun a b => (E.pub a).id ≠ (E.pub b).id) : (afterR E rs r done).Pairwise fun a b => (E.pub a).id ≠ (E.pub b).id := by
  unfold afterR
  cases done with
  | true => exact h.filter _
  | false =>
    simp only [Bool.false_eq_true, if_false]
    rw [List.pairwise_map]
    refine h.imp fun {a b} hab => ?_
    have e : ∀ u : RT, (E.pub (if (E.pub u).id = (E.pub r).id then r else u)).id = (E.pub u).id := fun u => by
      split
      · rename_i hh; exact hh.symm
      · rfl
    rw [e, e]; exact hab
/-- A run goes on, at a time that no run's stop lies ahead of. -/
theorem HOk.go {RT : Type} {E : Eng RT} {G : RT → Prop} (hE : EngOk E G) {C : Int} {h : Her RT} (H : HOk E G C h) {r : RT} (hr : r ∈ h.rs) (yes : Bool) (t : Int) (h0 : 0 ≤ t) (h1 : t ≤ 1000000000) (ht : ∀ y ∈ h.rs, t ≤ (E.pub y).til) (hn : yes = true → (E.pub r).num ≠ 0) :
    HOk E G (C + 10000) (goH E { h with now := t } r yes) := by
  have ho := hE.on t yes (h.qs (E.pub r).dev.toNat) r (H.good r hr) (H.qlen _) hn
  have hs := H.sent r hr
  have key : ∀ y ∈ (goH E { h with now := t } r yes).rs, ((E.on t yes (h.qs (E.pub r).dev.toNat) r).2.2 = false ∧ y = (E.on t yes (h.qs (E.pub r).dev.toNat) r).2.1) ∨ (y ∈ h.rs ∧ (E.pub y).id ≠ (E.pub (E.on t yes (h.qs (E.pub r).dev.toNat) r).2.1).id) := fun y hy => mem_after hy
  refine ⟨h0, h1, H.last0, updQ_len H.qlen ho.len, Nat.le_trans (after_len _ _ _) H.len, fun y hy => ?_, fun y hy => ?_, fun y hy => ?_, fun y hy => ?_, fun y hy => ?_, after_nd _ _ H.nd⟩
  · rcases key y hy with ⟨hd, rfl⟩ | ⟨hy, _⟩
    · rw [ho.dev hd]; exact H.dev r hr
    · exact H.dev y hy
  · rcases key y hy with ⟨hd, rfl⟩ | ⟨hy, _⟩
    · have := ho.sent0 hd; have := ho.sent1 hd; omega
    · have := H.sent y hy; omega
  · rcases key y hy with ⟨hd, rfl⟩ | ⟨hy, _⟩
    · have := (ho.stop hd).2
      show t ≤ _ ∧ _
      omega
    · exact ⟨ht y hy, (H.til y hy).2⟩
  · rcases key y hy with ⟨_, rfl⟩ | ⟨hy, _⟩
    · rw [ho.id]; exact H.id r hr
    · exact H.id y hy
  · rcases key y hy with ⟨hd, rfl⟩ | ⟨hy, _⟩
    · exact (ho.stop hd).1
    · exact H.good y hy
theorem dueR_snoc {RT : Type} {E : Eng RT} (en : Int) : ∀ (l : List RT) (o : Option RT), (∀ b, o = some b → (E.pub b).til ≤ en) →
    match l.foldl (dueF E en) o with
    | none => o = none ∧ ∀ y ∈ l, en < (E.pub y).til
    | some r => (o = some r ∨ r ∈ l) ∧ (E.pub r).til ≤ en ∧ (∀ b, o = some b → (E.pub r).til ≤ (E.pub b).til) ∧ ∀ y ∈ l, (E.pub r).til ≤ (E.pub y).til := by
  intro l
  induction l with
  | nil =>
    intro o ho
    cases o with
    | none => exact ⟨rfl, fun y hy => absurd hy (by simp)⟩
    | some b => exact ⟨.inl rfl, ho b rfl, fun c hc => by cases hc; exact Int.le_refl _, fun y hy => absurd hy (by simp)⟩
  | cons x l ih =>
    intro o ho
    simp only [List.foldl_cons]
    have hstep : (∀ b, dueF E en o x = some b → (E.pub b).til ≤ en) := by
      intro b hb
      unfold dueF at hb
      split at hb
      · rename_i hx
        cases o with
        | none => cases hb; exact hx
        | some c =>
          simp only at hb
          split at hb
          · cases hb; exact hx
          · cases hb; exact ho _ rfl
      · exact ho b hb
    have h := ih (dueF E en o x) hstep
    cases hr : l.foldl (dueF E en) (dueF E en o x) with
    | none =>
      rw [hr] at h
      obtain ⟨h1, h2⟩ := h
      unfold dueF at h1
      split at h1
      · cases o with
        | none => cases h1
        | some c => simp only at h1; split at h1 <;> cases h1
      · rename_i hx
        refine ⟨h1, fun y hy => ?_⟩
        rcases List.mem_cons.mp hy with rfl | hy
        · omega
        · exact h2 y hy
    | some r =>
      rw [hr] at h
      obtain ⟨h1, h2, h3, h4⟩ := h
      have hxo : (∀ b, o = some b → (E.pub r).til ≤ (E.pub b).til) ∧ (E.pub r).til ≤ (E.pub x).til := by
        unfold dueF at h3
        by_cases hx : (E.pub x).til ≤ en
        · rw [if_pos hx] at h3
          cases o with
          | none => exact ⟨fun b hb => (by cases hb), h3 x rfl⟩
          | some c =>
            simp only at h3
            by_cases hlt : (E.pub x).til < (E.pub c).til
            · rw [if_pos hlt] at h3
              have := h3 x rfl
              exact ⟨fun b hb => by cases hb; omega, this⟩
            · rw [if_neg hlt] at h3
              have := h3 c rfl
              exact ⟨fun b hb => by cases hb; exact this, by omega⟩
        · rw [if_neg hx] at h3
          exact ⟨h3, by omega⟩
      refine ⟨?_, h2, hxo.1, fun y hy => ?_⟩
      · rcases h1 with h1 | h1
        · unfold dueF at h1
          split at h1
          · cases o with
            | none => cases h1; exact .inr (List.mem_cons_self ..)
            | some c =>
              simp only at h1
              split at h1
              · cases h1; exact .inr (List.mem_cons_self ..)
              · cases h1; exact .inl rfl
          · exact .inl h1
        · exact .inr (List.mem_cons_of_mem _ h1)
      · rcases List.mem_cons.mp hy with rfl | hy
        · exact hxo.2
        · exact h4 y hy
theorem dueR_none {RT : Type} {E : Eng RT} {en : Int} {l : List RT} (h : dueR E en l = none) : ∀ y ∈ l, en < (E.pub y).til := by
  have := dueR_snoc (E := E) en l none (fun b hb => by cases hb)
  unfold dueR at h
  rw [h] at this
  exact this.2
theorem dueR_some {RT : Type} {E : Eng RT} {en : Int} {l : List RT} {r : RT} (h : dueR E en l = some r) : r ∈ l ∧ (E.pub r).til ≤ en ∧ ∀ y ∈ l, (E.pub r).til ≤ (E.pub y).til := by
  have := dueR_snoc (E := E) en l none (fun b hb => by cases hb)
  unfold dueR at h
  rw [h] at this
  obtain ⟨h1, h2, _, h4⟩ := this
  refine ⟨?_, h2, h4⟩
  rcases h1 with h1 | h1
  · cases h1
  · exact h1
/-- How often runs can go on at most, up to a time. -/
def msR {RT : Type} (E : Eng RT) (en : Int) (l : List RT) : Nat := (l.map fun r => (en + 1 - (E.pub r).til).toNat).sum
theorem msR_filter {RT : Type} {E : Eng RT} {en : Int} (p : RT → Bool) : ∀ (l : List RT), msR E en (l.filter p) ≤ msR E en l := by
  intro l
  induction l with
  | nil => simp [msR]
  | cons x l ih =>
    simp only [msR, List.filter_cons, List.map_cons, List.sum_cons] at ih ⊢
    split
    · simp only [List.map_cons, List.sum_cons]; omega
    · omega
/-- A run that went on is stopped till later, or has ended. -/
theorem msR_after {RT : Type} {E : Eng RT} {en : Int} {r r' : RT} {done : Bool} (hid : (E.pub r').id = (E.pub r).id) (hen : (E.pub r).til ≤ en) (ht : done = false → (E.pub r).til < (E.pub r').til) :
    ∀ (l : List RT), r ∈ l → l.Pairwise (fun a b => (E.pub a).id ≠ (E.pub b).id) → msR E en (afterR E l r' done) < msR E en l := by
  intro l
  induction l with
  | nil => intro h; cases h
  | cons x l ih =>
    intro hr hnd
    rw [List.pairwise_cons] at hnd
    rcases List.mem_cons.mp hr with rfl | hr
    · cases done with
      | true =>
        have e : afterR E (r :: l) r' true = l.filter (fun y => (E.pub y).id != (E.pub r').id) := by unfold afterR; simp [hid]
        rw [e]
        have := msR_filter (E := E) (en := en) (fun y => (E.pub y).id != (E.pub r').id) l
        simp only [msR, List.map_cons, List.sum_cons] at this ⊢
        omega
      | false =>
        have e : afterR E (r :: l) r' false = r' :: l := by
          unfold afterR
          simp only [Bool.false_eq_true, if_false, List.map_cons, hid, if_true]
          congr 1
          conv => rhs; rw [← List.map_id l]
          refine List.map_congr_left fun y hy => ?_
          rw [if_neg (fun hh => hnd.1 y hy hh.symm)]; rfl
        rw [e]
        have := ht rfl
        simp only [msR, List.map_cons, List.sum_cons]
        omega
    · have hx : (E.pub x).id ≠ (E.pub r').id := by rw [hid]; exact hnd.1 r hr
      have h2 := ih hr hnd.2
      have e : afterR E (x :: l) r' done = x :: afterR E l r' done := by
        unfold afterR
        cases done with
        | true => simp [hx]
        | false => simp [hx]
      rw [e]
      simp only [msR, List.map_cons, List.sum_cons] at h2 ⊢
      omega
theorem msR_small {RT : Type} {E : Eng RT} {en t : Int} (n : Nat) (hn : en + 1 - t ≤ n) : ∀ (l : List RT), (∀ r ∈ l, t ≤ (E.pub r).til) → msR E en l ≤ l.length * n := by
  intro l
  induction l with
  | nil => intro _; simp [msR]
  | cons x l ih =>
    intro h
    have h1 := ih fun r hr => h r (List.mem_cons_of_mem _ hr)
    have h2 := h x (List.mem_cons_self ..)
    simp only [msR, List.map_cons, List.sum_cons, List.length_cons, Nat.succ_mul] at h1 ⊢
    omega
/-- Runs that do what runs within bounds do are within bounds. -/
theorem EngOk.same {RT ST : Type} {E : Eng RT} {F : Eng ST} {ρ : RT → ST → Prop} {G : RT → Prop} (h : EngOk E G) (hs : SameEng E F ρ) (hf : ∀ id dev, F.pub (F.fresh id dev) = ⟨id, dev, 0, 0, 0⟩) : EngOk F (fun s => ∃ r, ρ r s ∧ G r) := by
  refine ⟨fun now yes q s hg hq hn => ?_, fun now q id dev hq => ?_, hf⟩
  · obtain ⟨r, hr, hg⟩ := hg
    have hp := hs.pub r s hr
    have hn' : yes = true → (E.pub r).num ≠ 0 := fun hy => by rw [hp]; exact hn hy
    have ho := h.on now yes q r hg hq hn'
    obtain ⟨e1, e2, _, e4, e5⟩ := hs.on r s hr now yes q hn'
    refine ⟨by rw [← e1]; exact ho.len, e4, fun hd => ?_, fun hd => ?_, fun hd => ?_, fun hd => ?_⟩
    · rw [← hs.pub _ _ (e5 (e2.trans hd)), ← hp]; exact ho.dev (e2.trans hd)
    · rw [← hs.pub _ _ (e5 (e2.trans hd)), ← hp]; exact ho.sent0 (e2.trans hd)
    · rw [← hs.pub _ _ (e5 (e2.trans hd)), ← hp]; exact ho.sent1 (e2.trans hd)
    · rw [← hs.pub _ _ (e5 (e2.trans hd))]; exact ⟨⟨_, e5 (e2.trans hd), (ho.stop (e2.trans hd)).1⟩, (ho.stop (e2.trans hd)).2⟩
  · have ho := h.start now q id dev hq
    obtain ⟨e1, e2, _, e4, e5⟩ := hs.start now q id dev
    have hp : F.pub (F.fresh id dev) = E.pub (E.fresh id dev) := by rw [hf, h.fresh]
    refine ⟨by rw [← e1]; exact ho.len, by rw [e4, hf], fun hd => ?_, fun hd => ?_, fun hd => ?_, fun hd => ?_⟩
    · rw [← hs.pub _ _ (e5 (e2.trans hd)), hp]; exact ho.dev (e2.trans hd)
    · rw [← hs.pub _ _ (e5 (e2.trans hd)), hp]; exact ho.sent0 (e2.trans hd)
    · rw [← hs.pub _ _ (e5 (e2.trans hd)), hp]; exact ho.sent1 (e2.trans hd)
    · rw [← hs.pub _ _ (e5 (e2.trans hd))]; exact ⟨⟨_, e5 (e2.trans hd), (ho.stop (e2.trans hd)).1⟩, (ho.stop (e2.trans hd)).2⟩
end Go.Proofs.Herald
