import Derived.Test.YtmmmnghiegajmabM26
import Derived.Test.YtmmmnghiegajmabM07
import Derived.BigQuiet
/- What the queues, the runs and the drained messages of a herald keep: plain mathematics of Bounded. -/
namespace Go.Proofs.Herald
/-- Two messages that may lie beside one another: not of one run and key, nor of one run and number. -/
def apartM (a b : Msg) : Prop := a.run = b.run → a.key ≠ b.key ∧ a.num ≠ b.num
/-- A message that was drained, and one that may still be. -/
def olderM (o m : Msg) : Prop := o.run = m.run → o.dev = m.dev ∧ o.num ≠ m.num ∧ (o.key = m.key → o.num < m.num)
/-- A message of a device. -/
def fineM (dev : Int) (m : Msg) : Prop := 0 < m.num ∧ 0 < m.run ∧ 0 ≤ m.key ∧ m.key ≤ 7 ∧ m.dev = dev
/-- What a run finds in its queue, and leaves; O: what was drained. -/
structure RunB (O q : List Msg) (id dev sent : Int) : Prop where
  dist : q.Pairwise apartM
  fine : ∀ m ∈ q, fineM dev m
  own : ∀ m ∈ q, m.run = id → m.num ≤ sent
  old : ∀ o ∈ O, o.run = id → o.num ≤ sent ∧ o.dev = dev
  rel : ∀ o ∈ O, ∀ m ∈ q, olderM o m
theorem RunB.take {O q : List Msg} {id dev sent : Int} (h : RunB O q id dev sent) (a b : Int) : RunB O (takeQ q a b) id dev sent :=
  ⟨List.Pairwise.filter _ h.dist, fun m hm => h.fine m (List.mem_filter.mp hm).1, fun m hm => h.own m (List.mem_filter.mp hm).1, h.old, fun o ho m hm => h.rel o ho m (List.mem_filter.mp hm).1⟩
theorem putAt_apart {m : Msg} : ∀ {q q' : List Msg}, putAt q m = some q' → q.Pairwise apartM → (∀ x ∈ q, x.run = m.run → x.num < m.num) → q'.Pairwise apartM ∧ ∀ x ∈ q', x = m ∨ x ∈ q := by
  intro q
  induction q with
  | nil => intro q' h; cases h
  | cons x r ih =>
    intro q' h hd hn
    rw [putAt] at h
    rw [List.pairwise_cons] at hd
    split at h
    · rename_i hx
      cases h
      refine ⟨?_, fun y hy => ?_⟩
      · rw [List.pairwise_cons]
        refine ⟨fun y hy hh => ?_, hd.2⟩
        have h1 := hn y (List.mem_cons_of_mem _ hy) hh.symm
        have h2 := hd.1 y hy (hx.1.trans hh)
        exact ⟨by rw [← hx.2]; exact h2.1, by omega⟩
      · rcases List.mem_cons.mp hy with h | h
        · exact .inl h
        · exact .inr (List.mem_cons_of_mem _ h)
    · rename_i hx
      cases hr : putAt r m with
      | none => rw [hr] at h; cases h
      | some r' =>
        rw [hr] at h
        cases h
        obtain ⟨h1, h2⟩ := ih hr hd.2 fun y hy => hn y (List.mem_cons_of_mem _ hy)
        refine ⟨?_, fun y hy => ?_⟩
        · rw [List.pairwise_cons]
          refine ⟨fun y hy hh => ?_, h1⟩
          rcases h2 y hy with rfl | h
          · have := hn x (List.mem_cons_self ..) hh
            exact ⟨fun hk => hx ⟨hh, hk⟩, by omega⟩
          · exact hd.1 y h hh
        · rcases List.mem_cons.mp hy with h | h
          · exact .inr (by rw [h]; exact List.mem_cons_self ..)
          · rcases h2 y h with h | h
            · exact .inl h
            · exact .inr (List.mem_cons_of_mem _ h)
theorem putAt_no {m : Msg} : ∀ {q : List Msg}, putAt q m = none → ∀ x ∈ q, ¬ (x.run = m.run ∧ x.key = m.key) := by
  intro q
  induction q with
  | nil => intro _ x hx; cases hx
  | cons x r ih =>
    intro h y hy
    rw [putAt] at h
    split at h
    · cases h
    · rename_i hx
      cases hr : putAt r m with
      | some r' => rw [hr] at h; cases h
      | none =>
        rcases List.mem_cons.mp hy with rfl | hy
        · exact hx
        · exact ih hr y hy
theorem putQ_apart {q q' : List Msg} {m : Msg} (h : putQ q m = some q') (hd : q.Pairwise apartM) (hn : ∀ x ∈ q, x.run = m.run → x.num < m.num) : q'.Pairwise apartM ∧ ∀ x ∈ q', x = m ∨ x ∈ q := by
  unfold putQ at h
  cases ha : putAt q m with
  | some q2 =>
    rw [ha] at h
    cases h
    exact putAt_apart ha hd hn
  | none =>
    rw [ha] at h
    simp only at h
    split at h
    · cases h
    · cases h
      refine ⟨?_, fun x hx => ?_⟩
      · rw [List.pairwise_append]
        refine ⟨hd, by simp, fun x hx y hy hh => ?_⟩
        rw [List.mem_singleton] at hy
        subst hy
        have h1 := hn x hx hh
        exact ⟨fun hk => putAt_no ha x hx ⟨hh, hk⟩, by omega⟩
      · rcases List.mem_append.mp hx with hx | hx
        · exact .inr hx
        · exact .inl (List.mem_singleton.mp hx)
theorem sendP_b {O q : List Msg} {p : Pr} {key : Int} (h : RunB O q p.id p.dev p.sent) (h0 : 0 ≤ p.sent) (h1 : 0 < p.id) (hk : 0 ≤ key ∧ key ≤ 7) :
    RunB O (sendP q p key).1 p.id p.dev (sendP q p key).2.1.sent ∧ FromQ p.id q (sendP q p key).1 ∧ ((sendP q p key).2.2 = 0 ∨ (sendP q p key).2.2 = (sendP q p key).2.1.sent) := by
  unfold sendP
  cases hp : putQ q ⟨p.dev, p.id, p.sent + 1, key⟩ with
  | none => exact ⟨h, FromQ.refl _ _, .inl rfl⟩
  | some q' =>
    have hn : ∀ x ∈ q, x.run = p.id → x.num < p.sent + 1 := fun x hx hr => by have := h.own x hx hr; omega
    obtain ⟨k1, k2⟩ := putQ_apart hp h.dist hn
    refine ⟨⟨k1, fun m hm => ?_, fun m hm hr => ?_, fun o ho hr => ?_, fun o ho m hm => ?_⟩, fun m hm => ?_, .inr rfl⟩
    · rcases k2 m hm with rfl | hm
      · exact ⟨by show 0 < p.sent + 1; omega, h1, hk.1, hk.2, rfl⟩
      · exact h.fine m hm
    · rcases k2 m hm with rfl | hm
      · exact Int.le_refl _
      · have := h.own m hm hr
        show m.num ≤ p.sent + 1
        omega
    · have := h.old o ho hr
      exact ⟨by show o.num ≤ p.sent + 1; omega, this.2⟩
    · rcases k2 m hm with rfl | hm
      · intro hr
        have := h.old o ho hr
        exact ⟨this.2, by show ¬ o.num = p.sent + 1; omega, fun _ => by show o.num < p.sent + 1; omega⟩
      · exact h.rel o ho m hm
    · rcases k2 m hm with rfl | hm
      · exact .inl rfl
      · exact .inr hm
/-- A run that goes on: its queue, what it waits for. -/
structure GoB (O q : List Msg) (p : Pr) : Prop where
  q : RunB O q p.id p.dev p.sent
  sent : 0 ≤ p.sent
  id : 0 < p.id
  num0 : 0 ≤ p.num
  num1 : p.num ≤ p.sent
theorem GoB.same {O q : List Msg} {p p' : Pr} (h : GoB O q p) (e1 : p'.id = p.id) (e2 : p'.dev = p.dev) (e3 : p'.sent = p.sent) (n0 : 0 ≤ p'.num) (n1 : p'.num ≤ p'.sent) : GoB O q p' :=
  ⟨by rw [e1, e2, e3]; exact h.q, by rw [e3]; exact h.sent, by rw [e1]; exact h.id, n0, n1⟩
theorem loopM_dev (p : Pr) (a c : Int) : (loopM p a c).dev = p.dev ∧ (loopM p a c).num = p.num := by
  unfold loopM downM
  repeat' split
  all_goals exact ⟨rfl, rfl⟩
theorem stepM_dev (now : Int) (x : Ins) (q : List Msg) (p : Pr) : (stepM now x q p).2.1.dev = p.dev := by
  unfold stepM
  repeat' split
  all_goals first | rfl | exact (sendP_kept _ _ _).2.2.1 | skip
  exact (loopM_dev _ _ _).1
theorem sendP_num (q : List Msg) (p : Pr) (key : Int) : (sendP q p key).2.1.num = p.num := by
  unfold sendP
  split
  · rfl
  · rfl
theorem stepM_b {O : List Msg} {n now : Int} {x : Ins} {q : List Msg} {p : Pr} (hx : soundI n x = true) (h : GoB O q p) : GoB O (stepM now x q p).1 (stepM now x q p).2.1 ∧ FromQ p.id q (stepM now x q p).1 := by
  have hs : ∀ (p' : Pr) (key : Int), p'.id = p.id → p'.dev = p.dev → p'.sent = p.sent → p'.num = p.num → 0 ≤ key ∧ key ≤ 7 → GoB O (sendP q p' key).1 (sendP q p' key).2.1 ∧ FromQ p.id q (sendP q p' key).1 ∧ ((sendP q p' key).2.2 = 0 ∨ (sendP q p' key).2.2 = (sendP q p' key).2.1.sent) := fun p' key h1 h2 h3 h4 hk => by
    have g1 := sendP_b (O := O) (q := q) (p := p') (key := key) (by rw [h1, h2, h3]; exact h.q) (by rw [h3]; exact h.sent) (by rw [h1]; exact h.id) hk
    have g2 := sendP_kept q p' key
    have g3 := h.sent
    have g4 := h.num1
    have g5 := h.num0
    refine ⟨⟨?_, by omega, by rw [g2.2.1, h1]; exact h.id, by rw [sendP_num, h4]; exact g5, by rw [sendP_num, h4]; omega⟩, by have := g1.2.1; rwa [h1] at this, g1.2.2⟩
    rw [g2.2.1, g2.2.2.1]
    exact g1.1
  have stop : ∀ {q : List Msg} {p' : Pr} {n num : Int}, GoB O q p' → (num = 0 ∨ num = p'.sent) → GoB O q (stopP p' now n num) := fun {q p' n num} g hn => by
    have := g.sent
    exact g.same rfl rfl rfl (by show 0 ≤ num; omega) (by show num ≤ p'.sent; omega)
  have plain : ∀ {p' : Pr}, p'.id = p.id → p'.dev = p.dev → p'.sent = p.sent → p'.num = p.num → GoB O q p' := fun e1 e2 e3 e4 => h.same e1 e2 e3 (by rw [e4]; exact h.num0) (by rw [e4, e3]; exact h.num1)
  unfold soundI at hx
  unfold stepM
  split
  · exact ⟨plain rfl rfl rfl rfl, FromQ.refl _ _⟩
  · rename_i g0
    rw [if_neg g0] at hx
    split
    · rename_i g1
      rw [if_pos g1] at hx
      simp only [Bool.and_eq_true] at hx
      have g := hs (incM p) x.a rfl rfl rfl rfl (within_parts hx.1.1)
      exact ⟨g.1, g.2.1⟩
    · rename_i g1
      rw [if_neg g1] at hx
      split
      · exact ⟨stop (plain rfl rfl rfl rfl) (.inl rfl), FromQ.refl _ _⟩
      · rename_i g2
        rw [if_neg g2] at hx
        split
        · rename_i g3
          rw [if_pos g3] at hx
          simp only [Bool.and_eq_true] at hx
          have g := hs (askM (incM p) x.c) x.a rfl rfl rfl rfl (within_parts hx.1.1)
          split
          · exact ⟨g.1, g.2.1⟩
          · exact ⟨stop g.1 g.2.2, g.2.1⟩
        · rename_i g3
          rw [if_neg g3] at hx
          split
          · exact ⟨plain rfl rfl rfl rfl, FromQ.refl _ _⟩
          · rename_i g4
            rw [if_neg g4] at hx
            split
            · exact ⟨plain rfl rfl rfl rfl, FromQ.refl _ _⟩
            · rename_i g5
              rw [if_neg g5] at hx
              split
              · rename_i g6
                rw [if_pos g6] at hx
                simp only [Bool.and_eq_true] at hx
                have g := hs (holdM (incM p) x.c) x.a rfl rfl rfl rfl (within_parts hx.1.1)
                exact ⟨stop g.1 g.2.2, g.2.1⟩
              · rename_i g6
                rw [if_neg g6] at hx
                split
                · obtain ⟨e1, e2⟩ := loopM_keep (incM p) x.a x.c
                  obtain ⟨e3, e4⟩ := loopM_dev (incM p) x.a x.c
                  exact ⟨plain e1 e3 e2 e4, FromQ.refl _ _⟩
                · split
                  · exact ⟨plain rfl rfl rfl rfl, FromQ.refl _ _⟩
                  · exact ⟨plain rfl rfl rfl rfl, FromQ.refl _ _⟩
theorem runM_b {O : List Msg} {n now : Int} {cs : List Ins} (hall : ∀ x ∈ cs, soundI n x = true) : ∀ (f : Nat) {q : List Msg} {p : Pr}, GoB O q p → GoB O (runM now cs f q p).1 (runM now cs f q p).2.1 ∧ FromQ p.id q (runM now cs f q p).1 ∧ (runM now cs f q p).2.1.dev = p.dev := by
  intro f
  induction f with
  | zero => intro q p h; exact ⟨h, FromQ.refl _ _, rfl⟩
  | succ f ih =>
    intro q p h
    rw [runM]
    split
    · rename_i hlt
      obtain ⟨h1, h2⟩ := stepM_b (now := now) (hall _ (List.getElem_mem hlt)) h
      have hid := stepM_id now cs[p.els.toNat] q p
      have hdv := stepM_dev now cs[p.els.toNat] q p
      split
      · have h4 := ih h1
        rw [hid, hdv] at h4
        exact ⟨h4.1, h2.trans h4.2.1, h4.2.2⟩
      · exact ⟨h1, h2, hdv⟩
    · exact ⟨h, FromQ.refl _ _, rfl⟩
theorem onM_b {O : List Msg} {n now : Int} {cs : List Ins} (hall : ∀ x ∈ cs, soundI n x = true) {yes : Bool} {q : List Msg} {p : Pr} (h : GoB O q p) : GoB O (onM now cs yes q p).1 (onM now cs yes q p).2.1 ∧ FromQ p.id q (onM now cs yes q p).1 ∧ (onM now cs yes q p).2.1.dev = p.dev := by
  unfold onM
  split
  · exact runM_b hall (p := { p with els := p.tow }) 10000 (h.same rfl rfl rfl h.num0 h.num1)
  · split
    · exact runM_b hall 10000 h
    · have h1 := runM_b hall (now := now) (O := O) 10000 (q := takeQ q p.id p.num) (p := p) ⟨h.q.take _ _, h.sent, h.id, h.num0, h.num1⟩
      exact ⟨h1.1, (FromQ.take _ _ _ _).trans h1.2.1, h1.2.2⟩
/-- What a herald's queues and runs keep; O: what was drained. -/
structure HB (O : List Msg) (h : Her Pr) : Prop where
  dist : ∀ d, (h.qs d).Pairwise apartM
  fine : ∀ d, ∀ m ∈ h.qs d, fineM (d : Nat) m
  last : ∀ d, ∀ m ∈ h.qs d, m.run ≤ h.last
  own : ∀ r ∈ h.rs, ∀ d, ∀ m ∈ h.qs d, m.run = r.id → m.num ≤ r.sent ∧ r.dev = (d : Nat)
  old : ∀ r ∈ h.rs, ∀ o ∈ O, o.run = r.id → o.num ≤ r.sent ∧ o.dev = r.dev
  oldl : ∀ o ∈ O, o.run ≤ h.last
  rel : ∀ o ∈ O, ∀ d, ∀ m ∈ h.qs d, olderM o m
  cross : ∀ d e, ∀ m ∈ h.qs d, ∀ x ∈ h.qs e, m.run = x.run → d = e
  num : ∀ r ∈ h.rs, 0 < r.id ∧ 0 ≤ r.num ∧ r.num ≤ r.sent
  ids : h.rs.Pairwise fun a b => a.id < b.id
theorem HB.new : HB [] newH := ⟨fun _ => List.Pairwise.nil, fun _ m hm => (by simp [newH] at hm), fun _ m hm => (by simp [newH] at hm), fun r hr => (by simp [newH] at hr), fun r hr => (by simp [newH] at hr), fun o ho => (by cases ho), fun o ho => (by cases ho), fun d e m hm => (by simp [newH] at hm), fun r hr => (by simp [newH] at hr), List.Pairwise.nil⟩
theorem HB.now {O : List Msg} {h : Her Pr} (H : HB O h) (t : Int) : HB O { h with now := t } := ⟨H.dist, H.fine, H.last, H.own, H.old, H.oldl, H.rel, H.cross, H.num, H.ids⟩
theorem after_ids {E : Eng Pr} (hE : ∀ p, E.pub p = pubP p) {rs : List Pr} (r : Pr) (done : Bool) (h : rs.Pairwise fun a b => a.id < b.id) : (afterR E rs r done).Pairwise fun a b => a.id < b.id := by
  have pid : ∀ y : Pr, (E.pub y).id = y.id := fun y => by rw [hE]; rfl
  unfold afterR
  cases done with
  | true => exact h.filter _
  | false =>
    simp only [Bool.false_eq_true, if_false]
    rw [List.pairwise_map]
    refine h.imp fun {a b} hab => ?_
    have e : ∀ u : Pr, (if (E.pub u).id = (E.pub r).id then r else u).id = u.id := fun u => by
      split
      · rename_i hh; rw [pid, pid] at hh; exact hh.symm
      · rfl
    rw [e, e]; exact hab
/-- A run did something with its queue. -/
theorem HB.did {E : Eng Pr} (hE : ∀ p, E.pub p = pubP p) {O : List Msg} {h : Her Pr} (H : HB O h) {rs : List Pr} {d : Nat} {q' : List Msg} {p' : Pr} {done : Bool} {id : Int} (hid : p'.id = id) (hl : id ≤ h.last) (hdv : p'.dev = (d : Nat)) (hq : GoB O q' p') (hfrom : FromQ id (h.qs d) q')
    (hrs : ∀ y ∈ rs, y.id ≠ id → y ∈ h.rs) (hoth : ∀ e, e ≠ d → ∀ m ∈ h.qs e, m.run = id → False) (hids : rs.Pairwise fun a b => a.id < b.id) :
    HB O { h with qs := updQ h.qs d q', rs := afterR E rs p' done } := by
  have pid : ∀ y : Pr, (E.pub y).id = y.id := fun y => by rw [hE]; rfl
  have cases' : ∀ e, ∀ m ∈ updQ h.qs d q' e, (e = d ∧ m ∈ q') ∨ (e ≠ d ∧ m ∈ h.qs e) := fun e m hm => by
    unfold updQ at hm
    split at hm
    · rename_i he; exact .inl ⟨he, hm⟩
    · rename_i he; exact .inr ⟨he, hm⟩
  have hrun : ∀ y ∈ afterR E rs p' done, y = p' ∨ (y ∈ h.rs ∧ y.id ≠ id) := fun y hy => by
    rcases mem_after hy with ⟨_, rfl⟩ | ⟨hr, hne⟩
    · exact .inl rfl
    · rw [pid, pid, hid] at hne
      exact .inr ⟨hrs y hr hne, hne⟩
  refine ⟨fun e => ?_, fun e m hm => ?_, fun e m hm => ?_, fun r hr e m hm hrun' => ?_, fun r hr o ho hrun' => ?_, H.oldl, fun o ho e m hm => ?_, fun e f m hm x hx hmx => ?_, fun r hr => ?_, after_ids hE _ _ hids⟩
  · show (updQ h.qs d q' e).Pairwise apartM
    unfold updQ
    split
    · exact hq.q.dist
    · exact H.dist e
  · rcases cases' e m hm with ⟨he, hm⟩ | ⟨_, hm⟩
    · have := hq.q.fine m hm
      rw [hdv, ← he] at this
      exact this
    · exact H.fine e m hm
  · show m.run ≤ h.last
    rcases cases' e m hm with ⟨_, hm⟩ | ⟨_, hm⟩
    · rcases hfrom m hm with h1 | h1
      · rw [h1]; exact hl
      · exact H.last d m h1
    · exact H.last e m hm
  · rcases hrun r hr with rfl | ⟨hr, hne⟩
    · rw [hid] at hrun'
      rcases cases' e m hm with ⟨he, hm⟩ | ⟨he, hm⟩
      · exact ⟨hq.q.own m hm (hrun'.trans hid.symm), by rw [hdv, he]⟩
      · exact (hoth e he m hm hrun').elim
    · rcases cases' e m hm with ⟨he, hm⟩ | ⟨_, hm⟩
      · rcases hfrom m hm with h1 | h1
        · exact absurd (hrun'.symm.trans h1) hne
        · rw [he]; exact H.own r hr d m h1 hrun'
      · exact H.own r hr e m hm hrun'
  · rcases hrun r hr with rfl | ⟨hr, hne⟩
    · exact hq.q.old o ho hrun'
    · exact H.old r hr o ho hrun'
  · rcases cases' e m hm with ⟨he, hm⟩ | ⟨_, hm⟩
    · exact hq.q.rel o ho m hm
    · exact H.rel o ho e m hm
  · rcases cases' e m hm with ⟨he, hm⟩ | ⟨he, hm⟩
    · rcases cases' f x hx with ⟨hf, hx⟩ | ⟨hf, hx⟩
      · rw [he, hf]
      · rcases hfrom m hm with h1 | h1
        · exact (hoth f hf x hx (hmx.symm.trans h1)).elim
        · rw [he]; exact H.cross d f m h1 x hx hmx
    · rcases cases' f x hx with ⟨hf, hx⟩ | ⟨hf, hx⟩
      · rcases hfrom x hx with h1 | h1
        · exact (hoth e he m hm (hmx.trans h1)).elim
        · rw [hf]; exact H.cross e d m hm x h1 hmx
      · exact H.cross e f m hm x hx hmx
  · rcases hrun r hr with rfl | ⟨hr, hne⟩
    · exact ⟨hq.id, hq.num0, hq.num1⟩
    · exact H.num r hr
theorem HB.go {O : List Msg} {cs : List Ins} {n : Int} (hall : ∀ x ∈ cs, soundI n x = true) {h : Her Pr} (H : HB O h) {p : Pr} (hp : p ∈ h.rs) (yes : Bool) (h0 : 0 ≤ p.sent) (hl : p.id ≤ h.last) (hd : 0 ≤ p.dev) : HB O (goH (machE cs) h p yes) := by
  have hE : ∀ p, (machE cs).pub p = pubP p := fun _ => rfl
  have ed : ((p.dev.toNat : Nat) : Int) = p.dev := by omega
  have h1 := onM_b (O := O) hall (now := h.now) (yes := yes) (q := h.qs p.dev.toNat) (p := p) ⟨⟨H.dist _, fun m hm => by have := H.fine _ m hm; rwa [ed] at this, fun m hm hr => (H.own p hp _ m hm hr).1, H.old p hp, fun o ho m hm => H.rel o ho _ m hm⟩, h0, (H.num p hp).1, (H.num p hp).2.1, (H.num p hp).2.2⟩
  refine H.did hE (rs := h.rs) (d := p.dev.toNat) (id := p.id) (onM_id _ _ _ _ _) hl (h1.2.2.trans ed.symm) h1.1 h1.2.1 (fun y hy _ => hy) (fun e he m hm hr => ?_) H.ids
  have := (H.own p hp e m hm hr).2
  omega
theorem HB.tickN {O : List Msg} {cs : List Ins} {n : Int} (hall : ∀ x ∈ cs, soundI n x = true) {G : Pr → Prop} (hE : EngOk (machE cs) G) (en : Int) (hen : en ≤ 1000000000) : ∀ (f : Nat) {C : Int} {h : Her Pr}, HOk (machE cs) G C h → HB O h → HB O (Herald.tickN (machE cs) en f h) := by
  intro f
  induction f with
  | zero => intro C h _ H; exact H
  | succ f ih =>
    intro C h hk H
    unfold Herald.tickN
    cases hd : dueR (machE cs) en h.rs with
    | none => exact H
    | some r =>
      obtain ⟨hr, h1, h2⟩ := dueR_some hd
      have ht := hk.til r hr
      have h0 := hk.now0
      have hgo := hk.go hE hr false ((machE cs).pub r).til (by omega) (by omega) h2 (fun hh => by cases hh)
      exact ih hgo (HB.go hall (H.now ((machE cs).pub r).til) hr false (hk.sent r hr).1 (hk.id r hr) (hk.dev r hr).1)
theorem HB.tick {O : List Msg} {cs : List Ins} {k : Int} (hall : ∀ x ∈ cs, soundI k x = true) {G : Pr → Prop} (hE : EngOk (machE cs) G) {C : Int} {h : Her Pr} (hk : HOk (machE cs) G C h) (H : HB O h) (n : Int) : HB O (tickH (machE cs) h n).2 := by
  unfold tickH
  split
  · exact H
  · rename_i hn
    have h3 : h.now + n ≤ 1000000000 := by omega
    exact (HB.tickN hall hE _ h3 5000 hk H).now _
theorem HB.ack {O : List Msg} {cs : List Ins} {k : Int} (hall : ∀ x ∈ cs, soundI k x = true) {G : Pr → Prop} {C : Int} {h : Her Pr} (hk : HOk (machE cs) G C h) (H : HB O h) (id num : Int) : HB O (ackH (machE cs) h id num).2 := by
  unfold ackH
  cases hf : findR (machE cs) h.rs id with
  | none => exact H
  | some r =>
    have hr : r ∈ h.rs := List.mem_of_find?_eq_some hf
    simp only
    split
    · exact H
    · split
      · exact H
      · exact HB.go hall H hr true (hk.sent r hr).1 (hk.id r hr) (hk.dev r hr).1
theorem HB.sub {O : List Msg} {h : Her Pr} (H : HB O h) {qs : Nat → List Msg} {rs : List Pr} (hq : ∀ d, (qs d).Sublist (h.qs d)) (hr : rs.Sublist h.rs) : HB O { h with qs := qs, rs := rs } :=
  ⟨fun d => (H.dist d).sublist (hq d), fun d m hm => H.fine d m ((hq d).mem hm), fun d m hm => H.last d m ((hq d).mem hm), fun r hr' d m hm => H.own r (hr.mem hr') d m ((hq d).mem hm), fun r hr' => H.old r (hr.mem hr'), H.oldl, fun o ho d m hm => H.rel o ho d m ((hq d).mem hm), fun d e m hm x hx => H.cross d e m ((hq d).mem hm) x ((hq e).mem hx), fun r hr' => H.num r (hr.mem hr'), H.ids.sublist hr⟩
theorem HB.cancel {O : List Msg} {cs : List Ins} {h : Her Pr} (H : HB O h) (id : Int) : HB O (cancelH (machE cs) h id).2 := by
  unfold cancelH
  cases hf : findR (machE cs) h.rs id with
  | none => exact H
  | some r =>
    refine H.sub (fun e => ?_) List.filter_sublist
    unfold updQ
    split
    · rename_i he; rw [he]; exact List.filter_sublist
    · exact List.Sublist.refl _
/-- What is drained, is drained once. -/
theorem HB.drain {O : List Msg} {h : Her Pr} (H : HB O h) (dev : Int) (hk : (drainH h dev).2.1 = 0) :
    HB (O ++ [(drainH h dev).1]) (drainH h dev).2.2 ∧ fineM dev (drainH h dev).1 ∧ (drainH h dev).1.run ≤ h.last ∧ ∀ o ∈ O, olderM o (drainH h dev).1 := by
  unfold drainH at hk ⊢
  split at hk
  · cases hk
  · rename_i hdv
    rw [if_neg hdv]
    cases hq : h.qs dev.toNat with
    | nil => rw [hq] at hk; cases hk
    | cons m r =>
      simp only
      have hm : m ∈ h.qs dev.toNat := by rw [hq]; exact List.mem_cons_self ..
      have ed : ((dev.toNat : Nat) : Int) = dev := by omega
      have hf := H.fine _ m hm
      rw [ed] at hf
      have hd := H.dist dev.toNat
      rw [hq, List.pairwise_cons] at hd
      have hs : ∀ e, (updQ h.qs dev.toNat r e).Sublist (h.qs e) := fun e => by
        unfold updQ
        split
        · rename_i he; rw [he, hq]; exact List.sublist_cons_self _ _
        · exact List.Sublist.refl _
      have K := H.sub hs (List.Sublist.refl h.rs)
      refine ⟨⟨K.dist, K.fine, K.last, K.own, fun y hy o ho hr => ?_, fun o ho => ?_, fun o ho e x hx => ?_, K.cross, K.num, K.ids⟩, hf, H.last _ m hm, fun o ho => H.rel o ho _ m hm⟩
      · rcases List.mem_append.mp ho with ho | ho
        · exact K.old y hy o ho hr
        · rw [List.mem_singleton] at ho
          subst ho
          have := H.own y hy _ o hm hr
          exact ⟨this.1, by rw [this.2, ed]; exact hf.2.2.2.2⟩
      · rcases List.mem_append.mp ho with ho | ho
        · exact H.oldl o ho
        · rw [List.mem_singleton] at ho
          subst ho
          exact H.last _ o hm
      · rcases List.mem_append.mp ho with ho | ho
        · exact K.rel o ho e x hx
        · rw [List.mem_singleton] at ho
          subst ho
          intro hrun
          have he := H.cross _ e o hm x ((hs e).mem hx) hrun
          subst he
          have hx2 : x ∈ r := by
            have hx3 : x ∈ updQ h.qs dev.toNat r dev.toNat := hx
            unfold updQ at hx3
            rwa [if_pos rfl] at hx3
          have h1 := hd.1 x hx2 hrun
          have h2 := K.fine _ x hx
          rw [ed] at h2
          exact ⟨hf.2.2.2.2.trans h2.2.2.2.2.symm, h1.2, fun hk => (h1.1 hk).elim⟩
theorem HB.trig {O : List Msg} {cs : List Ins} {k : Int} (hall : ∀ x ∈ cs, soundI k x = true) {h : Her Pr} (H : HB O h) (hids : ∀ r ∈ h.rs, r.id ≤ h.last) (hl0 : 0 ≤ h.last) (dev : Int) : HB O (trigH (machE cs) h dev).2.2 := by
  unfold trigH
  split
  · exact H
  · rename_i hdv
    split
    · exact H
    · have hE : ∀ p, (machE cs).pub p = pubP p := fun _ => rfl
      have ed : ((dev.toNat : Nat) : Int) = dev := by omega
      have H1 : HB O { h with last := h.last + 1 } := ⟨H.dist, H.fine, fun d m hm => by have := H.last d m hm; show m.run ≤ h.last + 1; omega, H.own, H.old, fun o ho => by have := H.oldl o ho; show o.run ≤ h.last + 1; omega, H.rel, H.cross, H.num, H.ids⟩
      have none' : ∀ d, ∀ m ∈ h.qs d, m.run = h.last + 1 → False := fun d m hm hr => by have := H.last d m hm; omega
      have h1 := runM_b (O := O) hall (now := h.now) 10000 (q := h.qs dev.toNat) (p := freshP (h.last + 1) dev) ⟨⟨H.dist _, fun m hm => by have := H.fine _ m hm; rwa [ed] at this, fun m hm hr => (none' _ m hm hr).elim, fun o ho hr => by have := H.oldl o ho; have hr2 : o.run = h.last + 1 := hr; omega, fun o ho m hm => H.rel o ho _ m hm⟩, Int.le_refl 0, by show 0 < h.last + 1; omega, Int.le_refl 0, Int.le_refl 0⟩
      exact H1.did hE (rs := h.rs ++ [freshP (h.last + 1) dev]) (d := dev.toNat) (id := h.last + 1) (runM_id _ _ _ _ _) (Int.le_refl _) (h1.2.2.trans ed.symm) h1.1 h1.2.1 (fun y hy hne => by
        rcases List.mem_append.mp hy with hy | hy
        · exact hy
        · rw [List.mem_singleton.mp hy] at hne
          exact absurd rfl hne) (fun e _ m hm hr => (none' e m hm hr).elim) (by
        rw [List.pairwise_append]
        refine ⟨H.ids, by simp, fun a ha b hb => ?_⟩
        rw [List.mem_singleton.mp hb]
        have := hids a ha
        show a.id < h.last + 1
        omega)
/-- Every run is stopped till a later time. -/
def HT (h : Her Pr) : Prop := ∀ r ∈ h.rs, h.now < r.til
theorem HT.trig {cs : List Ins} {G : Pr → Prop} (hE : EngOk (machE cs) G) {C : Int} {h : Her Pr} (K : HOk (machE cs) G C h) (H : HT h) (dev : Int) : HT (trigH (machE cs) h dev).2.2 := by
  unfold trigH
  split
  · exact H
  · split
    · exact H
    · intro y hy
      have ho := hE.start h.now (h.qs dev.toNat) (h.last + 1) dev (K.qlen _)
      rcases mem_after hy with ⟨hd, rfl⟩ | ⟨hy, hne⟩
      · exact (ho.stop hd).2.1
      · rcases List.mem_append.mp hy with hy | hy
        · exact H y hy
        · rw [List.mem_singleton.mp hy] at hne
          exact absurd ho.id.symm hne
theorem HT.tick {cs : List Ins} {h : Her Pr} (H : HT h) (hms : ∀ n, ¬ (¬ (1 ≤ n ∧ n ≤ 999) ∨ 1000000000 < h.now + n) → dueR (machE cs) (h.now + n) (tickN (machE cs) (h.now + n) 5000 h).rs = none) (n : Int) : HT (tickH (machE cs) h n).2 := by
  unfold tickH
  split
  · exact H
  · rename_i hn
    exact fun r hr => dueR_none (hms n hn) r hr
theorem HT.ack {cs : List Ins} {G : Pr → Prop} (hE : EngOk (machE cs) G) {C : Int} {h : Her Pr} (K : HOk (machE cs) G C h) (H : HT h) (id num : Int) : HT (ackH (machE cs) h id num).2 := by
  unfold ackH
  cases hf : findR (machE cs) h.rs id with
  | none => exact H
  | some r =>
    have hr : r ∈ h.rs := List.mem_of_find?_eq_some hf
    simp only
    split
    · exact H
    · rename_i hn
      split
      · exact H
      · have hz : ((machE cs).pub r).num ≠ 0 := fun hh => hn (by
          by_cases h0 : num = 0
          · exact .inl h0
          · right
            intro e
            exact h0 (e.symm.trans hh))
        have ho := hE.on h.now true (h.qs ((machE cs).pub r).dev.toNat) r (K.good r hr) (K.qlen _) (fun _ => hz)
        intro y hy
        rcases mem_after hy with ⟨hd, rfl⟩ | ⟨hy, _⟩
        · exact (ho.stop hd).2.1
        · exact H y hy
theorem HT.cancel {cs : List Ins} {h : Her Pr} (H : HT h) (id : Int) : HT (cancelH (machE cs) h id).2 := by
  unfold cancelH
  cases hf : findR (machE cs) h.rs id with
  | none => exact H
  | some r => exact fun y hy => H y (List.mem_filter.mp hy).1
theorem HT.drain {h : Her Pr} (H : HT h) (dev : Int) : HT (drainH h dev).2.2 := by
  unfold drainH
  split
  · exact H
  · cases hq : h.qs dev.toNat with
    | nil => exact H
    | cons m r => exact H
/-- The queues, one behind the other. -/
theorem HB.all {O : List Msg} {h : Her Pr} (H : HB O h) : (h.qs 0 ++ h.qs 1 ++ h.qs 2).Pairwise apartM ∧ (h.qs 0 ++ h.qs 1 ++ h.qs 2).Pairwise fun a b => a.dev ≤ b.dev := by
  have dv : ∀ (d : Nat), ∀ m ∈ h.qs d, m.dev = (d : Nat) := fun d m hm => (H.fine d m hm).2.2.2.2
  have ap : ∀ (d e : Nat), d ≠ e → ∀ a ∈ h.qs d, ∀ b ∈ h.qs e, apartM a b := fun d e hne a ha b hb hr => absurd (H.cross d e a ha b hb hr) hne
  have le : ∀ (d e : Nat), d ≤ e → ∀ a ∈ h.qs d, ∀ b ∈ h.qs e, a.dev ≤ b.dev := fun d e hle a ha b hb => by
    rw [dv d a ha, dv e b hb]; omega
  have self : ∀ d, (h.qs d).Pairwise fun a b => a.dev ≤ b.dev := fun d => List.Pairwise.imp_of_mem (R := fun _ _ => True) (fun {a b} ha hb _ => le d d (Nat.le_refl _) a ha b hb) (List.pairwise_of_forall (fun _ _ => trivial))
  refine ⟨?_, ?_⟩
  · rw [List.pairwise_append, List.pairwise_append]
    refine ⟨⟨H.dist 0, H.dist 1, ap 0 1 (by decide)⟩, H.dist 2, fun a ha b hb => ?_⟩
    rcases List.mem_append.mp ha with ha | ha
    · exact ap 0 2 (by decide) a ha b hb
    · exact ap 1 2 (by decide) a ha b hb
  · rw [List.pairwise_append, List.pairwise_append]
    refine ⟨⟨self 0, self 1, le 0 1 (by decide)⟩, self 2, fun a ha b hb => ?_⟩
    rcases List.mem_append.mp ha with ha | ha
    · exact le 0 2 (by decide) a ha b hb
    · exact le 1 2 (by decide) a ha b hb
/-- How many messages of a device lie among these. -/
def cntM (d : Int) (l : List Msg) : Nat := l.countP fun m => m.dev == d
theorem HB.cnt {O : List Msg} {h : Her Pr} (H : HB O h) (hq : ∀ d, (h.qs d).length ≤ 4) (d : Int) : cntM d (h.qs 0 ++ h.qs 1 ++ h.qs 2) ≤ 4 := by
  have dv : ∀ (e : Nat), cntM d (h.qs e) ≤ 4 ∧ (d ≠ (e : Nat) → cntM d (h.qs e) = 0) := fun e => by
    refine ⟨Nat.le_trans List.countP_le_length (hq e), fun hne => ?_⟩
    unfold cntM
    rw [List.countP_eq_zero]
    intro m hm
    have := (H.fine e m hm).2.2.2.2
    rw [this]
    simpa using fun hh => hne hh.symm
  have e : cntM d (h.qs 0 ++ h.qs 1 ++ h.qs 2) = cntM d (h.qs 0) + cntM d (h.qs 1) + cntM d (h.qs 2) := by
    unfold cntM
    rw [List.countP_append, List.countP_append]
  rw [e]
  obtain ⟨a1, a2⟩ := dv 0
  obtain ⟨b1, b2⟩ := dv 1
  obtain ⟨c1, c2⟩ := dv 2
  by_cases h0 : d = ((0 : Nat) : Int)
  · have := b2 (by omega); have := c2 (by omega); omega
  · have := a2 h0
    by_cases h1 : d = ((1 : Nat) : Int)
    · have := c2 (by omega); omega
    · have := b2 h1; omega
theorem cntM_take (d : Int) (l : List Msg) (k : Nat) : cntM d (l.take k) ≤ cntM d l := List.Sublist.countP_le (List.take_sublist k l)
end Go.Proofs.Herald
/- A drained message is newer than all before it; a state is sane. -/
namespace Go.Proofs.Ytmmmnghiegajmab
open Go.RowKit Go.Proofs.Herald
theorem row_below {w w' : World} {e : TypeId} {k n : Nat} {v : Value} {l : List Value} (h : w.ownsRow 0 e k v n l) (hb : Below w.heap.size w w') : w'.ownsRow 0 e k v n l :=
  own_keep h fun b hb' => by
    obtain ⟨c, hc⟩ := own_block h hb'
    exact hb.block b (heap_lt hc)
set_option maxRecDepth 20000 in
set_option maxHeartbeats 4000000 in
theorem c_newer (m : Msg) (dev : Int) (l : List Msg) (a : Option Addr) (cap : Nat) (w : World) (h : w.ownsRow 0 30 4 (.slice a l.length cap) l.length (msgsCells l)) (hl : l.length ≤ 2000000) (hold : ∀ o ∈ l, olderM o m) (hf : fineM dev m) :
    Calls Try.prog 9 #[.agg #[.int .i64 m.dev, .int .i64 m.run, .int .i64 m.num, .int .i64 m.key], .int .i64 dev, .slice a l.length cap] w fun e w' => e = .returned (.bool true) ∧ Below w.heap.size w w' := by
  have HR : Hid ((w.alloc (.cells #[.int .i64 m.dev, .int .i64 m.run, .int .i64 m.num, .int .i64 m.key] 30)).ownsRow 0 30 4 (.slice a l.length cap) l.length (msgsCells l)) := row_below h ((Below.refl _ _).alloc (Nat.le_refl _) _)
  have HM : Hid ((w.alloc (.cells #[.int .i64 m.dev, .int .i64 m.run, .int .i64 m.num, .int .i64 m.key] 30)).heap[w.heap.size]? = some (.cells #[.int .i64 m.dev, .int .i64 m.run, .int .i64 m.num, .int .i64 m.key] 30 (0, 0))) := heap_alloc_new _ _
  have HO : Hid (∀ o ∈ l, olderM o m) := hold
  have HF : Hid (fineM dev m) := hf
  clear h hold hf
  go_enter Try.func9, Try.ntmps9
  go_wp2_with fail
  go_loopw [7] (fun i wr => ∃ k : Nat, k ≤ l.length ∧ i = .int .i64 k ∧ Hid (SameH (w.alloc (.cells #[.int .i64 m.dev, .int .i64 m.run, .int .i64 m.num, .int .i64 m.key] 30)) wr)) (fun i _ => l.length - (intOf i).toNat)
  case atStart => exact ⟨0, Nat.zero_le _, rfl, SameH.refl _⟩
  case round =>
    obtain ⟨k, hk, rfl, HS⟩ := hrel
    have x0 : wr.cell? ⟨w.heap.size, 0, none⟩ = some (.int .i64 m.dev) := (HS.out.cell _).trans ((cell_of_heap HM.out).trans rfl)
    have x1 : wr.cell? ⟨w.heap.size, 1, none⟩ = some (.int .i64 m.run) := (HS.out.cell _).trans ((cell_of_heap HM.out).trans rfl)
    have x2 : wr.cell? ⟨w.heap.size, 2, none⟩ = some (.int .i64 m.num) := (HS.out.cell _).trans ((cell_of_heap HM.out).trans rfl)
    have x3 : wr.cell? ⟨w.heap.size, 3, none⟩ = some (.int .i64 m.key) := (HS.out.cell _).trans ((cell_of_heap HM.out).trans rfl)
    by_cases hlt : k < l.length
    · obtain ⟨g, ca', hv, _, _⟩ := HR.out.form (by omega)
      simp at hv
      obtain ⟨rfl, rfl⟩ := hv
      obtain ⟨e0, e1, e2, e3⟩ := msg_get HR.out hlt
      rw [← HS.out.cell] at e0 e1 e2 e3
      have HO1 : Hid (olderM l[k] m) := HO.out _ (List.getElem_mem hlt)
      generalize l[k] = o at *
      by_cases h1 : o.run = m.run
      · obtain ⟨d1, n1, k1⟩ := HO1.out h1
        have b1 : (o.run == m.run) = true := by simpa using h1
        have b2 : (o.dev != m.dev) = false := by simpa using d1
        have b3 : (o.num == m.num) = false := by simpa using n1
        by_cases h4 : o.key = m.key
        · have b4 : (o.key == m.key) = true := by simpa using h4
          have b5 : decide (m.num ≤ o.num) = false := decide_eq_false (by have := k1 h4; omega)
          go_wp2_with fail
          go_quiet (fail)
          go_wp2_with fail
          go_roundw
          case rel => exact ⟨k + 1, by omega, by go_num, ⟨HS.out.heap, HS.out.os, HS.out.tape, HS.out.output⟩⟩
          case measure => simp [intOf]; omega
        · have b4 : (o.key == m.key) = false := by simpa using h4
          go_wp2_with fail
          go_quiet (fail)
          go_wp2_with fail
          go_roundw
          case rel => exact ⟨k + 1, by omega, by go_num, ⟨HS.out.heap, HS.out.os, HS.out.tape, HS.out.output⟩⟩
          case measure => simp [intOf]; omega
      · have b1 : (o.run == m.run) = false := by simpa using h1
        go_wp2_with fail
        go_quiet (fail)
        go_wp2_with fail
        go_roundw
        case rel => exact ⟨k + 1, by omega, by go_num, ⟨HS.out.heap, HS.out.os, HS.out.tape, HS.out.output⟩⟩
        case measure => simp [intOf]; omega
    · obtain ⟨p1, p2, p3, p4, p5⟩ := HF.out
      have b1 : (m.dev == dev) = true := by simpa using p5
      have b2 : decide (0 < m.num) = true := decide_eq_true p1
      have b3 : decide (0 < m.run) = true := decide_eq_true p2
      have b4 : decide (0 ≤ m.key) = true := decide_eq_true p3
      have b5 : decide (m.key < 8) = true := decide_eq_true (by omega)
      go_wp2_with fail
      go_ret
      exact ⟨rfl, ((Below.refl _ _).alloc (Nat.le_refl _) _).trans (HS.out.below _)⟩
end Go.Proofs.Ytmmmnghiegajmab
