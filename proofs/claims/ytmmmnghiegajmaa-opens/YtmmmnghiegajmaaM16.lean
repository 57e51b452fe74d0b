import Derived.Test.YtmmmnghiegajmaaM14
/- The document's own herald, whole, in memory: its runs, and what one of them did. -/
namespace Go.Proofs.Ytmmmnghiegajmaa
open Go.RowKit Go.Proofs.Herald
theorem upd_upd {α : Type} (f : Nat → α) (d : Nat) (a b : α) : upd (upd f d a) d b = upd f d b := by
  funext k
  by_cases h : k = d
  · subst h; rw [upd_same, upd_same]
  · rw [upd_other _ _ h, upd_other _ _ h, upd_other _ _ h]
theorem StepOut.trans {S Q P R : Nat} {cv : Md} {pv : Value} {rec : ByteArray} {now last : Int} {qv : Nat → Value} {qs : Nat → List Msg} {d : Nat} {L : List (Nat × Int)} {w w1 w2 : World} {q1 q2 : List Msg} {p2 : Pr} {v1 : Value} {done : Bool} (hv : ∀ b, v1.ownBlock = some b → (qv d).ownBlock = some b ∨ w.heap.size ≤ b) (hF : Fr (StepT S Q P R (qv d)) w w1)
    (h : StepOut S Q P R cv pv rec now last (upd qv d v1) (upd qs d q1) d L w1 q2 p2 done w2) : StepOut S Q P R cv pv rec now last qv qs d L w q2 p2 done w2 := by
  obtain ⟨v, pv', hC, h2, h3, h4, h5⟩ := h
  rw [upd_upd, upd_upd] at hC
  rw [upd_same] at h2 h5
  refine ⟨v, pv', hC, fun b hb => ?_, h3, fun hd => ⟨(h4 hd).1, fun b hb => Nat.le_trans hF.size ((h4 hd).2 b hb)⟩, ?_⟩
  · rcases h2 b hb with h | h
    · exact hv b h
    · exact .inr (Nat.le_trans hF.size h)
  · have f1 : Fr (fun k => StepT S Q P R (qv d) k ∨ w.heap.size ≤ k) w w1 := hF.mono fun k _ hk => .inl hk
    have f2 : Fr (fun k => StepT S Q P R (qv d) k ∨ w.heap.size ≤ k) w1 w2 := h5.mono fun k _ hk => by
      rcases hk with h | h | h | h | h
      · exact .inl (.inl h)
      · exact .inl (.inr (.inl h))
      · exact .inl (.inr (.inr (.inl h)))
      · exact .inl (.inr (.inr (.inr (.inl h))))
      · rcases hv k h with h | h
        · exact .inl (.inr (.inr (.inr (.inr h))))
        · exact .inr h
    exact (f1.trans f2).mono fun k hk hs => by
      rcases hs with h | h
      · exact h
      · omega
/-- The list of runs stands behind what a run did. -/
theorem ProcsAt.after {w w' : World} {S Q P R : Nat} {cv cv' : Md} {pv pl pv' : Value} {rec rec' : ByteArray} {now last now' last' : Int} {qv qv' : Nat → Value} {qs qs' : Nat → List Msg} {p p' : Pr} {L : List (Nat × Int)} {d : Nat} (h : ProcsAt w pl L) (hc : SimCore w S Q P R cv pv rec now last qv qs p) (hc' : SimCore w' S Q P R cv' pv' rec' now' last' qv' qs' p') (hid : p'.id = p.id) (hd : d < 3) (f : Fr (StepT S Q P R (qv d)) w w') : ProcsAt w' pl L := by
  refine ⟨own_keep h.own fun b hb => ?_, fun x hx => ?_⟩
  · obtain ⟨c, hb'⟩ := own_block h.own hb
    refine f.block b (heap_lt hb') ?_
    rintro (hk | hk | hk | hk | hk)
    · exact ne_of_type hb' hc.pB (by decide) hk
    · exact ne_of_type hb' hc.qB (by decide) hk
    · exact ne_of_type hb' hc.rB (by decide) hk
    · exact ne_of_type hb' hc.sB (by decide) hk
    · obtain ⟨c2, hc2⟩ := own_block (hc.oB d hd) hk
      exact ne_of_type hb' hc2 (by decide) rfl
  · obtain ⟨cs, h1, h2⟩ := h.ids x hx
    by_cases hP : x.1 = P
    · refine ⟨_, by rw [hP]; exact hc'.pB, ?_⟩
      rw [hP, hc.pB] at h1
      cases h1
      rw [hid]
      exact h2
    · refine ⟨cs, (f.block x.1 (heap_lt h1) ?_).trans h1, h2⟩
      rintro (hk | hk | hk | hk | hk)
      · exact hP hk
      · exact ne_of_type h1 hc.qB (by decide) hk
      · exact ne_of_type h1 hc.rB (by decide) hk
      · exact ne_of_type h1 hc.sB (by decide) hk
      · obtain ⟨c2, hc2⟩ := own_block (hc.oB d hd) hk
        exact ne_of_type h1 hc2 (by decide) rfl
/-- A run in memory: itself, its registers, what it is to do (answered or not), what is told of it. -/
structure Rs where
  P : Nat
  R : Nat
  yv : Value
  nv : Value
  p : Pr
/-- What a herald is of. -/
structure Sd where
  tx : Bool
  pg : Value
  code : Value
def Sd.md (s : Sd) (yv nv : Value) : Md := ⟨s.tx, s.pg, s.code, yv, nv⟩
def RunCells (w : World) (x : Rs) : Prop :=
  w.heap[x.P]? = some (.cells #[.int .i64 x.p.id, .int .i64 x.p.dev, .int .i64 x.p.sent, .int .i64 x.p.til, .int .i64 x.p.num, x.yv, x.nv, .slice (some ⟨x.R, 0, none⟩) 12 12, .int .i64 x.p.tow, .int .i64 x.p.els] 176 (0, 0)) ∧
  w.heap[x.R]? = some (.cells (x.p.regs.map fun z => Value.int .i64 z).toArray 3 (0, 0)) ∧ x.p.regs.length = 12
def idsOf (rs : List Rs) : List (Nat × Int) := rs.map fun x => (x.P, x.p.id)
/-- What a herald owns. -/
def ownS (S Q : Nat) (pv : Value) (qv : Nat → Value) (rs : List Rs) (k : Nat) : Prop :=
  k = S ∨ k = Q ∨ (∃ d, d < 3 ∧ (qv d).ownBlock = some k) ∨ pv.ownBlock = some k ∨ ∃ x ∈ rs, k = x.P ∨ k = x.R
/-- The whole herald. -/
structure SimAt (w : World) (S Q : Nat) (s : Sd) (pv : Value) (rec : ByteArray) (now last : Int) (qv : Nat → Value) (qs : Nat → List Msg) (rs : List Rs) : Prop where
  sB : w.heap[S]? = some (.cells #[.bool s.tx, s.pg, s.code, .int .i64 now, .int .i64 last, pv, .slice (some ⟨Q, 0, none⟩) 3 3, .string rec] 121 (0, 0))
  qB : w.heap[Q]? = some (.cells #[qv 0, qv 1, qv 2] 66 (0, 0))
  oB : ∀ d, d < 3 → w.ownsRow 0 83 4 (qv d) (qs d).length (msgsCells (qs d))
  dis : ∀ d e b, d < 3 → e < 3 → (qv d).ownBlock = some b → (qv e).ownBlock = some b → d = e
  lB : w.ownsRow 0 177 1 pv rs.length (ptrs (idsOf rs))
  rB : ∀ x ∈ rs, RunCells w x
  nd : rs.Pairwise fun x y => x.P ≠ y.P ∧ x.R ≠ y.R ∧ x.p.id ≠ y.p.id
/-- What it owns lies, and is of one of six sorts. -/
theorem SimAt.sort {w : World} {S Q : Nat} {s : Sd} {pv : Value} {rec : ByteArray} {now last : Int} {qv : Nat → Value} {qs : Nat → List Msg} {rs : List Rs} (h : SimAt w S Q s pv rec now last qv qs rs) {k : Nat} (hk : ownS S Q pv qv rs k) :
    ∃ c t, w.heap[k]? = some (.cells c t (0, 0)) ∧ (t = 121 ∨ t = 66 ∨ t = 83 ∨ t = 177 ∨ t = 176 ∨ t = 3) := by
  rcases hk with rfl | rfl | ⟨d, hd, hk⟩ | hk | ⟨x, hx, rfl | rfl⟩
  · exact ⟨_, _, h.sB, .inl rfl⟩
  · exact ⟨_, _, h.qB, .inr (.inl rfl)⟩
  · obtain ⟨c, hc⟩ := own_block (h.oB d hd) hk
    exact ⟨_, _, hc, .inr (.inr (.inl rfl))⟩
  · obtain ⟨c, hc⟩ := own_block h.lB hk
    exact ⟨_, _, hc, .inr (.inr (.inr (.inl rfl)))⟩
  · exact ⟨_, _, (h.rB x hx).1, .inr (.inr (.inr (.inr (.inl rfl))))⟩
  · exact ⟨_, _, (h.rB x hx).2.1, .inr (.inr (.inr (.inr (.inr rfl))))⟩
theorem SimAt.lt {w : World} {S Q : Nat} {s : Sd} {pv : Value} {rec : ByteArray} {now last : Int} {qv : Nat → Value} {qs : Nat → List Msg} {rs : List Rs} (h : SimAt w S Q s pv rec now last qv qs rs) {k : Nat} (hk : ownS S Q pv qv rs k) : k < w.heap.size := by
  obtain ⟨c, t, hc, _⟩ := h.sort hk
  exact heap_lt hc
/-- Nothing of it turned. -/
theorem SimAt.keep {w w' : World} {S Q : Nat} {s : Sd} {pv : Value} {rec : ByteArray} {now last : Int} {qv : Nat → Value} {qs : Nat → List Msg} {rs : List Rs} (h : SimAt w S Q s pv rec now last qv qs rs) (hk : ∀ k, ownS S Q pv qv rs k → w'.heap[k]? = w.heap[k]?) : SimAt w' S Q s pv rec now last qv qs rs :=
  ⟨(hk S (.inl rfl)).trans h.sB, (hk Q (.inr (.inl rfl))).trans h.qB, fun d hd => own_keep (h.oB d hd) fun b hb => hk b (.inr (.inr (.inl ⟨d, hd, hb⟩))), h.dis, own_keep h.lB fun b hb => hk b (.inr (.inr (.inr (.inl hb)))),
    fun x hx => ⟨(hk x.P (.inr (.inr (.inr (.inr ⟨x, hx, .inl rfl⟩))))).trans (h.rB x hx).1, (hk x.R (.inr (.inr (.inr (.inr ⟨x, hx, .inr rfl⟩))))).trans (h.rB x hx).2.1, (h.rB x hx).2.2⟩, h.nd⟩
/-- Its own record is written: the time, the last number, the journal. -/
theorem SimAt.setS {w w' : World} {S Q : Nat} {s : Sd} {pv : Value} {rec rec' : ByteArray} {now last now' last' : Int} {qv : Nat → Value} {qs : Nat → List Msg} {rs : List Rs} (h : SimAt w S Q s pv rec now last qv qs rs)
    (hS : w'.heap[S]? = some (.cells #[.bool s.tx, s.pg, s.code, .int .i64 now', .int .i64 last', pv, .slice (some ⟨Q, 0, none⟩) 3 3, .string rec'] 121 (0, 0))) (hk : ∀ k, ownS S Q pv qv rs k → k ≠ S → w'.heap[k]? = w.heap[k]?) : SimAt w' S Q s pv rec' now' last' qv qs rs := by
  have ne : ∀ {k : Nat} {c : Array Value} {t : TypeId}, w.heap[k]? = some (.cells c t (0, 0)) → t ≠ 121 → k ≠ S := fun hc ht => ne_of_type hc h.sB ht
  refine ⟨hS, (hk Q (.inr (.inl rfl)) (ne h.qB (by decide))).trans h.qB, fun d hd => own_keep (h.oB d hd) fun b hb => ?_, h.dis, own_keep h.lB fun b hb => ?_, fun x hx => ⟨?_, ?_, (h.rB x hx).2.2⟩, h.nd⟩
  · obtain ⟨c, hc⟩ := own_block (h.oB d hd) hb
    exact hk b (.inr (.inr (.inl ⟨d, hd, hb⟩))) (ne hc (by decide))
  · obtain ⟨c, hc⟩ := own_block h.lB hb
    exact hk b (.inr (.inr (.inr (.inl hb)))) (ne hc (by decide))
  · exact (hk x.P (.inr (.inr (.inr (.inr ⟨x, hx, .inl rfl⟩)))) (ne (h.rB x hx).1 (by decide))).trans (h.rB x hx).1
  · exact (hk x.R (.inr (.inr (.inr (.inr ⟨x, hx, .inr rfl⟩)))) (ne (h.rB x hx).2.1 (by decide))).trans (h.rB x hx).2.1
theorem SimAt.core {w : World} {S Q : Nat} {s : Sd} {pv : Value} {rec : ByteArray} {now last : Int} {qv : Nat → Value} {qs : Nat → List Msg} {rs : List Rs} (h : SimAt w S Q s pv rec now last qv qs rs) {x : Rs} (hx : x ∈ rs) : SimCore w S Q x.P x.R (s.md x.yv x.nv) pv rec now last qv qs x.p :=
  ⟨h.sB, h.qB, h.oB, h.dis, (h.rB x hx).1, (h.rB x hx).2.1, (h.rB x hx).2.2⟩
theorem SimAt.procs {w : World} {S Q : Nat} {s : Sd} {pv : Value} {rec : ByteArray} {now last : Int} {qv : Nat → Value} {qs : Nat → List Msg} {rs : List Rs} (h : SimAt w S Q s pv rec now last qv qs rs) : ProcsAt w pv (idsOf rs) := by
  refine ⟨by unfold idsOf; rw [List.length_map]; exact h.lB, fun x hx => ?_⟩
  obtain ⟨y, hy, rfl⟩ := List.mem_map.mp hx
  exact ⟨_, (h.rB y hy).1, rfl⟩
theorem nd_ne {rs : List Rs} (h : rs.Pairwise fun x y => x.P ≠ y.P ∧ x.R ≠ y.R ∧ x.p.id ≠ y.p.id) {x y : Rs} (hx : x ∈ rs) (hy : y ∈ rs) : y = x ∨ (y.P ≠ x.P ∧ y.R ≠ x.R ∧ y.p.id ≠ x.p.id) := by
  obtain ⟨i, hi, rfl⟩ := List.getElem_of_mem hx
  obtain ⟨j, hj, rfl⟩ := List.getElem_of_mem hy
  rw [List.pairwise_iff_getElem] at h
  rcases Nat.lt_trichotomy i j with hij | hij | hij
  · obtain ⟨h1, h2, h3⟩ := h i j hi hj hij
    exact .inr ⟨h1.symm, h2.symm, h3.symm⟩
  · subst hij; exact .inl rfl
  · exact .inr (h j i hj hi hij)
/-- The runs behind what one of them did. -/
def afterRs (rs : List Rs) (x : Rs) (done : Bool) : List Rs := if done then rs.filter (fun y => y.p.id != x.p.id) else rs.map (fun y => if y.p.id = x.p.id then x else y)
/-- What a run did: the queue's list, the list of runs, what is told of it. -/
structure RunOut (w w' : World) (S Q : Nat) (s : Sd) (pv : Value) (rec : ByteArray) (now last : Int) (qv : Nat → Value) (qs : Nat → List Msg) (L : List (Nat × Int)) (x : Rs) (d : Nat) (q : List Msg) (x' : Rs) (done : Bool) (v pv' : Value) : Prop where
  core : SimCore w' S Q x.P x.R (s.md x'.yv x'.nv) pv' rec now last (upd qv d v) (upd qs d q) x'.p
  hP : x'.P = x.P
  hR : x'.R = x.R
  id : x'.p.id = x.p.id
  hv : ∀ b, v.ownBlock = some b → (qv d).ownBlock = some b ∨ w.heap.size ≤ b
  stay : done = false → pv' = pv
  gone : done = true → w'.ownsRow 0 177 1 pv' (L.filter (fun y => y.2 != x'.p.id)).length (ptrs (L.filter (fun y => y.2 != x'.p.id))) ∧ ∀ b, pv'.ownBlock = some b → w.heap.size ≤ b
  fr : Fr (StepT S Q x.P x.R (qv d)) w w'
/-- Of an instruction, or some, of code. -/
theorem RunOut.of_step {w w' : World} {S Q : Nat} {s : Sd} {pv : Value} {rec : ByteArray} {now last : Int} {qv : Nat → Value} {qs : Nat → List Msg} {L : List (Nat × Int)} {x : Rs} {d : Nat} {q : List Msg} {p' : Pr} {done : Bool} (h : StepOut S Q x.P x.R (s.md x.yv x.nv) pv rec now last qv qs d L w q p' done w') (hid : p'.id = x.p.id) :
    ∃ v pv', RunOut w w' S Q s pv rec now last qv qs L x d q { x with p := p' } done v pv' := by
  obtain ⟨v, pv', hC, hv, hpv, hdn, hF⟩ := h
  exact ⟨v, pv', hC, rfl, rfl, hid, hv, hpv, hdn, hF⟩
/-- What one of its runs did, seen of the whole. -/
theorem SimAt.after {w w' : World} {S Q : Nat} {s : Sd} {pv : Value} {rec : ByteArray} {now last : Int} {qv : Nat → Value} {qs : Nat → List Msg} {rs : List Rs} {x x' : Rs} {d : Nat} {q' : List Msg} {done : Bool} {v pv' : Value} (h : SimAt w S Q s pv rec now last qv qs rs) (hx : x ∈ rs) (hd : d < 3)
    (ho : RunOut w w' S Q s pv rec now last qv qs (idsOf rs) x d q' x' done v pv') :
    SimAt w' S Q s pv' rec now last (upd qv d v) (upd qs d q') (afterRs rs x' done) ∧ Fr (ownS S Q pv qv rs) w w' ∧ ∀ k, ownS S Q pv' (upd qv d v) (afterRs rs x' done) k → ownS S Q pv qv rs k ∨ w.heap.size ≤ k := by
  obtain ⟨hC, hP, hR, hid, hv, hpv, hdn, hF⟩ := ho
  have hc := h.core hx
  have hPA := h.procs.after hc hC hid hd hF
  have hFX : Fr (ownS S Q pv qv rs) w w' := hF.mono fun k _ hk => by
    rcases hk with rfl | rfl | rfl | rfl | hk
    · exact .inr (.inr (.inr (.inr ⟨x, hx, .inl rfl⟩)))
    · exact .inr (.inl rfl)
    · exact .inr (.inr (.inr (.inr ⟨x, hx, .inr rfl⟩)))
    · exact .inl rfl
    · exact .inr (.inr (.inl ⟨d, hd, hk⟩))
  have hq : ∀ k, (∃ e, e < 3 ∧ ((upd qv d v) e).ownBlock = some k) → ownS S Q pv qv rs k ∨ w.heap.size ≤ k := by
    rintro k ⟨e, he, hb⟩
    by_cases hed : e = d
    · subst hed
      rw [upd_same] at hb
      rcases hv k hb with h1 | h1
      · exact .inl (.inr (.inr (.inl ⟨e, he, h1⟩)))
      · exact .inr h1
    · rw [upd_other _ _ hed] at hb
      exact .inl (.inr (.inr (.inl ⟨e, he, hb⟩)))
  have hoth : ∀ y ∈ rs, y.p.id ≠ x.p.id → RunCells w' y := fun y hy hne => by
    rcases nd_ne h.nd hx hy with hyx | ⟨h1, h2, _⟩
    · exact absurd (by rw [hyx]) hne
    · obtain ⟨b1, b2, b3⟩ := h.rB y hy
      refine ⟨(hF.block y.P (heap_lt b1) ?_).trans b1, (hF.block y.R (heap_lt b2) ?_).trans b2, b3⟩
      · rintro (hk | hk | hk | hk | hk)
        · exact h1 hk
        · exact ne_of_type b1 hc.qB (by decide) hk
        · exact ne_of_type b1 hc.rB (by decide) hk
        · exact ne_of_type b1 hc.sB (by decide) hk
        · obtain ⟨c2, hc2⟩ := own_block (hc.oB d hd) hk
          exact ne_of_type b1 hc2 (by decide) rfl
      · rintro (hk | hk | hk | hk | hk)
        · exact ne_of_type b2 hc.pB (by decide) hk
        · exact ne_of_type b2 hc.qB (by decide) hk
        · exact h2 hk
        · exact ne_of_type b2 hc.sB (by decide) hk
        · obtain ⟨c2, hc2⟩ := own_block (hc.oB d hd) hk
          exact ne_of_type b2 hc2 (by decide) rfl
  cases done with
  | false =>
    obtain rfl := hpv rfl
    have hpick : ∀ y ∈ rs, y.p.id = x'.p.id → y = x := fun y hy hh => by
      rcases nd_ne h.nd hx hy with hyx | ⟨_, _, h3⟩
      · exact hyx
      · exact absurd (hh.trans hid) h3
    have hcx : RunCells w' x' := by
      refine ⟨?_, ?_, hC.rl⟩
      · rw [hP, hR]; exact hC.pB
      · rw [hR]; exact hC.rB
    have hids : idsOf (rs.map fun y => if y.p.id = x'.p.id then x' else y) = idsOf rs := by
      unfold idsOf
      rw [List.map_map]
      refine List.map_congr_left fun y hy => ?_
      simp only [Function.comp]
      split
      · next hh => rw [hpick y hy hh, hP, hid]
      · rfl
    have e0 : afterRs rs x' false = rs.map fun y => if y.p.id = x'.p.id then x' else y := rfl
    rw [e0]
    refine ⟨⟨hC.sB, hC.qB, hC.oB, hC.dis, ?_, fun y' hy' => ?_, ?_⟩, hFX, fun k hk => ?_⟩
    · rw [hids, List.length_map]
      have := hPA.own
      unfold idsOf at this ⊢
      rw [List.length_map] at this
      exact this
    · obtain ⟨y, hy, rfl⟩ := List.mem_map.mp hy'
      split
      · exact hcx
      · next hh => exact hoth y hy fun hh2 => hh (hh2.trans hid.symm)
    · rw [List.pairwise_map]
      refine List.Pairwise.imp_of_mem (fun {y z} hy hz hyz => ?_) h.nd
      have e : ∀ u ∈ rs, ((if u.p.id = x'.p.id then x' else u).P = u.P) ∧ ((if u.p.id = x'.p.id then x' else u).R = u.R) ∧ ((if u.p.id = x'.p.id then x' else u).p.id = u.p.id) := fun u hu => by
        split
        · next hh => rw [hpick u hu hh]; exact ⟨hP, hR, hid⟩
        · exact ⟨rfl, rfl, rfl⟩
      rw [(e y hy).1, (e y hy).2.1, (e y hy).2.2, (e z hz).1, (e z hz).2.1, (e z hz).2.2]
      exact hyz
    · rcases hk with rfl | rfl | hk | hk | ⟨y', hy', hk⟩
      · exact .inl (.inl rfl)
      · exact .inl (.inr (.inl rfl))
      · exact hq k hk
      · exact .inl (.inr (.inr (.inr (.inl hk))))
      · obtain ⟨y, hy, rfl⟩ := List.mem_map.mp hy'
        left
        refine .inr (.inr (.inr (.inr ⟨y, hy, ?_⟩)))
        by_cases hh : y.p.id = x'.p.id
        · rw [if_pos hh, hP, hR, ← hpick y hy hh] at hk; exact hk
        · rw [if_neg hh] at hk; exact hk
  | true =>
    have hl := hdn rfl
    have hids : (idsOf rs).filter (fun y => y.2 != x'.p.id) = idsOf (rs.filter fun y => y.p.id != x'.p.id) := by
      unfold idsOf
      rw [List.filter_map]
      rfl
    rw [hids] at hl
    have e0 : afterRs rs x' true = rs.filter fun y => y.p.id != x'.p.id := rfl
    rw [e0]
    have hmem : ∀ y ∈ rs.filter (fun y => y.p.id != x'.p.id), y ∈ rs ∧ y.p.id ≠ x.p.id := fun y hy => by
      obtain ⟨h1, h2⟩ := List.mem_filter.mp hy
      exact ⟨h1, fun hh => by simp [hh, hid] at h2⟩
    refine ⟨⟨hC.sB, hC.qB, hC.oB, hC.dis, ?_, fun y hy => hoth y (hmem y hy).1 (hmem y hy).2, h.nd.filter _⟩, hFX, fun k hk => ?_⟩
    · have := hl.1
      unfold idsOf at this ⊢
      rw [List.length_map] at this
      exact this
    · rcases hk with rfl | rfl | hk | hk | ⟨y, hy, hk⟩
      · exact .inl (.inl rfl)
      · exact .inl (.inr (.inl rfl))
      · exact hq k hk
      · exact .inr (hl.2 k hk)
      · exact .inl (.inr (.inr (.inr (.inr ⟨y, (hmem y hy).1, hk⟩))))
end Go.Proofs.Ytmmmnghiegajmaa
/- The document's own herald: the run of a number. The document's own herald: the run that is due. A run of sound code as plain mathematics: what it keeps within bounds, and that it stops for a while or ends. The document's own journal: a number as eight bytes. The document's own journal: the bits of bytes. -/
namespace Go.Proofs.Ytmmmnghiegajmaa
open Go.RowKit Go.Proofs.Herald
def ptrOf (o : Option (Nat × Int)) : Value := .pointer (o.map fun x => ⟨x.1, 0, none⟩)
set_option maxRecDepth 20000 in
set_option maxHeartbeats 4000000 in
theorem s_find (S : Nat) (pv : Value) (L : List (Nat × Int)) (id : Int) (w : World) (h5 : w.cell? ⟨S, 5, none⟩ = some pv) (hP : ProcsAt w pv L) (hl : L.length ≤ 1000) :
    Calls Try.prog 126 #[.pointer (some ⟨S, 0, none⟩), .int .i64 id] w fun e w' => e = .returned (ptrOf (L.find? fun x => x.2 == id)) ∧ SameH w w' := by
  obtain ⟨a, cap, hv⟩ := ownsRow_slice hP.own
  subst hv
  have HO : Hid (w.ownsRow 0 177 1 (.slice a L.length cap) L.length (ptrs L)) := hP.own
  have HI : Hid (∀ x ∈ L, w.cell? ⟨x.1, 0, none⟩ = some (.int .i64 x.2)) := fun x hx => by
    obtain ⟨cs, h1, h2⟩ := hP.ids x hx
    exact (cell_of_heap h1).trans h2
  clear hP
  generalize hR : ptrOf (L.find? fun x => x.2 == id) = RR
  have HR : Hid (ptrOf (L.find? fun x => x.2 == id) = RR) := hR
  clear hR
  go_enter Try.func126, Try.ntmps126
  go_wp2_with fail
  go_loopw [5] (fun i wr => ∃ k : Nat, k ≤ L.length ∧ i = .int .i64 k ∧ Hid (SameH w wr) ∧ Hid (∀ x ∈ L.take k, ¬ x.2 = id)) (fun i _ => L.length - (intOf i).toNat)
  case atStart => exact ⟨0, Nat.zero_le _, rfl, SameH.refl _, fun x hx => absurd hx (by simp)⟩
  case round =>
    obtain ⟨k, hk, rfl, HS, HT⟩ := hrel
    rw [← HS.out.cell] at h5
    by_cases hlt : k < L.length
    · obtain ⟨g, cap', hv, _, hgl⟩ := HO.out.form (by omega)
      simp at hv
      obtain ⟨rfl, rfl⟩ := hv
      have e0 : w.cell? ⟨g, k, none⟩ = some (.pointer (some ⟨L[k].1, 0, none⟩)) := own_cell HO.out rfl (by unfold ptrs; simp [hlt])
      have e1 := HI.out L[k] (List.getElem_mem hlt)
      rw [← HS.out.cell] at e0 e1
      have HYES : Hid (L[k].2 = id → .pointer (some ⟨L[k].1, 0, none⟩) = RR) := fun h => by
        rw [← HR.out, find_at L id k hlt HT.out h]; rfl
      have HNO : Hid (¬ L[k].2 = id → ∀ x ∈ L.take (k + 1), ¬ x.2 = id) := fun h x hx => by
        rw [List.take_succ_eq_append_getElem hlt] at hx
        rcases List.mem_append.mp hx with hx | hx
        · exact HT.out x hx
        · simp at hx; rw [hx]; exact h
      clear hgl
      generalize L[k] = x at *
      obtain ⟨x1, x2⟩ := x
      dsimp only at e0 e1
      by_cases hr : x2 = id
      · have b1 : (x2 == id) = true := by simpa using hr
        have HY : Hid (_ = _) := HYES.out hr
        clear hr HYES HNO
        go_wp2_with fail
        go_ret
        rw [← HY.out]
        exact ⟨rfl, HS.out⟩
      · have b1 : (x2 == id) = false := by simpa using hr
        have HN : Hid (∀ x ∈ L.take (k + 1), ¬ x.2 = id) := HNO.out hr
        clear hr HYES HNO
        go_wp2_with fail
        go_roundw
        case rel => exact ⟨k + 1, by omega, by go_num, HS, HN⟩
        case measure => simp [intOf]; omega
    · have HE : Hid (.pointer none = RR) := by
        show _ = _
        have h := HT.out
        rw [List.take_of_length_le (by omega)] at h
        rw [← HR.out, List.find?_eq_none.mpr (fun x hx => by simpa using h x hx)]
        rfl
      go_wp2_with fail
      go_ret
      rw [← HE.out]
      exact ⟨rfl, HS.out⟩
set_option maxRecDepth 20000 in
set_option maxHeartbeats 4000000 in
theorem s_due (S : Nat) (pv : Value) (L : List (Nat × Int)) (en : Int) (w : World) (h5 : w.cell? ⟨S, 5, none⟩ = some pv) (hO : w.ownsRow 0 177 1 pv L.length (ptrs L)) (hI : ∀ x ∈ L, w.cell? ⟨x.1, 3, none⟩ = some (.int .i64 x.2)) (hl : L.length ≤ 1000) :
    Calls Try.prog 124 #[.pointer (some ⟨S, 0, none⟩), .int .i64 en] w fun e w' => e = .returned (ptrOf (dueL en L)) ∧ SameH w w' := by
  obtain ⟨a, cap, hv⟩ := ownsRow_slice hO
  subst hv
  have HO : Hid (w.ownsRow 0 177 1 (.slice a L.length cap) L.length (ptrs L)) := hO
  have HI : Hid (∀ x ∈ L, w.cell? ⟨x.1, 3, none⟩ = some (.int .i64 x.2)) := hI
  clear hO hI
  generalize hR : dueL en L = RR
  have HR : Hid (dueL en L = RR) := hR
  clear hR
  go_enter Try.func124, Try.ntmps124
  go_wp2_with fail
  go_loopw [5, 6] (fun best i wr => ∃ (k : Nat) (o : Option (Nat × Int)), k ≤ L.length ∧ i = .int .i64 k ∧ best = ptrOf o ∧ Hid (SameH w wr) ∧ Hid (dueL en (L.take k) = o) ∧ Hid (∀ b, o = some b → b ∈ L)) (fun _ i _ => L.length - (intOf i).toNat)
  case atStart => exact ⟨0, none, Nat.zero_le _, rfl, rfl, SameH.refl _, rfl, fun b hb => by cases hb⟩
  case round =>
    obtain ⟨k, o, hk, rfl, rfl, HS, HT, HM⟩ := hrel
    rw [← HS.out.cell] at h5
    by_cases hlt : k < L.length
    · obtain ⟨g, cap', hv, _, hgl⟩ := HO.out.form (by omega)
      simp at hv
      obtain ⟨rfl, rfl⟩ := hv
      have e0 : w.cell? ⟨g, k, none⟩ = some (.pointer (some ⟨L[k].1, 0, none⟩)) := own_cell HO.out rfl (by unfold ptrs; simp [hlt])
      have e1 := HI.out L[k] (List.getElem_mem hlt)
      rw [← HS.out.cell] at e0 e1
      have HN : Hid (dueL en (L.take (k + 1)) = dueStep en o L[k]) := by show _ = _; rw [dueL_snoc hlt, HT.out]
      have HX : Hid (∀ b, (some L[k] : Option (Nat × Int)) = some b → b ∈ L) := fun b hb => by cases hb; exact List.getElem_mem hlt
      clear hgl
      generalize L[k] = x at *
      obtain ⟨x1, x2⟩ := x
      dsimp only at e0 e1
      by_cases hle : x2 ≤ en
      · cases o with
        | none =>
          have HE : Hid (dueL en (L.take (k + 1)) = some (x1, x2)) := by show _ = _; rw [HN.out]; unfold dueStep; rw [if_pos hle]
          unfold ptrOf
          simp only [Option.map]
          go_wp2_with fail
          go_region
          all_goals
            go_wp2_with fail
            go_roundw
            case rel => exact ⟨k + 1, some (x1, x2), by omega, by go_num, rfl, HS.out.drew, HE, HX⟩
            case measure => simp [intOf]; omega
        | some b =>
          obtain ⟨b1, b2⟩ := b
          have f1 := HI.out (b1, b2) (HM.out _ rfl)
          dsimp only at f1
          rw [← HS.out.cell] at f1
          unfold ptrOf
          simp only [Option.map]
          by_cases hbt : x2 < b2
          · have HE : Hid (dueL en (L.take (k + 1)) = some (x1, x2)) := by show _ = _; rw [HN.out]; unfold dueStep; rw [if_pos hle]; exact if_pos hbt
            go_wp2_with fail
            go_region
            all_goals
              go_wp2_with fail
              go_roundw
              case rel => exact ⟨k + 1, some (x1, x2), by omega, by go_num, rfl, HS.out.drew, HE, HX⟩
              case measure => simp [intOf]; omega
          · have HE : Hid (dueL en (L.take (k + 1)) = some (b1, b2)) := by show _ = _; rw [HN.out]; unfold dueStep; rw [if_pos hle]; exact if_neg hbt
            go_wp2_with fail
            go_region
            all_goals
              go_wp2_with fail
              go_roundw
              case rel => exact ⟨k + 1, some (b1, b2), by omega, by go_num, rfl, HS.out.drew, HE, HM⟩
              case measure => simp [intOf]; omega
      · have HE : Hid (dueL en (L.take (k + 1)) = o) := by show _ = _; rw [HN.out]; unfold dueStep; rw [if_neg hle]
        have hgt : decide (x2 ≤ en) = false := by simpa using hle
        clear hle
        cases o with
        | none =>
          unfold ptrOf
          simp only [Option.map]
          go_wp2_with fail
          go_region
          all_goals
            go_wp2_with fail
            go_roundw
            case rel => exact ⟨k + 1, none, by omega, by go_num, rfl, HS.out.drew, HE, HM⟩
            case measure => simp [intOf]; omega
        | some b =>
          unfold ptrOf
          simp only [Option.map]
          go_wp2_with fail
          go_region
          all_goals
            go_wp2_with fail
            go_roundw
            case rel => exact ⟨k + 1, some b, by omega, by go_num, rfl, HS.out.drew, HE, HM⟩
            case measure => simp [intOf]; omega
    · have HE : Hid (o = RR) := by
        show _ = _
        rw [← HT.out, ← HR.out, List.take_of_length_le (by omega)]
      go_wp2_with fail
      go_ret
      rw [← HE.out]
      exact ⟨rfl, HS.out⟩
end Go.Proofs.Ytmmmnghiegajmaa
