/- The owner's record behind a state. -/
import Derived.Test.YtmmmnghiegajmaaNewI
import Derived.Test.YtmmmnghiegajmaaNewJ
namespace Go.Proofs.Ytmmmnghiegajmaa
open Go.RowKit Go.Proofs.Herald

/-- The blocks of the owner's lists, when those of a state have come to them. -/
def moreX (X : Nat → Prop) (w w' : World) (l q : Value) (k : Nat) : Prop := k < w'.heap.size ∧ (X k ∨ l.ownBlock = some k ∨ q.ownBlock = some k ∨ w.heap.size ≤ k)

theorem state_any (X : Nat → Prop) (O : Nat) (n now : Int) (cv rv qv : Value) (cb rb qb : List (Value × List Value)) (a : Option Addr) (nl cap : Nat) (xs : List Value) (aq : Option Addr) (nq capq : Nat) (xq : List Value) (w : World) (hn0 : 0 ≤ n) (hn1 : n ≤ 900000000) (hnl : nl ≤ 1000000) (hnq : nq ≤ 1000000) (hrb : rb.length ≤ 10000000) (hqb : qb.length ≤ 10000000)
    (h : OwnAt w X O n cv rv qv cb rb qb) (hl : w.ownsRow 0 90 5 (.slice a nl cap) nl xs) (hlq : w.ownsRow 0 83 4 (.slice aq nq capq) nq xq)
    (hlX : ∀ b, (Value.slice a nl cap).ownBlock = some b → ¬ X b) (hqX : ∀ b, (Value.slice aq nq capq).ownBlock = some b → ¬ X b) :
    Calls Try.prog 58 #[.pointer (some ⟨O, 0, none⟩), .agg #[.int .i64 now, .slice a nl cap, .slice aq nq capq]] w fun e w' => e = .returned (.tuple #[]) ∧
      ∃ rv' qv' rb' qb', rb'.length = rb.length + 4 ∧ qb'.length = qb.length + 4 ∧ OwnAt w' (moreX X w w' (.slice a nl cap) (.slice aq nq capq)) O (n + 1) cv rv' qv' cb rb' qb' ∧ Fr (fun k => X k ∨ (Value.slice a nl cap).ownBlock = some k ∨ (Value.slice aq nq capq).ownBlock = some k) w w' := by
  refine (state_bk O n now cv rv qv rb qb a nl cap xs aq nq capq xq w hn0 hn1 hnl hnq hrb hqb h.blk h.rown h.qown hl hlq).mono ?_
  rintro e w' ⟨rfl, wm, u, v1, v2, v3, v, v4, v5, v6, B1, B2⟩
  obtain ⟨w0, hw0⟩ : ∃ W, W = ((w.setCell ⟨O, 0, none⟩ (.int .i64 (n + 1))).alloc (.cells #[.int .i64 now, .slice a nl cap, .slice aq nq capq] 68)) := ⟨_, rfl⟩
  rw [← hw0] at B1
  have hs0 : w0.heap.size = w.heap.size + 1 := by rw [hw0]; simp [World.setCell]
  have hsm := B1.fr.size
  have hs' := B2.fr.size
  have old0 : ∀ {b : Nat} {cur : Array Value} {e : TypeId}, w.heap[b]? = some (.cells cur e (0, 0)) → e ≠ 41 → w0.heap[b]? = some (.cells cur e (0, 0)) := fun {b cur e} hb he => by
    rw [hw0, Below.heap_alloc _ _ _ (by simp [World.setCell]; exact heap_lt hb), Below.heap_setCell _ _ _ _ (ne_of_type hb h.blk he)]; exact hb
  -- from w on to wm
  have keep1 : ∀ {b : Nat} {cur : Array Value} {e : TypeId}, w.heap[b]? = some (.cells cur e (0, 0)) → e ≠ 41 → e ≠ 132 → (Value.slice a nl cap).ownBlock ≠ some b → wm.heap[b]? = some (.cells cur e (0, 0)) := fun {b cur e} hb h1 h2 h3 => by
    have hb0 := old0 hb h1
    rw [B1.fr.block b (heap_lt hb0) (fun hh => ?_)]
    · exact hb0
    · rcases hh with rfl | hh | hh
      · exact ne_of_type hb h.blk h1 rfl
      · obtain ⟨c, hc⟩ := own_block h.rown hh; exact ne_of_type hb hc h2 rfl
      · exact h3 hh
  -- from wm on to w'
  have qm : wm.ownsRow 0 134 5 qv qb.length (booksCells qb) := own_keep h.qown fun b hb => by
    obtain ⟨c, hc⟩ := own_block h.qown hb
    rw [keep1 hc (by decide) (by decide) (fun e => by obtain ⟨c2, hc2⟩ := own_block hl e; exact ne_of_type hc hc2 (by decide) rfl), hc]
  have keep2 : ∀ {b : Nat} {cur : Array Value} {e : TypeId}, wm.heap[b]? = some (.cells cur e (0, 0)) → e ≠ 41 → e ≠ 134 → (Value.slice aq nq capq).ownBlock ≠ some b → w'.heap[b]? = some (.cells cur e (0, 0)) := fun {b cur e} hb h1 h2 h3 => by
    rw [B2.fr.block b (heap_lt hb) (fun hh => ?_)]
    · exact hb
    · rcases hh with rfl | hh | hh
      · exact ne_of_type hb B1.o h1 rfl
      · obtain ⟨c, hc⟩ := own_block qm hh; exact ne_of_type hb hc h2 rfl
      · exact h3 hh
  have lqm : wm.ownsRow 0 83 4 (.slice aq nq capq) nq xq := own_keep hlq fun b hb => by
    obtain ⟨c, hc⟩ := own_block hlq hb
    rw [keep1 hc (by decide) (by decide) (fun e => by obtain ⟨c2, hc2⟩ := own_block hl e; exact ne_of_type hc hc2 (by decide) rfl), hc]
  have inX : ∀ {b : Nat}, X b → ∀ {o : Obj}, w.heap[b]? = some o → moreX X w w' (.slice a nl cap) (.slice aq nq capq) b := fun {b} hb {o} ho => ⟨by have := heap_lt ho; omega, Or.inl hb⟩
  refine ⟨rfl, u, v, rb ++ [(.slice a nl cap, [.int .i64 (-(n + 1)), .int .i64 0, .int .i64 0, .int .i64 0, .int .i64 0]), (v1, [.int .i64 (-(n + 1)), .int .i64 0, .int .i64 0, .int .i64 0, .int .i64 0]), (v2, [.int .i64 (-(n + 1)), .int .i64 0, .int .i64 0, .int .i64 0, .int .i64 0]), (v3, [.int .i64 (-(n + 1)), .int .i64 0, .int .i64 0, .int .i64 0, .int .i64 0])], qb ++ [(.slice aq nq capq, [.int .i64 0, .int .i64 (-(n + 1)), .int .i64 0, .int .i64 0]), (v4, [.int .i64 0, .int .i64 (-(n + 1)), .int .i64 0, .int .i64 0]), (v5, [.int .i64 0, .int .i64 (-(n + 1)), .int .i64 0, .int .i64 0]), (v6, [.int .i64 0, .int .i64 (-(n + 1)), .int .i64 0, .int .i64 0])], ?_, ?_, ⟨B2.o, inX h.inO h.blk, ?_, ?_, B2.rown, ?_, ?_, ?_, ?_, ?_, ?_⟩, ?_⟩
  · simp
  · simp
  · exact own_keep h.cown fun b hb => by
      obtain ⟨c, hc⟩ := own_block h.cown hb
      rw [keep2 (keep1 hc (by decide) (by decide) (fun e => by obtain ⟨c2, hc2⟩ := own_block hl e; exact ne_of_type hc hc2 (by decide) rfl)) (by decide) (by decide) (fun e => by obtain ⟨c2, hc2⟩ := own_block hlq e; exact ne_of_type hc hc2 (by decide) rfl), hc]
  · exact own_keep B1.rown fun b hb => by
      obtain ⟨c, hc⟩ := own_block B1.rown hb
      rw [keep2 hc (by decide) (by decide) (fun e => by obtain ⟨c2, hc2⟩ := own_block lqm e; exact ne_of_type hc hc2 (by decide) rfl), hc]
  · intro b hb
    obtain ⟨c, hc⟩ := own_block h.cown hb
    exact inX (h.cin b hb) hc
  · intro b hb
    obtain ⟨c, hc⟩ := own_block B1.rown hb
    refine ⟨by have := heap_lt hc; omega, ?_⟩
    rcases B1.rat b hb with h1 | h1
    · exact Or.inl (h.rin b h1)
    · exact Or.inr (Or.inr (Or.inr (by omega)))
  · intro b hb
    obtain ⟨c, hc⟩ := own_block B2.rown hb
    refine ⟨heap_lt hc, ?_⟩
    rcases B2.rat b hb with h1 | h1
    · exact Or.inl (h.qin b h1)
    · exact Or.inr (Or.inr (Or.inr (by omega)))
  · intro b hb
    obtain ⟨h1, m, hm, h2, h3⟩ := h.cbk b hb
    refine ⟨h1, m, hm, own_keep h2 fun g hg => ?_, fun g hg => ?_⟩
    · obtain ⟨c, hc⟩ := own_block h2 hg
      rw [keep2 (keep1 hc (by decide) (by decide) (fun e => by obtain ⟨c2, hc2⟩ := own_block hl e; exact ne_of_type hc hc2 (by decide) rfl)) (by decide) (by decide) (fun e => by obtain ⟨c2, hc2⟩ := own_block hlq e; exact ne_of_type hc hc2 (by decide) rfl), hc]
    · obtain ⟨c, hc⟩ := own_block h2 hg
      exact inX (h3 g hg) hc
  · have new : ∀ x nx, nx ≤ 100000000 → wm.ownsRow 0 90 5 x nx (marks [.int .i64 (-(n + 1)), .int .i64 0, .int .i64 0, .int .i64 0, .int .i64 0] nx) → (∀ b, x.ownBlock = some b → (Value.slice a nl cap).ownBlock = some b ∨ w0.heap.size ≤ b) →
        BookOk w' (moreX X w w' (.slice a nl cap) (.slice aq nq capq)) 90 5 (x, [.int .i64 (-(n + 1)), .int .i64 0, .int .i64 0, .int .i64 0, .int .i64 0]) := fun x nx hnx hx hxb => by
      refine ⟨⟨[-(n + 1), 0, 0, 0, 0], rfl, rfl⟩, nx, hnx, own_keep hx fun g hg => ?_, fun g hg => ?_⟩
      · obtain ⟨c, hc⟩ := own_block hx hg
        rw [keep2 hc (by decide) (by decide) (fun e => by obtain ⟨c2, hc2⟩ := own_block lqm e; exact ne_of_type hc hc2 (by decide) rfl), hc]
      · obtain ⟨c, hc⟩ := own_block hx hg
        refine ⟨by have := heap_lt hc; omega, ?_⟩
        rcases hxb g hg with h1 | h1
        · exact Or.inr (Or.inl h1)
        · exact Or.inr (Or.inr (Or.inr (by omega)))
    intro b hb
    rw [List.mem_append] at hb
    rcases hb with hb | hb
    · obtain ⟨h1, m, hm, h2, h3⟩ := h.rbk b hb
      refine ⟨h1, m, hm, own_keep h2 fun g hg => ?_, fun g hg => ?_⟩
      · obtain ⟨c, hc⟩ := own_block h2 hg
        rw [keep2 (keep1 hc (by decide) (by decide) (fun e => hlX g e (h3 g hg))) (by decide) (by decide) (fun e => by obtain ⟨c2, hc2⟩ := own_block hlq e; exact ne_of_type hc hc2 (by decide) rfl), hc]
      · obtain ⟨c, hc⟩ := own_block h2 hg
        exact inX (h3 g hg) hc
    · simp only [List.mem_cons, List.not_mem_nil, or_false] at hb
      rcases hb with rfl | rfl | rfl | rfl
      · exact new _ nl (by omega) B1.lown (fun b hb => Or.inl hb)
      · obtain ⟨k1, _, k3⟩ := B1.kins (v1, nl + 1) (by simp)
        exact new _ _ (by omega) k1 k3
      · obtain ⟨k1, _, k3⟩ := B1.kins (v2, nl + 2) (by simp)
        exact new _ _ (by omega) k1 k3
      · obtain ⟨k1, _, k3⟩ := B1.kins (v3, nl + 3) (by simp)
        exact new _ _ (by omega) k1 k3
  · have new : ∀ x nx, nx ≤ 100000000 → w'.ownsRow 0 83 4 x nx (marks [.int .i64 0, .int .i64 (-(n + 1)), .int .i64 0, .int .i64 0] nx) → (∀ b, x.ownBlock = some b → (Value.slice aq nq capq).ownBlock = some b ∨ wm.heap.size ≤ b) →
        BookOk w' (moreX X w w' (.slice a nl cap) (.slice aq nq capq)) 83 4 (x, [.int .i64 0, .int .i64 (-(n + 1)), .int .i64 0, .int .i64 0]) := fun x nx hnx hx hxb => by
      refine ⟨⟨[0, -(n + 1), 0, 0], rfl, rfl⟩, nx, hnx, hx, fun g hg => ?_⟩
      obtain ⟨c, hc⟩ := own_block hx hg
      refine ⟨heap_lt hc, ?_⟩
      rcases hxb g hg with h1 | h1
      · exact Or.inr (Or.inr (Or.inl h1))
      · exact Or.inr (Or.inr (Or.inr (by omega)))
    intro b hb
    rw [List.mem_append] at hb
    rcases hb with hb | hb
    · obtain ⟨h1, m, hm, h2, h3⟩ := h.qbk b hb
      refine ⟨h1, m, hm, own_keep h2 fun g hg => ?_, fun g hg => ?_⟩
      · obtain ⟨c, hc⟩ := own_block h2 hg
        rw [keep2 (keep1 hc (by decide) (by decide) (fun e => by obtain ⟨c2, hc2⟩ := own_block hl e; exact ne_of_type hc hc2 (by decide) rfl)) (by decide) (by decide) (fun e => hqX g e (h3 g hg)), hc]
      · obtain ⟨c, hc⟩ := own_block h2 hg
        exact inX (h3 g hg) hc
    · simp only [List.mem_cons, List.not_mem_nil, or_false] at hb
      rcases hb with rfl | rfl | rfl | rfl
      · exact new _ nq (by omega) B2.lown (fun b hb => Or.inl hb)
      · obtain ⟨k1, _, k3⟩ := B2.kins (v4, nq + 1) (by simp)
        exact new _ _ (by omega) k1 k3
      · obtain ⟨k1, _, k3⟩ := B2.kins (v5, nq + 2) (by simp)
        exact new _ _ (by omega) k1 k3
      · obtain ⟨k1, _, k3⟩ := B2.kins (v6, nq + 3) (by simp)
        exact new _ _ (by omega) k1 k3
  · have f0 : Fr (fun k => X k ∨ (Value.slice a nl cap).ownBlock = some k ∨ (Value.slice aq nq capq).ownBlock = some k) w w0 := by
      rw [hw0]
      exact ((Fr.refl _ w).setCell ⟨O, 0, none⟩ (Or.inl (Or.inl h.inO)) _).alloc _
    have f1 : Fr (fun k => X k ∨ (Value.slice a nl cap).ownBlock = some k ∨ (Value.slice aq nq capq).ownBlock = some k) w0 wm := B1.fr.mono fun k _ hk => by
      rcases hk with rfl | hk | hk
      · exact Or.inl h.inO
      · exact Or.inl (h.rin k hk)
      · exact Or.inr (Or.inl hk)
    have f2 : Fr (fun k => X k ∨ (Value.slice a nl cap).ownBlock = some k ∨ (Value.slice aq nq capq).ownBlock = some k) wm w' := B2.fr.mono fun k _ hk => by
      rcases hk with rfl | hk | hk
      · exact Or.inl h.inO
      · exact Or.inl (h.qin k hk)
      · exact Or.inr (Or.inr hk)
    exact (f0.trans f1).trans f2

end Go.Proofs.Ytmmmnghiegajmaa
