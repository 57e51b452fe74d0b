/- The owner's record behind code; a copy of code. -/
import Derived.Test.YtiaibigmbflpiaaCmpH
import Derived.Test.YtiaibigmbflpiaaNewK
namespace Go.Proofs.Ytiaibigmbflpiaa
open Go.RowKit Go.Proofs.Herald

theorem instrs_any (X : Nat → Prop) (O : Nat) (n : Int) (cv rv qv : Value) (cb rb qb : List (Value × List Value)) (a : Option Addr) (nl cap : Nat) (xs : List Value) (w : World) (hn0 : 0 ≤ n) (hn1 : n ≤ 900000000) (hnl : nl ≤ 1000000) (hcb : cb.length ≤ 10000000)
    (h : OwnAt w X O n cv rv qv cb rb qb) (hl : w.ownsRow 0 126 4 (.slice a nl cap) nl xs) (hlX : ∀ b, (Value.slice a nl cap).ownBlock = some b → ¬ X b) :
    Calls Try.prog 59 #[.pointer (some ⟨O, 0, none⟩), .slice a nl cap] w fun e w' => e = .returned (.tuple #[]) ∧
      ∃ cv' cb', cb'.length = cb.length + 4 ∧ OwnAt w' (moreX X w w' (.slice a nl cap) (.slice a nl cap)) O (n + 1) cv' rv qv cb' rb qb ∧ Fr (fun k => X k ∨ (Value.slice a nl cap).ownBlock = some k) w w' := by
  refine (instrs_bk O n cv rv qv cb a nl cap xs w hn0 hn1 hnl hcb h.blk h.cown hl).mono ?_
  rintro e w' ⟨rfl, v, v1, v2, v3, B1⟩
  obtain ⟨w0, hw0⟩ : ∃ W, W = w.setCell ⟨O, 0, none⟩ (.int .i64 (n + 1)) := ⟨_, rfl⟩
  rw [← hw0] at B1
  have hs0 : w0.heap.size = w.heap.size := by rw [hw0, size_setCell]
  have hs' := B1.fr.size
  have keep1 : ∀ {b : Nat} {cur : Array Value} {e : TypeId}, w.heap[b]? = some (.cells cur e (0, 0)) → e ≠ 41 → e ≠ 128 → (Value.slice a nl cap).ownBlock ≠ some b → w'.heap[b]? = some (.cells cur e (0, 0)) := fun {b cur e} hb h1 h2 h3 => by
    have hb0 : w0.heap[b]? = some (.cells cur e (0, 0)) := by rw [hw0, Below.heap_setCell _ _ _ _ (ne_of_type hb h.blk h1)]; exact hb
    rw [B1.fr.block b (heap_lt hb0) (fun hh => ?_)]
    · exact hb0
    · rcases hh with rfl | hh | hh
      · exact ne_of_type hb h.blk h1 rfl
      · obtain ⟨c, hc⟩ := own_block h.cown hh; exact ne_of_type hb hc h2 rfl
      · exact h3 hh
  have inX : ∀ {b : Nat}, X b → ∀ {o : Obj}, w.heap[b]? = some o → moreX X w w' (.slice a nl cap) (.slice a nl cap) b := fun {b} hb {o} ho => ⟨by have := heap_lt ho; omega, Or.inl hb⟩
  have oth : ∀ {b : Nat} {cur : Array Value} {e : TypeId}, w.heap[b]? = some (.cells cur e (0, 0)) → e ≠ 126 → (Value.slice a nl cap).ownBlock ≠ some b := fun {b cur e} hb he hh => by
    obtain ⟨c2, hc2⟩ := own_block hl hh; exact ne_of_type hb hc2 he rfl
  refine ⟨rfl, v, cb ++ [(.slice a nl cap, [.int .i64 (-(n + 1)), .int .i64 0, .int .i64 0, .int .i64 0]), (v1, [.int .i64 (-(n + 1)), .int .i64 0, .int .i64 0, .int .i64 0]), (v2, [.int .i64 (-(n + 1)), .int .i64 0, .int .i64 0, .int .i64 0]), (v3, [.int .i64 (-(n + 1)), .int .i64 0, .int .i64 0, .int .i64 0])], ?_, ⟨B1.o, inX h.inO h.blk, B1.rown, ?_, ?_, ?_, ?_, ?_, ?_, ?_, ?_⟩, ?_⟩
  · simp
  · exact own_keep h.rown fun b hb => by
      obtain ⟨c, hc⟩ := own_block h.rown hb
      rw [keep1 hc (by decide) (by decide) (oth hc (by decide)), hc]
  · exact own_keep h.qown fun b hb => by
      obtain ⟨c, hc⟩ := own_block h.qown hb
      rw [keep1 hc (by decide) (by decide) (oth hc (by decide)), hc]
  · intro b hb
    obtain ⟨c, hc⟩ := own_block B1.rown hb
    refine ⟨heap_lt hc, ?_⟩
    rcases B1.rat b hb with h1 | h1
    · exact Or.inl (h.cin b h1)
    · exact Or.inr (Or.inr (Or.inr (by omega)))
  · intro b hb
    obtain ⟨c, hc⟩ := own_block h.rown hb
    exact inX (h.rin b hb) hc
  · intro b hb
    obtain ⟨c, hc⟩ := own_block h.qown hb
    exact inX (h.qin b hb) hc
  · have new : ∀ x nx, nx ≤ 100000000 → w'.ownsRow 0 126 4 x nx (marks [.int .i64 (-(n + 1)), .int .i64 0, .int .i64 0, .int .i64 0] nx) → (∀ b, x.ownBlock = some b → (Value.slice a nl cap).ownBlock = some b ∨ w0.heap.size ≤ b) →
        BookOk w' (moreX X w w' (.slice a nl cap) (.slice a nl cap)) 126 4 (x, [.int .i64 (-(n + 1)), .int .i64 0, .int .i64 0, .int .i64 0]) := fun x nx hnx hx hxb => by
      refine ⟨⟨[-(n + 1), 0, 0, 0], rfl, rfl⟩, nx, hnx, hx, fun g hg => ?_⟩
      obtain ⟨c, hc⟩ := own_block hx hg
      refine ⟨heap_lt hc, ?_⟩
      rcases hxb g hg with h1 | h1
      · exact Or.inr (Or.inl h1)
      · exact Or.inr (Or.inr (Or.inr (by omega)))
    intro b hb
    rw [List.mem_append] at hb
    rcases hb with hb | hb
    · obtain ⟨h1, m, hm, h2, h3⟩ := h.cbk b hb
      refine ⟨h1, m, hm, own_keep h2 fun g hg => ?_, fun g hg => ?_⟩
      · obtain ⟨c, hc⟩ := own_block h2 hg
        rw [keep1 hc (by decide) (by decide) (fun e => hlX g e (h3 g hg)), hc]
      · obtain ⟨c, hc⟩ := own_block h2 hg
        exact inX (h3 g hg) hc
    · simp only [List.mem_cons, List.not_mem_nil, or_false] at hb
      rcases hb with rfl | rfl | rfl | rfl
      · exact new _ nl (by omega) B1.lown (fun b hb => Or.inl hb)
      · obtain ⟨k1, _, k3⟩ := B1.kins (v1, nl + 1) (by simp)
        exact new _ _ (by omega) k1 k3
      · obtain ⟨k1, _, k3⟩ := B1.kins (v2, nl + 2) (by simp)
        exact new _ _ (by omega) k1 k3
      · obtain ⟨k1, _, k3⟩ := B1.kins (v3, nl + 3) (by simp)
        exact new _ _ (by omega) k1 k3
  · intro b hb
    obtain ⟨h1, m, hm, h2, h3⟩ := h.rbk b hb
    refine ⟨h1, m, hm, own_keep h2 fun g hg => ?_, fun g hg => ?_⟩
    · obtain ⟨c, hc⟩ := own_block h2 hg
      rw [keep1 hc (by decide) (by decide) (oth hc (by decide)), hc]
    · obtain ⟨c, hc⟩ := own_block h2 hg
      exact inX (h3 g hg) hc
  · intro b hb
    obtain ⟨h1, m, hm, h2, h3⟩ := h.qbk b hb
    refine ⟨h1, m, hm, own_keep h2 fun g hg => ?_, fun g hg => ?_⟩
    · obtain ⟨c, hc⟩ := own_block h2 hg
      rw [keep1 hc (by decide) (by decide) (oth hc (by decide)), hc]
    · obtain ⟨c, hc⟩ := own_block h2 hg
      exact inX (h3 g hg) hc
  · have f0 : Fr (fun k => X k ∨ (Value.slice a nl cap).ownBlock = some k) w w0 := by
      rw [hw0]
      exact (Fr.refl _ w).setCell ⟨O, 0, none⟩ (Or.inl (Or.inl h.inO)) _
    have f1 : Fr (fun k => X k ∨ (Value.slice a nl cap).ownBlock = some k) w0 w' := B1.fr.mono fun k _ hk => by
      rcases hk with rfl | hk | hk
      · exact Or.inl h.inO
      · exact Or.inl (h.cin k hk)
      · exact Or.inr hk
    exact f0.trans f1

set_option maxHeartbeats 1000000 in
theorem copied_any (a : Option Addr) (b off cap : Nat) (cs : List Ins) (w : World) (hc : CodeIn w a b off cs) (hn : cs.length ≤ 1000) :
    Calls Try.prog 58 #[.slice a cs.length cap] w fun e w' => ∃ S, w.heap.size ≤ S ∧ e = .returned (.slice (some ⟨S, 0, none⟩) cs.length cs.length) ∧ w'.heap[S]? = some (.cells (codeCells cs).toArray 126 (0, 0)) ∧ Below w.heap.size w w' := by
  obtain ⟨i0, hi, hz0, hz1, hz2⟩ := info_parts Try.infoInstr
  have HC : Hid (CodeIn w a b off cs) := hc
  clear hc
  go_enter Try.func58, Try.ntmps58
  go_wp2_with (at_make; refine wpList_make_full _ rfl _ _ 26 rfl w.heap.size 126 i0 _ 4 Try.underlying26 hi hz0 hz1 _ _ _ _ cs.length rfl rfl (by go_num) (by go_num) (by rw [hz2]; omega) (by unfold maxLen; omega) (Nat.le_refl _) ?_)
  intro w1 hown1 hgrow1
  obtain ⟨Z, hZ⟩ : ∃ Z : List Value, Z = (madeCells #[.int .i64 0, .int .i64 0, .int .i64 0, .int .i64 0] (cs.length * 4)).toList := ⟨_, rfl⟩
  rw [← hZ] at hown1
  have HZL : Hid (Z.length = cs.length * 4) := hown1.1
  have HG1 : Hid (w1.heap[w.heap.size]? = some (.cells Z.toArray 126 (0, 0))) := by
    show _ = _
    rcases hown1.2 with ⟨h, _⟩ | ⟨g, c, cur, hv, hb, hg, h1, h2, h3, h4⟩
    · cases h
    · simp at hv
      obtain ⟨rfl, rfl⟩ := hv
      rw [hg]
      have : cur.toList = Z := by rw [← h4]; exact (List.take_of_length_le (by simp; omega)).symm
      rw [← this]
  have HB1 : Hid (Below w.heap.size w w1) := (Below.refl _ _).grown hgrow1 (Nat.le_refl _) (fun k hk => by cases hk)
  clear hown1 hgrow1 hZ
  have HSRC : Hid (0 < cs.length → ∃ ad, a = some ad ∧ ∀ j v, (codeCells cs)[j]? = some v → w1.cell? (ad.add j) = some v) := fun hp => by
    obtain ⟨rfl, hlt, hca⟩ := HC.out hp
    refine ⟨_, rfl, fun j v hj => ?_⟩
    have hjl : j < cs.length * 4 := by have := (List.getElem?_eq_some_iff.mp hj).1; rwa [codeCells_length] at this
    have e : j = j / 4 * 4 + j % 4 := by omega
    have hi4 : j / 4 < cs.length := by omega
    have h2 := (hca.keep (HB1.out.block b hlt)) (j / 4) hi4 (j % 4) v (by rw [← codeCells_get cs (j / 4) hi4 (j % 4) (by omega), ← e]; exact hj)
    rw [Addr.add_lit]
    rw [show off + j = off + j / 4 * 4 + j % 4 from by omega]
    exact h2
  have HONE : Hid (∀ v ∈ codeCells cs, v.oneCell' = true) := codeCells_one cs
  go_wp2_with (refine wpList_copy_rows rfl (.tmp 7) (.tmp 8) 26 26 rfl 126 Try.underlying26 4 (by rw [hi]; exact congrArg some hz1) w.heap.size cs.length cs.length rfl a cs.length cap rfl Z 126 HG1.out (codeCells cs) (by omega) (codeCells_length cs) HSRC.out (by rw [codeCells_length, HZL.out]; omega) HONE.out ?_)
  intro w2 hg2 hgrow2
  have HG2 : Hid (w2.heap[w.heap.size]? = some (.cells (codeCells cs).toArray 126 (0, 0))) := by
    show _ = _
    rw [hg2, List.drop_of_length_le (by rw [codeCells_length, HZL.out]; omega), List.append_nil]
  have HB2 : Hid (Below w.heap.size w w2) := HB1.out.grown hgrow2 HB1.out.size (fun k hk => by cases hk; exact Nat.le_refl _)
  clear hg2 hgrow2 HSRC HONE HG1
  go_wp2_with fail
  go_ret
  exact ⟨_, Nat.le_refl _, rfl, HG2.out, HB2.out⟩

end Go.Proofs.Ytiaibigmbflpiaa
