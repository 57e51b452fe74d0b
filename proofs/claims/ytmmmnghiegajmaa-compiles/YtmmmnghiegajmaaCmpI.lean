/- The owner's record behind code; a copy of code. The harness compiles a text. -/
import Derived.Test.YtmmmnghiegajmaaCmpH
import Derived.Test.YtmmmnghiegajmaaNewK
import Derived.Test.YtmmmnghiegajmaaCmpF
import Derived.Test.YtmmmnghiegajmaaRefI
import Derived.Test.YtmmmnghiegajmaaNewL
namespace Go.Proofs.Ytmmmnghiegajmaa
open Go.RowKit Go.Proofs.Herald

theorem instrs_any (X : Nat → Prop) (O : Nat) (n : Int) (cv rv qv : Value) (cb rb qb : List (Value × List Value)) (a : Option Addr) (nl cap : Nat) (xs : List Value) (w : World) (hn0 : 0 ≤ n) (hn1 : n ≤ 900000000) (hnl : nl ≤ 1000000) (hcb : cb.length ≤ 10000000)
    (h : OwnAt w X O n cv rv qv cb rb qb) (hl : w.ownsRow 0 128 4 (.slice a nl cap) nl xs) (hlX : ∀ b, (Value.slice a nl cap).ownBlock = some b → ¬ X b) :
    Calls Try.prog 61 #[.pointer (some ⟨O, 0, none⟩), .slice a nl cap] w fun e w' => e = .returned (.tuple #[]) ∧
      ∃ cv' cb', cb'.length = cb.length + 4 ∧ OwnAt w' (moreX X w w' (.slice a nl cap) (.slice a nl cap)) O (n + 1) cv' rv qv cb' rb qb ∧ Fr (fun k => X k ∨ (Value.slice a nl cap).ownBlock = some k) w w' := by
  refine (instrs_bk O n cv rv qv cb a nl cap xs w hn0 hn1 hnl hcb h.blk h.cown hl).mono ?_
  rintro e w' ⟨rfl, v, v1, v2, v3, B1⟩
  obtain ⟨w0, hw0⟩ : ∃ W, W = w.setCell ⟨O, 0, none⟩ (.int .i64 (n + 1)) := ⟨_, rfl⟩
  rw [← hw0] at B1
  have hs0 : w0.heap.size = w.heap.size := by rw [hw0, size_setCell]
  have hs' := B1.fr.size
  have keep1 : ∀ {b : Nat} {cur : Array Value} {e : TypeId}, w.heap[b]? = some (.cells cur e (0, 0)) → e ≠ 41 → e ≠ 130 → (Value.slice a nl cap).ownBlock ≠ some b → w'.heap[b]? = some (.cells cur e (0, 0)) := fun {b cur e} hb h1 h2 h3 => by
    have hb0 : w0.heap[b]? = some (.cells cur e (0, 0)) := by rw [hw0, Below.heap_setCell _ _ _ _ (ne_of_type hb h.blk h1)]; exact hb
    rw [B1.fr.block b (heap_lt hb0) (fun hh => ?_)]
    · exact hb0
    · rcases hh with rfl | hh | hh
      · exact ne_of_type hb h.blk h1 rfl
      · obtain ⟨c, hc⟩ := own_block h.cown hh; exact ne_of_type hb hc h2 rfl
      · exact h3 hh
  have inX : ∀ {b : Nat}, X b → ∀ {o : Obj}, w.heap[b]? = some o → moreX X w w' (.slice a nl cap) (.slice a nl cap) b := fun {b} hb {o} ho => ⟨by have := heap_lt ho; omega, Or.inl hb⟩
  have oth : ∀ {b : Nat} {cur : Array Value} {e : TypeId}, w.heap[b]? = some (.cells cur e (0, 0)) → e ≠ 128 → (Value.slice a nl cap).ownBlock ≠ some b := fun {b cur e} hb he hh => by
    obtain ⟨c2, hc2⟩ := own_block hl hh; exact ne_of_type hb hc2 he rfl
  refine ⟨rfl, v, cb ++ [(.slice a nl cap, [.int .i64 (-(n + 1)), .int .i64 0, .int .i64 0, .int .i64 0]), (v1, [.int .i64 (-(n + 1)), .int .i64 0, .int .i64 0, .int .i64 0]), (v2, [.int .i64 (-(n + 1)), .int .i64 0, .int .i64 0, .int .i64 0]), (v3, [.int .i64 (-(n + 1)), .int .i64 0, .int .i64 0, .int .i64 0])], ?_, ⟨B1.o, inX h.inO h.blk, B1.rown, ?_, ?_, ?_, ?_, ?_, ?_, ?_, ?_⟩, ?_⟩
  · simp
  · exact own_keep h.rown fun b hb => by
      obtain ⟨c, hc⟩ := own_block h.rown hb
      rw [keep1 hc (by decide) (by decide) (oth hc (by decide)), hc]
  · exact own_keep h.qown fun b hb => by
      obtain ⟨c, hc⟩ := own_block h.qown hb
      rw [keep1 hc (by decide) (by decide) (oth hc (by decide)), hc]
  · intro b hb
    obtain ⟨c, hc⟩ := own_block B1.rown hb
    refine ⟨heap_lt hc, ?_⟩
    rcases B1.rat b hb with h1 | h1
    · exact Or.inl (h.cin b h1)
    · exact Or.inr (Or.inr (Or.inr (by omega)))
  · intro b hb
    obtain ⟨c, hc⟩ := own_block h.rown hb
    exact inX (h.rin b hb) hc
  · intro b hb
    obtain ⟨c, hc⟩ := own_block h.qown hb
    exact inX (h.qin b hb) hc
  · have new : ∀ x nx, nx ≤ 100000000 → w'.ownsRow 0 128 4 x nx (marks [.int .i64 (-(n + 1)), .int .i64 0, .int .i64 0, .int .i64 0] nx) → (∀ b, x.ownBlock = some b → (Value.slice a nl cap).ownBlock = some b ∨ w0.heap.size ≤ b) →
        BookOk w' (moreX X w w' (.slice a nl cap) (.slice a nl cap)) 128 4 (x, [.int .i64 (-(n + 1)), .int .i64 0, .int .i64 0, .int .i64 0]) := fun x nx hnx hx hxb => by
      refine ⟨⟨[-(n + 1), 0, 0, 0], rfl, rfl⟩, nx, hnx, hx, fun g hg => ?_⟩
      obtain ⟨c, hc⟩ := own_block hx hg
      refine ⟨heap_lt hc, ?_⟩
      rcases hxb g hg with h1 | h1
      · exact Or.inr (Or.inl h1)
      · exact Or.inr (Or.inr (Or.inr (by omega)))
    intro b hb
    rw [List.mem_append] at hb
    rcases hb with hb | hb
    · obtain ⟨h1, m, hm, h2, h3⟩ := h.cbk b hb
      refine ⟨h1, m, hm, own_keep h2 fun g hg => ?_, fun g hg => ?_⟩
      · obtain ⟨c, hc⟩ := own_block h2 hg
        rw [keep1 hc (by decide) (by decide) (fun e => hlX g e (h3 g hg)), hc]
      · obtain ⟨c, hc⟩ := own_block h2 hg
        exact inX (h3 g hg) hc
    · simp only [List.mem_cons, List.not_mem_nil, or_false] at hb
      rcases hb with rfl | rfl | rfl | rfl
      · exact new _ nl (by omega) B1.lown (fun b hb => Or.inl hb)
      · obtain ⟨k1, _, k3⟩ := B1.kins (v1, nl + 1) (by simp)
        exact new _ _ (by omega) k1 k3
      · obtain ⟨k1, _, k3⟩ := B1.kins (v2, nl + 2) (by simp)
        exact new _ _ (by omega) k1 k3
      · obtain ⟨k1, _, k3⟩ := B1.kins (v3, nl + 3) (by simp)
        exact new _ _ (by omega) k1 k3
  · intro b hb
    obtain ⟨h1, m, hm, h2, h3⟩ := h.rbk b hb
    refine ⟨h1, m, hm, own_keep h2 fun g hg => ?_, fun g hg => ?_⟩
    · obtain ⟨c, hc⟩ := own_block h2 hg
      rw [keep1 hc (by decide) (by decide) (oth hc (by decide)), hc]
    · obtain ⟨c, hc⟩ := own_block h2 hg
      exact inX (h3 g hg) hc
  · intro b hb
    obtain ⟨h1, m, hm, h2, h3⟩ := h.qbk b hb
    refine ⟨h1, m, hm, own_keep h2 fun g hg => ?_, fun g hg => ?_⟩
    · obtain ⟨c, hc⟩ := own_block h2 hg
      rw [keep1 hc (by decide) (by decide) (oth hc (by decide)), hc]
    · obtain ⟨c, hc⟩ := own_block h2 hg
      exact inX (h3 g hg) hc
  · have f0 : Fr (fun k => X k ∨ (Value.slice a nl cap).ownBlock = some k) w w0 := by
      rw [hw0]
      exact (Fr.refl _ w).setCell ⟨O, 0, none⟩ (Or.inl (Or.inl h.inO)) _
    have f1 : Fr (fun k => X k ∨ (Value.slice a nl cap).ownBlock = some k) w0 w' := B1.fr.mono fun k _ hk => by
      rcases hk with rfl | hk | hk
      · exact Or.inl h.inO
      · exact Or.inl (h.cin k hk)
      · exact Or.inr hk
    exact f0.trans f1

set_option maxHeartbeats 1000000 in
theorem copied_any (a : Option Addr) (b off cap : Nat) (cs : List Ins) (w : World) (hc : CodeIn w a b off cs) (hn : cs.length ≤ 1000) :
    Calls Try.prog 60 #[.slice a cs.length cap] w fun e w' => ∃ S, w.heap.size ≤ S ∧ e = .returned (.slice (some ⟨S, 0, none⟩) cs.length cs.length) ∧ w'.heap[S]? = some (.cells (codeCells cs).toArray 128 (0, 0)) ∧ Below w.heap.size w w' := by
  obtain ⟨i0, hi, hz0, hz1, hz2⟩ := info_parts Try.infoInstr
  have HC : Hid (CodeIn w a b off cs) := hc
  clear hc
  go_enter Try.func60, Try.ntmps60
  go_wp2_with (at_make; refine wpList_make_full _ rfl _ _ 26 rfl w.heap.size 128 i0 _ 4 Try.underlying26 hi hz0 hz1 _ _ _ _ cs.length rfl rfl (by go_num) (by go_num) (by rw [hz2]; omega) (by unfold maxLen; omega) (Nat.le_refl _) ?_)
  intro w1 hown1 hgrow1
  obtain ⟨Z, hZ⟩ : ∃ Z : List Value, Z = (madeCells #[.int .i64 0, .int .i64 0, .int .i64 0, .int .i64 0] (cs.length * 4)).toList := ⟨_, rfl⟩
  rw [← hZ] at hown1
  have HZL : Hid (Z.length = cs.length * 4) := hown1.1
  have HG1 : Hid (w1.heap[w.heap.size]? = some (.cells Z.toArray 128 (0, 0))) := by
    show _ = _
    rcases hown1.2 with ⟨h, _⟩ | ⟨g, c, cur, hv, hb, hg, h1, h2, h3, h4⟩
    · cases h
    · simp at hv
      obtain ⟨rfl, rfl⟩ := hv
      rw [hg]
      have : cur.toList = Z := by rw [← h4]; exact (List.take_of_length_le (by simp; omega)).symm
      rw [← this]
  have HB1 : Hid (Below w.heap.size w w1) := (Below.refl _ _).grown hgrow1 (Nat.le_refl _) (fun k hk => by cases hk)
  clear hown1 hgrow1 hZ
  have HSRC : Hid (0 < cs.length → ∃ ad, a = some ad ∧ ∀ j v, (codeCells cs)[j]? = some v → w1.cell? (ad.add j) = some v) := fun hp => by
    obtain ⟨rfl, hlt, hca⟩ := HC.out hp
    refine ⟨_, rfl, fun j v hj => ?_⟩
    have hjl : j < cs.length * 4 := by have := (List.getElem?_eq_some_iff.mp hj).1; rwa [codeCells_length] at this
    have e : j = j / 4 * 4 + j % 4 := by omega
    have hi4 : j / 4 < cs.length := by omega
    have h2 := (hca.keep (HB1.out.block b hlt)) (j / 4) hi4 (j % 4) v (by rw [← codeCells_get cs (j / 4) hi4 (j % 4) (by omega), ← e]; exact hj)
    rw [Addr.add_lit]
    rw [show off + j = off + j / 4 * 4 + j % 4 from by omega]
    exact h2
  have HONE : Hid (∀ v ∈ codeCells cs, v.oneCell' = true) := codeCells_one cs
  go_wp2_with (refine wpList_copy_rows rfl (.tmp 7) (.tmp 8) 26 26 rfl 128 Try.underlying26 4 (by rw [hi]; exact congrArg some hz1) w.heap.size cs.length cs.length rfl a cs.length cap rfl Z 128 HG1.out (codeCells cs) (by omega) (codeCells_length cs) HSRC.out (by rw [codeCells_length, HZL.out]; omega) HONE.out ?_)
  intro w2 hg2 hgrow2
  have HG2 : Hid (w2.heap[w.heap.size]? = some (.cells (codeCells cs).toArray 128 (0, 0))) := by
    show _ = _
    rw [hg2, List.drop_of_length_le (by rw [codeCells_length, HZL.out]; omega), List.append_nil]
  have HB2 : Hid (Below w.heap.size w w2) := HB1.out.grown hgrow2 HB1.out.size (fun k hk => by cases hk; exact Nat.le_refl _)
  clear hg2 hgrow2 HSRC HONE HG1
  go_wp2_with fail
  go_ret
  exact ⟨_, Nat.le_refl _, rfl, HG2.out, HB2.out⟩

end Go.Proofs.Ytmmmnghiegajmaa

namespace Go.Proofs.Ytmmmnghiegajmaa
open Go.RowKit Go.Proofs.Herald

/-- A text has no fault, and both Longests tell so; or it has one, and both tell the same. -/
theorem text_cases (t : ByteArray) : (∃ tr, TextOk t tr ∧ t.size ≤ 400 ∧ ∀ w : World, Calls Try.prog 14 #[.string t] w fun e w' => e = .returned (.tuple #[.int .i64 (maxI (lastsT t 5 tr).1 (lastsT t 5 tr).2), .int .i64 0, .int .i64 0]) ∧ Below w.heap.size w w') ∨
    (∃ m f p : Int, f ≠ 0 ∧ (∀ w : World, Calls Try.prog 26 #[.string t] w fun e w' => e = .returned (.tuple #[.slice none 0 0, .int .i64 f, .int .i64 p]) ∧ Below w.heap.size w w') ∧
      ∀ w : World, Calls Try.prog 14 #[.string t] w fun e w' => e = .returned (.tuple #[.int .i64 m, .int .i64 f, .int .i64 p]) ∧ Below w.heap.size w w') := by
  rcases Nat.lt_or_ge 400 t.size with ht | ht
  · refine Or.inr ⟨0, 1, 0, by decide, fun w => c_Compile_no t 1 0 (by decide) w fun w => (c_Read_long t ht w).mono fun e w' h => ?_, fun w => (refLongest_long t ht w).mono fun e w' h => ⟨h.1, ?_⟩⟩
    · obtain ⟨⟨a, n, cap, he⟩, hb⟩ := h
      exact ⟨⟨a, n, cap, 0, he⟩, hb⟩
    · rw [h.2]; exact Below.refl _ _
  · obtain ⟨r, h1, h2, h3⟩ := answers2 t ht
    rcases h3 with ⟨tr, h4, rfl⟩ | h4
    · exact Or.inl ⟨tr, h4, ht, fun w => refLongest t ht _ h1 w⟩
    · refine Or.inr ⟨r.1, r.2.1, r.2.2, h4, fun w => c_Compile_no t r.2.1 r.2.2 h4 w fun w => (c_Read t ht r h2 w).mono fun e w' h => ?_, fun w => refLongest t ht r h1 w⟩
      obtain ⟨⟨a, n, cap, he⟩, hb⟩ := h
      exact ⟨⟨a, n, cap, r.1, he⟩, hb⟩

theorem own_codeIn {w : World} {B : Nat} {a : Option Addr} {n cap : Nat} {cs : List Ins} (h : w.ownsRow B 128 4 (.slice a n cap) n (codeCells cs)) (hn : n = cs.length) : ∃ b, CodeIn w a b 0 cs := by
  rcases h.2 with ⟨h1, h2⟩ | ⟨g, c, cur, hv, hb, hg, h1, h2, h3, h4⟩
  · refine ⟨0, fun hp => ?_⟩
    omega
  · simp at hv
    obtain ⟨rfl, rfl⟩ := hv
    refine ⟨g, fun _ => ⟨rfl, heap_lt hg, fun i hi j u hj => ?_⟩⟩
    have hj4 : j < 4 := by have := (List.getElem?_eq_some_iff.mp hj).1; simpa [insCells] using this
    have h5 := h.cells (g := g) rfl (i * 4 + j) u (by rw [codeCells_get cs i hi j hj4]; exact hj)
    rw [Addr.add_lit] at h5
    rw [show 0 + i * 4 + j = 0 + (i * 4 + j) from by omega]
    exact h5

/-- What compiled leaves, of a text without a fault. -/
structure CompOut (X : Nat → Prop) (O : Nat) (n : Int) (rv qv : Value) (cb rb qb : List (Value × List Value)) (C : List Ins) (w w' : World) (S : Nat) (X' : Nat → Prop) (cv' : Value) (cb' : List (Value × List Value)) : Prop where
  s : w.heap.size ≤ S
  code : w'.heap[S]? = some (.cells (codeCells C).toArray 128 (0, 0))
  nx : ¬ X' S
  own : OwnAt w' X' O (n + 1) cv' rv qv cb' rb qb
  len : cb'.length = cb.length + 4
  lt : ∀ k, X' k → k < w'.heap.size ∧ (X k ∨ w.heap.size ≤ k)
  fr : Fr X w w'

set_option maxHeartbeats 2000000 in
theorem compiled_ok (t : ByteArray) (ht : t.size ≤ 400) (tr : Tree 5) (hT : TextOk t tr) (M : Int) (hL : ∀ w : World, Calls Try.prog 14 #[.string t] w fun e w' => e = .returned (.tuple #[.int .i64 M, .int .i64 0, .int .i64 0]) ∧ Below w.heap.size w w')
    (X : Nat → Prop) (O : Nat) (n : Int) (cv rv qv : Value) (cb rb qb : List (Value × List Value)) (w : World) (hn0 : 0 ≤ n) (hn1 : n ≤ 900000000) (hcb : cb.length ≤ 10000000) (h : OwnAt w X O n cv rv qv cb rb qb) (hX : ∀ k, X k → k < w.heap.size) :
    Calls Try.prog 19 #[.string t, .pointer (some ⟨O, 0, none⟩)] w fun e w' => ∃ S X' cv' cb', e = .returned (.tuple #[.slice (some ⟨S, 0, none⟩) (codeOf t tr).length (codeOf t tr).length, .bool true]) ∧ CompOut X O n rv qv cb rb qb (codeOf t tr) w w' S X' cv' cb' := by
  have HL : Hid (∀ w : World, Calls Try.prog 14 #[.string t] w fun e w' => e = .returned (.tuple #[.int .i64 M, .int .i64 0, .int .i64 0]) ∧ Below w.heap.size w w') := hL
  have HO : Hid (OwnAt w X O n cv rv qv cb rb qb ∧ ∀ k, X k → k < w.heap.size) := ⟨h, hX⟩
  have HC := c_Compile_ok t ht tr hT w
  have hcl : (codeOf t tr).length ≤ 1000 := Nat.le_trans (hT.len ht) (by omega)
  have hso := hT.sound ht
  obtain ⟨C, hC⟩ : ∃ C, C = codeOf t tr := ⟨_, rfl⟩
  rw [← hC] at HC hcl hso ⊢
  have HC' : Hid (Calls Try.prog 26 #[.string t] w fun e w' => ∃ sv, e = .returned (.tuple #[sv, .int .i64 0, .int .i64 0]) ∧ w'.ownsRow w.heap.size 128 4 sv C.length (codeCells C) ∧ Below w.heap.size w w') := HC
  have HSO : Hid (soundL C = true) := hso
  clear HC hL h hX hC hso hT
  go_enter Try.func19, Try.ntmps19
  go_wp2_with fail
  refine HC'.out.mono ?_
  rintro e w1 ⟨sv, rfl, ho1, hb1⟩
  obtain ⟨a, cap, rfl⟩ := ownsRow_slice ho1
  have H1 : Hid (w1.ownsRow w.heap.size 128 4 (.slice a C.length cap) C.length (codeCells C) ∧ Below w.heap.size w w1) := ⟨ho1, hb1⟩
  clear ho1 hb1 HC'
  go_wp2_with fail
  refine (HL.out _).mono ?_
  rintro e w2 ⟨rfl, hb2⟩
  have H2 : Hid (w2.ownsRow w.heap.size 128 4 (.slice a C.length cap) C.length (codeCells C) ∧ Below w.heap.size w w2) := by
    refine ⟨own_stays H1.out.1 fun k hk => ?_, H1.out.2.trans (hb2.mono H1.out.2.size)⟩
    obtain ⟨c, hc⟩ := own_block (ownsRow_zero H1.out.1) hk
    exact hb2.block k (heap_lt hc)
  clear hb2 H1 HL
  obtain ⟨b2, hc2⟩ := own_codeIn H2.out.1 rfl
  have HC2 : Hid (CodeIn w2 a b2 0 C) := hc2
  clear hc2
  go_wp2_with fail
  refine (Sound_any a b2 0 cap C w2 HC2.out).mono ?_
  rw [HSO.out]
  rintro e w3 ⟨rfl, hb3⟩
  have H3 : Hid (w3.ownsRow w.heap.size 128 4 (.slice a C.length cap) C.length (codeCells C) ∧ Below w.heap.size w w3 ∧ CodeIn w3 a b2 0 C) := by
    refine ⟨own_stays H2.out.1 fun k hk => ?_, H2.out.2.trans (hb3.mono H2.out.2.size), HC2.out.keep hb3⟩
    obtain ⟨c, hc⟩ := own_block (ownsRow_zero H2.out.1) hk
    exact hb3.block k (heap_lt hc)
  clear hb3 H2 HC2
  go_wp2_with fail
  refine (copied_any a b2 0 cap C w3 H3.out.2.2 hcl).mono ?_
  rintro e w4 ⟨S, hS, rfl, hg4, hb4⟩
  have H4 : Hid (w4.ownsRow w.heap.size 128 4 (.slice a C.length cap) C.length (codeCells C) ∧ Below w.heap.size w w4 ∧ w4.heap[S]? = some (.cells (codeCells C).toArray 128 (0, 0)) ∧ ∀ b, (Value.slice a C.length cap).ownBlock = some b → w.heap.size ≤ b ∧ b < S) := by
    refine ⟨own_stays H3.out.1 fun k hk => ?_, H3.out.2.1.trans (hb4.mono H3.out.2.1.size), hg4, fun b hb => ?_⟩
    · obtain ⟨c, hc⟩ := own_block (ownsRow_zero H3.out.1) hk
      exact hb4.block k (heap_lt hc)
    · obtain ⟨h1, c, hc⟩ := ownsRow_lies H3.out.1 hb
      have := heap_lt hc
      exact ⟨h1, by omega⟩
  have hSs : w.heap.size ≤ S := Nat.le_trans H3.out.2.1.size hS
  clear hg4 hb4 H3 hS
  go_wp2_with fail
  have HOW : OwnAt w4 X O n cv rv qv cb rb qb := HO.out.1.keep fun j hj => H4.out.2.1.block j (HO.out.2 j hj)
  refine (instrs_any X O n cv rv qv cb rb qb a C.length cap (codeCells C) w4 hn0 hn1 (by omega) hcb HOW (ownsRow_zero H4.out.1) (fun b hb hx => by have := (H4.out.2.2.2 b hb).1; have := HO.out.2 b hx; omega)).mono ?_
  rintro e w5 ⟨rfl, cv', cb', hl5, ho5, hf5⟩
  have HE : Hid (CompOut X O n rv qv cb rb qb C w w5 S (moreX X w4 w5 (.slice a C.length cap) (.slice a C.length cap)) cv' cb') := by
    have hS4 := heap_lt H4.out.2.2.1
    have hw4 := H4.out.2.1.size
    refine ⟨hSs, ?_, ?_, ho5, hl5, ?_, ?_⟩
    · rw [hf5.block S hS4 (fun hh => ?_)]
      · exact H4.out.2.2.1
      · rcases hh with hh | hh
        · have := HO.out.2 S hh; omega
        · have := (H4.out.2.2.2 S hh).2; omega
    · rintro ⟨_, hh | hh | hh | hh⟩
      · have := HO.out.2 S hh; omega
      · have := (H4.out.2.2.2 S hh).2; omega
      · have := (H4.out.2.2.2 S hh).2; omega
      · omega
    · rintro k ⟨h1, hh | hh | hh | hh⟩
      · exact ⟨h1, Or.inl hh⟩
      · exact ⟨h1, Or.inr (H4.out.2.2.2 k hh).1⟩
      · exact ⟨h1, Or.inr (H4.out.2.2.2 k hh).1⟩
      · exact ⟨h1, Or.inr (by omega)⟩
    · refine Fr.wide ((Fr.of_below H4.out.2.1).mono fun k hk hs => ?_) (hf5.mono fun k _ hs => ?_)
      · omega
      · rcases hs with hs | hs
        · exact Or.inl hs
        · exact Or.inr (H4.out.2.2.2 k hs).1
  clear ho5 hl5 hf5 HOW H4 HO
  go_wp2_with fail
  go_ret2
  exact ⟨S, _, cv', cb', rfl, HE.out⟩

set_option maxHeartbeats 1000000 in
theorem compiled_no (t : ByteArray) (m f p : Int) (hf : f ≠ 0) (hC : ∀ w : World, Calls Try.prog 26 #[.string t] w fun e w' => e = .returned (.tuple #[.slice none 0 0, .int .i64 f, .int .i64 p]) ∧ Below w.heap.size w w')
    (hL : ∀ w : World, Calls Try.prog 14 #[.string t] w fun e w' => e = .returned (.tuple #[.int .i64 m, .int .i64 f, .int .i64 p]) ∧ Below w.heap.size w w') (O : Nat) (w : World) :
    Calls Try.prog 19 #[.string t, .pointer (some ⟨O, 0, none⟩)] w fun e w' => e = .returned (.tuple #[.slice none 0 0, .bool true]) ∧ Below w.heap.size w w' := by
  have HL : Hid (∀ w : World, Calls Try.prog 14 #[.string t] w fun e w' => e = .returned (.tuple #[.int .i64 m, .int .i64 f, .int .i64 p]) ∧ Below w.heap.size w w') := hL
  have HC : Hid (∀ w : World, Calls Try.prog 26 #[.string t] w fun e w' => e = .returned (.tuple #[.slice none 0 0, .int .i64 f, .int .i64 p]) ∧ Below w.heap.size w w') := hC
  have b1 : (f != 0) = true := by simpa using hf
  clear hL hC hf
  go_enter Try.func19, Try.ntmps19
  go_wp2_with fail
  refine (HC.out _).mono ?_
  rintro e w1 ⟨rfl, hb1⟩
  go_wp2_with fail
  refine (HL.out _).mono ?_
  rintro e w2 ⟨rfl, hb2⟩
  have HB : Hid (Below w.heap.size w w2) := hb1.trans (hb2.mono hb1.size)
  clear hb1 hb2
  go_wp2_with fail
  go_ret2
  exact ⟨rfl, HB.out⟩

theorem codeIn_of_heap {w : World} {S : Nat} {C : List Ins} (h : w.heap[S]? = some (.cells (codeCells C).toArray 128 (0, 0))) : CodeIn w (some ⟨S, 0, none⟩) S 0 C := fun _ =>
  ⟨rfl, heap_lt h, codeAt_of_heap (rest := []) (by rw [List.append_nil]; exact h)⟩

theorem own_new (w : World) (O : Nat) (h : w.heap[O]? = some (.cells #[.int .i64 0, .slice none 0 0, .slice none 0 0, .slice none 0 0] 41 (0, 0))) : OwnAt w (fun k => k = O) O 0 (.slice none 0 0) (.slice none 0 0) (.slice none 0 0) [] [] [] :=
  ⟨h, rfl, World.ownsRow_nil _ _ _ _, World.ownsRow_nil _ _ _ _, World.ownsRow_nil _ _ _ _, fun b hb => (by cases hb), fun b hb => (by cases hb), fun b hb => (by cases hb), fun b hb => absurd hb (by simp), fun b hb => absurd hb (by simp), fun b hb => absurd hb (by simp)⟩

set_option maxHeartbeats 2000000 in
theorem compiles_walk (t : ByteArray) (w : World) :
    Calls Try.prog 6 #[.string t] w fun e w' => e = .returned (.bool true) ∧ Below w.heap.size w w' := by
  rcases text_cases t with ⟨tr, hT, ht, hL⟩ | ⟨m, f, p, hf, hC, hL⟩
  · have hcl : (codeOf t tr).length ≤ 1000 := Nat.le_trans (hT.len ht) (by omega)
    have HOK : Hid (∀ (X : Nat → Prop) (O : Nat) (n : Int) (cv rv qv : Value) (cb rb qb : List (Value × List Value)) (w : World), 0 ≤ n → n ≤ 900000000 → cb.length ≤ 10000000 → OwnAt w X O n cv rv qv cb rb qb → (∀ k, X k → k < w.heap.size) →
        Calls Try.prog 19 #[.string t, .pointer (some ⟨O, 0, none⟩)] w fun e w' => ∃ S X' cv' cb', e = .returned (.tuple #[.slice (some ⟨S, 0, none⟩) (codeOf t tr).length (codeOf t tr).length, .bool true]) ∧ CompOut X O n rv qv cb rb qb (codeOf t tr) w w' S X' cv' cb') :=
      fun X O n cv rv qv cb rb qb w h1 h2 h3 h4 h5 => compiled_ok t ht tr hT _ hL X O n cv rv qv cb rb qb w h1 h2 h3 h4 h5
    obtain ⟨C, hC⟩ : ∃ C, C = codeOf t tr := ⟨_, rfl⟩
    rw [← hC] at HOK hcl
    clear hC hL hT
    go_enter Try.func6, Try.ntmps6
    go_wp2_with fail
    refine (HOK.out (fun k => k = w.heap.size) w.heap.size 0 _ _ _ [] [] [] _ (by omega) (by omega) (by simp) (own_new _ _ (heap_alloc_new _ _)) (fun k hk => by rw [hk]; simp)).mono ?_
    rintro e w1 ⟨S1, X1, cv1, cb1, rfl, h1⟩
    have H1 : Hid (CompOut _ w.heap.size 0 _ _ [] [] [] C _ w1 S1 X1 cv1 cb1) := h1
    clear h1
    go_wp2_with fail
    refine (HOK.out X1 w.heap.size (0 + 1) cv1 _ _ cb1 [] [] w1 (by omega) (by omega) (by rw [H1.out.len]; simp) H1.out.own (fun k hk => (H1.out.lt k hk).1)).mono ?_
    rintro e w2 ⟨S2, X2, cv2, cb2, rfl, h2⟩
    have H2 : Hid (CompOut X1 w.heap.size (0 + 1) _ _ cb1 [] [] C w1 w2 S2 X2 cv2 cb2) := h2
    clear h2
    go_wp2_with fail
    refine (kept_any X2 w.heap.size (0 + 1 + 1) cv2 _ _ cb2 [] [] w2 H2.out.own (by rw [H2.out.len, H1.out.len]; simp) (by simp) (by simp)).mono ?_
    rintro e w3 ⟨rfl, hb3⟩
    have H3 : Hid (w3.heap[S1]? = some (.cells (codeCells C).toArray 128 (0, 0)) ∧ w3.heap[S2]? = some (.cells (codeCells C).toArray 128 (0, 0)) ∧ Below w.heap.size w w3) := by
      refine ⟨?_, ?_, ?_⟩
      · rw [hb3.heap, H2.out.fr.block S1 (heap_lt H1.out.code) H1.out.nx]; exact H1.out.code
      · rw [hb3.heap]; exact H2.out.code
      · have f1 := H1.out.fr
        have f2 := H2.out.fr
        have hs : (w.alloc (.cells #[.int .i64 0, .slice none 0 0, .slice none 0 0, .slice none 0 0] 41)).heap.size = w.heap.size + 1 := by simp
        refine ⟨hb3.os.trans (f2.os.trans f1.os), hb3.tape.trans (f2.tape.trans f1.tape), hb3.output.trans (f2.output.trans f1.output), ?_, fun k hk => ?_⟩
        · have := f1.size; have := f2.size; rw [hb3.heap]; omega
        · rw [hb3.heap, f2.block k (by have := f1.size; omega) (fun hx => ?_), f1.block k (by omega) (by omega), Below.heap_alloc _ _ _ hk]
          rcases (H1.out.lt k hx).2 with h | h
          · omega
          · omega
    clear hb3 H1 H2 HOK
    go_wp2_with fail
    refine (sameCode_same (some ⟨S1, 0, none⟩) (some ⟨S2, 0, none⟩) S1 0 C.length S2 0 C.length C.length C w3 rfl (by omega) (codeIn_of_heap H3.out.1) (codeIn_of_heap H3.out.2.1)).mono ?_
    rintro e w4 ⟨rfl, hb4⟩
    have HB : Hid (Below w.heap.size w w4) := H3.out.2.2.trans (hb4.mono H3.out.2.2.size)
    clear hb4 H3
    go_wp2_with fail
    go_ret
    exact ⟨rfl, HB.out⟩
  · have HN : Hid (∀ (O : Nat) (w : World), Calls Try.prog 19 #[.string t, .pointer (some ⟨O, 0, none⟩)] w fun e w' => e = .returned (.tuple #[.slice none 0 0, .bool true]) ∧ Below w.heap.size w w') := fun O w => compiled_no t m f p hf hC hL O w
    clear hf hC hL
    go_enter Try.func6, Try.ntmps6
    go_wp2_with fail
    refine (HN.out _ _).mono ?_
    rintro e w1 ⟨rfl, hb1⟩
    have H1 : Hid (w1.heap[w.heap.size]? = some (.cells #[.int .i64 0, .slice none 0 0, .slice none 0 0, .slice none 0 0] 41 (0, 0)) ∧ Below w.heap.size w w1) :=
      ⟨(hb1.block _ (by simp)).trans (heap_alloc_new _ _), ((Below.refl _ _).alloc (Nat.le_refl _) _).trans (hb1.mono (by simp))⟩
    clear hb1
    go_wp2_with fail
    refine (HN.out _ _).mono ?_
    rintro e w2 ⟨rfl, hb2⟩
    have H2 : Hid (w2.heap[w.heap.size]? = some (.cells #[.int .i64 0, .slice none 0 0, .slice none 0 0, .slice none 0 0] 41 (0, 0)) ∧ Below w.heap.size w w2) :=
      ⟨(hb2.block _ (heap_lt H1.out.1)).trans H1.out.1, H1.out.2.trans (hb2.mono H1.out.2.size)⟩
    clear hb2 H1
    go_wp2_with fail
    refine (kept_any (fun k => k = w.heap.size) w.heap.size 0 _ _ _ [] [] [] w2 (own_new _ _ H2.out.1) (by simp) (by simp) (by simp)).mono ?_
    rintro e w3 ⟨rfl, hb3⟩
    have H3 : Hid (Below w.heap.size w w3) := H2.out.2.trans (hb3.below _)
    clear hb3 H2
    go_wp2_with fail
    refine (sameCode_same none none 0 0 0 0 0 0 0 [] w3 rfl (by simp) (fun h => absurd h (by simp)) (fun h => absurd h (by simp))).mono ?_
    rintro e w4 ⟨rfl, hb4⟩
    have HB : Hid (Below w.heap.size w w4) := H3.out.trans (hb4.mono H3.out.size)
    clear hb4 H3
    go_wp2_with fail
    go_ret
    exact ⟨rfl, HB.out⟩

end Go.Proofs.Ytmmmnghiegajmaa
