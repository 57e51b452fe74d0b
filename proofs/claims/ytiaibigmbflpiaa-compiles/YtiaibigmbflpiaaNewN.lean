/- The harness looks at a herald that has just begun. -/
import Derived.Test.YtiaibigmbflpiaaNewK
import Derived.Test.YtiaibigmbflpiaaNewM
namespace Go.Proofs.Ytiaibigmbflpiaa
open Go.RowKit Go.Proofs.Herald

theorem BookOk.keep {w w' : World} {X : Nat → Prop} {e : TypeId} {k : Nat} {b : Value × List Value} (h : BookOk w X e k b) (hk : ∀ j, X j → w'.heap[j]? = w.heap[j]?) : BookOk w' X e k b := by
  obtain ⟨h1, m, hm, h2, h3⟩ := h
  exact ⟨h1, m, hm, own_keep h2 fun g hg => hk g (h3 g hg), h3⟩

theorem OwnAt.keep {w w' : World} {X : Nat → Prop} {O : Nat} {n : Int} {cv rv qv : Value} {cb rb qb : List (Value × List Value)} (h : OwnAt w X O n cv rv qv cb rb qb) (hk : ∀ j, X j → w'.heap[j]? = w.heap[j]?) : OwnAt w' X O n cv rv qv cb rb qb :=
  ⟨(hk O h.inO).trans h.blk, h.inO, own_keep h.cown fun g hg => hk g (h.cin g hg), own_keep h.rown fun g hg => hk g (h.rin g hg), own_keep h.qown fun g hg => hk g (h.qin g hg), h.cin, h.rin, h.qin,
    fun b hb => (h.cbk b hb).keep hk, fun b hb => (h.rbk b hb).keep hk, fun b hb => (h.qbk b hb).keep hk⟩

/-- A pair of heralds that have just begun. -/
structure LkNew (w : World) (Pb H S Q : Nat) (v cv u tv : Value) : Prop where
  p : w.heap[Pb]? = some (.cells #[.pointer (some ⟨H, 0, none⟩), .pointer (some ⟨S, 0, none⟩), u, tv] 34 (0, 0))
  h : w.heap[H]? = some (.cells (newM v) 144 (0, 0))
  s : SimNew w S Q cv

theorem LkNew.keep {w w' : World} {Pb H S Q : Nat} {v cv u tv : Value} (h : LkNew w Pb H S Q v cv u tv) (hk : ∀ k, k = Pb ∨ k = H ∨ k = S ∨ k = Q → w'.heap[k]? = w.heap[k]?) : LkNew w' Pb H S Q v cv u tv :=
  ⟨(hk Pb (by simp)).trans h.p, (hk H (by simp)).trans h.h, h.s.keep fun k hk' => hk k (by rcases hk' with rfl | rfl <;> simp)⟩

theorem LkNew.lt {w : World} {Pb H S Q : Nat} {v cv u tv : Value} (h : LkNew w Pb H S Q v cv u tv) : ∀ k, k = Pb ∨ k = H ∨ k = S ∨ k = Q → k < w.heap.size := by
  intro k hk
  rcases hk with rfl | rfl | rfl | rfl
  · exact heap_lt h.p
  · exact heap_lt h.h
  · exact heap_lt h.s.1
  · exact heap_lt h.s.2

theorem LkNew.below {w w' : World} {Pb H S Q : Nat} {v cv u tv : Value} (h : LkNew w Pb H S Q v cv u tv) (hb : Below w.heap.size w w') : LkNew w' Pb H S Q v cv u tv :=
  h.keep fun k hk => hb.block k (h.lt k hk)

theorem OwnAt.below {w w' : World} {X : Nat → Prop} {O : Nat} {n : Int} {cv rv qv : Value} {cb rb qb : List (Value × List Value)} (h : OwnAt w X O n cv rv qv cb rb qb) (hX : ∀ k, X k → k < w.heap.size) (hb : Below w.heap.size w w') : OwnAt w' X O n cv rv qv cb rb qb :=
  h.keep fun k hk => hb.block k (hX k hk)

set_option maxRecDepth 20000 in
set_option maxHeartbeats 2000000 in
theorem looked_new (Pb H S Q O : Nat) (v cv u tv : Value) (X : Nat → Prop) (n : Int) (cvb rv qv : Value) (cb rb qb : List (Value × List Value)) (w : World) (hL : LkNew w Pb H S Q v cv u tv) (hO : OwnAt w X O n cvb rv qv cb rb qb) (hX : ∀ k, X k → k < w.heap.size) (hN : ∀ k, k = Pb ∨ k = H ∨ k = S ∨ k = Q → ¬ X k)
    (hn0 : 0 ≤ n) (hn1 : n ≤ 800000000) (hcb : cb.length ≤ 9000000) (hrb : rb.length ≤ 9000000) (hqb : qb.length ≤ 9000000) :
    Calls Try.prog 16 #[.pointer (some ⟨Pb, 0, none⟩), .pointer (some ⟨O, 0, none⟩)] w fun e w' => e = .returned (.bool true) ∧ Fr X w w' := by
  have p0 : w.cell? ⟨Pb, 0, none⟩ = some (.pointer (some ⟨H, 0, none⟩)) := (cell_of_heap hL.p).trans rfl
  have p1 : w.cell? ⟨Pb, 1, none⟩ = some (.pointer (some ⟨S, 0, none⟩)) := (cell_of_heap hL.p).trans rfl
  have H0 : Hid (LkNew w Pb H S Q v cv u tv ∧ OwnAt w X O n cvb rv qv cb rb qb ∧ (∀ k, X k → k < w.heap.size) ∧ (∀ k, k = Pb ∨ k = H ∨ k = S ∨ k = Q → ¬ X k)) := ⟨hL, hO, hX, hN⟩
  clear hL hO hX hN
  go_enter Try.func16, Try.ntmps16
  go_wp2_with fail
  refine (r_Show_new S Q cv _ H0.out.1.s).mono ?_
  rintro e w1 ⟨rfl, hb1⟩
  obtain ⟨W1, hW1⟩ : ∃ W, W = w1.alloc (.cells #[.int .i64 0, .slice none 0 0, .slice none 0 0] 66) := ⟨_, rfl⟩
  have HB1 : Hid (Below w.heap.size w W1) := by rw [hW1]; exact hb1.alloc hb1.size _
  have HWB : Hid (W1.heap[w1.heap.size]? = some (.cells #[.int .i64 0, .slice none 0 0, .slice none 0 0] 66 (0, 0)) ∧ w.heap.size ≤ w1.heap.size) := ⟨by rw [hW1]; exact heap_alloc_new _ _, hb1.size⟩
  have HW1 : Hid (W1 = w1.alloc (.cells #[.int .i64 0, .slice none 0 0, .slice none 0 0] 66)) := hW1
  have q0 : w1.cell? ⟨Pb, 0, none⟩ = some (.pointer (some ⟨H, 0, none⟩)) := (cell_of_heap (H0.out.1.below hb1).p).trans rfl
  have hPl : Pb < w1.heap.size := heap_lt (H0.out.1.below hb1).p
  clear hb1 hW1 p0 p1
  go_wp2_with fail
  rw [← HW1.out]
  clear q0 hPl
  have H1 : Hid (LkNew W1 Pb H S Q v cv u tv ∧ OwnAt W1 X O n cvb rv qv cb rb qb ∧ (∀ k, X k → k < W1.heap.size)) := ⟨H0.out.1.below HB1.out, H0.out.2.1.below H0.out.2.2.1 HB1.out, fun k hk => Nat.lt_of_lt_of_le (H0.out.2.2.1 k hk) HB1.out.size⟩
  refine (c_Show_new H v _ H1.out.1.h).mono ?_
  rintro e w2 ⟨rfl, hb2⟩
  have b0 := cells3 ((hb2.block _ (heap_lt HWB.out.1)).trans HWB.out.1)
  obtain ⟨b0, b1, b2, _⟩ := b0
  have hl2 : w1.heap.size < w2.heap.size := Nat.lt_of_lt_of_le (heap_lt HWB.out.1) hb2.size
  have H2 : Hid (LkNew w2 Pb H S Q v cv u tv ∧ OwnAt w2 X O n cvb rv qv cb rb qb ∧ (∀ k, X k → k < w2.heap.size) ∧ w2.heap[w1.heap.size]? = some (.cells #[.int .i64 0, .slice none 0 0, .slice none 0 0] 66 (0, 0)) ∧ Below w.heap.size w w2) :=
    ⟨H1.out.1.below hb2, H1.out.2.1.below H1.out.2.2 hb2, fun k hk => Nat.lt_of_lt_of_le (H1.out.2.2 k hk) hb2.size, (hb2.block _ (heap_lt HWB.out.1)).trans HWB.out.1, HB1.out.trans (hb2.mono HB1.out.size)⟩
  clear hb2 H1 HB1 HW1
  go_wp2_with fail
  refine (sameState_none _).mono ?_
  rintro e w3 ⟨rfl, hb3⟩
  have HA2 : Hid (Below w2.heap.size w2 w3) := ((Below.refl _ _).alloc (Nat.le_refl _) _).trans (hb3.mono (by simp))
  have HS3 : Hid (w3.heap[w2.heap.size]? = some (.cells #[.int .i64 0, .slice none 0 0, .slice none 0 0] 66 (0, 0))) := (hb3.block _ (by simp)).trans (heap_alloc_new _ _)
  have H3 : Hid (LkNew w3 Pb H S Q v cv u tv ∧ OwnAt w3 X O n cvb rv qv cb rb qb ∧ (∀ k, X k → k < w3.heap.size) ∧ w3.heap[w1.heap.size]? = some (.cells #[.int .i64 0, .slice none 0 0, .slice none 0 0] 66 (0, 0)) ∧ Below w.heap.size w w3) :=
    ⟨H2.out.1.below HA2.out, H2.out.2.1.below H2.out.2.2.1 HA2.out, fun k hk => Nat.lt_of_lt_of_le (H2.out.2.2.1 k hk) HA2.out.size, (HA2.out.block _ (heap_lt H2.out.2.2.2.1)).trans H2.out.2.2.2.1, H2.out.2.2.2.2.trans (HA2.out.mono H2.out.2.2.2.2.size)⟩
  obtain ⟨s0, s1, s2, _⟩ := cells3 HS3.out
  clear b0 b1 b2 hl2 hb3 HA2 H2 HS3
  go_wp2_with fail
  refine (state_any X O n 0 cvb rv qv cb rb qb none 0 0 [] none 0 0 [] w3 hn0 (by omega) (by omega) (by omega) (by omega) (by omega) H3.out.2.1 (World.ownsRow_nil _ _ _ _) (World.ownsRow_nil _ _ _ _) (fun b hb => by cases hb) (fun b hb => by cases hb)).mono ?_
  rintro e w4 ⟨rfl, rv4, qv4, rb4, qb4, hr4, hq4, ho4, hf4⟩
  have HF4 : Hid (Fr X w3 w4) := hf4.mono fun k _ hk => by
    rcases hk with hk | hk | hk
    · exact hk
    · cases hk
    · cases hk
  have HX4 : Hid (∀ k, moreX X w3 w4 (.slice none 0 0) (.slice none 0 0) k → k < w4.heap.size ∧ (X k ∨ w3.heap.size ≤ k)) := fun k hk => by
    obtain ⟨h1, h2⟩ := hk
    rcases h2 with h2 | h2 | h2 | h2
    · exact ⟨h1, Or.inl h2⟩
    · cases h2
    · cases h2
    · exact ⟨h1, Or.inr h2⟩
  have H4 : Hid (LkNew w4 Pb H S Q v cv u tv ∧ OwnAt w4 (moreX X w3 w4 (.slice none 0 0) (.slice none 0 0)) O (n + 1) cvb rv4 qv4 cb rb4 qb4 ∧ w4.heap[w1.heap.size]? = some (.cells #[.int .i64 0, .slice none 0 0, .slice none 0 0] 66 (0, 0)) ∧ Fr X w w4) := by
    refine ⟨H3.out.1.keep fun k hk => HF4.out.block k (H3.out.1.lt k hk) (H0.out.2.2.2 k hk), ho4, ?_, ?_⟩
    · rw [HF4.out.block _ (heap_lt H3.out.2.2.2.1) (fun hx => by have := H0.out.2.2.1 _ hx; have := HWB.out.2; omega)]
      exact H3.out.2.2.2.1
    · exact ((Fr.of_below H3.out.2.2.2.2).mono (T := X) fun k hk hs => by omega).trans HF4.out
  have q0 : w4.cell? ⟨Pb, 0, none⟩ = some (.pointer (some ⟨H, 0, none⟩)) := (cell_of_heap H4.out.1.p).trans rfl
  have HLT : Hid (∀ k, k = Pb ∨ k = H ∨ k = S ∨ k = Q → k < w3.heap.size) := H3.out.1.lt
  have HSZ : Hid (w.heap.size ≤ w3.heap.size ∧ w1.heap.size < w3.heap.size) := ⟨H3.out.2.2.2.2.size, heap_lt H3.out.2.2.2.1⟩
  clear ho4 hf4 s0 s1 s2 H3
  go_wp2_with fail
  refine (c_Show_new H v _ H4.out.1.h).mono ?_
  rintro e w5 ⟨rfl, hb5⟩
  have HB5 : Hid (Below w4.heap.size w4 w5) := hb5
  obtain ⟨b0, b1, b2, _⟩ := cells3 ((hb5.block _ (heap_lt H4.out.2.2.1)).trans H4.out.2.2.1)
  have hl2 : w1.heap.size < w5.heap.size := Nat.lt_of_lt_of_le (heap_lt H4.out.2.2.1) hb5.size
  clear hb5 q0
  go_wp2_with fail
  refine (sameState_none _).mono ?_
  rintro e w6 ⟨rfl, hb6⟩
  have HB6 : Hid (Below w4.heap.size w4 w6) := (HB5.out.alloc HB5.out.size _).trans (hb6.mono (by have := HB5.out.size; simp; omega))
  have HS6 : Hid (w6.heap[w5.heap.size]? = some (.cells #[.int .i64 0, .slice none 0 0, .slice none 0 0] 66 (0, 0))) := (hb6.block _ (by simp)).trans (heap_alloc_new _ _)
  obtain ⟨s0, s1, s2, _⟩ := cells3 HS6.out
  have HO6 : Hid (OwnAt w6 (moreX X w3 w4 (.slice none 0 0) (.slice none 0 0)) O (n + 1) cvb rv4 qv4 cb rb4 qb4) := H4.out.2.1.below (fun k hk => (HX4.out k hk).1) HB6.out
  clear hb6 b0 b1 b2 hl2 HB5 HS6
  go_wp2_with fail
  refine (state_any _ O (n + 1) 0 cvb rv4 qv4 cb rb4 qb4 none 0 0 [] none 0 0 [] w6 (by omega) (by omega) (by omega) (by omega) (by omega) (by omega) HO6.out (World.ownsRow_nil _ _ _ _) (World.ownsRow_nil _ _ _ _) (fun b hb => by cases hb) (fun b hb => by cases hb)).mono ?_
  rintro e w7 ⟨rfl, rv7, qv7, rb7, qb7, hr7, hq7, ho7, hf7⟩
  have HO7 : Hid (_) := ho7
  have HF7 : Hid (Fr X w w7) := by
    have h4 := H4.out.2.2.2
    have h6 := HB6.out
    refine ⟨hf7.os.trans (h6.os.trans h4.os), hf7.tape.trans (h6.tape.trans h4.tape), hf7.output.trans (h6.output.trans h4.output), Nat.le_trans h4.size (Nat.le_trans h6.size hf7.size), fun k hk hs => ?_⟩
    have hk4 : k < w4.heap.size := Nat.lt_of_lt_of_le hk h4.size
    rw [hf7.block k (Nat.lt_of_lt_of_le hk4 h6.size) ?_, h6.block k hk4, h4.block k hk hs]
    intro hx
    rcases hx with hx | hx | hx
    · rcases (HX4.out k hx).2 with h | h
      · exact hs h
      · have := HSZ.out.1
        omega
    · cases hx
    · cases hx
  clear ho7 hf7 s0 s1 s2
  go_wp2_with fail
  refine (kept_any _ O (n + 1 + 1) cvb rv7 qv7 cb rb7 qb7 w7 HO7.out (by omega) (by omega) (by omega)).mono ?_
  rintro e w8 ⟨rfl, hs8⟩
  have HB8 : Hid (Below w7.heap.size w7 w8) := hs8.below _
  clear hs8
  go_wp2_with fail
  go_ret
  exact ⟨rfl, HF7.out.trans ((Fr.of_below HB8.out).mono fun k hk hs => by omega)⟩

end Go.Proofs.Ytiaibigmbflpiaa
