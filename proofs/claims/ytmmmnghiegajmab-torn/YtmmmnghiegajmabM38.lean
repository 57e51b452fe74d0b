import Derived.Test.YtmmmnghiegajmabM37
/- A game is opened with whatever text, the empty one too. -/
namespace Go.Proofs.Ytmmmnghiegajmab
open Go.RowKit Go.Proofs.Herald
set_option maxRecDepth 20000 in
set_option maxHeartbeats 4000000 in
theorem c_mNew_nil (w : World) (hs : soundL [] = true) :
    Calls Try.prog 35 #[.slice none 0 0] w fun e w' => ∃ v, e = .returned (.tuple #[.agg #[v, .int .i64 0, .int .i64 0, .slice none 0 0, .slice none 0 0, .slice none 0 0, .slice none 0 0], .int .i64 0]) ∧ w'.ownsRow w.heap.size 137 4 v 0 [] ∧ Below w.heap.size w w' := by
  have HC : Hid (∀ W : World, Calls Try.prog 55 #[.slice none 0 0] W fun e w' => e = .returned (.bool true) ∧ Below W.heap.size W w') := fun W => by
    have := c_sound none 0 0 0 [] W (fun hp => absurd hp (by simp))
    rw [hs] at this
    exact this
  clear hs
  obtain ⟨i0, hi, hz0, hz1, hz2⟩ := info_parts Try.infoInstr
  go_enter Try.func35, Try.ntmps35
  go_wp2_with fail
  refine (HC.out _).mono ?_
  rintro e w1 ⟨rfl, hb1⟩
  have g1 : w1.heap[w.heap.size]? = some (.cells (newM (.slice none 0 0)) 77 (0, 0)) := (hb1.block _ (by simp)).trans (heap_alloc_new _ _)
  have HG1 : Hid (_ = _) := g1
  have HB1 : Hid (Below w.heap.size w w1) := ((Below.refl _ _).alloc (Nat.le_refl _) _).trans (hb1.mono (by simp))
  clear hb1 g1 HC
  have HOWN : Hid ((w1.alloc (.cells #[] 137)).ownsRow w.heap.size 137 4 (.slice (some ⟨w1.heap.size, 0, none⟩) 0 0) 0 []) :=
    ⟨rfl, .inr ⟨w1.heap.size, 0, #[], rfl, HB1.out.size, heap_alloc_new _ _, Nat.le_refl _, Nat.zero_le _, rfl, rfl⟩⟩
  have HBA : Hid (Below w.heap.size w (w1.alloc (.cells #[] 137))) := HB1.out.alloc HB1.out.size _
  have HGA : Hid ((w1.alloc (.cells #[] 137)).heap[w.heap.size]? = some (.cells (newM (.slice none 0 0)) 77 (0, 0))) := by
    show _ = _
    rw [Below.heap_alloc _ _ _ (heap_lt HG1.out)]; exact HG1.out
  have HG2 : (w1.alloc (.cells #[] 137)).heap[w.heap.size]? = some (.cells (newM (.slice none 0 0)) 77 (0, 0)) := HGA.out
  have HO2 : Hid ((w1.alloc (.cells #[] 137)).ownsRow w.heap.size 137 4 (.slice (some ⟨w1.heap.size, 0, none⟩) 0 0) 0 []) := HOWN.out
  have HB2 : Hid (Below w.heap.size w (w1.alloc (.cells #[] 137))) := HBA.out
  obtain ⟨d0, d1, d2, d3, d4, d5, d6, hz⟩ := cells7 HG2
  have z0 := hz 0
  have z1 := hz 1
  have z2 := hz 2
  have z3 := hz 3
  have z4 := hz 4
  have z5 := hz 5
  have z6 := hz 6
  have HNE : Hid (∀ k, (Value.slice (some ⟨w1.heap.size, 0, none⟩) 0 0).ownBlock = some k → k ≠ w.heap.size) := fun k hk => by
    obtain ⟨_, cur, hc⟩ := ownsRow_lies HO2.out hk
    exact ne_of_type hc HG2 (by decide)
  have HBK : Hid (_ = _) := HG2
  clear hz HG2
  go_wp2_with (at_builtin; refine wpList_append_own_none rfl _ _ 36 rfl w.heap.size 137 i0 4 Try.underlying36 hi (.slice (some ⟨w1.heap.size, 0, none⟩) 0 0) 0 [] rfl HOWN.out rfl ?_)
  refine bodyPost_ret (v := .tuple #[.agg #[.slice (some ⟨w1.heap.size, 0, none⟩) 0 0, .int .i64 0, .int .i64 0, .slice none 0 0, .slice none 0 0, .slice none 0 0, .slice none 0 0], .int .i64 0]) (by simp [results, Try.results35, go_sem, d0, d1, d2, d3, d4, d5, d6]) rfl ⟨_, rfl, ?_, ?_⟩
  · refine own_stays HO2.out (fun k hk => ?_)
    have hne := HNE.out k hk
    rw [Below.heap_setCell _ _ _ _ hne, Below.heap_setCell _ _ _ _ hne, Below.heap_setCell _ _ _ _ hne, Below.heap_setCell _ _ _ _ hne, Below.heap_setCell _ _ _ _ hne, Below.heap_setCell _ _ _ _ hne, Below.heap_setCell _ _ _ _ hne]
  · exact below7 HB2.out (Nat.le_refl _) _ _ _ _ _ _ _
set_option maxRecDepth 20000 in
set_option maxHeartbeats 4000000 in
theorem c_New_nil (w : World) (hs : soundL [] = true) :
    Calls Try.prog 21 #[.slice none 0 0] w fun e w' => ∃ H v, e = .returned (.tuple #[.pointer (some ⟨H, 0, none⟩), .int .i64 0]) ∧ w.heap.size ≤ H ∧ w'.heap[H]? = some (.cells (newHd v) 80 (0, 0)) ∧ w'.ownsRow w.heap.size 137 4 v 0 [] ∧ Below w.heap.size w w' := by
  have HC : Hid (Calls Try.prog 35 #[.slice none 0 0] w fun e w' => ∃ v, e = .returned (.tuple #[.agg #[v, .int .i64 0, .int .i64 0, .slice none 0 0, .slice none 0 0, .slice none 0 0, .slice none 0 0], .int .i64 0]) ∧ w'.ownsRow w.heap.size 137 4 v 0 [] ∧ Below w.heap.size w w') := c_mNew_nil w hs
  clear hs
  go_enter Try.func21, Try.ntmps21
  go_wp2_with fail
  refine HC.out.mono ?_
  rintro e w1 ⟨v, rfl, ho1, hb1⟩
  obtain ⟨a2, cap2, hv2⟩ := ownsRow_slice ho1
  subst hv2
  have HO : Hid (_ ∧ _) := And.intro ho1 hb1
  clear ho1 hb1
  go_wp2_with fail
  go_ret2
  refine ⟨w1.heap.size + 1, _, rfl, by have := HO.out.2.size; omega, heap_alloc2 _ _ _, (HO.out.1.alloc _).alloc _, (HO.out.2.alloc HO.out.2.size _).alloc (by have := HO.out.2.size; simp; omega) _⟩
theorem c_New_any {w : World} {B : Nat} {a : Option Addr} {cap : Nat} {cs : List Ins} (h : w.ownsRow B 137 4 (.slice a cs.length cap) cs.length (codeCells cs)) (hs : soundL cs = true) :
    Calls Try.prog 21 #[.slice a cs.length cap] w fun e w' => ∃ H v, e = .returned (.tuple #[.pointer (some ⟨H, 0, none⟩), .int .i64 0]) ∧ w.heap.size ≤ H ∧ w'.heap[H]? = some (.cells (newHd v) 80 (0, 0)) ∧ w'.ownsRow w.heap.size 137 4 v cs.length (codeCells cs) ∧ Below w.heap.size w w' := by
  obtain ⟨b, hb⟩ := own_codeAt h rfl
  rcases h.2 with ⟨h1, h2⟩ | ⟨g, c, cur, hv, _⟩
  · have hn : cs = [] := List.eq_nil_of_length_eq_zero h2
    subst hn
    simp only [Value.slice.injEq] at h1
    obtain ⟨rfl, _, rfl⟩ := h1
    exact c_New_nil w hs
  · simp only [Value.slice.injEq, true_and] at hv
    obtain ⟨rfl, rfl⟩ := hv
    refine c_New_yes g 0 cap cs w (fun hp => ?_) hs
    obtain ⟨e1, e2, e3⟩ := hb hp
    simp only [Option.some.injEq, Addr.mk.injEq, and_true] at e1
    exact ⟨rfl, by rw [e1]; exact e2, by rw [e1]; exact e3⟩
set_option maxHeartbeats 4000000 in
theorem opened_any {t : ByteArray} {tr : Tree 5} (ht : t.size ≤ 400) (hT : TextOk t tr) (w : World) :
    Calls Try.prog 6 #[.string t] w fun e w' => ∃ G H cv s, e = .returned (.tuple #[.pointer (some ⟨G, 0, none⟩), .bool true]) ∧ Game w.heap.size (codeOf t tr) 1 (trigH (machE (codeOf t tr)) newH 0).2.2 w' G H cv s ∧ Below w.heap.size w w' := by
  have HL : Hid (∀ w : World, Calls Try.prog 19 #[.string t] w fun e w' => e = .returned (.tuple #[.int .i64 (maxI (lastsT t 5 tr).1 (lastsT t 5 tr).2), .int .i64 0, .int .i64 0]) ∧ Below w.heap.size w w') := fun w => c_Longest_ok ht hT w
  have HC : Hid (∀ w : World, Calls Try.prog 20 #[.string t] w fun e w' => ∃ sv, e = .returned (.tuple #[sv, .int .i64 0, .int .i64 0]) ∧ w'.ownsRow w.heap.size 137 4 sv (codeOf t tr).length (codeCells (codeOf t tr)) ∧ Below w.heap.size w w') := fun w => c_Compile_ok t ht tr hT w
  have HSN : Hid (soundL (codeOf t tr) = true) := hT.sound ht
  generalize maxI (lastsT t 5 tr).1 (lastsT t 5 tr).2 = LM at *
  generalize codeOf t tr = C at *
  obtain ⟨q1, q2⟩ := trig_first C
  clear hT
  go_enter Try.func6, Try.ntmps6
  go_wp2_with fail
  refine (HL.out _).mono ?_
  rintro e w1 ⟨rfl, hb1⟩
  have HB1 : Hid (Below w.heap.size w w1) := hb1
  clear hb1 HL
  go_wp2_with fail
  refine (HC.out _).mono ?_
  rintro e w2 ⟨sv, rfl, hsv, hb2⟩
  obtain ⟨ga, cap, rfl⟩ := ownsRow_slice hsv
  have H2 : Hid (w2.ownsRow w1.heap.size 137 4 (.slice ga C.length cap) C.length (codeCells C) ∧ Below w1.heap.size w1 w2) := ⟨hsv, hb2⟩
  have HNW : Hid (Calls Try.prog 21 #[.slice ga C.length cap] w2 fun e w' => ∃ H v, e = .returned (.tuple #[.pointer (some ⟨H, 0, none⟩), .int .i64 0]) ∧ w2.heap.size ≤ H ∧ w'.heap[H]? = some (.cells (newHd v) 80 (0, 0)) ∧ w'.ownsRow w2.heap.size 137 4 v C.length (codeCells C) ∧ Below w2.heap.size w2 w') := c_New_any hsv HSN.out
  clear hsv hb2 HC
  go_wp2_with fail
  refine HNW.out.mono ?_
  rintro e w3 ⟨H, v, rfl, hH, hgH, hvo, hb3⟩
  have H3 : Hid (w2.heap.size ≤ H ∧ w3.heap[H]? = some (.cells (newHd v) 80 (0, 0)) ∧ w3.ownsRow w2.heap.size 137 4 v C.length (codeCells C) ∧ Below w2.heap.size w2 w3) := ⟨hH, hgH, hvo, hb3⟩
  have HGA : Hid (GA C 0 newH w3 H ⟨v, .slice none 0 0, .slice none 0 0, fun _ => .slice none 0 0, 0⟩) := GA.new HSN.out hgH (own0 hvo)
  clear hH hgH hvo hb3 HNW
  go_wp2_with fail
  refine (g_Trigger 0 _ HGA.out (by omega)).mono ?_
  rintro e w4 ⟨rfl, s', hg4, hs4, hf4⟩
  rw [q1, q2]
  have HFIN : Hid (∀ W : World, Below w4.heap.size w4 W → W.heap[w4.heap.size]? = some (.cells #[.pointer (some ⟨H, 0, none⟩), .slice ga C.length cap] 38 (0, 0)) → Game w.heap.size C 1 (trigH (machE C) newH 0).2.2 W w4.heap.size H (.slice ga C.length cap) s' ∧ Below w.heap.size w W) := by
    intro W hW hG
    have z1 := HB1.out.size
    have z2 := H2.out.2.size
    have z3 := H3.out.2.2.2.size
    have z4 := hf4.size
    have hown0 : ∀ k, HS.own ⟨v, .slice none 0 0, .slice none 0 0, fun _ => .slice none 0 0, 0⟩ H k → w2.heap.size ≤ k := fun k hk => by
      rcases hk with (hk | ⟨d, _, hk⟩ | hk) | hk | hk
      · subst hk; exact H3.out.1
      · cases hk
      · cases hk
      · cases hk
      · exact (ownsRow_lies H3.out.2.2.1 hk).1
    have hown : ∀ k, s'.own H k → w2.heap.size ≤ k := fun k hk => by
      rcases hs4 k hk with h1 | h1
      · exact hown0 k h1
      · omega
    have hb24 : ∀ k, k < w2.heap.size → W.heap[k]? = w2.heap[k]? := fun k hk => by
      rw [hW.block k (by omega), hf4.block k (by omega) (fun ho => by have := hown0 k ho; omega), H3.out.2.2.2.block k hk]
    refine ⟨⟨hG, hg4.below hW, fun k hk => ⟨by have := hown k hk; omega, by have := hg4.lt hk; omega⟩, ?_, fun k hk ho => ?_, by omega⟩, ?_⟩
    · exact own_base (own0 (own_stays H2.out.1 fun k hk => hb24 k (by obtain ⟨_, cur, hc⟩ := ownsRow_lies H2.out.1 hk; exact heap_lt hc))) fun b hb => by have := (ownsRow_lies H2.out.1 hb).1; omega
    · have h1 := hown k ho
      obtain ⟨_, cur, hc⟩ := ownsRow_lies H2.out.1 hk
      have := heap_lt hc
      omega
    · refine ⟨hW.os.trans (hf4.os.trans (H3.out.2.2.2.os.trans (H2.out.2.os.trans HB1.out.os))), hW.tape.trans (hf4.tape.trans (H3.out.2.2.2.tape.trans (H2.out.2.tape.trans HB1.out.tape))), hW.output.trans (hf4.output.trans (H3.out.2.2.2.output.trans (H2.out.2.output.trans HB1.out.output))), by have := hW.size; omega, fun k hk => ?_⟩
      rw [hb24 k (by omega), H2.out.2.block k (by omega), HB1.out.block k hk]
  clear hg4 hs4 hf4 HGA H2 H3 HB1
  go_wp2_with fail
  go_ret2
  obtain ⟨h1, h2⟩ := HFIN.out _ ((Below.refl _ _).alloc (Nat.le_refl _) _) (heap_alloc_new _ _)
  exact ⟨_, _, _, _, rfl, h1, h2⟩
end Go.Proofs.Ytmmmnghiegajmab
