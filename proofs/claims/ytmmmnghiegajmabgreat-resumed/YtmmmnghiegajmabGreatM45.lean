import Derived.Lib.ConvBytes
import Derived.BigQuiet
import Derived.Laws.BitsAllLaws
import Derived.Test.YtmmmnghiegajmabGreatM44
/- A text is opened, its journal known; what was done can be done again. -/
namespace Go.Proofs.YtmmmnghiegajmabGreat
open Go.RowKit Go.Proofs.Herald
set_option maxHeartbeats 4000000 in
theorem opened_J {t : ByteArray} {tr : Tree 5} (ht : t.size ≤ 400) (hT : TextOk t tr) (w : World) :
    Calls Tryz.prog 4 #[.string t] w fun e w' => ∃ G H cv s, e = .returned (.tuple #[.pointer (some ⟨G, 0, none⟩), .bool true]) ∧ Game w.heap.size (codeOf t tr) 1 (trigH (machE (codeOf t tr)) newH 0).2.2 w' G H cv s ∧ GJ (codeOf t tr) 1 (trigH (machE (codeOf t tr)) newH 0).2.2 (recB 84 0 0) w' H s ∧ Below w.heap.size w w' := by
  have HL : Hid (∀ w : World, Calls Tryz.prog 13 #[.string t] w fun e w' => e = .returned (.tuple #[.int .i64 (maxI (lastsT t 5 tr).1 (lastsT t 5 tr).2), .int .i64 0, .int .i64 0]) ∧ Below w.heap.size w w') := fun w => c_Longest_ok ht hT w
  have HC : Hid (∀ w : World, Calls Tryz.prog 14 #[.string t] w fun e w' => ∃ sv, e = .returned (.tuple #[sv, .int .i64 0, .int .i64 0]) ∧ w'.ownsRow w.heap.size 117 4 sv (codeOf t tr).length (codeCells (codeOf t tr)) ∧ Below w.heap.size w w') := fun w => c_Compile_ok t ht tr hT w
  have HSN : Hid (soundL (codeOf t tr) = true) := hT.sound ht
  generalize maxI (lastsT t 5 tr).1 (lastsT t 5 tr).2 = LM at *
  generalize codeOf t tr = C at *
  obtain ⟨q1, q2⟩ := trig_first C
  clear hT
  go_enter Tryz.func4, Tryz.ntmps4
  go_wp2_with fail
  refine (HL.out _).mono ?_
  rintro e w1 ⟨rfl, hb1⟩
  have HB1 : Hid (Below w.heap.size w w1) := hb1
  clear hb1 HL
  go_wp2_with fail
  refine (HC.out _).mono ?_
  rintro e w2 ⟨sv, rfl, hsv, hb2⟩
  obtain ⟨ga, cap, rfl⟩ := ownsRow_slice hsv
  have H2 : Hid (w2.ownsRow w1.heap.size 117 4 (.slice ga C.length cap) C.length (codeCells C) ∧ Below w1.heap.size w1 w2) := ⟨hsv, hb2⟩
  have HNW : Hid (Calls Tryz.prog 10 #[.slice ga C.length cap] w2 fun e w' => ∃ H v, e = .returned (.tuple #[.pointer (some ⟨H, 0, none⟩), .int .i64 0]) ∧ w2.heap.size ≤ H ∧ w'.heap[H]? = some (.cells (newHd v) 75 (0, 0)) ∧ w'.ownsRow w2.heap.size 117 4 v C.length (codeCells C) ∧ Below w2.heap.size w2 w') := c_New_any hsv HSN.out
  clear hsv hb2 HC
  go_wp2_with fail
  refine HNW.out.mono ?_
  rintro e w3 ⟨H, v, rfl, hH, hgH, hvo, hb3⟩
  have H3 : Hid (w2.heap.size ≤ H ∧ w3.heap[H]? = some (.cells (newHd v) 75 (0, 0)) ∧ w3.ownsRow w2.heap.size 117 4 v C.length (codeCells C) ∧ Below w2.heap.size w2 w3) := ⟨hH, hgH, hvo, hb3⟩
  have HGA : Hid (GJ C 0 newH [] w3 H ⟨v, .slice none 0 0, .slice none 0 0, fun _ => .slice none 0 0, 0⟩) := GJ.new HSN.out hgH (own0 hvo)
  clear hH hgH hvo hb3 HNW
  go_wp2_with fail
  refine (gj_Trigger 0 _ HGA.out (by omega)).mono ?_
  rintro e w4 ⟨rfl, s', hg4, hs4, hf4⟩
  have hnj : noteJ (trigH (machE C) newH 0).2.1 [] 84 0 0 = recB 84 0 0 := by rw [q2]; exact if_pos rfl
  rw [hnj] at hg4
  clear hnj
  rw [q1, q2]
  have HFIN : Hid (∀ W : World, Below w4.heap.size w4 W → W.heap[w4.heap.size]? = some (.cells #[.pointer (some ⟨H, 0, none⟩), .slice ga C.length cap] 37 (0, 0)) → Game w.heap.size C 1 (trigH (machE C) newH 0).2.2 W w4.heap.size H (.slice ga C.length cap) s' ∧ GJ C 1 (trigH (machE C) newH 0).2.2 (recB 84 0 0) W H s' ∧ Below w.heap.size w W) := by
    intro W hW hG
    have z1 := HB1.out.size
    have z2 := H2.out.2.size
    have z3 := H3.out.2.2.2.size
    have z4 := hf4.size
    have hown0 : ∀ k, HS.own ⟨v, .slice none 0 0, .slice none 0 0, fun _ => .slice none 0 0, 0⟩ H k → w2.heap.size ≤ k := fun k hk => by
      rcases hk with (hk | ⟨d, _, hk⟩ | hk) | hk | hk
      · subst hk; exact H3.out.1
      · cases hk
      · cases hk
      · cases hk
      · exact (ownsRow_lies H3.out.2.2.1 hk).1
    have hown : ∀ k, s'.own H k → w2.heap.size ≤ k := fun k hk => by
      rcases hs4 k hk with h1 | h1
      · exact hown0 k h1
      · omega
    have hb24 : ∀ k, k < w2.heap.size → W.heap[k]? = w2.heap[k]? := fun k hk => by
      rw [hW.block k (by omega), hf4.block k (by omega) (fun ho => by have := hown0 k ho; omega), H3.out.2.2.2.block k hk]
    refine ⟨⟨hG, hg4.ga.below hW, fun k hk => ⟨by have := hown k hk; omega, by have := hg4.lt hk; omega⟩, ?_, fun k hk ho => ?_, by omega⟩, hg4.keep fun k hk => hW.block k (hg4.lt hk), ?_⟩
    · exact own_base (own0 (own_stays H2.out.1 fun k hk => hb24 k (by obtain ⟨_, cur, hc⟩ := ownsRow_lies H2.out.1 hk; exact heap_lt hc))) fun b hb => by have := (ownsRow_lies H2.out.1 hb).1; omega
    · have h1 := hown k ho
      obtain ⟨_, cur, hc⟩ := ownsRow_lies H2.out.1 hk
      have := heap_lt hc
      omega
    · refine ⟨hW.os.trans (hf4.os.trans (H3.out.2.2.2.os.trans (H2.out.2.os.trans HB1.out.os))), hW.tape.trans (hf4.tape.trans (H3.out.2.2.2.tape.trans (H2.out.2.tape.trans HB1.out.tape))), hW.output.trans (hf4.output.trans (H3.out.2.2.2.output.trans (H2.out.2.output.trans HB1.out.output))), by have := hW.size; omega, fun k hk => ?_⟩
      rw [hb24 k (by omega), H2.out.2.block k (by omega), HB1.out.block k hk]
  clear hg4 hs4 hf4 HGA H2 H3 HB1
  go_wp2_with fail
  go_ret2
  obtain ⟨h1, h2⟩ := HFIN.out _ ((Below.refl _ _).alloc (Nat.le_refl _) _) (heap_alloc_new _ _)
  exact ⟨_, _, _, _, rfl, h1, h2⟩
end Go.Proofs.YtmmmnghiegajmabGreat
