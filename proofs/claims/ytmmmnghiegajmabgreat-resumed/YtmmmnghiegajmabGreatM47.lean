import Derived.Test.YtmmmnghiegajmabGreatM46
/- Raw numbers spell a text: the whole. -/
namespace Go.Proofs.YtmmmnghiegajmabGreat
open Go.RowKit Go.Proofs.Herald
theorem subK_of {xs : List Int} {a : Option Addr} {b off cap S d : Nat} (hd : d ≤ 2) (hB : BlkK xs a b off cap S d) (hbS : 0 < xs.length → b ≠ S) : SubK xs a b off cap S (2 - (d : Int)) (spT d false) (nilT (d + 2)) where
  ans := fun v i left w hv hi h0 h1 hS hx => sp_answers xs a b off cap S d hd hB hbS v i left w hv hi h0 h1 hS hx
  brc := fun i left w hi h0 h1 hS hx => sp_braced xs a b off cap S d hd hB i left w hi h0 h1 hS hx
  szA := fun v vs left h0 => by
    have P := pa_ans (c := 6 * 3 ^ d) (m := 3 ^ d) (kk := 3 - d) (Int.mul_nonneg (by omega) (Int.le_of_lt (Int.pow_pos (by omega)))) (spT_ok d (by omega) false) v vs left h0
    exact ⟨P.sz, P.l0, P.vs⟩
  szB := fun vs left h0 => by
    have P := spT_ok d (by omega) false vs left h0
    exact ⟨P.sz, P.l0, P.vs⟩
theorem blkK_all {xs : List Int} {a : Option Addr} {b off cap S : Nat} (hbS : 0 < xs.length → b ≠ S) (hr : ∀ x ∈ xs, -9223372036854775808 ≤ x ∧ x ≤ 9223372036854775807) (hl : xs.length ≤ 4000000000) : ∀ d : Nat, d ≤ 3 → BlkK xs a b off cap S d
  | 0, _ => fun i left w hi h0 h1 hS hx => by
    have h := sp_block_on (T := Tree 1) xs a b off cap S 3 none (nilT 1) i left w (by omega) (by omega) (.inl ⟨rfl, rfl⟩) hbS hr hl hi h0 h1 hS hx
    have e : spT 0 (0 == 3) (vsAt xs i) left = blkS none (nilT 1) ((3 : Int) == 0) (xs.length - i) (vsAt xs i) left := by
      show blkS none (nilT 1) (0 == 3) (vsAt xs i).length (vsAt xs i) left = _
      rw [vsAt_len]
      rfl
    rw [e]
    exact h
  | d + 1, hd => fun i left w hi h0 h1 hS hx => by
    have ih := blkK_all (a := a) (b := b) (off := off) (cap := cap) hbS hr hl d (by omega)
    have h := sp_block_on (T := Tree (d + 2)) xs a b off cap S (2 - (d : Int)) (some (spT d false)) (nilT (d + 2)) i left w (by omega) (by omega) (.inr ⟨by omega, _, rfl, subK_of (by omega) ih hbS⟩) hbS hr hl hi h0 h1 hS hx
    have e2 : ((2 : Int) - (d : Int) == 0) = (d + 1 == 3) := by
      by_cases hz : d = 2
      · subst hz; rfl
      · have b1 : ((2 : Int) - (d : Int) == 0) = false := by simp; omega
        have b2 : (d + 1 == 3) = false := by simp; omega
        rw [b1, b2]
    have e : spT (d + 1) (d + 1 == 3) (vsAt xs i) left = blkS (some (spT d false)) (nilT (d + 2)) ((2 : Int) - (d : Int) == 0) (xs.length - i) (vsAt xs i) left := by
      show blkS (some (spT d false)) (nilT (d + 2)) (d + 1 == 3) (vsAt xs i).length (vsAt xs i) left = _
      rw [vsAt_len, e2]
    have e3 : 3 - ((d + 1 : Nat) : Int) = 2 - (d : Int) := by omega
    rw [e, e3]
    exact h
set_option maxRecDepth 20000 in
set_option maxHeartbeats 2000000 in
theorem c_Spelt (xs : List Int) (a : Option Addr) (b off cap : Nat) (w : World) (hx : IntsIn w a b off xs) (hr : ∀ x ∈ xs, -9223372036854775808 ≤ x ∧ x ≤ 9223372036854775807) (hl : xs.length ≤ 4000000000) :
    Calls Tryz.prog 5 #[.slice a xs.length cap] w fun e w' => ∃ s : ByteArray, e = .returned (.string s) ∧ s.data.toList = sp (spT 3 true (vsAt xs 0) 330).1 ∧ Below w.heap.size w w' := by
  have hbS : 0 < xs.length → b ≠ w.heap.size := fun hp => by have := (hx hp).2.1; omega
  have HB : Hid (Calls Tryz.prog 16 #[.pointer (some ⟨w.heap.size, 0, none⟩), .int .i64 0] (w.alloc (.cells #[.slice a xs.length cap, .int .i64 0, .int .i64 330] 61)) fun e w' => ∃ s : ByteArray, e = .returned (.string s) ∧ s.data.toList = sp (spT 3 true (vsAt xs 0) 330).1 ∧ Below w.heap.size w w') := by
    have hb : Below w.heap.size w (w.alloc (.cells #[.slice a xs.length cap, .int .i64 0, .int .i64 330] 61)) := (Below.refl _ _).alloc (Nat.le_refl _) _
    have h := blkK_all (a := a) (b := b) (off := off) (cap := cap) (S := w.heap.size) hbS hr hl 3 (by omega) 0 330 _ (Nat.zero_le _) (by omega) (by omega) (heap_alloc_new w _) (fun hp => by
      obtain ⟨g1, g2, g3⟩ := hx hp
      exact ⟨g1, by simp; omega, fun i hi => (hb.cell (p := ⟨b, off + i, none⟩) g2).trans (g3 i hi)⟩)
    refine h.mono ?_
    rintro e w' ⟨s, j, rfl, h1, _, _, h2⟩
    refine ⟨s, rfl, h1, hb.trans ⟨h2.fr.os, h2.fr.tape, h2.fr.output, h2.fr.size, fun k hk => h2.fr.block k (by simp; omega) (by omega)⟩⟩
  clear hx hr hbS
  generalize sp (spT 3 true (vsAt xs 0) 330).1 = L at *
  go_enter Tryz.func5, Tryz.ntmps5
  go_wp2_with fail
  refine HB.out.mono ?_
  rintro e w1 ⟨s, rfl, hs, hb⟩
  have HO : Hid (s.data.toList = L ∧ Below w.heap.size w w1) := ⟨hs, hb⟩
  clear hs hb HB
  go_wp2_with fail
  go_ret
  exact ⟨s, rfl, HO.out⟩
end Go.Proofs.YtmmmnghiegajmabGreat
