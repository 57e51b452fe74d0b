/- Lists that are handed in: the harness' own functions on code. -/
import Derived.Test.YtiaibigmbflpiaaNewB
import Derived.Test.YtiaibigmbflpiaaKitC
import Derived.OwnWalk
namespace Go.Proofs.Ytiaibigmbflpiaa
open Go.RowKit Go.Proofs.Herald

def codeCells (l : List Ins) : List Value := l.flatMap insCells
def foreignI : Ins := ⟨77, 77, 0, 0⟩

theorem Try.infoInstr : (Try.prog.info? 126).map (fun i => (i.zero, i.size, i.bytes)) = some (some (.agg #[.int .i64 0, .int .i64 0, .int .i64 0, .int .i64 0]), 4, 32) := by kernel_rfl

theorem codeCells_length (l : List Ins) : (codeCells l).length = l.length * 4 := by
  induction l with
  | nil => rfl
  | cons x r ih => simp only [codeCells, List.flatMap_cons, List.length_append] at *; rw [ih]; simp [insCells]; omega

theorem codeCells_append (l r : List Ins) : codeCells (l ++ r) = codeCells l ++ codeCells r := by simp [codeCells]

theorem codeCells_get : ∀ (l : List Ins) (i : Nat) (hi : i < l.length) (j : Nat) (_ : j < 4), (codeCells l)[i * 4 + j]? = (insCells l[i])[j]? := by
  intro l
  induction l with
  | nil => intro i hi; simp at hi
  | cons x r ih =>
    intro i hi j hj
    simp only [codeCells, List.flatMap_cons]
    cases i with
    | zero =>
      rw [List.getElem?_append_left (by simp [insCells]; omega)]
      simp
    | succ i =>
      rw [List.getElem?_append_right (by simp [insCells]; omega)]
      have := ih i (by simpa using hi) j hj
      simp only [codeCells] at this
      have e : (i + 1) * 4 + j - (insCells x).length = i * 4 + j := by simp [insCells]; omega
      rw [e, this]; simp

theorem codeAt_of_heap {w : World} {S : Nat} {l : List Ins} {rest : List Value} {e : TypeId} {fz : Nat × Nat} (h : w.heap[S]? = some (.cells (codeCells l ++ rest).toArray e fz)) : CodeAt w S 0 l := fun i hi j u hj => by
  have hj4 : j < 4 := by have := (List.getElem?_eq_some_iff.mp hj).1; simpa [insCells] using this
  rw [cell_of_heap h, Nat.zero_add]
  show (codeCells l ++ rest).toArray[i * 4 + j]? = _
  rw [List.getElem?_toArray, List.getElem?_append_left (by rw [codeCells_length]; omega), codeCells_get l i hi j hj4]
  exact hj

theorem set4 {A : List Value} {r0 r1 r2 r3 : Value} {rest : List Value} (u0 u1 u2 u3 : Value) (k : Nat) (hk : k = A.length) :
    ((((A ++ r0 :: r1 :: r2 :: r3 :: rest).set k u0).set (k + 1) u1).set (k + 2) u2).set (k + 3) u3 = A ++ [u0, u1, u2, u3] ++ rest := by
  subst hk
  simp [Nat.add_sub_cancel_left]

theorem get4 {w : World} {S k : Nat} {A : List Value} {r0 r1 r2 r3 : Value} {rest : List Value} {e : TypeId} (h : w.heap[S]? = some (.cells (A ++ r0 :: r1 :: r2 :: r3 :: rest).toArray e (0, 0))) (hk : k = A.length) :
    w.cell? ⟨S, k, none⟩ = some r0 ∧ w.cell? ⟨S, k + 1, none⟩ = some r1 ∧ w.cell? ⟨S, k + 2, none⟩ = some r2 ∧ w.cell? ⟨S, k + 3, none⟩ = some r3 ∧ w.frozen? ⟨S, k, none⟩ = false ∧ w.frozen? ⟨S, k + 1, none⟩ = false ∧ w.frozen? ⟨S, k + 2, none⟩ = false ∧ w.frozen? ⟨S, k + 3, none⟩ = false := by
  subst hk
  refine ⟨?_, ?_, ?_, ?_, free_of_heap h, free_of_heap h, free_of_heap h, free_of_heap h⟩ <;> (rw [cell_of_heap h]; simp)

theorem store4 {w : World} {S k : Nat} {A : List Value} {r0 r1 r2 r3 : Value} {rest : List Value} {e : TypeId} (h : w.heap[S]? = some (.cells (A ++ r0 :: r1 :: r2 :: r3 :: rest).toArray e (0, 0))) (hk : k = A.length) (u0 u1 u2 u3 : Value) :
    ((((w.setCell ⟨S, k, none⟩ u0).setCell ⟨S, k + 1, none⟩ u1).setCell ⟨S, k + 2, none⟩ u2).setCell ⟨S, k + 3, none⟩ u3).heap[S]? = some (.cells (A ++ [u0, u1, u2, u3] ++ rest).toArray e (0, 0)) := by
  rw [heap_setCell_self _ (heap_setCell_self _ (heap_setCell_self _ (heap_setCell_self _ h)))]
  simp only [List.setIfInBounds_toArray]
  rw [set4 u0 u1 u2 u3 k hk]

theorem below4 {B : Nat} {a w : World} (h : Below B a w) {S k : Nat} (hS : B ≤ S) (u0 u1 u2 u3 : Value) : Below B a ((((w.setCell ⟨S, k, none⟩ u0).setCell ⟨S, k + 1, none⟩ u1).setCell ⟨S, k + 2, none⟩ u2).setCell ⟨S, k + 3, none⟩ u3) :=
  (((h.setCell (p := ⟨S, k, none⟩) hS _).setCell (p := ⟨S, k + 1, none⟩) hS _).setCell (p := ⟨S, k + 2, none⟩) hS _).setCell (p := ⟨S, k + 3, none⟩) hS _

set_option maxHeartbeats 400000 in
theorem foreign_is (w : World) : Calls Try.prog 79 #[] w fun e w' => e = .returned (.agg #[.int .i64 77, .int .i64 77, .int .i64 0, .int .i64 0]) ∧ w' = w.alloc (.cells #[.int .i64 77, .int .i64 77, .int .i64 0, .int .i64 0] 126) := by
  go_enter Try.func79, Try.ntmps79
  go_wp2_with fail
  exact bodyPost_ret (v := .agg #[.int .i64 77, .int .i64 77, .int .i64 0, .int .i64 0]) (by simp [results, Try.results79, go_sem]) rfl ⟨rfl, rfl⟩

theorem foreign_any (w : World) : Calls Try.prog 79 #[] w fun e w' => e = .returned (.agg #[.int .i64 77, .int .i64 77, .int .i64 0, .int .i64 0]) ∧ Below w.heap.size w w' :=
  (foreign_is w).mono fun e w' h => ⟨h.1, by rw [h.2]; exact (Below.refl _ _).alloc (Nat.le_refl _) _⟩

set_option maxRecDepth 20000 in
set_option maxHeartbeats 2000000 in
theorem handed_any (a : Option Addr) (b off cap : Nat) (cs : List Ins) (w : World) (hc : CodeIn w a b off cs) (hn : cs.length ≤ 4398046511000) :
    Calls Try.prog 49 #[.slice a cs.length cap] w fun e w' => ∃ S, w.heap.size ≤ S ∧ e = .returned (.slice (some ⟨S, 0, none⟩) cs.length (cs.length + 2)) ∧ w'.heap[S]? = some (.cells (codeCells (cs ++ [foreignI, foreignI])).toArray 126 (0, 0)) ∧ Below w.heap.size w w' := by
  obtain ⟨i0, hi, hz0, hz1, hz2⟩ := info_parts Try.infoInstr
  have HC : Hid (CodeIn w a b off cs) := hc
  clear hc
  go_enter Try.func49, Try.ntmps49
  go_wp2_with (at_make; refine wpList_make_full _ rfl _ _ 26 rfl w.heap.size 126 i0 _ 4 Try.underlying26 hi hz0 hz1 _ _ _ _ (cs.length + 2) rfl rfl (by go_num) (by go_num) (by rw [hz2]; omega) (by unfold maxLen; omega) (Nat.le_refl _) ?_)
  intro w1 hown1 hgrow1
  obtain ⟨Z, hZ⟩ : ∃ Z : List Value, Z = (madeCells #[.int .i64 0, .int .i64 0, .int .i64 0, .int .i64 0] ((cs.length + 2) * 4)).toList := ⟨_, rfl⟩
  rw [← hZ] at hown1
  have HZL : Hid (Z.length = (cs.length + 2) * 4) := hown1.1
  have HG1 : Hid (w1.heap[w.heap.size]? = some (.cells Z.toArray 126 (0, 0))) := by
    show _ = _
    rcases hown1.2 with ⟨h, _⟩ | ⟨g, c, cur, hv, hb, hg, h1, h2, h3, h4⟩
    · cases h
    · simp at hv
      obtain ⟨rfl, rfl⟩ := hv
      rw [hg]
      have : cur.toList = Z := by rw [← h4]; exact (List.take_of_length_le (by simp; omega)).symm
      rw [← this]
  have HB1 : Hid (Below w.heap.size w w1) := (Below.refl _ _).grown hgrow1 (Nat.le_refl _) (fun k hk => by cases hk)
  clear hown1 hgrow1 hZ
  have HSRC : Hid (0 < cs.length → ∃ ad, a = some ad ∧ ∀ j v, (codeCells cs)[j]? = some v → w1.cell? (ad.add j) = some v) := fun hp => by
    obtain ⟨rfl, hlt, hca⟩ := HC.out hp
    refine ⟨_, rfl, fun j v hj => ?_⟩
    have hjl : j < cs.length * 4 := by have := (List.getElem?_eq_some_iff.mp hj).1; rwa [codeCells_length] at this
    have e : j = j / 4 * 4 + j % 4 := by omega
    have hi4 : j / 4 < cs.length := by omega
    have h2 := (hca.keep (HB1.out.block b hlt)) (j / 4) hi4 (j % 4) v (by rw [← codeCells_get cs (j / 4) hi4 (j % 4) (by omega), ← e]; exact hj)
    rw [Addr.add_lit]
    rw [show off + j = off + j / 4 * 4 + j % 4 from by omega]
    exact h2
  have HONE : Hid (∀ v ∈ codeCells cs, v.oneCell' = true) := by
    intro v hv
    obtain ⟨x, _, hx⟩ := List.mem_flatMap.mp hv
    simp [insCells] at hx
    rcases hx with rfl | rfl | rfl | rfl <;> rfl
  go_wp2_with (refine wpList_copy_rows rfl (.tmp 9) (.tmp 10) 26 26 rfl 126 Try.underlying26 4 (by rw [hi]; exact congrArg some hz1) w.heap.size (cs.length + 2) (cs.length + 2) rfl a cs.length cap rfl Z 126 HG1.out (codeCells cs) (by omega) (codeCells_length cs) HSRC.out (by rw [codeCells_length, HZL.out]; omega) HONE.out ?_)
  intro w2 hg2 hgrow2
  have HG2 : Hid (w2.heap[w.heap.size]? = some (.cells (codeCells cs ++ Z.drop (codeCells cs).length).toArray 126 (0, 0))) := hg2
  have HB2 : Hid (Below w.heap.size w w2) := HB1.out.grown hgrow2 HB1.out.size (fun k hk => by cases hk; exact Nat.le_refl _)
  clear hg2 hgrow2 HSRC HONE HG1
  go_wp2_with fail
  go_loopw [4] (fun i wr => ∃ (k j : Nat) (rest : List Value), k = cs.length + j ∧ j ≤ 2 ∧ i = .int .i64 k ∧ rest.length = (2 - j) * 4 ∧ Hid (wr.heap[w.heap.size]? = some (.cells (codeCells (cs ++ List.replicate j foreignI) ++ rest).toArray 126 (0, 0))) ∧ Hid (Below w.heap.size w wr)) (fun i _ => cs.length + 2 - (intOf i).toNat)
  case atStart =>
    refine ⟨cs.length, 0, Z.drop (codeCells cs).length, rfl, by omega, rfl, ?_, ?_, HB2⟩
    · rw [List.length_drop, codeCells_length, HZL.out]; omega
    · show _ = _
      rw [HG2.out]; simp
  case round =>
    obtain ⟨k, j, rest, hk, hj, rfl, hrl, HG, HB⟩ := hrel
    by_cases hlt : j < 2
    · have hkl : k < cs.length + 2 := by omega
      obtain ⟨r0, r1, r2, r3, rest', rfl⟩ : ∃ r0 r1 r2 r3 rest', rest = r0 :: r1 :: r2 :: r3 :: rest' := by
        match rest, hrl with
        | r0 :: r1 :: r2 :: r3 :: rest', _ => exact ⟨r0, r1, r2, r3, rest', rfl⟩
        | [], h => simp at h; omega
        | [_], h => simp at h; omega
        | [_, _], h => simp at h; omega
        | [_, _, _], h => simp at h; omega
      have HK : Hid (k * 4 = (codeCells (cs ++ List.replicate j foreignI)).length) := by show _ = _; rw [codeCells_length]; simp; omega
      have HRL : Hid (rest'.length = (2 - (j + 1)) * 4) := by show _ = _; simp at hrl; omega
      have HKJ : Hid (k + 1 = cs.length + (j + 1)) := by show _ = _; omega
      clear hk hrl
      go_wp2_with fail
      refine (foreign_any _).mono ?_
      rintro e w3 ⟨rfl, hb3⟩
      have HG3 : Hid (_ = _) := (hb3.block w.heap.size (heap_lt HG.out)).trans HG.out
      have HB3 : Hid (Below w.heap.size w w3) := HB.out.trans (hb3.mono HB.out.size)
      obtain ⟨c0, c1, c2, c3, z0, z1, z2, z3⟩ := get4 HG3.out HK.out
      clear hb3 HG HB
      go_wp2_with fail
      have HE : Hid (codeCells (cs ++ List.replicate j foreignI) ++ [.int .i64 77, .int .i64 77, .int .i64 0, .int .i64 0] = codeCells (cs ++ List.replicate (j + 1) foreignI)) := by
        show _ = _
        rw [List.replicate_succ', ← List.append_assoc, codeCells_append (cs ++ List.replicate j foreignI)]; rfl
      go_roundw
      case rel => exact ⟨k + 1, j + 1, rest', HKJ.out, by omega, by go_num, HRL.out, by show _ = _; rw [store4 HG3.out HK.out, HE.out], below4 HB3.out (Nat.le_refl _) _ _ _ _⟩
      case measure => simp [intOf]; omega
    · obtain rfl : j = 2 := by omega
      obtain rfl : rest = [] := List.eq_nil_of_length_eq_zero (by simpa using hrl)
      have HG' : Hid (wr.heap[w.heap.size]? = some (.cells (codeCells (cs ++ [foreignI, foreignI])).toArray 126 (0, 0))) := by have h := HG.out; simp at h; exact h
      clear HG hrl
      go_wp2_with fail
      go_ret
      exact ⟨_, Nat.le_refl _, rfl, HG'.out, HB.out⟩

set_option maxHeartbeats 1000000 in
theorem sameCode_same (a a' : Option Addr) (b off cap b' off' cap' n : Nat) (cs : List Ins) (w : World) (hn : n = cs.length) (hm : cs.length ≤ 4398046511000) (h : CodeIn w a b off cs) (h' : CodeIn w a' b' off' cs) :
    Calls Try.prog 20 #[.slice a n cap, .slice a' n cap'] w fun e w' => e = .returned (.bool true) ∧ Below w.heap.size w w' := by
  subst hn
  have HC : Hid (CodeIn w a b off cs ∧ CodeIn w a' b' off' cs) := ⟨h, h'⟩
  clear h h'
  go_enter Try.func20, Try.ntmps20
  go_wp2_with fail
  go_loopw [5] (fun i wr => ∃ k : Nat, k ≤ cs.length ∧ i = .int .i64 k ∧ Hid (Below w.heap.size w wr)) (fun i _ => cs.length - (intOf i).toNat)
  case atStart => exact ⟨0, Nat.zero_le _, rfl, Below.refl _ _⟩
  case round =>
    obtain ⟨k, hk, rfl, HB⟩ := hrel
    by_cases hlt : k < cs.length
    · obtain ⟨rfl, g1, h1⟩ := HC.out.1 (by omega)
      obtain ⟨rfl, g2, h2⟩ := HC.out.2 (by omega)
      obtain ⟨c0, c1, c2, c3⟩ := (h1.keep (HB.out.block _ g1)).get k hlt
      obtain ⟨d0, d1, d2, d3⟩ := (h2.keep (HB.out.block _ g2)).get k hlt
      generalize cs[k] = x at *
      obtain ⟨op, xa, xb, xc⟩ := x
      simp only [] at c0 c1 c2 c3 d0 d1 d2 d3
      clear h1 h2 g1 g2
      go_wp2_with fail
      go_region
      all_goals
        go_wp2_with fail
        go_roundw
        case rel => exact ⟨k + 1, by omega, by go_num, HB.out.drew⟩
        case measure => simp [intOf]; omega
    · go_wp2_with fail
      go_ret
      exact ⟨rfl, HB.out⟩

set_option maxHeartbeats 1000000 in
theorem still_any (a' : Option Addr) (S b' off' cap' : Nat) (cs : List Ins) (w : World) (hm : cs.length ≤ 4398046511000) (hS : w.heap[S]? = some (.cells (codeCells (cs ++ [foreignI, foreignI])).toArray 126 (0, 0))) (h' : CodeIn w a' b' off' cs) :
    Calls Try.prog 50 #[.slice (some ⟨S, 0, none⟩) cs.length (cs.length + 2), .slice a' cs.length cap'] w fun e w' => e = .returned (.bool true) ∧ Below w.heap.size w w' := by
  have HS : Hid (CodeAt w S 0 (cs ++ [foreignI, foreignI]) ∧ S < w.heap.size) := ⟨codeAt_of_heap (rest := []) (by rw [List.append_nil]; exact hS), heap_lt hS⟩
  have HC : Hid (CodeIn w a' b' off' cs) := h'
  have HC0 : Hid (CodeIn w (some ⟨S, 0, none⟩) S 0 cs) := fun _ => ⟨rfl, heap_lt hS, codeAt_of_heap (rest := codeCells [foreignI, foreignI]) (by rw [← codeCells_append]; exact hS)⟩
  clear h' hS
  go_enter Try.func50, Try.ntmps50
  go_wp2_with fail
  refine (sameCode_same _ _ S 0 _ b' off' _ _ cs _ rfl hm HC0.out HC.out).mono ?_
  rintro e w1 ⟨rfl, hb1⟩
  have HB1 : Hid (Below w.heap.size w w1) := hb1
  clear hb1
  go_wp2_with fail
  go_loopw [7] (fun i wr => ∃ k : Nat, cs.length ≤ k ∧ k ≤ cs.length + 2 ∧ i = .int .i64 k ∧ Hid (Below w.heap.size w wr)) (fun i _ => cs.length + 2 - (intOf i).toNat)
  case atStart => exact ⟨cs.length, Nat.le_refl _, by omega, rfl, HB1⟩
  case round =>
    obtain ⟨k, hk0, hk, rfl, HB⟩ := hrel
    by_cases hlt : k < cs.length + 2
    · have hl2 : k < (cs ++ [foreignI, foreignI]).length := by simp; omega
      obtain ⟨c0, c1, c2, c3⟩ := (HS.out.1.keep (HB.out.block _ HS.out.2)).get k hl2
      have hx : (cs ++ [foreignI, foreignI])[k] = foreignI := by
        rw [List.getElem_append_right hk0]
        have : k - cs.length = 0 ∨ k - cs.length = 1 := by omega
        rcases this with h | h <;> simp [h]
      rw [hx] at c0 c1 c2 c3
      rw [Nat.zero_add] at c0 c1 c2 c3
      have e0 : wr.cell? ⟨S, k * 4, none⟩ = some (.int .i64 77) := c0
      have e1 : wr.cell? ⟨S, k * 4 + 1, none⟩ = some (.int .i64 77) := c1
      have e2 : wr.cell? ⟨S, k * 4 + 2, none⟩ = some (.int .i64 0) := c2
      have e3 : wr.cell? ⟨S, k * 4 + 3, none⟩ = some (.int .i64 0) := c3
      clear c0 c1 c2 c3 hx hl2
      have hSl : S < wr.heap.size := Nat.lt_of_lt_of_le HS.out.2 HB.out.size
      have HAL : Hid (∀ o, (wr.alloc o).heap[S]? = wr.heap[S]?) := fun o => Below.heap_alloc _ _ _ hSl
      have f0 := (World.cell?_of_block (a := ⟨S, k * 4, none⟩) (HAL.out (.cells #[.int .i64 77, .int .i64 77, .int .i64 0, .int .i64 0] 126))).trans e0
      have f1 := (World.cell?_of_block (a := ⟨S, k * 4 + 1, none⟩) (HAL.out (.cells #[.int .i64 77, .int .i64 77, .int .i64 0, .int .i64 0] 126))).trans e1
      have f2 := (World.cell?_of_block (a := ⟨S, k * 4 + 2, none⟩) (HAL.out (.cells #[.int .i64 77, .int .i64 77, .int .i64 0, .int .i64 0] 126))).trans e2
      have f3 := (World.cell?_of_block (a := ⟨S, k * 4 + 3, none⟩) (HAL.out (.cells #[.int .i64 77, .int .i64 77, .int .i64 0, .int .i64 0] 126))).trans e3
      go_wp2_with fail
      go_region_with (go_at_call 79; refine (foreign_is _).mono ?_; rintro e w' ⟨rfl, rfl⟩)
      all_goals
        go_wp2_with fail
        go_roundw
        case rel => exact ⟨k + 1, by omega, by omega, by go_num, (HB.out.alloc HB.out.size _).drew⟩
        case measure => simp [intOf]; omega
    · go_wp2_with fail
      go_ret
      exact ⟨rfl, HB.out⟩

end Go.Proofs.Ytiaibigmbflpiaa
