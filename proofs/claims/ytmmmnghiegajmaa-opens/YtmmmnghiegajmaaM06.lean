import Derived.Test.YtmmmnghiegajmaaM05
import Derived.Test.YtmmmnghiegajmaaM01
import Derived.OwnWalk
/- Lists that are handed in: the harness' own functions on code. Code written full by its owner; a machine of some code. -/
namespace Go.Proofs.Ytmmmnghiegajmaa
open Go.RowKit Go.Proofs.Herald
def codeCells (l : List Ins) : List Value := l.flatMap insCells
def foreignI : Ins := ⟨77, 77, 0, 0⟩
theorem Try.infoInstr : (Try.prog.info? 128).map (fun i => (i.zero, i.size, i.bytes)) = some (some (.agg #[.int .i64 0, .int .i64 0, .int .i64 0, .int .i64 0]), 4, 32) := by kernel_rfl
theorem codeCells_length (l : List Ins) : (codeCells l).length = l.length * 4 := by
  induction l with
  | nil => rfl
  | cons x r ih => simp only [codeCells, List.flatMap_cons, List.length_append] at *; rw [ih]; simp [insCells]; omega
theorem codeCells_append (l r : List Ins) : codeCells (l ++ r) = codeCells l ++ codeCells r := by simp [codeCells]
theorem codeCells_get : ∀ (l : List Ins) (i : Nat) (hi : i < l.length) (j : Nat) (_ : j < 4), (codeCells l)[i * 4 + j]? = (insCells l[i])[j]? := by
  intro l
  induction l with
  | nil => intro i hi; simp at hi
  | cons x r ih =>
    intro i hi j hj
    simp only [codeCells, List.flatMap_cons]
    cases i with
    | zero =>
      rw [List.getElem?_append_left (by simp [insCells]; omega)]
      simp
    | succ i =>
      rw [List.getElem?_append_right (by simp [insCells]; omega)]
      have := ih i (by simpa using hi) j hj
      simp only [codeCells] at this
      have e : (i + 1) * 4 + j - (insCells x).length = i * 4 + j := by simp [insCells]; omega
      rw [e, this]; simp
theorem codeAt_of_heap {w : World} {S : Nat} {l : List Ins} {rest : List Value} {e : TypeId} {fz : Nat × Nat} (h : w.heap[S]? = some (.cells (codeCells l ++ rest).toArray e fz)) : CodeAt w S 0 l := fun i hi j u hj => by
  have hj4 : j < 4 := by have := (List.getElem?_eq_some_iff.mp hj).1; simpa [insCells] using this
  rw [cell_of_heap h, Nat.zero_add]
  show (codeCells l ++ rest).toArray[i * 4 + j]? = _
  rw [List.getElem?_toArray, List.getElem?_append_left (by rw [codeCells_length]; omega), codeCells_get l i hi j hj4]
  exact hj
theorem set4 {A : List Value} {r0 r1 r2 r3 : Value} {rest : List Value} (u0 u1 u2 u3 : Value) (k : Nat) (hk : k = A.length) :
    ((((A ++ r0 :: r1 :: r2 :: r3 :: rest).set k u0).set (k + 1) u1).set (k + 2) u2).set (k + 3) u3 = A ++ [u0, u1, u2, u3] ++ rest := by
  subst hk
  simp [Nat.add_sub_cancel_left]
theorem get4 {w : World} {S k : Nat} {A : List Value} {r0 r1 r2 r3 : Value} {rest : List Value} {e : TypeId} (h : w.heap[S]? = some (.cells (A ++ r0 :: r1 :: r2 :: r3 :: rest).toArray e (0, 0))) (hk : k = A.length) :
    w.cell? ⟨S, k, none⟩ = some r0 ∧ w.cell? ⟨S, k + 1, none⟩ = some r1 ∧ w.cell? ⟨S, k + 2, none⟩ = some r2 ∧ w.cell? ⟨S, k + 3, none⟩ = some r3 ∧ w.frozen? ⟨S, k, none⟩ = false ∧ w.frozen? ⟨S, k + 1, none⟩ = false ∧ w.frozen? ⟨S, k + 2, none⟩ = false ∧ w.frozen? ⟨S, k + 3, none⟩ = false := by
  subst hk
  refine ⟨?_, ?_, ?_, ?_, free_of_heap h, free_of_heap h, free_of_heap h, free_of_heap h⟩ <;> (rw [cell_of_heap h]; simp)
theorem store4 {w : World} {S k : Nat} {A : List Value} {r0 r1 r2 r3 : Value} {rest : List Value} {e : TypeId} (h : w.heap[S]? = some (.cells (A ++ r0 :: r1 :: r2 :: r3 :: rest).toArray e (0, 0))) (hk : k = A.length) (u0 u1 u2 u3 : Value) :
    ((((w.setCell ⟨S, k, none⟩ u0).setCell ⟨S, k + 1, none⟩ u1).setCell ⟨S, k + 2, none⟩ u2).setCell ⟨S, k + 3, none⟩ u3).heap[S]? = some (.cells (A ++ [u0, u1, u2, u3] ++ rest).toArray e (0, 0)) := by
  rw [heap_setCell_self _ (heap_setCell_self _ (heap_setCell_self _ (heap_setCell_self _ h)))]
  simp only [List.setIfInBounds_toArray]
  rw [set4 u0 u1 u2 u3 k hk]
theorem below4 {B : Nat} {a w : World} (h : Below B a w) {S k : Nat} (hS : B ≤ S) (u0 u1 u2 u3 : Value) : Below B a ((((w.setCell ⟨S, k, none⟩ u0).setCell ⟨S, k + 1, none⟩ u1).setCell ⟨S, k + 2, none⟩ u2).setCell ⟨S, k + 3, none⟩ u3) :=
  (((h.setCell (p := ⟨S, k, none⟩) hS _).setCell (p := ⟨S, k + 1, none⟩) hS _).setCell (p := ⟨S, k + 2, none⟩) hS _).setCell (p := ⟨S, k + 3, none⟩) hS _
set_option maxHeartbeats 400000 in
theorem foreign_is (w : World) : Calls Try.prog 85 #[] w fun e w' => e = .returned (.agg #[.int .i64 77, .int .i64 77, .int .i64 0, .int .i64 0]) ∧ w' = w.alloc (.cells #[.int .i64 77, .int .i64 77, .int .i64 0, .int .i64 0] 128) := by
  go_enter Try.func85, Try.ntmps85
  go_wp2_with fail
  exact bodyPost_ret (v := .agg #[.int .i64 77, .int .i64 77, .int .i64 0, .int .i64 0]) (by simp [results, Try.results85, go_sem]) rfl ⟨rfl, rfl⟩
theorem foreign_any (w : World) : Calls Try.prog 85 #[] w fun e w' => e = .returned (.agg #[.int .i64 77, .int .i64 77, .int .i64 0, .int .i64 0]) ∧ Below w.heap.size w w' :=
  (foreign_is w).mono fun e w' h => ⟨h.1, by rw [h.2]; exact (Below.refl _ _).alloc (Nat.le_refl _) _⟩
set_option maxRecDepth 20000 in
set_option maxHeartbeats 2000000 in
theorem handed_any (a : Option Addr) (b off cap : Nat) (cs : List Ins) (w : World) (hc : CodeIn w a b off cs) (hn : cs.length ≤ 4398046511000) :
    Calls Try.prog 51 #[.slice a cs.length cap] w fun e w' => ∃ S, w.heap.size ≤ S ∧ e = .returned (.slice (some ⟨S, 0, none⟩) cs.length (cs.length + 2)) ∧ w'.heap[S]? = some (.cells (codeCells (cs ++ [foreignI, foreignI])).toArray 128 (0, 0)) ∧ Below w.heap.size w w' := by
  obtain ⟨i0, hi, hz0, hz1, hz2⟩ := info_parts Try.infoInstr
  have HC : Hid (CodeIn w a b off cs) := hc
  clear hc
  go_enter Try.func51, Try.ntmps51
  go_wp2_with (at_make; refine wpList_make_full _ rfl _ _ 26 rfl w.heap.size 128 i0 _ 4 Try.underlying26 hi hz0 hz1 _ _ _ _ (cs.length + 2) rfl rfl (by go_num) (by go_num) (by rw [hz2]; omega) (by unfold maxLen; omega) (Nat.le_refl _) ?_)
  intro w1 hown1 hgrow1
  obtain ⟨Z, hZ⟩ : ∃ Z : List Value, Z = (madeCells #[.int .i64 0, .int .i64 0, .int .i64 0, .int .i64 0] ((cs.length + 2) * 4)).toList := ⟨_, rfl⟩
  rw [← hZ] at hown1
  have HZL : Hid (Z.length = (cs.length + 2) * 4) := hown1.1
  have HG1 : Hid (w1.heap[w.heap.size]? = some (.cells Z.toArray 128 (0, 0))) := by
    show _ = _
    rcases hown1.2 with ⟨h, _⟩ | ⟨g, c, cur, hv, hb, hg, h1, h2, h3, h4⟩
    · cases h
    · simp at hv
      obtain ⟨rfl, rfl⟩ := hv
      rw [hg]
      have : cur.toList = Z := by rw [← h4]; exact (List.take_of_length_le (by simp; omega)).symm
      rw [← this]
  have HB1 : Hid (Below w.heap.size w w1) := (Below.refl _ _).grown hgrow1 (Nat.le_refl _) (fun k hk => by cases hk)
  clear hown1 hgrow1 hZ
  have HSRC : Hid (0 < cs.length → ∃ ad, a = some ad ∧ ∀ j v, (codeCells cs)[j]? = some v → w1.cell? (ad.add j) = some v) := fun hp => by
    obtain ⟨rfl, hlt, hca⟩ := HC.out hp
    refine ⟨_, rfl, fun j v hj => ?_⟩
    have hjl : j < cs.length * 4 := by have := (List.getElem?_eq_some_iff.mp hj).1; rwa [codeCells_length] at this
    have e : j = j / 4 * 4 + j % 4 := by omega
    have hi4 : j / 4 < cs.length := by omega
    have h2 := (hca.keep (HB1.out.block b hlt)) (j / 4) hi4 (j % 4) v (by rw [← codeCells_get cs (j / 4) hi4 (j % 4) (by omega), ← e]; exact hj)
    rw [Addr.add_lit]
    rw [show off + j = off + j / 4 * 4 + j % 4 from by omega]
    exact h2
  have HONE : Hid (∀ v ∈ codeCells cs, v.oneCell' = true) := by
    intro v hv
    obtain ⟨x, _, hx⟩ := List.mem_flatMap.mp hv
    simp [insCells] at hx
    rcases hx with rfl | rfl | rfl | rfl <;> rfl
  go_wp2_with (refine wpList_copy_rows rfl (.tmp 9) (.tmp 10) 26 26 rfl 128 Try.underlying26 4 (by rw [hi]; exact congrArg some hz1) w.heap.size (cs.length + 2) (cs.length + 2) rfl a cs.length cap rfl Z 128 HG1.out (codeCells cs) (by omega) (codeCells_length cs) HSRC.out (by rw [codeCells_length, HZL.out]; omega) HONE.out ?_)
  intro w2 hg2 hgrow2
  have HG2 : Hid (w2.heap[w.heap.size]? = some (.cells (codeCells cs ++ Z.drop (codeCells cs).length).toArray 128 (0, 0))) := hg2
  have HB2 : Hid (Below w.heap.size w w2) := HB1.out.grown hgrow2 HB1.out.size (fun k hk => by cases hk; exact Nat.le_refl _)
  clear hg2 hgrow2 HSRC HONE HG1
  go_wp2_with fail
  go_loopw [4] (fun i wr => ∃ (k j : Nat) (rest : List Value), k = cs.length + j ∧ j ≤ 2 ∧ i = .int .i64 k ∧ rest.length = (2 - j) * 4 ∧ Hid (wr.heap[w.heap.size]? = some (.cells (codeCells (cs ++ List.replicate j foreignI) ++ rest).toArray 128 (0, 0))) ∧ Hid (Below w.heap.size w wr)) (fun i _ => cs.length + 2 - (intOf i).toNat)
  case atStart =>
    refine ⟨cs.length, 0, Z.drop (codeCells cs).length, rfl, by omega, rfl, ?_, ?_, HB2⟩
    · rw [List.length_drop, codeCells_length, HZL.out]; omega
    · show _ = _
      rw [HG2.out]; simp
  case round =>
    obtain ⟨k, j, rest, hk, hj, rfl, hrl, HG, HB⟩ := hrel
    by_cases hlt : j < 2
    · have hkl : k < cs.length + 2 := by omega
      obtain ⟨r0, r1, r2, r3, rest', rfl⟩ : ∃ r0 r1 r2 r3 rest', rest = r0 :: r1 :: r2 :: r3 :: rest' := by
        match rest, hrl with
        | r0 :: r1 :: r2 :: r3 :: rest', _ => exact ⟨r0, r1, r2, r3, rest', rfl⟩
        | [], h => simp at h; omega
        | [_], h => simp at h; omega
        | [_, _], h => simp at h; omega
        | [_, _, _], h => simp at h; omega
      have HK : Hid (k * 4 = (codeCells (cs ++ List.replicate j foreignI)).length) := by show _ = _; rw [codeCells_length]; simp; omega
      have HRL : Hid (rest'.length = (2 - (j + 1)) * 4) := by show _ = _; simp at hrl; omega
      have HKJ : Hid (k + 1 = cs.length + (j + 1)) := by show _ = _; omega
      clear hk hrl
      go_wp2_with fail
      refine (foreign_any _).mono ?_
      rintro e w3 ⟨rfl, hb3⟩
      have HG3 : Hid (_ = _) := (hb3.block w.heap.size (heap_lt HG.out)).trans HG.out
      have HB3 : Hid (Below w.heap.size w w3) := HB.out.trans (hb3.mono HB.out.size)
      obtain ⟨c0, c1, c2, c3, z0, z1, z2, z3⟩ := get4 HG3.out HK.out
      clear hb3 HG HB
      go_wp2_with fail
      have HE : Hid (codeCells (cs ++ List.replicate j foreignI) ++ [.int .i64 77, .int .i64 77, .int .i64 0, .int .i64 0] = codeCells (cs ++ List.replicate (j + 1) foreignI)) := by
        show _ = _
        rw [List.replicate_succ', ← List.append_assoc, codeCells_append (cs ++ List.replicate j foreignI)]; rfl
      go_roundw
      case rel => exact ⟨k + 1, j + 1, rest', HKJ.out, by omega, by go_num, HRL.out, by show _ = _; rw [store4 HG3.out HK.out, HE.out], below4 HB3.out (Nat.le_refl _) _ _ _ _⟩
      case measure => simp [intOf]; omega
    · obtain rfl : j = 2 := by omega
      obtain rfl : rest = [] := List.eq_nil_of_length_eq_zero (by simpa using hrl)
      have HG' : Hid (wr.heap[w.heap.size]? = some (.cells (codeCells (cs ++ [foreignI, foreignI])).toArray 128 (0, 0))) := by have h := HG.out; simp at h; exact h
      clear HG hrl
      go_wp2_with fail
      go_ret
      exact ⟨_, Nat.le_refl _, rfl, HG'.out, HB.out⟩
set_option maxHeartbeats 1000000 in
theorem sameCode_same (a a' : Option Addr) (b off cap b' off' cap' n : Nat) (cs : List Ins) (w : World) (hn : n = cs.length) (hm : cs.length ≤ 4398046511000) (h : CodeIn w a b off cs) (h' : CodeIn w a' b' off' cs) :
    Calls Try.prog 21 #[.slice a n cap, .slice a' n cap'] w fun e w' => e = .returned (.bool true) ∧ Below w.heap.size w w' := by
  subst hn
  have HC : Hid (CodeIn w a b off cs ∧ CodeIn w a' b' off' cs) := ⟨h, h'⟩
  clear h h'
  go_enter Try.func21, Try.ntmps21
  go_wp2_with fail
  go_loopw [5] (fun i wr => ∃ k : Nat, k ≤ cs.length ∧ i = .int .i64 k ∧ Hid (Below w.heap.size w wr)) (fun i _ => cs.length - (intOf i).toNat)
  case atStart => exact ⟨0, Nat.zero_le _, rfl, Below.refl _ _⟩
  case round =>
    obtain ⟨k, hk, rfl, HB⟩ := hrel
    by_cases hlt : k < cs.length
    · obtain ⟨rfl, g1, h1⟩ := HC.out.1 (by omega)
      obtain ⟨rfl, g2, h2⟩ := HC.out.2 (by omega)
      obtain ⟨c0, c1, c2, c3⟩ := (h1.keep (HB.out.block _ g1)).get k hlt
      obtain ⟨d0, d1, d2, d3⟩ := (h2.keep (HB.out.block _ g2)).get k hlt
      generalize cs[k] = x at *
      obtain ⟨op, xa, xb, xc⟩ := x
      simp only [] at c0 c1 c2 c3 d0 d1 d2 d3
      clear h1 h2 g1 g2
      go_wp2_with fail
      go_region
      all_goals
        go_wp2_with fail
        go_roundw
        case rel => exact ⟨k + 1, by omega, by go_num, HB.out.drew⟩
        case measure => simp [intOf]; omega
    · go_wp2_with fail
      go_ret
      exact ⟨rfl, HB.out⟩
set_option maxHeartbeats 1000000 in
theorem still_any (a' : Option Addr) (S b' off' cap' : Nat) (cs : List Ins) (w : World) (hm : cs.length ≤ 4398046511000) (hS : w.heap[S]? = some (.cells (codeCells (cs ++ [foreignI, foreignI])).toArray 128 (0, 0))) (h' : CodeIn w a' b' off' cs) :
    Calls Try.prog 52 #[.slice (some ⟨S, 0, none⟩) cs.length (cs.length + 2), .slice a' cs.length cap'] w fun e w' => e = .returned (.bool true) ∧ Below w.heap.size w w' := by
  have HS : Hid (CodeAt w S 0 (cs ++ [foreignI, foreignI]) ∧ S < w.heap.size) := ⟨codeAt_of_heap (rest := []) (by rw [List.append_nil]; exact hS), heap_lt hS⟩
  have HC : Hid (CodeIn w a' b' off' cs) := h'
  have HC0 : Hid (CodeIn w (some ⟨S, 0, none⟩) S 0 cs) := fun _ => ⟨rfl, heap_lt hS, codeAt_of_heap (rest := codeCells [foreignI, foreignI]) (by rw [← codeCells_append]; exact hS)⟩
  clear h' hS
  go_enter Try.func52, Try.ntmps52
  go_wp2_with fail
  refine (sameCode_same _ _ S 0 _ b' off' _ _ cs _ rfl hm HC0.out HC.out).mono ?_
  rintro e w1 ⟨rfl, hb1⟩
  have HB1 : Hid (Below w.heap.size w w1) := hb1
  clear hb1
  go_wp2_with fail
  go_loopw [7] (fun i wr => ∃ k : Nat, cs.length ≤ k ∧ k ≤ cs.length + 2 ∧ i = .int .i64 k ∧ Hid (Below w.heap.size w wr)) (fun i _ => cs.length + 2 - (intOf i).toNat)
  case atStart => exact ⟨cs.length, Nat.le_refl _, by omega, rfl, HB1⟩
  case round =>
    obtain ⟨k, hk0, hk, rfl, HB⟩ := hrel
    by_cases hlt : k < cs.length + 2
    · have hl2 : k < (cs ++ [foreignI, foreignI]).length := by simp; omega
      obtain ⟨c0, c1, c2, c3⟩ := (HS.out.1.keep (HB.out.block _ HS.out.2)).get k hl2
      have hx : (cs ++ [foreignI, foreignI])[k] = foreignI := by
        rw [List.getElem_append_right hk0]
        have : k - cs.length = 0 ∨ k - cs.length = 1 := by omega
        rcases this with h | h <;> simp [h]
      rw [hx] at c0 c1 c2 c3
      rw [Nat.zero_add] at c0 c1 c2 c3
      have e0 : wr.cell? ⟨S, k * 4, none⟩ = some (.int .i64 77) := c0
      have e1 : wr.cell? ⟨S, k * 4 + 1, none⟩ = some (.int .i64 77) := c1
      have e2 : wr.cell? ⟨S, k * 4 + 2, none⟩ = some (.int .i64 0) := c2
      have e3 : wr.cell? ⟨S, k * 4 + 3, none⟩ = some (.int .i64 0) := c3
      clear c0 c1 c2 c3 hx hl2
      have hSl : S < wr.heap.size := Nat.lt_of_lt_of_le HS.out.2 HB.out.size
      have HAL : Hid (∀ o, (wr.alloc o).heap[S]? = wr.heap[S]?) := fun o => Below.heap_alloc _ _ _ hSl
      have f0 := (World.cell?_of_block (a := ⟨S, k * 4, none⟩) (HAL.out (.cells #[.int .i64 77, .int .i64 77, .int .i64 0, .int .i64 0] 128))).trans e0
      have f1 := (World.cell?_of_block (a := ⟨S, k * 4 + 1, none⟩) (HAL.out (.cells #[.int .i64 77, .int .i64 77, .int .i64 0, .int .i64 0] 128))).trans e1
      have f2 := (World.cell?_of_block (a := ⟨S, k * 4 + 2, none⟩) (HAL.out (.cells #[.int .i64 77, .int .i64 77, .int .i64 0, .int .i64 0] 128))).trans e2
      have f3 := (World.cell?_of_block (a := ⟨S, k * 4 + 3, none⟩) (HAL.out (.cells #[.int .i64 77, .int .i64 77, .int .i64 0, .int .i64 0] 128))).trans e3
      go_wp2_with fail
      go_region_with (go_at_call 85; refine (foreign_is _).mono ?_; rintro e w' ⟨rfl, rfl⟩)
      all_goals
        go_wp2_with fail
        go_roundw
        case rel => exact ⟨k + 1, by omega, by omega, by go_num, (HB.out.alloc HB.out.size _).drew⟩
        case measure => simp [intOf]; omega
    · go_wp2_with fail
      go_ret
      exact ⟨rfl, HB.out⟩
open Go.RowKit Go.Proofs.Herald
theorem codeCells_split (L : List Ins) (k : Nat) (h : k < L.length) : codeCells L = codeCells (L.take k) ++ .int .i64 L[k].op :: .int .i64 L[k].a :: .int .i64 L[k].b :: .int .i64 L[k].c :: codeCells (L.drop (k + 1)) := by
  have e : L = L.take k ++ (L[k] :: L.drop (k + 1)) := by rw [List.getElem_cons_drop, List.take_append_drop]
  have e2 : codeCells (L[k] :: L.drop (k + 1)) = .int .i64 L[k].op :: .int .i64 L[k].a :: .int .i64 L[k].b :: .int .i64 L[k].c :: codeCells (L.drop (k + 1)) := rfl
  have := codeCells_append (L.take k) (L[k] :: L.drop (k + 1))
  rw [← e, e2] at this
  exact this
set_option maxHeartbeats 1000000 in
theorem spoil_any (S n cap : Nat) (L : List Ins) (w : World) (hn : n ≤ L.length) (hm : n ≤ 4398046511000) (hS : w.heap[S]? = some (.cells (codeCells L).toArray 128 (0, 0))) :
    Calls Try.prog 53 #[.slice (some ⟨S, 0, none⟩) n cap] w fun e w' => e = .returned (.tuple #[]) ∧ Fr (fun k => k = S) w w' := by
  have HS : Hid (w.heap[S]? = some (.cells (codeCells L).toArray 128 (0, 0))) := hS
  clear hS
  go_enter Try.func53, Try.ntmps53
  go_wp2_with fail
  go_loopw [2] (fun i wr => ∃ (k : Nat) (L' : List Ins), k ≤ n ∧ i = .int .i64 k ∧ L'.length = L.length ∧ Hid (wr.heap[S]? = some (.cells (codeCells L').toArray 128 (0, 0))) ∧ Hid (Fr (fun k => k = S) w wr)) (fun i _ => n - (intOf i).toNat)
  case atStart => exact ⟨0, L, Nat.zero_le _, rfl, rfl, HS, Fr.refl _ _⟩
  case round =>
    obtain ⟨k, L', hk, rfl, hl, HG, HF⟩ := hrel
    by_cases hlt : k < n
    · have HSP : Hid (_ = _) := codeCells_split L' k (by omega)
      have HL : Hid (k * 4 = (codeCells (L'.take k)).length) := by show _ = _; rw [codeCells_length]; simp; omega
      have HN : Hid (codeCells (L'.take k) ++ [.int .i64 77, .int .i64 77, .int .i64 0, .int .i64 0] ++ codeCells (L'.drop (k + 1)) = codeCells (L'.take k ++ foreignI :: L'.drop (k + 1)) ∧ (L'.take k ++ foreignI :: L'.drop (k + 1)).length = L.length) := by
        refine ⟨?_, by simp; omega⟩
        rw [codeCells_append, List.append_assoc]; rfl
      go_wp2_with fail
      refine (foreign_any _).mono ?_
      rintro e w3 ⟨rfl, hb3⟩
      have hgl := heap_lt HG.out
      have HG3 : Hid (w3.heap[S]? = some (.cells (codeCells (L'.take k) ++ .int .i64 L'[k].op :: .int .i64 L'[k].a :: .int .i64 L'[k].b :: .int .i64 L'[k].c :: codeCells (L'.drop (k + 1))).toArray 128 (0, 0))) := by
        show _ = _
        rw [hb3.block S hgl, HG.out, HSP.out]
      have HF3 : Hid (Fr (fun k => k = S) w w3) := HF.out.trans ((Fr.of_below hb3).mono fun j hj hs => by omega)
      obtain ⟨c0, c1, c2, c3, z0, z1, z2, z3⟩ := get4 HG3.out HL.out
      clear hb3 HG HF hgl
      go_wp2_with fail
      go_roundw
      case rel => exact ⟨k + 1, _, by omega, by go_num, HN.out.2, by show _ = _; rw [store4 HG3.out HL.out, HN.out.1], (((HF3.out.setCell ⟨S, k * 4, none⟩ (Or.inl rfl) _).setCell ⟨S, k * 4 + 1, none⟩ (Or.inl rfl) _).setCell ⟨S, k * 4 + 2, none⟩ (Or.inl rfl) _).setCell ⟨S, k * 4 + 3, none⟩ (Or.inl rfl) _⟩
      case measure => simp [intOf]; omega
    · go_wp2_with fail
      go_end0
      exact ⟨rfl, HF.out⟩
theorem codeCells_one (cs : List Ins) : ∀ v ∈ codeCells cs, v.oneCell' = true := by
  intro v hv
  obtain ⟨x, _, hx⟩ := List.mem_flatMap.mp hv
  simp [insCells] at hx
  rcases hx with rfl | rfl | rfl | rfl <;> rfl
theorem ownsRow_lies {w : World} {B : Nat} {e : TypeId} {size : Nat} {v : Value} {n : Nat} {xs : List Value} (h : w.ownsRow B e size v n xs) {k : Nat} (hk : v.ownBlock = some k) : B ≤ k ∧ ∃ cur, w.heap[k]? = some (.cells cur e (0, 0)) := by
  rcases h.2 with ⟨rfl, _⟩ | ⟨g, cap, cur, rfl, hb, hg, r⟩
  · simp [Value.ownBlock] at hk
  · simp [Value.ownBlock] at hk; subst hk; exact ⟨hb, cur, hg⟩
theorem ownsRow_slice {w : World} {B : Nat} {e : TypeId} {size : Nat} {v : Value} {n : Nat} {xs : List Value} (h : w.ownsRow B e size v n xs) : ∃ a cap, v = .slice a n cap := by
  rcases h.2 with ⟨rfl, h0⟩ | ⟨g, cap, cur, rfl, _⟩
  · exact ⟨none, 0, by rw [h0]⟩
  · exact ⟨_, _, rfl⟩
theorem own_stays {w w' : World} {B : Nat} {e : TypeId} {size : Nat} {v : Value} {n : Nat} {xs : List Value} (h : w.ownsRow B e size v n xs) (hk : ∀ k, v.ownBlock = some k → w'.heap[k]? = w.heap[k]?) : w'.ownsRow B e size v n xs := by
  refine ⟨h.1, ?_⟩
  rcases h.2 with h2 | ⟨g, cap, cur, rfl, hb, hg, r⟩
  · exact .inl h2
  · exact .inr ⟨g, cap, cur, rfl, hb, by rw [hk g rfl]; exact hg, r⟩
/-- A machine as it begins: all but its code is nothing. -/
def newM (v : Value) : Array Value := #[v, .int .i64 0, .int .i64 0, .slice none 0 0, .slice none 0 0, .slice none 0 0, .slice none 0 0]
theorem cells7 {w : World} {R : Nat} {e : TypeId} {v : Value} (h : w.heap[R]? = some (.cells (newM v) e (0, 0))) :
    w.cell? ⟨R, 0, none⟩ = some v ∧ w.cell? ⟨R, 1, none⟩ = some (.int .i64 0) ∧ w.cell? ⟨R, 2, none⟩ = some (.int .i64 0) ∧ w.cell? ⟨R, 3, none⟩ = some (.slice none 0 0) ∧ w.cell? ⟨R, 4, none⟩ = some (.slice none 0 0) ∧ w.cell? ⟨R, 5, none⟩ = some (.slice none 0 0) ∧ w.cell? ⟨R, 6, none⟩ = some (.slice none 0 0) ∧
      (∀ j, w.frozen? ⟨R, j, none⟩ = false) :=
  ⟨(cell_of_heap h).trans rfl, (cell_of_heap h).trans rfl, (cell_of_heap h).trans rfl, (cell_of_heap h).trans rfl, (cell_of_heap h).trans rfl, (cell_of_heap h).trans rfl, (cell_of_heap h).trans rfl, fun _ => free_of_heap h⟩
/-- A herald as it begins: its machine, and no record. -/
def newHd (v : Value) : Array Value := #[v, .int .i64 0, .int .i64 0, .slice none 0 0, .slice none 0 0, .slice none 0 0, .slice none 0 0, .slice none 0 0]
theorem below7 {B : Nat} {a w : World} (h : Below B a w) {R : Nat} (hR : B ≤ R) (u0 u1 u2 u3 u4 u5 u6 : Value) :
    Below B a (((((((w.setCell ⟨R, 0, none⟩ u0).setCell ⟨R, 1, none⟩ u1).setCell ⟨R, 2, none⟩ u2).setCell ⟨R, 3, none⟩ u3).setCell ⟨R, 4, none⟩ u4).setCell ⟨R, 5, none⟩ u5).setCell ⟨R, 6, none⟩ u6) :=
  ((((((h.setCell (p := ⟨R, 0, none⟩) hR _).setCell (p := ⟨R, 1, none⟩) hR _).setCell (p := ⟨R, 2, none⟩) hR _).setCell (p := ⟨R, 3, none⟩) hR _).setCell (p := ⟨R, 4, none⟩) hR _).setCell (p := ⟨R, 5, none⟩) hR _).setCell (p := ⟨R, 6, none⟩) hR _
set_option maxHeartbeats 1000000 in
theorem c_mNew_no (a : Option Addr) (b off cap : Nat) (cs : List Ins) (w : World) (hc : CodeIn w a b off cs) (hs : soundL cs = false) :
    Calls Try.prog 66 #[.slice a cs.length cap] w fun e w' => e = .returned (.tuple #[.agg #[.slice none 0 0, .int .i64 0, .int .i64 0, .slice none 0 0, .slice none 0 0, .slice none 0 0, .slice none 0 0], .int .i64 7]) ∧ Below w.heap.size w w' := by
  have HC : Hid (∀ W : World, CodeIn W a b off cs → Calls Try.prog 98 #[.slice a cs.length cap] W fun e w' => e = .returned (.bool false) ∧ Below W.heap.size W w') := fun W h => by
    have := c_sound a b off cap cs W h
    rw [hs] at this
    exact this
  have HCI : Hid (∀ o, CodeIn (w.alloc o) a b off cs) := fun o => hc.keep ((Below.refl _ _).alloc (Nat.le_refl _) _)
  clear hc hs
  go_enter Try.func66, Try.ntmps66
  go_wp2_with fail
  refine (HC.out _ (HCI.out _)).mono ?_
  rintro e w1 ⟨rfl, hb1⟩
  have g1 : w1.heap[w.heap.size]? = some (.cells (newM (.slice none 0 0)) 146 (0, 0)) := (hb1.block _ (by simp)).trans (heap_alloc_new _ _)
  obtain ⟨d0, d1, d2, d3, d4, d5, d6, hz⟩ := cells7 g1
  have z0 := hz 0
  have z1 := hz 1
  have z2 := hz 2
  have z3 := hz 3
  have z4 := hz 4
  have z5 := hz 5
  have z6 := hz 6
  have HB1 : Hid (Below w.heap.size w w1) := ((Below.refl _ _).alloc (Nat.le_refl _) _).trans (hb1.mono (by simp))
  clear hb1 g1 hz HC HCI
  go_wp2_with fail
  refine bodyPost_ret (v := .tuple #[.agg #[.slice none 0 0, .int .i64 0, .int .i64 0, .slice none 0 0, .slice none 0 0, .slice none 0 0, .slice none 0 0], .int .i64 7]) (by simp [results, Try.results66, go_sem, d0, d1, d2, d3, d4, d5, d6]) rfl ⟨rfl, ?_⟩
  exact below7 HB1.out (Nat.le_refl _) _ _ _ _ _ _ _
set_option maxHeartbeats 1000000 in
theorem c_mNew_yes (b off cap : Nat) (cs : List Ins) (w : World) (hc : CodeIn w (some ⟨b, off, none⟩) b off cs) (hs : soundL cs = true) :
    Calls Try.prog 66 #[.slice (some ⟨b, off, none⟩) cs.length cap] w fun e w' => ∃ v, e = .returned (.tuple #[.agg #[v, .int .i64 0, .int .i64 0, .slice none 0 0, .slice none 0 0, .slice none 0 0, .slice none 0 0], .int .i64 0]) ∧ w'.ownsRow w.heap.size 128 4 v cs.length (codeCells cs) ∧ Below w.heap.size w w' := by
  have hlen : cs.length ≤ 1000 := by
    rcases Nat.lt_or_ge 1000 cs.length with h | h
    · rw [soundL_long h] at hs; cases hs
    · exact h
  have HC : Hid (∀ W : World, CodeIn W (some ⟨b, off, none⟩) b off cs → Calls Try.prog 98 #[.slice (some ⟨b, off, none⟩) cs.length cap] W fun e w' => e = .returned (.bool true) ∧ Below W.heap.size W w') := fun W h => by
    have := c_sound _ b off cap cs W h
    rw [hs] at this
    exact this
  have HCW : Hid (CodeIn w (some ⟨b, off, none⟩) b off cs) := hc
  have HCI : Hid (∀ o, CodeIn (w.alloc o) (some ⟨b, off, none⟩) b off cs) := fun o => hc.keep ((Below.refl _ _).alloc (Nat.le_refl _) _)
  clear hc hs
  obtain ⟨i0, hi, hz0, hz1, hz2⟩ := info_parts Try.infoInstr
  go_enter Try.func66, Try.ntmps66
  go_wp2_with fail
  refine (HC.out _ (HCI.out _)).mono ?_
  rintro e w1 ⟨rfl, hb1⟩
  have g1 : w1.heap[w.heap.size]? = some (.cells (newM (.slice none 0 0)) 146 (0, 0)) := (hb1.block _ (by simp)).trans (heap_alloc_new _ _)
  have HG1 : Hid (_ = _) := g1
  have HB1 : Hid (Below w.heap.size w w1) := ((Below.refl _ _).alloc (Nat.le_refl _) _).trans (hb1.mono (by simp))
  clear hb1 g1 HC HCI
  have HCELL : Hid (∀ W : World, (∀ k, k < w.heap.size → W.heap[k]? = w.heap[k]?) → ∀ j v, (codeCells cs)[j]? = some v → W.cell? ((⟨b, off, none⟩ : Addr).add j) = some v) := fun W hW j v hj => by
    have hjl : j < cs.length * 4 := by have := (List.getElem?_eq_some_iff.mp hj).1; rwa [codeCells_length] at this
    obtain ⟨_, hlt, hca⟩ := HCW.out (by omega)
    have e : j = j / 4 * 4 + j % 4 := by omega
    have hi4 : j / 4 < cs.length := by omega
    have h2 := (hca.keep (hW b hlt)) (j / 4) hi4 (j % 4) v (by rw [← codeCells_get cs (j / 4) hi4 (j % 4) (by omega), ← e]; exact hj)
    rw [Addr.add_lit]
    rw [show off + j = off + j / 4 * 4 + j % 4 from by omega]
    exact h2
  have HOWN : Hid ((w1.alloc (.cells #[] 128)).ownsRow w.heap.size 128 4 (.slice (some ⟨w1.heap.size, 0, none⟩) 0 0) 0 []) :=
    ⟨rfl, .inr ⟨w1.heap.size, 0, #[], rfl, HB1.out.size, heap_alloc_new _ _, Nat.le_refl _, Nat.zero_le _, rfl, rfl⟩⟩
  have HBA : Hid (Below w.heap.size w (w1.alloc (.cells #[] 128))) := HB1.out.alloc HB1.out.size _
  have HGA : Hid ((w1.alloc (.cells #[] 128)).heap[w.heap.size]? = some (.cells (newM (.slice none 0 0)) 146 (0, 0))) := by
    show _ = _
    rw [Below.heap_alloc _ _ _ (heap_lt HG1.out)]; exact HG1.out
  go_wp2_with (at_builtin; refine wpList_append_own _ rfl _ _ 26 rfl w.heap.size 128 i0 _ 4 32 Try.underlying26 hi hz0 hz1 hz2 rfl (by omega) _ 0 [] rfl HOWN.out ⟨b, off, none⟩ cs.length cap (codeCells cs) rfl (codeCells_length cs) (HCELL.out _ HBA.out.block) (codeCells_one cs) (by unfold maxLen; omega) (by omega) HBA.out.size ?_)
  intro v' w2 hown2 hgrow2 _
  have HG2 : w2.heap[w.heap.size]? = some (.cells (newM (.slice none 0 0)) 146 (0, 0)) := by
    rw [hgrow2.block _ (heap_lt HGA.out) (by simp [Value.ownBlock]; have := heap_lt HG1.out; omega)]
    exact HGA.out
  have HB2 : Hid (Below w.heap.size w w2) := HBA.out.grown hgrow2 HBA.out.size (fun k hk => by simp [Value.ownBlock] at hk; subst hk; exact HB1.out.size)
  have HO2 : Hid (w2.ownsRow w.heap.size 128 4 v' cs.length (codeCells cs)) := hown2
  obtain ⟨d0, d1, d2, d3, d4, d5, d6, hz⟩ := cells7 HG2
  have z0 := hz 0
  have z1 := hz 1
  have z2 := hz 2
  have z3 := hz 3
  have z4 := hz 4
  have z5 := hz 5
  have z6 := hz 6
  have HNE : Hid (∀ k, v'.ownBlock = some k → k ≠ w.heap.size) := fun k hk => by
    obtain ⟨_, cur, hc⟩ := ownsRow_lies HO2.out hk
    exact ne_of_type hc HG2 (by decide)
  have HBK : Hid (_ = _) := HG2
  obtain ⟨a2, cap2, hv2⟩ := ownsRow_slice HO2.out
  subst hv2
  clear hown2 hgrow2 hz HG2
  go_wp2_with fail
  refine bodyPost_ret (v := .tuple #[.agg #[.slice a2 cs.length cap2, .int .i64 0, .int .i64 0, .slice none 0 0, .slice none 0 0, .slice none 0 0, .slice none 0 0], .int .i64 0]) (by simp [results, Try.results66, go_sem, d0, d1, d2, d3, d4, d5, d6]) rfl ⟨_, rfl, ?_, ?_⟩
  · refine own_stays HO2.out (fun k hk => ?_)
    have hne := HNE.out k hk
    rw [Below.heap_setCell _ _ _ _ hne, Below.heap_setCell _ _ _ _ hne, Below.heap_setCell _ _ _ _ hne, Below.heap_setCell _ _ _ _ hne, Below.heap_setCell _ _ _ _ hne, Below.heap_setCell _ _ _ _ hne, Below.heap_setCell _ _ _ _ hne]
  · exact below7 HB2.out (Nat.le_refl _) _ _ _ _ _ _ _
set_option maxHeartbeats 1000000 in
theorem c_New_no (b off cap : Nat) (cs : List Ins) (w : World) (hc : CodeIn w (some ⟨b, off, none⟩) b off cs) (hs : soundL cs = false) :
    Calls Try.prog 27 #[.slice (some ⟨b, off, none⟩) cs.length cap] w fun e w' => e = .returned (.tuple #[.pointer none, .int .i64 7]) ∧ Below w.heap.size w w' := by
  have HC : Hid (Calls Try.prog 66 #[.slice (some ⟨b, off, none⟩) cs.length cap] w fun e w' => e = .returned (.tuple #[.agg #[.slice none 0 0, .int .i64 0, .int .i64 0, .slice none 0 0, .slice none 0 0, .slice none 0 0, .slice none 0 0], .int .i64 7]) ∧ Below w.heap.size w w') := c_mNew_no _ b off cap cs w hc hs
  clear hc hs
  go_enter Try.func27, Try.ntmps27
  go_wp2_with fail
  refine HC.out.mono ?_
  rintro e w1 ⟨rfl, hb1⟩
  go_wp2_with fail
  go_ret2
  exact ⟨rfl, hb1.alloc hb1.size _⟩
set_option maxHeartbeats 1000000 in
theorem c_New_yes (b off cap : Nat) (cs : List Ins) (w : World) (hc : CodeIn w (some ⟨b, off, none⟩) b off cs) (hs : soundL cs = true) :
    Calls Try.prog 27 #[.slice (some ⟨b, off, none⟩) cs.length cap] w fun e w' => ∃ H v, e = .returned (.tuple #[.pointer (some ⟨H, 0, none⟩), .int .i64 0]) ∧ w.heap.size ≤ H ∧ w'.heap[H]? = some (.cells (newHd v) 150 (0, 0)) ∧ w'.ownsRow w.heap.size 128 4 v cs.length (codeCells cs) ∧ Below w.heap.size w w' := by
  have HC : Hid (Calls Try.prog 66 #[.slice (some ⟨b, off, none⟩) cs.length cap] w fun e w' => ∃ v, e = .returned (.tuple #[.agg #[v, .int .i64 0, .int .i64 0, .slice none 0 0, .slice none 0 0, .slice none 0 0, .slice none 0 0], .int .i64 0]) ∧ w'.ownsRow w.heap.size 128 4 v cs.length (codeCells cs) ∧ Below w.heap.size w w') := c_mNew_yes b off cap cs w hc hs
  clear hc hs
  go_enter Try.func27, Try.ntmps27
  go_wp2_with fail
  refine HC.out.mono ?_
  rintro e w1 ⟨v, rfl, ho1, hb1⟩
  obtain ⟨a2, cap2, hv2⟩ := ownsRow_slice ho1
  subst hv2
  have HO : Hid (_ ∧ _) := And.intro ho1 hb1
  clear ho1 hb1
  go_wp2_with fail
  go_ret2
  refine ⟨w1.heap.size + 1, _, rfl, by have := HO.out.2.size; omega, heap_alloc2 _ _ _, (HO.out.1.alloc _).alloc _, (HO.out.2.alloc HO.out.2.size _).alloc (by have := HO.out.2.size; simp; omega) _⟩
end Go.Proofs.Ytmmmnghiegajmaa
