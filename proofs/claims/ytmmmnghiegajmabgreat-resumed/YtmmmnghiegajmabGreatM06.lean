import Derived.Test.YtmmmnghiegajmabGreatM05
import Derived.Test.YtmmmnghiegajmabGreatM01
import Derived.OwnWalk
/- Lists that are handed in: the harness' own functions on code. Code written full by its owner; a machine of some code. -/
namespace Go.Proofs.YtmmmnghiegajmabGreat
open Go.RowKit Go.Proofs.Herald
def codeCells (l : List Ins) : List Value := l.flatMap insCells
theorem Tryz.infoInstr : (Tryz.prog.info? 117).map (fun i => (i.zero, i.size, i.bytes)) = some (some (.agg #[.int .i64 0, .int .i64 0, .int .i64 0, .int .i64 0]), 4, 32) := by kernel_rfl
theorem codeCells_length (l : List Ins) : (codeCells l).length = l.length * 4 := by
  induction l with
  | nil => rfl
  | cons x r ih => simp only [codeCells, List.flatMap_cons, List.length_append] at *; rw [ih]; simp [insCells]; omega
theorem codeCells_append (l r : List Ins) : codeCells (l ++ r) = codeCells l ++ codeCells r := by simp [codeCells]
theorem codeCells_get : ∀ (l : List Ins) (i : Nat) (hi : i < l.length) (j : Nat) (_ : j < 4), (codeCells l)[i * 4 + j]? = (insCells l[i])[j]? := by
  intro l
  induction l with
  | nil => intro i hi; simp at hi
  | cons x r ih =>
    intro i hi j hj
    simp only [codeCells, List.flatMap_cons]
    cases i with
    | zero =>
      rw [List.getElem?_append_left (by simp [insCells]; omega)]
      simp
    | succ i =>
      rw [List.getElem?_append_right (by simp [insCells]; omega)]
      have := ih i (by simpa using hi) j hj
      simp only [codeCells] at this
      have e : (i + 1) * 4 + j - (insCells x).length = i * 4 + j := by simp [insCells]; omega
      rw [e, this]; simp
theorem set4 {A : List Value} {r0 r1 r2 r3 : Value} {rest : List Value} (u0 u1 u2 u3 : Value) (k : Nat) (hk : k = A.length) :
    ((((A ++ r0 :: r1 :: r2 :: r3 :: rest).set k u0).set (k + 1) u1).set (k + 2) u2).set (k + 3) u3 = A ++ [u0, u1, u2, u3] ++ rest := by
  subst hk
  simp [Nat.add_sub_cancel_left]
open Go.RowKit Go.Proofs.Herald
theorem codeCells_split (L : List Ins) (k : Nat) (h : k < L.length) : codeCells L = codeCells (L.take k) ++ .int .i64 L[k].op :: .int .i64 L[k].a :: .int .i64 L[k].b :: .int .i64 L[k].c :: codeCells (L.drop (k + 1)) := by
  have e : L = L.take k ++ (L[k] :: L.drop (k + 1)) := by rw [List.getElem_cons_drop, List.take_append_drop]
  have e2 : codeCells (L[k] :: L.drop (k + 1)) = .int .i64 L[k].op :: .int .i64 L[k].a :: .int .i64 L[k].b :: .int .i64 L[k].c :: codeCells (L.drop (k + 1)) := rfl
  have := codeCells_append (L.take k) (L[k] :: L.drop (k + 1))
  rw [← e, e2] at this
  exact this
theorem codeCells_one (cs : List Ins) : ∀ v ∈ codeCells cs, v.oneCell' = true := by
  intro v hv
  obtain ⟨x, _, hx⟩ := List.mem_flatMap.mp hv
  simp [insCells] at hx
  rcases hx with rfl | rfl | rfl | rfl <;> rfl
theorem ownsRow_lies {w : World} {B : Nat} {e : TypeId} {size : Nat} {v : Value} {n : Nat} {xs : List Value} (h : w.ownsRow B e size v n xs) {k : Nat} (hk : v.ownBlock = some k) : B ≤ k ∧ ∃ cur, w.heap[k]? = some (.cells cur e (0, 0)) := by
  rcases h.2 with ⟨rfl, _⟩ | ⟨g, cap, cur, rfl, hb, hg, r⟩
  · simp [Value.ownBlock] at hk
  · simp [Value.ownBlock] at hk; subst hk; exact ⟨hb, cur, hg⟩
theorem ownsRow_slice {w : World} {B : Nat} {e : TypeId} {size : Nat} {v : Value} {n : Nat} {xs : List Value} (h : w.ownsRow B e size v n xs) : ∃ a cap, v = .slice a n cap := by
  rcases h.2 with ⟨rfl, h0⟩ | ⟨g, cap, cur, rfl, _⟩
  · exact ⟨none, 0, by rw [h0]⟩
  · exact ⟨_, _, rfl⟩
theorem own_stays {w w' : World} {B : Nat} {e : TypeId} {size : Nat} {v : Value} {n : Nat} {xs : List Value} (h : w.ownsRow B e size v n xs) (hk : ∀ k, v.ownBlock = some k → w'.heap[k]? = w.heap[k]?) : w'.ownsRow B e size v n xs := by
  refine ⟨h.1, ?_⟩
  rcases h.2 with h2 | ⟨g, cap, cur, rfl, hb, hg, r⟩
  · exact .inl h2
  · exact .inr ⟨g, cap, cur, rfl, hb, by rw [hk g rfl]; exact hg, r⟩
/-- A machine as it begins: all but its code is nothing. -/
def newM (v : Value) : Array Value := #[v, .int .i64 0, .int .i64 0, .slice none 0 0, .slice none 0 0, .slice none 0 0, .slice none 0 0]
theorem cells7 {w : World} {R : Nat} {e : TypeId} {v : Value} (h : w.heap[R]? = some (.cells (newM v) e (0, 0))) :
    w.cell? ⟨R, 0, none⟩ = some v ∧ w.cell? ⟨R, 1, none⟩ = some (.int .i64 0) ∧ w.cell? ⟨R, 2, none⟩ = some (.int .i64 0) ∧ w.cell? ⟨R, 3, none⟩ = some (.slice none 0 0) ∧ w.cell? ⟨R, 4, none⟩ = some (.slice none 0 0) ∧ w.cell? ⟨R, 5, none⟩ = some (.slice none 0 0) ∧ w.cell? ⟨R, 6, none⟩ = some (.slice none 0 0) ∧
      (∀ j, w.frozen? ⟨R, j, none⟩ = false) :=
  ⟨(cell_of_heap h).trans rfl, (cell_of_heap h).trans rfl, (cell_of_heap h).trans rfl, (cell_of_heap h).trans rfl, (cell_of_heap h).trans rfl, (cell_of_heap h).trans rfl, (cell_of_heap h).trans rfl, fun _ => free_of_heap h⟩
/-- A herald as it begins: its machine, and no record. -/
def newHd (v : Value) : Array Value := #[v, .int .i64 0, .int .i64 0, .slice none 0 0, .slice none 0 0, .slice none 0 0, .slice none 0 0, .slice none 0 0]
theorem below7 {B : Nat} {a w : World} (h : Below B a w) {R : Nat} (hR : B ≤ R) (u0 u1 u2 u3 u4 u5 u6 : Value) :
    Below B a (((((((w.setCell ⟨R, 0, none⟩ u0).setCell ⟨R, 1, none⟩ u1).setCell ⟨R, 2, none⟩ u2).setCell ⟨R, 3, none⟩ u3).setCell ⟨R, 4, none⟩ u4).setCell ⟨R, 5, none⟩ u5).setCell ⟨R, 6, none⟩ u6) :=
  ((((((h.setCell (p := ⟨R, 0, none⟩) hR _).setCell (p := ⟨R, 1, none⟩) hR _).setCell (p := ⟨R, 2, none⟩) hR _).setCell (p := ⟨R, 3, none⟩) hR _).setCell (p := ⟨R, 4, none⟩) hR _).setCell (p := ⟨R, 5, none⟩) hR _).setCell (p := ⟨R, 6, none⟩) hR _
set_option maxHeartbeats 1000000 in
theorem c_mNew_yes (b off cap : Nat) (cs : List Ins) (w : World) (hc : CodeIn w (some ⟨b, off, none⟩) b off cs) (hs : soundL cs = true) :
    Calls Tryz.prog 22 #[.slice (some ⟨b, off, none⟩) cs.length cap] w fun e w' => ∃ v, e = .returned (.tuple #[.agg #[v, .int .i64 0, .int .i64 0, .slice none 0 0, .slice none 0 0, .slice none 0 0, .slice none 0 0], .int .i64 0]) ∧ w'.ownsRow w.heap.size 117 4 v cs.length (codeCells cs) ∧ Below w.heap.size w w' := by
  have hlen : cs.length ≤ 1000 := by
    rcases Nat.lt_or_ge 1000 cs.length with h | h
    · rw [soundL_long h] at hs; cases hs
    · exact h
  have HC : Hid (∀ W : World, CodeIn W (some ⟨b, off, none⟩) b off cs → Calls Tryz.prog 42 #[.slice (some ⟨b, off, none⟩) cs.length cap] W fun e w' => e = .returned (.bool true) ∧ Below W.heap.size W w') := fun W h => by
    have := c_sound _ b off cap cs W h
    rw [hs] at this
    exact this
  have HCW : Hid (CodeIn w (some ⟨b, off, none⟩) b off cs) := hc
  have HCI : Hid (∀ o, CodeIn (w.alloc o) (some ⟨b, off, none⟩) b off cs) := fun o => hc.keep ((Below.refl _ _).alloc (Nat.le_refl _) _)
  clear hc hs
  obtain ⟨i0, hi, hz0, hz1, hz2⟩ := info_parts Tryz.infoInstr
  go_enter Tryz.func22, Tryz.ntmps22
  go_wp2_with fail
  refine (HC.out _ (HCI.out _)).mono ?_
  rintro e w1 ⟨rfl, hb1⟩
  have g1 : w1.heap[w.heap.size]? = some (.cells (newM (.slice none 0 0)) 72 (0, 0)) := (hb1.block _ (by simp)).trans (heap_alloc_new _ _)
  have HG1 : Hid (_ = _) := g1
  have HB1 : Hid (Below w.heap.size w w1) := ((Below.refl _ _).alloc (Nat.le_refl _) _).trans (hb1.mono (by simp))
  clear hb1 g1 HC HCI
  have HCELL : Hid (∀ W : World, (∀ k, k < w.heap.size → W.heap[k]? = w.heap[k]?) → ∀ j v, (codeCells cs)[j]? = some v → W.cell? ((⟨b, off, none⟩ : Addr).add j) = some v) := fun W hW j v hj => by
    have hjl : j < cs.length * 4 := by have := (List.getElem?_eq_some_iff.mp hj).1; rwa [codeCells_length] at this
    obtain ⟨_, hlt, hca⟩ := HCW.out (by omega)
    have e : j = j / 4 * 4 + j % 4 := by omega
    have hi4 : j / 4 < cs.length := by omega
    have h2 := (hca.keep (hW b hlt)) (j / 4) hi4 (j % 4) v (by rw [← codeCells_get cs (j / 4) hi4 (j % 4) (by omega), ← e]; exact hj)
    rw [Addr.add_lit]
    rw [show off + j = off + j / 4 * 4 + j % 4 from by omega]
    exact h2
  have HOWN : Hid ((w1.alloc (.cells #[] 117)).ownsRow w.heap.size 117 4 (.slice (some ⟨w1.heap.size, 0, none⟩) 0 0) 0 []) :=
    ⟨rfl, .inr ⟨w1.heap.size, 0, #[], rfl, HB1.out.size, heap_alloc_new _ _, Nat.le_refl _, Nat.zero_le _, rfl, rfl⟩⟩
  have HBA : Hid (Below w.heap.size w (w1.alloc (.cells #[] 117))) := HB1.out.alloc HB1.out.size _
  have HGA : Hid ((w1.alloc (.cells #[] 117)).heap[w.heap.size]? = some (.cells (newM (.slice none 0 0)) 72 (0, 0))) := by
    show _ = _
    rw [Below.heap_alloc _ _ _ (heap_lt HG1.out)]; exact HG1.out
  go_wp2_with (at_builtin; refine wpList_append_own _ rfl _ _ 35 rfl w.heap.size 117 i0 _ 4 32 Tryz.underlying35 hi hz0 hz1 hz2 rfl (by omega) _ 0 [] rfl HOWN.out ⟨b, off, none⟩ cs.length cap (codeCells cs) rfl (codeCells_length cs) (HCELL.out _ HBA.out.block) (codeCells_one cs) (by unfold maxLen; omega) (by omega) HBA.out.size ?_)
  intro v' w2 hown2 hgrow2 _
  have HG2 : w2.heap[w.heap.size]? = some (.cells (newM (.slice none 0 0)) 72 (0, 0)) := by
    rw [hgrow2.block _ (heap_lt HGA.out) (by simp [Value.ownBlock]; have := heap_lt HG1.out; omega)]
    exact HGA.out
  have HB2 : Hid (Below w.heap.size w w2) := HBA.out.grown hgrow2 HBA.out.size (fun k hk => by simp [Value.ownBlock] at hk; subst hk; exact HB1.out.size)
  have HO2 : Hid (w2.ownsRow w.heap.size 117 4 v' cs.length (codeCells cs)) := hown2
  obtain ⟨d0, d1, d2, d3, d4, d5, d6, hz⟩ := cells7 HG2
  have z0 := hz 0
  have z1 := hz 1
  have z2 := hz 2
  have z3 := hz 3
  have z4 := hz 4
  have z5 := hz 5
  have z6 := hz 6
  have HNE : Hid (∀ k, v'.ownBlock = some k → k ≠ w.heap.size) := fun k hk => by
    obtain ⟨_, cur, hc⟩ := ownsRow_lies HO2.out hk
    exact ne_of_type hc HG2 (by decide)
  have HBK : Hid (_ = _) := HG2
  obtain ⟨a2, cap2, hv2⟩ := ownsRow_slice HO2.out
  subst hv2
  clear hown2 hgrow2 hz HG2
  go_wp2_with fail
  refine bodyPost_ret (v := .tuple #[.agg #[.slice a2 cs.length cap2, .int .i64 0, .int .i64 0, .slice none 0 0, .slice none 0 0, .slice none 0 0, .slice none 0 0], .int .i64 0]) (by simp [results, Tryz.results22, go_sem, d0, d1, d2, d3, d4, d5, d6]) rfl ⟨_, rfl, ?_, ?_⟩
  · refine own_stays HO2.out (fun k hk => ?_)
    have hne := HNE.out k hk
    rw [Below.heap_setCell _ _ _ _ hne, Below.heap_setCell _ _ _ _ hne, Below.heap_setCell _ _ _ _ hne, Below.heap_setCell _ _ _ _ hne, Below.heap_setCell _ _ _ _ hne, Below.heap_setCell _ _ _ _ hne, Below.heap_setCell _ _ _ _ hne]
  · exact below7 HB2.out (Nat.le_refl _) _ _ _ _ _ _ _
set_option maxHeartbeats 1000000 in
theorem c_New_yes (b off cap : Nat) (cs : List Ins) (w : World) (hc : CodeIn w (some ⟨b, off, none⟩) b off cs) (hs : soundL cs = true) :
    Calls Tryz.prog 10 #[.slice (some ⟨b, off, none⟩) cs.length cap] w fun e w' => ∃ H v, e = .returned (.tuple #[.pointer (some ⟨H, 0, none⟩), .int .i64 0]) ∧ w.heap.size ≤ H ∧ w'.heap[H]? = some (.cells (newHd v) 75 (0, 0)) ∧ w'.ownsRow w.heap.size 117 4 v cs.length (codeCells cs) ∧ Below w.heap.size w w' := by
  have HC : Hid (Calls Tryz.prog 22 #[.slice (some ⟨b, off, none⟩) cs.length cap] w fun e w' => ∃ v, e = .returned (.tuple #[.agg #[v, .int .i64 0, .int .i64 0, .slice none 0 0, .slice none 0 0, .slice none 0 0, .slice none 0 0], .int .i64 0]) ∧ w'.ownsRow w.heap.size 117 4 v cs.length (codeCells cs) ∧ Below w.heap.size w w') := c_mNew_yes b off cap cs w hc hs
  clear hc hs
  go_enter Tryz.func10, Tryz.ntmps10
  go_wp2_with fail
  refine HC.out.mono ?_
  rintro e w1 ⟨v, rfl, ho1, hb1⟩
  obtain ⟨a2, cap2, hv2⟩ := ownsRow_slice ho1
  subst hv2
  have HO : Hid (_ ∧ _) := And.intro ho1 hb1
  clear ho1 hb1
  go_wp2_with fail
  go_ret2
  refine ⟨w1.heap.size + 1, _, rfl, by have := HO.out.2.size; omega, heap_alloc2 _ _ _, (HO.out.1.alloc _).alloc _, (HO.out.2.alloc HO.out.2.size _).alloc (by have := HO.out.2.size; simp; omega) _⟩
end Go.Proofs.YtmmmnghiegajmabGreat
