/- The program's writer of code: put and leadOn. -/
import Derived.Test.YtiaibigmbflpiaaCmpA
import Derived.Test.YtiaibigmbflpiaaNewE
import Derived.Deep.DeepCutAuto
namespace Go.Proofs.Ytiaibigmbflpiaa
open Go.RowKit Go.Proofs.Herald

/-- The writer R has written the code cs. -/
structure WrAt (B : Nat) (w : World) (R : Nat) (sv : Value) (cs : List Ins) : Prop where
  le : B ≤ R
  blk : w.heap[R]? = some (.cells #[sv] 174 (0, 0))
  own : w.ownsRow 0 126 4 sv cs.length (codeCells cs)
  new : ∀ b, sv.ownBlock = some b → B ≤ b

theorem WrAt.keep {B : Nat} {w w' : World} {R : Nat} {sv : Value} {cs : List Ins} (h : WrAt B w R sv cs) (hk : ∀ k, k < w.heap.size → w'.heap[k]? = w.heap[k]?) : WrAt B w' R sv cs :=
  ⟨h.le, by rw [hk _ (heap_lt h.blk)]; exact h.blk, own_keep h.own fun b hb => by obtain ⟨cur, hc⟩ := own_block h.own hb; exact hk _ (heap_lt hc), h.new⟩

theorem WrAt.alloc {B : Nat} {w : World} {R : Nat} {sv : Value} {cs : List Ins} (h : WrAt B w R sv cs) (o : Obj) : WrAt B (w.alloc o) R sv cs := h.keep fun _ hk => Below.heap_alloc _ _ _ hk

theorem WrAt.push {B : Nat} {w W w1 : World} {R g cap : Nat} {sv : Value} {cs : List Ins} (x : Ins) (h : WrAt B w R sv cs) (h0 : OneMore w W)
    (hown1 : w1.ownsRow 0 126 4 (.slice (some ⟨g, 0, none⟩) (cs.length + 1) cap) (cs.length + 1) (codeCells cs ++ insCells x)) (hgrow : W.grownBy w1 sv.ownBlock) (hat : sv.ownBlock = some g ∨ g = W.heap.size) :
    WrAt B (w1.setCell ⟨R, 0, none⟩ (.slice (some ⟨g, 0, none⟩) (cs.length + 1) cap)) R (.slice (some ⟨g, 0, none⟩) (cs.length + 1) cap) (cs ++ [x]) ∧
      Below B w (w1.setCell ⟨R, 0, none⟩ (.slice (some ⟨g, 0, none⟩) (cs.length + 1) cap)) := by
  have hs := h0.size
  have hRl := heap_lt h.blk
  have hvR : sv.ownBlock ≠ some R := fun e => by obtain ⟨cur, hc⟩ := own_block h.own e; exact ne_of_type hc h.blk (by decide) rfl
  have hR1 : w1.heap[R]? = w.heap[R]? := grown_same h0 hgrow hRl hvR
  have hBg : B ≤ g := by
    rcases hat with h1 | h1
    · exact h.new _ h1
    · have := h.le; omega
  have hgR : g ≠ R := by
    obtain ⟨cur, hc⟩ := own_block hown1 (k := g) rfl
    exact ne_of_type hc (hR1.trans h.blk) (by decide)
  refine ⟨⟨h.le, ?_, ?_, ?_⟩, ?_⟩
  · rw [heap_setCell_self _ (hR1.trans h.blk)]; rfl
  · have e1 : codeCells (cs ++ [x]) = codeCells cs ++ insCells x := by rw [codeCells_append]; simp [codeCells]
    rw [e1, List.length_append]
    exact own_keep hown1 (fun k hk => by simp [Value.ownBlock] at hk; subst hk; exact Below.heap_setCell _ _ _ _ hgR)
  · intro b hb
    simp [Value.ownBlock] at hb
    omega
  · have hb : Below B w w1 := ⟨hgrow.os.trans h0.os, hgrow.tape.trans h0.tape, hgrow.output.trans h0.output, by have := grown_size h0 hgrow; omega, fun k hk => grown_same h0 hgrow (by have := h.le; omega) (fun e => by have := h.new _ e; omega)⟩
    exact hb.setCell (p := ⟨R, 0, none⟩) h.le _

/-- Blocks of statements stay. -/
def StKeep (w w' : World) : Prop := ∀ (k : Nat) (c : Array Value) (z : Nat × Nat), w.heap[k]? = some (.cells c 202 z) → w'.heap[k]? = some (.cells c 202 z)

set_option maxHeartbeats 2000000 in
theorem c_put0 (B R : Nat) (sv : Value) (cs : List Ins) (x : Ins) (w : World) (h : WrAt B w R sv cs) (hl : cs.length ≤ 1000) :
    Calls Try.prog 140 #[.pointer (some ⟨R, 0, none⟩), .agg (insCells x).toArray] w fun e w' => e = .returned (.int .i64 (cs.length : Nat)) ∧ (∃ sv', WrAt B w' R sv' (cs ++ [x])) ∧ Below B w w' ∧ Hid (StKeep w w') := by
  obtain ⟨a, cap, rfl⟩ := ownsRow_slice h.own
  have hcell : insCells x = [.int .i64 x.op, .int .i64 x.a, .int .i64 x.b, .int .i64 x.c] := rfl
  rw [hcell]
  have HC : Hid (insCells x = [.int .i64 x.op, .int .i64 x.a, .int .i64 x.b, .int .i64 x.c]) := hcell
  obtain ⟨w1, hw1⟩ : ∃ w1, w1 = w.alloc (.cells #[.int .i64 x.op, .int .i64 x.a, .int .i64 x.b, .int .i64 x.c] 126) := ⟨_, rfl⟩
  have h1 : WrAt B w1 R (.slice a cs.length cap) cs := by rw [hw1]; exact h.alloc _
  have hx1 : w1.heap[w.heap.size]? = some (.cells #[.int .i64 x.op, .int .i64 x.a, .int .i64 x.b, .int .i64 x.c] 126 (0, 0)) := by rw [hw1]; exact heap_alloc_new _ _
  have HW : Hid (w1 = w.alloc (.cells #[.int .i64 x.op, .int .i64 x.a, .int .i64 x.b, .int .i64 x.c] 126)) := hw1
  have HB1 : Hid (Below B w w1) := by
    show Below B w w1
    rw [hw1]; exact (Below.refl _ _).alloc (by have := heap_lt h.blk; have := h.le; omega) _
  have H1 : Hid (WrAt B w1 R (.slice a cs.length cap) cs) := h1
  have m0 : w1.cell? ⟨w.heap.size, 0, none⟩ = some (.int .i64 x.op) := (cell_of_heap hx1).trans rfl
  have m1 : w1.cell? ⟨w.heap.size, 1, none⟩ = some (.int .i64 x.a) := (cell_of_heap hx1).trans rfl
  have m2 : w1.cell? ⟨w.heap.size, 2, none⟩ = some (.int .i64 x.b) := (cell_of_heap hx1).trans rfl
  have m3 : w1.cell? ⟨w.heap.size, 3, none⟩ = some (.int .i64 x.c) := (cell_of_heap hx1).trans rfl
  have r0 : w1.cell? ⟨R, 0, none⟩ = some (.slice a cs.length cap) := (cell_of_heap h1.blk).trans rfl
  have y0 : w1.frozen? ⟨R, 0, none⟩ = false := free_of_heap h1.blk
  have hRl : R < w1.heap.size := heap_lt h1.blk
  have hXl : w.heap.size < w1.heap.size := heap_lt hx1
  have HK : Hid (StKeep w w1) := fun k c z hk => by rw [hw1, Below.heap_alloc _ _ _ (heap_lt hk)]; exact hk
  have HV : Hid ((Value.slice a cs.length cap).ownBlock ≠ some R) := fun e => by obtain ⟨cur, hc⟩ := own_block H1.out.own e; exact ne_of_type hc H1.out.blk (by decide) rfl
  clear h h1 hx1 hw1 hcell
  go_enter Try.func140, Try.ntmps140
  go_upto_region 1 with fail
  rw [← HW.out]
  clear HW
  go_upto_region 2 with fail
  go_region_law (refine step_push _ rfl (.tmp 15) (.tmp 17) 26 rfl 126 _ 4 32 Try.underlying26 Try.infoInstr rfl (by decide) (by decide) (.slice a cs.length cap) _ _ w1.heap.size [.int .i64 x.op, .int .i64 x.a, .int .i64 x.b, .int .i64 x.c] (by rfl) (by exact H1.out.own.alloc _) (by exact heap_alloc_new _ _) (by rfl) rfl (by simp [Value.oneCell']) (by omega) ?_; intro g1 cap1 w2 hown1 hgrow hat hlt; have hc1 : w2.cell? ⟨R, 0, none⟩ = some (.slice a cs.length cap) := (cell_of_heap (grown_block (OneMore.alloc _ _).drew hgrow H1.out.blk HV.out)).trans rfl; have hf1 : w2.frozen? ⟨R, 0, none⟩ = false := free_of_heap (grown_block (OneMore.alloc _ _).drew hgrow H1.out.blk HV.out))
  all_goals
    go_wp2_with fail
    go_ret
    rw [← HC.out] at hown1
    obtain ⟨k1, k2⟩ := H1.out.push x (OneMore.alloc _ _).drew hown1 hgrow hat
    refine ⟨rfl, ⟨_, k1⟩, HB1.out.trans k2, ?_⟩
    intro k c z hk
    have hk1 := HK.out k c z hk
    rw [Below.heap_setCell _ _ _ _ (ne_of_type hk1 H1.out.blk (by decide))]
    exact grown_block (OneMore.alloc _ _).drew hgrow hk1 (fun e => by obtain ⟨cur, hc⟩ := own_block H1.out.own e; exact ne_of_type hc hk1 (by decide) rfl)

theorem c_put (B R n : Nat) (sv : Value) (cs : List Ins) (x : Ins) (w : World) (h : WrAt B w R sv cs) (hn : n = cs.length) (hl : n ≤ 1000) :
    Calls Try.prog 140 #[.pointer (some ⟨R, 0, none⟩), .agg (insCells x).toArray] w fun e w' => e = .returned (.int .i64 (n : Nat)) ∧ (∃ sv', WrAt B w' R sv' (cs ++ [x])) ∧ Below B w w' ∧ Hid (StKeep w w') := by
  rw [hn]; exact c_put0 B R sv cs x w h (by omega)

theorem codeCells_lead (pre : List Ins) (x : Ins) (post : List Ins) (n : Int) : (codeCells (pre ++ x :: post)).set (pre.length * 4 + 3) (.int .i64 n) = codeCells (pre ++ { x with c := n } :: post) := by
  have e : ∀ y : Ins, codeCells (pre ++ y :: post) = codeCells pre ++ (insCells y ++ codeCells post) := fun y => by rw [codeCells_append]; simp [codeCells]
  rw [e, e, List.set_append_right _ _ (by rw [codeCells_length]; omega), codeCells_length, show pre.length * 4 + 3 - pre.length * 4 = 3 from by omega]
  rfl

theorem own_lead {w : World} {B : Nat} {e : TypeId} {size n g cap : Nat} {xs : List Value} (h : w.ownsRow B e size (.slice (some ⟨g, 0, none⟩) n cap) n xs) (p : Nat) (v : Value) :
    (w.setCell ⟨g, p, none⟩ v).ownsRow B e size (.slice (some ⟨g, 0, none⟩) n cap) n (xs.set p v) := by
  refine ⟨by rw [List.length_set]; exact h.1, .inr ?_⟩
  rcases h.2 with ⟨h1, _⟩ | ⟨g', cap', cur, hv, hb, hg, hn, hm, hs, ht⟩
  · cases h1
  · simp at hv
    obtain ⟨rfl, rfl⟩ := hv
    refine ⟨g, cap, cur.setIfInBounds p v, rfl, hb, heap_setCell_self v hg, hn, hm, by simpa using hs, ?_⟩
    rw [Array.toList_setIfInBounds, List.take_set, ht]

set_option maxHeartbeats 2000000 in
theorem c_leadOn0 (B R : Nat) (sv : Value) (pre : List Ins) (x : Ins) (post : List Ins) (w : World) (h : WrAt B w R sv (pre ++ x :: post)) (hl : (pre ++ x :: post).length ≤ 2000) :
    Calls Try.prog 161 #[.pointer (some ⟨R, 0, none⟩), .int .i64 (pre.length : Nat)] w fun e w' => e = .returned (.tuple #[]) ∧ (∃ sv', WrAt B w' R sv' (pre ++ { x with c := (((pre ++ x :: post).length : Nat) : Int) } :: post)) ∧ Below B w w' := by
  obtain ⟨n, hn⟩ : ∃ n, n = (pre ++ x :: post).length := ⟨_, rfl⟩
  obtain ⟨p, hp⟩ : ∃ p, p = pre.length := ⟨_, rfl⟩
  have hpn : p < n := by rw [hn, hp]; simp
  have hown := h.own
  rw [← hn] at hown hl ⊢
  rw [← hp]
  obtain ⟨g, cap, hv, _, hgl⟩ := hown.form (by omega)
  subst hv
  have hg0 : (codeCells (pre ++ x :: post))[p * 4 + 3]? = some (.int .i64 x.c) := by
    rw [codeCells_get _ p (by rw [← hn]; exact hpn) 3 (by omega)]
    simp [hp, insCells]
  have c0 : w.cell? ⟨g, p * 4 + 3, none⟩ = some (.int .i64 x.c) := by
    have h1 := hown.cells (g := g) rfl (p * 4 + 3) _ hg0
    rwa [Addr.add_lit, Nat.zero_add] at h1
  obtain ⟨cur, hc⟩ := own_block hown (k := g) rfl
  have f0 : w.frozen? ⟨g, p * 4 + 3, none⟩ = false := free_of_heap hc
  have hcap := own_cap hown
  obtain ⟨q1, _, q3⟩ := hcap
  unfold maxLen at q3
  have r0 : w.cell? ⟨R, 0, none⟩ = some (.slice (some ⟨g, 0, none⟩) n cap) := (cell_of_heap h.blk).trans rfl
  have hRl : R < w.heap.size := heap_lt h.blk
  have HS : Hid (WrAt B (w.setCell ⟨g, p * 4 + 3, none⟩ (.int .i64 n)) R (.slice (some ⟨g, 0, none⟩) n cap) (pre ++ { x with c := (n : Int) } :: post) ∧ Below B w (w.setCell ⟨g, p * 4 + 3, none⟩ (.int .i64 n))) := by
    refine ⟨⟨h.le, ?_, ?_, h.new⟩, (Below.refl _ _).setCell (p := ⟨g, p * 4 + 3, none⟩) (h.new g rfl) _⟩
    · rw [Below.heap_setCell _ _ _ _ (ne_of_type h.blk hc (by decide))]; exact h.blk
    · have h1 := own_lead hown (p * 4 + 3) (.int .i64 n)
      rw [hp, codeCells_lead] at h1
      have h2 : (pre ++ { x with c := (n : Int) } :: post).length = n := by rw [hn]; simp
      rw [h2, hp]
      exact h1
  clear hown h hn hp hg0 hc
  go_enter Try.func161, Try.ntmps161
  go_region
  all_goals
    go_wp2_with fail
    go_end0
    exact ⟨rfl, ⟨_, HS.out.1.keep fun _ _ => rfl⟩, HS.out.2.drew⟩

theorem c_leadOn (B R p n : Nat) (sv : Value) (pre : List Ins) (x : Ins) (post : List Ins) (w : World) (h : WrAt B w R sv (pre ++ x :: post)) (hp : p = pre.length) (hn : n = (pre ++ x :: post).length) (hl : n ≤ 2000) :
    Calls Try.prog 161 #[.pointer (some ⟨R, 0, none⟩), .int .i64 (p : Nat)] w fun e w' => e = .returned (.tuple #[]) ∧ (∃ sv', WrAt B w' R sv' (pre ++ { x with c := ((n : Nat) : Int) } :: post)) ∧ Below B w w' := by
  rw [hp, hn]; exact c_leadOn0 B R sv pre x post w h (by omega)

end Go.Proofs.Ytiaibigmbflpiaa
