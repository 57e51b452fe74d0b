import Derived.Test.YtmmmnghiegajmabGreatM35
import Derived.Test.YtmmmnghiegajmabGreatM04
import Derived.Deep.DeepCutAuto
import Derived.Deep.CutBlock
/- The program's reader in memory, and its methods advance and note. -/
namespace Go.Proofs.YtmmmnghiegajmabGreat
open Go.RowKit Go.Proofs.Herald
structure RdAt (t : ByteArray) (B : Nat) (w : World) (R : Nat) (sv : Value) (st : RSt) : Prop where
  le : B ≤ R
  blk : w.heap[R]? = some (.cells #[.string t, .string (wordR t st.us), .int .i64 (atR t st.us : Nat), sv, .int .i64 st.deep, .int .i64 st.heavy, .int .i64 st.fault, .int .i64 st.place] 104 (0, 0))
  own : w.ownsRow B 127 6 sv st.fl.length (ndsCells st.fl)
  suf : SufR t st.us
theorem ownsRow_keep {w w' : World} {B : Nat} {e : TypeId} {size : Nat} {v : Value} {n : Nat} {xs : List Value} (h : w.ownsRow B e size v n xs) (hk : ∀ k, v.ownBlock = some k → w'.heap[k]? = w.heap[k]?) : w'.ownsRow B e size v n xs := by
  refine ⟨h.1, ?_⟩
  rcases h.2 with h2 | ⟨g, cap, cur, rfl, hb, hg, r⟩
  · exact .inl h2
  · exact .inr ⟨g, cap, cur, rfl, hb, by rw [hk g rfl]; exact hg, r⟩
theorem ownsRow_block {w : World} {B : Nat} {e : TypeId} {size : Nat} {v : Value} {n : Nat} {xs : List Value} (h : w.ownsRow B e size v n xs) {k : Nat} (hk : v.ownBlock = some k) : B ≤ k ∧ ∃ cur, w.heap[k]? = some (.cells cur e (0, 0)) := by
  rcases h.2 with ⟨rfl, _⟩ | ⟨g, cap, cur, rfl, hb, hg, r⟩
  · simp [Value.ownBlock] at hk
  · simp [Value.ownBlock] at hk; subst hk; exact ⟨hb, cur, hg⟩
theorem RdAt.keep {t : ByteArray} {B : Nat} {w w' : World} {R : Nat} {sv : Value} {st : RSt} (h : RdAt t B w R sv st) (hk : ∀ k, k < w.heap.size → w'.heap[k]? = w.heap[k]?) : RdAt t B w' R sv st :=
  ⟨h.le, by rw [hk R (heap_lt h.blk)]; exact h.blk, ownsRow_keep h.own (fun k hk' => by obtain ⟨_, c, hc⟩ := ownsRow_block h.own hk'; exact hk k (heap_lt hc)), h.suf⟩
/-- One of the record's cells is written, the statements' row stays. -/
theorem RdAt.set {t : ByteArray} {B : Nat} {w : World} {R : Nat} {sv : Value} {st st' : RSt} (h : RdAt t B w R sv st) (j : Nat) (u : Value) (hfl : st'.fl = st.fl) (hsuf : SufR t st'.us)
    (hc : (#[.string t, .string (wordR t st.us), .int .i64 (atR t st.us : Nat), sv, .int .i64 st.deep, .int .i64 st.heavy, .int .i64 st.fault, .int .i64 st.place] : Array Value).setIfInBounds j u =
      #[.string t, .string (wordR t st'.us), .int .i64 (atR t st'.us : Nat), sv, .int .i64 st'.deep, .int .i64 st'.heavy, .int .i64 st'.fault, .int .i64 st'.place]) : RdAt t B (w.setCell ⟨R, j, none⟩ u) R sv st' := by
  refine ⟨h.le, by rw [heap_setCell_self _ h.blk, hc], ?_, hsuf⟩
  rw [hfl]
  exact ownsRow_keep h.own (fun k hk' => by obtain ⟨_, c, hc⟩ := ownsRow_block h.own hk'; exact Below.heap_setCell _ _ _ _ (ne_of_type hc h.blk (by decide)))
set_option maxHeartbeats 1000000 in
theorem c_note (t : ByteArray) (B R : Nat) (sv : Value) (st : RSt) (f p : Int) (w : World) (h : RdAt t B w R sv st) :
    Calls Tryz.prog 93 #[.pointer (some ⟨R, 0, none⟩), .int .i64 f, .int .i64 p] w fun e w' => e = .returned (.tuple #[]) ∧ RdAt t B w' R sv (noteR st f p) ∧ Below B w w' := by
  have c6 : w.cell? ⟨R, 6, none⟩ = some (.int .i64 st.fault) := (cell_of_heap h.blk).trans rfl
  have c7 : w.cell? ⟨R, 7, none⟩ = some (.int .i64 st.place) := (cell_of_heap h.blk).trans rfl
  have z6 : w.frozen? ⟨R, 6, none⟩ = false := free_of_heap h.blk
  have z7 : w.frozen? ⟨R, 7, none⟩ = false := free_of_heap h.blk
  have HH : Hid (RdAt t B w R sv st) := h
  obtain ⟨F, hF⟩ : ∃ F, F = st.fault := ⟨_, rfl⟩
  rw [← hF] at c6
  have HF : Hid (F = st.fault) := hF
  clear h hF
  by_cases h1 : F = 0 ∨ f < F
  · have HN : Hid (noteR st f p = { st with fault := f, place := p }) := by show _ = _; unfold noteR; rw [if_pos (by rw [← HF.out]; exact h1)]
    have hcase : (F == 0) = true ∨ ((F == 0) = false ∧ f < F) := by
      by_cases h0 : F = 0
      · exact .inl (by simp [h0])
      · exact .inr ⟨by simp [h0], by omega⟩
    clear h1
    rcases hcase with h0 | ⟨h0, h1⟩
    all_goals
      go_enter Tryz.func93, Tryz.ntmps93
      go_wp2_with fail
      go_end0
      refine ⟨rfl, ?_, ((Below.refl _ _).setCell (p := ⟨R, 6, none⟩) HH.out.le _).setCell (p := ⟨R, 7, none⟩) HH.out.le _⟩
      rw [HN.out]
      exact (HH.out.set (st' := { st with fault := f }) 6 _ rfl HH.out.suf rfl).set 7 _ rfl HH.out.suf rfl
  · have HN : Hid (noteR st f p = st) := by show _ = _; unfold noteR; rw [if_neg (by rw [← HF.out]; exact h1)]
    have h0 : (F == 0) = false := by simp; omega
    have h2 : ¬ f < F := by omega
    clear h1
    go_enter Tryz.func93, Tryz.ntmps93
    go_wp2_with fail
    go_end0
    refine ⟨rfl, ?_, Below.refl _ _⟩
    rw [HN.out]; exact HH.out
theorem RdAt.heap {t : ByteArray} {B : Nat} {w w' : World} {R : Nat} {sv : Value} {st : RSt} (h : RdAt t B w R sv st) (e : w'.heap = w.heap) : RdAt t B w' R sv st :=
  h.keep (fun k _ => by rw [e])
theorem setCell_heap {w w' : World} (e : w'.heap = w.heap) (a : Addr) (v : Value) : (w'.setCell a v).heap = (w.setCell a v).heap := by
  unfold World.setCell; simp only [e]
theorem Below.of_heap {B : Nat} {w w1 w2 : World} (h : Below B w w1) (e : w2.heap = w1.heap) (e1 : w2.os = w.os) (e2 : w2.tape = w.tape) (e3 : w2.output = w.output) : Below B w w2 :=
  ⟨e1, e2, e3, by rw [e]; exact h.size, fun k hk => by rw [e]; exact h.block k hk⟩
set_option maxHeartbeats 2000000 in
theorem c_advance (t : ByteArray) (ht : t.size ≤ 400) (B R : Nat) (sv : Value) (st : RSt) (w : World) (h : RdAt t B w R sv st) :
    Calls Tryz.prog 43 #[.pointer (some ⟨R, 0, none⟩)] w fun e w' => e = .returned (.tuple #[]) ∧ RdAt t B w' R sv (advR st) ∧ Below B w w' := by
  obtain ⟨n1, n2, n3, n4, n5, n6⟩ := h.suf.next
  have c0 : w.cell? ⟨R, 0, none⟩ = some (.string t) := (cell_of_heap h.blk).trans rfl
  have c1 : w.cell? ⟨R, 1, none⟩ = some (.string (wordR t st.us)) := (cell_of_heap h.blk).trans rfl
  have c2 : w.cell? ⟨R, 2, none⟩ = some (.int .i64 (atR t st.us : Nat)) := (cell_of_heap h.blk).trans rfl
  have z1 : w.frozen? ⟨R, 1, none⟩ = false := free_of_heap h.blk
  have z2 : w.frozen? ⟨R, 2, none⟩ = false := free_of_heap h.blk
  have HH : Hid (RdAt t B w R sv st) := h
  obtain ⟨s, hs⟩ : ∃ s, s = wordR t st.us := ⟨_, rfl⟩
  obtain ⟨i, hi⟩ : ∃ i, i = atR t st.us := ⟨_, rfl⟩
  obtain ⟨s', hs'⟩ : ∃ s, s = wordR t st.us.tail := ⟨_, rfl⟩
  obtain ⟨i', hi'⟩ : ∃ i, i = atR t st.us.tail := ⟨_, rfl⟩
  rw [← hs] at c1 n1 n3
  rw [← hi] at c2 n1 n3
  rw [← hi'] at n1 n2 n4 n5 n6
  rw [← hs'] at n2 n5 n6
  have HE : Hid (_ ∧ _ ∧ _ ∧ _) := And.intro hs (And.intro hi (And.intro hs' hi'))
  have HN1 : Hid (_ = _) := n1
  have HN2 : Hid (_ = _) := n2
  have HN6 : Hid (_ = _) := n6
  clear hs hi hs' hi' h n1 n2 n6
  have HW : Hid (IntKind.i64.wrap ((i : Int) + (s.size : Int)) = ((i + s.size : Nat) : Int)) := by
    show _ = _
    rw [IntKind.wrap_i64]; omega
  have HRL : Hid ((w.setCell ⟨R, 2, none⟩ (.int .i64 (i' : Nat))).cell? ⟨R, 0, none⟩ = some (.string t) ∧ (w.setCell ⟨R, 2, none⟩ (.int .i64 (i' : Nat))).cell? ⟨R, 1, none⟩ = some (.string s) ∧ (w.setCell ⟨R, 2, none⟩ (.int .i64 (i' : Nat))).cell? ⟨R, 2, none⟩ = some (.int .i64 (i' : Nat)) ∧
      (w.setCell ⟨R, 2, none⟩ (.int .i64 (i' : Nat))).frozen? ⟨R, 1, none⟩ = false) := by
    have g := heap_setCell_self (j := 2) (.int .i64 (i' : Nat)) HH.out.blk
    refine ⟨(cell_of_heap g).trans rfl, ?_, (cell_of_heap g).trans rfl, free_of_heap g⟩
    rw [HE.out.1]; exact (cell_of_heap g).trans rfl
  have HWE : Hid (∀ W : World, Calls Tryz.prog 61 #[.string t, .int .i64 (i' : Nat)] W fun e w' => e = .returned (.int .i64 ((i' + s'.size : Nat) : Int)) ∧ w' = W) := fun W => by
    have h0 := c_wordEnd t _ i' rfl W ht n4
    rw [HN2.out] at h0
    exact h0
  go_enter Tryz.func43, Tryz.ntmps43
  go_upto_region 0 with fail
  go_cut [0] (fun r wx => r = .pointer (some ⟨R, 0, none⟩) ∧ wx.cell? ⟨R, 0, none⟩ = some (.string t) ∧ wx.cell? ⟨R, 1, none⟩ = some (.string s) ∧ wx.cell? ⟨R, 2, none⟩ = some (.int .i64 (i' : Nat)) ∧ wx.frozen? ⟨R, 1, none⟩ = false ∧
      Hid (wx.heap = (w.setCell ⟨R, 2, none⟩ (.int .i64 (i' : Nat))).heap ∧ wx.os = w.os ∧ wx.tape = w.tape ∧ wx.output = w.output))
  case first =>
    go_region_with (go_at_call 60; refine (c_wordStart t _ (i + s.size) HW.out _ ht n3).mono ?_; rw [HN1.out]; rintro e w' ⟨rfl, rfl⟩)
    all_goals
      go_wp2_with fail
      go_meet
      case rel => exact ⟨rfl, HRL.out.1, HRL.out.2.1, HRL.out.2.2.1, HRL.out.2.2.2, rfl, rfl, rfl, rfl⟩
  case rest =>
    obtain ⟨rfl, d0, d1, d2, y1, HX⟩ := hcut
    clear HRL
    clear c0 c1 c2 z1 z2
    go_wp2_with fail
    go_quiet ((go_at_call 61; exact Calls.quiet_of_same (HWE.out _)))
    go_wp2_with fail
    go_region
    go_wp2_with fail
    go_end0
    have eh : (wc.setCell ⟨R, 1, none⟩ (.string s')).heap = ((w.setCell ⟨R, 2, none⟩ (.int .i64 (i' : Nat))).setCell ⟨R, 1, none⟩ (.string s')).heap := setCell_heap HX.out.1 _ _
    have hrd : RdAt t B ((w.setCell ⟨R, 2, none⟩ (.int .i64 (i' : Nat))).setCell ⟨R, 1, none⟩ (.string s')) R sv (advR st) := by
      refine ⟨HH.out.le, ?_, ?_, HH.out.suf.tail⟩
      · rw [heap_setCell_self _ (heap_setCell_self _ HH.out.blk)]
        show some (Obj.cells #[.string t, .string s', .int .i64 (i' : Nat), sv, .int .i64 st.deep, .int .i64 st.heavy, .int .i64 st.fault, .int .i64 st.place] 104 (0, 0)) = some (Obj.cells #[.string t, .string (wordR t st.us.tail), .int .i64 (atR t st.us.tail : Nat), sv, .int .i64 st.deep, .int .i64 st.heavy, .int .i64 st.fault, .int .i64 st.place] 104 (0, 0))
        rw [← HE.out.2.2.1, ← HE.out.2.2.2]
      · exact ownsRow_keep HH.out.own (fun k hk' => by obtain ⟨_, c, hc⟩ := ownsRow_block HH.out.own hk'; rw [Below.heap_setCell _ _ _ _ (ne_of_type hc HH.out.blk (by decide)), Below.heap_setCell _ _ _ _ (ne_of_type hc HH.out.blk (by decide))])
    rw [HN6.out]
    refine ⟨rfl, hrd.heap eh, ?_⟩
    exact Below.of_heap (((Below.refl B w).setCell (p := ⟨R, 2, none⟩) HH.out.le _).setCell (p := ⟨R, 1, none⟩) HH.out.le _) eh HX.out.2.1 HX.out.2.2.1 HX.out.2.2.2
end Go.Proofs.YtmmmnghiegajmabGreat
