/- The program: Code, and Compile. -/
import Derived.Test.YtiaibigmbflpiaaCmpE
import Derived.Test.YtiaibigmbflpiaaCmpF
namespace Go.Proofs.Ytiaibigmbflpiaa
open Go.RowKit Go.Proofs.Herald

theorem own_at {w : World} {B : Nat} {e : TypeId} {size : Nat} {v : Value} {n : Nat} {xs : List Value} (h : w.ownsRow 0 e size v n xs) (hB : ∀ b, v.ownBlock = some b → B ≤ b) : w.ownsRow B e size v n xs := by
  refine ⟨h.1, ?_⟩
  rcases h.2 with h2 | ⟨g, cap, cur, rfl, _, r⟩
  · exact .inl h2
  · exact .inr ⟨g, cap, cur, rfl, hB g rfl, r⟩

set_option maxHeartbeats 1000000 in
theorem c_Code (t : ByteArray) (ht : t.size ≤ 400) (tr : Tree 5) (hT : TextOk t tr) (v : Value) (g : Nat) (M : Int) (w : World) (hS : SlT t 5 w g v tr) (hg : g < w.heap.size) :
    Calls Try.prog 60 #[.agg #[v, .int .i64 M]] w fun e w' => ∃ sv, e = .returned sv ∧ w'.ownsRow w.heap.size 126 4 sv (codeOf t tr).length (codeCells (codeOf t tr)) ∧ Below w.heap.size w w' := by
  have hlen := hT.len ht
  obtain ⟨a, n, cap, off, rfl, hn, hcap, hmax, hnd⟩ := hS
  have HB : Hid (∀ W : World, (∀ k : Nat, W.heap[k]? = ((w.alloc (.cells #[.slice a n cap, .int .i64 M] 100)).alloc (.cells #[.slice none 0 0] 174)).heap[k]?) →
      Calls Try.prog 90 #[.pointer (some ⟨w.heap.size + 1, 0, none⟩), .slice a n cap, .int .i64 ((0 : Nat) : Int)] W fun e w' => e = .returned (.tuple #[]) ∧ (∃ sv', WrAt w.heap.size w' (w.heap.size + 1) sv' (codeOf t tr)) ∧ Below w.heap.size W w') := by
    intro W hW
    have h0 := blkC t 5 tr (.slice a n cap) g 0 w.heap.size (w.heap.size + 1) (.slice none 0 0) [] W ⟨a, n, cap, off, rfl, hn, hcap, hmax, fun hp => ⟨(hnd hp).1, (hnd hp).2.keep ?_⟩⟩ hT.good (by omega) hT.size (by simp; exact Nat.le_trans hlen (by omega)) hg ⟨by omega, ?_, World.ownsRow_nil _ _ _ _, fun b hb => (by cases hb)⟩
    · simpa [codeOf] using h0
    · rw [hW g, Below.heap_alloc _ _ _ (by simp; omega), Below.heap_alloc _ _ _ hg]
    · rw [hW]; exact heap_alloc2 _ _ _
  have HB0 : Hid (∀ o1 o2, Below w.heap.size w ((w.alloc o1).alloc o2)) := fun o1 o2 => ((Below.refl _ _).alloc (Nat.le_refl _) _).alloc (by simp) _
  clear hT hn hcap hmax hnd hlen
  go_enter Try.func60, Try.ntmps60
  go_wp2_with fail
  refine (HB.out _ (fun _ => rfl)).mono ?_
  rintro e w1 ⟨rfl, ⟨s1, h1⟩, b1⟩
  have c0 : w1.cell? ⟨w.heap.size + 1, 0, none⟩ = some s1 := (cell_of_heap h1.blk).trans rfl
  have HH : Hid (WrAt w.heap.size w1 (w.heap.size + 1) s1 (codeOf t tr) ∧ Below w.heap.size w w1) := ⟨h1, (HB0.out _ _).trans b1⟩
  clear h1 b1 HB
  go_wp2_with fail
  go_ret
  exact ⟨s1, rfl, own_at HH.out.1.own HH.out.1.new, HH.out.2⟩

set_option maxHeartbeats 1000000 in
theorem c_Compile_ok (t : ByteArray) (ht : t.size ≤ 400) (tr : Tree 5) (hT : TextOk t tr) (w : World) :
    Calls Try.prog 24 #[.string t] w fun e w' => ∃ sv, e = .returned (.tuple #[sv, .int .i64 0, .int .i64 0]) ∧ w'.ownsRow w.heap.size 126 4 sv (codeOf t tr).length (codeCells (codeOf t tr)) ∧ Below w.heap.size w w' := by
  have HT : Hid (TextOk t tr) := hT
  obtain ⟨M, hM⟩ : ∃ M, M = maxI (lastsT t 5 tr).1 (lastsT t 5 tr).2 := ⟨_, rfl⟩
  have hR := c_Read_ok t ht tr hT w
  rw [← hM] at hR
  have HR : Hid (Calls Try.prog 41 #[.string t] w fun e w' => ∃ v g, e = .returned (.tuple #[.agg #[v, .int .i64 M], .int .i64 0, .int .i64 0]) ∧ SlT t 5 w' g v tr ∧ g < w'.heap.size ∧ Below w.heap.size w w') := hR
  clear hT hM hR
  obtain ⟨C, hC⟩ : ∃ C, C = codeOf t tr := ⟨_, rfl⟩
  rw [← hC]
  have HC : Hid (C = codeOf t tr) := hC
  clear hC
  go_enter Try.func24, Try.ntmps24
  go_wp2_with fail
  refine HR.out.mono ?_
  rintro e w1 ⟨v, g, rfl, hS, hg, hb1⟩
  obtain ⟨va, vn, vc, hv⟩ : ∃ a n c, v = .slice a n c := by obtain ⟨a, n, c, _, h, _⟩ := hS; exact ⟨a, n, c, h⟩
  subst hv
  have HS : Hid (SlT t 5 w1 g (.slice va vn vc) tr ∧ Below w.heap.size w w1) := ⟨hS, hb1⟩
  clear hS hb1
  have HK : Hid (∀ o, Calls Try.prog 60 #[.agg #[.slice va vn vc, .int .i64 M]] (w1.alloc o) fun e w' => ∃ a cap, e = .returned (.slice a C.length cap) ∧ w'.ownsRow w1.heap.size 126 4 (.slice a C.length cap) C.length (codeCells C) ∧ Below w1.heap.size w1 w') := fun o => by
    rw [HC.out]
    refine (c_Code t ht tr HT.out _ g M (w1.alloc o) (HS.out.1.keep (Below.heap_alloc _ _ _ hg)) (by simp; omega)).mono ?_
    rintro e w2 ⟨sv, he, ho, hb⟩
    obtain ⟨a2, cap2, hv2⟩ := ownsRow_slice ho
    subst hv2
    refine ⟨a2, cap2, he, own_at (ownsRow_zero ho) fun b hb' => ?_, ((Below.refl _ _).alloc (Nat.le_refl _) _).trans (hb.mono (by simp))⟩
    have h1 := (ownsRow_lies ho hb').1
    simp at h1
    omega
  go_wp2_with fail
  refine (HK.out _).mono ?_
  rintro e w2 ⟨a2, cap2, rfl, ho, hb2⟩
  have HO : Hid (w2.ownsRow w.heap.size 126 4 (.slice a2 C.length cap2) C.length (codeCells C) ∧ Below w.heap.size w w2) := by
    refine ⟨own_at (ownsRow_zero ho) fun b hb => ?_, HS.out.2.trans (hb2.mono HS.out.2.size)⟩
    have h1 := (ownsRow_lies ho hb).1
    have h2 := HS.out.2.size
    omega
  clear ho hb2
  go_wp2_with fail
  refine bodyPost_ret (v := .tuple #[.slice a2 C.length cap2, .int .i64 0, .int .i64 0]) (by simp [results, Try.results24, go_sem]) rfl ⟨_, rfl, HO.out.1, HO.out.2⟩

set_option maxHeartbeats 1000000 in
theorem c_Compile_no (t : ByteArray) (f p : Int) (hf : f ≠ 0) (w : World) (hR : ∀ w : World, Calls Try.prog 41 #[.string t] w fun e w' => (∃ a n cap m, e = .returned (.tuple #[.agg #[.slice a n cap, .int .i64 m], .int .i64 f, .int .i64 p])) ∧ Below w.heap.size w w') :
    Calls Try.prog 24 #[.string t] w fun e w' => e = .returned (.tuple #[.slice none 0 0, .int .i64 f, .int .i64 p]) ∧ Below w.heap.size w w' := by
  have HR : Hid (∀ w : World, Calls Try.prog 41 #[.string t] w fun e w' => (∃ a n cap m, e = .returned (.tuple #[.agg #[.slice a n cap, .int .i64 m], .int .i64 f, .int .i64 p])) ∧ Below w.heap.size w w') := hR
  have b1 : (f != 0) = true := by simpa using hf
  clear hR hf
  go_enter Try.func24, Try.ntmps24
  go_wp2_with fail
  refine (HR.out _).mono ?_
  rintro e w1 ⟨⟨a, n, cap, m, rfl⟩, hb1⟩
  have HB : Hid (Below w.heap.size w w1) := hb1
  clear hb1
  go_wp2_with fail
  refine bodyPost_ret (v := .tuple #[.slice none 0 0, .int .i64 f, .int .i64 p]) (by simp [results, Try.results24, go_sem]) rfl ⟨rfl, HB.out.alloc HB.out.size _⟩

end Go.Proofs.Ytiaibigmbflpiaa
