import Derived.Test.YtmmmnghiegajmaaM01
import Derived.Test.YtmmmnghiegajmaaM04
import Derived.Test.YtmmmnghiegajmaaM05
import Derived.Test.YtmmmnghiegajmaaM06
import Derived.Test.YtmmmnghiegajmaaM07
import Derived.Test.YtmmmnghiegajmaaM08
import Derived.Test.YtmmmnghiegajmaaM09
import Derived.Test.YtmmmnghiegajmaaM10
import Derived.Test.YtmmmnghiegajmaaM11
import Derived.Test.YtmmmnghiegajmaaM12
import Derived.Test.YtmmmnghiegajmaaM15
import Derived.Test.YtmmmnghiegajmaaM19
import Derived.Test.YtmmmnghiegajmaaM21
import Derived.Test.YtmmmnghiegajmaaM23
import Derived.Test.YtmmmnghiegajmaaM24
import Derived.Test.YtmmmnghiegajmaaM25
import Derived.Test.YtmmmnghiegajmaaM26
import Derived.Test.YtmmmnghiegajmaaM27
import Derived.Test.YtmmmnghiegajmaaM28
import Derived.Test.YtmmmnghiegajmaaM29
import Derived.Test.YtmmmnghiegajmaaM32
import Derived.Test.YtmmmnghiegajmaaM33
import Derived.Test.YtmmmnghiegajmaaM34
import Derived.Test.YtmmmnghiegajmaaRows
import Derived.ProofKit
import Derived.OpenShut
import Derived.HandedShaped
import Derived.Carry
import Derived.Test.YtmmmnghiegajmaaT01
namespace Go.Proofs.Ytmmmnghiegajmaa
open Go.ChangeShapes Go.WideShapes Go.ChangeAt Go.RowKit Go.Proofs.Herald
theorem Try.cellsIntK : Try.prog.cellsOf 3 = 1 := by kernel_rfl
theorem kbulk_one {H : Type} (d : DataW H) : 1 ≤ Rows.uptoBulk d := by
  cases d with
  | lit l => cases l <;> simp [Rows.uptoBulk]
  | nil => simp [Rows.uptoBulk]
  | ptr d => simp [Rows.uptoBulk]
  | slice a b => simp [Rows.uptoBulk]
  | agg p => simp [Rows.uptoBulk]
  | iface t d => simp [Rows.uptoBulk]
  | map e => simp [Rows.uptoBulk]
  | held h => simp [Rows.uptoBulk]
theorem kbulk_len {H : Type} : ∀ (l : List (DataW H)), l.length ≤ Rows.uptoBulkAll l
  | [] => Nat.zero_le _
  | d :: r => by
    have h1 := kbulk_one d
    have h2 := kbulk_len r
    simp only [Rows.uptoBulkAll, List.length_cons]
    omega
theorem kbulk_slice {H : Type} (a b : List (DataW H)) : a.length ≤ Rows.uptoBulk (.slice a b) := by
  have h1 := kbulk_len a
  simp only [Rows.uptoBulk]
  omega
theorem int_range {n : Int} (h : (Lit.int .i64 n).wf = true) : -9223372036854775808 ≤ n ∧ n ≤ 9223372036854775807 := by
  simp [Lit.wf] at h
  exact h
theorem block_in {W : World} {ad : Addr} {v : Value} (h : W.cell? ad = some v) : ∃ b off, ad = ⟨b, off, none⟩ ∧ b < W.heap.size := by
  obtain ⟨b, off, spot⟩ := ad
  have hspot : spot = none := by simpa using World.cell?_spot h
  subst hspot
  refine ⟨b, off, rfl, ?_⟩
  rcases Nat.lt_or_ge b W.heap.size with h1 | h1
  · exact h1
  · exfalso
    have h2 : W.heap[b]? = none := Array.getElem?_eq_none h1
    simp [World.cell?, h2] at h
set_option maxRecDepth 100000 in
/-- Numbers that came in. -/
theorem open_ints {H : Type} {enc : TypeId × Value → H} {W : World} {sp : Nat → Bool} {held : Bool} {r : Reach} {b0 : Nat} {v : Value} {d : DataW H} {ps : List MemPlace} (hval : Value.okWide Try.prog W r b0 52 v) (hd : DataW.Trod enc Try.prog W 0 sp held 52 v d ps) :
    ∃ a cap b off xs, v = .slice a (List.length xs) cap ∧ IntsIn W a b off xs ∧ (∀ x ∈ xs, -9223372036854775808 ≤ x ∧ x ≤ 9223372036854775807) ∧ List.length xs ≤ Rows.uptoBulk d := by
  obtain ⟨a0, len, cap, rfl⟩ := okWide_slice Try.underlying52 hval
  obtain ⟨fuel, hf⟩ := hd
  rcases DataW.trod_slice Try.underlying52 hf with ⟨h, hx⟩ | ⟨ad, len', cap', elems, rest, m, _, h, hx, _, hle, _, hlen, hel, _, _⟩
  · simp [Value.cells] at h
    obtain ⟨rfl, rfl, rfl⟩ := h
    exact ⟨none, 0, 0, 0, [], rfl, fun h => absurd h (by simp), fun x hx => (by cases hx), Nat.zero_le _⟩
  · simp [Value.cells] at h
    obtain ⟨rfl, rfl, rfl⟩ := h
    simp only [Prod.mk.injEq] at hx
    obtain ⟨rfl, _⟩ := hx
    rw [Try.cellsIntK] at hel
    have each : ∀ i, i < len → ∃ x : Int, W.cell? ((ad.add (i * 1)).add 0) = some (.int .i64 x) ∧ (-9223372036854775808 ≤ x ∧ x ≤ 9223372036854775807) := by
      intro i hi
      obtain ⟨y, hy⟩ : ∃ y, elems[i]? = some y := ⟨elems[i], List.getElem?_eq_getElem (by omega)⟩
      have h1 := hel i hi
      rw [hy, Option.bind_eq_some_iff] at h1
      obtain ⟨cs1, hc1, ht⟩ := h1
      obtain ⟨_, hl1, hcell⟩ := World.cells?_some hc1
      obtain ⟨z, hz, _, hw⟩ := DataW.trod_int Try.underlying3 ht
      exact ⟨z, (hcell 0 (by omega)).trans (by rw [hz]; rfl), int_range hw⟩
    by_cases hpos : 0 < len
    · obtain ⟨x0, hx0⟩ := each 0 hpos
      obtain ⟨b, off, spot⟩ := ad
      have hspot : spot = none := by simpa [Addr.add] using World.cell?_spot hx0.1
      subst hspot
      have hblk : b < W.heap.size := by
        obtain ⟨b', o', e, h'⟩ := block_in hx0.1
        rw [Addr.add_lit, Addr.add_lit] at e
        cases e
        exact h'
      have each' : ∀ i, i < len → ∃ x : Int, W.cell? ⟨b, off + i, none⟩ = some (.int .i64 x) ∧ (-9223372036854775808 ≤ x ∧ x ≤ 9223372036854775807) := fun i hi => by
        obtain ⟨x, h1, h2⟩ := each i hi
        rw [Addr.add_lit, Addr.add_lit, Nat.mul_one, Nat.add_zero] at h1
        exact ⟨x, h1, h2⟩
      refine ⟨_, cap, b, off, List.ofFn (fun i : Fin len => Classical.choose (each' i.1 i.2)), by rw [List.length_ofFn], fun _ => ⟨rfl, hblk, fun i hi => ?_⟩, fun x hx => ?_, by rw [List.length_ofFn]; exact Nat.le_trans (by rw [List.length_map]; omega) (kbulk_slice _ _)⟩
      · rw [List.length_ofFn] at hi
        rw [List.getElem_ofFn]
        exact (Classical.choose_spec (each' i hi)).1
      · obtain ⟨i, rfl⟩ := List.mem_ofFn.mp hx
        exact (Classical.choose_spec (each' i.1 i.2)).2
    · obtain rfl : len = 0 := by omega
      exact ⟨_, cap, 0, 0, [], rfl, fun h => absurd h (by simp), fun x hx => (by cases hx), Nat.zero_le _⟩
end Go.Proofs.Ytmmmnghiegajmaa
