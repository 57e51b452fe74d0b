import Derived.Test.YtmmmnghiegajmaaM22
import Derived.ProofKit
import Derived.OpenShut
import Derived.HandedShaped
import Derived.Carry
/- Code that came in. -/
namespace Go.Proofs.Ytmmmnghiegajmaa
open Go.ChangeShapes Go.WideShapes Go.ChangeAt Go.RowKit Go.Proofs.Herald
theorem Try.cells107 : Try.prog.cellsOf 128 = 4 := by kernel_rfl
theorem Try.cells3 : Try.prog.cellsOf 3 = 1 := by kernel_rfl
theorem Try.bytes107 : Try.prog.bytesOf 128 = 32 := by kernel_rfl
theorem one_int {H : Type} {enc : TypeId × Value → H} {W : World} {base : Nat} {sp : Nat → Bool} {held : Bool} {n j : Nat} {cs : List Value} {y : DataW H × List MemPlace} (h : DataW.trod enc Try.prog W base sp held n 3 ((cs.drop j).take 1) = some y) : ∃ z : Int, cs[j]? = some (.int .i64 z) := by
  obtain ⟨z, hz, _⟩ := DataW.trod_int Try.underlying3 h
  refine ⟨z, ?_⟩
  have h0 : ((cs.drop j).take 1)[0]? = some (.int .i64 z) := by rw [hz]; rfl
  rw [List.getElem?_take_of_lt (by omega), List.getElem?_drop] at h0
  simpa using h0
set_option maxRecDepth 100000 in
/-- A slice of instructions that came in. -/
theorem open_code {H : Type} {enc : TypeId × Value → H} {W : World} {sp : Nat → Bool} {held : Bool} {r : Reach} {b0 : Nat} {v : Value} {d : DataW H} {ps : List MemPlace} (hval : Value.okWide Try.prog W r b0 26 v) (hd : DataW.Trod enc Try.prog W 0 sp held 26 v d ps) (hwt : ∀ x ∈ d.weights Try.prog 26, x ≤ reachBytes) :
    ∃ a cap b off cs, v = .slice a (List.length cs) cap ∧ CodeIn W a b off cs ∧ List.length cs ≤ 4398046511000 := by
  obtain ⟨a0, len, cap, rfl⟩ := okWide_slice Try.underlying26 hval
  obtain ⟨fuel, hf⟩ := hd
  rcases DataW.trod_slice Try.underlying26 hf with ⟨h, hx⟩ | ⟨ad, len', cap', elems, rest, m, _, h, hx, _, hle, _, hlen, hel, _, _⟩
  · simp [Value.cells] at h
    obtain ⟨rfl, rfl, rfl⟩ := h
    exact ⟨none, 0, 0, 0, [], rfl, fun h => absurd h (by simp), by simp⟩
  · simp [Value.cells] at h
    obtain ⟨rfl, rfl, rfl⟩ := h
    simp only [Prod.mk.injEq] at hx
    obtain ⟨rfl, _⟩ := hx
    have hb : len * 32 ≤ reachBytes := by
      have h1 := hwt ((elems.length + rest.length) * 32) (by
        simp only [DataW.weights, Try.underlying26, Try.bytes107, List.length_map]
        simp)
      have h2 : len * 32 ≤ (elems.length + rest.length) * 32 := Nat.mul_le_mul_right _ (by omega)
      omega
    rw [Try.cells107] at hel
    have each : ∀ i, i < len → ∃ x : Ins, ∀ j u, (insCells x)[j]? = some u → W.cell? ((ad.add (i * 4)).add j) = some u := by
      intro i hi
      obtain ⟨y, hy⟩ : ∃ y, elems[i]? = some y := ⟨elems[i], List.getElem?_eq_getElem (by omega)⟩
      have h1 := hel i hi
      rw [hy, Option.bind_eq_some_iff] at h1
      obtain ⟨cs4, hc4, ht⟩ := h1
      obtain ⟨_, hl4, hcell⟩ := World.cells?_some hc4
      obtain ⟨xs, k, _, _, _, hxs, hfield⟩ := DataW.trod_struct Try.underlying128 ht
      have fld : ∀ (j : Nat) (f : Field), j < 4 → (#[{ name := "Op", type := 3, offset := 0, embedded := false, tag := "", pkgPath := "", byteOffset := 0 }, { name := "A", type := 3, offset := 1, embedded := false, tag := "", pkgPath := "", byteOffset := 8 }, { name := "B", type := 3, offset := 2, embedded := false, tag := "", pkgPath := "", byteOffset := 16 }, { name := "C", type := 3, offset := 3, embedded := false, tag := "", pkgPath := "", byteOffset := 24 }] : Array Field)[j]? = some f → f.type = 3 → f.offset = j → ∃ z : Int, cs4[j]? = some (.int .i64 z) := by
        intro j f hj hf1 hf2 hf3
        have h2 := hfield j f hf1
        have hxj : xs[j]? = some (xs[j]'(by rw [hxs]; exact hj)) := List.getElem?_eq_getElem _
        rw [hxj, hf2, hf3, Try.cells3] at h2
        exact one_int h2
      obtain ⟨z0, e0⟩ := fld 0 _ (by omega) rfl rfl rfl
      obtain ⟨z1, e1⟩ := fld 1 _ (by omega) rfl rfl rfl
      obtain ⟨z2, e2⟩ := fld 2 _ (by omega) rfl rfl rfl
      obtain ⟨z3, e3⟩ := fld 3 _ (by omega) rfl rfl rfl
      refine ⟨⟨z0, z1, z2, z3⟩, fun j u hj => ?_⟩
      have hj4 : j < 4 := by have := (List.getElem?_eq_some_iff.mp hj).1; simpa [insCells] using this
      rw [hcell j hj4]
      match j, hj4 with
      | 0, _ => rw [e0]; exact hj
      | 1, _ => rw [e1]; exact hj
      | 2, _ => rw [e2]; exact hj
      | 3, _ => rw [e3]; exact hj
    by_cases hpos : 0 < len
    · obtain ⟨x0, hx0⟩ := each 0 hpos
      obtain ⟨b, off, spot⟩ := ad
      have g0 := hx0 0 _ rfl
      have hspot : spot = none := by simpa [Addr.add] using World.cell?_spot g0
      subst hspot
      have hblk : b < W.heap.size := by
        rcases Nat.lt_or_ge b W.heap.size with h | h
        · exact h
        · exfalso
          have h2 : W.heap[b]? = none := Array.getElem?_eq_none h
          have g1 := g0
          rw [Addr.add_lit, Addr.add_lit] at g1
          simp [World.cell?, h2] at g1
      refine ⟨_, cap, b, off, List.ofFn (fun i : Fin len => Classical.choose (each i.1 i.2)), by rw [List.length_ofFn], fun _ => ⟨rfl, hblk, fun i hi j u hj => ?_⟩, by rw [List.length_ofFn]; unfold reachBytes at hb; omega⟩
      rw [List.length_ofFn] at hi
      rw [List.getElem_ofFn] at hj
      have h1 := Classical.choose_spec (each i hi) j u hj
      rw [Addr.add_lit, Addr.add_lit] at h1
      exact h1
    · obtain rfl : len = 0 := by omega
      exact ⟨_, cap, 0, 0, [], rfl, fun h => absurd h (by simp), by simp⟩
end Go.Proofs.Ytmmmnghiegajmaa
