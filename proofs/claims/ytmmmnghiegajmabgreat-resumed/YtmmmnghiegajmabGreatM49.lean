import Derived.Test.YtmmmnghiegajmabGreatRows
import Derived.Test.YtmmmnghiegajmabGreatM48
import Derived.ProofKit
import Derived.OpenShut
import Derived.HandedShaped
import Derived.Carry
/- Numbers and scripts that came in. -/
namespace Go.Proofs.YtmmmnghiegajmabGreat
open Go.ChangeShapes Go.WideShapes Go.ChangeAt Go.RowKit Go.Proofs.Herald
theorem Tryz.cellsOpK : Tryz.prog.cellsOf 39 = 3 := by kernel_rfl
theorem Tryz.cellsIntK : Tryz.prog.cellsOf 3 = 1 := by kernel_rfl
theorem kbulk_one {H : Type} (d : DataW H) : 1 ≤ Rows.uptoBulk d := by
  cases d with
  | lit l => cases l <;> simp [Rows.uptoBulk]
  | nil => simp [Rows.uptoBulk]
  | ptr d => simp [Rows.uptoBulk]
  | slice a b => simp [Rows.uptoBulk]
  | agg p => simp [Rows.uptoBulk]
  | iface t d => simp [Rows.uptoBulk]
  | map e => simp [Rows.uptoBulk]
  | held h => simp [Rows.uptoBulk]
theorem kbulk_len {H : Type} : ∀ (l : List (DataW H)), l.length ≤ Rows.uptoBulkAll l
  | [] => Nat.zero_le _
  | d :: r => by
    have h1 := kbulk_one d
    have h2 := kbulk_len r
    simp only [Rows.uptoBulkAll, List.length_cons]
    omega
theorem kbulk_slice {H : Type} (a b : List (DataW H)) : a.length ≤ Rows.uptoBulk (.slice a b) := by
  have h1 := kbulk_len a
  simp only [Rows.uptoBulk]
  omega
theorem int_range {n : Int} (h : (Lit.int .i64 n).wf = true) : -9223372036854775808 ≤ n ∧ n ≤ 9223372036854775807 := by
  simp [Lit.wf] at h
  exact h
theorem one_intK {H : Type} {enc : TypeId × Value → H} {W : World} {base : Nat} {sp : Nat → Bool} {held : Bool} {n j : Nat} {cs : List Value} {y : DataW H × List MemPlace} (h : DataW.trod enc Tryz.prog W base sp held n 3 ((cs.drop j).take 1) = some y) : ∃ z : Int, cs[j]? = some (.int .i64 z) ∧ (-9223372036854775808 ≤ z ∧ z ≤ 9223372036854775807) := by
  obtain ⟨z, hz, _, hw⟩ := DataW.trod_int Tryz.underlying3 h
  refine ⟨z, ?_, int_range hw⟩
  have h0 : ((cs.drop j).take 1)[0]? = some (.int .i64 z) := by rw [hz]; rfl
  rw [List.getElem?_take_of_lt (by omega), List.getElem?_drop] at h0
  simpa using h0
theorem block_in {W : World} {ad : Addr} {v : Value} (h : W.cell? ad = some v) : ∃ b off, ad = ⟨b, off, none⟩ ∧ b < W.heap.size := by
  obtain ⟨b, off, spot⟩ := ad
  have hspot : spot = none := by simpa using World.cell?_spot h
  subst hspot
  refine ⟨b, off, rfl, ?_⟩
  rcases Nat.lt_or_ge b W.heap.size with h1 | h1
  · exact h1
  · exfalso
    have h2 : W.heap[b]? = none := Array.getElem?_eq_none h1
    simp [World.cell?, h2] at h
set_option maxRecDepth 100000 in
/-- Numbers that came in. -/
theorem open_ints {H : Type} {enc : TypeId × Value → H} {W : World} {sp : Nat → Bool} {held : Bool} {r : Reach} {b0 : Nat} {v : Value} {d : DataW H} {ps : List MemPlace} (hval : Value.okWide Tryz.prog W r b0 22 v) (hd : DataW.Trod enc Tryz.prog W 0 sp held 22 v d ps) :
    ∃ a cap b off xs, v = .slice a (List.length xs) cap ∧ IntsIn W a b off xs ∧ (∀ x ∈ xs, -9223372036854775808 ≤ x ∧ x ≤ 9223372036854775807) ∧ List.length xs ≤ Rows.uptoBulk d := by
  obtain ⟨a0, len, cap, rfl⟩ := okWide_slice Tryz.underlying22 hval
  obtain ⟨fuel, hf⟩ := hd
  rcases DataW.trod_slice Tryz.underlying22 hf with ⟨h, hx⟩ | ⟨ad, len', cap', elems, rest, m, _, h, hx, _, hle, _, hlen, hel, _, _⟩
  · simp [Value.cells] at h
    obtain ⟨rfl, rfl, rfl⟩ := h
    exact ⟨none, 0, 0, 0, [], rfl, fun h => absurd h (by simp), fun x hx => (by cases hx), Nat.zero_le _⟩
  · simp [Value.cells] at h
    obtain ⟨rfl, rfl, rfl⟩ := h
    simp only [Prod.mk.injEq] at hx
    obtain ⟨rfl, _⟩ := hx
    rw [Tryz.cellsIntK] at hel
    have each : ∀ i, i < len → ∃ x : Int, W.cell? ((ad.add (i * 1)).add 0) = some (.int .i64 x) ∧ (-9223372036854775808 ≤ x ∧ x ≤ 9223372036854775807) := by
      intro i hi
      obtain ⟨y, hy⟩ : ∃ y, elems[i]? = some y := ⟨elems[i], List.getElem?_eq_getElem (by omega)⟩
      have h1 := hel i hi
      rw [hy, Option.bind_eq_some_iff] at h1
      obtain ⟨cs1, hc1, ht⟩ := h1
      obtain ⟨_, hl1, hcell⟩ := World.cells?_some hc1
      obtain ⟨z, hz, _, hw⟩ := DataW.trod_int Tryz.underlying3 ht
      exact ⟨z, (hcell 0 (by omega)).trans (by rw [hz]; rfl), int_range hw⟩
    by_cases hpos : 0 < len
    · obtain ⟨x0, hx0⟩ := each 0 hpos
      obtain ⟨b, off, spot⟩ := ad
      have hspot : spot = none := by simpa [Addr.add] using World.cell?_spot hx0.1
      subst hspot
      have hblk : b < W.heap.size := by
        obtain ⟨b', o', e, h'⟩ := block_in hx0.1
        rw [Addr.add_lit, Addr.add_lit] at e
        cases e
        exact h'
      have each' : ∀ i, i < len → ∃ x : Int, W.cell? ⟨b, off + i, none⟩ = some (.int .i64 x) ∧ (-9223372036854775808 ≤ x ∧ x ≤ 9223372036854775807) := fun i hi => by
        obtain ⟨x, h1, h2⟩ := each i hi
        rw [Addr.add_lit, Addr.add_lit, Nat.mul_one, Nat.add_zero] at h1
        exact ⟨x, h1, h2⟩
      refine ⟨_, cap, b, off, List.ofFn (fun i : Fin len => Classical.choose (each' i.1 i.2)), by rw [List.length_ofFn], fun _ => ⟨rfl, hblk, fun i hi => ?_⟩, fun x hx => ?_, by rw [List.length_ofFn]; exact Nat.le_trans (by rw [List.length_map]; omega) (kbulk_slice _ _)⟩
      · rw [List.length_ofFn] at hi
        rw [List.getElem_ofFn]
        exact (Classical.choose_spec (each' i hi)).1
      · obtain ⟨i, rfl⟩ := List.mem_ofFn.mp hx
        exact (Classical.choose_spec (each' i.1 i.2)).2
    · obtain rfl : len = 0 := by omega
      exact ⟨_, cap, 0, 0, [], rfl, fun h => absurd h (by simp), fun x hx => (by cases hx), Nat.zero_le _⟩
end Go.Proofs.YtmmmnghiegajmabGreat
/- A script that came in, all its numbers a machine's. -/
namespace Go.Proofs.YtmmmnghiegajmabGreat
open Go.ChangeShapes Go.WideShapes Go.ChangeAt Go.RowKit Go.Proofs.Herald
set_option maxRecDepth 100000 in
/-- A script that came in: its numbers are a machine's. -/
theorem open_opsS {H : Type} {enc : TypeId × Value → H} {W : World} {sp : Nat → Bool} {held : Bool} {r : Reach} {b0 : Nat} {v : Value} {d : DataW H} {ps : List MemPlace} (hval : Value.okWide Tryz.prog W r b0 23 v) (hd : DataW.Trod enc Tryz.prog W 0 sp held 23 v d ps) :
    ∃ a cap b off cs, v = .slice a (List.length cs) cap ∧ OpsIn W a b off cs ∧ (∀ x ∈ cs, (-9223372036854775808 ≤ x.a ∧ x.a ≤ 9223372036854775807) ∧ -9223372036854775808 ≤ x.b ∧ x.b ≤ 9223372036854775807) ∧ List.length cs ≤ Rows.uptoBulk d := by
  obtain ⟨a0, len, cap, rfl⟩ := okWide_slice Tryz.underlying23 hval
  obtain ⟨fuel, hf⟩ := hd
  rcases DataW.trod_slice Tryz.underlying23 hf with ⟨h, hx⟩ | ⟨ad, len', cap', elems, rest, m, _, h, hx, _, hle, _, hlen, hel, _, _⟩
  · simp [Value.cells] at h
    obtain ⟨rfl, rfl, rfl⟩ := h
    exact ⟨none, 0, 0, 0, [], rfl, fun h => absurd h (by simp), fun x hx => (by cases hx), Nat.zero_le _⟩
  · simp [Value.cells] at h
    obtain ⟨rfl, rfl, rfl⟩ := h
    simp only [Prod.mk.injEq] at hx
    obtain ⟨rfl, _⟩ := hx
    rw [Tryz.cellsOpK] at hel
    have each : ∀ i, i < len → ∃ x : OpK, (W.cell? ((ad.add (i * 3)).add 0) = some (.int .i64 x.k) ∧ W.cell? ((ad.add (i * 3)).add 1) = some (.int .i64 x.a) ∧ W.cell? ((ad.add (i * 3)).add 2) = some (.int .i64 x.b)) ∧ (-9223372036854775808 ≤ x.a ∧ x.a ≤ 9223372036854775807) ∧ -9223372036854775808 ≤ x.b ∧ x.b ≤ 9223372036854775807 := by
      intro i hi
      obtain ⟨y, hy⟩ : ∃ y, elems[i]? = some y := ⟨elems[i], List.getElem?_eq_getElem (by omega)⟩
      have h1 := hel i hi
      rw [hy, Option.bind_eq_some_iff] at h1
      obtain ⟨cs3, hc3, ht⟩ := h1
      obtain ⟨_, hl3, hcell⟩ := World.cells?_some hc3
      obtain ⟨xs, k, _, _, _, hxs, hfield⟩ := DataW.trod_struct Tryz.underlying39 ht
      have fld : ∀ (j : Nat) (f : Field), j < 3 → (#[{ name := "Kind", type := 3, offset := 0, embedded := false, tag := "", pkgPath := "", byteOffset := 0 }, { name := "A", type := 3, offset := 1, embedded := false, tag := "", pkgPath := "", byteOffset := 8 }, { name := "B", type := 3, offset := 2, embedded := false, tag := "", pkgPath := "", byteOffset := 16 }] : Array Field)[j]? = some f → f.type = 3 → f.offset = j → ∃ z : Int, cs3[j]? = some (.int .i64 z) ∧ (-9223372036854775808 ≤ z ∧ z ≤ 9223372036854775807) := by
        intro j f hj hf1 hf2 hf3
        have h2 := hfield j f hf1
        have hxj : xs[j]? = some (xs[j]'(by rw [hxs]; exact Nat.lt_of_lt_of_le hj (by decide))) := List.getElem?_eq_getElem _
        rw [hxj, hf2, hf3, Tryz.cellsIntK] at h2
        exact one_intK h2
      obtain ⟨z0, e0, _⟩ := fld 0 _ (by omega) rfl rfl rfl
      obtain ⟨z1, e1, q1⟩ := fld 1 _ (by omega) rfl rfl rfl
      obtain ⟨z2, e2, q2⟩ := fld 2 _ (by omega) rfl rfl rfl
      exact ⟨⟨z0, z1, z2⟩, ⟨(hcell 0 (by omega)).trans e0, (hcell 1 (by omega)).trans e1, (hcell 2 (by omega)).trans e2⟩, q1, q2⟩
    by_cases hpos : 0 < len
    · obtain ⟨x0, hx0⟩ := each 0 hpos
      obtain ⟨b, off, spot⟩ := ad
      have hspot : spot = none := by simpa [Addr.add] using World.cell?_spot hx0.1.1
      subst hspot
      have hblk : b < W.heap.size := by
        obtain ⟨b', o', e, h'⟩ := block_in hx0.1.1
        rw [Addr.add_lit, Addr.add_lit] at e
        cases e
        exact h'
      have each' : ∀ i, i < len → ∃ x : OpK, (W.cell? ⟨b, off + i * 3, none⟩ = some (.int .i64 x.k) ∧ W.cell? ⟨b, off + i * 3 + 1, none⟩ = some (.int .i64 x.a) ∧ W.cell? ⟨b, off + i * 3 + 2, none⟩ = some (.int .i64 x.b)) ∧ (-9223372036854775808 ≤ x.a ∧ x.a ≤ 9223372036854775807) ∧ -9223372036854775808 ≤ x.b ∧ x.b ≤ 9223372036854775807 := fun i hi => by
        obtain ⟨x, h1⟩ := each i hi
        rw [Addr.add_lit, Addr.add_lit, Addr.add_lit, Addr.add_lit] at h1
        exact ⟨x, h1⟩
      refine ⟨_, cap, b, off, List.ofFn (fun i : Fin len => Classical.choose (each' i.1 i.2)), by rw [List.length_ofFn], fun _ => ⟨rfl, hblk, fun i hi => ?_⟩, fun x hx => ?_, by rw [List.length_ofFn]; exact Nat.le_trans (by rw [List.length_map]; omega) (kbulk_slice _ _)⟩
      · rw [List.length_ofFn] at hi
        rw [List.getElem_ofFn]
        exact (Classical.choose_spec (each' i hi)).1
      · obtain ⟨i, rfl⟩ := List.mem_ofFn.mp hx
        exact (Classical.choose_spec (each' i.1 i.2)).2
    · obtain rfl : len = 0 := by omega
      exact ⟨_, cap, 0, 0, [], rfl, fun h => absurd h (by simp), fun x hx => (by cases hx), Nat.zero_le _⟩
end Go.Proofs.YtmmmnghiegajmabGreat
