import Derived.Deep.RegionWith
import Derived.Deep.DeepCutAuto
import Derived.Test.YtmmmnghiegajmaaM35
import Derived.Test.YtmmmnghiegajmaaM36
import Derived.Test.YtmmmnghiegajmaaRows
import Derived.ProofKit
import Derived.OpenShut
import Derived.HandedShaped
import Derived.Carry
import Derived.Test.YtmmmnghiegajmaaM26
/- The harness: a script is played; the law Engines is walked; a script that came in. -/
namespace Go.Proofs.Ytmmmnghiegajmaa
open Go.RowKit Go.Proofs.Herald
/-- A step of a script. -/
structure OpI where
  k : Int
  a : Int
  b : Int
  c : Int
  str : ByteArray
def opCells (x : OpI) : List Value := [.int .i64 x.k, .int .i64 x.a, .int .i64 x.b, .int .i64 x.c, .string x.str]
/-- A script that lies where it lay. -/
def ScrIn (W : World) (sa : Option Addr) (sb soff : Nat) (ops : List OpI) : Prop := 0 < ops.length → sa = some ⟨sb, soff, none⟩ ∧ sb < W.heap.size ∧ ∀ (i : Nat) (hi : i < ops.length) (j : Nat) (u : Value), (opCells ops[i])[j]? = some u → W.cell? ⟨sb, soff + i * 5 + j, none⟩ = some u
open Go.RowKit Go.Proofs.Herald
open Go.ChangeShapes Go.WideShapes Go.ChangeAt Go.RowKit Go.Proofs.Herald
theorem Try.cellsOp : Try.prog.cellsOf 125 = 5 := by kernel_rfl
theorem Try.cellsStr : Try.prog.cellsOf 9 = 1 := by kernel_rfl
theorem bulk_one {H : Type} (d : DataW H) : 1 ≤ Rows.uptoBulk d := by
  cases d with
  | lit l => cases l <;> simp [Rows.uptoBulk]
  | nil => simp [Rows.uptoBulk]
  | ptr d => simp [Rows.uptoBulk]
  | slice a b => simp [Rows.uptoBulk]
  | agg p => simp [Rows.uptoBulk]
  | iface t d => simp [Rows.uptoBulk]
  | map e => simp [Rows.uptoBulk]
  | held h => simp [Rows.uptoBulk]
theorem bulk_len {H : Type} : ∀ (l : List (DataW H)), l.length ≤ Rows.uptoBulkAll l
  | [] => Nat.zero_le _
  | d :: r => by
    have h1 := bulk_one d
    have h2 := bulk_len r
    simp only [Rows.uptoBulkAll, List.length_cons]
    omega
theorem bulk_slice {H : Type} (a b : List (DataW H)) : a.length ≤ Rows.uptoBulk (.slice a b) := by
  have h1 := bulk_len a
  simp only [Rows.uptoBulk]
  omega
set_option maxRecDepth 100000 in
/-- A script that came in. -/
theorem open_script {H : Type} {enc : TypeId × Value → H} {W : World} {sp : Nat → Bool} {held : Bool} {r : Reach} {b0 : Nat} {v : Value} {d : DataW H} {ps : List MemPlace} (hval : Value.okWide Try.prog W r b0 43 v) (hd : DataW.Trod enc Try.prog W 0 sp held 43 v d ps) (_ : True) :
    ∃ a cap b off cs, v = .slice a (List.length cs) cap ∧ ScrIn W a b off cs ∧ List.length cs ≤ Rows.uptoBulk d := by
  obtain ⟨a0, len, cap, rfl⟩ := okWide_slice Try.underlying43 hval
  obtain ⟨fuel, hf⟩ := hd
  rcases DataW.trod_slice Try.underlying43 hf with ⟨h, hx⟩ | ⟨ad, len', cap', elems, rest, m, _, h, hx, _, hle, _, hlen, hel, _, _⟩
  · simp [Value.cells] at h
    obtain ⟨rfl, rfl, rfl⟩ := h
    exact ⟨none, 0, 0, 0, [], rfl, fun h => absurd h (by simp), Nat.zero_le _⟩
  · simp [Value.cells] at h
    obtain ⟨rfl, rfl, rfl⟩ := h
    simp only [Prod.mk.injEq] at hx
    obtain ⟨rfl, _⟩ := hx
    rw [Try.cellsOp] at hel
    have each : ∀ i, i < len → ∃ x : OpI, ∀ j u, (opCells x)[j]? = some u → W.cell? ((ad.add (i * 5)).add j) = some u := by
      intro i hi
      obtain ⟨y, hy⟩ : ∃ y, elems[i]? = some y := ⟨elems[i], List.getElem?_eq_getElem (by omega)⟩
      have h1 := hel i hi
      rw [hy, Option.bind_eq_some_iff] at h1
      obtain ⟨cs5, hc5, ht⟩ := h1
      obtain ⟨_, hl5, hcell⟩ := World.cells?_some hc5
      obtain ⟨xs, k, _, _, _, hxs, hfield⟩ := DataW.trod_struct Try.underlying125 ht
      have fld : ∀ (j : Nat) (f : Field), j < 4 → (#[{ name := "Kind", type := 3, offset := 0, embedded := false, tag := "", pkgPath := "", byteOffset := 0 }, { name := "A", type := 3, offset := 1, embedded := false, tag := "", pkgPath := "", byteOffset := 8 }, { name := "B", type := 3, offset := 2, embedded := false, tag := "", pkgPath := "", byteOffset := 16 }, { name := "C", type := 3, offset := 3, embedded := false, tag := "", pkgPath := "", byteOffset := 24 }, { name := "S", type := 9, offset := 4, embedded := false, tag := "", pkgPath := "", byteOffset := 32 }] : Array Field)[j]? = some f → f.type = 3 → f.offset = j → ∃ z : Int, cs5[j]? = some (.int .i64 z) := by
        intro j f hj hf1 hf2 hf3
        have h2 := hfield j f hf1
        have hxj : xs[j]? = some (xs[j]'(by rw [hxs]; exact Nat.lt_trans hj (by decide))) := List.getElem?_eq_getElem _
        rw [hxj, hf2, hf3, Try.cells3] at h2
        exact one_int h2
      obtain ⟨z0, e0⟩ := fld 0 _ (by omega) rfl rfl rfl
      obtain ⟨z1, e1⟩ := fld 1 _ (by omega) rfl rfl rfl
      obtain ⟨z2, e2⟩ := fld 2 _ (by omega) rfl rfl rfl
      obtain ⟨z3, e3⟩ := fld 3 _ (by omega) rfl rfl rfl
      obtain ⟨z4, e4⟩ : ∃ z : ByteArray, cs5[4]? = some (.string z) := by
        have h2 := hfield 4 { name := "S", type := 9, offset := 4, embedded := false, tag := "", pkgPath := "", byteOffset := 32 } rfl
        have hxj : xs[4]? = some (xs[4]'(by rw [hxs]; decide)) := List.getElem?_eq_getElem _
        rw [hxj] at h2
        simp only [Try.cellsStr] at h2
        obtain ⟨z, hz, _⟩ := DataW.trod_string Try.underlying9 h2
        refine ⟨z, ?_⟩
        have h0 : ((cs5.drop 4).take 1)[0]? = some (.string z) := by rw [hz]; rfl
        rw [List.getElem?_take_of_lt (by omega), List.getElem?_drop] at h0
        simpa using h0
      refine ⟨⟨z0, z1, z2, z3, z4⟩, fun j u hj => ?_⟩
      have hj5 : j < 5 := by have := (List.getElem?_eq_some_iff.mp hj).1; simpa [opCells] using this
      rw [hcell j hj5]
      match j, hj5 with
      | 0, _ => rw [e0]; exact hj
      | 1, _ => rw [e1]; exact hj
      | 2, _ => rw [e2]; exact hj
      | 3, _ => rw [e3]; exact hj
      | 4, _ => rw [e4]; exact hj
    by_cases hpos : 0 < len
    · obtain ⟨x0, hx0⟩ := each 0 hpos
      obtain ⟨b, off, spot⟩ := ad
      have g0 := hx0 0 _ rfl
      have hspot : spot = none := by simpa [Addr.add] using World.cell?_spot g0
      subst hspot
      have hblk : b < W.heap.size := by
        rcases Nat.lt_or_ge b W.heap.size with h | h
        · exact h
        · exfalso
          have h2 : W.heap[b]? = none := Array.getElem?_eq_none h
          have g1 := g0
          rw [Addr.add_lit, Addr.add_lit] at g1
          simp [World.cell?, h2] at g1
      refine ⟨_, cap, b, off, List.ofFn (fun i : Fin len => Classical.choose (each i.1 i.2)), by rw [List.length_ofFn], fun _ => ⟨rfl, hblk, fun i hi j u hj => ?_⟩, by rw [List.length_ofFn]; exact Nat.le_trans (by rw [List.length_map]; omega) (bulk_slice _ _)⟩
      rw [List.length_ofFn] at hi
      rw [List.getElem_ofFn] at hj
      have h1 := Classical.choose_spec (each i hi) j u hj
      rw [Addr.add_lit, Addr.add_lit] at h1
      exact h1
    · obtain rfl : len = 0 := by omega
      exact ⟨_, cap, 0, 0, [], rfl, fun h => absurd h (by simp), Nat.zero_le _⟩
end Go.Proofs.Ytmmmnghiegajmaa
