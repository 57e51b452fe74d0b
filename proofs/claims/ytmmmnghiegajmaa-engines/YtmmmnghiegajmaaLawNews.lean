/- For every list of instructions, New gives a herald just where the code is sound, else ErrCode; what it shows at first is what the document says; the list is neither changed nor kept. No condition. -/
import Derived.Test.YtmmmnghiegajmaaRows
import Derived.Test.YtmmmnghiegajmaaNewL
import Derived.ProofKit
import Derived.OpenShut
import Derived.HandedShaped
import Derived.Carry
namespace Go.Proofs.Ytmmmnghiegajmaa
open Go.ChangeShapes Go.WideShapes Go.ChangeAt Go.RowKit Go.Proofs.Herald

set_option maxRecDepth 20000 in
set_option maxHeartbeats 2000000 in
theorem news_walk (a : Option Addr) (b off cap : Nat) (cs : List Ins) (w : World) (hc : CodeIn w a b off cs) (hm : cs.length ≤ 4398046511000) :
    Calls Try.prog 4 #[.slice a cs.length cap] w fun e w' => e = .returned (.bool true) ∧ Below w.heap.size w w' := by
  have HC : Hid (CodeIn w a b off cs) := hc
  clear hc
  cases hs : soundL cs with
  | false =>
    have HS : Hid (soundL cs = false) := hs
    clear hs
    go_enter Try.func4, Try.ntmps4
    go_wp2_with fail
    refine (begun_no a b off cap cs _ HC.out hm HS.out).mono ?_
    rintro e w1 ⟨rfl, hb1⟩
    go_wp2_with fail
    go_ret
    exact ⟨rfl, hb1⟩
  | true =>
    have HS : Hid (soundL cs = true) := hs
    clear hs
    go_enter Try.func4, Try.ntmps4
    go_wp2_with fail
    refine (begun_yes a b off cap cs _ HC.out HS.out).mono ?_
    rintro e w1 ⟨H, v, rfl, hH, hgH, _, hb1⟩
    have H1 : Hid (w1.heap[H]? = some (.cells (newHd v) 150 (0, 0)) ∧ Below w.heap.size w w1) := ⟨hgH, hb1⟩
    clear hgH hb1
    go_wp2_with fail
    refine (OfCode_any _ a cs.length cap).mono ?_
    rintro e w2 ⟨S, Q, rfl, hS, hQ, hsn, hb2⟩
    have H2 : Hid (w2.heap[H]? = some (.cells (newHd v) 150 (0, 0)) ∧ SimNew w2 S Q (.slice a cs.length cap) ∧ Below w.heap.size w w2) := ⟨(hb2.block H (heap_lt H1.out.1)).trans H1.out.1, hsn, H1.out.2.trans (hb2.mono H1.out.2.size)⟩
    clear hsn hb2 H1
    go_wp2_with fail
    have hsz := H2.out.2.2.size
    refine (looked_new w2.heap.size H S Q (w2.heap.size + 1) v (.slice a cs.length cap) (.slice none 0 0) (.string ⟨#[]⟩) (fun k => k = w2.heap.size + 1) 0 (.slice none 0 0) (.slice none 0 0) (.slice none 0 0) [] [] [] _ ?_ ?_ ?_ ?_ (by omega) (by omega) (by simp) (by simp) (by simp)).mono ?_
    · refine ⟨?_, ?_, H2.out.2.1.keep fun k hk => ?_⟩
      · rw [Below.heap_alloc _ _ _ (by simp)]; exact heap_alloc_new _ _
      · rw [Below.heap_alloc _ _ _ (by have := heap_lt H2.out.1; simp; omega), Below.heap_alloc _ _ _ (heap_lt H2.out.1)]; exact H2.out.1
      · have hk2 : k < w2.heap.size := by
          rcases hk with rfl | rfl
          · exact heap_lt H2.out.2.1.1
          · exact heap_lt H2.out.2.1.2
        rw [Below.heap_alloc _ _ _ (by simp; omega), Below.heap_alloc _ _ _ hk2]
    · exact ⟨heap_alloc2 _ _ _, rfl, World.ownsRow_nil _ _ _ _, World.ownsRow_nil _ _ _ _, World.ownsRow_nil _ _ _ _, fun b hb => (by cases hb), fun b hb => (by cases hb), fun b hb => (by cases hb), fun b hb => absurd hb (by simp), fun b hb => absurd hb (by simp), fun b hb => absurd hb (by simp)⟩
    · intro k hk
      subst hk
      simp
    · intro k hk
      have h1 := heap_lt H2.out.1
      have h2 := heap_lt H2.out.2.1.1
      have h3 := heap_lt H2.out.2.1.2
      rcases hk with rfl | rfl | rfl | rfl <;> omega
    rintro e w3 ⟨rfl, hf3⟩
    have HB3 : Hid (Below w.heap.size w w3) := by
      have f3 : Below w.heap.size _ w3 := ⟨hf3.os, hf3.tape, hf3.output, hf3.size, fun k hk => hf3.block k (by simp; omega) (by omega)⟩
      exact ((H2.out.2.2.alloc hsz _).alloc (by simp; omega) _).trans f3
    clear hf3
    go_wp2_with fail
    go_ret
    exact ⟨rfl, HB3.out⟩

theorem Try.cells107 : Try.prog.cellsOf 128 = 4 := by kernel_rfl
theorem Try.cells3 : Try.prog.cellsOf 3 = 1 := by kernel_rfl
theorem Try.bytes107 : Try.prog.bytesOf 128 = 32 := by kernel_rfl

theorem one_int {H : Type} {enc : TypeId × Value → H} {W : World} {base : Nat} {sp : Nat → Bool} {held : Bool} {n j : Nat} {cs : List Value} {y : DataW H × List MemPlace} (h : DataW.trod enc Try.prog W base sp held n 3 ((cs.drop j).take 1) = some y) : ∃ z : Int, cs[j]? = some (.int .i64 z) := by
  obtain ⟨z, hz, _⟩ := DataW.trod_int Try.underlying3 h
  refine ⟨z, ?_⟩
  have h0 : ((cs.drop j).take 1)[0]? = some (.int .i64 z) := by rw [hz]; rfl
  rw [List.getElem?_take_of_lt (by omega), List.getElem?_drop] at h0
  simpa using h0

set_option maxRecDepth 100000 in
/-- A slice of instructions that came in. -/
theorem open_code {H : Type} {enc : TypeId × Value → H} {W : World} {sp : Nat → Bool} {held : Bool} {r : Reach} {b0 : Nat} {v : Value} {d : DataW H} {ps : List MemPlace} (hval : Value.okWide Try.prog W r b0 26 v) (hd : DataW.Trod enc Try.prog W 0 sp held 26 v d ps) (hwt : ∀ x ∈ d.weights Try.prog 26, x ≤ reachBytes) :
    ∃ a cap b off cs, v = .slice a (List.length cs) cap ∧ CodeIn W a b off cs ∧ List.length cs ≤ 4398046511000 := by
  obtain ⟨a0, len, cap, rfl⟩ := okWide_slice Try.underlying26 hval
  obtain ⟨fuel, hf⟩ := hd
  rcases DataW.trod_slice Try.underlying26 hf with ⟨h, hx⟩ | ⟨ad, len', cap', elems, rest, m, _, h, hx, _, hle, _, hlen, hel, _, _⟩
  · simp [Value.cells] at h
    obtain ⟨rfl, rfl, rfl⟩ := h
    exact ⟨none, 0, 0, 0, [], rfl, fun h => absurd h (by simp), by simp⟩
  · simp [Value.cells] at h
    obtain ⟨rfl, rfl, rfl⟩ := h
    simp only [Prod.mk.injEq] at hx
    obtain ⟨rfl, _⟩ := hx
    have hb : len * 32 ≤ reachBytes := by
      have h1 := hwt ((elems.length + rest.length) * 32) (by
        simp only [DataW.weights, Try.underlying26, Try.bytes107, List.length_map]
        simp)
      have h2 : len * 32 ≤ (elems.length + rest.length) * 32 := Nat.mul_le_mul_right _ (by omega)
      omega
    rw [Try.cells107] at hel
    have each : ∀ i, i < len → ∃ x : Ins, ∀ j u, (insCells x)[j]? = some u → W.cell? ((ad.add (i * 4)).add j) = some u := by
      intro i hi
      obtain ⟨y, hy⟩ : ∃ y, elems[i]? = some y := ⟨elems[i], List.getElem?_eq_getElem (by omega)⟩
      have h1 := hel i hi
      rw [hy, Option.bind_eq_some_iff] at h1
      obtain ⟨cs4, hc4, ht⟩ := h1
      obtain ⟨_, hl4, hcell⟩ := World.cells?_some hc4
      obtain ⟨xs, k, _, _, _, hxs, hfield⟩ := DataW.trod_struct Try.underlying128 ht
      have fld : ∀ (j : Nat) (f : Field), j < 4 → (#[{ name := "Op", type := 3, offset := 0, embedded := false, tag := "", pkgPath := "", byteOffset := 0 }, { name := "A", type := 3, offset := 1, embedded := false, tag := "", pkgPath := "", byteOffset := 8 }, { name := "B", type := 3, offset := 2, embedded := false, tag := "", pkgPath := "", byteOffset := 16 }, { name := "C", type := 3, offset := 3, embedded := false, tag := "", pkgPath := "", byteOffset := 24 }] : Array Field)[j]? = some f → f.type = 3 → f.offset = j → ∃ z : Int, cs4[j]? = some (.int .i64 z) := by
        intro j f hj hf1 hf2 hf3
        have h2 := hfield j f hf1
        have hxj : xs[j]? = some (xs[j]'(by rw [hxs]; exact hj)) := List.getElem?_eq_getElem _
        rw [hxj, hf2, hf3, Try.cells3] at h2
        exact one_int h2
      obtain ⟨z0, e0⟩ := fld 0 _ (by omega) rfl rfl rfl
      obtain ⟨z1, e1⟩ := fld 1 _ (by omega) rfl rfl rfl
      obtain ⟨z2, e2⟩ := fld 2 _ (by omega) rfl rfl rfl
      obtain ⟨z3, e3⟩ := fld 3 _ (by omega) rfl rfl rfl
      refine ⟨⟨z0, z1, z2, z3⟩, fun j u hj => ?_⟩
      have hj4 : j < 4 := by have := (List.getElem?_eq_some_iff.mp hj).1; simpa [insCells] using this
      rw [hcell j hj4]
      match j, hj4 with
      | 0, _ => rw [e0]; exact hj
      | 1, _ => rw [e1]; exact hj
      | 2, _ => rw [e2]; exact hj
      | 3, _ => rw [e3]; exact hj
    by_cases hpos : 0 < len
    · obtain ⟨x0, hx0⟩ := each 0 hpos
      obtain ⟨b, off, spot⟩ := ad
      have g0 := hx0 0 _ rfl
      have hspot : spot = none := by simpa [Addr.add] using World.cell?_spot g0
      subst hspot
      have hblk : b < W.heap.size := by
        rcases Nat.lt_or_ge b W.heap.size with h | h
        · exact h
        · exfalso
          have h2 : W.heap[b]? = none := Array.getElem?_eq_none h
          have g1 := g0
          rw [Addr.add_lit, Addr.add_lit] at g1
          simp [World.cell?, h2] at g1
      refine ⟨_, cap, b, off, List.ofFn (fun i : Fin len => Classical.choose (each i.1 i.2)), by rw [List.length_ofFn], fun _ => ⟨rfl, hblk, fun i hi j u hj => ?_⟩, by rw [List.length_ofFn]; unfold reachBytes at hb; omega⟩
      rw [List.length_ofFn] at hi
      rw [List.getElem_ofFn] at hj
      have h1 := Classical.choose_spec (each i hi) j u hj
      rw [Addr.add_lit, Addr.add_lit] at h1
      exact h1
    · obtain rfl : len = 0 := by omega
      exact ⟨_, cap, 0, 0, [], rfl, fun h => absurd h (by simp), by simp⟩

theorem news_own : ownKnob Try.prog.godebug = none := by kernel_rfl

set_option maxRecDepth 100000 in
theorem news_lifted (os : Os) (started : os.Started) (H : Type) (enc : TypeId × Value → H) :
    ReturnsInHanded {} Try.checked os 4 .any (Rows.newsSpec.pre6 enc Try.prog Try.f4 Rows.newsRow.domain false) (Rows.newsSpec.post enc Try.prog Try.f4 false true false false) := by
  refine returnsInHanded_of_change_shaped (C := Try.checked) news_own started (by kernel_rfl) Try.func4
    (ChangeSpec.witness6 (enc := enc) (C := Try.checked) false ⟨#[], #[.slice none 0 0], []⟩ 8 (by kernel_rfl) (by kernel_rfl) (by kernel_rfl) (by kernel_rfl)) ?_
  intro W base args ds gs before hval0 hW hcnd hwt _ _
  have hval : ∀ (j : Nat) t v, Try.f4.params[j]? = some t → args[j]? = some v → Value.okWide Try.prog W .any base t v := hval0
  have hW' := hW
  obtain ⟨p, q, hA0, hV, rfl, hfz, hnd⟩ := hW
  have hA : DataW.TrodAll enc Try.prog W 0 (fun _ => true) true Try.f4.params.toList args.toList ds p := hA0
  have hwt' : (DataW.weightsEach Try.prog (Try.f4.params.toList ++ Rows.newsSpec.plain.varTypes Try.prog) (ds ++ gs)).all (· ≤ reachBytes) = true := hwt
  rw [Try.params4] at hA hval hwt'
  obtain ⟨v0, vs0, d0, ds0, p0, q0, hargs, rfl, rfl, h0, r0⟩ := trodAll_cons hA
  obtain ⟨rfl, rfl, rfl⟩ := trodAll_nil r0
  obtain rfl : args = #[v0] := by cases args; simp_all
  obtain ⟨rfl, rfl⟩ := trodVars_none hV
  have hlt : ∀ x ∈ p0, x.block < W.heap.size := fun x hx => hW'.lt x (by simp [hx])
  obtain ⟨a, cap, b, off, cs, rfl, hc, hm⟩ := open_code (hval 0 26 v0 rfl rfl) h0 (fun x hx => by
    rw [List.all_eq_true] at hwt'
    have := hwt' x (by
      show x ∈ DataW.weightsEach Try.prog (26 :: _) (d0 :: _)
      rw [DataW.weightsEach, List.mem_append]
      exact Or.inl hx)
    simpa using this)
  clear hA0 hval0
  simp only [List.append_nil] at hW'
  refine (news_walk a b off cap cs W hc hm).mono fun e W' ⟨he, hb⟩ => ?_
  subst he
  exact ⟨_, rfl, ⟨_, _, _, [], _, [], hW', trodAll_cons_mk (shut_bool Try.underlying4 _) trodAll_mk0, trodAll_cons_mk (hb.trod (by kernel_rfl) (by kernel_rfl) (by decide) h0 hlt) trodAll_mk0, rfl, hb.frame _, fun h => by cases h⟩⟩

theorem news_holds : Rows.NewsSaid :=
  OpenClaim.holds_of_wide 4 Try.f4 rfl rfl rfl rfl rfl rfl rfl ⟨rfl, rfl, rfl, rfl, rfl⟩ rfl rfl rfl rfl rfl (by kernel_rfl) Try.func4 (by kernel_rfl)
    (of_decide_eq_true (by kernel_rfl)) (by unfold Func.isWrapper; first | (rw [if_pos (by decide +kernel)]; kernel_rfl) | (rw [if_neg (by decide +kernel)]; exact ⟨rfl, rfl⟩))
    (fun os started H enc _ => news_lifted os started H enc)

#print axioms news_holds
end Go.Proofs.Ytmmmnghiegajmaa
