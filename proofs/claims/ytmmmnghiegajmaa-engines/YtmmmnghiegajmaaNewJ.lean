/- Every list reads as its owner wrote it: the harness finds so. -/
import Derived.Test.YtmmmnghiegajmaaNewF
namespace Go.Proofs.Ytmmmnghiegajmaa
open Go.RowKit Go.Proofs.Herald

/-- The memory is the same. -/
structure SameH (w w' : World) : Prop where
  heap : w'.heap = w.heap
  os : w'.os = w.os
  tape : w'.tape = w.tape
  output : w'.output = w.output

theorem SameH.refl (w : World) : SameH w w := ⟨rfl, rfl, rfl, rfl⟩
theorem SameH.drew {w w' : World} (h : SameH w w') : SameH w w'.drew := ⟨h.heap, h.os, h.tape, h.output⟩
theorem SameH.cell {w w' : World} (h : SameH w w') (p : Addr) : w'.cell? p = w.cell? p := World.cell?_of_block (by rw [h.heap])
theorem SameH.below {w w' : World} (h : SameH w w') (B : Nat) : Below B w w' := ⟨h.os, h.tape, h.output, by rw [h.heap]; exact Nat.le_refl _, fun k _ => by rw [h.heap]⟩

theorem booksCells_len {k : Nat} : ∀ (bs : List (Value × List Value)), (∀ b ∈ bs, b.2.length = k) → (booksCells bs).length = bs.length * (k + 1) := by
  intro bs
  induction bs with
  | nil => intro _; simp [booksCells]
  | cons b r ih =>
    intro h
    have h1 := ih (fun x hx => h x (by simp [hx]))
    have h2 := h b (by simp)
    simp only [booksCells, List.flatMap_cons, List.length_append, bookCells, List.length_cons] at *
    rw [h1, h2, Nat.add_mul]; omega

theorem booksCells_get {k : Nat} : ∀ (bs : List (Value × List Value)) (_ : ∀ b ∈ bs, b.2.length = k) (i : Nat) (hi : i < bs.length) (j : Nat) (_ : j < k + 1), (booksCells bs)[i * (k + 1) + j]? = (bookCells bs[i])[j]? := by
  intro bs
  induction bs with
  | nil => intro _ i hi; simp at hi
  | cons b r ih =>
    intro h i hi j hj
    have hl : (bookCells b).length = k + 1 := by simp [bookCells, h b (by simp)]
    simp only [booksCells, List.flatMap_cons]
    cases i with
    | zero =>
      rw [List.getElem?_append_left (by rw [hl]; omega)]
      simp
    | succ i =>
      rw [List.getElem?_append_right (by rw [hl, Nat.add_mul]; omega)]
      have h1 := ih (fun x hx => h x (by simp [hx])) i (by simpa using hi) j hj
      simp only [booksCells] at h1
      have e : (i + 1) * (k + 1) + j - (bookCells b).length = i * (k + 1) + j := by rw [hl, Nat.add_mul]; omega
      rw [e, h1]; simp

/-- What is known of one book, four integers wide. -/
theorem book4 {w : World} {X : Nat → Prop} {e bT : TypeId} {g cap : Nat} {bs : List (Value × List Value)} (ho : w.ownsRow 0 bT 5 (.slice (some ⟨g, 0, none⟩) bs.length cap) bs.length (booksCells bs)) (hb : ∀ b ∈ bs, BookOk w X e 4 b) (i : Nat) (hi : i < bs.length) :
    ∃ a n c i0 i1 i2 i3, n ≤ 100000000 ∧ w.cell? ⟨g, i * 5, none⟩ = some (.slice a n c) ∧ w.cell? ⟨g, i * 5 + 1, none⟩ = some (.int .i64 i0) ∧ w.cell? ⟨g, i * 5 + 2, none⟩ = some (.int .i64 i1) ∧ w.cell? ⟨g, i * 5 + 3, none⟩ = some (.int .i64 i2) ∧ w.cell? ⟨g, i * 5 + 4, none⟩ = some (.int .i64 i3) ∧
      (0 < n → ∃ l, a = some ⟨l, 0, none⟩ ∧ ∀ k, k < n → w.cell? ⟨l, k * 4, none⟩ = some (.int .i64 i0) ∧ w.cell? ⟨l, k * 4 + 1, none⟩ = some (.int .i64 i1) ∧ w.cell? ⟨l, k * 4 + 2, none⟩ = some (.int .i64 i2) ∧ w.cell? ⟨l, k * 4 + 3, none⟩ = some (.int .i64 i3)) ∧ n ≤ c := by
  have hlen : ∀ b ∈ bs, b.2.length = 4 := fun b hbm => by obtain ⟨⟨is, h1, h2⟩, _⟩ := hb b hbm; rw [h1, List.length_map, h2]
  obtain ⟨⟨is, h1, h2⟩, n, hn, hown, _⟩ := hb bs[i] (List.getElem_mem hi)
  obtain ⟨a, c, hv⟩ := ownsRow_slice hown
  match is, h2 with
  | [i0, i1, i2, i3], _ =>
    have hbc : bookCells bs[i] = [.slice a n c, .int .i64 i0, .int .i64 i1, .int .i64 i2, .int .i64 i3] := by simp [bookCells, hv, h1]
    have get : ∀ j u, j < 5 → (bookCells bs[i])[j]? = some u → w.cell? ⟨g, i * 5 + j, none⟩ = some u := fun j u hj hu => (own_get ho (i * 5 + j) u (by rw [booksCells_get bs hlen i hi j hj]; exact hu)).1
    refine ⟨a, n, c, i0, i1, i2, i3, hn, get 0 _ (by omega) (by rw [hbc]; rfl), get 1 _ (by omega) (by rw [hbc]; rfl), get 2 _ (by omega) (by rw [hbc]; rfl), get 3 _ (by omega) (by rw [hbc]; rfl), get 4 _ (by omega) (by rw [hbc]; rfl), fun hp => ?_, ?_⟩
    · obtain ⟨l, c', hv', _⟩ := hown.form hp
      have hv2 := hv.symm.trans hv'
      simp at hv2
      obtain ⟨rfl, rfl⟩ := hv2
      refine ⟨l, rfl, fun k hk => ?_⟩
      rw [hv, h1] at hown
      have gm : ∀ j u, j < 4 → ([Value.int .i64 i0, .int .i64 i1, .int .i64 i2, .int .i64 i3])[j]? = some u → w.cell? ⟨l, k * 4 + j, none⟩ = some u := fun j u hj hu => (own_get hown (k * 4 + j) u (by
        have := marks_get ([i0, i1, i2, i3].map (fun z => Value.int .i64 z)) n k j hk (by simpa using hj)
        simp only [List.length_map, List.length_cons, List.length_nil] at this
        rw [this]; exact hu)).1
      exact ⟨gm 0 _ (by omega) rfl, gm 1 _ (by omega) rfl, gm 2 _ (by omega) rfl, gm 3 _ (by omega) rfl⟩
    · rw [hv] at hown; exact (own_cap hown).1

/-- What is known of one book, five integers wide. -/
theorem book5 {w : World} {X : Nat → Prop} {e bT : TypeId} {g cap : Nat} {bs : List (Value × List Value)} (ho : w.ownsRow 0 bT 6 (.slice (some ⟨g, 0, none⟩) bs.length cap) bs.length (booksCells bs)) (hb : ∀ b ∈ bs, BookOk w X e 5 b) (i : Nat) (hi : i < bs.length) :
    ∃ a n c i0 i1 i2 i3 i4, n ≤ 100000000 ∧ w.cell? ⟨g, i * 6, none⟩ = some (.slice a n c) ∧ w.cell? ⟨g, i * 6 + 1, none⟩ = some (.int .i64 i0) ∧ w.cell? ⟨g, i * 6 + 2, none⟩ = some (.int .i64 i1) ∧ w.cell? ⟨g, i * 6 + 3, none⟩ = some (.int .i64 i2) ∧ w.cell? ⟨g, i * 6 + 4, none⟩ = some (.int .i64 i3) ∧ w.cell? ⟨g, i * 6 + 5, none⟩ = some (.int .i64 i4) ∧
      (0 < n → ∃ l, a = some ⟨l, 0, none⟩ ∧ ∀ k, k < n → w.cell? ⟨l, k * 5, none⟩ = some (.int .i64 i0) ∧ w.cell? ⟨l, k * 5 + 1, none⟩ = some (.int .i64 i1) ∧ w.cell? ⟨l, k * 5 + 2, none⟩ = some (.int .i64 i2) ∧ w.cell? ⟨l, k * 5 + 3, none⟩ = some (.int .i64 i3) ∧ w.cell? ⟨l, k * 5 + 4, none⟩ = some (.int .i64 i4)) ∧ n ≤ c := by
  have hlen : ∀ b ∈ bs, b.2.length = 5 := fun b hbm => by obtain ⟨⟨is, h1, h2⟩, _⟩ := hb b hbm; rw [h1, List.length_map, h2]
  obtain ⟨⟨is, h1, h2⟩, n, hn, hown, _⟩ := hb bs[i] (List.getElem_mem hi)
  obtain ⟨a, c, hv⟩ := ownsRow_slice hown
  match is, h2 with
  | [i0, i1, i2, i3, i4], _ =>
    have hbc : bookCells bs[i] = [.slice a n c, .int .i64 i0, .int .i64 i1, .int .i64 i2, .int .i64 i3, .int .i64 i4] := by simp [bookCells, hv, h1]
    have get : ∀ j u, j < 6 → (bookCells bs[i])[j]? = some u → w.cell? ⟨g, i * 6 + j, none⟩ = some u := fun j u hj hu => (own_get ho (i * 6 + j) u (by rw [booksCells_get bs hlen i hi j hj]; exact hu)).1
    refine ⟨a, n, c, i0, i1, i2, i3, i4, hn, get 0 _ (by omega) (by rw [hbc]; rfl), get 1 _ (by omega) (by rw [hbc]; rfl), get 2 _ (by omega) (by rw [hbc]; rfl), get 3 _ (by omega) (by rw [hbc]; rfl), get 4 _ (by omega) (by rw [hbc]; rfl), get 5 _ (by omega) (by rw [hbc]; rfl), fun hp => ?_, ?_⟩
    · obtain ⟨l, c', hv', _⟩ := hown.form hp
      have hv2 := hv.symm.trans hv'
      simp at hv2
      obtain ⟨rfl, rfl⟩ := hv2
      refine ⟨l, rfl, fun k hk => ?_⟩
      rw [hv, h1] at hown
      have gm : ∀ j u, j < 5 → ([Value.int .i64 i0, .int .i64 i1, .int .i64 i2, .int .i64 i3, .int .i64 i4])[j]? = some u → w.cell? ⟨l, k * 5 + j, none⟩ = some u := fun j u hj hu => (own_get hown (k * 5 + j) u (by
        have := marks_get ([i0, i1, i2, i3, i4].map (fun z => Value.int .i64 z)) n k j hk (by simpa using hj)
        simp only [List.length_map, List.length_cons, List.length_nil] at this
        rw [this]; exact hu)).1
      exact ⟨gm 0 _ (by omega) rfl, gm 1 _ (by omega) rfl, gm 2 _ (by omega) rfl, gm 3 _ (by omega) rfl, gm 4 _ (by omega) rfl⟩
    · rw [hv] at hown; exact (own_cap hown).1

set_option maxRecDepth 20000 in
set_option maxHeartbeats 8000000 in
theorem kept_any (X : Nat → Prop) (O : Nat) (n : Int) (cv rv qv : Value) (cb rb qb : List (Value × List Value)) (w : World) (h : OwnAt w X O n cv rv qv cb rb qb) (hcb : cb.length ≤ 100000000) (hrb : rb.length ≤ 100000000) (hqb : qb.length ≤ 100000000) :
    Calls Try.prog 20 #[.pointer (some ⟨O, 0, none⟩)] w fun e w' => e = .returned (.bool true) ∧ SameH w w' := by
  obtain ⟨ac, capc, rfl⟩ := ownsRow_slice h.cown
  obtain ⟨ar, capr, rfl⟩ := ownsRow_slice h.rown
  obtain ⟨aq, capq, rfl⟩ := ownsRow_slice h.qown
  have HC : Hid (w.cell? ⟨O, 1, none⟩ = some (.slice ac cb.length capc) ∧ w.cell? ⟨O, 2, none⟩ = some (.slice ar rb.length capr) ∧ w.cell? ⟨O, 3, none⟩ = some (.slice aq qb.length capq)) := ⟨(cell_of_heap h.blk).trans rfl, (cell_of_heap h.blk).trans rfl, (cell_of_heap h.blk).trans rfl⟩
  have HO : Hid (OwnAt w X O n _ _ _ cb rb qb) := h
  clear h
  have hcc := (own_cap HO.out.cown).1
  have hcr := (own_cap HO.out.rown).1
  have hcq := (own_cap HO.out.qown).1
  go_enter Try.func20, Try.ntmps20
  go_wp2_with fail
  go_loopw [3] (fun i wr => ∃ j : Nat, j ≤ cb.length ∧ i = .int .i64 j ∧ Hid (SameH w wr)) (fun i _ => cb.length - (intOf i).toNat)
  case atStart => exact ⟨0, Nat.zero_le _, rfl, SameH.refl _⟩
  case round =>
    obtain ⟨j0, hj0, rfl, HS0⟩ := hrel
    have o0 : wr.cell? ⟨O, 1, none⟩ = some (.slice ac cb.length capc) := (HS0.out.cell _).trans HC.out.1
    by_cases hlt0 : j0 < cb.length
    · obtain ⟨g, cap', hv, _, _⟩ := HO.out.cown.form (by omega)
      simp at hv
      obtain ⟨rfl, rfl⟩ := hv
      obtain ⟨a, n2, c, i0, i1, i2, i3, hn2, b0, b1, b2, b3, b4, hlist, hnc⟩ := book4 HO.out.cown HO.out.cbk j0 hlt0
      rw [← HS0.out.cell] at b0
      rw [← HS0.out.cell] at b1
      rw [← HS0.out.cell] at b2
      rw [← HS0.out.cell] at b3
      rw [← HS0.out.cell] at b4
      have HLI : Hid (_) := hlist
      clear hlist
      go_wp2_with fail
      go_loopw [4] (fun i wr2 => ∃ k : Nat, k ≤ n2 ∧ i = .int .i64 k ∧ Hid (SameH w wr2)) (fun i _ => n2 - (intOf i).toNat)
      case atStart => exact ⟨0, Nat.zero_le _, rfl, HS0⟩
      case round =>
        obtain ⟨k, hk, rfl, HT⟩ := hrel
        rw [HS0.out.cell, ← HT.out.cell] at o0 b0 b1 b2 b3 b4
        by_cases hk2 : k < n2
        · obtain ⟨l, rfl, hcl⟩ := HLI.out (by omega)
          obtain ⟨e0, e1, e2, e3⟩ := hcl k hk2
          rw [← HT.out.cell] at e0 e1 e2 e3
          clear hcl
          go_wp2_with fail
          go_region
          all_goals
            go_wp2_with fail
            go_roundw
            case rel => exact ⟨k + 1, by omega, by go_num, HT.out.drew⟩
            case measure => simp [intOf]; omega
        · go_wp2_with fail
          go_roundw
          case rel => exact ⟨j0 + 1, by omega, by go_num, HT⟩
          case measure => simp [intOf]; omega
    · go_wp2_with fail
      clear o0
      go_loopw [5] (fun i wr => ∃ j : Nat, j ≤ rb.length ∧ i = .int .i64 j ∧ Hid (SameH w wr)) (fun i _ => rb.length - (intOf i).toNat)
      case atStart => exact ⟨0, Nat.zero_le _, rfl, HS0⟩
      case round =>
        obtain ⟨j1, hj1, rfl, HS1⟩ := hrel
        have o1 : wr.cell? ⟨O, 2, none⟩ = some (.slice ar rb.length capr) := (HS1.out.cell _).trans HC.out.2.1
        by_cases hlt1 : j1 < rb.length
        · obtain ⟨g, cap', hv, _, _⟩ := HO.out.rown.form (by omega)
          simp at hv
          obtain ⟨rfl, rfl⟩ := hv
          obtain ⟨a, n2, c, i0, i1, i2, i3, i4, hn2, b0, b1, b2, b3, b4, b5, hlist, hnc⟩ := book5 HO.out.rown HO.out.rbk j1 hlt1
          rw [← HS1.out.cell] at b0
          rw [← HS1.out.cell] at b1
          rw [← HS1.out.cell] at b2
          rw [← HS1.out.cell] at b3
          rw [← HS1.out.cell] at b4
          rw [← HS1.out.cell] at b5
          have HLI : Hid (_) := hlist
          clear hlist
          go_wp2_with fail
          go_loopw [6] (fun i wr2 => ∃ k : Nat, k ≤ n2 ∧ i = .int .i64 k ∧ Hid (SameH w wr2)) (fun i _ => n2 - (intOf i).toNat)
          case atStart => exact ⟨0, Nat.zero_le _, rfl, HS1⟩
          case round =>
            obtain ⟨k, hk, rfl, HT⟩ := hrel
            rw [HS1.out.cell, ← HT.out.cell] at o1 b0 b1 b2 b3 b4 b5
            by_cases hk2 : k < n2
            · obtain ⟨l, rfl, hcl⟩ := HLI.out (by omega)
              obtain ⟨e0, e1, e2, e3, e4⟩ := hcl k hk2
              rw [← HT.out.cell] at e0 e1 e2 e3 e4
              clear hcl
              go_wp2_with fail
              go_region
              all_goals
                go_wp2_with fail
                go_roundw
                case rel => exact ⟨k + 1, by omega, by go_num, HT.out.drew⟩
                case measure => simp [intOf]; omega
            · go_wp2_with fail
              go_roundw
              case rel => exact ⟨j1 + 1, by omega, by go_num, HT⟩
              case measure => simp [intOf]; omega
        · go_wp2_with fail
          clear o1
          go_loopw [7] (fun i wr => ∃ j : Nat, j ≤ qb.length ∧ i = .int .i64 j ∧ Hid (SameH w wr)) (fun i _ => qb.length - (intOf i).toNat)
          case atStart => exact ⟨0, Nat.zero_le _, rfl, HS1⟩
          case round =>
            obtain ⟨j2, hj2, rfl, HS2⟩ := hrel
            have o2 : wr.cell? ⟨O, 3, none⟩ = some (.slice aq qb.length capq) := (HS2.out.cell _).trans HC.out.2.2
            by_cases hlt2 : j2 < qb.length
            · obtain ⟨g, cap', hv, _, _⟩ := HO.out.qown.form (by omega)
              simp at hv
              obtain ⟨rfl, rfl⟩ := hv
              obtain ⟨a, n2, c, i0, i1, i2, i3, hn2, b0, b1, b2, b3, b4, hlist, hnc⟩ := book4 HO.out.qown HO.out.qbk j2 hlt2
              rw [← HS2.out.cell] at b0
              rw [← HS2.out.cell] at b1
              rw [← HS2.out.cell] at b2
              rw [← HS2.out.cell] at b3
              rw [← HS2.out.cell] at b4
              have HLI : Hid (_) := hlist
              clear hlist
              go_wp2_with fail
              go_loopw [8] (fun i wr2 => ∃ k : Nat, k ≤ n2 ∧ i = .int .i64 k ∧ Hid (SameH w wr2)) (fun i _ => n2 - (intOf i).toNat)
              case atStart => exact ⟨0, Nat.zero_le _, rfl, HS2⟩
              case round =>
                obtain ⟨k, hk, rfl, HT⟩ := hrel
                rw [HS2.out.cell, ← HT.out.cell] at o2 b0 b1 b2 b3 b4
                by_cases hk2 : k < n2
                · obtain ⟨l, rfl, hcl⟩ := HLI.out (by omega)
                  obtain ⟨e0, e1, e2, e3⟩ := hcl k hk2
                  rw [← HT.out.cell] at e0 e1 e2 e3
                  clear hcl
                  go_wp2_with fail
                  go_region
                  all_goals
                    go_wp2_with fail
                    go_roundw
                    case rel => exact ⟨k + 1, by omega, by go_num, HT.out.drew⟩
                    case measure => simp [intOf]; omega
                · go_wp2_with fail
                  go_roundw
                  case rel => exact ⟨j2 + 1, by omega, by go_num, HT⟩
                  case measure => simp [intOf]; omega
            · go_wp2_with fail
              go_ret
              exact ⟨rfl, HS2.out⟩

end Go.Proofs.Ytmmmnghiegajmaa
