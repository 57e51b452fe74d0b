/- What heavy of the document's own answer gives back. -/
import Derived.Test.YtiaibigmbflpiaaRefH
import Derived.Test.YtiaibigmbflpiaaPureG
namespace Go.Proofs.Ytiaibigmbflpiaa
open Go.RowKit Go.Proofs.Herald

theorem itemsCells_get (t : ByteArray) {T : Type} : ∀ (xs : List ((Hd × T × T) × (Value × Value))) (i : Nat) (hi : i < xs.length) (j : Nat) (_ : j < 7),
    (itemsCells t xs)[i * 7 + j]? = (stmtCells t xs[i].1.1 xs[i].2)[j]? := by
  intro xs
  induction xs with
  | nil => intro i hi; simp at hi
  | cons x r ih =>
    intro i hi j hj
    have hl : (stmtCells t x.1.1 x.2).length = 7 := rfl
    cases i with
    | zero =>
      simp only [itemsCells, List.flatMap_cons, Nat.zero_mul, Nat.zero_add, List.getElem_cons_zero]
      rw [List.getElem?_append_left (by omega)]
    | succ i =>
      have := ih i (by simpa using hi) j hj
      simp only [itemsCells, List.flatMap_cons, List.getElem_cons_succ] at this ⊢
      rw [List.getElem?_append_right (by omega), show (i + 1) * 7 + j - (stmtCells t x.1.1 x.2).length = i * 7 + j from by omega]
      exact this

/-- What a list of statements looks like in memory. -/
theorem TreeAt.open {t : ByteArray} {w : World} {X : Nat → Prop} {d : Nat} {v : Value} {l : Tree (d + 1)} (h : TreeAt t w X (d + 1) v l) :
    ∃ (xs : List ((Hd × Tree d × Tree d) × (Value × Value))) (a : Option Addr) (cap g : Nat), l = xs.map Prod.fst ∧ v = .slice a xs.length cap ∧ (0 < xs.length → a = some ⟨g, 0, none⟩) ∧
      (∀ (i : Nat) (hi : i < xs.length), w.cell? ⟨g, i * 7, none⟩ = some (.string (t.extract xs[i].1.1.p.1 xs[i].1.1.p.2)) ∧ w.cell? ⟨g, i * 7 + 1, none⟩ = some (.int .i64 xs[i].1.1.key) ∧
        w.cell? ⟨g, i * 7 + 2, none⟩ = some (.int .i64 xs[i].1.1.n) ∧ w.cell? ⟨g, i * 7 + 3, none⟩ = some (.int .i64 xs[i].1.1.m) ∧ w.cell? ⟨g, i * 7 + 4, none⟩ = some xs[i].2.1 ∧
        w.cell? ⟨g, i * 7 + 5, none⟩ = some xs[i].2.2 ∧ w.cell? ⟨g, i * 7 + 6, none⟩ = some (.int .i64 xs[i].1.1.p.1)) ∧
      (∀ (i : Nat) (hi : i < xs.length), TreeAt t w X d xs[i].2.1 xs[i].1.2.1 ∧ TreeAt t w X d xs[i].2.2 xs[i].1.2.2) := by
  obtain ⟨xs, h1, h2, h3, h4, h5⟩ := h
  rcases h2.2 with ⟨rfl, h0⟩ | ⟨g, cap, cur, rfl, hb, hg, hn, hm, hs, ht⟩
  · exact ⟨xs, none, 0, 0, h1, by rw [h0], by omega, fun i hi => by omega, fun i hi => h4 _ (List.getElem_mem hi)⟩
  · refine ⟨xs, _, cap, g, h1, rfl, fun _ => rfl, fun i hi => ?_, fun i hi => h4 _ (List.getElem_mem hi)⟩
    have hc := h2.cells (g := g) rfl
    have key : ∀ (j : Nat) (u : Value), j < 7 → (stmtCells t xs[i].1.1 xs[i].2)[j]? = some u → w.cell? ⟨g, i * 7 + j, none⟩ = some u := fun j u hj hu => by
      have := hc (i * 7 + j) u (by rw [itemsCells_get t xs i hi j hj]; exact hu)
      rwa [Addr.add_lit, Nat.zero_add] at this
    exact ⟨key 0 _ (by omega) rfl, key 1 _ (by omega) rfl, key 2 _ (by omega) rfl, key 3 _ (by omega) rfl, key 4 _ (by omega) rfl, key 5 _ (by omega) rfl, key 6 _ (by omega) rfl⟩

/-- What heavy gives back, of a tree d deep. -/
def HeavySaid (t : ByteArray) (d : Nat) : Prop :=
  ∀ (v : Value) (tr : Tree d) (n : Int) (X : Nat → Prop) (w : World), TreeAt t w X d v tr → OkT t d tr → sizeT d tr ≤ 400 → 1 ≤ n → n ≤ 64 →
    Calls Try.prog 46 #[v, .int .i64 n] w fun e w' => e = .returned (.int .i64 (heavyT t d tr n)) ∧ w' = w

theorem mulBound {n m : Int} (h1 : 1 ≤ n) (h2 : n ≤ 64) (h3 : 1 ≤ m) (h4 : m ≤ 9) : 1 ≤ n * m ∧ n * m ≤ 576 := by
  have h : m = 1 ∨ m = 2 ∨ m = 3 ∨ m = 4 ∨ m = 5 ∨ m = 6 ∨ m = 7 ∨ m = 8 ∨ m = 9 := by omega
  rcases h with rfl | rfl | rfl | rfl | rfl | rfl | rfl | rfl | rfl <;> omega

theorem sum_le {α : Type} (f : α → Nat) : ∀ (l : List α) (x : α), x ∈ l → f x ≤ (l.map f).sum := by
  intro l
  induction l with
  | nil => intro x h; simp at h
  | cons y r ih =>
    intro x h
    simp only [List.mem_cons] at h
    rcases h with rfl | h
    · simp
    · have := ih x h; simp; omega

theorem length_le_sum {α : Type} (f : α → Nat) (hf : ∀ x, 1 ≤ f x) : ∀ (l : List α), l.length ≤ (l.map f).sum := by
  intro l
  induction l with
  | nil => simp
  | cons y r ih => have := hf y; simp; omega

set_option maxHeartbeats 1000000 in
theorem heavy_empty (a : Option Addr) (cap : Nat) (n : Int) (w : World) :
    Calls Try.prog 46 #[.slice a 0 cap, .int .i64 n] w fun e w' => e = .returned (.int .i64 (-1)) ∧ w' = w := by
  go_enter Try.func46, Try.ntmps46
  go_wp2_with fail
  go_loop [5] (fun i => i = .int .i64 0) (fun _ => 0)
  case atStart => rfl
  case round =>
    subst hrel
    go_wp2_with fail
    go_ret
    exact ⟨rfl, rfl⟩

set_option maxHeartbeats 2000000 in
theorem heavy_succ (t : ByteArray) (d : Nat) (ih : HeavySaid t d) : HeavySaid t (d + 1) := by
  intro v tr n X w htr hok hsz hn1 hn2
  obtain ⟨xs, a, cap, g, hl, hv, ha, hcells, hsubs⟩ := htr.open
  subst hv
  have hlen : xs.length ≤ 400 := by
    have := length_le_sum (fun x : Hd × Tree d × Tree d => 1 + sizeT d x.2.1 + sizeT d x.2.2) (fun x => by omega) tr.list
    have e : tr.list.length = xs.length := by rw [hl]; exact List.length_map ..
    have e2 : sizeT (d + 1) tr = (tr.list.map fun x : Hd × Tree d × Tree d => 1 + sizeT d x.2.1 + sizeT d x.2.2).sum := rfl
    omega
  have HOK : Hid (∀ (i : Nat) (hi : i < xs.length), OkT t d xs[i].1.2.1 ∧ OkT t d xs[i].1.2.2 ∧ (bytesOf t xs[i].1.1.p = kRepeat → 1 ≤ xs[i].1.1.n ∧ xs[i].1.1.n ≤ 9) ∧ sizeT d xs[i].1.2.1 ≤ 400 ∧ sizeT d xs[i].1.2.2 ≤ 400) := by
    intro i hi
    have hm : xs[i].1 ∈ tr.list := by rw [hl]; exact List.mem_map.2 ⟨xs[i], List.getElem_mem hi, rfl⟩
    have h1 := hok _ hm
    have h2 := sum_le (fun x : Hd × Tree d × Tree d => 1 + sizeT d x.2.1 + sizeT d x.2.2) tr.list _ hm
    have e2 : sizeT (d + 1) tr = (tr.list.map fun x : Hd × Tree d × Tree d => 1 + sizeT d x.2.1 + sizeT d x.2.2).sum := rfl
    exact ⟨h1.2.2.2.2.2.1, h1.2.2.2.2.2.2, h1.2.2.2.2.1, by omega, by omega⟩
  have HT : Hid (heavyT t (d + 1) tr n = heavyL t (heavyT t d) (xs.map Prod.fst) n) := by show _ = _; rw [heavyT, hl]
  have HC : Hid (∀ (i : Nat) (hi : i < xs.length), w.cell? ⟨g, i * 7, none⟩ = some (.string (t.extract xs[i].1.1.p.1 xs[i].1.1.p.2)) ∧ w.cell? ⟨g, i * 7 + 1, none⟩ = some (.int .i64 xs[i].1.1.key) ∧
        w.cell? ⟨g, i * 7 + 2, none⟩ = some (.int .i64 xs[i].1.1.n) ∧ w.cell? ⟨g, i * 7 + 3, none⟩ = some (.int .i64 xs[i].1.1.m) ∧ w.cell? ⟨g, i * 7 + 4, none⟩ = some xs[i].2.1 ∧
        w.cell? ⟨g, i * 7 + 5, none⟩ = some xs[i].2.2 ∧ w.cell? ⟨g, i * 7 + 6, none⟩ = some (.int .i64 xs[i].1.1.p.1)) := hcells
  have HS : Hid (∀ (i : Nat) (hi : i < xs.length), TreeAt t w X d xs[i].2.1 xs[i].1.2.1 ∧ TreeAt t w X d xs[i].2.2 xs[i].1.2.2) := hsubs
  have HA : Hid (0 < xs.length → a = some ⟨g, 0, none⟩) := ha
  clear hl hok hsz hcells hsubs ha htr
  go_enter Try.func46, Try.ntmps46
  go_wp2_with fail
  go_loop [5] (fun i => ∃ k : Nat, k ≤ xs.length ∧ i = .int .i64 k ∧ heavyL t (heavyT t d) ((xs.drop k).map Prod.fst) n = heavyL t (heavyT t d) (xs.map Prod.fst) n) (fun i => xs.length - (intOf i).toNat)
  case atStart => exact ⟨0, Nat.zero_le _, rfl, rfl⟩
  case round =>
    obtain ⟨k, hk, rfl, hrun⟩ := hrel
    by_cases hlt : k < xs.length
    · have ha := HA.out (by omega)
      obtain ⟨c0, _, c2, _, c4, c5, c6⟩ := HC.out k hlt
      obtain ⟨ta, tb⟩ := HS.out k hlt
      obtain ⟨oa, ob, orp, za, zb⟩ := HOK.out k hlt
      rw [drop_cons_of xs k hlt, List.map_cons, heavyL] at hrun
      obtain ⟨va, hva⟩ : ∃ u, u = xs[k].2.1 := ⟨_, rfl⟩
      obtain ⟨vb, hvb⟩ : ∃ u, u = xs[k].2.2 := ⟨_, rfl⟩
      obtain ⟨s, hs⟩ : ∃ s, s = t.extract xs[k].1.1.p.1 xs[k].1.1.p.2 := ⟨_, rfl⟩
      obtain ⟨N, hN⟩ : ∃ N, N = xs[k].1.1.n := ⟨_, rfl⟩
      have hby : bytesOf t xs[k].1.1.p = s.data.toList := by rw [hs]; rfl
      rw [← hva] at c4 ta
      rw [← hvb] at c5 tb
      rw [← hs] at c0
      rw [← hN] at c2 orp hrun
      rw [hby] at orp hrun
      clear hva hvb hs hN hby
      subst ha
      have HTA : Hid (TreeAt t w X d va xs[k].1.2.1) := ta
      have HTB : Hid (TreeAt t w X d vb xs[k].1.2.2) := tb
      have HOA : Hid (OkT t d xs[k].1.2.1) := oa
      have HOB : Hid (OkT t d xs[k].1.2.2) := ob
      clear ta tb oa ob
      by_cases hrp : s.data.toList = kRepeat
      · rw [if_pos hrp] at hrun
        obtain ⟨o1, o2⟩ := orp hrp
        have hb := mulBound hn1 hn2 o1 o2
        have e0 : (s.toList == [114, 101, 112, 101, 97, 116]) = true := beq_yes hrp
        clear orp hrp
        by_cases h64 : 64 < n * N
        · rw [if_pos h64] at hrun
          have HR : Hid (_ = _) := hrun
          clear hrun
          go_wp2_with fail
          go_ret
          exact ⟨ret_int (by rw [HT.out, ← HR.out]), rfl⟩
        · rw [if_neg h64] at hrun
          have h64' : n * N ≤ 64 := by omega
          obtain ⟨P, hP⟩ : ∃ P, P = heavyT t d xs[k].1.2.1 (n * N) := ⟨_, rfl⟩
          obtain ⟨R, hR⟩ : ∃ R, R = heavyT t d xs[k].1.2.2 (n * N) := ⟨_, rfl⟩
          rw [← hP, ← hR] at hrun
          have HP : Hid (_ = _) := hP
          have HQ : Hid (_ = _) := hR
          clear hP hR
          by_cases hp : 0 ≤ P
          · rw [if_pos hp] at hrun
            have HR : Hid (_ = _) := hrun
            clear hrun
            go_wp2_with fail
            refine (ih va _ _ X _ HTA.out HOA.out za (by omega) h64').mono ?_
            rw [← HP.out]
            rintro e w' ⟨rfl, rfl⟩
            go_wp2_with fail
            go_ret
            exact ⟨ret_int (by rw [HT.out, ← HR.out]), rfl⟩
          · rw [if_neg hp] at hrun
            by_cases hq : 0 ≤ R
            · rw [if_pos hq] at hrun
              have HR : Hid (_ = _) := hrun
              clear hrun
              go_wp2_with fail
              refine (ih va _ _ X _ HTA.out HOA.out za (by omega) h64').mono ?_
              rw [← HP.out]
              rintro e w' ⟨rfl, rfl⟩
              go_wp2_with fail
              refine (ih vb _ _ X _ HTB.out HOB.out zb (by omega) h64').mono ?_
              rw [← HQ.out]
              rintro e w' ⟨rfl, rfl⟩
              go_wp2_with fail
              go_ret
              exact ⟨ret_int (by rw [HT.out, ← HR.out]), rfl⟩
            · rw [if_neg hq] at hrun
              have HR : Hid (_ = _) := hrun
              clear hrun
              go_wp2_with fail
              refine (ih va _ _ X _ HTA.out HOA.out za (by omega) h64').mono ?_
              rw [← HP.out]
              rintro e w' ⟨rfl, rfl⟩
              go_wp2_with fail
              refine (ih vb _ _ X _ HTB.out HOB.out zb (by omega) h64').mono ?_
              rw [← HQ.out]
              rintro e w' ⟨rfl, rfl⟩
              go_wp2_with fail
              go_round
              case rel => exact ⟨k + 1, by omega, by go_num, HR.out⟩
              case measure => simp [intOf]; omega
      · rw [if_neg hrp] at hrun
        have e0 : (s.toList == [114, 101, 112, 101, 97, 116]) = false := beq_no hrp
        clear orp hrp
        obtain ⟨P, hP⟩ : ∃ P, P = heavyT t d xs[k].1.2.1 (n) := ⟨_, rfl⟩
        obtain ⟨R, hR⟩ : ∃ R, R = heavyT t d xs[k].1.2.2 (n) := ⟨_, rfl⟩
        rw [← hP, ← hR] at hrun
        have HP : Hid (_ = _) := hP
        have HQ : Hid (_ = _) := hR
        clear hP hR
        by_cases hp : 0 ≤ P
        · rw [if_pos hp] at hrun
          have HR : Hid (_ = _) := hrun
          clear hrun
          go_wp2_with fail
          refine (ih va _ _ X _ HTA.out HOA.out za hn1 hn2).mono ?_
          rw [← HP.out]
          rintro e w' ⟨rfl, rfl⟩
          go_wp2_with fail
          go_ret
          exact ⟨ret_int (by rw [HT.out, ← HR.out]), rfl⟩
        · rw [if_neg hp] at hrun
          by_cases hq : 0 ≤ R
          · rw [if_pos hq] at hrun
            have HR : Hid (_ = _) := hrun
            clear hrun
            go_wp2_with fail
            refine (ih va _ _ X _ HTA.out HOA.out za hn1 hn2).mono ?_
            rw [← HP.out]
            rintro e w' ⟨rfl, rfl⟩
            go_wp2_with fail
            refine (ih vb _ _ X _ HTB.out HOB.out zb hn1 hn2).mono ?_
            rw [← HQ.out]
            rintro e w' ⟨rfl, rfl⟩
            go_wp2_with fail
            go_ret
            exact ⟨ret_int (by rw [HT.out, ← HR.out]), rfl⟩
          · rw [if_neg hq] at hrun
            have HR : Hid (_ = _) := hrun
            clear hrun
            go_wp2_with fail
            refine (ih va _ _ X _ HTA.out HOA.out za hn1 hn2).mono ?_
            rw [← HP.out]
            rintro e w' ⟨rfl, rfl⟩
            go_wp2_with fail
            refine (ih vb _ _ X _ HTB.out HOB.out zb hn1 hn2).mono ?_
            rw [← HQ.out]
            rintro e w' ⟨rfl, rfl⟩
            go_wp2_with fail
            go_round
            case rel => exact ⟨k + 1, by omega, by go_num, HR.out⟩
            case measure => simp [intOf]; omega
    · rw [List.drop_of_length_le (by omega)] at hrun
      have HR : Hid (_ = _) := hrun
      clear hrun
      go_wp2_with fail
      go_ret
      exact ⟨ret_int (by rw [HT.out, ← HR.out]; rfl), rfl⟩

theorem heavy_any (t : ByteArray) (d : Nat) : HeavySaid t d := by
  induction d with
  | zero =>
    intro v tr n X w htr _ _ _ _
    obtain ⟨a, cap, rfl⟩ := htr
    exact heavy_empty a cap n w
  | succ d ih => exact heavy_succ t d ih

end Go.Proofs.Ytiaibigmbflpiaa
