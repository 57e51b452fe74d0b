/- What heavy of the document's own answer gives back. What Lasts and lasts of the document's own answer give back. -/
import Derived.Test.YtmmmnghiegajmaaRefF
import Derived.Test.YtmmmnghiegajmaaPure
namespace Go.Proofs.Ytmmmnghiegajmaa
open Go.RowKit Go.Proofs.Herald

theorem itemsCells_get (t : ByteArray) {T : Type} : ∀ (xs : List ((Hd × T × T) × (Value × Value))) (i : Nat) (hi : i < xs.length) (j : Nat) (_ : j < 7),
    (itemsCells t xs)[i * 7 + j]? = (stmtCells t xs[i].1.1 xs[i].2)[j]? := by
  intro xs
  induction xs with
  | nil => intro i hi; simp at hi
  | cons x r ih =>
    intro i hi j hj
    have hl : (stmtCells t x.1.1 x.2).length = 7 := rfl
    cases i with
    | zero =>
      simp only [itemsCells, List.flatMap_cons, Nat.zero_mul, Nat.zero_add, List.getElem_cons_zero]
      rw [List.getElem?_append_left (by omega)]
    | succ i =>
      have := ih i (by simpa using hi) j hj
      simp only [itemsCells, List.flatMap_cons, List.getElem_cons_succ] at this ⊢
      rw [List.getElem?_append_right (by omega), show (i + 1) * 7 + j - (stmtCells t x.1.1 x.2).length = i * 7 + j from by omega]
      exact this

/-- What a list of statements looks like in memory. -/
theorem TreeAt.open {t : ByteArray} {w : World} {X : Nat → Prop} {d : Nat} {v : Value} {l : Tree (d + 1)} (h : TreeAt t w X (d + 1) v l) :
    ∃ (xs : List ((Hd × Tree d × Tree d) × (Value × Value))) (a : Option Addr) (cap g : Nat), l = xs.map Prod.fst ∧ v = .slice a xs.length cap ∧ (0 < xs.length → a = some ⟨g, 0, none⟩) ∧
      (∀ (i : Nat) (hi : i < xs.length), w.cell? ⟨g, i * 7, none⟩ = some (.string (t.extract xs[i].1.1.p.1 xs[i].1.1.p.2)) ∧ w.cell? ⟨g, i * 7 + 1, none⟩ = some (.int .i64 xs[i].1.1.key) ∧
        w.cell? ⟨g, i * 7 + 2, none⟩ = some (.int .i64 xs[i].1.1.n) ∧ w.cell? ⟨g, i * 7 + 3, none⟩ = some (.int .i64 xs[i].1.1.m) ∧ w.cell? ⟨g, i * 7 + 4, none⟩ = some xs[i].2.1 ∧
        w.cell? ⟨g, i * 7 + 5, none⟩ = some xs[i].2.2 ∧ w.cell? ⟨g, i * 7 + 6, none⟩ = some (.int .i64 xs[i].1.1.p.1)) ∧
      (∀ (i : Nat) (hi : i < xs.length), TreeAt t w X d xs[i].2.1 xs[i].1.2.1 ∧ TreeAt t w X d xs[i].2.2 xs[i].1.2.2) := by
  obtain ⟨xs, h1, h2, h3, h4, h5⟩ := h
  rcases h2.2 with ⟨rfl, h0⟩ | ⟨g, cap, cur, rfl, hb, hg, hn, hm, hs, ht⟩
  · exact ⟨xs, none, 0, 0, h1, by rw [h0], by omega, fun i hi => by omega, fun i hi => h4 _ (List.getElem_mem hi)⟩
  · refine ⟨xs, _, cap, g, h1, rfl, fun _ => rfl, fun i hi => ?_, fun i hi => h4 _ (List.getElem_mem hi)⟩
    have hc := h2.cells (g := g) rfl
    have key : ∀ (j : Nat) (u : Value), j < 7 → (stmtCells t xs[i].1.1 xs[i].2)[j]? = some u → w.cell? ⟨g, i * 7 + j, none⟩ = some u := fun j u hj hu => by
      have := hc (i * 7 + j) u (by rw [itemsCells_get t xs i hi j hj]; exact hu)
      rwa [Addr.add_lit, Nat.zero_add] at this
    exact ⟨key 0 _ (by omega) rfl, key 1 _ (by omega) rfl, key 2 _ (by omega) rfl, key 3 _ (by omega) rfl, key 4 _ (by omega) rfl, key 5 _ (by omega) rfl, key 6 _ (by omega) rfl⟩

/-- What heavy gives back, of a tree d deep. -/
def HeavySaid (t : ByteArray) (d : Nat) : Prop :=
  ∀ (v : Value) (tr : Tree d) (n : Int) (X : Nat → Prop) (w : World), TreeAt t w X d v tr → OkT t d tr → sizeT d tr ≤ 400 → 1 ≤ n → n ≤ 64 →
    Calls Try.prog 48 #[v, .int .i64 n] w fun e w' => e = .returned (.int .i64 (heavyT t d tr n)) ∧ w' = w

theorem mulBound {n m : Int} (h1 : 1 ≤ n) (h2 : n ≤ 64) (h3 : 1 ≤ m) (h4 : m ≤ 9) : 1 ≤ n * m ∧ n * m ≤ 576 := by
  have h : m = 1 ∨ m = 2 ∨ m = 3 ∨ m = 4 ∨ m = 5 ∨ m = 6 ∨ m = 7 ∨ m = 8 ∨ m = 9 := by omega
  rcases h with rfl | rfl | rfl | rfl | rfl | rfl | rfl | rfl | rfl <;> omega

theorem sum_le {α : Type} (f : α → Nat) : ∀ (l : List α) (x : α), x ∈ l → f x ≤ (l.map f).sum := by
  intro l
  induction l with
  | nil => intro x h; simp at h
  | cons y r ih =>
    intro x h
    simp only [List.mem_cons] at h
    rcases h with rfl | h
    · simp
    · have := ih x h; simp; omega

theorem length_le_sum {α : Type} (f : α → Nat) (hf : ∀ x, 1 ≤ f x) : ∀ (l : List α), l.length ≤ (l.map f).sum := by
  intro l
  induction l with
  | nil => simp
  | cons y r ih => have := hf y; simp; omega

set_option maxHeartbeats 1000000 in
theorem heavy_empty (a : Option Addr) (cap : Nat) (n : Int) (w : World) :
    Calls Try.prog 48 #[.slice a 0 cap, .int .i64 n] w fun e w' => e = .returned (.int .i64 (-1)) ∧ w' = w := by
  go_enter Try.func48, Try.ntmps48
  go_wp2_with fail
  go_loop [5] (fun i => i = .int .i64 0) (fun _ => 0)
  case atStart => rfl
  case round =>
    subst hrel
    go_wp2_with fail
    go_ret
    exact ⟨rfl, rfl⟩

set_option maxHeartbeats 2000000 in
theorem heavy_succ (t : ByteArray) (d : Nat) (ih : HeavySaid t d) : HeavySaid t (d + 1) := by
  intro v tr n X w htr hok hsz hn1 hn2
  obtain ⟨xs, a, cap, g, hl, hv, ha, hcells, hsubs⟩ := htr.open
  subst hv
  have hlen : xs.length ≤ 400 := by
    have := length_le_sum (fun x : Hd × Tree d × Tree d => 1 + sizeT d x.2.1 + sizeT d x.2.2) (fun x => by omega) tr.list
    have e : tr.list.length = xs.length := by rw [hl]; exact List.length_map ..
    have e2 : sizeT (d + 1) tr = (tr.list.map fun x : Hd × Tree d × Tree d => 1 + sizeT d x.2.1 + sizeT d x.2.2).sum := rfl
    omega
  have HOK : Hid (∀ (i : Nat) (hi : i < xs.length), OkT t d xs[i].1.2.1 ∧ OkT t d xs[i].1.2.2 ∧ (bytesOf t xs[i].1.1.p = kRepeat → 1 ≤ xs[i].1.1.n ∧ xs[i].1.1.n ≤ 9) ∧ sizeT d xs[i].1.2.1 ≤ 400 ∧ sizeT d xs[i].1.2.2 ≤ 400) := by
    intro i hi
    have hm : xs[i].1 ∈ tr.list := by rw [hl]; exact List.mem_map.2 ⟨xs[i], List.getElem_mem hi, rfl⟩
    have h1 := hok _ hm
    have h2 := sum_le (fun x : Hd × Tree d × Tree d => 1 + sizeT d x.2.1 + sizeT d x.2.2) tr.list _ hm
    have e2 : sizeT (d + 1) tr = (tr.list.map fun x : Hd × Tree d × Tree d => 1 + sizeT d x.2.1 + sizeT d x.2.2).sum := rfl
    exact ⟨h1.2.2.2.2.2.1, h1.2.2.2.2.2.2, h1.2.2.2.2.1, by omega, by omega⟩
  have HT : Hid (heavyT t (d + 1) tr n = heavyL t (heavyT t d) (xs.map Prod.fst) n) := by show _ = _; rw [heavyT, hl]
  have HC : Hid (∀ (i : Nat) (hi : i < xs.length), w.cell? ⟨g, i * 7, none⟩ = some (.string (t.extract xs[i].1.1.p.1 xs[i].1.1.p.2)) ∧ w.cell? ⟨g, i * 7 + 1, none⟩ = some (.int .i64 xs[i].1.1.key) ∧
        w.cell? ⟨g, i * 7 + 2, none⟩ = some (.int .i64 xs[i].1.1.n) ∧ w.cell? ⟨g, i * 7 + 3, none⟩ = some (.int .i64 xs[i].1.1.m) ∧ w.cell? ⟨g, i * 7 + 4, none⟩ = some xs[i].2.1 ∧
        w.cell? ⟨g, i * 7 + 5, none⟩ = some xs[i].2.2 ∧ w.cell? ⟨g, i * 7 + 6, none⟩ = some (.int .i64 xs[i].1.1.p.1)) := hcells
  have HS : Hid (∀ (i : Nat) (hi : i < xs.length), TreeAt t w X d xs[i].2.1 xs[i].1.2.1 ∧ TreeAt t w X d xs[i].2.2 xs[i].1.2.2) := hsubs
  have HA : Hid (0 < xs.length → a = some ⟨g, 0, none⟩) := ha
  clear hl hok hsz hcells hsubs ha htr
  go_enter Try.func48, Try.ntmps48
  go_wp2_with fail
  go_loop [5] (fun i => ∃ k : Nat, k ≤ xs.length ∧ i = .int .i64 k ∧ heavyL t (heavyT t d) ((xs.drop k).map Prod.fst) n = heavyL t (heavyT t d) (xs.map Prod.fst) n) (fun i => xs.length - (intOf i).toNat)
  case atStart => exact ⟨0, Nat.zero_le _, rfl, rfl⟩
  case round =>
    obtain ⟨k, hk, rfl, hrun⟩ := hrel
    by_cases hlt : k < xs.length
    · have ha := HA.out (by omega)
      obtain ⟨c0, _, c2, _, c4, c5, c6⟩ := HC.out k hlt
      obtain ⟨ta, tb⟩ := HS.out k hlt
      obtain ⟨oa, ob, orp, za, zb⟩ := HOK.out k hlt
      rw [drop_cons_of xs k hlt, List.map_cons, heavyL] at hrun
      obtain ⟨va, hva⟩ : ∃ u, u = xs[k].2.1 := ⟨_, rfl⟩
      obtain ⟨vb, hvb⟩ : ∃ u, u = xs[k].2.2 := ⟨_, rfl⟩
      obtain ⟨s, hs⟩ : ∃ s, s = t.extract xs[k].1.1.p.1 xs[k].1.1.p.2 := ⟨_, rfl⟩
      obtain ⟨N, hN⟩ : ∃ N, N = xs[k].1.1.n := ⟨_, rfl⟩
      have hby : bytesOf t xs[k].1.1.p = s.data.toList := by rw [hs]; rfl
      rw [← hva] at c4 ta
      rw [← hvb] at c5 tb
      rw [← hs] at c0
      rw [← hN] at c2 orp hrun
      rw [hby] at orp hrun
      clear hva hvb hs hN hby
      subst ha
      have HTA : Hid (TreeAt t w X d va xs[k].1.2.1) := ta
      have HTB : Hid (TreeAt t w X d vb xs[k].1.2.2) := tb
      have HOA : Hid (OkT t d xs[k].1.2.1) := oa
      have HOB : Hid (OkT t d xs[k].1.2.2) := ob
      clear ta tb oa ob
      by_cases hrp : s.data.toList = kRepeat
      · rw [if_pos hrp] at hrun
        obtain ⟨o1, o2⟩ := orp hrp
        have hb := mulBound hn1 hn2 o1 o2
        have e0 : (s.toList == [114, 101, 112, 101, 97, 116]) = true := beq_yes hrp
        clear orp hrp
        by_cases h64 : 64 < n * N
        · rw [if_pos h64] at hrun
          have HR : Hid (_ = _) := hrun
          clear hrun
          go_wp2_with fail
          go_ret
          exact ⟨ret_int (by rw [HT.out, ← HR.out]), rfl⟩
        · rw [if_neg h64] at hrun
          have h64' : n * N ≤ 64 := by omega
          obtain ⟨P, hP⟩ : ∃ P, P = heavyT t d xs[k].1.2.1 (n * N) := ⟨_, rfl⟩
          obtain ⟨R, hR⟩ : ∃ R, R = heavyT t d xs[k].1.2.2 (n * N) := ⟨_, rfl⟩
          rw [← hP, ← hR] at hrun
          have HP : Hid (_ = _) := hP
          have HQ : Hid (_ = _) := hR
          clear hP hR
          by_cases hp : 0 ≤ P
          · rw [if_pos hp] at hrun
            have HR : Hid (_ = _) := hrun
            clear hrun
            go_wp2_with fail
            refine (ih va _ _ X _ HTA.out HOA.out za (by omega) h64').mono ?_
            rw [← HP.out]
            rintro e w' ⟨rfl, rfl⟩
            go_wp2_with fail
            go_ret
            exact ⟨ret_int (by rw [HT.out, ← HR.out]), rfl⟩
          · rw [if_neg hp] at hrun
            by_cases hq : 0 ≤ R
            · rw [if_pos hq] at hrun
              have HR : Hid (_ = _) := hrun
              clear hrun
              go_wp2_with fail
              refine (ih va _ _ X _ HTA.out HOA.out za (by omega) h64').mono ?_
              rw [← HP.out]
              rintro e w' ⟨rfl, rfl⟩
              go_wp2_with fail
              refine (ih vb _ _ X _ HTB.out HOB.out zb (by omega) h64').mono ?_
              rw [← HQ.out]
              rintro e w' ⟨rfl, rfl⟩
              go_wp2_with fail
              go_ret
              exact ⟨ret_int (by rw [HT.out, ← HR.out]), rfl⟩
            · rw [if_neg hq] at hrun
              have HR : Hid (_ = _) := hrun
              clear hrun
              go_wp2_with fail
              refine (ih va _ _ X _ HTA.out HOA.out za (by omega) h64').mono ?_
              rw [← HP.out]
              rintro e w' ⟨rfl, rfl⟩
              go_wp2_with fail
              refine (ih vb _ _ X _ HTB.out HOB.out zb (by omega) h64').mono ?_
              rw [← HQ.out]
              rintro e w' ⟨rfl, rfl⟩
              go_wp2_with fail
              go_round
              case rel => exact ⟨k + 1, by omega, by go_num, HR.out⟩
              case measure => simp [intOf]; omega
      · rw [if_neg hrp] at hrun
        have e0 : (s.toList == [114, 101, 112, 101, 97, 116]) = false := beq_no hrp
        clear orp hrp
        obtain ⟨P, hP⟩ : ∃ P, P = heavyT t d xs[k].1.2.1 (n) := ⟨_, rfl⟩
        obtain ⟨R, hR⟩ : ∃ R, R = heavyT t d xs[k].1.2.2 (n) := ⟨_, rfl⟩
        rw [← hP, ← hR] at hrun
        have HP : Hid (_ = _) := hP
        have HQ : Hid (_ = _) := hR
        clear hP hR
        by_cases hp : 0 ≤ P
        · rw [if_pos hp] at hrun
          have HR : Hid (_ = _) := hrun
          clear hrun
          go_wp2_with fail
          refine (ih va _ _ X _ HTA.out HOA.out za hn1 hn2).mono ?_
          rw [← HP.out]
          rintro e w' ⟨rfl, rfl⟩
          go_wp2_with fail
          go_ret
          exact ⟨ret_int (by rw [HT.out, ← HR.out]), rfl⟩
        · rw [if_neg hp] at hrun
          by_cases hq : 0 ≤ R
          · rw [if_pos hq] at hrun
            have HR : Hid (_ = _) := hrun
            clear hrun
            go_wp2_with fail
            refine (ih va _ _ X _ HTA.out HOA.out za hn1 hn2).mono ?_
            rw [← HP.out]
            rintro e w' ⟨rfl, rfl⟩
            go_wp2_with fail
            refine (ih vb _ _ X _ HTB.out HOB.out zb hn1 hn2).mono ?_
            rw [← HQ.out]
            rintro e w' ⟨rfl, rfl⟩
            go_wp2_with fail
            go_ret
            exact ⟨ret_int (by rw [HT.out, ← HR.out]), rfl⟩
          · rw [if_neg hq] at hrun
            have HR : Hid (_ = _) := hrun
            clear hrun
            go_wp2_with fail
            refine (ih va _ _ X _ HTA.out HOA.out za hn1 hn2).mono ?_
            rw [← HP.out]
            rintro e w' ⟨rfl, rfl⟩
            go_wp2_with fail
            refine (ih vb _ _ X _ HTB.out HOB.out zb hn1 hn2).mono ?_
            rw [← HQ.out]
            rintro e w' ⟨rfl, rfl⟩
            go_wp2_with fail
            go_round
            case rel => exact ⟨k + 1, by omega, by go_num, HR.out⟩
            case measure => simp [intOf]; omega
    · rw [List.drop_of_length_le (by omega)] at hrun
      have HR : Hid (_ = _) := hrun
      clear hrun
      go_wp2_with fail
      go_ret
      exact ⟨ret_int (by rw [HT.out, ← HR.out]; rfl), rfl⟩

theorem heavy_any (t : ByteArray) (d : Nat) : HeavySaid t d := by
  induction d with
  | zero =>
    intro v tr n X w htr _ _ _ _
    obtain ⟨a, cap, rfl⟩ := htr
    exact heavy_empty a cap n w
  | succ d ih => exact heavy_succ t d ih

end Go.Proofs.Ytmmmnghiegajmaa

namespace Go.Proofs.Ytmmmnghiegajmaa
open Go.RowKit Go.Proofs.Herald

theorem tree_alloc {t : ByteArray} {w : World} {d : Nat} {v : Value} {l : Tree d} {X : Nat → Prop} (o : Obj) (h : TreeAt t w X d v l) (hX : ∀ k, X k → k < w.heap.size) : TreeAt t (w.alloc o) X d v l :=
  TreeAt.keep (fun k hk => Below.heap_alloc _ _ _ (hX k hk)) d v l h

set_option maxHeartbeats 400000 in
theorem behind_big (a b : Int) (w : World) (ha : a ≤ 4000000000000000000) (hb : b ≤ 4000000000000000000) :
    Calls Try.prog 84 #[.int .i64 a, .int .i64 b] w fun e w' => e = .returned (.int .i64 (behindI a b)) ∧ w' = w := by
  by_cases h : a < 0
  · go_enter Try.func84, Try.ntmps84
    go_wp2
    go_ret
    exact ⟨ret_int (by rw [behindI, if_pos (by omega)]), rfl⟩
  · by_cases h2 : b < 0
    · go_enter Try.func84, Try.ntmps84
      go_wp2
      go_ret
      exact ⟨ret_int (by rw [behindI, if_pos (by omega)]), rfl⟩
    · go_enter Try.func84, Try.ntmps84
      go_wp2
      go_ret
      exact ⟨ret_int (by rw [behindI, if_neg (by omega)]), rfl⟩

/-- What Lasts gives back, of a tree d deep. -/
def LastsSaid (t : ByteArray) (d : Nat) : Prop :=
  ∀ (v : Value) (tr : Tree d) (X : Nat → Prop) (w : World), TreeAt t w X d v tr → OkT t d tr → sizeT d tr ≤ 400 → d ≤ 5 →
    Calls Try.prog 49 #[v] w fun e w' => e = .returned (.tuple #[.int .i64 (lastsT t d tr).1, .int .i64 (lastsT t d tr).2]) ∧ Below w.heap.size w w'

/-- What lasts gives back, of a statement whose blocks are d deep. -/
def OneSaid (t : ByteArray) (d : Nat) : Prop :=
  ∀ (h : Hd) (va vb : Value) (A B : Tree d) (X : Nat → Prop) (w : World), TreeAt t w X d va A → TreeAt t w X d vb B → (∀ k, X k → k < w.heap.size) → OkT t d A → OkT t d B → sizeT d A ≤ 400 → sizeT d B ≤ 400 →
    0 ≤ h.n → h.n ≤ 999 → 0 ≤ h.m → h.m ≤ 6 → (bytesOf t h.p = kRepeat → 1 ≤ h.n ∧ h.n ≤ 9) →
    Calls Try.prog 83 #[.agg #[.string (t.extract h.p.1 h.p.2), .int .i64 h.key, .int .i64 h.n, .int .i64 h.m, va, vb, .int .i64 h.p.1]] w fun e w' =>
      e = .returned (.tuple #[.int .i64 (oneI t h (lastsT t d A) (lastsT t d B)).1, .int .i64 (oneI t h (lastsT t d A) (lastsT t d B)).2]) ∧ Below w.heap.size w w'

set_option maxHeartbeats 2000000 in
theorem lasts_one (t : ByteArray) (d : Nat) (hd : d ≤ 5) (ih : LastsSaid t d) : OneSaid t d := by
  intro h va vb A B X w ta tb hX oa ob za zb hn0 hn9 hm0 hm6 hrep
  obtain ⟨s, hs⟩ : ∃ s, s = t.extract h.p.1 h.p.2 := ⟨_, rfl⟩
  have hby : bytesOf t h.p = s.data.toList := by rw [hs]; rfl
  rw [← hs]
  rw [hby] at hrep
  have ba := atMost_big (lastsT_atMost t d A oa) za hd
  have bb := atMost_big (lastsT_atMost t d B ob) zb hd
  obtain ⟨a, hA⟩ : ∃ a, a = lastsT t d A := ⟨_, rfl⟩
  obtain ⟨b, hB⟩ : ∃ b, b = lastsT t d B := ⟨_, rfl⟩
  have HO : Hid (oneI t h (lastsT t d A) (lastsT t d B) = if s.data.toList = kWait then (h.n, -1) else if s.data.toList = kStop then (-1, 0) else if s.data.toList = kSend then (0, -1)
      else if s.data.toList = kRepeat then rounds h.n.toNat (0, -1) a
      else (maxI (behindI (triesI h.n (h.m - 1).toNat - 1) a.1) (behindI (triesI h.n (h.m - 1).toNat) b.1), maxI (behindI (triesI h.n (h.m - 1).toNat - 1) a.2) (behindI (triesI h.n (h.m - 1).toNat) b.2))) := by
    show _ = _
    rw [oneI, hby, hA, hB]
  obtain ⟨N, hN⟩ : ∃ N, N = h.n := ⟨_, rfl⟩
  obtain ⟨M, hM⟩ : ∃ M, M = h.m := ⟨_, rfl⟩
  rw [← hN] at hn0 hn9 hrep HO
  rw [← hM] at hm0 hm6 HO
  rw [← hN, ← hM]
  rw [← hA] at ba
  rw [← hB] at bb
  obtain ⟨ba1, ba2, ba3, ba4⟩ := ba
  obtain ⟨bb1, bb2, bb3, bb4⟩ := bb
  have HA : Hid (a = lastsT t d A) := hA
  have HB : Hid (b = lastsT t d B) := hB
  have HTA : Hid (TreeAt t w X d va A) := ta
  have HTB : Hid (TreeAt t w X d vb B) := tb
  have HXX : Hid (∀ k, X k → k < w.heap.size) := hX
  have HOA : Hid (OkT t d A) := oa
  have HOB : Hid (OkT t d B) := ob
  obtain ⟨aa, na, ca, hva⟩ := ta.one
  obtain ⟨ab, nb, cb, hvb⟩ := tb.one
  clear hA hB hby hs hN hM ta tb hX oa ob
  subst hva
  subst hvb
  by_cases k1 : s.data.toList = kWait
  · have HR : Hid (_ = _) := HO.out.trans (if_pos k1)
    have e1 : (s.toList == [119, 97, 105, 116]) = true := beq_yes k1
    clear k1 hrep
    go_enter Try.func83, Try.ntmps83
    go_wp2_with fail
    go_ret2
    exact ⟨ret_two (by rw [HR.out]) (by rw [HR.out]), (Below.refl _ _).alloc (Nat.le_refl _) _⟩
  have HO1 : Hid (_ = _) := HO.out.trans (if_neg k1)
  have e1 : (s.toList == [119, 97, 105, 116]) = false := beq_no k1
  by_cases k2 : s.data.toList = kStop
  · have HR : Hid (_ = _) := HO1.out.trans (if_pos k2)
    have e2 : (s.toList == [115, 116, 111, 112]) = true := beq_yes k2
    clear k1 k2 hrep
    go_enter Try.func83, Try.ntmps83
    go_wp2_with fail
    go_ret2
    exact ⟨ret_two (by rw [HR.out]) (by rw [HR.out]), (Below.refl _ _).alloc (Nat.le_refl _) _⟩
  have HO2 : Hid (_ = _) := HO1.out.trans (if_neg k2)
  have e2 : (s.toList == [115, 116, 111, 112]) = false := beq_no k2
  by_cases k3 : s.data.toList = kSend
  · have HR : Hid (_ = _) := HO2.out.trans (if_pos k3)
    have e3 : (s.toList == [115, 101, 110, 100]) = true := beq_yes k3
    clear k1 k2 k3 hrep
    go_enter Try.func83, Try.ntmps83
    go_wp2_with fail
    go_ret2
    exact ⟨ret_two (by rw [HR.out]) (by rw [HR.out]), (Below.refl _ _).alloc (Nat.le_refl _) _⟩
  have HO3 : Hid (_ = _) := HO2.out.trans (if_neg k3)
  have e3 : (s.toList == [115, 101, 110, 100]) = false := beq_no k3
  by_cases k4 : s.data.toList = kRepeat
  · have HR : Hid (_ = _) := HO3.out.trans (if_pos k4)
    have e4 : (s.toList == [114, 101, 112, 101, 97, 116]) = true := beq_yes k4
    obtain ⟨r1, r2⟩ := hrep k4
    clear k1 k2 k3 k4 hrep HO HO1 HO2 HO3
    go_enter Try.func83, Try.ntmps83
    go_wp2_with fail
    refine (ih _ A X _ ?_ HOA.out za hd).mono ?_
    · exact tree_alloc _ HTA.out HXX.out
    rw [← HA.out]
    rintro e w1 ⟨rfl, hb1⟩
    have hwc : (w.alloc (.cells #[.string s, .int .i64 h.key, .int .i64 N, .int .i64 M, .slice aa na ca, .slice ab nb cb, .int .i64 h.p.1] 169)).heap.size = w.heap.size + 1 := by simp
    rw [hwc] at hb1
    have hF1 : w1.heap[w.heap.size]? = some (.cells #[.string s, .int .i64 h.key, .int .i64 N, .int .i64 M, .slice aa na ca, .slice ab nb cb, .int .i64 h.p.1] 169 (0, 0)) := (hb1.block _ (by omega)).trans (heap_alloc_new _ _)
    have hc0 : w1.cell? ⟨w.heap.size, 0, none⟩ = some (.string s) := (cell_of_heap hF1).trans rfl
    have hc2 : w1.cell? ⟨w.heap.size, 2, none⟩ = some (.int .i64 N) := (cell_of_heap hF1).trans rfl
    have HB1 : Hid (Below w.heap.size w w1) := ((Below.refl _ _).alloc (Nat.le_refl _) _).trans (hb1.mono (by omega))
    clear hF1 hb1 hwc
    go_wp2_with fail
    go_loop [6, 7, 8] (fun x y i => ∃ (j : Nat) (p q : Int), j ≤ N.toNat ∧ i = .int .i64 j ∧ x = .int .i64 p ∧ y = .int .i64 q ∧ -1 ≤ p ∧ p ≤ j * 10000000000000 ∧ -1 ≤ q ∧ q ≤ j * 10000000000000 ∧ rounds (N.toNat - j) (p, q) a = rounds N.toNat (0, -1) a) (fun _ _ i => N.toNat - (intOf i).toNat)
    case atStart => exact ⟨0, 0, -1, by omega, rfl, rfl, rfl, by omega, by omega, by omega, by omega, rfl⟩
    case round =>
      obtain ⟨j, p, q, hj, rfl, rfl, rfl, p1, p2, q1, q2, hr⟩ := hrel
      by_cases hlt : j < N.toNat
      · have hlt' : (j : Int) < N := by omega
        rw [show N.toNat - j = (N.toNat - (j + 1)) + 1 from by omega, rounds] at hr
        have HRR : Hid (_ = _) := hr
        clear hr
        go_wp2_with (first | (go_at_call 84; refine (behind_big _ _ _ (by omega) (by omega)).mono ?_; rintro e w' ⟨rfl, rfl⟩) | (go_at_call 50; refine (greater_any _ _ _).mono ?_; rintro e w' ⟨rfl, rfl⟩))
        go_round
        case rel =>
          have s1 := AtMost.step (acc := (p, q)) (a := a) (c := j * 10000000000000) (e := 10000000000000) ⟨p1, p2, q1, q2⟩ ⟨ba1, ba2, ba3, ba4⟩ (by omega) (by omega)
          exact ⟨j + 1, _, _, by omega, by go_num, rfl, rfl, s1.1, by have := s1.2.1; simp only at this; omega, s1.2.2.1, by have := s1.2.2.2; simp only at this; omega, HRR.out⟩
        case measure => simp [intOf]; omega
      · have hlt' : ¬ (j : Int) < N := by omega
        rw [show N.toNat - j = 0 from by omega, rounds] at hr
        have HRR : Hid (_ = _) := hr
        clear hr hlt
        go_wp2_with fail
        go_ret2
        exact ⟨ret_two (by rw [HR.out, ← HRR.out]) (by rw [HR.out, ← HRR.out]), HB1.out⟩
  · have HR : Hid (_ = _) := HO3.out.trans (if_neg k4)
    have e4 : (s.toList == [114, 101, 112, 101, 97, 116]) = false := beq_no k4
    clear k1 k2 k3 k4 hrep HO HO1 HO2 HO3
    have ht := triesI_bound N hn0 hn9 (M - 1).toNat (by omega)
    go_enter Try.func83, Try.ntmps83
    go_wp2_with fail
    refine (ih _ A X _ ?_ HOA.out za hd).mono ?_
    · exact tree_alloc _ HTA.out HXX.out
    rw [← HA.out]
    rintro e w1 ⟨rfl, hb1⟩
    have hwc : (w.alloc (.cells #[.string s, .int .i64 h.key, .int .i64 N, .int .i64 M, .slice aa na ca, .slice ab nb cb, .int .i64 h.p.1] 169)).heap.size = w.heap.size + 1 := by simp
    rw [hwc] at hb1
    have hs1 := hb1.size
    rw [hwc] at hs1
    have hF1 : w1.heap[w.heap.size]? = some (.cells #[.string s, .int .i64 h.key, .int .i64 N, .int .i64 M, .slice aa na ca, .slice ab nb cb, .int .i64 h.p.1] 169 (0, 0)) := (hb1.block _ (by omega)).trans (heap_alloc_new _ _)
    have hc0 : w1.cell? ⟨w.heap.size, 0, none⟩ = some (.string s) := (cell_of_heap hF1).trans rfl
    have hc2 : w1.cell? ⟨w.heap.size, 2, none⟩ = some (.int .i64 N) := (cell_of_heap hF1).trans rfl
    have hc3 : w1.cell? ⟨w.heap.size, 3, none⟩ = some (.int .i64 M) := (cell_of_heap hF1).trans rfl
    have hc5 : w1.cell? ⟨w.heap.size, 5, none⟩ = some (.slice ab nb cb) := (cell_of_heap hF1).trans rfl
    have HB1 : Hid (Below w.heap.size w w1) := ((Below.refl _ _).alloc (Nat.le_refl _) _).trans (hb1.mono (by omega))
    clear hF1 hb1 hwc
    go_wp2_with fail
    go_loop [9, 10] (fun x i => ∃ (j : Nat), j ≤ (M - 1).toNat ∧ i = .int .i64 ((j : Int) + 1) ∧ x = .int .i64 (triesI N j)) (fun _ i => 10 - (intOf i).toNat)
    case atStart => exact ⟨0, by omega, rfl, rfl⟩
    case round =>
      obtain ⟨j, hj, rfl, rfl⟩ := hrel
      have htj := triesI_bound N hn0 hn9 j (by omega)
      by_cases hlt : j < (M - 1).toNat
      · have hlt' : (j : Int) + 1 < M := by omega
        go_wp2_with fail
        go_round
        case rel => exact ⟨j + 1, by omega, by go_num, by rw [triesI]⟩
        case measure => simp [intOf]; omega
      · have hlt' : ¬ (j : Int) + 1 < M := by omega
        obtain rfl : j = (M - 1).toNat := by omega
        obtain ⟨T, hT⟩ : ∃ T, T = triesI N (M - 1).toNat := ⟨_, rfl⟩
        rw [← hT] at htj ht HR
        rw [← hT]
        clear hT hlt hj
        go_wp2_with fail
        refine (ih _ B X _ ?_ HOB.out zb hd).mono ?_
        · exact TreeAt.keep (fun k hk => HB1.out.block k (HXX.out k hk)) d _ _ HTB.out
        rw [← HB.out]
        rintro e w2 ⟨rfl, hb2⟩
        have HB2 : Hid (Below w.heap.size w w2) := HB1.out.trans (hb2.mono (by omega))
        clear hb2
        go_wp2_with (first | (go_at_call 84; refine (behind_big _ _ _ (by omega) (by omega)).mono ?_; rintro e w' ⟨rfl, rfl⟩) | (go_at_call 50; refine (greater_any _ _ _).mono ?_; rintro e w' ⟨rfl, rfl⟩))
        go_ret2
        exact ⟨ret_two (by rw [HR.out]) (by rw [HR.out]), HB2.out⟩

theorem tree_bound {t : ByteArray} {w : World} {X : Nat → Prop} : ∀ (d : Nat) (v : Value) (l : Tree d), TreeAt t w X d v l → TreeAt t w (fun k => X k ∧ k < w.heap.size) d v l := by
  intro d
  induction d with
  | zero => intro v l hl; exact hl
  | succ d ih =>
    intro v l hl
    obtain ⟨xs, h1, h2, h3, h4, h5⟩ := hl
    exact ⟨xs, h1, h2, fun k hk => ⟨h3 k hk, by obtain ⟨c, hc⟩ := own_block h2 hk; exact heap_lt hc⟩, fun x hx => ⟨ih _ _ (h4 x hx).1, ih _ _ (h4 x hx).2⟩, h5⟩

set_option maxHeartbeats 1000000 in
theorem Lasts_empty (a : Option Addr) (cap : Nat) (w : World) :
    Calls Try.prog 49 #[.slice a 0 cap] w fun e w' => e = .returned (.tuple #[.int .i64 0, .int .i64 (-1)]) ∧ w' = w := by
  go_enter Try.func49, Try.ntmps49
  go_wp2_with fail
  go_loop [4, 5, 6] (fun x y i => x = .int .i64 0 ∧ y = .int .i64 (-1) ∧ i = .int .i64 0) (fun _ _ _ => 0)
  case atStart => exact ⟨rfl, rfl, rfl⟩
  case round =>
    obtain ⟨rfl, rfl, rfl⟩ := hrel
    go_wp2_with fail
    go_ret2
    exact ⟨rfl, rfl⟩

set_option maxHeartbeats 2000000 in
theorem Lasts_succ (t : ByteArray) (d : Nat) (hd1 : d + 1 ≤ 5) (ih : OneSaid t d) (v : Value) (tr : Tree (d + 1)) (X0 : Nat → Prop) (w : World) (htr0 : TreeAt t w X0 (d + 1) v tr) (hok : OkT t (d + 1) tr) (hsz : sizeT (d + 1) tr ≤ 400) :
    Calls Try.prog 49 #[v] w fun e w' => e = .returned (.tuple #[.int .i64 (lastsT t (d + 1) tr).1, .int .i64 (lastsT t (d + 1) tr).2]) ∧ Below w.heap.size w w' := by
  have htr := tree_bound (d + 1) v tr htr0
  obtain ⟨X, hXd⟩ : ∃ X : Nat → Prop, X = fun k => X0 k ∧ k < w.heap.size := ⟨_, rfl⟩
  rw [← hXd] at htr
  have HX : Hid (∀ k, X k → k < w.heap.size) := by rw [hXd]; exact fun k hk => hk.2
  obtain ⟨xs, a, cap, g, hl, hv, ha, hcells, hsubs⟩ := htr.open
  subst hv
  have e2 : sizeT (d + 1) tr = (tr.list.map fun x : Hd × Tree d × Tree d => 1 + sizeT d x.2.1 + sizeT d x.2.2).sum := rfl
  have e3 : tr.list = xs.map Prod.fst := hl
  have hlen : xs.length ≤ 400 := by
    have := length_le_sum (fun x : Hd × Tree d × Tree d => 1 + sizeT d x.2.1 + sizeT d x.2.2) (fun x => by omega) tr.list
    have e : tr.list.length = xs.length := by rw [e3]; exact List.length_map ..
    omega
  have HOK : Hid (∀ (i : Nat) (hi : i < xs.length), OkT t d xs[i].1.2.1 ∧ OkT t d xs[i].1.2.2 ∧ (bytesOf t xs[i].1.1.p = kRepeat → 1 ≤ xs[i].1.1.n ∧ xs[i].1.1.n ≤ 9) ∧ sizeT d xs[i].1.2.1 ≤ 400 ∧ sizeT d xs[i].1.2.2 ≤ 400 ∧
      0 ≤ xs[i].1.1.n ∧ xs[i].1.1.n ≤ 999 ∧ 0 ≤ xs[i].1.1.m ∧ xs[i].1.1.m ≤ 6) := by
    intro i hi
    have hm : xs[i].1 ∈ tr.list := by rw [hl]; exact List.mem_map.2 ⟨xs[i], List.getElem_mem hi, rfl⟩
    have h1 := hok _ hm
    have h2 := sum_le (fun x : Hd × Tree d × Tree d => 1 + sizeT d x.2.1 + sizeT d x.2.2) tr.list _ hm
    exact ⟨h1.2.2.2.2.2.1, h1.2.2.2.2.2.2, h1.2.2.2.2.1, by omega, by omega, h1.1, h1.2.1, h1.2.2.1, h1.2.2.2.1⟩
  obtain ⟨F, hFd⟩ : ∃ F : (Hd × Tree d × Tree d) × (Value × Value) → Int × Int, F = fun x => oneI t x.1.1 (lastsT t d x.1.2.1) (lastsT t d x.1.2.2) := ⟨_, rfl⟩
  have HT : Hid (lastsT t (d + 1) tr = foldI (0, -1) (xs.map F)) := by
    show _ = _
    rw [lastsT, hl, hFd]
    show foldI (0, -1) ((xs.map Prod.fst).map _) = _
    rw [List.map_map]; rfl
  have HBD : Hid (∀ k, AtMost (foldI (0, -1) ((xs.take k).map F)) 10000000000000) := by
    intro k
    have hp := capC_pos d
    have := foldI_atMost (capC (d + 1)) (by have := capC_pos (d + 1); omega) F (fun x => 1 + sizeT d x.1.2.1 + sizeT d x.1.2.2) (xs.take k) (0, -1) 0
      (fun x hx => by
        have hx' := List.mem_of_mem_take hx
        have h := hok x.1 (by rw [hl]; exact List.mem_map.2 ⟨x, hx', rfl⟩)
        rw [capC_succ, hFd]
        exact oneI_atMost t x.1.1 _ _ _ _ _ hp (lastsT_atMost t d _ h.2.2.2.2.2.1) (lastsT_atMost t d _ h.2.2.2.2.2.2) h.1 h.2.1 h.2.2.2.1 h.2.2.2.2.1) ⟨by simp, by simp, by simp, by simp⟩ (by omega)
    rw [Int.zero_add] at this
    refine atMost_big this ?_ hd1
    have h1 := sum_take_le (fun x : (Hd × Tree d × Tree d) × (Value × Value) => 1 + sizeT d x.1.2.1 + sizeT d x.1.2.2) xs k
    have h2 : (xs.map fun x : (Hd × Tree d × Tree d) × (Value × Value) => 1 + sizeT d x.1.2.1 + sizeT d x.1.2.2).sum = sizeT (d + 1) tr := by
      rw [e2, e3, List.map_map]; rfl
    omega
  have HFB : Hid (∀ (k : Nat) (hk : k < xs.length), AtMost (F xs[k]) 10000000000000) := by
    intro k hk
    obtain ⟨h1, h2, h3, h4, h5, h6, h7, h8, h9⟩ := HOK.out k hk
    have hm : xs[k].1 ∈ tr.list := by rw [hl]; exact List.mem_map.2 ⟨xs[k], List.getElem_mem hk, rfl⟩
    have h2' := sum_le (fun x : Hd × Tree d × Tree d => 1 + sizeT d x.2.1 + sizeT d x.2.2) tr.list _ hm
    have := oneI_atMost t xs[k].1.1 _ _ _ _ _ (capC_pos d) (lastsT_atMost t d _ h1) (lastsT_atMost t d _ h2) h6 h7 h9 h3
    rw [← capC_succ] at this
    rw [hFd]
    exact atMost_big this (by omega) hd1
  have HFE : Hid (∀ (k : Nat) (hk : k < xs.length), F xs[k] = oneI t xs[k].1.1 (lastsT t d xs[k].1.2.1) (lastsT t d xs[k].1.2.2)) := by intro k hk; rw [hFd]
  have HC : Hid (∀ (i : Nat) (hi : i < xs.length), w.cell? ⟨g, i * 7, none⟩ = some (.string (t.extract xs[i].1.1.p.1 xs[i].1.1.p.2)) ∧ w.cell? ⟨g, i * 7 + 1, none⟩ = some (.int .i64 xs[i].1.1.key) ∧
        w.cell? ⟨g, i * 7 + 2, none⟩ = some (.int .i64 xs[i].1.1.n) ∧ w.cell? ⟨g, i * 7 + 3, none⟩ = some (.int .i64 xs[i].1.1.m) ∧ w.cell? ⟨g, i * 7 + 4, none⟩ = some xs[i].2.1 ∧
        w.cell? ⟨g, i * 7 + 5, none⟩ = some xs[i].2.2 ∧ w.cell? ⟨g, i * 7 + 6, none⟩ = some (.int .i64 xs[i].1.1.p.1)) := hcells
  have HS : Hid (∀ (i : Nat) (hi : i < xs.length), TreeAt t w X d xs[i].2.1 xs[i].1.2.1 ∧ TreeAt t w X d xs[i].2.2 xs[i].1.2.2) := hsubs
  have HA : Hid (0 < xs.length → a = some ⟨g, 0, none⟩) := ha
  clear hl hok hsz hcells hsubs ha htr htr0 hXd hFd e2 e3
  go_enter Try.func49, Try.ntmps49
  go_wp2_with fail
  go_loopw [4, 5, 6] (fun x y i wr => ∃ k : Nat, k ≤ xs.length ∧ i = .int .i64 k ∧ x = .int .i64 (foldI (0, -1) ((xs.take k).map F)).1 ∧ y = .int .i64 (foldI (0, -1) ((xs.take k).map F)).2 ∧ Below w.heap.size w wr) (fun _ _ i _ => xs.length - (intOf i).toNat)
  case atStart => exact ⟨0, Nat.zero_le _, rfl, rfl, rfl, Below.refl _ _⟩
  case round =>
    obtain ⟨k, hk, rfl, rfl, rfl, hbel⟩ := hrel
    by_cases hlt : k < xs.length
    · have ha := HA.out (by omega)
      obtain ⟨c0, c1, c2, c3, c4, c5, c6⟩ := HC.out k hlt
      have hg : g < w.heap.size := World.block_lt_of_cell? w _ c0
      obtain ⟨ta, tb⟩ := HS.out k hlt
      obtain ⟨o1, o2, o3, o4, o5, o6, o7, o8, o9⟩ := HOK.out k hlt
      obtain ⟨aa, na, ca, hva⟩ := ta.one
      obtain ⟨ab, nb, cb, hvb⟩ := tb.one
      rw [hva] at c4 ta
      rw [hvb] at c5 tb
      have keep : ∀ (j : Nat) (u : Value), w.cell? ⟨g, j, none⟩ = some u → wr.cell? ⟨g, j, none⟩ = some u := fun j u hj => (hbel.cell (p := ⟨g, j, none⟩) hg).trans hj
      obtain ⟨h, hh⟩ : ∃ h, h = xs[k].1.1 := ⟨_, rfl⟩
      rw [← hh] at c0 c1 c2 c3 c6 o3 o6 o7 o8 o9
      obtain ⟨s, hs⟩ : ∃ s, s = t.extract h.p.1 h.p.2 := ⟨_, rfl⟩
      rw [← hs] at c0
      have d0 := keep _ _ c0
      have d1 := keep _ _ c1
      have d2 := keep _ _ c2
      have d3 := keep _ _ c3
      have d4 := keep _ _ c4
      have d5 := keep _ _ c5
      have d6 := keep _ _ c6
      have HH : Hid (h = xs[k].1.1 ∧ s = t.extract h.p.1 h.p.2) := And.intro hh hs
      have HO := @ih h (.slice aa na ca) (.slice ab nb cb) xs[k].1.2.1 xs[k].1.2.2 X wr
      have HO2 : Hid (Calls Try.prog 83 #[.agg #[.string s, .int .i64 h.key, .int .i64 h.n, .int .i64 h.m, .slice aa na ca, .slice ab nb cb, .int .i64 h.p.1]] wr fun e w' =>
          e = .returned (.tuple #[.int .i64 (F xs[k]).1, .int .i64 (F xs[k]).2]) ∧ Below wr.heap.size wr w') := by
        have := HO (TreeAt.keep (fun j hj => hbel.block j (HX.out j hj)) d _ _ ta) (TreeAt.keep (fun j hj => hbel.block j (HX.out j hj)) d _ _ tb) (fun j hj => by have := HX.out j hj; have := hbel.size; omega) o1 o2 o4 o5 o6 o7 o8 o9 o3
        rw [HFE.out k hlt, ← hh, hs]
        exact this
      have b1 := HFB.out k hlt
      have b2 := HBD.out k
      obtain ⟨P, hP⟩ : ∃ P, P = foldI (0, -1) ((xs.take k).map F) := ⟨_, rfl⟩
      obtain ⟨Q, hQ⟩ : ∃ Q, Q = F xs[k] := ⟨_, rfl⟩
      have HST : Hid (foldI (0, -1) ((xs.take (k + 1)).map F) = (behindI P.1 Q.1, maxI P.2 (behindI P.1 Q.2))) := by
        show _ = _
        rw [List.take_succ_eq_append_getElem hlt, List.map_append, List.map_singleton, foldI_snoc, hP, hQ]
      rw [← hP] at b2
      rw [← hP]
      rw [← hQ] at b1 HO2
      obtain ⟨b11, b12, b13, b14⟩ := b1
      obtain ⟨b21, b22, b23, b24⟩ := b2
      have HB : Hid (Below w.heap.size w wr) := hbel
      have hsz := hbel.size
      clear HO keep c0 c1 c2 c3 c4 c5 c6 hh hs ta tb hva hvb hP hQ o1 o2 o3 o4 o5 o6 o7 o8 o9 hbel
      subst ha
      go_wp2_with fail
      refine (HO2.out).mono ?_
      rintro e w1 ⟨rfl, hb1⟩
      have HB1 : Hid (Below w.heap.size w w1) := HB.out.trans (hb1.mono hsz)
      clear hb1
      go_wp2_with (first | (go_at_call 84; refine (behind_big _ _ _ (by omega) (by omega)).mono ?_; rintro e w' ⟨rfl, rfl⟩) | (go_at_call 50; refine (greater_any _ _ _).mono ?_; rintro e w' ⟨rfl, rfl⟩))
      go_roundw
      case rel => exact ⟨k + 1, by omega, by go_num, by rw [HST.out], by rw [HST.out], HB1.out⟩
      case measure => simp [intOf]; omega
    · have hE : xs.take k = xs := List.take_of_length_le (by omega)
      rw [hE]
      clear hE
      go_wp2_with fail
      go_ret2
      exact ⟨ret_two (by rw [HT.out]) (by rw [HT.out]), hbel⟩

theorem Lasts_any (t : ByteArray) (d : Nat) : LastsSaid t d := by
  induction d with
  | zero =>
    intro v tr X w htr _ _ _
    obtain ⟨a, cap, rfl⟩ := htr
    refine (Lasts_empty a cap w).mono fun e w' h => ⟨h.1, ?_⟩
    rw [h.2]; exact Below.refl _ _
  | succ d ih =>
    intro v tr X w htr hok hsz hd
    exact Lasts_succ t d hd (lasts_one t d (by omega) ih) v tr X w htr hok hsz

end Go.Proofs.Ytmmmnghiegajmaa
