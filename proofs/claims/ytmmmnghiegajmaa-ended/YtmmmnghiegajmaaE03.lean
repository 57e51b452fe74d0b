import Derived.Test.YtmmmnghiegajmaaM01
import Derived.Test.YtmmmnghiegajmaaM02
import Derived.Test.YtmmmnghiegajmaaM03
import Derived.Test.YtmmmnghiegajmaaM04
import Derived.Test.YtmmmnghiegajmaaM05
import Derived.Test.YtmmmnghiegajmaaM06
import Derived.Test.YtmmmnghiegajmaaM07
import Derived.Test.YtmmmnghiegajmaaM08
import Derived.Test.YtmmmnghiegajmaaM09
import Derived.Test.YtmmmnghiegajmaaM10
import Derived.Test.YtmmmnghiegajmaaM11
import Derived.Test.YtmmmnghiegajmaaM12
import Derived.Test.YtmmmnghiegajmaaM13
import Derived.Test.YtmmmnghiegajmaaM14
import Derived.Test.YtmmmnghiegajmaaM15
import Derived.Test.YtmmmnghiegajmaaM16
import Derived.Test.YtmmmnghiegajmaaM17
import Derived.Test.YtmmmnghiegajmaaM19
import Derived.Test.YtmmmnghiegajmaaM20
import Derived.Test.YtmmmnghiegajmaaM21
import Derived.Test.YtmmmnghiegajmaaM22
import Derived.Test.YtmmmnghiegajmaaM23
import Derived.Test.YtmmmnghiegajmaaM24
import Derived.Test.YtmmmnghiegajmaaM25
import Derived.Test.YtmmmnghiegajmaaM26
import Derived.Test.YtmmmnghiegajmaaM27
import Derived.Test.YtmmmnghiegajmaaM28
import Derived.Test.YtmmmnghiegajmaaM29
import Derived.Test.YtmmmnghiegajmaaM30
import Derived.Test.YtmmmnghiegajmaaM31
import Derived.Test.YtmmmnghiegajmaaM32
import Derived.Test.YtmmmnghiegajmaaM33
import Derived.Test.YtmmmnghiegajmaaM34
import Derived.Test.YtmmmnghiegajmaaE01
import Derived.Test.YtmmmnghiegajmaaE02
namespace Go.Proofs.Herald
def lenW (l : List (Nat × Nat)) : Nat := (l.map fun p => p.2 - p.1).sum
def byW (t : ByteArray) (l : List (Nat × Nat)) : Nat := (l.map fun p => (bytesOf t p).length).sum
theorem byW_le (t : ByteArray) : ∀ l, byW t l ≤ lenW l := by
  intro l
  induction l with
  | nil => simp [byW, lenW]
  | cons p r ih =>
    have h1 : (bytesOf t p).length ≤ p.2 - p.1 := by
      unfold bytesOf
      simp
      omega
    simp only [byW, lenW, List.map_cons, List.sum_cons] at ih ⊢
    omega
theorem byW_append (t : ByteArray) (a b : List (Nat × Nat)) : byW t (a ++ b) = byW t a + byW t b := by simp [byW]
theorem byW_cons (t : ByteArray) (p : Nat × Nat) (b : List (Nat × Nat)) : byW t (p :: b) = (bytesOf t p).length + byW t b := by simp [byW]
theorem lenW_append (a b : List (Nat × Nat)) : lenW (a ++ b) = lenW a + lenW b := by simp [lenW]
theorem scanW_len : ∀ (s : List UInt8) (i : Nat) (f : Option Nat), (∀ b, f = some b → b ≤ i) → lenW (scanW i f s) ≤ s.length + (i - f.getD i) := by
  intro s
  induction s with
  | nil =>
    intro i f hf
    cases f with
    | none => simp [scanW, shutW, lenW]
    | some b => simp [scanW, shutW, lenW]
  | cons c r ih =>
    intro i f hf
    have hs : lenW (shutW f i) = i - f.getD i := by cases f <;> simp [shutW, lenW]
    rw [scanW]
    split
    · have h := ih (i + 1) none (fun b hb => by cases hb)
      rw [lenW_append]
      have e : lenW ((i, i + 1) :: scanW (i + 1) none r) = 1 + lenW (scanW (i + 1) none r) := by simp [lenW]
      simp at h
      rw [e, hs, List.length_cons]
      omega
    · split
      · have h := ih (i + 1) none (fun b hb => by cases hb)
        simp at h
        rw [lenW_append, hs, List.length_cons]
        omega
      · cases f with
        | none =>
          have h := ih (i + 1) (some i) (fun b hb => by cases hb; omega)
          simp at h ⊢
          omega
        | some b =>
          have hb := hf b rfl
          have h := ih (i + 1) (some b) (fun b' hb' => by cases hb'; omega)
          simp at h ⊢
          omega
theorem byW_words (t : ByteArray) : byW t (wordsL t.data.toList) ≤ t.size := by
  have h1 := byW_le t (wordsL t.data.toList)
  have h2 := scanW_len t.data.toList 0 none (fun b hb => by cases hb)
  have h3 : t.data.toList.length = t.size := by simp
  simp at h2
  unfold wordsL at h1 ⊢
  omega
def netD (t : ByteArray) : List (Nat × Nat) → Int → Int
  | [], n => n
  | p :: r, n => netD t r (openB t p n)
theorem netD_append (t : ByteArray) : ∀ (a b : List (Nat × Nat)) (n : Int), netD t (a ++ b) n = netD t b (netD t a n) := by
  intro a
  induction a with
  | nil => intro b n; rfl
  | cons p r ih => intro b n; exact ih b _
theorem deepL_append (t : ByteArray) : ∀ (a b : List (Nat × Nat)) (n : Int), deepL t (a ++ b) n = -1 → deepL t a n = -1 ∧ deepL t b (netD t a n) = -1 := by
  intro a
  induction a with
  | nil => intro b n h; exact ⟨rfl, h⟩
  | cons p r ih =>
    intro b n h
    rw [List.cons_append, deepL] at h
    rw [deepL, netD, openB]
    split at h
    · rename_i h1
      rw [if_pos h1, if_pos h1]
      split at h
      · omega
      · rename_i h2
        rw [if_neg h2]
        exact ih b _ h
    · rename_i h1
      rw [if_neg h1, if_neg h1]
      split at h
      · rename_i h2
        rw [if_pos h2, if_pos h2]
        exact ih b _ h
      · rename_i h2
        rw [if_neg h2, if_neg h2]
        exact ih b _ h
theorem netD_plain {t : ByteArray} : ∀ {l : List (Nat × Nat)} (n : Int), plainW t l → netD t l n = n := by
  intro l
  induction l with
  | nil => intro n _; rfl
  | cons p r ih =>
    intro n h
    rw [netD, openB_other n (h p (List.mem_cons_self ..))]
    exact ih n fun q hq => h q (List.mem_cons_of_mem _ hq)
theorem netD_one {t : ByteArray} {p : Nat × Nat} (n : Int) : netD t [p] n = openB t p n := rfl
theorem kElse_plain {t : ByteArray} {p : Nat × Nat} (h : bytesOf t p = kElse) : ¬ bytesOf t p = kOpen ∧ ¬ bytesOf t p = kShut := by rw [h]; decide
/-- Braces of a tree's words are shut again. -/
theorem GT.net {t : ByteArray} : ∀ (d : Nat) (ws : List (Nat × Nat)) (tr : Tree d) (n : Int), GT t d ws tr → netD t ws n = n := by
  intro d
  induction d with
  | zero => intro ws tr n h; rw [show ws = [] from h]; rfl
  | succ d ih =>
    intro ws tr n h
    have key : ∀ (l : List (Hd × Tree d × Tree d)) (ws : List (Nat × Nat)) (n : Int), GL t (GT t d) (nilT d) ws l → netD t ws n = n := by
      intro l
      induction l with
      | nil => intro ws n h; rw [show ws = [] from h]; rfl
      | cons x r ihl =>
        intro ws n h
        rw [GL] at h
        obtain ⟨wo, wb, wr, f, rfl, hh, hp, hr, hb⟩ := h
        rw [netD_append, netD_plain n hp, netD_append]
        rcases hb with ⟨_, rfl, _⟩ | ⟨o, wa, c, _, rfl, h1, h2, h3, _⟩ | ⟨o, wa, c, e, o2, wa2, c2, _, rfl, h1, h2, h3, h4, h5, h6, h7⟩
        · exact ihl wr n hr
        · rw [netD, openB_open n h1, netD_append, ih _ _ _ h3, netD_one, openB_shut _ h2, show n + 1 - 1 = n from by omega]
          exact ihl wr n hr
        · rw [netD, openB_open n h1, netD_append, ih _ _ _ h6, netD, openB_shut _ h2, netD, openB_other _ (kElse_plain h3), netD, openB_open _ h4, netD_append, ih _ _ _ h7, netD_one, openB_shut _ h5,
            show n + 1 - 1 + 1 - 1 = n from by omega]
          exact ihl wr n hr
    exact key tr ws n h
/-- A repeat stands within at most three braces. -/
def NestT (t : ByteArray) : (d : Nat) → Tree d → Nat → Prop
  | 0, _, _ => True
  | d + 1, l, k => ∀ x : Hd × Tree d × Tree d, x ∈ l.list → (bytesOf t x.1.p = kRepeat → k < 4) ∧ NestT t d x.2.1 (k + 1) ∧ NestT t d x.2.2 (k + 1)
theorem NestT.nil (t : ByteArray) (d k : Nat) : NestT t d (nilT d) k := by
  cases d with
  | zero => trivial
  | succ d => intro x hx; exact absurd hx (by simp [nilT, Tree.list])
/-- Of the words of a repeat's head a block follows. -/
theorem HdOk.repeat {t : ByteArray} {wo : List (Nat × Nat)} {h : Hd} {f : Nat} (hh : HdOk t wo h f) (hk : bytesOf t h.p = kRepeat) : ¬ f = 0 := by
  rcases hh with ⟨p, q, _, _, h1, rfl⟩ | ⟨p, q, _, _, h1, rfl⟩ | ⟨p, _, _, h1, rfl⟩ | ⟨p, q, r, _, _, h1, rfl⟩ | ⟨p, q, r, s, _, _, h1, rfl⟩ | ⟨p, q, _, rfl, _⟩
  · rw [h1] at hk; exact absurd hk (by decide)
  · rw [h1] at hk; exact absurd hk (by decide)
  · rw [h1] at hk; exact absurd hk (by decide)
  · rw [h1] at hk; exact absurd hk (by decide)
  · rw [h1] at hk; exact absurd hk (by decide)
  · decide
theorem deepL_open {t : ByteArray} {p : Nat × Nat} {r : List (Nat × Nat)} {n : Int} (h : bytesOf t p = kOpen) (hd : deepL t (p :: r) n = -1) : n < 4 ∧ deepL t r (n + 1) = -1 := by
  have h' : bytesOf t p = [123] := h
  rw [deepL, if_pos h'] at hd
  split at hd
  · omega
  · exact ⟨by omega, hd⟩
theorem GT.nest {t : ByteArray} : ∀ (d : Nat) (ws : List (Nat × Nat)) (tr : Tree d) (k : Nat), GT t d ws tr → deepL t ws (k : Nat) = -1 → NestT t d tr k := by
  intro d
  induction d with
  | zero => intro ws tr k _ _; trivial
  | succ d ih =>
    intro ws tr k h hd
    have key : ∀ (l : List (Hd × Tree d × Tree d)) (ws : List (Nat × Nat)), GL t (GT t d) (nilT d) ws l → deepL t ws (k : Nat) = -1 → NestT t (d + 1) l k := by
      intro l
      induction l with
      | nil => intro ws _ _ x hx; exact absurd hx (by simp [Tree.list])
      | cons x r ihl =>
        intro ws h hd
        rw [GL] at h
        obtain ⟨wo, wb, wr, f, rfl, hh, hp, hr, hb⟩ := h
        obtain ⟨_, hd1⟩ := deepL_append t _ _ _ hd
        rw [netD_plain _ hp] at hd1
        obtain ⟨hdb, hd2⟩ := deepL_append t _ _ _ hd1
        have hnet : netD t wb (k : Nat) = (k : Nat) := by
          rcases hb with ⟨_, rfl, _⟩ | ⟨o, wa, c, _, rfl, h1, h2, h3, _⟩ | ⟨o, wa, c, e, o2, wa2, c2, _, rfl, h1, h2, h3, h4, h5, h6, h7⟩
          · rfl
          · rw [netD, openB_open _ h1, netD_append, GT.net _ _ _ _ h3, netD_one, openB_shut _ h2]; omega
          · rw [netD, openB_open _ h1, netD_append, GT.net _ _ _ _ h6, netD, openB_shut _ h2, netD, openB_other _ (kElse_plain h3), netD, openB_open _ h4, netD_append, GT.net _ _ _ _ h7, netD_one, openB_shut _ h5]; omega
        rw [hnet] at hd2
        have ih2 := ihl wr hr hd2
        intro y hy
        rcases List.mem_cons.mp (show y ∈ x :: r from hy) with rfl | hy
        · rcases hb with ⟨hf, _, h1, h2, _⟩ | ⟨o, wa, c, hf, rfl, h1, h2, h3, h4, _⟩ | ⟨o, wa, c, e, o2, wa2, c2, hf, rfl, h1, h2, h3, h4, h5, h6, h7⟩
          · rw [h1, h2]
            exact ⟨fun hk => absurd hf (hh.repeat hk), NestT.nil _ _ _, NestT.nil _ _ _⟩
          · obtain ⟨hlt, hdo⟩ := deepL_open h1 hdb
            rw [h4]
            exact ⟨fun _ => by omega, ih _ _ (k + 1) h3 (deepL_append t _ _ _ hdo).1, NestT.nil _ _ _⟩
          · obtain ⟨hlt, hdo⟩ := deepL_open h1 hdb
            obtain ⟨hda, hdo2⟩ := deepL_append t _ _ _ hdo
            rw [GT.net _ _ _ _ h6] at hdo2
            have hd3 := (deepL_append t [c, e] _ _ hdo2).2
            have e1 : netD t [c, e] ((k : Nat) + 1 : Int) = (k : Nat) := by rw [netD, openB_shut _ h2, netD, openB_other _ (kElse_plain h3)]; show ((k : Nat) + 1 - 1 : Int) = _; omega
            rw [e1] at hd3
            obtain ⟨_, hdo3⟩ := deepL_open h4 hd3
            exact ⟨fun _ => by omega, ih _ _ (k + 1) h6 hda, ih _ _ (k + 1) h7 (deepL_append t _ _ _ hdo3).1⟩
        · exact ih2 y hy
    exact key tr ws h hd
theorem okLv_of {t : ByteArray} : ∀ (d : Nat) (tr : Tree d) (k lv : Nat), GoodT t d tr → NestT t d tr k → lv ≤ k → OkLv t d tr lv := by
  intro d
  induction d with
  | zero => intro tr k lv _ _ _; trivial
  | succ d ih =>
    intro tr k lv hg hn hl x hx
    obtain ⟨g1, g2, g3⟩ := hg x hx
    obtain ⟨n1, n2, n3⟩ := hn x hx
    exact ⟨g1, fun hk => ⟨by have := n1 hk; omega, ih _ (k + 1) _ g2 n2 (by omega)⟩, fun _ => ⟨ih _ (k + 1) _ g2 n2 (by omega), ih _ (k + 1) _ g3 n3 (by omega)⟩⟩
theorem heavyT_or (t : ByteArray) (d : Nat) (tr : Tree d) (n : Int) : heavyT t d tr n = -1 ∨ 0 ≤ heavyT t d tr n := by
  obtain ⟨h1, h2⟩ := hvT_spec t d tr n
  cases h : hvT t d tr n with
  | none => left; rw [h1, h]; rfl
  | some p => right; rw [h1, h]; exact h2 p h
theorem wtT_nil (t : ByteArray) (d : Nat) : wtT t d (nilT d) = 0 := by cases d <;> rfl
/-- A word of a statement's head has as many bytes as its word. -/
theorem HdOk.by {t : ByteArray} {wo : List (Nat × Nat)} {h : Hd} {f : Nat} (hh : HdOk t wo h f) : (bytesOf t h.p).length ≤ byW t wo := by
  rcases hh with ⟨p, q, rfl, _, _, rfl⟩ | ⟨p, q, rfl, _, _, rfl⟩ | ⟨p, rfl, _, _, rfl⟩ | ⟨p, q, r, rfl, _, _, rfl⟩ | ⟨p, q, r, s, rfl, _, _, rfl⟩ | ⟨p, q, rfl, _, _, rfl⟩ <;> (rw [byW_cons]; exact Nat.le_add_right _ _)
/-- What a statement without a block weighs. -/
theorem HdOk.plain {t : ByteArray} {wo : List (Nat × Nat)} {h : Hd} {f : Nat} (hh : HdOk t wo h f) (hf : f = 0) : ¬ (bytesOf t h.p = kAsk ∨ bytesOf t h.p = kRetry) ∧ ¬ bytesOf t h.p = kRepeat := by
  rcases hh with ⟨p, q, _, _, h1, rfl⟩ | ⟨p, q, _, _, h1, rfl⟩ | ⟨p, _, _, h1, rfl⟩ | ⟨p, q, r, _, h2, _⟩ | ⟨p, q, r, s, _, h2, _⟩ | ⟨p, q, _, h2, _⟩
  · rw [show (⟨p, keyL (bytesOf t q), 0, 0⟩ : Hd).p = p from rfl, h1]; decide
  · rw [show (⟨p, 0, numL (bytesOf t q), 0⟩ : Hd).p = p from rfl, h1]; decide
  · rw [show (⟨p, 0, 0, 0⟩ : Hd).p = p from rfl, h1]; decide
  · omega
  · omega
  · omega
set_option maxHeartbeats 1000000 in
theorem GT.wt {t : ByteArray} : ∀ (d : Nat) (ws : List (Nat × Nat)) (tr : Tree d) (w : Nat), GT t d ws tr → GoodT t d tr → heavyT t d tr (w : Nat) = -1 → w ≤ 64 → w * wtT t d tr ≤ 16 * byW t ws := by
  intro d
  induction d with
  | zero => intro ws tr w _ _ _ _; show w * 0 ≤ _; omega
  | succ d ih =>
    intro ws tr w h hg hv hw
    have key : ∀ (l : List (Hd × Tree d × Tree d)) (ws : List (Nat × Nat)), GL t (GT t d) (nilT d) ws l → GoodT t (d + 1) l → heavyL t (heavyT t d) l (w : Nat) = -1 → w * (l.map fun x => wtS t (wtT t d) x 0).sum ≤ 16 * byW t ws := by
      intro l
      induction l with
      | nil => intro ws _ _ _; simp
      | cons x r ihl =>
        intro ws h hg hv
        rw [GL] at h
        obtain ⟨wo, wb, wr, f, rfl, hh, hp, hr, hb⟩ := h
        obtain ⟨g1, g2, g3⟩ := hg x (List.mem_cons_self ..)
        have hgr : GoodT t (d + 1) r := fun y hy => hg y (List.mem_cons_of_mem _ hy)
        rw [List.map_cons, List.sum_cons, Nat.mul_add, byW_append, byW_append]
        have hby := hh.by
        -- the statement's own weight, by what stands in its block
        have main : w * wtS t (wtT t d) x 0 ≤ 16 * (byW t wo + byW t wb) ∧ heavyL t (heavyT t d) r (w : Nat) = -1 := by
          rw [heavyL] at hv
          by_cases hk : bytesOf t x.1.p = kRepeat
          · rw [if_pos hk] at hv
            split at hv
            · omega
            · rename_i hle
              rcases heavyT_or t d x.2.1 ((w : Nat) * x.1.n) with hA | hA
              · rw [if_neg (by omega)] at hv
                rcases heavyT_or t d x.2.2 ((w : Nat) * x.1.n) with hB | hB
                · rw [if_neg (by omega)] at hv
                  refine ⟨?_, hv⟩
                  have hn9 : 1 ≤ x.1.n ∧ x.1.n ≤ 9 := by
                    rcases g1 with ⟨h, _⟩ | ⟨h, _⟩ | ⟨h, _⟩ | ⟨h, _⟩ | ⟨h, _⟩ | ⟨_, h1, h2, _⟩
                    · rw [hk] at h; cases h
                    · rw [hk] at h; cases h
                    · rw [hk] at h; cases h
                    · rw [hk] at h; cases h
                    · rw [hk] at h; cases h
                    · exact ⟨h1, h2⟩
                  obtain ⟨n, hn⟩ : ∃ n : Nat, x.1.n = (n : Nat) := ⟨x.1.n.toNat, by omega⟩
                  rw [hn] at hA hle
                  rw [← Int.natCast_mul] at hA hle
                  have hwn : w * n ≤ 64 := by omega
                  have hby6 : 6 ≤ byW t wo := by rw [hk] at hby; exact hby
                  have e : wtS t (wtT t d) x 0 = 1 + n * (wtT t d x.2.1 + 1) := by unfold wtS; rw [hk, hn]; simp; rfl
                  rw [e]
                  have hblk : w * n * wtT t d x.2.1 + 16 * 2 ≤ 16 * byW t wb := by
                    rcases hb with ⟨hf, _⟩ | ⟨o, wa, c, hf, rfl, h1, h2, h3, h4, _⟩ | ⟨o, wa, c, e, o2, wa2, c2, hf, rfl, h1, h2, h3, h4, h5, h6, h7⟩
                    · exact absurd hf (hh.repeat hk)
                    · have := ih wa x.2.1 (w * n) h3 g2 hA hwn
                      rw [byW_cons, byW_append, byW_cons, h1, h2]
                      show _ ≤ 16 * (1 + (byW t wa + (1 + byW t [])))
                      omega
                    · have := ih wa x.2.1 (w * n) h6 g2 hA hwn
                      rw [byW_cons, byW_append, byW_cons, h1, h2]
                      show _ ≤ 16 * (1 + (byW t wa + (1 + _)))
                      omega
                  have e2 : w * (1 + n * (wtT t d x.2.1 + 1)) = w + w * n * wtT t d x.2.1 + w * n := by
                    rw [Nat.mul_add, Nat.mul_one, ← Nat.mul_assoc, Nat.mul_add, Nat.mul_one]; omega
                  rw [e2]
                  omega
                · rw [if_pos hB] at hv; omega
              · rw [if_pos hA] at hv; omega
          · rw [if_neg hk] at hv
            rcases heavyT_or t d x.2.1 (w : Nat) with hA | hA
            · rw [if_neg (by omega)] at hv
              rcases heavyT_or t d x.2.2 (w : Nat) with hB | hB
              · rw [if_neg (by omega)] at hv
                refine ⟨?_, hv⟩
                by_cases hs : bytesOf t x.1.p = kSend
                · have e : wtS t (wtT t d) x 0 = 1 := by unfold wtS; rw [if_pos hs]
                  have hby4 : 4 ≤ byW t wo := by rw [hs] at hby; exact hby
                  rw [e]; omega
                · by_cases ha : bytesOf t x.1.p = kAsk ∨ bytesOf t x.1.p = kRetry
                  · have e : wtS t (wtT t d) x 0 = 1 + max (wtT t d x.2.1) (wtT t d x.2.2) := by unfold wtS; rw [if_neg hs, if_pos ha]
                    have hby3 : 3 ≤ byW t wo := by
                      rcases ha with ha | ha
                      · rw [ha] at hby; exact hby
                      · rw [ha] at hby; exact Nat.le_trans (by decide) hby
                    have hblk : w * max (wtT t d x.2.1) (wtT t d x.2.2) + 16 * 2 ≤ 16 * byW t wb := by
                      rcases hb with ⟨hf, _⟩ | ⟨o, wa, c, hf, rfl, h1, h2, h3, h4, _⟩ | ⟨o, wa, c, e, o2, wa2, c2, hf, rfl, h1, h2, h3, h4, h5, h6, h7⟩
                      · exact absurd ha (hh.plain hf).1
                      · have := ih wa x.2.1 w h3 g2 hA hw
                        rw [h4, wtT_nil, Nat.max_zero, byW_cons, byW_append, byW_cons, h1, h2]
                        show _ ≤ 16 * (1 + (byW t wa + (1 + byW t [])))
                        omega
                      · have i1 := ih wa x.2.1 w h6 g2 hA hw
                        have i2 := ih wa2 x.2.2 w h7 g3 hB hw
                        have hm : w * max (wtT t d x.2.1) (wtT t d x.2.2) ≤ 16 * byW t wa + 16 * byW t wa2 := by
                          rcases Nat.le_total (wtT t d x.2.1) (wtT t d x.2.2) with hle | hle
                          · rw [Nat.max_eq_right hle]; omega
                          · rw [Nat.max_eq_left hle]; omega
                        rw [byW_cons, byW_append, byW_cons, byW_cons, byW_cons, byW_append, h1, h2]
                        show _ ≤ 16 * (1 + (byW t wa + (1 + _)))
                        omega
                    rw [e, Nat.mul_add, Nat.mul_one]
                    omega
                  · have e : wtS t (wtT t d) x 0 = 1 := by unfold wtS; rw [if_neg hs, if_neg ha, if_neg hk]
                    have hby4 : 4 ≤ byW t wo := by
                      rcases g1.kind with h | h | h | h | h | h
                      · exact absurd h hs
                      · rw [h] at hby; exact hby
                      · rw [h] at hby; exact hby
                      · exact absurd (.inl h) ha
                      · exact absurd (.inr h) ha
                      · exact absurd h hk
                    rw [e]; omega
              · rw [if_pos hB] at hv; omega
            · rw [if_pos hA] at hv; omega
        have h2 := ihl wr hr hgr main.2
        have h1 := main.1
        omega
    exact key tr ws h hg hv
/-- Runs of the code of a text without a fault do what runs of the text do. -/
theorem TextOk.same {t : ByteArray} {tr : Tree 5} (h : TextOk t tr) (ht : t.size ≤ 400) : SameEng (codeE (codeOf t tr)) (textE t tr) (Tied t (codeOf t tr) 6400) := by
  refine sameEng (by omega) ?_ (okLv_of 5 tr 0 0 h.good (GT.nest 5 _ tr 0 h.words h.deep) (Nat.le_refl _))
  have h1 := GT.wt 5 _ tr 1 h.words h.good h.heavy (by omega)
  have h2 := byW_words t
  omega
/-- A text's statements: their numbers may be; one without a block has none. -/
def FineT (t : ByteArray) : (d : Nat) → Tree d → Prop
  | 0, _ => True
  | d + 1, l => ∀ x : Hd × Tree d × Tree d, x ∈ l.list → GoodHd t x.1 ∧ (bytesOf t x.1.p = kAsk ∨ bytesOf t x.1.p = kRetry ∨ bytesOf t x.1.p = kRepeat ∨ x.2.2 = nilT d) ∧ FineT t d x.2.1 ∧ FineT t d x.2.2
theorem FineT.nil (t : ByteArray) (d : Nat) : FineT t d (nilT d) := by
  cases d with
  | zero => trivial
  | succ d => intro x hx; cases hx
/-- One that is left to do. -/
structure ItOk (t : ByteArray) (x : It) : Prop where
  hd : GoodHd t x.s.1
  leaf : bytesOf t x.s.1.p = kAsk ∨ bytesOf t x.s.1.p = kRetry ∨ bytesOf t x.s.1.p = kRepeat ∨ x.s.2.2 = nilT x.d
  a : FineT t x.d x.s.2.1
  b : FineT t x.d x.s.2.2
  retry : bytesOf t x.s.1.p = kRetry → (x.i : Int) ≤ x.s.1.m
  repeat' : bytesOf t x.s.1.p = kRepeat → (x.i : Int) ≤ x.s.1.n
theorem GoodHd.retry_m {t : ByteArray} {h : Hd} (g : GoodHd t h) (hk : bytesOf t h.p = kRetry) : 1 ≤ h.n ∧ h.n ≤ 999 ∧ 1 ≤ h.m ∧ h.m ≤ 6 := by
  rcases g with ⟨h1, _⟩ | ⟨h1, _⟩ | ⟨h1, _⟩ | ⟨h1, _⟩ | ⟨_, h2, h3, h4, h5⟩ | ⟨h1, _⟩
  · rw [hk] at h1; cases h1
  · rw [hk] at h1; cases h1
  · rw [hk] at h1; cases h1
  · rw [hk] at h1; cases h1
  · exact ⟨h2, h3, h4, h5⟩
  · rw [hk] at h1; cases h1
theorem GoodHd.repeat_n {t : ByteArray} {h : Hd} (g : GoodHd t h) (hk : bytesOf t h.p = kRepeat) : 1 ≤ h.n ∧ h.n ≤ 9 := by
  rcases g with ⟨h1, _⟩ | ⟨h1, _⟩ | ⟨h1, _⟩ | ⟨h1, _⟩ | ⟨h1, _⟩ | ⟨_, h2, h3, _⟩
  · rw [hk] at h1; cases h1
  · rw [hk] at h1; cases h1
  · rw [hk] at h1; cases h1
  · rw [hk] at h1; cases h1
  · rw [hk] at h1; cases h1
  · exact ⟨h2, h3⟩
theorem GoodHd.ask_n {t : ByteArray} {h : Hd} (g : GoodHd t h) (hk : bytesOf t h.p = kAsk) : 1 ≤ h.n ∧ h.n ≤ 999 := by
  rcases g with ⟨h1, _⟩ | ⟨h1, _⟩ | ⟨h1, _⟩ | ⟨_, h2, h3, _⟩ | ⟨h1, _⟩ | ⟨h1, _⟩
  · rw [hk] at h1; cases h1
  · rw [hk] at h1; cases h1
  · rw [hk] at h1; cases h1
  · exact ⟨h2, h3⟩
  · rw [hk] at h1; cases h1
  · rw [hk] at h1; cases h1
theorem GoodHd.wait_n {t : ByteArray} {h : Hd} (g : GoodHd t h) (hk : bytesOf t h.p = kWait) : 1 ≤ h.n ∧ h.n ≤ 999 := by
  rcases g with ⟨h1, _⟩ | ⟨_, h2, h3, _⟩ | ⟨h1, _⟩ | ⟨h1, _⟩ | ⟨h1, _⟩ | ⟨h1, _⟩
  · rw [hk] at h1; cases h1
  · exact ⟨h2, h3⟩
  · rw [hk] at h1; cases h1
  · rw [hk] at h1; cases h1
  · rw [hk] at h1; cases h1
  · rw [hk] at h1; cases h1
theorem its_ok {t : ByteArray} {d : Nat} {tr : Tree d} (h : FineT t d tr) : ∀ x ∈ itsOf d tr, ItOk t x := by
  cases d with
  | zero => intro x hx; cases hx
  | succ d =>
    intro x hx
    obtain ⟨y, hy, rfl⟩ := List.mem_map.mp hx
    obtain ⟨h1, h2, h3, h4⟩ := h y hy
    refine ⟨h1, h2, h3, h4, fun hk => ?_, fun hk => ?_⟩
    · have := h1.retry_m hk; show ((0 : Nat) : Int) ≤ y.1.m; omega
    · have := h1.repeat_n hk; show ((0 : Nat) : Int) ≤ y.1.n; omega
/-- A text's statements are so. -/
theorem GT.fine {t : ByteArray} : ∀ (d : Nat) (ws : List (Nat × Nat)) (tr : Tree d), GT t d ws tr → GoodT t d tr → FineT t d tr := by
  intro d
  induction d with
  | zero => intro ws tr _ _; trivial
  | succ d ih =>
    intro ws tr h hg
    have key : ∀ (l : List (Hd × Tree d × Tree d)) (ws : List (Nat × Nat)), GL t (GT t d) (nilT d) ws l → GoodT t (d + 1) l → FineT t (d + 1) l := by
      intro l
      induction l with
      | nil => intro ws _ _ x hx; cases hx
      | cons y r ihl =>
        intro ws h hg x hx
        rw [GL] at h
        obtain ⟨wo, wb, wr, f, rfl, hh, hp, hr, hb⟩ := h
        rcases List.mem_cons.mp hx with rfl | hx
        · obtain ⟨g1, g2, g3⟩ := hg x (List.mem_cons_self ..)
          refine ⟨g1, ?_, ?_, ?_⟩
          · rcases hb with ⟨_, _, _, h, _⟩ | ⟨o, wa, c, _, _, _, _, _, h, _⟩ | ⟨o, wa, c, e, o2, wa2, c2, hf, _⟩
            · exact .inr (.inr (.inr h))
            · exact .inr (.inr (.inr h))
            · rcases hh with ⟨_, _, _, h, _⟩ | ⟨_, _, _, h, _⟩ | ⟨_, _, h, _⟩ | ⟨p, q, r, _, _, h, e⟩ | ⟨p, q, r, s, _, _, h, e⟩ | ⟨_, _, _, h, _⟩
              · omega
              · omega
              · omega
              · rw [e]; exact .inl h
              · rw [e]; exact .inr (.inl h)
              · omega
          · rcases hb with ⟨_, _, h, _, _⟩ | ⟨o, wa, c, _, _, _, _, h, _, _⟩ | ⟨o, wa, c, e, o2, wa2, c2, hf, _, _, _, _, _, _, h, _⟩
            · rw [h]; exact FineT.nil t d
            · exact ih _ _ h g2
            · exact ih _ _ h g2
          · rcases hb with ⟨_, _, _, h, _⟩ | ⟨o, wa, c, _, _, _, _, _, h, _⟩ | ⟨o, wa, c, e, o2, wa2, c2, hf, _, _, _, _, _, _, _, h⟩
            · rw [h]; exact FineT.nil t d
            · rw [h]; exact FineT.nil t d
            · exact ih _ _ h g3
        · exact ihl wr hr (fun z hz => hg z (List.mem_cons_of_mem _ hz)) x hx
    exact key tr ws h hg
end Go.Proofs.Herald
namespace Go.Proofs.Ytmmmnghiegajmaa
open Go.RowKit Go.Proofs.Herald
set_option maxRecDepth 20000 in
set_option maxHeartbeats 4000000 in
theorem c_mNew_nil (w : World) (hs : soundL [] = true) :
    Calls Try.prog 66 #[.slice none 0 0] w fun e w' => ∃ v, e = .returned (.tuple #[.agg #[v, .int .i64 0, .int .i64 0, .slice none 0 0, .slice none 0 0, .slice none 0 0, .slice none 0 0], .int .i64 0]) ∧ w'.ownsRow w.heap.size 128 4 v 0 [] ∧ Below w.heap.size w w' := by
  have HC : Hid (∀ W : World, Calls Try.prog 98 #[.slice none 0 0] W fun e w' => e = .returned (.bool true) ∧ Below W.heap.size W w') := fun W => by
    have := c_sound none 0 0 0 [] W (fun hp => absurd hp (by simp))
    rw [hs] at this
    exact this
  clear hs
  obtain ⟨i0, hi, hz0, hz1, hz2⟩ := info_parts Try.infoInstr
  go_enter Try.func66, Try.ntmps66
  go_wp2_with fail
  refine (HC.out _).mono ?_
  rintro e w1 ⟨rfl, hb1⟩
  have g1 : w1.heap[w.heap.size]? = some (.cells (newM (.slice none 0 0)) 146 (0, 0)) := (hb1.block _ (by simp)).trans (heap_alloc_new _ _)
  have HG1 : Hid (_ = _) := g1
  have HB1 : Hid (Below w.heap.size w w1) := ((Below.refl _ _).alloc (Nat.le_refl _) _).trans (hb1.mono (by simp))
  clear hb1 g1 HC
  have HOWN : Hid ((w1.alloc (.cells #[] 128)).ownsRow w.heap.size 128 4 (.slice (some ⟨w1.heap.size, 0, none⟩) 0 0) 0 []) :=
    ⟨rfl, .inr ⟨w1.heap.size, 0, #[], rfl, HB1.out.size, heap_alloc_new _ _, Nat.le_refl _, Nat.zero_le _, rfl, rfl⟩⟩
  have HBA : Hid (Below w.heap.size w (w1.alloc (.cells #[] 128))) := HB1.out.alloc HB1.out.size _
  have HGA : Hid ((w1.alloc (.cells #[] 128)).heap[w.heap.size]? = some (.cells (newM (.slice none 0 0)) 146 (0, 0))) := by
    show _ = _
    rw [Below.heap_alloc _ _ _ (heap_lt HG1.out)]; exact HG1.out
  have HG2 : (w1.alloc (.cells #[] 128)).heap[w.heap.size]? = some (.cells (newM (.slice none 0 0)) 146 (0, 0)) := HGA.out
  have HO2 : Hid ((w1.alloc (.cells #[] 128)).ownsRow w.heap.size 128 4 (.slice (some ⟨w1.heap.size, 0, none⟩) 0 0) 0 []) := HOWN.out
  have HB2 : Hid (Below w.heap.size w (w1.alloc (.cells #[] 128))) := HBA.out
  obtain ⟨d0, d1, d2, d3, d4, d5, d6, hz⟩ := cells7 HG2
  have z0 := hz 0
  have z1 := hz 1
  have z2 := hz 2
  have z3 := hz 3
  have z4 := hz 4
  have z5 := hz 5
  have z6 := hz 6
  have HNE : Hid (∀ k, (Value.slice (some ⟨w1.heap.size, 0, none⟩) 0 0).ownBlock = some k → k ≠ w.heap.size) := fun k hk => by
    obtain ⟨_, cur, hc⟩ := ownsRow_lies HO2.out hk
    exact ne_of_type hc HG2 (by decide)
  have HBK : Hid (_ = _) := HG2
  clear hz HG2
  go_wp2_with (at_builtin; refine wpList_append_own_none rfl _ _ 26 rfl w.heap.size 128 i0 4 Try.underlying26 hi (.slice (some ⟨w1.heap.size, 0, none⟩) 0 0) 0 [] rfl HOWN.out rfl ?_)
  refine bodyPost_ret (v := .tuple #[.agg #[.slice (some ⟨w1.heap.size, 0, none⟩) 0 0, .int .i64 0, .int .i64 0, .slice none 0 0, .slice none 0 0, .slice none 0 0, .slice none 0 0], .int .i64 0]) (by simp [results, Try.results66, go_sem, d0, d1, d2, d3, d4, d5, d6]) rfl ⟨_, rfl, ?_, ?_⟩
  · refine own_stays HO2.out (fun k hk => ?_)
    have hne := HNE.out k hk
    rw [Below.heap_setCell _ _ _ _ hne, Below.heap_setCell _ _ _ _ hne, Below.heap_setCell _ _ _ _ hne, Below.heap_setCell _ _ _ _ hne, Below.heap_setCell _ _ _ _ hne, Below.heap_setCell _ _ _ _ hne, Below.heap_setCell _ _ _ _ hne]
  · exact below7 HB2.out (Nat.le_refl _) _ _ _ _ _ _ _
set_option maxRecDepth 20000 in
set_option maxHeartbeats 4000000 in
theorem c_New_nil (w : World) (hs : soundL [] = true) :
    Calls Try.prog 27 #[.slice none 0 0] w fun e w' => ∃ H v, e = .returned (.tuple #[.pointer (some ⟨H, 0, none⟩), .int .i64 0]) ∧ w.heap.size ≤ H ∧ w'.heap[H]? = some (.cells (newHd v) 150 (0, 0)) ∧ w'.ownsRow w.heap.size 128 4 v 0 [] ∧ Below w.heap.size w w' := by
  have HC : Hid (Calls Try.prog 66 #[.slice none 0 0] w fun e w' => ∃ v, e = .returned (.tuple #[.agg #[v, .int .i64 0, .int .i64 0, .slice none 0 0, .slice none 0 0, .slice none 0 0, .slice none 0 0], .int .i64 0]) ∧ w'.ownsRow w.heap.size 128 4 v 0 [] ∧ Below w.heap.size w w') := c_mNew_nil w hs
  clear hs
  go_enter Try.func27, Try.ntmps27
  go_wp2_with fail
  refine HC.out.mono ?_
  rintro e w1 ⟨v, rfl, ho1, hb1⟩
  obtain ⟨a2, cap2, hv2⟩ := ownsRow_slice ho1
  subst hv2
  have HO : Hid (_ ∧ _) := And.intro ho1 hb1
  clear ho1 hb1
  go_wp2_with fail
  go_ret2
  refine ⟨w1.heap.size + 1, _, rfl, by have := HO.out.2.size; omega, heap_alloc2 _ _ _, (HO.out.1.alloc _).alloc _, (HO.out.2.alloc HO.out.2.size _).alloc (by have := HO.out.2.size; simp; omega) _⟩
theorem c_New_any {w : World} {B : Nat} {a : Option Addr} {cap : Nat} {cs : List Ins} (h : w.ownsRow B 128 4 (.slice a cs.length cap) cs.length (codeCells cs)) (hs : soundL cs = true) :
    Calls Try.prog 27 #[.slice a cs.length cap] w fun e w' => ∃ H v, e = .returned (.tuple #[.pointer (some ⟨H, 0, none⟩), .int .i64 0]) ∧ w.heap.size ≤ H ∧ w'.heap[H]? = some (.cells (newHd v) 150 (0, 0)) ∧ w'.ownsRow w.heap.size 128 4 v cs.length (codeCells cs) ∧ Below w.heap.size w w' := by
  obtain ⟨b, hb⟩ := own_codeAt h rfl
  rcases h.2 with ⟨h1, h2⟩ | ⟨g, c, cur, hv, _⟩
  · have hn : cs = [] := List.eq_nil_of_length_eq_zero h2
    subst hn
    simp only [Value.slice.injEq] at h1
    obtain ⟨rfl, _, rfl⟩ := h1
    exact c_New_nil w hs
  · simp only [Value.slice.injEq, true_and] at hv
    obtain ⟨rfl, rfl⟩ := hv
    refine c_New_yes g 0 cap cs w (fun hp => ?_) hs
    obtain ⟨e1, e2, e3⟩ := hb hp
    simp only [Option.some.injEq, Addr.mk.injEq, and_true] at e1
    exact ⟨rfl, by rw [e1]; exact e2, by rw [e1]; exact e3⟩
set_option maxHeartbeats 4000000 in
theorem opened_any {t : ByteArray} {tr : Tree 5} (ht : t.size ≤ 400) (hT : TextOk t tr) (w : World) :
    Calls Try.prog 34 #[.string t] w fun e w' => ∃ G H cv s, e = .returned (.tuple #[.pointer (some ⟨G, 0, none⟩), .bool true]) ∧ Game w.heap.size (codeOf t tr) 1 (trigH (machE (codeOf t tr)) newH 0).2.2 w' G H cv s ∧ Below w.heap.size w w' := by
  have HL : Hid (∀ w : World, Calls Try.prog 13 #[.string t] w fun e w' => e = .returned (.tuple #[.int .i64 (maxI (lastsT t 5 tr).1 (lastsT t 5 tr).2), .int .i64 0, .int .i64 0]) ∧ Below w.heap.size w w') := fun w => c_Longest_ok ht hT w
  have HC : Hid (∀ w : World, Calls Try.prog 26 #[.string t] w fun e w' => ∃ sv, e = .returned (.tuple #[sv, .int .i64 0, .int .i64 0]) ∧ w'.ownsRow w.heap.size 128 4 sv (codeOf t tr).length (codeCells (codeOf t tr)) ∧ Below w.heap.size w w') := fun w => c_Compile_ok t ht tr hT w
  have HSN : Hid (soundL (codeOf t tr) = true) := hT.sound ht
  generalize maxI (lastsT t 5 tr).1 (lastsT t 5 tr).2 = LM at *
  generalize codeOf t tr = C at *
  obtain ⟨q1, q2⟩ := trig_first C
  clear hT
  go_enter Try.func34, Try.ntmps34
  go_wp2_with fail
  refine (HL.out _).mono ?_
  rintro e w1 ⟨rfl, hb1⟩
  have HB1 : Hid (Below w.heap.size w w1) := hb1
  clear hb1 HL
  go_wp2_with fail
  refine (HC.out _).mono ?_
  rintro e w2 ⟨sv, rfl, hsv, hb2⟩
  obtain ⟨ga, cap, rfl⟩ := ownsRow_slice hsv
  have H2 : Hid (w2.ownsRow w1.heap.size 128 4 (.slice ga C.length cap) C.length (codeCells C) ∧ Below w1.heap.size w1 w2) := ⟨hsv, hb2⟩
  have HNW : Hid (Calls Try.prog 27 #[.slice ga C.length cap] w2 fun e w' => ∃ H v, e = .returned (.tuple #[.pointer (some ⟨H, 0, none⟩), .int .i64 0]) ∧ w2.heap.size ≤ H ∧ w'.heap[H]? = some (.cells (newHd v) 150 (0, 0)) ∧ w'.ownsRow w2.heap.size 128 4 v C.length (codeCells C) ∧ Below w2.heap.size w2 w') := c_New_any hsv HSN.out
  clear hsv hb2 HC
  go_wp2_with fail
  refine HNW.out.mono ?_
  rintro e w3 ⟨H, v, rfl, hH, hgH, hvo, hb3⟩
  have H3 : Hid (w2.heap.size ≤ H ∧ w3.heap[H]? = some (.cells (newHd v) 150 (0, 0)) ∧ w3.ownsRow w2.heap.size 128 4 v C.length (codeCells C) ∧ Below w2.heap.size w2 w3) := ⟨hH, hgH, hvo, hb3⟩
  have HGA : Hid (GA C 0 newH w3 H ⟨v, .slice none 0 0, .slice none 0 0, fun _ => .slice none 0 0, 0⟩) := GA.new HSN.out hgH (own0 hvo)
  clear hH hgH hvo hb3 HNW
  go_wp2_with fail
  refine (g_Trigger 0 _ HGA.out (by omega)).mono ?_
  rintro e w4 ⟨rfl, s', hg4, hs4, hf4⟩
  rw [q1, q2]
  have HFIN : Hid (∀ W : World, Below w4.heap.size w4 W → W.heap[w4.heap.size]? = some (.cells #[.pointer (some ⟨H, 0, none⟩), .slice ga C.length cap] 78 (0, 0)) → Game w.heap.size C 1 (trigH (machE C) newH 0).2.2 W w4.heap.size H (.slice ga C.length cap) s' ∧ Below w.heap.size w W) := by
    intro W hW hG
    have z1 := HB1.out.size
    have z2 := H2.out.2.size
    have z3 := H3.out.2.2.2.size
    have z4 := hf4.size
    have hown0 : ∀ k, HS.own ⟨v, .slice none 0 0, .slice none 0 0, fun _ => .slice none 0 0, 0⟩ H k → w2.heap.size ≤ k := fun k hk => by
      rcases hk with (hk | ⟨d, _, hk⟩ | hk) | hk | hk
      · subst hk; exact H3.out.1
      · cases hk
      · cases hk
      · cases hk
      · exact (ownsRow_lies H3.out.2.2.1 hk).1
    have hown : ∀ k, s'.own H k → w2.heap.size ≤ k := fun k hk => by
      rcases hs4 k hk with h1 | h1
      · exact hown0 k h1
      · omega
    have hb24 : ∀ k, k < w2.heap.size → W.heap[k]? = w2.heap[k]? := fun k hk => by
      rw [hW.block k (by omega), hf4.block k (by omega) (fun ho => by have := hown0 k ho; omega), H3.out.2.2.2.block k hk]
    refine ⟨⟨hG, hg4.below hW, fun k hk => ⟨by have := hown k hk; omega, by have := hg4.lt hk; omega⟩, ?_, fun k hk ho => ?_, by omega⟩, ?_⟩
    · exact own_base (own0 (own_stays H2.out.1 fun k hk => hb24 k (by obtain ⟨_, cur, hc⟩ := ownsRow_lies H2.out.1 hk; exact heap_lt hc))) fun b hb => by have := (ownsRow_lies H2.out.1 hb).1; omega
    · have h1 := hown k ho
      obtain ⟨_, cur, hc⟩ := ownsRow_lies H2.out.1 hk
      have := heap_lt hc
      omega
    · refine ⟨hW.os.trans (hf4.os.trans (H3.out.2.2.2.os.trans (H2.out.2.os.trans HB1.out.os))), hW.tape.trans (hf4.tape.trans (H3.out.2.2.2.tape.trans (H2.out.2.tape.trans HB1.out.tape))), hW.output.trans (hf4.output.trans (H3.out.2.2.2.output.trans (H2.out.2.output.trans HB1.out.output))), by have := hW.size; omega, fun k hk => ?_⟩
      rw [hb24 k (by omega), H2.out.2.block k (by omega), HB1.out.block k hk]
  clear hg4 hs4 hf4 HGA H2 H3 HB1
  go_wp2_with fail
  go_ret2
  obtain ⟨h1, h2⟩ := HFIN.out _ ((Below.refl _ _).alloc (Nat.le_refl _) _) (heap_alloc_new _ _)
  exact ⟨_, _, _, _, rfl, h1, h2⟩
end Go.Proofs.Ytmmmnghiegajmaa
