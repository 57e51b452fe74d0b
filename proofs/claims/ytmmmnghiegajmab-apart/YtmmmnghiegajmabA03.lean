import Derived.Test.YtmmmnghiegajmabM01
import Derived.Test.YtmmmnghiegajmabM04
import Derived.Test.YtmmmnghiegajmabM05
import Derived.Test.YtmmmnghiegajmabM06
import Derived.Test.YtmmmnghiegajmabM07
import Derived.Test.YtmmmnghiegajmabM08
import Derived.Test.YtmmmnghiegajmabM09
import Derived.Test.YtmmmnghiegajmabM10
import Derived.Test.YtmmmnghiegajmabM11
import Derived.Test.YtmmmnghiegajmabM14
import Derived.Test.YtmmmnghiegajmabM16
import Derived.Test.YtmmmnghiegajmabM20
import Derived.Test.YtmmmnghiegajmabM21
import Derived.Test.YtmmmnghiegajmabM22
import Derived.Test.YtmmmnghiegajmabM24
import Derived.Test.YtmmmnghiegajmabM26
import Derived.Test.YtmmmnghiegajmabM27
import Derived.Test.YtmmmnghiegajmabM28
import Derived.Test.YtmmmnghiegajmabM29
import Derived.Test.YtmmmnghiegajmabM30
import Derived.Test.YtmmmnghiegajmabM31
import Derived.Test.YtmmmnghiegajmabM32
import Derived.Test.YtmmmnghiegajmabM33
import Derived.Test.YtmmmnghiegajmabM34
import Derived.Test.YtmmmnghiegajmabM37
import Derived.Test.YtmmmnghiegajmabM38
import Derived.Test.YtmmmnghiegajmabM40
import Derived.Test.YtmmmnghiegajmabM41
import Derived.Test.YtmmmnghiegajmabM42
import Derived.Test.YtmmmnghiegajmabA01
import Derived.Test.YtmmmnghiegajmabA02
import Derived.Deep.LoopGhost
import Derived.Deep.RegionLaw
import Derived.Deep.RegionHeld3
import Derived.BigRegion
import Derived.BigQuiet
import Derived.Deep.QuietTactic
import Derived.Deep.RegionWith
import Derived.Deep.DeepCutAuto
namespace Go.Proofs.Herald
def lenW (l : List (Nat × Nat)) : Nat := (l.map fun p => p.2 - p.1).sum
def byW (t : ByteArray) (l : List (Nat × Nat)) : Nat := (l.map fun p => (bytesOf t p).length).sum
theorem byW_le (t : ByteArray) : ∀ l, byW t l ≤ lenW l := by
  intro l
  induction l with
  | nil => simp [byW, lenW]
  | cons p r ih =>
    have h1 : (bytesOf t p).length ≤ p.2 - p.1 := by
      unfold bytesOf
      simp
      omega
    simp only [byW, lenW, List.map_cons, List.sum_cons] at ih ⊢
    omega
theorem byW_append (t : ByteArray) (a b : List (Nat × Nat)) : byW t (a ++ b) = byW t a + byW t b := by simp [byW]
theorem byW_cons (t : ByteArray) (p : Nat × Nat) (b : List (Nat × Nat)) : byW t (p :: b) = (bytesOf t p).length + byW t b := by simp [byW]
theorem lenW_append (a b : List (Nat × Nat)) : lenW (a ++ b) = lenW a + lenW b := by simp [lenW]
theorem scanW_len : ∀ (s : List UInt8) (i : Nat) (f : Option Nat), (∀ b, f = some b → b ≤ i) → lenW (scanW i f s) ≤ s.length + (i - f.getD i) := by
  intro s
  induction s with
  | nil =>
    intro i f hf
    cases f with
    | none => simp [scanW, shutW, lenW]
    | some b => simp [scanW, shutW, lenW]
  | cons c r ih =>
    intro i f hf
    have hs : lenW (shutW f i) = i - f.getD i := by cases f <;> simp [shutW, lenW]
    rw [scanW]
    split
    · have h := ih (i + 1) none (fun b hb => by cases hb)
      rw [lenW_append]
      have e : lenW ((i, i + 1) :: scanW (i + 1) none r) = 1 + lenW (scanW (i + 1) none r) := by simp [lenW]
      simp at h
      rw [e, hs, List.length_cons]
      omega
    · split
      · have h := ih (i + 1) none (fun b hb => by cases hb)
        simp at h
        rw [lenW_append, hs, List.length_cons]
        omega
      · cases f with
        | none =>
          have h := ih (i + 1) (some i) (fun b hb => by cases hb; omega)
          simp at h ⊢
          omega
        | some b =>
          have hb := hf b rfl
          have h := ih (i + 1) (some b) (fun b' hb' => by cases hb'; omega)
          simp at h ⊢
          omega
theorem byW_words (t : ByteArray) : byW t (wordsL t.data.toList) ≤ t.size := by
  have h1 := byW_le t (wordsL t.data.toList)
  have h2 := scanW_len t.data.toList 0 none (fun b hb => by cases hb)
  have h3 : t.data.toList.length = t.size := by simp
  simp at h2
  unfold wordsL at h1 ⊢
  omega
def netD (t : ByteArray) : List (Nat × Nat) → Int → Int
  | [], n => n
  | p :: r, n => netD t r (openB t p n)
theorem netD_append (t : ByteArray) : ∀ (a b : List (Nat × Nat)) (n : Int), netD t (a ++ b) n = netD t b (netD t a n) := by
  intro a
  induction a with
  | nil => intro b n; rfl
  | cons p r ih => intro b n; exact ih b _
theorem deepL_append (t : ByteArray) : ∀ (a b : List (Nat × Nat)) (n : Int), deepL t (a ++ b) n = -1 → deepL t a n = -1 ∧ deepL t b (netD t a n) = -1 := by
  intro a
  induction a with
  | nil => intro b n h; exact ⟨rfl, h⟩
  | cons p r ih =>
    intro b n h
    rw [List.cons_append, deepL] at h
    rw [deepL, netD, openB]
    split at h
    · rename_i h1
      rw [if_pos h1, if_pos h1]
      split at h
      · omega
      · rename_i h2
        rw [if_neg h2]
        exact ih b _ h
    · rename_i h1
      rw [if_neg h1, if_neg h1]
      split at h
      · rename_i h2
        rw [if_pos h2, if_pos h2]
        exact ih b _ h
      · rename_i h2
        rw [if_neg h2, if_neg h2]
        exact ih b _ h
theorem netD_plain {t : ByteArray} : ∀ {l : List (Nat × Nat)} (n : Int), plainW t l → netD t l n = n := by
  intro l
  induction l with
  | nil => intro n _; rfl
  | cons p r ih =>
    intro n h
    rw [netD, openB_other n (h p (List.mem_cons_self ..))]
    exact ih n fun q hq => h q (List.mem_cons_of_mem _ hq)
theorem netD_one {t : ByteArray} {p : Nat × Nat} (n : Int) : netD t [p] n = openB t p n := rfl
theorem kElse_plain {t : ByteArray} {p : Nat × Nat} (h : bytesOf t p = kElse) : ¬ bytesOf t p = kOpen ∧ ¬ bytesOf t p = kShut := by rw [h]; decide
/-- Braces of a tree's words are shut again. -/
theorem GT.net {t : ByteArray} : ∀ (d : Nat) (ws : List (Nat × Nat)) (tr : Tree d) (n : Int), GT t d ws tr → netD t ws n = n := by
  intro d
  induction d with
  | zero => intro ws tr n h; rw [show ws = [] from h]; rfl
  | succ d ih =>
    intro ws tr n h
    have key : ∀ (l : List (Hd × Tree d × Tree d)) (ws : List (Nat × Nat)) (n : Int), GL t (GT t d) (nilT d) ws l → netD t ws n = n := by
      intro l
      induction l with
      | nil => intro ws n h; rw [show ws = [] from h]; rfl
      | cons x r ihl =>
        intro ws n h
        rw [GL] at h
        obtain ⟨wo, wb, wr, f, rfl, hh, hp, hr, hb⟩ := h
        rw [netD_append, netD_plain n hp, netD_append]
        rcases hb with ⟨_, rfl, _⟩ | ⟨o, wa, c, _, rfl, h1, h2, h3, _⟩ | ⟨o, wa, c, e, o2, wa2, c2, _, rfl, h1, h2, h3, h4, h5, h6, h7⟩
        · exact ihl wr n hr
        · rw [netD, openB_open n h1, netD_append, ih _ _ _ h3, netD_one, openB_shut _ h2, show n + 1 - 1 = n from by omega]
          exact ihl wr n hr
        · rw [netD, openB_open n h1, netD_append, ih _ _ _ h6, netD, openB_shut _ h2, netD, openB_other _ (kElse_plain h3), netD, openB_open _ h4, netD_append, ih _ _ _ h7, netD_one, openB_shut _ h5,
            show n + 1 - 1 + 1 - 1 = n from by omega]
          exact ihl wr n hr
    exact key tr ws n h
/-- A repeat stands within at most three braces. -/
def NestT (t : ByteArray) : (d : Nat) → Tree d → Nat → Prop
  | 0, _, _ => True
  | d + 1, l, k => ∀ x : Hd × Tree d × Tree d, x ∈ l.list → (bytesOf t x.1.p = kRepeat → k < 4) ∧ NestT t d x.2.1 (k + 1) ∧ NestT t d x.2.2 (k + 1)
theorem NestT.nil (t : ByteArray) (d k : Nat) : NestT t d (nilT d) k := by
  cases d with
  | zero => trivial
  | succ d => intro x hx; exact absurd hx (by simp [nilT, Tree.list])
/-- Of the words of a repeat's head a block follows. -/
theorem HdOk.repeat {t : ByteArray} {wo : List (Nat × Nat)} {h : Hd} {f : Nat} (hh : HdOk t wo h f) (hk : bytesOf t h.p = kRepeat) : ¬ f = 0 := by
  rcases hh with ⟨p, q, _, _, h1, rfl⟩ | ⟨p, q, _, _, h1, rfl⟩ | ⟨p, _, _, h1, rfl⟩ | ⟨p, q, r, _, _, h1, rfl⟩ | ⟨p, q, r, s, _, _, h1, rfl⟩ | ⟨p, q, _, rfl, _⟩
  · rw [h1] at hk; exact absurd hk (by decide)
  · rw [h1] at hk; exact absurd hk (by decide)
  · rw [h1] at hk; exact absurd hk (by decide)
  · rw [h1] at hk; exact absurd hk (by decide)
  · rw [h1] at hk; exact absurd hk (by decide)
  · decide
theorem deepL_open {t : ByteArray} {p : Nat × Nat} {r : List (Nat × Nat)} {n : Int} (h : bytesOf t p = kOpen) (hd : deepL t (p :: r) n = -1) : n < 4 ∧ deepL t r (n + 1) = -1 := by
  have h' : bytesOf t p = [123] := h
  rw [deepL, if_pos h'] at hd
  split at hd
  · omega
  · exact ⟨by omega, hd⟩
theorem GT.nest {t : ByteArray} : ∀ (d : Nat) (ws : List (Nat × Nat)) (tr : Tree d) (k : Nat), GT t d ws tr → deepL t ws (k : Nat) = -1 → NestT t d tr k := by
  intro d
  induction d with
  | zero => intro ws tr k _ _; trivial
  | succ d ih =>
    intro ws tr k h hd
    have key : ∀ (l : List (Hd × Tree d × Tree d)) (ws : List (Nat × Nat)), GL t (GT t d) (nilT d) ws l → deepL t ws (k : Nat) = -1 → NestT t (d + 1) l k := by
      intro l
      induction l with
      | nil => intro ws _ _ x hx; exact absurd hx (by simp [Tree.list])
      | cons x r ihl =>
        intro ws h hd
        rw [GL] at h
        obtain ⟨wo, wb, wr, f, rfl, hh, hp, hr, hb⟩ := h
        obtain ⟨_, hd1⟩ := deepL_append t _ _ _ hd
        rw [netD_plain _ hp] at hd1
        obtain ⟨hdb, hd2⟩ := deepL_append t _ _ _ hd1
        have hnet : netD t wb (k : Nat) = (k : Nat) := by
          rcases hb with ⟨_, rfl, _⟩ | ⟨o, wa, c, _, rfl, h1, h2, h3, _⟩ | ⟨o, wa, c, e, o2, wa2, c2, _, rfl, h1, h2, h3, h4, h5, h6, h7⟩
          · rfl
          · rw [netD, openB_open _ h1, netD_append, GT.net _ _ _ _ h3, netD_one, openB_shut _ h2]; omega
          · rw [netD, openB_open _ h1, netD_append, GT.net _ _ _ _ h6, netD, openB_shut _ h2, netD, openB_other _ (kElse_plain h3), netD, openB_open _ h4, netD_append, GT.net _ _ _ _ h7, netD_one, openB_shut _ h5]; omega
        rw [hnet] at hd2
        have ih2 := ihl wr hr hd2
        intro y hy
        rcases List.mem_cons.mp (show y ∈ x :: r from hy) with rfl | hy
        · rcases hb with ⟨hf, _, h1, h2, _⟩ | ⟨o, wa, c, hf, rfl, h1, h2, h3, h4, _⟩ | ⟨o, wa, c, e, o2, wa2, c2, hf, rfl, h1, h2, h3, h4, h5, h6, h7⟩
          · rw [h1, h2]
            exact ⟨fun hk => absurd hf (hh.repeat hk), NestT.nil _ _ _, NestT.nil _ _ _⟩
          · obtain ⟨hlt, hdo⟩ := deepL_open h1 hdb
            rw [h4]
            exact ⟨fun _ => by omega, ih _ _ (k + 1) h3 (deepL_append t _ _ _ hdo).1, NestT.nil _ _ _⟩
          · obtain ⟨hlt, hdo⟩ := deepL_open h1 hdb
            obtain ⟨hda, hdo2⟩ := deepL_append t _ _ _ hdo
            rw [GT.net _ _ _ _ h6] at hdo2
            have hd3 := (deepL_append t [c, e] _ _ hdo2).2
            have e1 : netD t [c, e] ((k : Nat) + 1 : Int) = (k : Nat) := by rw [netD, openB_shut _ h2, netD, openB_other _ (kElse_plain h3)]; show ((k : Nat) + 1 - 1 : Int) = _; omega
            rw [e1] at hd3
            obtain ⟨_, hdo3⟩ := deepL_open h4 hd3
            exact ⟨fun _ => by omega, ih _ _ (k + 1) h6 hda, ih _ _ (k + 1) h7 (deepL_append t _ _ _ hdo3).1⟩
        · exact ih2 y hy
    exact key tr ws h hd
theorem okLv_of {t : ByteArray} : ∀ (d : Nat) (tr : Tree d) (k lv : Nat), GoodT t d tr → NestT t d tr k → lv ≤ k → OkLv t d tr lv := by
  intro d
  induction d with
  | zero => intro tr k lv _ _ _; trivial
  | succ d ih =>
    intro tr k lv hg hn hl x hx
    obtain ⟨g1, g2, g3⟩ := hg x hx
    obtain ⟨n1, n2, n3⟩ := hn x hx
    exact ⟨g1, fun hk => ⟨by have := n1 hk; omega, ih _ (k + 1) _ g2 n2 (by omega)⟩, fun _ => ⟨ih _ (k + 1) _ g2 n2 (by omega), ih _ (k + 1) _ g3 n3 (by omega)⟩⟩
theorem heavyT_or (t : ByteArray) (d : Nat) (tr : Tree d) (n : Int) : heavyT t d tr n = -1 ∨ 0 ≤ heavyT t d tr n := by
  obtain ⟨h1, h2⟩ := hvT_spec t d tr n
  cases h : hvT t d tr n with
  | none => left; rw [h1, h]; rfl
  | some p => right; rw [h1, h]; exact h2 p h
theorem wtT_nil (t : ByteArray) (d : Nat) : wtT t d (nilT d) = 0 := by cases d <;> rfl
/-- A word of a statement's head has as many bytes as its word. -/
theorem HdOk.by {t : ByteArray} {wo : List (Nat × Nat)} {h : Hd} {f : Nat} (hh : HdOk t wo h f) : (bytesOf t h.p).length ≤ byW t wo := by
  rcases hh with ⟨p, q, rfl, _, _, rfl⟩ | ⟨p, q, rfl, _, _, rfl⟩ | ⟨p, rfl, _, _, rfl⟩ | ⟨p, q, r, rfl, _, _, rfl⟩ | ⟨p, q, r, s, rfl, _, _, rfl⟩ | ⟨p, q, rfl, _, _, rfl⟩ <;> (rw [byW_cons]; exact Nat.le_add_right _ _)
/-- What a statement without a block weighs. -/
theorem HdOk.plain {t : ByteArray} {wo : List (Nat × Nat)} {h : Hd} {f : Nat} (hh : HdOk t wo h f) (hf : f = 0) : ¬ (bytesOf t h.p = kAsk ∨ bytesOf t h.p = kRetry) ∧ ¬ bytesOf t h.p = kRepeat := by
  rcases hh with ⟨p, q, _, _, h1, rfl⟩ | ⟨p, q, _, _, h1, rfl⟩ | ⟨p, _, _, h1, rfl⟩ | ⟨p, q, r, _, h2, _⟩ | ⟨p, q, r, s, _, h2, _⟩ | ⟨p, q, _, h2, _⟩
  · rw [show (⟨p, keyL (bytesOf t q), 0, 0⟩ : Hd).p = p from rfl, h1]; decide
  · rw [show (⟨p, 0, numL (bytesOf t q), 0⟩ : Hd).p = p from rfl, h1]; decide
  · rw [show (⟨p, 0, 0, 0⟩ : Hd).p = p from rfl, h1]; decide
  · omega
  · omega
  · omega
set_option maxHeartbeats 1000000 in
theorem GT.wt {t : ByteArray} : ∀ (d : Nat) (ws : List (Nat × Nat)) (tr : Tree d) (w : Nat), GT t d ws tr → GoodT t d tr → heavyT t d tr (w : Nat) = -1 → w ≤ 64 → w * wtT t d tr ≤ 16 * byW t ws := by
  intro d
  induction d with
  | zero => intro ws tr w _ _ _ _; show w * 0 ≤ _; omega
  | succ d ih =>
    intro ws tr w h hg hv hw
    have key : ∀ (l : List (Hd × Tree d × Tree d)) (ws : List (Nat × Nat)), GL t (GT t d) (nilT d) ws l → GoodT t (d + 1) l → heavyL t (heavyT t d) l (w : Nat) = -1 → w * (l.map fun x => wtS t (wtT t d) x 0).sum ≤ 16 * byW t ws := by
      intro l
      induction l with
      | nil => intro ws _ _ _; simp
      | cons x r ihl =>
        intro ws h hg hv
        rw [GL] at h
        obtain ⟨wo, wb, wr, f, rfl, hh, hp, hr, hb⟩ := h
        obtain ⟨g1, g2, g3⟩ := hg x (List.mem_cons_self ..)
        have hgr : GoodT t (d + 1) r := fun y hy => hg y (List.mem_cons_of_mem _ hy)
        rw [List.map_cons, List.sum_cons, Nat.mul_add, byW_append, byW_append]
        have hby := hh.by
        -- the statement's own weight, by what stands in its block
        have main : w * wtS t (wtT t d) x 0 ≤ 16 * (byW t wo + byW t wb) ∧ heavyL t (heavyT t d) r (w : Nat) = -1 := by
          rw [heavyL] at hv
          by_cases hk : bytesOf t x.1.p = kRepeat
          · rw [if_pos hk] at hv
            split at hv
            · omega
            · rename_i hle
              rcases heavyT_or t d x.2.1 ((w : Nat) * x.1.n) with hA | hA
              · rw [if_neg (by omega)] at hv
                rcases heavyT_or t d x.2.2 ((w : Nat) * x.1.n) with hB | hB
                · rw [if_neg (by omega)] at hv
                  refine ⟨?_, hv⟩
                  have hn9 : 1 ≤ x.1.n ∧ x.1.n ≤ 9 := by
                    rcases g1 with ⟨h, _⟩ | ⟨h, _⟩ | ⟨h, _⟩ | ⟨h, _⟩ | ⟨h, _⟩ | ⟨_, h1, h2, _⟩
                    · rw [hk] at h; cases h
                    · rw [hk] at h; cases h
                    · rw [hk] at h; cases h
                    · rw [hk] at h; cases h
                    · rw [hk] at h; cases h
                    · exact ⟨h1, h2⟩
                  obtain ⟨n, hn⟩ : ∃ n : Nat, x.1.n = (n : Nat) := ⟨x.1.n.toNat, by omega⟩
                  rw [hn] at hA hle
                  rw [← Int.natCast_mul] at hA hle
                  have hwn : w * n ≤ 64 := by omega
                  have hby6 : 6 ≤ byW t wo := by rw [hk] at hby; exact hby
                  have e : wtS t (wtT t d) x 0 = 1 + n * (wtT t d x.2.1 + 1) := by unfold wtS; rw [hk, hn]; simp; rfl
                  rw [e]
                  have hblk : w * n * wtT t d x.2.1 + 16 * 2 ≤ 16 * byW t wb := by
                    rcases hb with ⟨hf, _⟩ | ⟨o, wa, c, hf, rfl, h1, h2, h3, h4, _⟩ | ⟨o, wa, c, e, o2, wa2, c2, hf, rfl, h1, h2, h3, h4, h5, h6, h7⟩
                    · exact absurd hf (hh.repeat hk)
                    · have := ih wa x.2.1 (w * n) h3 g2 hA hwn
                      rw [byW_cons, byW_append, byW_cons, h1, h2]
                      show _ ≤ 16 * (1 + (byW t wa + (1 + byW t [])))
                      omega
                    · have := ih wa x.2.1 (w * n) h6 g2 hA hwn
                      rw [byW_cons, byW_append, byW_cons, h1, h2]
                      show _ ≤ 16 * (1 + (byW t wa + (1 + _)))
                      omega
                  have e2 : w * (1 + n * (wtT t d x.2.1 + 1)) = w + w * n * wtT t d x.2.1 + w * n := by
                    rw [Nat.mul_add, Nat.mul_one, ← Nat.mul_assoc, Nat.mul_add, Nat.mul_one]; omega
                  rw [e2]
                  omega
                · rw [if_pos hB] at hv; omega
              · rw [if_pos hA] at hv; omega
          · rw [if_neg hk] at hv
            rcases heavyT_or t d x.2.1 (w : Nat) with hA | hA
            · rw [if_neg (by omega)] at hv
              rcases heavyT_or t d x.2.2 (w : Nat) with hB | hB
              · rw [if_neg (by omega)] at hv
                refine ⟨?_, hv⟩
                by_cases hs : bytesOf t x.1.p = kSend
                · have e : wtS t (wtT t d) x 0 = 1 := by unfold wtS; rw [if_pos hs]
                  have hby4 : 4 ≤ byW t wo := by rw [hs] at hby; exact hby
                  rw [e]; omega
                · by_cases ha : bytesOf t x.1.p = kAsk ∨ bytesOf t x.1.p = kRetry
                  · have e : wtS t (wtT t d) x 0 = 1 + max (wtT t d x.2.1) (wtT t d x.2.2) := by unfold wtS; rw [if_neg hs, if_pos ha]
                    have hby3 : 3 ≤ byW t wo := by
                      rcases ha with ha | ha
                      · rw [ha] at hby; exact hby
                      · rw [ha] at hby; exact Nat.le_trans (by decide) hby
                    have hblk : w * max (wtT t d x.2.1) (wtT t d x.2.2) + 16 * 2 ≤ 16 * byW t wb := by
                      rcases hb with ⟨hf, _⟩ | ⟨o, wa, c, hf, rfl, h1, h2, h3, h4, _⟩ | ⟨o, wa, c, e, o2, wa2, c2, hf, rfl, h1, h2, h3, h4, h5, h6, h7⟩
                      · exact absurd ha (hh.plain hf).1
                      · have := ih wa x.2.1 w h3 g2 hA hw
                        rw [h4, wtT_nil, Nat.max_zero, byW_cons, byW_append, byW_cons, h1, h2]
                        show _ ≤ 16 * (1 + (byW t wa + (1 + byW t [])))
                        omega
                      · have i1 := ih wa x.2.1 w h6 g2 hA hw
                        have i2 := ih wa2 x.2.2 w h7 g3 hB hw
                        have hm : w * max (wtT t d x.2.1) (wtT t d x.2.2) ≤ 16 * byW t wa + 16 * byW t wa2 := by
                          rcases Nat.le_total (wtT t d x.2.1) (wtT t d x.2.2) with hle | hle
                          · rw [Nat.max_eq_right hle]; omega
                          · rw [Nat.max_eq_left hle]; omega
                        rw [byW_cons, byW_append, byW_cons, byW_cons, byW_cons, byW_append, h1, h2]
                        show _ ≤ 16 * (1 + (byW t wa + (1 + _)))
                        omega
                    rw [e, Nat.mul_add, Nat.mul_one]
                    omega
                  · have e : wtS t (wtT t d) x 0 = 1 := by unfold wtS; rw [if_neg hs, if_neg ha, if_neg hk]
                    have hby4 : 4 ≤ byW t wo := by
                      rcases g1.kind with h | h | h | h | h | h
                      · exact absurd h hs
                      · rw [h] at hby; exact hby
                      · rw [h] at hby; exact hby
                      · exact absurd (.inl h) ha
                      · exact absurd (.inr h) ha
                      · exact absurd h hk
                    rw [e]; omega
              · rw [if_pos hB] at hv; omega
            · rw [if_pos hA] at hv; omega
        have h2 := ihl wr hr hgr main.2
        have h1 := main.1
        omega
    exact key tr ws h hg hv
/-- Runs of the code of a text without a fault do what runs of the text do. -/
theorem TextOk.same {t : ByteArray} {tr : Tree 5} (h : TextOk t tr) (ht : t.size ≤ 400) : SameEng (codeE (codeOf t tr)) (textE t tr) (Tied t (codeOf t tr) 6400) := by
  refine sameEng (by omega) ?_ (okLv_of 5 tr 0 0 h.good (GT.nest 5 _ tr 0 h.words h.deep) (Nat.le_refl _))
  have h1 := GT.wt 5 _ tr 1 h.words h.good h.heavy (by omega)
  have h2 := byW_words t
  omega
/-- A text's statements: their numbers may be; one without a block has none. -/
def FineT (t : ByteArray) : (d : Nat) → Tree d → Prop
  | 0, _ => True
  | d + 1, l => ∀ x : Hd × Tree d × Tree d, x ∈ l.list → GoodHd t x.1 ∧ (bytesOf t x.1.p = kAsk ∨ bytesOf t x.1.p = kRetry ∨ bytesOf t x.1.p = kRepeat ∨ x.2.2 = nilT d) ∧ FineT t d x.2.1 ∧ FineT t d x.2.2
theorem FineT.nil (t : ByteArray) (d : Nat) : FineT t d (nilT d) := by
  cases d with
  | zero => trivial
  | succ d => intro x hx; cases hx
/-- One that is left to do. -/
structure ItOk (t : ByteArray) (x : It) : Prop where
  hd : GoodHd t x.s.1
  leaf : bytesOf t x.s.1.p = kAsk ∨ bytesOf t x.s.1.p = kRetry ∨ bytesOf t x.s.1.p = kRepeat ∨ x.s.2.2 = nilT x.d
  a : FineT t x.d x.s.2.1
  b : FineT t x.d x.s.2.2
  retry : bytesOf t x.s.1.p = kRetry → (x.i : Int) ≤ x.s.1.m
  repeat' : bytesOf t x.s.1.p = kRepeat → (x.i : Int) ≤ x.s.1.n
/-- A list of what is left to do, not too long. -/
structure ItsOk (t : ByteArray) (l : List It) : Prop where
  all : ∀ x ∈ l, ItOk t x
  wt : wtL t l ≤ 6400
theorem GoodHd.retry_m {t : ByteArray} {h : Hd} (g : GoodHd t h) (hk : bytesOf t h.p = kRetry) : 1 ≤ h.n ∧ h.n ≤ 999 ∧ 1 ≤ h.m ∧ h.m ≤ 6 := by
  rcases g with ⟨h1, _⟩ | ⟨h1, _⟩ | ⟨h1, _⟩ | ⟨h1, _⟩ | ⟨_, h2, h3, h4, h5⟩ | ⟨h1, _⟩
  · rw [hk] at h1; cases h1
  · rw [hk] at h1; cases h1
  · rw [hk] at h1; cases h1
  · rw [hk] at h1; cases h1
  · exact ⟨h2, h3, h4, h5⟩
  · rw [hk] at h1; cases h1
theorem GoodHd.repeat_n {t : ByteArray} {h : Hd} (g : GoodHd t h) (hk : bytesOf t h.p = kRepeat) : 1 ≤ h.n ∧ h.n ≤ 9 := by
  rcases g with ⟨h1, _⟩ | ⟨h1, _⟩ | ⟨h1, _⟩ | ⟨h1, _⟩ | ⟨h1, _⟩ | ⟨_, h2, h3, _⟩
  · rw [hk] at h1; cases h1
  · rw [hk] at h1; cases h1
  · rw [hk] at h1; cases h1
  · rw [hk] at h1; cases h1
  · rw [hk] at h1; cases h1
  · exact ⟨h2, h3⟩
theorem its_ok {t : ByteArray} {d : Nat} {tr : Tree d} (h : FineT t d tr) : ∀ x ∈ itsOf d tr, ItOk t x := by
  cases d with
  | zero => intro x hx; cases hx
  | succ d =>
    intro x hx
    obtain ⟨y, hy, rfl⟩ := List.mem_map.mp hx
    obtain ⟨h1, h2, h3, h4⟩ := h y hy
    refine ⟨h1, h2, h3, h4, fun hk => ?_, fun hk => ?_⟩
    · have := h1.retry_m hk; show ((0 : Nat) : Int) ≤ y.1.m; omega
    · have := h1.repeat_n hk; show ((0 : Nat) : Int) ≤ y.1.n; omega
theorem wtI_pos (t : ByteArray) (x : It) : 1 ≤ wtI t x := by
  unfold wtI wtS
  split
  · exact Nat.le_refl _
  · split
    · omega
    · split
      · omega
      · exact Nat.le_refl _
theorem wtL_len (t : ByteArray) : ∀ l : List It, l.length ≤ wtL t l := by
  intro l
  induction l with
  | nil => exact Nat.zero_le _
  | cons x l ih => rw [wtL_cons, List.length_cons]; have := wtI_pos t x; omega
theorem ItsOk.len {t : ByteArray} {l : List It} (h : ItsOk t l) : l.length ≤ 6400 := Nat.le_trans (wtL_len t l) h.wt
theorem ItsOk.nil (t : ByteArray) : ItsOk t [] := ⟨fun x hx => (by cases hx), Nat.zero_le _⟩
theorem ItsOk.before {t : ByteArray} {d : Nat} {tr : Tree d} {l : List It} (hf : FineT t d tr) (hl : ∀ x ∈ l, ItOk t x) (hw : wtT t d tr + wtL t l ≤ 6400) : ItsOk t (itsOf d tr ++ l) := by
  refine ⟨fun x hx => ?_, by rw [wtL_append, wtL_its]; exact hw⟩
  rcases List.mem_append.mp hx with hx | hx
  · exact its_ok hf x hx
  · exact hl x hx
/-- One time more. -/
theorem ItsOk.more {t : ByteArray} {x : It} {l : List It} (h : ItsOk t (x :: l)) (hk : bytesOf t x.s.1.p = kRepeat) (hi : (x.i : Int) < x.s.1.n) : ItsOk t ((⟨x.d, x.s, x.i + 1⟩ : It) :: l) ∧ ItsOk t (itsOf x.d x.s.2.1 ++ (⟨x.d, x.s, x.i + 1⟩ : It) :: l) := by
  have h1 := h.wt
  have h2 := h.all x (List.mem_cons_self ..)
  have e := round_step (n := x.s.1.n.toNat) (i := x.i) (W := wtT t x.d x.s.2.1) (by omega)
  rw [wtL_cons, wtI_repeat hk, e] at h1
  have hall : ∀ y ∈ ((⟨x.d, x.s, x.i + 1⟩ : It) :: l), ItOk t y := fun y hy => by
    rcases List.mem_cons.mp hy with rfl | hy
    · exact ⟨h2.hd, h2.leaf, h2.a, h2.b, fun hh => (by rw [show bytesOf t (⟨x.d, x.s, x.i + 1⟩ : It).s.1.p = bytesOf t x.s.1.p from rfl, hk] at hh; cases hh), fun _ => by show ((x.i + 1 : Nat) : Int) ≤ x.s.1.n; omega⟩
    · exact h.all y (List.mem_cons_of_mem _ hy)
  have hw : wtL t ((⟨x.d, x.s, x.i + 1⟩ : It) :: l) = 1 + (x.s.1.n.toNat - (x.i + 1)) * (wtT t x.d x.s.2.1 + 1) + wtL t l := by
    rw [wtL_cons, wtI_repeat (x := (⟨x.d, x.s, x.i + 1⟩ : It)) hk]
  exact ⟨⟨hall, by rw [hw]; omega⟩, .before h2.a hall (by rw [hw]; omega)⟩
/-- A text's statements are so. -/
theorem GT.fine {t : ByteArray} : ∀ (d : Nat) (ws : List (Nat × Nat)) (tr : Tree d), GT t d ws tr → GoodT t d tr → FineT t d tr := by
  intro d
  induction d with
  | zero => intro ws tr _ _; trivial
  | succ d ih =>
    intro ws tr h hg
    have key : ∀ (l : List (Hd × Tree d × Tree d)) (ws : List (Nat × Nat)), GL t (GT t d) (nilT d) ws l → GoodT t (d + 1) l → FineT t (d + 1) l := by
      intro l
      induction l with
      | nil => intro ws _ _ x hx; cases hx
      | cons y r ihl =>
        intro ws h hg x hx
        rw [GL] at h
        obtain ⟨wo, wb, wr, f, rfl, hh, hp, hr, hb⟩ := h
        rcases List.mem_cons.mp hx with rfl | hx
        · obtain ⟨g1, g2, g3⟩ := hg x (List.mem_cons_self ..)
          refine ⟨g1, ?_, ?_, ?_⟩
          · rcases hb with ⟨_, _, _, h, _⟩ | ⟨o, wa, c, _, _, _, _, _, h, _⟩ | ⟨o, wa, c, e, o2, wa2, c2, hf, _⟩
            · exact .inr (.inr (.inr h))
            · exact .inr (.inr (.inr h))
            · rcases hh with ⟨_, _, _, h, _⟩ | ⟨_, _, _, h, _⟩ | ⟨_, _, h, _⟩ | ⟨p, q, r, _, _, h, e⟩ | ⟨p, q, r, s, _, _, h, e⟩ | ⟨_, _, _, h, _⟩
              · omega
              · omega
              · omega
              · rw [e]; exact .inl h
              · rw [e]; exact .inr (.inl h)
              · omega
          · rcases hb with ⟨_, _, h, _, _⟩ | ⟨o, wa, c, _, _, _, _, h, _, _⟩ | ⟨o, wa, c, e, o2, wa2, c2, hf, _, _, _, _, _, _, h, _⟩
            · rw [h]; exact FineT.nil t d
            · exact ih _ _ h g2
            · exact ih _ _ h g2
          · rcases hb with ⟨_, _, _, h, _⟩ | ⟨o, wa, c, _, _, _, _, _, h, _⟩ | ⟨o, wa, c, e, o2, wa2, c2, hf, _, _, _, _, _, _, _, h⟩
            · rw [h]; exact FineT.nil t d
            · rw [h]; exact FineT.nil t d
            · exact ih _ _ h g3
        · exact ihl wr hr (fun z hz => hg z (List.mem_cons_of_mem _ hz)) x hx
    exact key tr ws h hg
theorem TextOk.its {t : ByteArray} {tr : Tree 5} (h : TextOk t tr) (ht : t.size ≤ 400) : ItsOk t (itsOf 5 tr) := by
  have h1 := GT.wt 5 _ tr 1 h.words h.good h.heavy (by omega)
  have h2 := byW_words t
  exact ⟨its_ok (GT.fine 5 _ tr h.words h.good), by rw [wtL_its]; omega⟩
def orI (a b : Int × Int) : Int × Int := (maxI a.1 b.1, maxI a.2 b.2)
structure Nm (a : Int × Int) : Prop where
  l1 : -1 ≤ a.1
  l2 : -1 ≤ a.2
  pos : 0 ≤ a.1 ∨ 0 ≤ a.2
theorem max_cases (a b : Int) : (b < a ∧ maxI a b = a) ∨ (a ≤ b ∧ maxI a b = b) := by
  unfold maxI
  split
  · rename_i h; exact .inl ⟨h, rfl⟩
  · rename_i h; exact .inr ⟨by omega, rfl⟩
theorem Nm.or {a b : Int × Int} (ha : Nm a) (hb : Nm b) : Nm (orI a b) := by
  obtain ⟨a1, a2⟩ := a
  obtain ⟨b1, b2⟩ := b
  obtain ⟨h1, h2, h3⟩ := ha
  obtain ⟨h4, h5, h6⟩ := hb
  have h7 := max_cases a1 b1
  have h8 := max_cases a2 b2
  simp only at *
  refine ⟨?_, ?_, ?_⟩ <;> simp only [orI] <;> omega
theorem LB.or {b : Int} {p q : Int × Int} (h : LB b (orI p q)) : LB b p ∧ LB b q := by
  obtain ⟨p1, p2⟩ := p
  obtain ⟨q1, q2⟩ := q
  obtain ⟨h4, h5⟩ := h
  have h7 := max_cases p1 q1
  have h8 := max_cases p2 q2
  simp only [orI] at *
  refine ⟨⟨?_, ?_⟩, ?_, ?_⟩ <;> simp only <;> omega
theorem LB.le {b : Int} {p : Int × Int} (h : LB b p) (hp : Nm p) : 0 ≤ b := by
  obtain ⟨h1, h2, h3⟩ := hp
  obtain ⟨h4, h5⟩ := h
  omega
end Go.Proofs.Herald
namespace Go.Proofs.Ytmmmnghiegajmab
open Go.RowKit Go.Proofs.Herald
theorem own_any {w : World} {B : Nat} {e : TypeId} {size : Nat} {v : Value} {n : Nat} {xs : List Value} (h : w.ownsRow 0 e size v n xs) (hB : ∀ b, v.ownBlock = some b → B ≤ b) : w.ownsRow B e size v n xs := own_base h hB
theorem ShAt.pushR {w wr W w1 : World} {now : Int} {rv uv : Value} {rl : List Rn} {ml : List Msg} {g cap : Nat} (h : ShAt w wr now rv rl uv ml) (r : Rn) (h0 : OneMore wr W)
    (hown1 : w1.ownsRow 0 82 5 (.slice (some ⟨g, 0, none⟩) (rl.length + 1) cap) (rl.length + 1) (rnsCells rl ++ rnCells r)) (hgrow : W.grownBy w1 rv.ownBlock) (hat : rv.ownBlock = some g ∨ g = W.heap.size) :
    ShAt w (w1.setCell ⟨w.heap.size + 1, 1, none⟩ (.slice (some ⟨g, 0, none⟩) (rl.length + 1) cap)) now (.slice (some ⟨g, 0, none⟩) (rl.length + 1) cap) (rl ++ [r]) uv ml := by
  have hs := h0.size
  have hrO : ∀ {k : Nat} {c : Array Value} {t : TypeId}, wr.heap[k]? = some (.cells c t (0, 0)) → t ≠ 82 → w1.heap[k]? = wr.heap[k]? := fun {k c t} hk ht => grown_same h0 hgrow (heap_lt hk) fun e => by
    obtain ⟨cur, hc⟩ := own_block (own0 h.r) e
    exact ne_of_type hk hc ht rfl
  have hBg : w.heap.size ≤ g := by
    rcases hat with h1 | h1
    · exact (ownsRow_lies h.r h1).1
    · have := h.bel.size; omega
  have ho1 := (hrO h.o (by decide)).trans h.o
  have hgO : g ≠ w.heap.size + 1 := by
    obtain ⟨cur, hc⟩ := own_block hown1 (k := g) rfl
    exact ne_of_type hc ho1 (by decide)
  have hb : Below w.heap.size w w1 := h.bel.trans ⟨hgrow.os.trans h0.os, hgrow.tape.trans h0.tape, hgrow.output.trans h0.output, by have := grown_size h0 hgrow; omega, fun k hk => grown_same h0 hgrow (by have := h.bel.size; omega) (fun e => by have := (ownsRow_lies h.r e).1; omega)⟩
  refine ⟨hb.setCell (p := ⟨w.heap.size + 1, 1, none⟩) (Nat.le_succ _) _, ?_, ?_, ?_, ?_⟩
  · rw [Below.heap_setCell _ _ _ _ (show w.heap.size ≠ w.heap.size + 1 by omega)]
    exact (hrO h.a (by decide)).trans h.a
  · rw [heap_setCell_self _ ho1]; rfl
  · rw [rnsCells_snoc, List.length_append]
    refine own_any (own_keep hown1 fun k hk => ?_) fun b hb => ?_
    · simp [Value.ownBlock] at hk; subst hk; exact Below.heap_setCell _ _ _ _ hgO
    · simp [Value.ownBlock] at hb; omega
  · refine own_stays h.m fun k hk => ?_
    obtain ⟨c, hc⟩ := own_block (own0 h.m) hk
    rw [Below.heap_setCell _ _ _ _ (ne_of_type hc h.o (by decide))]
    exact hrO hc (by decide)
theorem ShAt.drew {w wr : World} {now : Int} {rv uv : Value} {rl : List Rn} {ml : List Msg} (h : ShAt w wr now rv rl uv ml) : ShAt w wr.drew now rv rl uv ml :=
  ⟨h.bel.drew, h.a, h.o, own_stays h.r fun _ _ => rfl, own_stays h.m fun _ _ => rfl⟩
end Go.Proofs.Ytmmmnghiegajmab
namespace Go.Proofs.Herald
end Go.Proofs.Herald
namespace Go.Proofs.Ytmmmnghiegajmab
open Go.RowKit Go.Proofs.Herald
open Go.RowKit Go.Proofs.Herald
open Go.RowKit Go.Proofs.Herald
open Go.RowKit Go.Proofs.Herald
open Go.RowKit Go.Proofs.Herald
/-- The plain side of a call. -/
structure Both {RT : Type} (M : Mode RT) (G : RT → Prop) (ρ : RT → Pr → Prop) (cs : List Ins) (i : Nat) (hm' : Her Pr) (hd' : Her RT) : Prop where
  same : SameHer ρ hd' hm'
  okd : HOk M.E G (50000000 * (i + 1 : Nat)) hd'
  okm : HOk (machE cs) (goodM cs) (50000000 * (i + 1 : Nat)) hm'
  qs : QsOk hm'
  last : hm'.last ≤ (i + 1 : Nat)
open Go.RowKit Go.Proofs.Herald
open Go.RowKit Go.Proofs.Herald
theorem GTo.below {cs : List Ins} {m : Nat} {h : Her Pr} {w0 : World} {H : Nat} {s0 : HS} {w w' : World} (g : GTo cs m h w0 H s0 w) (hb : Below w.heap.size w w') : GTo cs m h w0 H s0 w' := by
  obtain ⟨i, s, h1, h2, h3, h4⟩ := g
  exact ⟨i, s, h1, h2.below hb, h3, h4.trans ((Fr.of_below hb).mono fun k hk hs => by omega)⟩
open Go.RowKit Go.Proofs.Herald
open Go.RowKit Go.Proofs.Herald
theorem Wrote.of {B R : Nat} {w w1 : World} {cs : List Ins} {e : Ending} {w' : World} (h : Wrote B R w1 cs e w') (hb : Below B w w1) : Wrote B R w cs e w' := ⟨h.1, h.2.1, hb.trans h.2.2⟩
end Go.Proofs.Ytmmmnghiegajmab
