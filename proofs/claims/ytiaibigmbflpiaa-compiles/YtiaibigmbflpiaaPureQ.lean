/- What Longest answers, as the document's own answer has it and as the program has it: the same. -/
import Derived.Test.YtiaibigmbflpiaaPureP
namespace Go.Proofs.Herald

theorem GL.size {t : ByteArray} {d : Nat} (hs : ∀ ws x, GT t d ws x → sizeT d x ≤ ws.length) : ∀ (l : List (Hd × Tree d × Tree d)) (ws : List (Nat × Nat)), GL t (GT t d) (nilT d) ws l → (l.map fun x => 1 + sizeT d x.2.1 + sizeT d x.2.2).sum ≤ ws.length := by
  have hnil : sizeT d (nilT d) = 0 := by cases d <;> rfl
  intro l
  induction l with
  | nil => intro ws h; simp
  | cons x r ih =>
    intro ws h
    rw [GL] at h
    obtain ⟨wo, wb, wr, f, rfl, hh, _, hr, hb⟩ := h
    obtain ⟨p, q, rfl, _⟩ := hh.head
    have h1 := ih wr hr
    rw [List.map_cons, List.sum_cons]
    have h2 : sizeT d x.2.1 + sizeT d x.2.2 ≤ wb.length := by
      rcases hb with ⟨_, rfl, e1, e2, _⟩ | ⟨o, wa, c, _, rfl, _, _, ha, e2, _⟩ | ⟨o, wa, c, e, o2, wa2, c2, _, rfl, _, _, _, _, _, ha, ha2⟩
      · rw [e1, e2, hnil]; simp
      · have := hs _ _ ha
        rw [e2, hnil]; simp; omega
      · have := hs _ _ ha
        have := hs _ _ ha2
        simp; omega
    simp only [List.length_append, List.length_cons]
    omega

theorem GT.size {t : ByteArray} : ∀ (d : Nat) (ws : List (Nat × Nat)) (x : Tree d), GT t d ws x → sizeT d x ≤ ws.length := by
  intro d
  induction d with
  | zero => intro ws x _; exact Nat.zero_le _
  | succ d ih => intro ws x h; exact GL.size ih x.list ws h

/-- The document's own answer. -/
def RefAns (t : ByteArray) (r : Int × Int × Int) : Prop :=
  (∃ f p, formedL t = (f, p) ∧ f ≠ 0 ∧ r = (0, f, p)) ∨
  (∃ p, formedL t = (0, 0) ∧ deepL t (wordsL t.data.toList) 0 = p ∧ 0 ≤ p ∧ r = (0, 4, p)) ∨
  (∃ tr : Tree 5, formedL t = (0, 0) ∧ deepL t (wordsL t.data.toList) 0 = -1 ∧ GT t 5 (wordsL t.data.toList) tr ∧ GoodT t 5 tr ∧ sizeT 5 tr ≤ 400 ∧
    ((∃ p, heavyT t 5 tr 1 = p ∧ 0 ≤ p ∧ r = (0, 5, p)) ∨ (heavyT t 5 tr 1 = -1 ∧ 100000 < maxI (lastsT t 5 tr).1 (lastsT t 5 tr).2 ∧ r = (0, 6, 0)) ∨
     (heavyT t 5 tr 1 = -1 ∧ ¬ 100000 < maxI (lastsT t 5 tr).1 (lastsT t 5 tr).2 ∧ r = (maxI (lastsT t 5 tr).1 (lastsT t 5 tr).2, 0, 0))))

/-- The program's answer. -/
def CodeAns (t : ByteArray) (r : Int × Int × Int) : Prop :=
  ((endR t).1 = false ∧ r = (0, 2, (atR t (endR t).2.us : Int))) ∨
  ((endR t).1 = true ∧ (endR t).2.fault ≠ 0 ∧ r = (0, (endR t).2.fault, (endR t).2.place)) ∨
  ((endR t).1 = true ∧ (endR t).2.fault = 0 ∧ ∃ tr : Tree 5, (endR t).2.fl = flatT t 5 tr ∧ GoodT t 5 tr ∧ sizeT 5 tr ≤ 400 ∧
    ((100000 < maxI (lastsT t 5 tr).1 (lastsT t 5 tr).2 ∧ r = (0, 6, 0)) ∨ (¬ 100000 < maxI (lastsT t 5 tr).1 (lastsT t 5 tr).2 ∧ r = (maxI (lastsT t 5 tr).1 (lastsT t 5 tr).2, 0, 0))))

theorem answers (t : ByteArray) (ht : t.size ≤ 400) : ∃ r, RefAns t r ∧ CodeAns t r := by
  cases h : (endR t).1 with
  | false =>
    exact ⟨(0, 2, (atR t (endR t).2.us : Int)), Or.inl ⟨2, _, tie_no t ht h, by decide, rfl⟩, Or.inl ⟨h, rfl⟩⟩
  | true =>
    obtain ⟨e, he, hf, hd, hdp, htree⟩ := tie_yes t ht h
    have hfst : (endR t).2.fault = (encG e).1 := congrArg Prod.fst he
    have hsnd : (endR t).2.place = (encG e).2 := congrArg Prod.snd he
    obtain ⟨f3, f4, f5⟩ := e
    cases f3 with
    | some p =>
      refine ⟨(0, 3, p), Or.inl ⟨3, p, hf, by decide, rfl⟩, Or.inr (Or.inl ⟨h, by rw [hfst]; show (3 : Int) ≠ 0; decide, ?_⟩)⟩
      rw [hfst, hsnd]; rfl
    | none =>
      cases f4 with
      | some p =>
        refine ⟨(0, 4, p), Or.inr (Or.inl ⟨p, hf, hd, hdp p rfl, rfl⟩), Or.inr (Or.inl ⟨h, by rw [hfst]; show (4 : Int) ≠ 0; decide, ?_⟩)⟩
        rw [hfst, hsnd]; rfl
      | none =>
        obtain ⟨tr, g1, g2, g3⟩ := htree rfl
        obtain ⟨g4, g5, g6⟩ := g3 rfl
        have hsz : sizeT 5 tr ≤ 400 := by
          have h1 := GT.size 5 _ tr g1
          have h2 := wordsL_length t.data.toList
          have h3 : t.data.toList.length = t.size := by simp
          omega
        cases f5 with
        | some p =>
          refine ⟨(0, 5, p), Or.inr (Or.inr ⟨tr, hf, hd, g1, g4, hsz, Or.inl ⟨p, g5, g6 p rfl, rfl⟩⟩), Or.inr (Or.inl ⟨h, by rw [hfst]; show (5 : Int) ≠ 0; decide, ?_⟩)⟩
          rw [hfst, hsnd]; rfl
        | none =>
          have h0 : (endR t).2.fault = 0 := by rw [hfst]; rfl
          by_cases hl : 100000 < maxI (lastsT t 5 tr).1 (lastsT t 5 tr).2
          · exact ⟨(0, 6, 0), Or.inr (Or.inr ⟨tr, hf, hd, g1, g4, hsz, Or.inr (Or.inl ⟨g5, hl, rfl⟩)⟩), Or.inr (Or.inr ⟨h, h0, tr, g2, g4, hsz, Or.inl ⟨hl, rfl⟩⟩)⟩
          · exact ⟨_, Or.inr (Or.inr ⟨tr, hf, hd, g1, g4, hsz, Or.inr (Or.inr ⟨g5, hl, rfl⟩)⟩), Or.inr (Or.inr ⟨h, h0, tr, g2, g4, hsz, Or.inr ⟨hl, rfl⟩⟩)⟩

end Go.Proofs.Herald
