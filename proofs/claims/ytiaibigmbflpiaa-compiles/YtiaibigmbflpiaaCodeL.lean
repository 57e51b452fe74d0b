/- The program's reader: its method block. -/
import Derived.Test.YtiaibigmbflpiaaCodeK
import Derived.Deep.LoopGhost
namespace Go.Proofs.Ytiaibigmbflpiaa
open Go.RowKit Go.Proofs.Herald

set_option maxHeartbeats 2000000 in
theorem c_block (t : ByteArray) (ht : t.size ≤ 400) (n : Nat) (blk : RSt → Bool × RSt) (hblk : BlkSaid t n blk) (behind : ByteArray) (B R : Nat) (sv : Value) (st : RSt) (w : World) (h : RdAt t B w R sv st)
    (hn : st.us.length ≤ n + 1) (hd0 : 0 ≤ st.deep) (hd : st.deep + (st.us.length : Int) ≤ 900) (hm : st.fl.length + st.us.length ≤ 400) (hh0 : 0 ≤ st.heavy) (hh : st.heavy ≤ 65) :
    Calls Try.prog 70 #[.pointer (some ⟨R, 0, none⟩), .string behind] w fun e w' =>
      e = .returned (.bool (loopR t (statementR t blk) behind.data.toList (st.us.length + 1) st).1) ∧ (∃ sv', RdAt t B w' R sv' (loopR t (statementR t blk) behind.data.toList (st.us.length + 1) st).2) ∧ Below B w w' ∧
        ((loopR t (statementR t blk) behind.data.toList (st.us.length + 1) st).1 = true → Keeps st (loopR t (statementR t blk) behind.data.toList (st.us.length + 1) st).2) ∧ Grows st (loopR t (statementR t blk) behind.data.toList (st.us.length + 1) st).2 := by
  obtain ⟨Z, hZ⟩ : ∃ Z, Z = loopR t (statementR t blk) behind.data.toList (st.us.length + 1) st := ⟨_, rfl⟩
  rw [← hZ]
  have HZ : Hid (Z = loopR t (statementR t blk) behind.data.toList (st.us.length + 1) st) := hZ
  have HH : Hid (RdAt t B w R sv st) := h
  clear hZ h
  go_enter Try.func70, Try.ntmps70
  go_wp2_with fail
  go_loopg [5] st.us.length (fun g _ wr => ∃ (x : RSt) (sx : Value) (f : Nat), g = x.us.length ∧ x.us.length < f ∧ RdAt t B wr R sx x ∧ Below B w wr ∧ Keeps st x ∧ Z = loopR t (statementR t blk) behind.data.toList f x)
  case atStart => exact ⟨st, sv, st.us.length + 1, rfl, by omega, HH.out, Below.refl _ _, ⟨rfl, rfl, Nat.le_refl _, Nat.le_refl _, Nat.le_refl _⟩, HZ.out⟩
  case round =>
    obtain ⟨x, sx, f, rfl, hf, hx, hb, hk, hz⟩ := hrel
    have c1 : wr.cell? ⟨R, 1, none⟩ = some (.string (wordR t x.us)) := by rw [cell_of_heap hx.blk]; rfl
    obtain ⟨s, hs⟩ : ∃ s, s = wordR t x.us := ⟨_, rfl⟩
    have hby : bytesR t x = s.data.toList := by rw [hs]; rfl
    rw [← hs] at c1
    obtain ⟨f', rfl⟩ : ∃ f', f = f' + 1 := ⟨f - 1, by omega⟩
    rw [loopR, hby] at hz
    have HX : Hid (RdAt t B wr R sx x ∧ Below B w wr ∧ Keeps st x) := ⟨hx, hb, hk⟩
    by_cases he : s.data.toList = behind.data.toList
    · rw [if_pos he] at hz
      have HE : Hid (Z = (true, x)) := hz
      have e0 : (s.toList == behind.toList) = true := by rw [ByteArray.toList_eq, ByteArray.toList_eq, he]; simp
      have e1 : (s.toList != behind.toList) = false := by simp [bne, e0]
      clear hs hby he hz hx hb hk HZ
      go_wp2_with fail
      go_ret
      rw [HE.out]
      exact ⟨rfl, ⟨_, HX.out.1⟩, HX.out.2.1, fun _ => HX.out.2.2, HX.out.2.2.grown⟩
    · rw [if_neg he] at hz
      have e0 : (s.toList == behind.toList) = false := by rw [ByteArray.toList_eq, ByteArray.toList_eq]; simpa using he
      have e1 : (s.toList != behind.toList) = true := by simp [bne, e0]
      have hkm := hk.mass
      have hkl := hk.less
      have hkd := hk.deep
      have hkh := hk.heavy
      have hcs := c_statement t ht n blk hblk B R sx x wr hx (by omega) (by omega) (by omega) (by omega) (by omega) (by omega)
      obtain ⟨q, hq⟩ : ∃ q, q = statementR t blk x := ⟨_, rfl⟩
      rw [← hq] at hcs hz
      have HCS : Hid (Calls _ _ _ _ _) := hcs
      have HZ2 : Hid (Z = if q.1 = true then loopR t (statementR t blk) behind.data.toList f' q.2 else (false, q.2)) := hz
      clear hs hby he hz hx hb hk HZ hcs hq hkm hkl hkd hkh
      go_wp2_with fail
      refine HCS.out.mono ?_
      rintro e w2 ⟨rfl, ⟨sv2, h2⟩, b2, k2, g2⟩
      have H2 : Hid (RdAt t B w2 R sv2 q.2 ∧ Below B w w2 ∧ (q.1 = true → Keeps x q.2 ∧ q.2.us.length < x.us.length) ∧ Grows x q.2) := ⟨h2, HX.out.2.1.trans b2, k2, g2⟩
      clear h2 b2 k2 g2 HCS
      cases hq1 : q.1 with
      | true =>
        have HZ3 : Hid (_ = _) := HZ2.out.trans (if_pos hq1)
        have hlt := (H2.out.2.2.1 hq1).2
        have HQ : Hid (Keeps x q.2) := (H2.out.2.2.1 hq1).1
        clear hq1 HZ2
        go_wp2_with fail
        go_roundg q.2.us.length
        case measure => exact hlt
        case rel => exact ⟨q.2, sv2, f', rfl, by omega, H2.out.1, H2.out.2.1, HX.out.2.2.trans HQ.out, HZ3.out⟩
      | false =>
        have HZ3 : Hid (_ = _) := HZ2.out.trans (if_neg (by rw [hq1]; simp))
        clear hq1 HZ2
        go_wp2_with fail
        go_ret
        rw [HZ3.out]
        exact ⟨rfl, ⟨_, H2.out.1⟩, H2.out.2.1, fun h => absurd h (by simp), HX.out.2.2.grown.trans H2.out.2.2.2⟩

theorem blkSaid (t : ByteArray) (ht : t.size ≤ 400) : ∀ n : Nat, n ≤ 401 → BlkSaid t n (blockR t n kShut) := by
  intro n
  induction n with
  | zero => intro _ B R sv st w h; exact absurd h (by omega)
  | succ n ih =>
    intro hn B R sv st w hl hd0 hd hm hh0 hh h
    exact c_block t ht n (blockR t n kShut) (ih (by omega)) ⟨#[125]⟩ B R sv st w h (by omega) hd0 hd hm hh0 hh

end Go.Proofs.Ytiaibigmbflpiaa
