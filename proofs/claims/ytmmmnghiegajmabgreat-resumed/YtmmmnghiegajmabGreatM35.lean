import Derived.Test.YtmmmnghiegajmabGreatM34
import Derived.Test.YtmmmnghiegajmabGreatM21
/- What the program's blockSpan and longestOf give back. -/
namespace Go.Proofs.YtmmmnghiegajmabGreat
open Go.RowKit Go.Proofs.Herald
/-- The two blocks that blockSpan itself keeps. -/
structure SpAt (w wr : World) (p q : Int) : Prop where
  bel : Below w.heap.size w wr
  size : w.heap.size + 2 ≤ wr.heap.size
  res : wr.heap[w.heap.size]? = some (.cells #[.int .i64 0, .int .i64 0] 123 (0, 0))
  all : wr.heap[w.heap.size + 1]? = some (.cells #[.int .i64 p, .int .i64 q] 123 (0, 0))
theorem SpAt.keep {w wr w2 : World} {p q : Int} (h : SpAt w wr p q) (hb : Below wr.heap.size wr w2) : SpAt w w2 p q := by
  have hs := h.size
  have hs2 := hb.size
  exact ⟨h.bel.trans (hb.mono (by omega)), by omega, by rw [hb.block _ (by omega)]; exact h.res, by rw [hb.block _ (by omega)]; exact h.all⟩
theorem SpAt.alloc {w wr : World} {p q : Int} (h : SpAt w wr p q) (o : Obj) : SpAt w (wr.alloc o) p q := h.keep ((Below.refl _ _).alloc (Nat.le_refl _) _)
theorem SpAt.next {w w2 : World} {p q : Int} (h : SpAt w w2 p q) (p' q' : Int) :
    SpAt w ((w2.setCell ⟨w.heap.size + 1, 0, none⟩ (.int .i64 p')).setCell ⟨w.heap.size + 1, 1, none⟩ (.int .i64 q')) p' q' := by
  refine ⟨(h.bel.setCell (p := ⟨w.heap.size + 1, 0, none⟩) (by simp) _).setCell (p := ⟨w.heap.size + 1, 1, none⟩) (by simp) _, by rw [size_setCell, size_setCell]; exact h.size, ?_, ?_⟩
  · rw [Below.heap_setCell _ _ _ _ (by simp), Below.heap_setCell _ _ _ _ (by simp)]; exact h.res
  · rw [heap_setCell_self _ (heap_setCell_self _ h.all)]; rfl
/-- How many statements lie ahead of the k-th. -/
def flatL (t : ByteArray) (d : Nat) (l : List (Hd × Tree d × Tree d)) : List Nd := l.flatMap fun x : Hd × Tree d × Tree d => ndOf t x.1 (flatT t d x.2.1).length (flatT t d x.2.2).length :: (flatT t d x.2.1 ++ flatT t d x.2.2)
theorem flatL_cons (t : ByteArray) (d : Nat) (x : Hd × Tree d × Tree d) (r : List (Hd × Tree d × Tree d)) :
    flatL t d (x :: r) = ndOf t x.1 (flatT t d x.2.1).length (flatT t d x.2.2).length :: (flatT t d x.2.1 ++ (flatT t d x.2.2 ++ flatL t d r)) := by
  simp [flatL]
set_option maxHeartbeats 1000000 in
theorem c_blockSpan_empty (a : Option Addr) (cap : Nat) (w : World) :
    Calls Tryz.prog 63 #[.slice a 0 cap] w fun e w' => e = .returned (.agg #[.int .i64 0, .int .i64 (-1)]) ∧ Below w.heap.size w w' := by
  go_enter Tryz.func63, Tryz.ntmps63
  go_wp2_with fail
  go_loop [0] (fun v => v = .slice a 0 cap) (fun _ => 0)
  case atStart => rfl
  case round =>
    subst hrel
    go_wp2_with fail
    refine bodyPost_ret (v := .agg #[.int .i64 0, .int .i64 (-1)]) (by simp [results, Tryz.results63, go_sem]) rfl ⟨rfl, ?_⟩
    exact ((Below.refl _ _).alloc (Nat.le_refl _) _).alloc (by simp) _
set_option maxHeartbeats 4000000 in
theorem c_blockSpan_succ (t : ByteArray) (d : Nat) (hd1 : d + 1 ≤ 5) (ih : SpanSaid t d) (l : List (Hd × Tree d × Tree d)) (b off cap n : Nat) (w : World) (hn : n = (flatL t d l).length) (hg : GoodT t (d + 1) l) (hsz : sizeT (d + 1) l ≤ 400) (hcap : n ≤ cap) (hmax : cap ≤ maxLen) (hb : b < w.heap.size) (hnd : NdsAt w b off (flatL t d l)) :
    Calls Tryz.prog 63 #[.slice (some ⟨b, off, none⟩) n cap] w fun e w' => e = .returned (.agg #[.int .i64 (lastsT t (d + 1) l).1, .int .i64 (lastsT t (d + 1) l).2]) ∧ Below w.heap.size w w' := by
  unfold maxLen at hmax
  have hn400 : n ≤ 400 := by rw [hn]; have e : (flatL t d l).length = sizeT (d + 1) l := flatT_size t (d + 1) l; omega
  obtain ⟨F, hFd⟩ : ∃ F : (Hd × Tree d × Tree d) → Int × Int, F = fun x => oneI t x.1 (lastsT t d x.2.1) (lastsT t d x.2.2) := ⟨_, rfl⟩
  have HT : Hid (lastsT t (d + 1) l = foldI (0, -1) (l.map F)) := by show _ = _; rw [hFd]; rfl
  have hok := GoodT.ok (d + 1) l hg
  have e2 : sizeT (d + 1) l = (l.map fun x : Hd × Tree d × Tree d => 1 + sizeT d x.2.1 + sizeT d x.2.2).sum := rfl
  have HBD : Hid (∀ k, AtMost (foldI (0, -1) ((l.take k).map F)) 10000000000000) := by
    intro k
    have hp := capC_pos d
    have := foldI_atMost (capC (d + 1)) (by have := capC_pos (d + 1); omega) F (fun x => 1 + sizeT d x.2.1 + sizeT d x.2.2) (l.take k) (0, -1) 0
      (fun x hx => by
        have h := hok x (List.mem_of_mem_take hx)
        rw [capC_succ, hFd]
        exact oneI_atMost t x.1 _ _ _ _ _ hp (lastsT_atMost t d _ h.2.2.2.2.2.1) (lastsT_atMost t d _ h.2.2.2.2.2.2) h.1 h.2.1 h.2.2.2.1 h.2.2.2.2.1) ⟨by simp, by simp, by simp, by simp⟩ (by omega)
    rw [Int.zero_add] at this
    refine atMost_big this ?_ hd1
    have h1 := sum_take_le (fun x : Hd × Tree d × Tree d => 1 + sizeT d x.2.1 + sizeT d x.2.2) l k
    omega
  have HX : Hid (∀ (k : Nat) (hk : k < l.length), GoodHd t l[k].1 ∧ GoodT t d l[k].2.1 ∧ GoodT t d l[k].2.2 ∧ sizeT d l[k].2.1 ≤ 400 ∧ sizeT d l[k].2.2 ≤ 400 ∧ AtMost (lastsT t d l[k].2.1) 10000000000000 ∧ AtMost (lastsT t d l[k].2.2) 10000000000000 ∧ AtMost (F l[k]) 10000000000000 ∧
      F l[k] = oneI t l[k].1 (lastsT t d l[k].2.1) (lastsT t d l[k].2.2)) := by
    intro k hk
    have hm : l[k] ∈ l := List.getElem_mem hk
    obtain ⟨h1, h2, h3⟩ := hg l[k] hm
    have h4 := sum_le (fun x : Hd × Tree d × Tree d => 1 + sizeT d x.2.1 + sizeT d x.2.2) l _ hm
    have h5 := hok l[k] hm
    have ba := lastsT_atMost t d _ (GoodT.ok d _ h2)
    have bb := lastsT_atMost t d _ (GoodT.ok d _ h3)
    have bo := oneI_atMost t l[k].1 _ _ _ _ _ (capC_pos d) ba bb h5.1 h5.2.1 h5.2.2.2.1 h5.2.2.2.2.1
    rw [← capC_succ] at bo
    refine ⟨h1, h2, h3, by omega, by omega, atMost_big ba (by omega) (by omega), atMost_big bb (by omega) (by omega), ?_, by rw [hFd]⟩
    rw [hFd]
    exact atMost_big bo (by omega) hd1
  have HN : Hid (NdsAt w b off (flatL t d l)) := hnd
  have HNN : Hid (n = (flatL t d l).length) := hn
  clear hn hg hsz hok e2 hFd hnd
  go_enter Tryz.func63, Tryz.ntmps63
  go_wp2_with fail
  go_loopw [0] (fun v wr => ∃ (k K m c : Nat) (a : Option Addr), k ≤ l.length ∧ (flatL t d l).drop K = flatL t d (l.drop k) ∧ m = (flatL t d (l.drop k)).length ∧ K + m = n ∧ v = .slice a m c ∧ m ≤ c ∧ c ≤ 9223372036854775807 ∧ (0 < m → a = some ⟨b, off + K * 6, none⟩) ∧
      SpAt w wr (foldI (0, -1) ((l.take k).map F)).1 (foldI (0, -1) ((l.take k).map F)).2) (fun v _ => match v with | .slice _ m _ => m | _ => 0)
  case atStart =>
    obtain ⟨k0, k1⟩ := heap2 w (.cells #[.int .i64 0, .int .i64 0] 123) (.cells #[.int .i64 0, .int .i64 (-1)] 123)
    exact ⟨0, 0, n, cap, _, Nat.zero_le _, rfl, HNN.out, by omega, rfl, hcap, by omega, fun _ => by simp, ⟨((Below.refl _ _).alloc (Nat.le_refl _) _).alloc (by simp) _, by simp, k0, k1⟩⟩
  case round =>
    obtain ⟨k, K, m, c, a, hk, hdr, hm, hKm, rfl, hmc, hc, ha, hS⟩ := hrel
    by_cases hlt : k < l.length
    · obtain ⟨gh, ga, gb, za, zb, ba, bb, bo, hFe⟩ := HX.out k hlt
      have hck := flatL_cons t d l[k] (l.drop (k + 1))
      rw [← drop_cons_of l k hlt] at hck
      obtain ⟨A, hA⟩ : ∃ A, A = flatT t d l[k].2.1 := ⟨_, rfl⟩
      obtain ⟨B, hB⟩ : ∃ B, B = flatT t d l[k].2.2 := ⟨_, rfl⟩
      rw [← hA, ← hB] at hck
      obtain ⟨x, hx⟩ : ∃ x, x = A.length := ⟨_, rfl⟩
      obtain ⟨y, hy⟩ : ∃ y, y = B.length := ⟨_, rfl⟩
      obtain ⟨N, hN⟩ : ∃ N, N = ndOf t l[k].1 x y := ⟨_, rfl⟩
      rw [← hx, ← hy, ← hN] at hck
      have hm2 : m = 1 + x + y + (flatL t d (l.drop (k + 1))).length := by rw [hm, hck]; simp [hx, hy]; omega
      have hNb : N.body = x ∧ N.els = y := by rw [hN]; exact ⟨rfl, rfl⟩
      have hnr : NdsAt wr b off (flatL t d l) := HN.out.keep (hS.bel.block b hb)
      have hn1 : NdsAt wr b (off + K * 6) (flatL t d (l.drop k)) := hnr.sub K (flatL t d (l.drop k)).length _ (by rw [hdr, List.take_length])
      rw [hck] at hn1
      have hnA : NdsAt wr b (off + K * 6 + 1 * 6) A := hn1.sub 1 x A (by simp [hx])
      have hnB : NdsAt wr b (off + K * 6 + (1 + x) * 6) B := hn1.sub (1 + x) y B (by rw [show 1 + x = x + 1 from by omega]; simp [hx, hy])
      have hcl : ∀ (j : Nat) (u : Value), (ndCells N)[j]? = some u → wr.cell? ⟨b, off + K * 6 + j, none⟩ = some u := fun j u hj => by
        have := hn1 0 (by simp) j u hj; simpa using this
      have c0 := hcl 0 (.int .i64 N.kind) rfl
      have c1 := hcl 1 (.int .i64 N.key) rfl
      have c2 := hcl 2 (.int .i64 N.times) rfl
      have c3 := hcl 3 (.int .i64 N.ticks) rfl
      have c4 := hcl 4 (.int .i64 x) (by rw [← hNb.1]; rfl)
      have c5 := hcl 5 (.int .i64 y) (by rw [← hNb.2]; rfl)
      simp only [Nat.add_zero] at c0
      have hdr2 : (flatL t d l).drop (K + (1 + x + y)) = flatL t d (l.drop (k + 1)) := by
        rw [← List.drop_drop, hdr, hck, show 1 + x + y = (x + y) + 1 from by omega, List.drop_succ_cons, hx, hy, ← List.append_assoc, ← List.length_append]
        exact List.drop_left
      have ha' := ha (by omega)
      obtain ⟨ba1, ba2, ba3, ba4⟩ := ba
      obtain ⟨bb1, bb2, bb3, bb4⟩ := bb
      obtain ⟨bo1, bo2, bo3, bo4⟩ := bo
      obtain ⟨bp1, bp2, bp3, bp4⟩ := HBD.out k
      obtain ⟨P, hP⟩ : ∃ P, P = foldI (0, -1) ((l.take k).map F) := ⟨_, rfl⟩
      have HST : Hid (foldI (0, -1) ((l.take (k + 1)).map F) = (behindI P.1 (F l[k]).1, maxI P.2 (behindI P.1 (F l[k]).2))) := by
        show _ = _
        rw [List.take_succ_eq_append_getElem hlt, List.map_append, List.map_singleton, foldI_snoc, hP]
      rw [← hP] at bp1 bp2 bp3 bp4 hS
      obtain ⟨U, hU⟩ : ∃ U, U = lastsT t d l[k].2.1 := ⟨_, rfl⟩
      obtain ⟨V, hV⟩ : ∃ V, V = lastsT t d l[k].2.2 := ⟨_, rfl⟩
      obtain ⟨O, hO⟩ : ∃ O, O = F l[k] := ⟨_, rfl⟩
      rw [← hU] at ba1 ba2 ba3 ba4
      rw [← hV] at bb1 bb2 bb3 bb4
      rw [← hO] at bo1 bo2 bo3 bo4 HST
      have HUV : Hid (U = lastsT t d l[k].2.1 ∧ V = lastsT t d l[k].2.2 ∧ O = oneI t l[k].1 U V ∧ N = ndOf t l[k].1 x y ∧ x = (flatT t d l[k].2.1).length ∧ y = (flatT t d l[k].2.2).length) := by
        refine ⟨hU, hV, ?_, hN, by rw [hx, hA], by rw [hy, hB]⟩
        rw [hO, hFe, hU, hV]
      have HGG : Hid (GoodHd t l[k].1 ∧ GoodT t d l[k].2.1 ∧ GoodT t d l[k].2.2) := ⟨gh, ga, gb⟩
      have HNA : Hid (NdsAt wr b (off + K * 6 + 1 * 6) (flatT t d l[k].2.1) ∧ NdsAt wr b (off + K * 6 + (1 + x) * 6) (flatT t d l[k].2.2)) := by rw [← hA, ← hB]; exact ⟨hnA, hnB⟩
      have HDR : Hid (_ = _) := hdr2
      have HSP : Hid (SpAt w wr P.1 P.2) := hS
      have HM2 : Hid (m = 1 + x + y + (flatL t d (l.drop (k + 1))).length) := hm2
      have hxm : 1 + x + y ≤ m := by omega
      have hsz := hS.bel.size
      have hsp2 := hS.size
      have hbr : b < wr.heap.size := by omega
      clear gh ga gb hck hA hB hx hy hN hNb hnr hn1 hnA hnB hcl hdr2 hP hU hV hO hFe hS hm2 hdr hm ha
      subst ha'
      have HNC : Hid (∀ X Y : Nat, x = X → y = Y → ndCells N = [.int .i64 N.kind, .int .i64 N.key, .int .i64 N.times, .int .i64 N.ticks, .int .i64 X, .int .i64 Y]) := fun X Y h1 h2 => by rw [← h1, ← h2, HUV.out.2.2.2.1]; rfl
      rcases (show c = 1 ∨ (¬ c = 1 ∧ c = 1 + x) ∨ (¬ c = 1 ∧ ¬ c = 1 + x ∧ c = 1 + x + y) ∨ (¬ c = 1 ∧ ¬ c = 1 + x ∧ ¬ c = 1 + x + y) from by omega) with h1 | ⟨h1, h2⟩ | ⟨h1, h2, h3⟩ | ⟨h1, h2, h3⟩
      · obtain rfl : x = 0 := by omega
        obtain rfl : y = 0 := by omega
        subst h1
        have hst : Hid (∀ W : World, Calls Tryz.prog 82 #[.agg #[.int .i64 N.kind, .int .i64 N.key, .int .i64 N.times, .int .i64 N.ticks, .int .i64 0, .int .i64 0], .agg #[.int .i64 U.1, .int .i64 U.2], .agg #[.int .i64 V.1, .int .i64 V.2]] W fun e w' => e = .returned (.agg #[.int .i64 O.1, .int .i64 O.2]) ∧ Below W.heap.size W w') := fun W => by
          have h0 := c_statementSpan t l[k].1 0 0 HGG.out.1 U.1 U.2 V.1 V.2 W ba1 ba2 ba3 ba4 bb1 bb2 bb3 bb4
          rw [← HUV.out.2.2.2.1, HNC.out 0 0 rfl rfl, show oneI t l[k].1 (U.1, U.2) (V.1, V.2) = O from HUV.out.2.2.1.symm] at h0
          exact h0
        go_wp2_with fail
        refine (ih l[k].2.1 _ b (off + K * 6 + 1 * 6) _ _ _ HUV.out.2.2.2.2.1 HGG.out.2.1 za (by omega) (by omega) (by unfold maxLen; omega) ?_).mono ?_
        · intro hpos
          first | (exfalso; omega) | (refine ⟨rfl, ?_, HNA.out.1.keep (Below.heap_alloc _ _ _ hbr)⟩; simp; omega)
        rw [← HUV.out.1]
        rintro e w2 ⟨rfl, hb2⟩
        have hw2 : wr.heap.size + 1 ≤ w2.heap.size := by have := hb2.size; simp at this; omega
        have s2 := ((HSP.out.alloc _).keep hb2)
        have gF2 : w2.heap[wr.heap.size]? = some (.cells #[.int .i64 N.kind, .int .i64 N.key, .int .i64 N.times, .int .i64 N.ticks, .int .i64 0, .int .i64 0] 127 (0, 0)) := (hb2.block wr.heap.size (by simp)).trans (heap_alloc_new _ _)
        have f4 : w2.cell? ⟨wr.heap.size, 4, none⟩ = some (.int .i64 0) := (cell_of_heap gF2).trans rfl
        have f5 : w2.cell? ⟨wr.heap.size, 5, none⟩ = some (.int .i64 0) := (cell_of_heap gF2).trans rfl
        have k2 : w2.heap[b]? = wr.heap[b]? := (hb2.block b (by simp; omega)).trans (Below.heap_alloc _ _ _ hbr)
        have HS2 : Hid (_ ∧ _ ∧ _) := And.intro s2 (And.intro gF2 k2)
        clear hb2 s2 gF2 k2
        go_wp2_with fail
        refine (ih l[k].2.2 _ b (off + K * 6 + (1 + 0) * 6) _ _ _ HUV.out.2.2.2.2.2 HGG.out.2.2 zb (by omega) (by omega) (by unfold maxLen; omega) ?_).mono ?_
        · intro hpos
          first | (exfalso; omega) | (refine ⟨rfl, ?_, HNA.out.2.keep ((Below.heap_alloc _ _ _ (by omega)).trans HS2.out.2.2)⟩; simp; omega)
        rw [← HUV.out.2.1]
        rintro e w3 ⟨rfl, hb3⟩
        have hw3 : w2.heap.size + 1 ≤ w3.heap.size := by have := hb3.size; simp at this; omega
        have s3 := ((HS2.out.1.alloc _).keep hb3)
        have gF3 : w3.heap[wr.heap.size]? = some (.cells #[.int .i64 N.kind, .int .i64 N.key, .int .i64 N.times, .int .i64 N.ticks, .int .i64 0, .int .i64 0] 127 (0, 0)) := (hb3.block wr.heap.size (by simp; omega)).trans ((Below.heap_alloc _ _ _ (by omega)).trans HS2.out.2.1)
        have gG3 : w3.heap[w2.heap.size]? = some (.cells #[.int .i64 U.1, .int .i64 U.2] 123 (0, 0)) := (hb3.block w2.heap.size (by simp)).trans (heap_alloc_new _ _)
        have d0 : w3.cell? ⟨wr.heap.size, 0, none⟩ = some (.int .i64 N.kind) := (cell_of_heap gF3).trans rfl
        have d1 : w3.cell? ⟨wr.heap.size, 1, none⟩ = some (.int .i64 N.key) := (cell_of_heap gF3).trans rfl
        have d2 : w3.cell? ⟨wr.heap.size, 2, none⟩ = some (.int .i64 N.times) := (cell_of_heap gF3).trans rfl
        have d3 : w3.cell? ⟨wr.heap.size, 3, none⟩ = some (.int .i64 N.ticks) := (cell_of_heap gF3).trans rfl
        have d4 : w3.cell? ⟨wr.heap.size, 4, none⟩ = some (.int .i64 0) := (cell_of_heap gF3).trans rfl
        have d5 : w3.cell? ⟨wr.heap.size, 5, none⟩ = some (.int .i64 0) := (cell_of_heap gF3).trans rfl
        have g0 : w3.cell? ⟨w2.heap.size, 0, none⟩ = some (.int .i64 U.1) := (cell_of_heap gG3).trans rfl
        have g1 : w3.cell? ⟨w2.heap.size, 1, none⟩ = some (.int .i64 U.2) := (cell_of_heap gG3).trans rfl
        have q1 : wr.heap.size < w3.heap.size := by omega
        have q2 : w2.heap.size < w3.heap.size := by omega
        have HS3 : Hid (SpAt w w3 P.1 P.2) := s3
        clear hb3 s3 gF3 gG3 f4 f5
        go_wp2_with fail
        refine (hst.out _).mono ?_
        rintro e w4 ⟨rfl, hb4⟩
        have hw4 : w3.heap.size + 1 ≤ w4.heap.size := by have := hb4.size; simp at this; omega
        have s4 := ((HS3.out.alloc _).keep hb4)
        have a0 : w4.cell? ⟨w.heap.size + 1, 0, none⟩ = some (.int .i64 P.1) := (cell_of_heap s4.all).trans rfl
        have a1 : w4.cell? ⟨w.heap.size + 1, 1, none⟩ = some (.int .i64 P.2) := (cell_of_heap s4.all).trans rfl
        have q3 : w.heap.size + 1 < w4.heap.size := by have := s4.size; omega
        have HS4 : Hid (SpAt w w4 P.1 P.2) := s4
        clear hb4 s4 d0 d1 d2 d3 d4 d5 g0 g1
        go_wp2_with fail
        refine (c_then P.1 P.2 O.1 O.2 _ bp1 (by omega) bp3 (by omega) bo1 (by omega) bo3 (by omega)).mono ?_
        rintro e w5 ⟨rfl, hb5⟩
        have s5 := ((HS4.out.alloc _).keep hb5)
        have y0 : w5.cell? ⟨w.heap.size + 1, 0, none⟩ = some (.int .i64 P.1) := (cell_of_heap s5.all).trans rfl
        have y1 : w5.cell? ⟨w.heap.size + 1, 1, none⟩ = some (.int .i64 P.2) := (cell_of_heap s5.all).trans rfl
        have z0 : w5.frozen? ⟨w.heap.size + 1, 0, none⟩ = false := free_of_heap s5.all
        have z1 : w5.frozen? ⟨w.heap.size + 1, 1, none⟩ = false := free_of_heap s5.all
        have HS5 : Hid (SpAt w w5 P.1 P.2) := s5
        clear hb5 s5 a0 a1
        go_wp2_with fail
        go_roundw
        case rel =>
          refine ⟨k + 1, K + (1 + 0 + 0), 0, 0, _, by omega, HDR.out, ?_, by omega, rfl, by omega, by omega, ?_, by rw [HST.out]; exact HS5.out.next _ _⟩
          · have := HM2.out; omega
          · intro hpos; first | (exfalso; omega) | (simp only [Nat.add_mul]; congr 2; omega)
        case measure => simp; omega
      · obtain rfl : y = 0 := by omega
        subst h2
        have hst : Hid (∀ W : World, Calls Tryz.prog 82 #[.agg #[.int .i64 N.kind, .int .i64 N.key, .int .i64 N.times, .int .i64 N.ticks, .int .i64 (x : Nat), .int .i64 0], .agg #[.int .i64 U.1, .int .i64 U.2], .agg #[.int .i64 V.1, .int .i64 V.2]] W fun e w' => e = .returned (.agg #[.int .i64 O.1, .int .i64 O.2]) ∧ Below W.heap.size W w') := fun W => by
          have h0 := c_statementSpan t l[k].1 x 0 HGG.out.1 U.1 U.2 V.1 V.2 W ba1 ba2 ba3 ba4 bb1 bb2 bb3 bb4
          rw [← HUV.out.2.2.2.1, HNC.out x 0 rfl rfl, show oneI t l[k].1 (U.1, U.2) (V.1, V.2) = O from HUV.out.2.2.1.symm] at h0
          exact h0
        go_wp2_with fail
        refine (ih l[k].2.1 _ b (off + K * 6 + 1 * 6) _ _ _ HUV.out.2.2.2.2.1 HGG.out.2.1 za (by omega) (by omega) (by unfold maxLen; omega) ?_).mono ?_
        · intro hpos
          first | (exfalso; omega) | (refine ⟨rfl, ?_, HNA.out.1.keep (Below.heap_alloc _ _ _ hbr)⟩; simp; omega)
        rw [← HUV.out.1]
        rintro e w2 ⟨rfl, hb2⟩
        have hw2 : wr.heap.size + 1 ≤ w2.heap.size := by have := hb2.size; simp at this; omega
        have s2 := ((HSP.out.alloc _).keep hb2)
        have gF2 : w2.heap[wr.heap.size]? = some (.cells #[.int .i64 N.kind, .int .i64 N.key, .int .i64 N.times, .int .i64 N.ticks, .int .i64 (x : Nat), .int .i64 0] 127 (0, 0)) := (hb2.block wr.heap.size (by simp)).trans (heap_alloc_new _ _)
        have f4 : w2.cell? ⟨wr.heap.size, 4, none⟩ = some (.int .i64 (x : Nat)) := (cell_of_heap gF2).trans rfl
        have f5 : w2.cell? ⟨wr.heap.size, 5, none⟩ = some (.int .i64 0) := (cell_of_heap gF2).trans rfl
        have k2 : w2.heap[b]? = wr.heap[b]? := (hb2.block b (by simp; omega)).trans (Below.heap_alloc _ _ _ hbr)
        have HS2 : Hid (_ ∧ _ ∧ _) := And.intro s2 (And.intro gF2 k2)
        clear hb2 s2 gF2 k2
        go_wp2_with fail
        refine (ih l[k].2.2 _ b (off + K * 6 + (1 + x) * 6) _ _ _ HUV.out.2.2.2.2.2 HGG.out.2.2 zb (by omega) (by omega) (by unfold maxLen; omega) ?_).mono ?_
        · intro hpos
          first | (exfalso; omega) | (refine ⟨rfl, ?_, HNA.out.2.keep ((Below.heap_alloc _ _ _ (by omega)).trans HS2.out.2.2)⟩; simp; omega)
        rw [← HUV.out.2.1]
        rintro e w3 ⟨rfl, hb3⟩
        have hw3 : w2.heap.size + 1 ≤ w3.heap.size := by have := hb3.size; simp at this; omega
        have s3 := ((HS2.out.1.alloc _).keep hb3)
        have gF3 : w3.heap[wr.heap.size]? = some (.cells #[.int .i64 N.kind, .int .i64 N.key, .int .i64 N.times, .int .i64 N.ticks, .int .i64 (x : Nat), .int .i64 0] 127 (0, 0)) := (hb3.block wr.heap.size (by simp; omega)).trans ((Below.heap_alloc _ _ _ (by omega)).trans HS2.out.2.1)
        have gG3 : w3.heap[w2.heap.size]? = some (.cells #[.int .i64 U.1, .int .i64 U.2] 123 (0, 0)) := (hb3.block w2.heap.size (by simp)).trans (heap_alloc_new _ _)
        have d0 : w3.cell? ⟨wr.heap.size, 0, none⟩ = some (.int .i64 N.kind) := (cell_of_heap gF3).trans rfl
        have d1 : w3.cell? ⟨wr.heap.size, 1, none⟩ = some (.int .i64 N.key) := (cell_of_heap gF3).trans rfl
        have d2 : w3.cell? ⟨wr.heap.size, 2, none⟩ = some (.int .i64 N.times) := (cell_of_heap gF3).trans rfl
        have d3 : w3.cell? ⟨wr.heap.size, 3, none⟩ = some (.int .i64 N.ticks) := (cell_of_heap gF3).trans rfl
        have d4 : w3.cell? ⟨wr.heap.size, 4, none⟩ = some (.int .i64 (x : Nat)) := (cell_of_heap gF3).trans rfl
        have d5 : w3.cell? ⟨wr.heap.size, 5, none⟩ = some (.int .i64 0) := (cell_of_heap gF3).trans rfl
        have g0 : w3.cell? ⟨w2.heap.size, 0, none⟩ = some (.int .i64 U.1) := (cell_of_heap gG3).trans rfl
        have g1 : w3.cell? ⟨w2.heap.size, 1, none⟩ = some (.int .i64 U.2) := (cell_of_heap gG3).trans rfl
        have q1 : wr.heap.size < w3.heap.size := by omega
        have q2 : w2.heap.size < w3.heap.size := by omega
        have HS3 : Hid (SpAt w w3 P.1 P.2) := s3
        clear hb3 s3 gF3 gG3 f4 f5
        go_wp2_with fail
        refine (hst.out _).mono ?_
        rintro e w4 ⟨rfl, hb4⟩
        have hw4 : w3.heap.size + 1 ≤ w4.heap.size := by have := hb4.size; simp at this; omega
        have s4 := ((HS3.out.alloc _).keep hb4)
        have a0 : w4.cell? ⟨w.heap.size + 1, 0, none⟩ = some (.int .i64 P.1) := (cell_of_heap s4.all).trans rfl
        have a1 : w4.cell? ⟨w.heap.size + 1, 1, none⟩ = some (.int .i64 P.2) := (cell_of_heap s4.all).trans rfl
        have q3 : w.heap.size + 1 < w4.heap.size := by have := s4.size; omega
        have HS4 : Hid (SpAt w w4 P.1 P.2) := s4
        clear hb4 s4 d0 d1 d2 d3 d4 d5 g0 g1
        go_wp2_with fail
        refine (c_then P.1 P.2 O.1 O.2 _ bp1 (by omega) bp3 (by omega) bo1 (by omega) bo3 (by omega)).mono ?_
        rintro e w5 ⟨rfl, hb5⟩
        have s5 := ((HS4.out.alloc _).keep hb5)
        have y0 : w5.cell? ⟨w.heap.size + 1, 0, none⟩ = some (.int .i64 P.1) := (cell_of_heap s5.all).trans rfl
        have y1 : w5.cell? ⟨w.heap.size + 1, 1, none⟩ = some (.int .i64 P.2) := (cell_of_heap s5.all).trans rfl
        have z0 : w5.frozen? ⟨w.heap.size + 1, 0, none⟩ = false := free_of_heap s5.all
        have z1 : w5.frozen? ⟨w.heap.size + 1, 1, none⟩ = false := free_of_heap s5.all
        have HS5 : Hid (SpAt w w5 P.1 P.2) := s5
        clear hb5 s5 a0 a1
        go_wp2_with fail
        go_roundw
        case rel =>
          refine ⟨k + 1, K + (1 + x + 0), m - (1 + x + 0), _, _, by omega, HDR.out, ?_, by omega, rfl, by omega, by omega, ?_, by rw [HST.out]; exact HS5.out.next _ _⟩
          · have := HM2.out; omega
          · intro hpos; first | (exfalso; omega) | (simp only [Nat.add_mul]; congr 2; omega)
        case measure => simp; omega
      · subst h3
        have hst : Hid (∀ W : World, Calls Tryz.prog 82 #[.agg #[.int .i64 N.kind, .int .i64 N.key, .int .i64 N.times, .int .i64 N.ticks, .int .i64 (x : Nat), .int .i64 (y : Nat)], .agg #[.int .i64 U.1, .int .i64 U.2], .agg #[.int .i64 V.1, .int .i64 V.2]] W fun e w' => e = .returned (.agg #[.int .i64 O.1, .int .i64 O.2]) ∧ Below W.heap.size W w') := fun W => by
          have h0 := c_statementSpan t l[k].1 x y HGG.out.1 U.1 U.2 V.1 V.2 W ba1 ba2 ba3 ba4 bb1 bb2 bb3 bb4
          rw [← HUV.out.2.2.2.1, HNC.out x y rfl rfl, show oneI t l[k].1 (U.1, U.2) (V.1, V.2) = O from HUV.out.2.2.1.symm] at h0
          exact h0
        go_wp2_with fail
        refine (ih l[k].2.1 _ b (off + K * 6 + 1 * 6) _ _ _ HUV.out.2.2.2.2.1 HGG.out.2.1 za (by omega) (by omega) (by unfold maxLen; omega) ?_).mono ?_
        · intro hpos
          first | (exfalso; omega) | (refine ⟨rfl, ?_, HNA.out.1.keep (Below.heap_alloc _ _ _ hbr)⟩; simp; omega)
        rw [← HUV.out.1]
        rintro e w2 ⟨rfl, hb2⟩
        have hw2 : wr.heap.size + 1 ≤ w2.heap.size := by have := hb2.size; simp at this; omega
        have s2 := ((HSP.out.alloc _).keep hb2)
        have gF2 : w2.heap[wr.heap.size]? = some (.cells #[.int .i64 N.kind, .int .i64 N.key, .int .i64 N.times, .int .i64 N.ticks, .int .i64 (x : Nat), .int .i64 (y : Nat)] 127 (0, 0)) := (hb2.block wr.heap.size (by simp)).trans (heap_alloc_new _ _)
        have f4 : w2.cell? ⟨wr.heap.size, 4, none⟩ = some (.int .i64 (x : Nat)) := (cell_of_heap gF2).trans rfl
        have f5 : w2.cell? ⟨wr.heap.size, 5, none⟩ = some (.int .i64 (y : Nat)) := (cell_of_heap gF2).trans rfl
        have k2 : w2.heap[b]? = wr.heap[b]? := (hb2.block b (by simp; omega)).trans (Below.heap_alloc _ _ _ hbr)
        have HS2 : Hid (_ ∧ _ ∧ _) := And.intro s2 (And.intro gF2 k2)
        clear hb2 s2 gF2 k2
        go_wp2_with fail
        refine (ih l[k].2.2 _ b (off + K * 6 + (1 + x) * 6) _ _ _ HUV.out.2.2.2.2.2 HGG.out.2.2 zb (by omega) (by omega) (by unfold maxLen; omega) ?_).mono ?_
        · intro hpos
          first | (exfalso; omega) | (refine ⟨rfl, ?_, HNA.out.2.keep ((Below.heap_alloc _ _ _ (by omega)).trans HS2.out.2.2)⟩; simp; omega)
        rw [← HUV.out.2.1]
        rintro e w3 ⟨rfl, hb3⟩
        have hw3 : w2.heap.size + 1 ≤ w3.heap.size := by have := hb3.size; simp at this; omega
        have s3 := ((HS2.out.1.alloc _).keep hb3)
        have gF3 : w3.heap[wr.heap.size]? = some (.cells #[.int .i64 N.kind, .int .i64 N.key, .int .i64 N.times, .int .i64 N.ticks, .int .i64 (x : Nat), .int .i64 (y : Nat)] 127 (0, 0)) := (hb3.block wr.heap.size (by simp; omega)).trans ((Below.heap_alloc _ _ _ (by omega)).trans HS2.out.2.1)
        have gG3 : w3.heap[w2.heap.size]? = some (.cells #[.int .i64 U.1, .int .i64 U.2] 123 (0, 0)) := (hb3.block w2.heap.size (by simp)).trans (heap_alloc_new _ _)
        have d0 : w3.cell? ⟨wr.heap.size, 0, none⟩ = some (.int .i64 N.kind) := (cell_of_heap gF3).trans rfl
        have d1 : w3.cell? ⟨wr.heap.size, 1, none⟩ = some (.int .i64 N.key) := (cell_of_heap gF3).trans rfl
        have d2 : w3.cell? ⟨wr.heap.size, 2, none⟩ = some (.int .i64 N.times) := (cell_of_heap gF3).trans rfl
        have d3 : w3.cell? ⟨wr.heap.size, 3, none⟩ = some (.int .i64 N.ticks) := (cell_of_heap gF3).trans rfl
        have d4 : w3.cell? ⟨wr.heap.size, 4, none⟩ = some (.int .i64 (x : Nat)) := (cell_of_heap gF3).trans rfl
        have d5 : w3.cell? ⟨wr.heap.size, 5, none⟩ = some (.int .i64 (y : Nat)) := (cell_of_heap gF3).trans rfl
        have g0 : w3.cell? ⟨w2.heap.size, 0, none⟩ = some (.int .i64 U.1) := (cell_of_heap gG3).trans rfl
        have g1 : w3.cell? ⟨w2.heap.size, 1, none⟩ = some (.int .i64 U.2) := (cell_of_heap gG3).trans rfl
        have q1 : wr.heap.size < w3.heap.size := by omega
        have q2 : w2.heap.size < w3.heap.size := by omega
        have HS3 : Hid (SpAt w w3 P.1 P.2) := s3
        clear hb3 s3 gF3 gG3 f4 f5
        go_wp2_with fail
        refine (hst.out _).mono ?_
        rintro e w4 ⟨rfl, hb4⟩
        have hw4 : w3.heap.size + 1 ≤ w4.heap.size := by have := hb4.size; simp at this; omega
        have s4 := ((HS3.out.alloc _).keep hb4)
        have a0 : w4.cell? ⟨w.heap.size + 1, 0, none⟩ = some (.int .i64 P.1) := (cell_of_heap s4.all).trans rfl
        have a1 : w4.cell? ⟨w.heap.size + 1, 1, none⟩ = some (.int .i64 P.2) := (cell_of_heap s4.all).trans rfl
        have q3 : w.heap.size + 1 < w4.heap.size := by have := s4.size; omega
        have HS4 : Hid (SpAt w w4 P.1 P.2) := s4
        clear hb4 s4 d0 d1 d2 d3 d4 d5 g0 g1
        go_wp2_with fail
        refine (c_then P.1 P.2 O.1 O.2 _ bp1 (by omega) bp3 (by omega) bo1 (by omega) bo3 (by omega)).mono ?_
        rintro e w5 ⟨rfl, hb5⟩
        have s5 := ((HS4.out.alloc _).keep hb5)
        have y0 : w5.cell? ⟨w.heap.size + 1, 0, none⟩ = some (.int .i64 P.1) := (cell_of_heap s5.all).trans rfl
        have y1 : w5.cell? ⟨w.heap.size + 1, 1, none⟩ = some (.int .i64 P.2) := (cell_of_heap s5.all).trans rfl
        have z0 : w5.frozen? ⟨w.heap.size + 1, 0, none⟩ = false := free_of_heap s5.all
        have z1 : w5.frozen? ⟨w.heap.size + 1, 1, none⟩ = false := free_of_heap s5.all
        have HS5 : Hid (SpAt w w5 P.1 P.2) := s5
        clear hb5 s5 a0 a1
        go_wp2_with fail
        go_roundw
        case rel =>
          refine ⟨k + 1, K + (1 + x + y), m - (1 + x + y), _, _, by omega, HDR.out, ?_, by omega, rfl, by omega, by omega, ?_, by rw [HST.out]; exact HS5.out.next _ _⟩
          · have := HM2.out; omega
          · intro hpos; first | (exfalso; omega) | (simp only [Nat.add_mul]; congr 2; omega)
        case measure => simp; omega
      · have hst : Hid (∀ W : World, Calls Tryz.prog 82 #[.agg #[.int .i64 N.kind, .int .i64 N.key, .int .i64 N.times, .int .i64 N.ticks, .int .i64 (x : Nat), .int .i64 (y : Nat)], .agg #[.int .i64 U.1, .int .i64 U.2], .agg #[.int .i64 V.1, .int .i64 V.2]] W fun e w' => e = .returned (.agg #[.int .i64 O.1, .int .i64 O.2]) ∧ Below W.heap.size W w') := fun W => by
          have h0 := c_statementSpan t l[k].1 x y HGG.out.1 U.1 U.2 V.1 V.2 W ba1 ba2 ba3 ba4 bb1 bb2 bb3 bb4
          rw [← HUV.out.2.2.2.1, HNC.out x y rfl rfl, show oneI t l[k].1 (U.1, U.2) (V.1, V.2) = O from HUV.out.2.2.1.symm] at h0
          exact h0
        go_wp2_with fail
        refine (ih l[k].2.1 _ b (off + K * 6 + 1 * 6) _ _ _ HUV.out.2.2.2.2.1 HGG.out.2.1 za (by omega) (by omega) (by unfold maxLen; omega) ?_).mono ?_
        · intro hpos
          first | (exfalso; omega) | (refine ⟨rfl, ?_, HNA.out.1.keep (Below.heap_alloc _ _ _ hbr)⟩; simp; omega)
        rw [← HUV.out.1]
        rintro e w2 ⟨rfl, hb2⟩
        have hw2 : wr.heap.size + 1 ≤ w2.heap.size := by have := hb2.size; simp at this; omega
        have s2 := ((HSP.out.alloc _).keep hb2)
        have gF2 : w2.heap[wr.heap.size]? = some (.cells #[.int .i64 N.kind, .int .i64 N.key, .int .i64 N.times, .int .i64 N.ticks, .int .i64 (x : Nat), .int .i64 (y : Nat)] 127 (0, 0)) := (hb2.block wr.heap.size (by simp)).trans (heap_alloc_new _ _)
        have f4 : w2.cell? ⟨wr.heap.size, 4, none⟩ = some (.int .i64 (x : Nat)) := (cell_of_heap gF2).trans rfl
        have f5 : w2.cell? ⟨wr.heap.size, 5, none⟩ = some (.int .i64 (y : Nat)) := (cell_of_heap gF2).trans rfl
        have k2 : w2.heap[b]? = wr.heap[b]? := (hb2.block b (by simp; omega)).trans (Below.heap_alloc _ _ _ hbr)
        have HS2 : Hid (_ ∧ _ ∧ _) := And.intro s2 (And.intro gF2 k2)
        clear hb2 s2 gF2 k2
        go_wp2_with fail
        refine (ih l[k].2.2 _ b (off + K * 6 + (1 + x) * 6) _ _ _ HUV.out.2.2.2.2.2 HGG.out.2.2 zb (by omega) (by omega) (by unfold maxLen; omega) ?_).mono ?_
        · intro hpos
          first | (exfalso; omega) | (refine ⟨rfl, ?_, HNA.out.2.keep ((Below.heap_alloc _ _ _ (by omega)).trans HS2.out.2.2)⟩; simp; omega)
        rw [← HUV.out.2.1]
        rintro e w3 ⟨rfl, hb3⟩
        have hw3 : w2.heap.size + 1 ≤ w3.heap.size := by have := hb3.size; simp at this; omega
        have s3 := ((HS2.out.1.alloc _).keep hb3)
        have gF3 : w3.heap[wr.heap.size]? = some (.cells #[.int .i64 N.kind, .int .i64 N.key, .int .i64 N.times, .int .i64 N.ticks, .int .i64 (x : Nat), .int .i64 (y : Nat)] 127 (0, 0)) := (hb3.block wr.heap.size (by simp; omega)).trans ((Below.heap_alloc _ _ _ (by omega)).trans HS2.out.2.1)
        have gG3 : w3.heap[w2.heap.size]? = some (.cells #[.int .i64 U.1, .int .i64 U.2] 123 (0, 0)) := (hb3.block w2.heap.size (by simp)).trans (heap_alloc_new _ _)
        have d0 : w3.cell? ⟨wr.heap.size, 0, none⟩ = some (.int .i64 N.kind) := (cell_of_heap gF3).trans rfl
        have d1 : w3.cell? ⟨wr.heap.size, 1, none⟩ = some (.int .i64 N.key) := (cell_of_heap gF3).trans rfl
        have d2 : w3.cell? ⟨wr.heap.size, 2, none⟩ = some (.int .i64 N.times) := (cell_of_heap gF3).trans rfl
        have d3 : w3.cell? ⟨wr.heap.size, 3, none⟩ = some (.int .i64 N.ticks) := (cell_of_heap gF3).trans rfl
        have d4 : w3.cell? ⟨wr.heap.size, 4, none⟩ = some (.int .i64 (x : Nat)) := (cell_of_heap gF3).trans rfl
        have d5 : w3.cell? ⟨wr.heap.size, 5, none⟩ = some (.int .i64 (y : Nat)) := (cell_of_heap gF3).trans rfl
        have g0 : w3.cell? ⟨w2.heap.size, 0, none⟩ = some (.int .i64 U.1) := (cell_of_heap gG3).trans rfl
        have g1 : w3.cell? ⟨w2.heap.size, 1, none⟩ = some (.int .i64 U.2) := (cell_of_heap gG3).trans rfl
        have q1 : wr.heap.size < w3.heap.size := by omega
        have q2 : w2.heap.size < w3.heap.size := by omega
        have HS3 : Hid (SpAt w w3 P.1 P.2) := s3
        clear hb3 s3 gF3 gG3 f4 f5
        go_wp2_with fail
        refine (hst.out _).mono ?_
        rintro e w4 ⟨rfl, hb4⟩
        have hw4 : w3.heap.size + 1 ≤ w4.heap.size := by have := hb4.size; simp at this; omega
        have s4 := ((HS3.out.alloc _).keep hb4)
        have a0 : w4.cell? ⟨w.heap.size + 1, 0, none⟩ = some (.int .i64 P.1) := (cell_of_heap s4.all).trans rfl
        have a1 : w4.cell? ⟨w.heap.size + 1, 1, none⟩ = some (.int .i64 P.2) := (cell_of_heap s4.all).trans rfl
        have q3 : w.heap.size + 1 < w4.heap.size := by have := s4.size; omega
        have HS4 : Hid (SpAt w w4 P.1 P.2) := s4
        clear hb4 s4 d0 d1 d2 d3 d4 d5 g0 g1
        go_wp2_with fail
        refine (c_then P.1 P.2 O.1 O.2 _ bp1 (by omega) bp3 (by omega) bo1 (by omega) bo3 (by omega)).mono ?_
        rintro e w5 ⟨rfl, hb5⟩
        have s5 := ((HS4.out.alloc _).keep hb5)
        have y0 : w5.cell? ⟨w.heap.size + 1, 0, none⟩ = some (.int .i64 P.1) := (cell_of_heap s5.all).trans rfl
        have y1 : w5.cell? ⟨w.heap.size + 1, 1, none⟩ = some (.int .i64 P.2) := (cell_of_heap s5.all).trans rfl
        have z0 : w5.frozen? ⟨w.heap.size + 1, 0, none⟩ = false := free_of_heap s5.all
        have z1 : w5.frozen? ⟨w.heap.size + 1, 1, none⟩ = false := free_of_heap s5.all
        have HS5 : Hid (SpAt w w5 P.1 P.2) := s5
        clear hb5 s5 a0 a1
        go_wp2_with fail
        go_roundw
        case rel =>
          refine ⟨k + 1, K + (1 + x + y), m - (1 + x + y), _, _, by omega, HDR.out, ?_, by omega, rfl, by omega, by omega, ?_, by rw [HST.out]; exact HS5.out.next _ _⟩
          · have := HM2.out; omega
          · intro hpos; first | (exfalso; omega) | (simp only [Nat.add_mul]; congr 2; omega)
        case measure => simp; omega
    · obtain rfl : k = l.length := by omega
      have hm0 : m = 0 := by rw [hm, List.drop_length]; rfl
      rw [List.take_length] at hS
      obtain ⟨P, hP⟩ : ∃ P, P = foldI (0, -1) (l.map F) := ⟨_, rfl⟩
      rw [← hP] at hS
      have a0 : wr.cell? ⟨w.heap.size + 1, 0, none⟩ = some (.int .i64 P.1) := (cell_of_heap hS.all).trans rfl
      have a1 : wr.cell? ⟨w.heap.size + 1, 1, none⟩ = some (.int .i64 P.2) := (cell_of_heap hS.all).trans rfl
      have r0 : wr.cell? ⟨w.heap.size, 0, none⟩ = some (.int .i64 0) := (cell_of_heap hS.res).trans rfl
      have r1 : wr.cell? ⟨w.heap.size, 1, none⟩ = some (.int .i64 0) := (cell_of_heap hS.res).trans rfl
      have z0 : wr.frozen? ⟨w.heap.size, 0, none⟩ = false := free_of_heap hS.res
      have z1 : wr.frozen? ⟨w.heap.size, 1, none⟩ = false := free_of_heap hS.res
      have HB : Hid (Below w.heap.size w wr) := hS.bel
      have HP : Hid (lastsT t (d + 1) l = P) := HT.out.trans hP.symm
      clear hP hS hdr hm ha hlt
      subst hm0
      go_wp2_with fail
      refine bodyPost_ret (v := .agg #[.int .i64 P.1, .int .i64 P.2]) (by simp [results, Tryz.results63, go_sem, r0, r1]) rfl ⟨by rw [HP.out], ?_⟩
      exact (HB.out.setCell (p := ⟨w.heap.size, 0, none⟩) (by simp) _).setCell (p := ⟨w.heap.size, 1, none⟩) (by simp) _
theorem c_blockSpan (t : ByteArray) (d : Nat) : SpanSaid t d := by
  induction d with
  | zero =>
    intro tr a b off cap n w hn _ _ _ _ _ _
    have h0 : n = 0 := hn
    subst h0
    exact c_blockSpan_empty a cap w
  | succ d ih =>
    intro tr a b off cap n w hn hg hsz hd hcap hmax hnd
    by_cases h0 : n = 0
    · subst h0
      have ht : tr = ([] : List (Hd × Tree d × Tree d)) := by
        cases tr with
        | nil => rfl
        | cons x r => have h1 : (flatL t d (x :: r)).length = 0 := hn.symm; rw [flatL_cons] at h1; simp at h1
      subst ht
      exact c_blockSpan_empty a cap w
    · obtain ⟨rfl, h1, h2⟩ := hnd (by omega)
      exact c_blockSpan_succ t d hd ih tr b off cap n w hn hg hsz hcap hmax h1 h2
set_option maxHeartbeats 1000000 in
theorem c_longestOf (t : ByteArray) (d : Nat) (tr : Tree d) (a : Option Addr) (b off cap n : Nat) (w : World) (hn : n = (flatT t d tr).length) (hg : GoodT t d tr) (hsz : sizeT d tr ≤ 400) (hd : d ≤ 5) (hcap : n ≤ cap) (hmax : cap ≤ maxLen) (hnd : 0 < n → a = some ⟨b, off, none⟩ ∧ b < w.heap.size ∧ NdsAt w b off (flatT t d tr)) :
    Calls Tryz.prog 45 #[.slice a n cap] w fun e w' => e = .returned (.int .i64 (maxI (lastsT t d tr).1 (lastsT t d tr).2)) ∧ Below w.heap.size w w' := by
  have HC : Hid (Calls Tryz.prog 63 #[.slice a n cap] w fun e w' => e = .returned (.agg #[.int .i64 (lastsT t d tr).1, .int .i64 (lastsT t d tr).2]) ∧ Below w.heap.size w w') := c_blockSpan t d tr a b off cap n w hn hg hsz hd hcap hmax hnd
  clear hnd hn hcap hmax hg hsz
  go_enter Tryz.func45, Tryz.ntmps45
  go_wp2_with fail
  refine HC.out.mono ?_
  rintro e w1 ⟨rfl, hb1⟩
  go_wp2_with (go_at_call 64; refine (c_longer _ _ _).mono ?_; rintro e w' ⟨rfl, rfl⟩)
  go_ret
  exact ⟨rfl, hb1.alloc hb1.size _⟩
end Go.Proofs.YtmmmnghiegajmabGreat
