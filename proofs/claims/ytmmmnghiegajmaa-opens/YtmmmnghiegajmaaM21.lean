import Derived.Test.YtmmmnghiegajmaaM20
import Derived.Test.YtmmmnghiegajmaaM08
/- The owner's record of lists: those of a state. -/
namespace Go.Proofs.Ytmmmnghiegajmaa
open Go.RowKit Go.Proofs.Herald
theorem Try.infoRB : (Try.prog.info? 132).map (fun i => (i.zero, i.size, i.bytes)) = some (some (.agg #[.slice none 0 0, .int .i64 0, .int .i64 0, .int .i64 0, .int .i64 0, .int .i64 0]), 6, 64) := by kernel_rfl
theorem Try.infoRun : (Try.prog.info? 90).map (fun i => (i.zero, i.size, i.bytes)) = some (some (.agg #[.int .i64 0, .int .i64 0, .int .i64 0, .int .i64 0, .int .i64 0]), 5, 40) := by kernel_rfl
theorem set5 {A : List Value} {r0 r1 r2 r3 r4 : Value} {rest : List Value} (u0 u1 u2 u3 u4 : Value) (k : Nat) (hk : k = A.length) :
    (((((A ++ r0 :: r1 :: r2 :: r3 :: r4 :: rest).set k u0).set (k + 1) u1).set (k + 2) u2).set (k + 3) u3).set (k + 4) u4 = A ++ [u0, u1, u2, u3, u4] ++ rest := by
  subst hk
  simp [Nat.add_sub_cancel_left]
theorem own_set5 {w : World} {B : Nat} {e : TypeId} {size n g cap p : Nat} {A rest : List Value} {r0 r1 r2 r3 r4 : Value} (h : w.ownsRow B e size (.slice (some ⟨g, 0, none⟩) n cap) n (A ++ r0 :: r1 :: r2 :: r3 :: r4 :: rest)) (hp : p = A.length) (u0 u1 u2 u3 u4 : Value) :
    (((((w.setCell ⟨g, p, none⟩ u0).setCell ⟨g, p + 1, none⟩ u1).setCell ⟨g, p + 2, none⟩ u2).setCell ⟨g, p + 3, none⟩ u3).setCell ⟨g, p + 4, none⟩ u4).ownsRow B e size (.slice (some ⟨g, 0, none⟩) n cap) n (A ++ [u0, u1, u2, u3, u4] ++ rest) := by
  have h4 := own_set (own_set (own_set (own_set (own_set h p u0) (p + 1) u1) (p + 2) u2) (p + 3) u3) (p + 4) u4
  rw [set5 u0 u1 u2 u3 u4 p hp] at h4
  exact h4
theorem own_get5 {w : World} {B : Nat} {e : TypeId} {size n g cap p : Nat} {A rest : List Value} {r0 r1 r2 r3 r4 : Value} (h : w.ownsRow B e size (.slice (some ⟨g, 0, none⟩) n cap) n (A ++ r0 :: r1 :: r2 :: r3 :: r4 :: rest)) (hp : p = A.length) :
    w.cell? ⟨g, p, none⟩ = some r0 ∧ w.cell? ⟨g, p + 1, none⟩ = some r1 ∧ w.cell? ⟨g, p + 2, none⟩ = some r2 ∧ w.cell? ⟨g, p + 3, none⟩ = some r3 ∧ w.cell? ⟨g, p + 4, none⟩ = some r4 ∧ w.frozen? ⟨g, p, none⟩ = false ∧ w.frozen? ⟨g, p + 1, none⟩ = false ∧ w.frozen? ⟨g, p + 2, none⟩ = false ∧ w.frozen? ⟨g, p + 3, none⟩ = false ∧ w.frozen? ⟨g, p + 4, none⟩ = false := by
  subst hp
  have k0 := own_get h A.length r0 (by simp)
  have k1 := own_get h (A.length + 1) r1 (by simp)
  have k2 := own_get h (A.length + 2) r2 (by simp)
  have k3 := own_get h (A.length + 3) r3 (by simp)
  have k4 := own_get h (A.length + 4) r4 (by simp)
  exact ⟨k0.1, k1.1, k2.1, k3.1, k4.1, k0.2, k1.2, k2.2, k3.2, k4.2⟩
theorem five {l : List Value} {n : Nat} (h : l.length = n * 5) (hn : 0 < n) : ∃ r0 r1 r2 r3 r4 rest, l = r0 :: r1 :: r2 :: r3 :: r4 :: rest ∧ rest.length = (n - 1) * 5 := by
  match l, h with
  | r0 :: r1 :: r2 :: r3 :: r4 :: rest, h => exact ⟨r0, r1, r2, r3, r4, rest, rfl, by simp at h; omega⟩
  | [], h => simp at h; omega
  | [_], h => simp at h; omega
  | [_, _], h => simp at h; omega
  | [_, _, _], h => simp at h; omega
  | [_, _, _, _], h => simp at h; omega
theorem mark5 {w : World} {M : Nat} {e : TypeId} {u0 u1 u2 u3 u4 : Value} (h : w.heap[M]? = some (.cells [u0, u1, u2, u3, u4].toArray e (0, 0))) :
    w.cell? ⟨M, 0, none⟩ = some u0 ∧ w.cell? ⟨M, 1, none⟩ = some u1 ∧ w.cell? ⟨M, 2, none⟩ = some u2 ∧ w.cell? ⟨M, 3, none⟩ = some u3 ∧ w.cell? ⟨M, 4, none⟩ = some u4 :=
  ⟨(cell_of_heap h).trans rfl, (cell_of_heap h).trans rfl, (cell_of_heap h).trans rfl, (cell_of_heap h).trans rfl, (cell_of_heap h).trans rfl⟩
theorem fr_one5 {S : Nat → Prop} {w0 w : World} (h : Fr S w0 w) {g : Nat} (hg : S g) (p : Nat) (u0 u1 u2 u3 u4 : Value) : Fr S w0 (((((w.setCell ⟨g, p, none⟩ u0).setCell ⟨g, p + 1, none⟩ u1).setCell ⟨g, p + 2, none⟩ u2).setCell ⟨g, p + 3, none⟩ u3).setCell ⟨g, p + 4, none⟩ u4) :=
  ((((h.setCell ⟨g, p, none⟩ (Or.inl hg) _).setCell ⟨g, p + 1, none⟩ (Or.inl hg) _).setCell ⟨g, p + 2, none⟩ (Or.inl hg) _).setCell ⟨g, p + 3, none⟩ (Or.inl hg) _).setCell ⟨g, p + 4, none⟩ (Or.inl hg) _
set_option maxRecDepth 20000 in
set_option maxHeartbeats 8000000 in
theorem state_bk (O : Nat) (n now : Int) (cv rv qv : Value) (rb qb : List (Value × List Value)) (a : Option Addr) (nl cap : Nat) (xs : List Value) (aq : Option Addr) (nq capq : Nat) (xq : List Value) (w : World) (hn0 : 0 ≤ n) (hn1 : n ≤ 900000000) (hnl : nl ≤ 1000000) (hnq : nq ≤ 1000000) (hrb : rb.length ≤ 10000000) (hqb : qb.length ≤ 10000000)
    (hO : w.heap[O]? = some (.cells #[.int .i64 n, cv, rv, qv] 41 (0, 0))) (hr : w.ownsRow 0 132 6 rv rb.length (booksCells rb)) (hq : w.ownsRow 0 134 5 qv qb.length (booksCells qb)) (hl : w.ownsRow 0 90 5 (.slice a nl cap) nl xs) (hlq : w.ownsRow 0 83 4 (.slice aq nq capq) nq xq) :
    Calls Try.prog 58 #[.pointer (some ⟨O, 0, none⟩), .agg #[.int .i64 now, .slice a nl cap, .slice aq nq capq]] w fun e w' => e = .returned (.tuple #[]) ∧
      ∃ wm u v1 v2 v3 v v4 v5 v6, BkAt ((w.setCell ⟨O, 0, none⟩ (.int .i64 (n + 1))).alloc (.cells #[.int .i64 now, .slice a nl cap, .slice aq nq capq] 68)) wm O (w.heap.size + 1) (fun v => #[.int .i64 (n + 1), cv, v, qv]) 90 132 5 rv u (rb ++ [(.slice a nl cap, [.int .i64 (-(n + 1)), .int .i64 0, .int .i64 0, .int .i64 0, .int .i64 0]), (v1, [.int .i64 (-(n + 1)), .int .i64 0, .int .i64 0, .int .i64 0, .int .i64 0]), (v2, [.int .i64 (-(n + 1)), .int .i64 0, .int .i64 0, .int .i64 0, .int .i64 0]), (v3, [.int .i64 (-(n + 1)), .int .i64 0, .int .i64 0, .int .i64 0, .int .i64 0])]) (.slice a nl cap) nl [.int .i64 (-(n + 1)), .int .i64 0, .int .i64 0, .int .i64 0, .int .i64 0] [(v1, nl + 1), (v2, nl + 2), (v3, nl + 3)] ∧
        BkAt wm w' O wm.heap.size (fun v => #[.int .i64 (n + 1), cv, u, v]) 83 134 4 qv v (qb ++ [(.slice aq nq capq, [.int .i64 0, .int .i64 (-(n + 1)), .int .i64 0, .int .i64 0]), (v4, [.int .i64 0, .int .i64 (-(n + 1)), .int .i64 0, .int .i64 0]), (v5, [.int .i64 0, .int .i64 (-(n + 1)), .int .i64 0, .int .i64 0]), (v6, [.int .i64 0, .int .i64 (-(n + 1)), .int .i64 0, .int .i64 0])])
          (.slice aq nq capq) nq [.int .i64 0, .int .i64 (-(n + 1)), .int .i64 0, .int .i64 0] [(v4, nq + 1), (v5, nq + 2), (v6, nq + 3)] := by
  have c0 : w.cell? ⟨O, 0, none⟩ = some (.int .i64 n) := (cell_of_heap hO).trans rfl
  have z0 : w.frozen? ⟨O, 0, none⟩ = false := free_of_heap hO
  have hOl := heap_lt hO
  obtain ⟨mk, hmk⟩ : ∃ mk : List Value, mk = [.int .i64 (-(n + 1)), .int .i64 0, .int .i64 0, .int .i64 0, .int .i64 0] := ⟨_, rfl⟩
  have HMK : Hid (mk = [.int .i64 (-(n + 1)), .int .i64 0, .int .i64 0, .int .i64 0, .int .i64 0]) := hmk
  have HML : Hid (mk.length = 5) := by show _ = _; rw [hmk]; rfl
  rw [← hmk]
  obtain ⟨w0, hw0⟩ : ∃ W, W = ((w.setCell ⟨O, 0, none⟩ (.int .i64 (n + 1))).alloc (.cells #[.int .i64 now, .slice a nl cap, .slice aq nq capq] 68)) := ⟨_, rfl⟩
  rw [← hw0]
  have hs0 : w0.heap.size = w.heap.size + 1 := by rw [hw0]; simp [World.setCell]
  have old0 : ∀ {b : Nat} {cur : Array Value} {e : TypeId}, w.heap[b]? = some (.cells cur e (0, 0)) → e ≠ 41 → w0.heap[b]? = some (.cells cur e (0, 0)) := fun {b cur e} hb he => by
    rw [hw0, Below.heap_alloc _ _ _ (by simp [World.setCell]; exact heap_lt hb), Below.heap_setCell _ _ _ _ (ne_of_type hb hO he)]; exact hb
  have HO : Hid (w0.heap[O]? = some (.cells #[.int .i64 (n + 1), cv, rv, qv] 41 (0, 0)) ∧ w0.ownsRow 0 132 6 rv rb.length (booksCells rb) ∧ w0.ownsRow 0 90 5 (.slice a nl cap) nl xs ∧ w0.ownsRow 0 134 5 qv qb.length (booksCells qb) ∧ w0.ownsRow 0 83 4 (.slice aq nq capq) nq xq ∧ w0.heap[w.heap.size]? = some (.cells #[.int .i64 now, .slice a nl cap, .slice aq nq capq] 68 (0, 0)) ∧ (∀ b, (Value.slice a nl cap).ownBlock = some b → b < w.heap.size) ∧ (∀ b, rv.ownBlock = some b → b < w.heap.size)) := by
    refine ⟨?_, own_keep hr fun b hb => ?_, own_keep hl fun b hb => ?_, own_keep hq fun b hb => ?_, own_keep hlq fun b hb => ?_, ?_, fun b hb => ?_, fun b hb => ?_⟩
    · rw [hw0, Below.heap_alloc _ _ _ (by simp [World.setCell]; exact heap_lt hO), heap_setCell_self _ hO]; rfl
    · obtain ⟨cur, hc⟩ := own_block hr hb; rw [old0 hc (by decide), hc]
    · obtain ⟨cur, hc⟩ := own_block hl hb; rw [old0 hc (by decide), hc]
    · obtain ⟨cur, hc⟩ := own_block hq hb; rw [old0 hc (by decide), hc]
    · obtain ⟨cur, hc⟩ := own_block hlq hb; rw [old0 hc (by decide), hc]
    · rw [hw0]; exact heap_alloc_at _ _ _ (by simp [World.setCell])
    · obtain ⟨cur, hc⟩ := own_block hl hb; exact heap_lt hc
    · obtain ⟨cur, hc⟩ := own_block hr hb; exact heap_lt hc
  clear hO hr hl hq hlq hmk old0
  have HK : Hid (∀ W : World, Fr (fun j => j = O ∨ rv.ownBlock = some j ∨ (Value.slice a nl cap).ownBlock = some j) w0 W → W.heap[w.heap.size]? = some (.cells #[.int .i64 now, .slice a nl cap, .slice aq nq capq] 68 (0, 0)) ∧ W.ownsRow 0 134 5 qv qb.length (booksCells qb) ∧ W.ownsRow 0 83 4 (.slice aq nq capq) nq xq) := fun W hW => by
    have keep : ∀ {b : Nat} {cur : Array Value} {e : TypeId}, w0.heap[b]? = some (.cells cur e (0, 0)) → e ≠ 41 → e ≠ 132 → e ≠ 90 → W.heap[b]? = some (.cells cur e (0, 0)) := fun {b cur e} hb h1 h2 h3 => by
      rw [hW.block b (heap_lt hb) (fun h => ?_)]
      · exact hb
      · rcases h with rfl | h | h
        · exact ne_of_type hb HO.out.1 h1 rfl
        · obtain ⟨c, hc⟩ := own_block HO.out.2.1 h; exact ne_of_type hb hc h2 rfl
        · obtain ⟨c, hc⟩ := own_block HO.out.2.2.1 h; exact ne_of_type hb hc h3 rfl
    refine ⟨keep HO.out.2.2.2.2.2.1 (by decide) (by decide) (by decide), own_keep HO.out.2.2.2.1 fun b hb => ?_, own_keep HO.out.2.2.2.2.1 fun b hb => ?_⟩
    · obtain ⟨c, hc⟩ := own_block HO.out.2.2.2.1 hb; rw [keep hc (by decide) (by decide) (by decide), hc]
    · obtain ⟨c, hc⟩ := own_block HO.out.2.2.2.2.1 hb; rw [keep hc (by decide) (by decide) (by decide), hc]
  have HW0 : Hid (w0 = ((w.setCell ⟨O, 0, none⟩ (.int .i64 (n + 1))).alloc (.cells #[.int .i64 now, .slice a nl cap, .slice aq nq capq] 68))) := hw0
  have HS0 : Hid (w0.heap.size = w.heap.size + 1) := hs0
  clear hs0 hw0
  go_enter Try.func58, Try.ntmps58
  go_wp2_with fail
  rw [← HW0.out]
  clear c0 z0
  go_loopw [5] (fun i wr => ∃ (k : Nat) (rest : List Value), k ≤ nl ∧ i = .int .i64 k ∧ rest.length = (nl - k) * 5 ∧ Hid (wr.ownsRow 0 90 5 (.slice a nl cap) nl (marks mk k ++ rest)) ∧ Hid (wr.heap[w.heap.size + 1]? = some (.cells mk.toArray 90 (0, 0))) ∧ Hid (Fr (fun j => j = O ∨ rv.ownBlock = some j ∨ (Value.slice a nl cap).ownBlock = some j) w0 wr) ∧ Hid (wr.heap[O]? = some (.cells #[.int .i64 (n + 1), cv, rv, qv] 41 (0, 0)) ∧ wr.ownsRow 0 132 6 rv rb.length (booksCells rb))) (fun i _ => nl - (intOf i).toNat)
  case atStart =>
    refine ⟨0, xs, Nat.zero_le _, rfl, HO.out.2.2.1.1, ?_, ?_, (Fr.refl _ _).alloc _, ?_, HO.out.2.1.alloc _⟩
    · show World.ownsRow _ _ _ _ _ _ ([] ++ xs)
      exact HO.out.2.2.1.alloc _
    · show _ = _
      rw [HMK.out]; exact heap_alloc_at _ _ _ HS0.out
    · rw [Below.heap_alloc _ _ _ (heap_lt HO.out.1)]; exact HO.out.1
  case round =>
    obtain ⟨k, rest, hk, rfl, hrl, HL, HM, HF, HR⟩ := hrel
    have p1 : wr.cell? ⟨w.heap.size, 1, none⟩ = some (.slice a nl cap) := (cell_of_heap (HK.out _ HF.out).1).trans rfl
    by_cases hlt : k < nl
    · obtain ⟨g, cap', hv, _, hgl⟩ := HL.out.form (by omega)
      simp at hv
      obtain ⟨rfl, rfl⟩ := hv
      obtain ⟨r0, r1, r2, r3, r4, rest', rfl, hrl'⟩ := five hrl (by omega)
      have HP : Hid (k * 5 = (marks mk k).length) := by show _ = _; rw [marks_length, HML.out]
      obtain ⟨e0, e1, e2, e3, e4, y0, y1, y2, y3, y4⟩ := own_get5 HL.out HP.out
      have hM := HM.out
      rw [HMK.out] at hM
      obtain ⟨m0, m1, m2, m3, m4⟩ := mark5 hM
      have HS := own_set5 HL.out HP.out (.int .i64 (-(n + 1))) (.int .i64 0) (.int .i64 0) (.int .i64 0) (.int .i64 0)
      have HS2 : Hid ((((((wr.setCell ⟨g, k * 5, none⟩ (.int .i64 (-(n + 1)))).setCell ⟨g, k * 5 + 1, none⟩ (.int .i64 0)).setCell ⟨g, k * 5 + 2, none⟩ (.int .i64 0)).setCell ⟨g, k * 5 + 3, none⟩ (.int .i64 0)).setCell ⟨g, k * 5 + 4, none⟩ (.int .i64 0)).ownsRow 0 90 5 (.slice (some ⟨g, 0, none⟩) nl cap) nl (marks mk (k + 1) ++ rest')) := by
        rw [← HMK.out] at HS
        have e : marks mk (k + 1) = marks mk k ++ mk := by rw [marks_add]; simp [marks]
        rw [e]; exact HS
      obtain ⟨_, curl, hcl⟩ := ownsRow_lies HL.out (k := g) rfl
      have HNE : Hid (O ≠ g ∧ w.heap.size + 1 ≠ g ∧ ∀ b, rv.ownBlock = some b → b ≠ g) := by
        refine ⟨ne_of_type HR.out.1 hcl (by decide), fun e => ?_, fun b hb => ?_⟩
        · have := HO.out.2.2.2.2.2.2.1 g rfl
          omega
        · obtain ⟨_, cq, hcq⟩ := ownsRow_lies HR.out.2 hb
          exact ne_of_type hcq hcl (by decide)
      clear hcl hM HS
      go_wp2_with fail
      go_roundw
      case rel =>
        refine ⟨k + 1, rest', by omega, by go_num, by rw [hrl', show nl - k - 1 = nl - (k + 1) from by omega], HS2, ?_, fr_one5 HF.out (Or.inr (Or.inr rfl)) _ _ _ _ _ _, ?_, ?_⟩
        · show _ = _
          rw [Below.heap_setCell _ _ _ _ HNE.out.2.1, Below.heap_setCell _ _ _ _ HNE.out.2.1, Below.heap_setCell _ _ _ _ HNE.out.2.1, Below.heap_setCell _ _ _ _ HNE.out.2.1, Below.heap_setCell _ _ _ _ HNE.out.2.1]; exact HM.out
        · rw [Below.heap_setCell _ _ _ _ HNE.out.1, Below.heap_setCell _ _ _ _ HNE.out.1, Below.heap_setCell _ _ _ _ HNE.out.1, Below.heap_setCell _ _ _ _ HNE.out.1, Below.heap_setCell _ _ _ _ HNE.out.1]; exact HR.out.1
        · exact own_stays HR.out.2 (fun b hb => by
            have := HNE.out.2.2 b hb
            rw [Below.heap_setCell _ _ _ _ this, Below.heap_setCell _ _ _ _ this, Below.heap_setCell _ _ _ _ this, Below.heap_setCell _ _ _ _ this, Below.heap_setCell _ _ _ _ this])
      case measure => simp [intOf]; omega
    · obtain rfl : k = nl := by omega
      obtain rfl : rest = [] := List.eq_nil_of_length_eq_zero (by simpa using hrl)
      have HB : Hid (BkAt w0 wr O (w.heap.size + 1) (fun v => #[.int .i64 (n + 1), cv, v, qv]) 90 132 5 rv rv rb (.slice a k cap) k mk []) := by
        refine ⟨HR.out.1, HM.out, HR.out.2, fun b hb => Or.inl hb, ?_, fun x hx => absurd hx (by simp), HF.out, by rw [HS0.out]; exact Nat.le_refl _, heap_lt HO.out.1, fun b hb => ?_⟩
        · have h := HL.out
          rw [List.append_nil] at h
          exact h
        · have := HO.out.2.2.2.2.2.2.1 b hb
          have := HS0.out
          omega
      clear HL HM HF HR hrl hk
      have HM1 : Hid ([.int .i64 (-(n + 1)), .int .i64 0, .int .i64 0, .int .i64 0, .int .i64 0] = marks mk 1 ∧ [.int .i64 (-(n + 1)), .int .i64 0, .int .i64 0, .int .i64 0, .int .i64 0] ++ [.int .i64 (-(n + 1)), .int .i64 0, .int .i64 0, .int .i64 0, .int .i64 0] = marks mk 2 ∧ [.int .i64 (-(n + 1)), .int .i64 0, .int .i64 0, .int .i64 0, .int .i64 0] ++ ([.int .i64 (-(n + 1)), .int .i64 0, .int .i64 0, .int .i64 0, .int .i64 0] ++ [.int .i64 (-(n + 1)), .int .i64 0, .int .i64 0, .int .i64 0, .int .i64 0]) = marks mk 3) := by rw [HMK.out]; exact ⟨rfl, rfl, rfl⟩
      go_upto_region 7 with fail
      have hm := HB.out.m
      rw [HMK.out] at hm
      obtain ⟨m0, m1, m2, m3, m4⟩ := mark5 hm
      clear hm
      have o3 : wr.cell? ⟨O, 2, none⟩ = some rv := (cell_of_heap HB.out.o).trans rfl
      have y3 : wr.frozen? ⟨O, 2, none⟩ = false := free_of_heap HB.out.o
      have hOl2 : O < wr.heap.size := heap_lt HB.out.o
      have hMl : w.heap.size + 1 < wr.heap.size := heap_lt HB.out.m
      have HV : Hid (rv.ownBlock ≠ some O) := fun e => by obtain ⟨cur, hc⟩ := own_block HB.out.rown e; exact ne_of_type hc HB.out.o (by decide) rfl
      go_cut [0] (fun r wx => r = .pointer (some ⟨O, 0, none⟩) ∧ Hid (∃ v, BkAt w0 wx O (w.heap.size + 1) (fun v => #[.int .i64 (n + 1), cv, v, qv]) 90 132 5 rv v (rb ++ [(.slice a k cap, mk)]) (.slice a k cap) k mk []))
      case first =>
        go_region_law (refine step_push2 _ rfl (.tmp 38) (.tmp 43) 38 rfl 132 _ 6 64 Try.underlying38 Try.infoRB rfl (by decide) (by decide) rv _ _ wr.heap.size [.slice a k cap, .int .i64 (-(n + 1)), .int .i64 0, .int .i64 0, .int .i64 0, .int .i64 0] (by rfl) (by exact HB.out.rown.alloc _) (by exact heap_alloc_new _ _) (by rfl) rfl (by simp [Value.oneCell']) (by first | omega | (simp; omega)) ?_; intro g1 cap1 w1 hown1 hgrow hat hlt; have hc1 : w1.cell? ⟨O, 2, none⟩ = some rv := (cell_of_heap (grown_block (OneMore.alloc _ _).drew hgrow HB.out.o HV.out)).trans rfl; have hf1 : w1.frozen? ⟨O, 2, none⟩ = false := free_of_heap (grown_block (OneMore.alloc _ _).drew hgrow HB.out.o HV.out))
        all_goals
          go_wp2_with fail
          go_meet
          case rel =>
            have e : ([.slice a k cap, .int .i64 (-(n + 1)), .int .i64 0, .int .i64 0, .int .i64 0, .int .i64 0] : List Value) = .slice a k cap :: mk := by rw [HMK.out]
            rw [e] at hown1
            have h := HB.out.push (by decide) (by decide) (by decide) (OneMore.alloc _ _).drew (x := .slice a k cap) (idx := 2) hown1 hgrow hat rfl
            refine ⟨rfl, ?_⟩
            show ∃ v, BkAt _ _ _ _ _ _ _ _ _ v _ _ _ _ _
            refine ⟨.slice (some ⟨g1, 0, none⟩) (rb.length + 0 + 1) cap1, ?_⟩
            simpa using h
      case rest =>
        obtain ⟨rfl, HX⟩ := hcut
        obtain ⟨u0, hu0⟩ := HX.out
        have HC0 : Hid (BkAt w0 wc O (w.heap.size + 1) (fun v => #[.int .i64 (n + 1), cv, v, qv]) 90 132 5 rv u0 (rb ++ [(.slice a k cap, mk)]) (.slice a k cap) k mk []) := hu0
        clear hu0 HX m0 m1 m2 m3 m4 p1 o3 y3 hOl2 hMl HV HB
        obtain ⟨x0, hx0⟩ : ∃ W, W = wc := ⟨_, rfl⟩
        rw [← hx0] at HC0 ⊢
        clear hx0
        have hm1 := HC0.out.m
        rw [HMK.out] at hm1
        obtain ⟨m0, m1, m2, m3, m4⟩ := mark5 hm1
        clear hm1
        have p1 : x0.cell? ⟨w.heap.size, 1, none⟩ = some (.slice a k cap) := (cell_of_heap (HK.out _ HC0.out.fr).1).trans rfl
        go_wp2_with (at_builtin; refine wpList_append_keep _ rfl (.tmp 48) (.tmp 50) 65 rfl 90 _ 5 40 Try.underlying65 Try.infoRun rfl (by decide) (by decide) (.slice a k cap) k 1 (marks mk k) x0.heap.size [.int .i64 (-(n + 1)), .int .i64 0, .int .i64 0, .int .i64 0, .int .i64 0] (by rfl) (by exact HC0.out.lown.alloc _) (by exact heap_alloc_new _ _) (by rfl) rfl (by simp [Value.oneCell']) (by decide) (by omega) ?_)
        intro v1 w2 hown1 ha1
        have HA1 : Hid (BkAt w0 w2 O (w.heap.size + 1) (fun v => #[.int .i64 (n + 1), cv, v, qv]) 90 132 5 rv u0 (rb ++ [(.slice a k cap, mk)]) (.slice a k cap) k mk [(v1, k + 1)]) := HC0.out.app (by decide) (by decide) HML.out (OneMore.alloc _ _) (by rw [← HM1.out.1]; exact hown1) ha1 (by simp)
        clear hown1 ha1 m0 m1 m2 m3 m4 p1 HC0
        go_upto_region 9 with fail
        have hm := HA1.out.m
        rw [HMK.out] at hm
        obtain ⟨m0, m1, m2, m3, m4⟩ := mark5 hm
        clear hm
        have p1 : w2.cell? ⟨w.heap.size, 1, none⟩ = some (.slice a k cap) := (cell_of_heap (HK.out _ HA1.out.fr).1).trans rfl
        have o3 : w2.cell? ⟨O, 2, none⟩ = some u0 := (cell_of_heap HA1.out.o).trans rfl
        have y3 : w2.frozen? ⟨O, 2, none⟩ = false := free_of_heap HA1.out.o
        have hOl2 : O < w2.heap.size := heap_lt HA1.out.o
        have hMl : w.heap.size + 1 < w2.heap.size := heap_lt HA1.out.m
        have HV : Hid (u0.ownBlock ≠ some O) := fun e => by obtain ⟨cur, hc⟩ := own_block HA1.out.rown e; exact ne_of_type hc HA1.out.o (by decide) rfl
        obtain ⟨aa1, cc1, hvv1⟩ := ownsRow_slice (HA1.out.kins (v1, k + 1) (by simp)).1
        replace hvv1 : v1 = .slice aa1 (k + 1) cc1 := hvv1
        subst hvv1
        go_cut [0] (fun r wx => r = .pointer (some ⟨O, 0, none⟩) ∧ Hid (∃ v, BkAt w0 wx O (w.heap.size + 1) (fun v => #[.int .i64 (n + 1), cv, v, qv]) 90 132 5 rv v (rb ++ [(.slice a k cap, mk), (.slice aa1 (k + 1) cc1, mk)]) (.slice a k cap) k mk [(.slice aa1 (k + 1) cc1, k + 1)]))
        case first =>
          go_region_law (refine step_push2 _ rfl (.tmp 56) (.tmp 60) 38 rfl 132 _ 6 64 Try.underlying38 Try.infoRB rfl (by decide) (by decide) u0 _ _ w2.heap.size [.slice aa1 (k + 1) cc1, .int .i64 (-(n + 1)), .int .i64 0, .int .i64 0, .int .i64 0, .int .i64 0] (by rfl) (by exact HA1.out.rown.alloc _) (by exact heap_alloc_new _ _) (by rfl) rfl (by simp [Value.oneCell']) (by first | omega | (simp; omega)) ?_; intro g1 cap1 w1 hown1 hgrow hat hlt; have hc1 : w1.cell? ⟨O, 2, none⟩ = some u0 := (cell_of_heap (grown_block (OneMore.alloc _ _).drew hgrow HA1.out.o HV.out)).trans rfl; have hf1 : w1.frozen? ⟨O, 2, none⟩ = false := free_of_heap (grown_block (OneMore.alloc _ _).drew hgrow HA1.out.o HV.out))
          all_goals
            go_wp2_with fail
            go_meet
            case rel =>
              have e : ([.slice aa1 (k + 1) cc1, .int .i64 (-(n + 1)), .int .i64 0, .int .i64 0, .int .i64 0, .int .i64 0] : List Value) = .slice aa1 (k + 1) cc1 :: mk := by rw [HMK.out]
              rw [e] at hown1
              have h := HA1.out.push (by decide) (by decide) (by decide) (OneMore.alloc _ _).drew (x := .slice aa1 (k + 1) cc1) (idx := 2) hown1 hgrow hat rfl
              refine ⟨rfl, ?_⟩
              show ∃ v, BkAt _ _ _ _ _ _ _ _ _ v _ _ _ _ _
              refine ⟨.slice (some ⟨g1, 0, none⟩) (rb.length + 1 + 1) cap1, ?_⟩
              simpa using h
        case rest =>
          obtain ⟨rfl, HX⟩ := hcut
          obtain ⟨u1, hu1⟩ := HX.out
          have HC1 : Hid (BkAt w0 wc O (w.heap.size + 1) (fun v => #[.int .i64 (n + 1), cv, v, qv]) 90 132 5 rv u1 (rb ++ [(.slice a k cap, mk), (.slice aa1 (k + 1) cc1, mk)]) (.slice a k cap) k mk [(.slice aa1 (k + 1) cc1, k + 1)]) := hu1
          clear hu1 HX m0 m1 m2 m3 m4 p1 o3 y3 hOl2 hMl HV HA1
          obtain ⟨x1, hx1⟩ : ∃ W, W = wc := ⟨_, rfl⟩
          rw [← hx1] at HC1 ⊢
          clear hx1
          have hm2 := HC1.out.m
          rw [HMK.out] at hm2
          obtain ⟨m0, m1, m2, m3, m4⟩ := mark5 hm2
          clear hm2
          have p1 : x1.cell? ⟨w.heap.size, 1, none⟩ = some (.slice a k cap) := (cell_of_heap (HK.out _ HC1.out.fr).1).trans rfl
          go_wp2_with (at_builtin; refine wpList_append_keep _ rfl (.tmp 65) (.tmp 68) 65 rfl 90 _ 5 40 Try.underlying65 Try.infoRun rfl (by decide) (by decide) (.slice a k cap) k 2 (marks mk k) x1.heap.size [.int .i64 (-(n + 1)), .int .i64 0, .int .i64 0, .int .i64 0, .int .i64 0, .int .i64 (-(n + 1)), .int .i64 0, .int .i64 0, .int .i64 0, .int .i64 0] (by rfl) (by exact HC1.out.lown.alloc _) (by exact heap_alloc_new _ _) (by rfl) rfl (by simp [Value.oneCell']) (by decide) (by omega) ?_)
          intro v2 w4 hown2 ha2
          have HA2 : Hid (BkAt w0 w4 O (w.heap.size + 1) (fun v => #[.int .i64 (n + 1), cv, v, qv]) 90 132 5 rv u1 (rb ++ [(.slice a k cap, mk), (.slice aa1 (k + 1) cc1, mk)]) (.slice a k cap) k mk [(.slice aa1 (k + 1) cc1, k + 1), (v2, k + 2)]) := HC1.out.app (by decide) (by decide) HML.out (OneMore.alloc _ _) (by rw [← HM1.out.2.1]; exact hown2) ha2 (by simp)
          clear hown2 ha2 m0 m1 m2 m3 m4 p1 HC1
          go_upto_region 11 with fail
          have hm := HA2.out.m
          rw [HMK.out] at hm
          obtain ⟨m0, m1, m2, m3, m4⟩ := mark5 hm
          clear hm
          have p1 : w4.cell? ⟨w.heap.size, 1, none⟩ = some (.slice a k cap) := (cell_of_heap (HK.out _ HA2.out.fr).1).trans rfl
          have o3 : w4.cell? ⟨O, 2, none⟩ = some u1 := (cell_of_heap HA2.out.o).trans rfl
          have y3 : w4.frozen? ⟨O, 2, none⟩ = false := free_of_heap HA2.out.o
          have hOl2 : O < w4.heap.size := heap_lt HA2.out.o
          have hMl : w.heap.size + 1 < w4.heap.size := heap_lt HA2.out.m
          have HV : Hid (u1.ownBlock ≠ some O) := fun e => by obtain ⟨cur, hc⟩ := own_block HA2.out.rown e; exact ne_of_type hc HA2.out.o (by decide) rfl
          obtain ⟨aa2, cc2, hvv2⟩ := ownsRow_slice (HA2.out.kins (v2, k + 2) (by simp)).1
          replace hvv2 : v2 = .slice aa2 (k + 2) cc2 := hvv2
          subst hvv2
          go_cut [0] (fun r wx => r = .pointer (some ⟨O, 0, none⟩) ∧ Hid (∃ v, BkAt w0 wx O (w.heap.size + 1) (fun v => #[.int .i64 (n + 1), cv, v, qv]) 90 132 5 rv v (rb ++ [(.slice a k cap, mk), (.slice aa1 (k + 1) cc1, mk), (.slice aa2 (k + 2) cc2, mk)]) (.slice a k cap) k mk [(.slice aa1 (k + 1) cc1, k + 1), (.slice aa2 (k + 2) cc2, k + 2)]))
          case first =>
            go_region_law (refine step_push2 _ rfl (.tmp 74) (.tmp 78) 38 rfl 132 _ 6 64 Try.underlying38 Try.infoRB rfl (by decide) (by decide) u1 _ _ w4.heap.size [.slice aa2 (k + 2) cc2, .int .i64 (-(n + 1)), .int .i64 0, .int .i64 0, .int .i64 0, .int .i64 0] (by rfl) (by exact HA2.out.rown.alloc _) (by exact heap_alloc_new _ _) (by rfl) rfl (by simp [Value.oneCell']) (by first | omega | (simp; omega)) ?_; intro g1 cap1 w1 hown1 hgrow hat hlt; have hc1 : w1.cell? ⟨O, 2, none⟩ = some u1 := (cell_of_heap (grown_block (OneMore.alloc _ _).drew hgrow HA2.out.o HV.out)).trans rfl; have hf1 : w1.frozen? ⟨O, 2, none⟩ = false := free_of_heap (grown_block (OneMore.alloc _ _).drew hgrow HA2.out.o HV.out))
            all_goals
              go_wp2_with fail
              go_meet
              case rel =>
                have e : ([.slice aa2 (k + 2) cc2, .int .i64 (-(n + 1)), .int .i64 0, .int .i64 0, .int .i64 0, .int .i64 0] : List Value) = .slice aa2 (k + 2) cc2 :: mk := by rw [HMK.out]
                rw [e] at hown1
                have h := HA2.out.push (by decide) (by decide) (by decide) (OneMore.alloc _ _).drew (x := .slice aa2 (k + 2) cc2) (idx := 2) hown1 hgrow hat rfl
                refine ⟨rfl, ?_⟩
                show ∃ v, BkAt _ _ _ _ _ _ _ _ _ v _ _ _ _ _
                refine ⟨.slice (some ⟨g1, 0, none⟩) (rb.length + 2 + 1) cap1, ?_⟩
                simpa using h
          case rest =>
            obtain ⟨rfl, HX⟩ := hcut
            obtain ⟨u2, hu2⟩ := HX.out
            have HC2 : Hid (BkAt w0 wc O (w.heap.size + 1) (fun v => #[.int .i64 (n + 1), cv, v, qv]) 90 132 5 rv u2 (rb ++ [(.slice a k cap, mk), (.slice aa1 (k + 1) cc1, mk), (.slice aa2 (k + 2) cc2, mk)]) (.slice a k cap) k mk [(.slice aa1 (k + 1) cc1, k + 1), (.slice aa2 (k + 2) cc2, k + 2)]) := hu2
            clear hu2 HX m0 m1 m2 m3 m4 p1 o3 y3 hOl2 hMl HV HA2
            obtain ⟨x2, hx2⟩ : ∃ W, W = wc := ⟨_, rfl⟩
            rw [← hx2] at HC2 ⊢
            clear hx2
            have hm3 := HC2.out.m
            rw [HMK.out] at hm3
            obtain ⟨m0, m1, m2, m3, m4⟩ := mark5 hm3
            clear hm3
            have p1 : x2.cell? ⟨w.heap.size, 1, none⟩ = some (.slice a k cap) := (cell_of_heap (HK.out _ HC2.out.fr).1).trans rfl
            go_wp2_with (at_builtin; refine wpList_append_keep _ rfl (.tmp 83) (.tmp 87) 65 rfl 90 _ 5 40 Try.underlying65 Try.infoRun rfl (by decide) (by decide) (.slice a k cap) k 3 (marks mk k) x2.heap.size [.int .i64 (-(n + 1)), .int .i64 0, .int .i64 0, .int .i64 0, .int .i64 0, .int .i64 (-(n + 1)), .int .i64 0, .int .i64 0, .int .i64 0, .int .i64 0, .int .i64 (-(n + 1)), .int .i64 0, .int .i64 0, .int .i64 0, .int .i64 0] (by rfl) (by exact HC2.out.lown.alloc _) (by exact heap_alloc_new _ _) (by rfl) rfl (by simp [Value.oneCell']) (by decide) (by omega) ?_)
            intro v3 w6 hown3 ha3
            have HA3 : Hid (BkAt w0 w6 O (w.heap.size + 1) (fun v => #[.int .i64 (n + 1), cv, v, qv]) 90 132 5 rv u2 (rb ++ [(.slice a k cap, mk), (.slice aa1 (k + 1) cc1, mk), (.slice aa2 (k + 2) cc2, mk)]) (.slice a k cap) k mk [(.slice aa1 (k + 1) cc1, k + 1), (.slice aa2 (k + 2) cc2, k + 2), (v3, k + 3)]) := HC2.out.app (by decide) (by decide) HML.out (OneMore.alloc _ _) (by rw [← HM1.out.2.2]; exact hown3) ha3 (by simp)
            clear hown3 ha3 m0 m1 m2 m3 m4 p1 HC2
            go_upto_region 13 with fail
            have hm := HA3.out.m
            rw [HMK.out] at hm
            obtain ⟨m0, m1, m2, m3, m4⟩ := mark5 hm
            clear hm
            have p1 : w6.cell? ⟨w.heap.size, 1, none⟩ = some (.slice a k cap) := (cell_of_heap (HK.out _ HA3.out.fr).1).trans rfl
            have o3 : w6.cell? ⟨O, 2, none⟩ = some u2 := (cell_of_heap HA3.out.o).trans rfl
            have y3 : w6.frozen? ⟨O, 2, none⟩ = false := free_of_heap HA3.out.o
            have hOl2 : O < w6.heap.size := heap_lt HA3.out.o
            have hMl : w.heap.size + 1 < w6.heap.size := heap_lt HA3.out.m
            have HV : Hid (u2.ownBlock ≠ some O) := fun e => by obtain ⟨cur, hc⟩ := own_block HA3.out.rown e; exact ne_of_type hc HA3.out.o (by decide) rfl
            obtain ⟨aa3, cc3, hvv3⟩ := ownsRow_slice (HA3.out.kins (v3, k + 3) (by simp)).1
            replace hvv3 : v3 = .slice aa3 (k + 3) cc3 := hvv3
            subst hvv3
            go_cut [0] (fun r wx => r = .pointer (some ⟨O, 0, none⟩) ∧ Hid (∃ v, BkAt w0 wx O (w.heap.size + 1) (fun v => #[.int .i64 (n + 1), cv, v, qv]) 90 132 5 rv v (rb ++ [(.slice a k cap, mk), (.slice aa1 (k + 1) cc1, mk), (.slice aa2 (k + 2) cc2, mk), (.slice aa3 (k + 3) cc3, mk)]) (.slice a k cap) k mk [(.slice aa1 (k + 1) cc1, k + 1), (.slice aa2 (k + 2) cc2, k + 2), (.slice aa3 (k + 3) cc3, k + 3)]))
            case first =>
              go_region_law (refine step_push2 _ rfl (.tmp 93) (.tmp 97) 38 rfl 132 _ 6 64 Try.underlying38 Try.infoRB rfl (by decide) (by decide) u2 _ _ w6.heap.size [.slice aa3 (k + 3) cc3, .int .i64 (-(n + 1)), .int .i64 0, .int .i64 0, .int .i64 0, .int .i64 0] (by rfl) (by exact HA3.out.rown.alloc _) (by exact heap_alloc_new _ _) (by rfl) rfl (by simp [Value.oneCell']) (by first | omega | (simp; omega)) ?_; intro g1 cap1 w1 hown1 hgrow hat hlt; have hc1 : w1.cell? ⟨O, 2, none⟩ = some u2 := (cell_of_heap (grown_block (OneMore.alloc _ _).drew hgrow HA3.out.o HV.out)).trans rfl; have hf1 : w1.frozen? ⟨O, 2, none⟩ = false := free_of_heap (grown_block (OneMore.alloc _ _).drew hgrow HA3.out.o HV.out))
              all_goals
                go_wp2_with fail
                go_meet
                case rel =>
                  have e : ([.slice aa3 (k + 3) cc3, .int .i64 (-(n + 1)), .int .i64 0, .int .i64 0, .int .i64 0, .int .i64 0] : List Value) = .slice aa3 (k + 3) cc3 :: mk := by rw [HMK.out]
                  rw [e] at hown1
                  have h := HA3.out.push (by decide) (by decide) (by decide) (OneMore.alloc _ _).drew (x := .slice aa3 (k + 3) cc3) (idx := 2) hown1 hgrow hat rfl
                  refine ⟨rfl, ?_⟩
                  show ∃ v, BkAt _ _ _ _ _ _ _ _ _ v _ _ _ _ _
                  refine ⟨.slice (some ⟨g1, 0, none⟩) (rb.length + 3 + 1) cap1, ?_⟩
                  simpa using h
            case rest =>
              obtain ⟨rfl, HX⟩ := hcut
              obtain ⟨u3, hu3⟩ := HX.out
              have HC3 : Hid (BkAt w0 wc O (w.heap.size + 1) (fun v => #[.int .i64 (n + 1), cv, v, qv]) 90 132 5 rv u3 (rb ++ [(.slice a k cap, mk), (.slice aa1 (k + 1) cc1, mk), (.slice aa2 (k + 2) cc2, mk), (.slice aa3 (k + 3) cc3, mk)]) (.slice a k cap) k mk [(.slice aa1 (k + 1) cc1, k + 1), (.slice aa2 (k + 2) cc2, k + 2), (.slice aa3 (k + 3) cc3, k + 3)]) := hu3
              clear hu3 HX m0 m1 m2 m3 m4 p1 o3 y3 hOl2 hMl HV HA3
              obtain ⟨x3, hx3⟩ : ∃ W, W = wc := ⟨_, rfl⟩
              rw [← hx3] at HC3 ⊢
              clear hx3
              have p2 : x3.cell? ⟨w.heap.size, 2, none⟩ = some (.slice aq nq capq) := (cell_of_heap (HK.out _ HC3.out.fr).1).trans rfl
              go_wp2_with fail
              refine (messages_bk O (n + 1) cv u3 qv qb aq nq capq xq x3 (by omega) (by omega) hnq hqb HC3.out.o (HK.out _ HC3.out.fr).2.1 (HK.out _ HC3.out.fr).2.2).mono ?_
              rintro e w9 ⟨rfl, y, y1, y2, y3, hy⟩
              have HY : Hid (_) := hy
              clear hy
              go_wp2_with fail
              go_end0
              exact ⟨rfl, x3, u3, _, _, _, y, y1, y2, y3, HC3.out, HY.out⟩
end Go.Proofs.Ytmmmnghiegajmaa
/- The owner's record behind a state. -/
namespace Go.Proofs.Ytmmmnghiegajmaa
open Go.RowKit Go.Proofs.Herald
/-- The blocks of the owner's lists, when those of a state have come to them. -/
def moreX (X : Nat → Prop) (w w' : World) (l q : Value) (k : Nat) : Prop := k < w'.heap.size ∧ (X k ∨ l.ownBlock = some k ∨ q.ownBlock = some k ∨ w.heap.size ≤ k)
theorem state_any (X : Nat → Prop) (O : Nat) (n now : Int) (cv rv qv : Value) (cb rb qb : List (Value × List Value)) (a : Option Addr) (nl cap : Nat) (xs : List Value) (aq : Option Addr) (nq capq : Nat) (xq : List Value) (w : World) (hn0 : 0 ≤ n) (hn1 : n ≤ 900000000) (hnl : nl ≤ 1000000) (hnq : nq ≤ 1000000) (hrb : rb.length ≤ 10000000) (hqb : qb.length ≤ 10000000)
    (h : OwnAt w X O n cv rv qv cb rb qb) (hl : w.ownsRow 0 90 5 (.slice a nl cap) nl xs) (hlq : w.ownsRow 0 83 4 (.slice aq nq capq) nq xq)
    (hlX : ∀ b, (Value.slice a nl cap).ownBlock = some b → ¬ X b) (hqX : ∀ b, (Value.slice aq nq capq).ownBlock = some b → ¬ X b) :
    Calls Try.prog 58 #[.pointer (some ⟨O, 0, none⟩), .agg #[.int .i64 now, .slice a nl cap, .slice aq nq capq]] w fun e w' => e = .returned (.tuple #[]) ∧
      ∃ rv' qv' rb' qb', rb'.length = rb.length + 4 ∧ qb'.length = qb.length + 4 ∧ OwnAt w' (moreX X w w' (.slice a nl cap) (.slice aq nq capq)) O (n + 1) cv rv' qv' cb rb' qb' ∧ Fr (fun k => X k ∨ (Value.slice a nl cap).ownBlock = some k ∨ (Value.slice aq nq capq).ownBlock = some k) w w' := by
  refine (state_bk O n now cv rv qv rb qb a nl cap xs aq nq capq xq w hn0 hn1 hnl hnq hrb hqb h.blk h.rown h.qown hl hlq).mono ?_
  rintro e w' ⟨rfl, wm, u, v1, v2, v3, v, v4, v5, v6, B1, B2⟩
  obtain ⟨w0, hw0⟩ : ∃ W, W = ((w.setCell ⟨O, 0, none⟩ (.int .i64 (n + 1))).alloc (.cells #[.int .i64 now, .slice a nl cap, .slice aq nq capq] 68)) := ⟨_, rfl⟩
  rw [← hw0] at B1
  have hs0 : w0.heap.size = w.heap.size + 1 := by rw [hw0]; simp [World.setCell]
  have hsm := B1.fr.size
  have hs' := B2.fr.size
  have old0 : ∀ {b : Nat} {cur : Array Value} {e : TypeId}, w.heap[b]? = some (.cells cur e (0, 0)) → e ≠ 41 → w0.heap[b]? = some (.cells cur e (0, 0)) := fun {b cur e} hb he => by
    rw [hw0, Below.heap_alloc _ _ _ (by simp [World.setCell]; exact heap_lt hb), Below.heap_setCell _ _ _ _ (ne_of_type hb h.blk he)]; exact hb
  -- from w on to wm
  have keep1 : ∀ {b : Nat} {cur : Array Value} {e : TypeId}, w.heap[b]? = some (.cells cur e (0, 0)) → e ≠ 41 → e ≠ 132 → (Value.slice a nl cap).ownBlock ≠ some b → wm.heap[b]? = some (.cells cur e (0, 0)) := fun {b cur e} hb h1 h2 h3 => by
    have hb0 := old0 hb h1
    rw [B1.fr.block b (heap_lt hb0) (fun hh => ?_)]
    · exact hb0
    · rcases hh with rfl | hh | hh
      · exact ne_of_type hb h.blk h1 rfl
      · obtain ⟨c, hc⟩ := own_block h.rown hh; exact ne_of_type hb hc h2 rfl
      · exact h3 hh
  -- from wm on to w'
  have qm : wm.ownsRow 0 134 5 qv qb.length (booksCells qb) := own_keep h.qown fun b hb => by
    obtain ⟨c, hc⟩ := own_block h.qown hb
    rw [keep1 hc (by decide) (by decide) (fun e => by obtain ⟨c2, hc2⟩ := own_block hl e; exact ne_of_type hc hc2 (by decide) rfl), hc]
  have keep2 : ∀ {b : Nat} {cur : Array Value} {e : TypeId}, wm.heap[b]? = some (.cells cur e (0, 0)) → e ≠ 41 → e ≠ 134 → (Value.slice aq nq capq).ownBlock ≠ some b → w'.heap[b]? = some (.cells cur e (0, 0)) := fun {b cur e} hb h1 h2 h3 => by
    rw [B2.fr.block b (heap_lt hb) (fun hh => ?_)]
    · exact hb
    · rcases hh with rfl | hh | hh
      · exact ne_of_type hb B1.o h1 rfl
      · obtain ⟨c, hc⟩ := own_block qm hh; exact ne_of_type hb hc h2 rfl
      · exact h3 hh
  have lqm : wm.ownsRow 0 83 4 (.slice aq nq capq) nq xq := own_keep hlq fun b hb => by
    obtain ⟨c, hc⟩ := own_block hlq hb
    rw [keep1 hc (by decide) (by decide) (fun e => by obtain ⟨c2, hc2⟩ := own_block hl e; exact ne_of_type hc hc2 (by decide) rfl), hc]
  have inX : ∀ {b : Nat}, X b → ∀ {o : Obj}, w.heap[b]? = some o → moreX X w w' (.slice a nl cap) (.slice aq nq capq) b := fun {b} hb {o} ho => ⟨by have := heap_lt ho; omega, Or.inl hb⟩
  refine ⟨rfl, u, v, rb ++ [(.slice a nl cap, [.int .i64 (-(n + 1)), .int .i64 0, .int .i64 0, .int .i64 0, .int .i64 0]), (v1, [.int .i64 (-(n + 1)), .int .i64 0, .int .i64 0, .int .i64 0, .int .i64 0]), (v2, [.int .i64 (-(n + 1)), .int .i64 0, .int .i64 0, .int .i64 0, .int .i64 0]), (v3, [.int .i64 (-(n + 1)), .int .i64 0, .int .i64 0, .int .i64 0, .int .i64 0])], qb ++ [(.slice aq nq capq, [.int .i64 0, .int .i64 (-(n + 1)), .int .i64 0, .int .i64 0]), (v4, [.int .i64 0, .int .i64 (-(n + 1)), .int .i64 0, .int .i64 0]), (v5, [.int .i64 0, .int .i64 (-(n + 1)), .int .i64 0, .int .i64 0]), (v6, [.int .i64 0, .int .i64 (-(n + 1)), .int .i64 0, .int .i64 0])], ?_, ?_, ⟨B2.o, inX h.inO h.blk, ?_, ?_, B2.rown, ?_, ?_, ?_, ?_, ?_, ?_⟩, ?_⟩
  · simp
  · simp
  · exact own_keep h.cown fun b hb => by
      obtain ⟨c, hc⟩ := own_block h.cown hb
      rw [keep2 (keep1 hc (by decide) (by decide) (fun e => by obtain ⟨c2, hc2⟩ := own_block hl e; exact ne_of_type hc hc2 (by decide) rfl)) (by decide) (by decide) (fun e => by obtain ⟨c2, hc2⟩ := own_block hlq e; exact ne_of_type hc hc2 (by decide) rfl), hc]
  · exact own_keep B1.rown fun b hb => by
      obtain ⟨c, hc⟩ := own_block B1.rown hb
      rw [keep2 hc (by decide) (by decide) (fun e => by obtain ⟨c2, hc2⟩ := own_block lqm e; exact ne_of_type hc hc2 (by decide) rfl), hc]
  · intro b hb
    obtain ⟨c, hc⟩ := own_block h.cown hb
    exact inX (h.cin b hb) hc
  · intro b hb
    obtain ⟨c, hc⟩ := own_block B1.rown hb
    refine ⟨by have := heap_lt hc; omega, ?_⟩
    rcases B1.rat b hb with h1 | h1
    · exact Or.inl (h.rin b h1)
    · exact Or.inr (Or.inr (Or.inr (by omega)))
  · intro b hb
    obtain ⟨c, hc⟩ := own_block B2.rown hb
    refine ⟨heap_lt hc, ?_⟩
    rcases B2.rat b hb with h1 | h1
    · exact Or.inl (h.qin b h1)
    · exact Or.inr (Or.inr (Or.inr (by omega)))
  · intro b hb
    obtain ⟨h1, m, hm, h2, h3⟩ := h.cbk b hb
    refine ⟨h1, m, hm, own_keep h2 fun g hg => ?_, fun g hg => ?_⟩
    · obtain ⟨c, hc⟩ := own_block h2 hg
      rw [keep2 (keep1 hc (by decide) (by decide) (fun e => by obtain ⟨c2, hc2⟩ := own_block hl e; exact ne_of_type hc hc2 (by decide) rfl)) (by decide) (by decide) (fun e => by obtain ⟨c2, hc2⟩ := own_block hlq e; exact ne_of_type hc hc2 (by decide) rfl), hc]
    · obtain ⟨c, hc⟩ := own_block h2 hg
      exact inX (h3 g hg) hc
  · have new : ∀ x nx, nx ≤ 100000000 → wm.ownsRow 0 90 5 x nx (marks [.int .i64 (-(n + 1)), .int .i64 0, .int .i64 0, .int .i64 0, .int .i64 0] nx) → (∀ b, x.ownBlock = some b → (Value.slice a nl cap).ownBlock = some b ∨ w0.heap.size ≤ b) →
        BookOk w' (moreX X w w' (.slice a nl cap) (.slice aq nq capq)) 90 5 (x, [.int .i64 (-(n + 1)), .int .i64 0, .int .i64 0, .int .i64 0, .int .i64 0]) := fun x nx hnx hx hxb => by
      refine ⟨⟨[-(n + 1), 0, 0, 0, 0], rfl, rfl⟩, nx, hnx, own_keep hx fun g hg => ?_, fun g hg => ?_⟩
      · obtain ⟨c, hc⟩ := own_block hx hg
        rw [keep2 hc (by decide) (by decide) (fun e => by obtain ⟨c2, hc2⟩ := own_block lqm e; exact ne_of_type hc hc2 (by decide) rfl), hc]
      · obtain ⟨c, hc⟩ := own_block hx hg
        refine ⟨by have := heap_lt hc; omega, ?_⟩
        rcases hxb g hg with h1 | h1
        · exact Or.inr (Or.inl h1)
        · exact Or.inr (Or.inr (Or.inr (by omega)))
    intro b hb
    rw [List.mem_append] at hb
    rcases hb with hb | hb
    · obtain ⟨h1, m, hm, h2, h3⟩ := h.rbk b hb
      refine ⟨h1, m, hm, own_keep h2 fun g hg => ?_, fun g hg => ?_⟩
      · obtain ⟨c, hc⟩ := own_block h2 hg
        rw [keep2 (keep1 hc (by decide) (by decide) (fun e => hlX g e (h3 g hg))) (by decide) (by decide) (fun e => by obtain ⟨c2, hc2⟩ := own_block hlq e; exact ne_of_type hc hc2 (by decide) rfl), hc]
      · obtain ⟨c, hc⟩ := own_block h2 hg
        exact inX (h3 g hg) hc
    · simp only [List.mem_cons, List.not_mem_nil, or_false] at hb
      rcases hb with rfl | rfl | rfl | rfl
      · exact new _ nl (by omega) B1.lown (fun b hb => Or.inl hb)
      · obtain ⟨k1, _, k3⟩ := B1.kins (v1, nl + 1) (by simp)
        exact new _ _ (by omega) k1 k3
      · obtain ⟨k1, _, k3⟩ := B1.kins (v2, nl + 2) (by simp)
        exact new _ _ (by omega) k1 k3
      · obtain ⟨k1, _, k3⟩ := B1.kins (v3, nl + 3) (by simp)
        exact new _ _ (by omega) k1 k3
  · have new : ∀ x nx, nx ≤ 100000000 → w'.ownsRow 0 83 4 x nx (marks [.int .i64 0, .int .i64 (-(n + 1)), .int .i64 0, .int .i64 0] nx) → (∀ b, x.ownBlock = some b → (Value.slice aq nq capq).ownBlock = some b ∨ wm.heap.size ≤ b) →
        BookOk w' (moreX X w w' (.slice a nl cap) (.slice aq nq capq)) 83 4 (x, [.int .i64 0, .int .i64 (-(n + 1)), .int .i64 0, .int .i64 0]) := fun x nx hnx hx hxb => by
      refine ⟨⟨[0, -(n + 1), 0, 0], rfl, rfl⟩, nx, hnx, hx, fun g hg => ?_⟩
      obtain ⟨c, hc⟩ := own_block hx hg
      refine ⟨heap_lt hc, ?_⟩
      rcases hxb g hg with h1 | h1
      · exact Or.inr (Or.inr (Or.inl h1))
      · exact Or.inr (Or.inr (Or.inr (by omega)))
    intro b hb
    rw [List.mem_append] at hb
    rcases hb with hb | hb
    · obtain ⟨h1, m, hm, h2, h3⟩ := h.qbk b hb
      refine ⟨h1, m, hm, own_keep h2 fun g hg => ?_, fun g hg => ?_⟩
      · obtain ⟨c, hc⟩ := own_block h2 hg
        rw [keep2 (keep1 hc (by decide) (by decide) (fun e => by obtain ⟨c2, hc2⟩ := own_block hl e; exact ne_of_type hc hc2 (by decide) rfl)) (by decide) (by decide) (fun e => hqX g e (h3 g hg)), hc]
      · obtain ⟨c, hc⟩ := own_block h2 hg
        exact inX (h3 g hg) hc
    · simp only [List.mem_cons, List.not_mem_nil, or_false] at hb
      rcases hb with rfl | rfl | rfl | rfl
      · exact new _ nq (by omega) B2.lown (fun b hb => Or.inl hb)
      · obtain ⟨k1, _, k3⟩ := B2.kins (v4, nq + 1) (by simp)
        exact new _ _ (by omega) k1 k3
      · obtain ⟨k1, _, k3⟩ := B2.kins (v5, nq + 2) (by simp)
        exact new _ _ (by omega) k1 k3
      · obtain ⟨k1, _, k3⟩ := B2.kins (v6, nq + 3) (by simp)
        exact new _ _ (by omega) k1 k3
  · have f0 : Fr (fun k => X k ∨ (Value.slice a nl cap).ownBlock = some k ∨ (Value.slice aq nq capq).ownBlock = some k) w w0 := by
      rw [hw0]
      exact ((Fr.refl _ w).setCell ⟨O, 0, none⟩ (Or.inl (Or.inl h.inO)) _).alloc _
    have f1 : Fr (fun k => X k ∨ (Value.slice a nl cap).ownBlock = some k ∨ (Value.slice aq nq capq).ownBlock = some k) w0 wm := B1.fr.mono fun k _ hk => by
      rcases hk with rfl | hk | hk
      · exact Or.inl h.inO
      · exact Or.inl (h.rin k hk)
      · exact Or.inr (Or.inl hk)
    have f2 : Fr (fun k => X k ∨ (Value.slice a nl cap).ownBlock = some k ∨ (Value.slice aq nq capq).ownBlock = some k) wm w' := B2.fr.mono fun k _ hk => by
      rcases hk with rfl | hk | hk
      · exact Or.inl h.inO
      · exact Or.inl (h.qin k hk)
      · exact Or.inr (Or.inr hk)
    exact (f0.trans f1).trans f2
end Go.Proofs.Ytmmmnghiegajmaa
