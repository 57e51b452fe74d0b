import Derived.Test.YtmmmnghiegajmaaM08
import Derived.Deep.DeepCutAuto
/- Messages are booked. -/
namespace Go.Proofs.Ytmmmnghiegajmaa
open Go.RowKit Go.Proofs.Herald
set_option maxRecDepth 20000 in
set_option maxHeartbeats 4000000 in
theorem messages_bk (O : Nat) (n : Int) (cv rv qv : Value) (qb : List (Value × List Value)) (a : Option Addr) (nl cap : Nat) (xs : List Value) (w : World) (hn0 : 0 ≤ n) (hn1 : n ≤ 1000000000) (hnl : nl ≤ 1000000) (hqb : qb.length ≤ 10000000)
    (hO : w.heap[O]? = some (.cells #[.int .i64 n, cv, rv, qv] 41 (0, 0))) (hq : w.ownsRow 0 134 5 qv qb.length (booksCells qb)) (hl : w.ownsRow 0 83 4 (.slice a nl cap) nl xs) :
    Calls Try.prog 89 #[.pointer (some ⟨O, 0, none⟩), .slice a nl cap] w fun e w' => e = .returned (.tuple #[]) ∧
      ∃ v v1 v2 v3, BkAt w w' O w.heap.size (fun v => #[.int .i64 n, cv, rv, v]) 83 134 4 qv v (qb ++ [(.slice a nl cap, [.int .i64 0, .int .i64 (-n), .int .i64 0, .int .i64 0]), (v1, [.int .i64 0, .int .i64 (-n), .int .i64 0, .int .i64 0]), (v2, [.int .i64 0, .int .i64 (-n), .int .i64 0, .int .i64 0]), (v3, [.int .i64 0, .int .i64 (-n), .int .i64 0, .int .i64 0])])
        (.slice a nl cap) nl [.int .i64 0, .int .i64 (-n), .int .i64 0, .int .i64 0] [(v1, nl + 1), (v2, nl + 2), (v3, nl + 3)] := by
  have c0 : w.cell? ⟨O, 0, none⟩ = some (.int .i64 n) := (cell_of_heap hO).trans rfl
  obtain ⟨mk, hmk⟩ : ∃ mk : List Value, mk = [.int .i64 0, .int .i64 (-n), .int .i64 0, .int .i64 0] := ⟨_, rfl⟩
  have HMK : Hid (mk = [.int .i64 0, .int .i64 (-n), .int .i64 0, .int .i64 0]) := hmk
  have HML : Hid (mk.length = 4) := by show _ = _; rw [hmk]; rfl
  rw [← hmk]
  have HO : Hid (w.heap[O]? = some (.cells #[.int .i64 n, cv, rv, qv] 41 (0, 0)) ∧ w.ownsRow 0 134 5 qv qb.length (booksCells qb) ∧ w.ownsRow 0 83 4 (.slice a nl cap) nl xs) := ⟨hO, hq, hl⟩
  clear hO hq hl hmk
  go_enter Try.func89, Try.ntmps89
  go_wp2_with fail
  go_loopw [5] (fun i wr => ∃ (k : Nat) (rest : List Value), k ≤ nl ∧ i = .int .i64 k ∧ rest.length = (nl - k) * 4 ∧ Hid (wr.ownsRow 0 83 4 (.slice a nl cap) nl (marks mk k ++ rest)) ∧ Hid (wr.heap[w.heap.size]? = some (.cells mk.toArray 83 (0, 0))) ∧ Hid (Fr (fun j => j = O ∨ qv.ownBlock = some j ∨ (Value.slice a nl cap).ownBlock = some j) w wr) ∧ Hid (wr.heap[O]? = some (.cells #[.int .i64 n, cv, rv, qv] 41 (0, 0)) ∧ wr.ownsRow 0 134 5 qv qb.length (booksCells qb))) (fun i _ => nl - (intOf i).toNat)
  case atStart =>
    refine ⟨0, xs, Nat.zero_le _, rfl, HO.out.2.2.1, ?_, ?_, (Fr.refl _ _).alloc _, ?_, HO.out.2.1.alloc _⟩
    · show World.ownsRow _ _ _ _ _ _ ([] ++ xs)
      exact HO.out.2.2.alloc _
    · show _ = _
      rw [HMK.out]; exact heap_alloc_new _ _
    · rw [Below.heap_alloc _ _ _ (heap_lt HO.out.1)]; exact HO.out.1
  case round =>
    obtain ⟨k, rest, hk, rfl, hrl, HL, HM, HF, HR⟩ := hrel
    by_cases hlt : k < nl
    · obtain ⟨g, cap', hv, _, hgl⟩ := HL.out.form (by omega)
      simp at hv
      obtain ⟨rfl, rfl⟩ := hv
      obtain ⟨r0, r1, r2, r3, rest', rfl, hrl'⟩ := four hrl (by omega)
      have HP : Hid (k * 4 = (marks mk k).length) := by show _ = _; rw [marks_length, HML.out]
      obtain ⟨e0, e1, e2, e3, z0, z1, z2, z3⟩ := own_get4 HL.out HP.out
      have hM := HM.out
      rw [HMK.out] at hM
      obtain ⟨m0, m1, m2, m3⟩ := mark4 hM
      have HS := own_set4 HL.out HP.out (.int .i64 0) (.int .i64 (-n)) (.int .i64 0) (.int .i64 0)
      have HS2 : Hid (((((wr.setCell ⟨g, k * 4, none⟩ (.int .i64 0)).setCell ⟨g, k * 4 + 1, none⟩ (.int .i64 (-n))).setCell ⟨g, k * 4 + 2, none⟩ (.int .i64 0)).setCell ⟨g, k * 4 + 3, none⟩ (.int .i64 0)).ownsRow 0 83 4 (.slice (some ⟨g, 0, none⟩) nl cap) nl (marks mk (k + 1) ++ rest')) := by
        rw [← HMK.out] at HS
        have e : marks mk (k + 1) = marks mk k ++ mk := by rw [marks_add]; simp [marks]
        rw [e]; exact HS
      obtain ⟨_, curl, hcl⟩ := ownsRow_lies HL.out (k := g) rfl
      have HNE : Hid (O ≠ g ∧ w.heap.size ≠ g ∧ ∀ b, qv.ownBlock = some b → b ≠ g) := by
        refine ⟨ne_of_type HR.out.1 hcl (by decide), fun e => ?_, fun b hb => ?_⟩
        · obtain ⟨_, cl0, hcl0⟩ := ownsRow_lies HO.out.2.2 (k := g) rfl
          have := heap_lt hcl0
          omega
        · obtain ⟨_, cq, hcq⟩ := ownsRow_lies HR.out.2 hb
          exact ne_of_type hcq hcl (by decide)
      clear hcl hM HS
      go_wp2_with fail
      go_roundw
      case rel =>
        refine ⟨k + 1, rest', by omega, by go_num, by rw [hrl', show nl - k - 1 = nl - (k + 1) from by omega], HS2, ?_, fr_one HF.out (Or.inr (Or.inr rfl)) _ _ _ _ _, ?_, ?_⟩
        · show _ = _
          rw [Below.heap_setCell _ _ _ _ HNE.out.2.1, Below.heap_setCell _ _ _ _ HNE.out.2.1, Below.heap_setCell _ _ _ _ HNE.out.2.1, Below.heap_setCell _ _ _ _ HNE.out.2.1]; exact HM.out
        · rw [Below.heap_setCell _ _ _ _ HNE.out.1, Below.heap_setCell _ _ _ _ HNE.out.1, Below.heap_setCell _ _ _ _ HNE.out.1, Below.heap_setCell _ _ _ _ HNE.out.1]; exact HR.out.1
        · exact own_stays HR.out.2 (fun b hb => by
            have := HNE.out.2.2 b hb
            rw [Below.heap_setCell _ _ _ _ this, Below.heap_setCell _ _ _ _ this, Below.heap_setCell _ _ _ _ this, Below.heap_setCell _ _ _ _ this])
      case measure => simp [intOf]; omega
    · obtain rfl : k = nl := by omega
      obtain rfl : rest = [] := List.eq_nil_of_length_eq_zero (by simpa using hrl)
      have HB : Hid (BkAt w wr O w.heap.size (fun v => #[.int .i64 n, cv, rv, v]) 83 134 4 qv qv qb (.slice a k cap) k mk []) := by
        refine ⟨HR.out.1, HM.out, HR.out.2, fun b hb => Or.inl hb, ?_, fun x hx => absurd hx (by simp), HF.out, Nat.le_refl _, heap_lt HO.out.1, fun b hb => ?_⟩
        · have h := HL.out
          rw [List.append_nil] at h
          exact h
        · obtain ⟨_, cur, hc⟩ := ownsRow_lies HO.out.2.2 hb
          exact heap_lt hc
      clear HL HM HF HR hrl hk
      have HM1 : Hid ([.int .i64 0, .int .i64 (-n), .int .i64 0, .int .i64 0] = marks mk 1 ∧ [.int .i64 0, .int .i64 (-n), .int .i64 0, .int .i64 0] ++ [.int .i64 0, .int .i64 (-n), .int .i64 0, .int .i64 0] = marks mk 2 ∧ [.int .i64 0, .int .i64 (-n), .int .i64 0, .int .i64 0] ++ ([.int .i64 0, .int .i64 (-n), .int .i64 0, .int .i64 0] ++ [.int .i64 0, .int .i64 (-n), .int .i64 0, .int .i64 0]) = marks mk 3) := by rw [HMK.out]; exact ⟨rfl, rfl, rfl⟩
      go_upto_region 5 with fail
      have hm := HB.out.m
      rw [HMK.out] at hm
      obtain ⟨m0, m1, m2, m3⟩ := mark4 hm
      clear hm
      have o3 : wr.cell? ⟨O, 3, none⟩ = some qv := (cell_of_heap HB.out.o).trans rfl
      have y3 : wr.frozen? ⟨O, 3, none⟩ = false := free_of_heap HB.out.o
      have hOl : O < wr.heap.size := heap_lt HB.out.o
      have hMl : w.heap.size < wr.heap.size := heap_lt HB.out.m
      have HV : Hid (qv.ownBlock ≠ some O) := fun e => by obtain ⟨cur, hc⟩ := own_block HB.out.rown e; exact ne_of_type hc HB.out.o (by decide) rfl
      go_cut [0] (fun r wx => r = .pointer (some ⟨O, 0, none⟩) ∧ Hid (∃ v, BkAt w wx O w.heap.size (fun v => #[.int .i64 n, cv, rv, v]) 83 134 4 qv v (qb ++ [(.slice a k cap, mk)]) (.slice a k cap) k mk []))
      case first =>
        go_region_law (refine step_push2 _ rfl (.tmp 29) (.tmp 33) 39 rfl 134 _ 5 56 Try.underlying39 Try.infoQB rfl (by decide) (by decide) qv _ _ wr.heap.size [.slice a k cap, .int .i64 0, .int .i64 (-n), .int .i64 0, .int .i64 0] (by rfl) (by exact HB.out.rown.alloc _) (by exact heap_alloc_new _ _) (by rfl) rfl (by simp [Value.oneCell']) (by first | omega | (simp; omega)) ?_; intro g1 cap1 w1 hown1 hgrow hat hlt; have hc1 : w1.cell? ⟨O, 3, none⟩ = some qv := (cell_of_heap (grown_block (OneMore.alloc _ _).drew hgrow HB.out.o HV.out)).trans rfl; have hf1 : w1.frozen? ⟨O, 3, none⟩ = false := free_of_heap (grown_block (OneMore.alloc _ _).drew hgrow HB.out.o HV.out))
        all_goals
          go_wp2_with fail
          go_meet
          case rel =>
            have e : ([.slice a k cap, .int .i64 0, .int .i64 (-n), .int .i64 0, .int .i64 0] : List Value) = .slice a k cap :: mk := by rw [HMK.out]
            rw [e] at hown1
            have h := HB.out.push (by decide) (by decide) (by decide) (OneMore.alloc _ _).drew (x := .slice a k cap) (idx := 3) hown1 hgrow hat rfl
            refine ⟨rfl, ?_⟩
            show ∃ v, BkAt _ _ _ _ _ _ _ _ _ v _ _ _ _ _
            refine ⟨.slice (some ⟨g1, 0, none⟩) (qb.length + 0 + 1) cap1, ?_⟩
            simpa using h
      case rest =>
        obtain ⟨rfl, HX⟩ := hcut
        obtain ⟨u0, hu0⟩ := HX.out
        have HC0 : Hid (BkAt w wc O w.heap.size (fun v => #[.int .i64 n, cv, rv, v]) 83 134 4 qv u0 (qb ++ [(.slice a k cap, mk)]) (.slice a k cap) k mk []) := hu0
        clear hu0 HX m0 m1 m2 m3 o3 y3 hOl hMl HV HB
        obtain ⟨x0, hx0⟩ : ∃ W, W = wc := ⟨_, rfl⟩
        rw [← hx0] at HC0 ⊢
        clear hx0
        have hm1 := HC0.out.m
        rw [HMK.out] at hm1
        obtain ⟨m0, m1, m2, m3⟩ := mark4 hm1
        clear hm1
        go_wp2_with (at_builtin; refine wpList_append_keep _ rfl (.tmp 37) (.tmp 39) 66 rfl 83 _ 4 32 Try.underlying66 Try.infoMsg rfl (by decide) (by decide) (.slice a k cap) k 1 (marks mk k) x0.heap.size [.int .i64 0, .int .i64 (-n), .int .i64 0, .int .i64 0] (by rfl) (by exact HC0.out.lown.alloc _) (by exact heap_alloc_new _ _) (by rfl) rfl (by simp [Value.oneCell']) (by decide) (by omega) ?_)
        intro v1 w2 hown1 ha1
        have HA1 : Hid (BkAt w w2 O w.heap.size (fun v => #[.int .i64 n, cv, rv, v]) 83 134 4 qv u0 (qb ++ [(.slice a k cap, mk)]) (.slice a k cap) k mk [(v1, k + 1)]) := HC0.out.app (by decide) (by decide) HML.out (OneMore.alloc _ _) (by rw [← HM1.out.1]; exact hown1) ha1 (by simp)
        clear hown1 ha1 m0 m1 m2 m3 HC0
        go_upto_region 7 with fail
        have hm := HA1.out.m
        rw [HMK.out] at hm
        obtain ⟨m0, m1, m2, m3⟩ := mark4 hm
        clear hm
        have o3 : w2.cell? ⟨O, 3, none⟩ = some u0 := (cell_of_heap HA1.out.o).trans rfl
        have y3 : w2.frozen? ⟨O, 3, none⟩ = false := free_of_heap HA1.out.o
        have hOl : O < w2.heap.size := heap_lt HA1.out.o
        have hMl : w.heap.size < w2.heap.size := heap_lt HA1.out.m
        have HV : Hid (u0.ownBlock ≠ some O) := fun e => by obtain ⟨cur, hc⟩ := own_block HA1.out.rown e; exact ne_of_type hc HA1.out.o (by decide) rfl
        obtain ⟨aa1, cc1, hvv1⟩ := ownsRow_slice (HA1.out.kins (v1, k + 1) (by simp)).1
        replace hvv1 : v1 = .slice aa1 (k + 1) cc1 := hvv1
        subst hvv1
        go_cut [0] (fun r wx => r = .pointer (some ⟨O, 0, none⟩) ∧ Hid (∃ v, BkAt w wx O w.heap.size (fun v => #[.int .i64 n, cv, rv, v]) 83 134 4 qv v (qb ++ [(.slice a k cap, mk), (.slice aa1 (k + 1) cc1, mk)]) (.slice a k cap) k mk [(.slice aa1 (k + 1) cc1, k + 1)]))
        case first =>
          go_region_law (refine step_push2 _ rfl (.tmp 45) (.tmp 49) 39 rfl 134 _ 5 56 Try.underlying39 Try.infoQB rfl (by decide) (by decide) u0 _ _ w2.heap.size [.slice aa1 (k + 1) cc1, .int .i64 0, .int .i64 (-n), .int .i64 0, .int .i64 0] (by rfl) (by exact HA1.out.rown.alloc _) (by exact heap_alloc_new _ _) (by rfl) rfl (by simp [Value.oneCell']) (by first | omega | (simp; omega)) ?_; intro g1 cap1 w1 hown1 hgrow hat hlt; have hc1 : w1.cell? ⟨O, 3, none⟩ = some u0 := (cell_of_heap (grown_block (OneMore.alloc _ _).drew hgrow HA1.out.o HV.out)).trans rfl; have hf1 : w1.frozen? ⟨O, 3, none⟩ = false := free_of_heap (grown_block (OneMore.alloc _ _).drew hgrow HA1.out.o HV.out))
          all_goals
            go_wp2_with fail
            go_meet
            case rel =>
              have e : ([.slice aa1 (k + 1) cc1, .int .i64 0, .int .i64 (-n), .int .i64 0, .int .i64 0] : List Value) = .slice aa1 (k + 1) cc1 :: mk := by rw [HMK.out]
              rw [e] at hown1
              have h := HA1.out.push (by decide) (by decide) (by decide) (OneMore.alloc _ _).drew (x := .slice aa1 (k + 1) cc1) (idx := 3) hown1 hgrow hat rfl
              refine ⟨rfl, ?_⟩
              show ∃ v, BkAt _ _ _ _ _ _ _ _ _ v _ _ _ _ _
              refine ⟨.slice (some ⟨g1, 0, none⟩) (qb.length + 1 + 1) cap1, ?_⟩
              simpa using h
        case rest =>
          obtain ⟨rfl, HX⟩ := hcut
          obtain ⟨u1, hu1⟩ := HX.out
          have HC1 : Hid (BkAt w wc O w.heap.size (fun v => #[.int .i64 n, cv, rv, v]) 83 134 4 qv u1 (qb ++ [(.slice a k cap, mk), (.slice aa1 (k + 1) cc1, mk)]) (.slice a k cap) k mk [(.slice aa1 (k + 1) cc1, k + 1)]) := hu1
          clear hu1 HX m0 m1 m2 m3 o3 y3 hOl hMl HV HA1
          obtain ⟨x1, hx1⟩ : ∃ W, W = wc := ⟨_, rfl⟩
          rw [← hx1] at HC1 ⊢
          clear hx1
          have hm2 := HC1.out.m
          rw [HMK.out] at hm2
          obtain ⟨m0, m1, m2, m3⟩ := mark4 hm2
          clear hm2
          go_wp2_with (at_builtin; refine wpList_append_keep _ rfl (.tmp 53) (.tmp 56) 66 rfl 83 _ 4 32 Try.underlying66 Try.infoMsg rfl (by decide) (by decide) (.slice a k cap) k 2 (marks mk k) x1.heap.size [.int .i64 0, .int .i64 (-n), .int .i64 0, .int .i64 0, .int .i64 0, .int .i64 (-n), .int .i64 0, .int .i64 0] (by rfl) (by exact HC1.out.lown.alloc _) (by exact heap_alloc_new _ _) (by rfl) rfl (by simp [Value.oneCell']) (by decide) (by omega) ?_)
          intro v2 w4 hown2 ha2
          have HA2 : Hid (BkAt w w4 O w.heap.size (fun v => #[.int .i64 n, cv, rv, v]) 83 134 4 qv u1 (qb ++ [(.slice a k cap, mk), (.slice aa1 (k + 1) cc1, mk)]) (.slice a k cap) k mk [(.slice aa1 (k + 1) cc1, k + 1), (v2, k + 2)]) := HC1.out.app (by decide) (by decide) HML.out (OneMore.alloc _ _) (by rw [← HM1.out.2.1]; exact hown2) ha2 (by simp)
          clear hown2 ha2 m0 m1 m2 m3 HC1
          go_upto_region 9 with fail
          have hm := HA2.out.m
          rw [HMK.out] at hm
          obtain ⟨m0, m1, m2, m3⟩ := mark4 hm
          clear hm
          have o3 : w4.cell? ⟨O, 3, none⟩ = some u1 := (cell_of_heap HA2.out.o).trans rfl
          have y3 : w4.frozen? ⟨O, 3, none⟩ = false := free_of_heap HA2.out.o
          have hOl : O < w4.heap.size := heap_lt HA2.out.o
          have hMl : w.heap.size < w4.heap.size := heap_lt HA2.out.m
          have HV : Hid (u1.ownBlock ≠ some O) := fun e => by obtain ⟨cur, hc⟩ := own_block HA2.out.rown e; exact ne_of_type hc HA2.out.o (by decide) rfl
          obtain ⟨aa2, cc2, hvv2⟩ := ownsRow_slice (HA2.out.kins (v2, k + 2) (by simp)).1
          replace hvv2 : v2 = .slice aa2 (k + 2) cc2 := hvv2
          subst hvv2
          go_cut [0] (fun r wx => r = .pointer (some ⟨O, 0, none⟩) ∧ Hid (∃ v, BkAt w wx O w.heap.size (fun v => #[.int .i64 n, cv, rv, v]) 83 134 4 qv v (qb ++ [(.slice a k cap, mk), (.slice aa1 (k + 1) cc1, mk), (.slice aa2 (k + 2) cc2, mk)]) (.slice a k cap) k mk [(.slice aa1 (k + 1) cc1, k + 1), (.slice aa2 (k + 2) cc2, k + 2)]))
          case first =>
            go_region_law (refine step_push2 _ rfl (.tmp 62) (.tmp 66) 39 rfl 134 _ 5 56 Try.underlying39 Try.infoQB rfl (by decide) (by decide) u1 _ _ w4.heap.size [.slice aa2 (k + 2) cc2, .int .i64 0, .int .i64 (-n), .int .i64 0, .int .i64 0] (by rfl) (by exact HA2.out.rown.alloc _) (by exact heap_alloc_new _ _) (by rfl) rfl (by simp [Value.oneCell']) (by first | omega | (simp; omega)) ?_; intro g1 cap1 w1 hown1 hgrow hat hlt; have hc1 : w1.cell? ⟨O, 3, none⟩ = some u1 := (cell_of_heap (grown_block (OneMore.alloc _ _).drew hgrow HA2.out.o HV.out)).trans rfl; have hf1 : w1.frozen? ⟨O, 3, none⟩ = false := free_of_heap (grown_block (OneMore.alloc _ _).drew hgrow HA2.out.o HV.out))
            all_goals
              go_wp2_with fail
              go_meet
              case rel =>
                have e : ([.slice aa2 (k + 2) cc2, .int .i64 0, .int .i64 (-n), .int .i64 0, .int .i64 0] : List Value) = .slice aa2 (k + 2) cc2 :: mk := by rw [HMK.out]
                rw [e] at hown1
                have h := HA2.out.push (by decide) (by decide) (by decide) (OneMore.alloc _ _).drew (x := .slice aa2 (k + 2) cc2) (idx := 3) hown1 hgrow hat rfl
                refine ⟨rfl, ?_⟩
                show ∃ v, BkAt _ _ _ _ _ _ _ _ _ v _ _ _ _ _
                refine ⟨.slice (some ⟨g1, 0, none⟩) (qb.length + 2 + 1) cap1, ?_⟩
                simpa using h
          case rest =>
            obtain ⟨rfl, HX⟩ := hcut
            obtain ⟨u2, hu2⟩ := HX.out
            have HC2 : Hid (BkAt w wc O w.heap.size (fun v => #[.int .i64 n, cv, rv, v]) 83 134 4 qv u2 (qb ++ [(.slice a k cap, mk), (.slice aa1 (k + 1) cc1, mk), (.slice aa2 (k + 2) cc2, mk)]) (.slice a k cap) k mk [(.slice aa1 (k + 1) cc1, k + 1), (.slice aa2 (k + 2) cc2, k + 2)]) := hu2
            clear hu2 HX m0 m1 m2 m3 o3 y3 hOl hMl HV HA2
            obtain ⟨x2, hx2⟩ : ∃ W, W = wc := ⟨_, rfl⟩
            rw [← hx2] at HC2 ⊢
            clear hx2
            have hm3 := HC2.out.m
            rw [HMK.out] at hm3
            obtain ⟨m0, m1, m2, m3⟩ := mark4 hm3
            clear hm3
            go_wp2_with (at_builtin; refine wpList_append_keep _ rfl (.tmp 70) (.tmp 74) 66 rfl 83 _ 4 32 Try.underlying66 Try.infoMsg rfl (by decide) (by decide) (.slice a k cap) k 3 (marks mk k) x2.heap.size [.int .i64 0, .int .i64 (-n), .int .i64 0, .int .i64 0, .int .i64 0, .int .i64 (-n), .int .i64 0, .int .i64 0, .int .i64 0, .int .i64 (-n), .int .i64 0, .int .i64 0] (by rfl) (by exact HC2.out.lown.alloc _) (by exact heap_alloc_new _ _) (by rfl) rfl (by simp [Value.oneCell']) (by decide) (by omega) ?_)
            intro v3 w6 hown3 ha3
            have HA3 : Hid (BkAt w w6 O w.heap.size (fun v => #[.int .i64 n, cv, rv, v]) 83 134 4 qv u2 (qb ++ [(.slice a k cap, mk), (.slice aa1 (k + 1) cc1, mk), (.slice aa2 (k + 2) cc2, mk)]) (.slice a k cap) k mk [(.slice aa1 (k + 1) cc1, k + 1), (.slice aa2 (k + 2) cc2, k + 2), (v3, k + 3)]) := HC2.out.app (by decide) (by decide) HML.out (OneMore.alloc _ _) (by rw [← HM1.out.2.2]; exact hown3) ha3 (by simp)
            clear hown3 ha3 m0 m1 m2 m3 HC2
            go_upto_region 11 with fail
            have hm := HA3.out.m
            rw [HMK.out] at hm
            obtain ⟨m0, m1, m2, m3⟩ := mark4 hm
            clear hm
            have o3 : w6.cell? ⟨O, 3, none⟩ = some u2 := (cell_of_heap HA3.out.o).trans rfl
            have y3 : w6.frozen? ⟨O, 3, none⟩ = false := free_of_heap HA3.out.o
            have hOl : O < w6.heap.size := heap_lt HA3.out.o
            have hMl : w.heap.size < w6.heap.size := heap_lt HA3.out.m
            have HV : Hid (u2.ownBlock ≠ some O) := fun e => by obtain ⟨cur, hc⟩ := own_block HA3.out.rown e; exact ne_of_type hc HA3.out.o (by decide) rfl
            obtain ⟨aa3, cc3, hvv3⟩ := ownsRow_slice (HA3.out.kins (v3, k + 3) (by simp)).1
            replace hvv3 : v3 = .slice aa3 (k + 3) cc3 := hvv3
            subst hvv3
            go_region_law (refine step_push2 _ rfl (.tmp 80) (.tmp 84) 39 rfl 134 _ 5 56 Try.underlying39 Try.infoQB rfl (by decide) (by decide) u2 _ _ w6.heap.size [.slice aa3 (k + 3) cc3, .int .i64 0, .int .i64 (-n), .int .i64 0, .int .i64 0] (by rfl) (by exact HA3.out.rown.alloc _) (by exact heap_alloc_new _ _) (by rfl) rfl (by simp [Value.oneCell']) (by first | omega | (simp; omega)) ?_; intro g1 cap1 w1 hown1 hgrow hat hlt; have hc1 : w1.cell? ⟨O, 3, none⟩ = some u2 := (cell_of_heap (grown_block (OneMore.alloc _ _).drew hgrow HA3.out.o HV.out)).trans rfl; have hf1 : w1.frozen? ⟨O, 3, none⟩ = false := free_of_heap (grown_block (OneMore.alloc _ _).drew hgrow HA3.out.o HV.out))
            all_goals
              go_wp2_with fail
              go_end0
              have e : ([.slice aa3 (k + 3) cc3, .int .i64 0, .int .i64 (-n), .int .i64 0, .int .i64 0] : List Value) = .slice aa3 (k + 3) cc3 :: mk := by rw [HMK.out]
              rw [e] at hown1
              have h := HA3.out.push (by decide) (by decide) (by decide) (OneMore.alloc _ _).drew (x := .slice aa3 (k + 3) cc3) (idx := 3) hown1 hgrow hat rfl
              refine ⟨rfl, .slice (some ⟨g1, 0, none⟩) (qb.length + 3 + 1) cap1, .slice aa1 (k + 1) cc1, .slice aa2 (k + 2) cc2, .slice aa3 (k + 3) cc3, ?_⟩
              simpa using h
end Go.Proofs.Ytmmmnghiegajmaa
