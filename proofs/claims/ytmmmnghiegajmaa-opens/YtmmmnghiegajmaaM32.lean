import Derived.Test.YtmmmnghiegajmaaM31
import Derived.Test.YtmmmnghiegajmaaM30
import Derived.Test.YtmmmnghiegajmaaM19
import Derived.Test.YtmmmnghiegajmaaM11
import Derived.Test.YtmmmnghiegajmaaM03
import Derived.Test.YtmmmnghiegajmaaM22
import Derived.Test.YtmmmnghiegajmaaM23
/- The program's herald does what the plain herald does: every call; its records. -/
namespace Go.Proofs.Ytmmmnghiegajmaa
open Go.RowKit Go.Proofs.Herald
theorem find_same {E : Eng Pr} (hE : ∀ p, E.pub p = pubP p) (id : Int) : ∀ (ps : List Pr), (findR E ps id = none ∧ findI id ps = ps.length) ∨ ∃ i, ∃ hi : i < ps.length, findR E ps id = some ps[i] ∧ findI id ps = i ∧ ps[i].id = id := by
  intro ps
  induction ps with
  | nil => exact .inl ⟨rfl, rfl⟩
  | cons p ps ih =>
    have hp : (E.pub p).id = p.id := by rw [hE]; rfl
    by_cases h : p.id = id
    · right
      refine ⟨0, by simp, ?_, ?_, h⟩
      · unfold findR
        rw [List.find?_cons_of_pos (by simp [hp, h])]
        rfl
      · rw [findI, if_pos h]
    · have e1 : findR E (p :: ps) id = findR E ps id := by
        unfold findR
        rw [List.find?_cons_of_neg (by simp [hp, h])]
      have e2 : findI id (p :: ps) = findI id ps + 1 := by rw [findI, if_neg h]
      rw [e1, e2]
      rcases ih with ⟨h1, h2⟩ | ⟨i, hi, h1, h2, h3⟩
      · exact .inl ⟨h1, by rw [h2]; rfl⟩
      · exact .inr ⟨i + 1, by simpa using hi, h1, by rw [h2], h3⟩
/-- What a call of the machine wants. -/
structure MOk (cs : List Ins) (C : Int) (h : Her Pr) : Prop where
  snd : soundL cs = true
  eng : EngOk (machE cs) (goodM cs)
  ok : HOk (machE cs) (goodM cs) C h
  qs : QsOk h
  C1 : C ≤ 900000000000000000
  last1 : h.last ≤ 1000000000000000000
theorem MOk.sent {cs : List Ins} {C : Int} {h : Her Pr} (hk : MOk cs C h) {p : Pr} (hp : p ∈ h.rs) : p.sent ≤ 999999999999990000 := by
  have h1 := (hk.ok.sent p hp).2
  have h2 := hk.C1
  have e : ((machE cs).pub p).sent = p.sent := rfl
  omega
theorem m_Trigger (H : Nat) (code rec : Value) (cs : List Ins) (h : Her Pr) (rv : Value) (qv : Nat → Value) (dev C : Int) (w : World) (H0 : MH w H code rec cs h rv qv) (hk : MOk cs C h) :
    Calls Try.prog 67 #[.pointer (some ⟨H, 0, none⟩), .int .i64 dev] w fun e w' => e = .returned (.tuple #[.int .i64 (trigH (machE cs) h dev).1, .int .i64 (trigH (machE cs) h dev).2.1]) ∧ MHOut w w' H code rec cs (trigH (machE cs) h dev).2.2 rv qv := by
  unfold trigH
  by_cases hd : 0 ≤ dev ∧ dev ≤ 2
  · rw [if_neg (by simpa using hd)]
    obtain ⟨d, hdd⟩ : ∃ d : Nat, dev = (d : Nat) := ⟨dev.toNat, by omega⟩
    subst hdd
    have hd3 : d < 3 := by omega
    by_cases hl : 5 ≤ h.rs.length
    · rw [if_pos hl]
      refine (h_trig_full H code rec h.now h.last rv qv h.qs h.rs d w H0.at' hd3 hl (by have := hk.ok.len; omega)).mono ?_
      rintro e w' ⟨rfl, rfl⟩
      exact ⟨rfl, MHOut.below H0 (Below.refl _ _)⟩
    · rw [if_neg hl]
      refine (h_trig_ok H code rec h.now h.last rv qv h.qs h.rs d cs w H0.at' hd3 hl hk.ok.last0 hk.last1 H0.cd hk.snd hk.ok.now0 hk.ok.now1).mono ?_
      rintro e w' ⟨rfl, ho⟩
      refine ⟨rfl, MHOut.of_proc (h' := _) H0 ho rfl ?_⟩
      have hnd : (h.rs ++ [freshP (h.last + 1) (d : Nat)]).Pairwise fun a b => ((machE cs).pub a).id ≠ ((machE cs).pub b).id := by
        rw [List.pairwise_append]
        refine ⟨hk.ok.nd, by simp, fun a ha b hb => ?_⟩
        rw [List.mem_singleton.mp hb]
        have := hk.ok.id a ha
        show ((machE cs).pub a).id ≠ h.last + 1
        omega
      have := after_idx (E := machE cs) (fun _ => rfl) (p' := (runM h.now cs 10000 (h.qs d) (freshP (h.last + 1) (d : Nat))).2.1) (done := (runM h.now cs 10000 (h.qs d) (freshP (h.last + 1) (d : Nat))).2.2) hnd (i := h.rs.length) (by simp) (by rw [runM_id]; simp)
      exact this
  · rw [if_pos (by simpa using hd)]
    refine (h_trig_dev H dev w hd).mono ?_
    rintro e w' ⟨rfl, rfl⟩
    exact ⟨rfl, MHOut.below H0 (Below.refl _ _)⟩
theorem m_Tick (H : Nat) (code rec : Value) (cs : List Ins) (h : Her Pr) (rv : Value) (qv : Nat → Value) (n C : Int) (w : World) (H0 : MH w H code rec cs h rv qv) (hk : MOk cs C h) :
    Calls Try.prog 70 #[.pointer (some ⟨H, 0, none⟩), .int .i64 n] w fun e w' => e = .returned (.int .i64 (tickH (machE cs) h n).1) ∧ MHOut w w' H code rec cs (tickH (machE cs) h n).2 rv qv := by
  unfold tickH
  by_cases hn : ¬ (1 ≤ n ∧ n ≤ 999) ∨ 1000000000 < h.now + n
  · rw [if_pos hn]
    exact h_tick_no H code rec cs h rv qv n C w H0 hk.ok hn
  · rw [if_neg hn]
    exact h_tick_yes H code rec cs h rv qv n C w hk.snd hk.eng H0 hk.ok hk.C1 (by omega) (by omega) (by omega)
theorem m_Cancel (H : Nat) (code rec : Value) (cs : List Ins) (h : Her Pr) (rv : Value) (qv : Nat → Value) (id C : Int) (w : World) (H0 : MH w H code rec cs h rv qv) (hk : MOk cs C h) :
    Calls Try.prog 73 #[.pointer (some ⟨H, 0, none⟩), .int .i64 id] w fun e w' => e = .returned (.int .i64 (cancelH (machE cs) h id).1) ∧ MHOut w w' H code rec cs (cancelH (machE cs) h id).2 rv qv := by
  have hl := hk.ok.len
  unfold cancelH
  rcases find_same (E := machE cs) (fun _ => rfl) id h.rs with ⟨h1, h2⟩ | ⟨i, hi, h1, h2, h3⟩
  · rw [h1]
    refine (h_cancel_none H code rec h.now h.last rv qv h.qs h.rs id w H0.at' (by omega) h2).mono ?_
    rintro e w' ⟨rfl, hb⟩
    exact ⟨rfl, MHOut.below H0 hb⟩
  · rw [h1]
    obtain ⟨d, hd3, hdev, hdn, _⟩ := run_bnd hk.ok (List.getElem_mem hi)
    refine (h_cancel_some H code rec h.now h.last rv qv h.qs h.rs id i d w H0.at' (by omega) hi h2 hd3 hdev).mono ?_
    rintro e w' ⟨rfl, ho⟩
    refine ⟨rfl, MHOut.of_proc (h' := _) H0 ho ?_ ?_⟩
    · show updQ h.qs ((machE cs).pub h.rs[i]).dev.toNat _ = _
      rw [show ((machE cs).pub h.rs[i]).dev.toNat = d from hdn]
    · have := after_idx (E := machE cs) (fun _ => rfl) (p' := h.rs[i]) (done := true) hk.ok.nd hi rfl
      unfold afterR afterI at this
      simp only [if_true] at this
      rw [← this]
      show h.rs.filter (fun y => ((machE cs).pub y).id != id) = _
      rw [show ((machE cs).pub h.rs[i]).id = id from h3]
theorem m_Ack (H : Nat) (code rec : Value) (cs : List Ins) (h : Her Pr) (rv : Value) (qv : Nat → Value) (id num C : Int) (w : World) (H0 : MH w H code rec cs h rv qv) (hk : MOk cs C h) :
    Calls Try.prog 72 #[.pointer (some ⟨H, 0, none⟩), .int .i64 id, .int .i64 num] w fun e w' => e = .returned (.int .i64 (ackH (machE cs) h id num).1) ∧ MHOut w w' H code rec cs (ackH (machE cs) h id num).2 rv qv := by
  have hl := hk.ok.len
  unfold ackH
  rcases find_same (E := machE cs) (fun _ => rfl) id h.rs with ⟨h1, h2⟩ | ⟨i, hi, h1, h2, h3⟩
  · rw [h1]
    refine (h_ack_none H code rec h.now h.last rv qv h.qs h.rs id num w H0.at' (by omega) h2).mono ?_
    rintro e w' ⟨rfl, hb⟩
    exact ⟨rfl, MHOut.below H0 hb⟩
  · rw [h1]
    have hmem := List.getElem_mem hi
    obtain ⟨d, hd3, hdev, hdn, _, _, _, _, hgood⟩ := run_bnd hk.ok hmem
    simp only
    have e1 : ((machE cs).pub h.rs[i]).num = h.rs[i].num := rfl
    have e2 : ((machE cs).pub h.rs[i]).dev.toNat = d := hdn
    rw [e1, e2]
    by_cases hn : num = 0 ∨ h.rs[i].num ≠ num
    · rw [if_pos hn]
      refine (h_ack_wait H code rec h.now h.last rv qv h.qs h.rs id num i w H0.at' (by omega) hi h2 (by rcases hn with h | h; exact .inl h; exact .inr fun hh => h hh.symm)).mono ?_
      rintro e w' ⟨rfl, hb⟩
      exact ⟨rfl, MHOut.below H0 hb⟩
    · rw [if_neg hn]
      have hz : ¬ num = 0 := fun hh => hn (.inl hh)
      have hnn : num = h.rs[i].num := by
        by_cases hh : h.rs[i].num = num
        · exact hh.symm
        · exact absurd (.inr hh) hn
      cases hq : hasQ (h.qs d) id num with
      | true =>
        simp only [if_true]
        refine (h_ack_queue H code rec h.now h.last rv qv h.qs h.rs id num i d w H0.at' (by omega) hi h2 hd3 hdev hz hnn hq).mono ?_
        rintro e w' ⟨rfl, hb⟩
        exact ⟨rfl, MHOut.below H0 hb⟩
      | false =>
        simp only [Bool.false_eq_true, if_false]
        refine (h_ack_ok H code rec h.now h.last rv qv h.qs h.rs id num i d cs w H0.at' (by omega) hi h2 hd3 hdev hz hnn H0.cd hk.snd hgood (hk.sent hmem) hk.ok.now0 hk.ok.now1 hq).mono ?_
        rintro e w' ⟨rfl, ho⟩
        refine ⟨rfl, MHOut.of_proc (h' := goH (machE cs) h h.rs[i] true) H0 ho ?_ ?_⟩
        · unfold goH
          rw [e2]
          rfl
        · unfold goH
          rw [e2]
          exact after_idx (E := machE cs) (fun _ => rfl) hk.ok.nd hi (onM_id _ _ _ _ _)
theorem m_Drain (H : Nat) (code rec : Value) (cs : List Ins) (h : Her Pr) (rv : Value) (qv : Nat → Value) (dev C : Int) (w : World) (H0 : MH w H code rec cs h rv qv) (hk : MOk cs C h) :
    Calls Try.prog 71 #[.pointer (some ⟨H, 0, none⟩), .int .i64 dev] w fun e w' => e = .returned (.tuple #[msgV (drainH h dev).1, .int .i64 (drainH h dev).2.1]) ∧ MHOut w w' H code rec cs (drainH h dev).2.2 rv qv := by
  unfold drainH
  by_cases hd : 0 ≤ dev ∧ dev ≤ 2
  · rw [if_neg (by simpa using hd)]
    obtain ⟨d, hdd⟩ : ∃ d : Nat, dev = (d : Nat) := ⟨dev.toNat, by omega⟩
    subst hdd
    have hd3 : d < 3 := by omega
    have e : ((d : Nat) : Int).toNat = d := by simp
    rw [e]
    cases hq : h.qs d with
    | nil =>
      refine (h_drain_empty H code rec h.now h.last rv qv h.qs h.rs d w H0.at' hd3 hq).mono ?_
      rintro e w' ⟨rfl, hb⟩
      exact ⟨rfl, MHOut.below H0 hb⟩
    | cons m r =>
      have hpos := hk.qs.pos d m (by rw [hq]; exact List.mem_cons_self ..)
      have hdist := hk.qs.dist d
      rw [hq] at hdist
      refine (h_drain_ok H code rec h.now h.last rv qv h.qs h.rs d m r w H0.at' hd3 hq (by omega)).mono ?_
      rintro e w' ⟨rfl, ho⟩
      rw [take_first hdist hpos] at ho
      exact ⟨rfl, MHOut.of_proc (h' := { h with qs := updQ h.qs d r }) H0 ho rfl rfl⟩
  · rw [if_pos (by simpa using hd)]
    refine (h_drain_dev H dev w hd).mono ?_
    rintro e w' ⟨rfl, hb⟩
    exact ⟨rfl, MHOut.below H0 hb⟩
open Go.RowKit Go.Proofs.Herald
def bytesV (xs : List Int) : List Value := xs.map fun z => Value.int .u8 z
theorem bytesV_len (xs : List Int) : (bytesV xs).length = xs.length := by simp [bytesV]
theorem bytesV_append (a b : List Int) : bytesV (a ++ b) = bytesV a ++ bytesV b := by simp [bytesV]
theorem bytesV_one (xs : List Int) : ∀ u ∈ bytesV xs, u.oneCell' = true := by
  intro u hu
  obtain ⟨z, _, rfl⟩ := List.mem_map.mp hu
  rfl
open Go.RowKit Go.Proofs.Herald
theorem src_own {w : World} {a : Option Addr} {n cap : Nat} {e : TypeId} {xs : List Value} (h : w.ownsRow 0 e 1 (.slice a n cap) n xs) : SrcAt w a n xs := fun hp => by
  obtain ⟨g, c, hv, _, _⟩ := h.form hp
  simp at hv
  obtain ⟨rfl, rfl⟩ := hv
  exact ⟨_, rfl, fun i u hu => h.cells (g := g) rfl i u hu⟩
/-- The whole herald: the machine, and n bytes of records. -/
structure FH (w : World) (H : Nat) (cs : List Ins) (h : Her Pr) (code rec rv : Value) (qv : Nat → Value) (n : Nat) : Prop where
  m : MH w H code rec cs h rv qv
  r : ∃ xs, xs.length = n ∧ w.ownsRow 0 5 1 rec n (bytesV xs)
def ownF (H : Nat) (code rec rv : Value) (qv : Nat → Value) (k : Nat) : Prop := ownH H rv qv k ∨ rec.ownBlock = some k ∨ code.ownBlock = some k
/-- Behind a call of the herald. -/
structure FHOut (w w' : World) (H : Nat) (cs : List Ins) (h : Her Pr) (code rec rv : Value) (qv : Nat → Value) (n : Nat) : Prop where
  ex : ∃ rec' rv' qv' n', n' ≤ n ∧ FH w' H cs h code rec' rv' qv' n' ∧ ∀ k, ownF H code rec' rv' qv' k → ownF H code rec rv qv k ∨ w.heap.size ≤ k
  fr : Fr (ownF H code rec rv qv) w w'
/-- The records are none of the machine's. -/
theorem FH.rec_keep {w w1 : World} {H : Nat} {cs : List Ins} {h : Her Pr} {code rec rv : Value} {qv : Nat → Value} {n : Nat} (F : FH w H cs h code rec rv qv n) (hf : Fr (ownH H rv qv) w w1) : ∃ xs, xs.length = n ∧ w1.ownsRow 0 5 1 rec n (bytesV xs) := by
  obtain ⟨xs, h1, h2⟩ := F.r
  refine ⟨xs, h1, own_keep h2 fun b hb => ?_⟩
  obtain ⟨c, hc⟩ := own_block h2 hb
  refine hf.block b (heap_lt hc) fun ho => ?_
  obtain ⟨c2, t, hc2, ht⟩ := F.m.at'.sort ho
  rcases ht with rfl | rfl | rfl
  · exact ne_of_type hc hc2 (by decide) rfl
  · exact ne_of_type hc hc2 (by decide) rfl
  · exact ne_of_type hc hc2 (by decide) rfl
/-- Behind a call of the machine, ahead of the record. -/
theorem FHOut.of_m {w w1 : World} {H : Nat} {cs : List Ins} {h h1 : Her Pr} {code rec rv : Value} {qv : Nat → Value} {n : Nat} (F : FH w H cs h code rec rv qv n) (ho : MHOut w w1 H code rec cs h1 rv qv) : FHOut w w1 H cs h1 code rec rv qv n := by
  obtain ⟨⟨rv', qv', h2, h3⟩, h4⟩ := ho
  refine ⟨⟨rec, rv', qv', n, Nat.le_refl _, ⟨h2, F.rec_keep h4⟩, fun k hk => ?_⟩, h4.mono fun k _ hk => .inl hk⟩
  rcases hk with hk | hk
  · rcases h3 k hk with h | h
    · exact .inl (.inl h)
    · exact .inr h
  · exact .inl (.inr hk)
theorem FHOut.trans {w w1 w2 : World} {H : Nat} {cs : List Ins} {h1 : Her Pr} {code rec rv rec1 rv1 : Value} {qv qv1 : Nat → Value} {n n1 : Nat} (hn : n1 ≤ n) (ho : ∀ k, ownF H code rec1 rv1 qv1 k → ownF H code rec rv qv k ∨ w.heap.size ≤ k) (hf : Fr (ownF H code rec rv qv) w w1) (h2 : FHOut w1 w2 H cs h1 code rec1 rv1 qv1 n1) : FHOut w w2 H cs h1 code rec rv qv n := by
  obtain ⟨⟨rec', rv', qv', n', a1, a2, a3⟩, a4⟩ := h2
  refine ⟨⟨rec', rv', qv', n', Nat.le_trans a1 hn, a2, fun k hk => ?_⟩, ?_⟩
  · rcases a3 k hk with h | h
    · exact ho k h
    · exact .inr (Nat.le_trans hf.size h)
  · have f1 : Fr (fun k => ownF H code rec rv qv k ∨ w.heap.size ≤ k) w w1 := hf.mono fun k _ hk => .inl hk
    have f2 : Fr (fun k => ownF H code rec rv qv k ∨ w.heap.size ≤ k) w1 w2 := a4.mono fun k _ hk => ho k hk
    exact (f1.trans f2).mono fun k hk hs => by
      rcases hs with h | h
      · exact h
      · omega
theorem FH.below {w w1 : World} {H : Nat} {cs : List Ins} {h : Her Pr} {code rec rv : Value} {qv : Nat → Value} {n : Nat} (F : FH w H cs h code rec rv qv n) (hb : Below w.heap.size w w1) : FH w1 H cs h code rec rv qv n := by
  have hf : Fr (ownH H rv qv) w w1 := (Fr.of_below hb).mono fun k hk hs => by omega
  exact ⟨⟨F.m.at'.below hb, F.m.at'.code hf F.m.cd⟩, F.rec_keep hf⟩
theorem FHOut.below {w w1 : World} {H : Nat} {cs : List Ins} {h : Her Pr} {code rec rv : Value} {qv : Nat → Value} {n : Nat} (F : FH w H cs h code rec rv qv n) (hb : Below w.heap.size w w1) : FHOut w w1 H cs h code rec rv qv n :=
  ⟨⟨rec, rv, qv, n, Nat.le_refl _, F.below hb, fun _ hk => .inl hk⟩, (Fr.of_below hb).mono fun k hk hs => by omega⟩
set_option maxRecDepth 20000 in
set_option maxHeartbeats 4000000 in
theorem note_no (H : Nat) (f c a b : Int) (w : World) (hf : ¬ f = 0) :
    Calls Try.prog 68 #[.pointer (some ⟨H, 0, none⟩), .int .i64 f, .agg #[.int .u8 c, .int .i64 a, .int .i64 b]] w fun e w' => e = .returned (.tuple #[]) ∧ Below w.heap.size w w' := by
  have hfb : (f != 0) = true := by simpa using hf
  clear hf
  go_enter Try.func68, Try.ntmps68
  go_wp2_with fail
  (try simp only [Exit.inBlock, Exit.then]); refine bodyPost_ret (results_none rfl _ _ _) rfl ?_
  exact ⟨rfl, (Below.refl _ _).alloc (Nat.le_refl _) _⟩
open Go.RowKit Go.Proofs.Herald
theorem ShAt.alloc {w wr : World} {now : Int} {rv uv : Value} {rl : List Rn} {ml : List Msg} (h : ShAt w wr now rv rl uv ml) (o : Obj) : ShAt w (wr.alloc o) now rv rl uv ml := by
  have k : ∀ j, j < wr.heap.size → (wr.alloc o).heap[j]? = wr.heap[j]? := fun j hj => Below.heap_alloc _ _ _ hj
  exact ⟨h.bel.alloc h.bel.size _, (k _ (heap_lt h.a)).trans h.a, (k _ (heap_lt h.o)).trans h.o, h.r.alloc _, h.m.alloc _⟩
/-- A run more is told. -/
theorem ShAt.pushA {w wr w1 : World} {now : Int} {rv uv v' : Value} {rl : List Rn} {ml : List Msg} (h : ShAt w wr now rv rl uv ml) (r : Rn)
    (hown1 : w1.ownsRow 0 90 5 v' (rl.length + 1) (rnsCells rl ++ rnCells r)) (ha : Appended wr w1 rv rl.length 1 v') :
    ShAt w (w1.setCell ⟨w.heap.size + 1, 1, none⟩ v') now v' (rl ++ [r]) uv ml := by
  obtain ⟨hb, hown2⟩ := appended_below h.bel h.bel.size h.r hown1 ha
  have hrO : ∀ {k : Nat} {c : Array Value} {t : TypeId}, wr.heap[k]? = some (.cells c t (0, 0)) → t ≠ 90 → w1.heap[k]? = wr.heap[k]? := fun {k c t} hk ht => by
    rcases ha with ⟨g, cap, e1, _, hg⟩ | ⟨_, hg⟩
    · refine hg.block k (heap_lt hk) fun e => ?_
      obtain ⟨c2, hc2⟩ := own_block (own0 h.r) (k := k) (by rw [e1]; exact e.symm)
      exact ne_of_type hk hc2 ht rfl
    · exact hg.block k (heap_lt hk) (by simp)
  have ho1 := (hrO h.o (by decide)).trans h.o
  refine ⟨hb.setCell (p := ⟨w.heap.size + 1, 1, none⟩) (Nat.le_succ _) _, ?_, ?_, ?_, ?_⟩
  · rw [Below.heap_setCell _ _ _ _ (show w.heap.size ≠ w.heap.size + 1 by omega)]
    exact (hrO h.a (by decide)).trans h.a
  · rw [heap_setCell_self _ ho1]; rfl
  · rw [rnsCells_snoc, List.length_append]
    refine own_stays hown2 fun k hk => ?_
    obtain ⟨c, hc⟩ := own_block (own0 hown2) hk
    exact Below.heap_setCell _ _ _ _ (ne_of_type hc ho1 (by decide))
  · refine own_stays h.m fun k hk => ?_
    obtain ⟨c, hc⟩ := own_block (own0 h.m) hk
    rw [Below.heap_setCell _ _ _ _ (ne_of_type hc h.o (by decide))]
    exact hrO hc (by decide)
set_option maxRecDepth 20000 in
set_option maxHeartbeats 8000000 in
theorem c_mShow (H : Nat) (code rec : Value) (now last : Int) (rv : Value) (qv : Nat → Value) (qs : Nat → List Msg) (ps : List Pr) (w : World) (h : HAt w H code rec now last rv qv qs ps) (hl : ps.length ≤ 1000) :
    Calls Try.prog 69 #[.pointer (some ⟨H, 0, none⟩)] w fun e w' => ∃ sv uv, e = .returned (.agg #[.int .i64 now, sv, uv]) ∧ w'.ownsRow w.heap.size 90 5 sv ps.length (rnsCells (ps.map pubP)) ∧ w'.ownsRow w.heap.size 83 4 uv (qs 0 ++ qs 1 ++ qs 2).length (msgsCells (qs 0 ++ qs 1 ++ qs 2)) ∧ Below w.heap.size w w' := by
  obtain ⟨pa, pc, hpv⟩ := ownsRow_slice h.rB
  subst hpv
  have c1 : w.cell? ⟨H, 1, none⟩ = some (.int .i64 now) := (cell_of_heap h.blk).trans rfl
  have c3 : w.cell? ⟨H, 3, none⟩ = some (.slice pa ps.length pc) := (cell_of_heap h.blk).trans rfl
  have hHl : H < w.heap.size := heap_lt h.blk
  have HH : Hid (HAt w H code rec now last (.slice pa ps.length pc) qv qs ps) := h
  clear h
  go_enter Try.func69, Try.ntmps69
  go_wp2_with fail
  go_loopw [18] (fun i wr => ∃ (k : Nat) (sv : Value), k ≤ ps.length ∧ i = .int .i64 k ∧ Hid (ShAt w wr now sv ((ps.map pubP).take k) (.slice none 0 0) [])) (fun i _ => ps.length - (intOf i).toNat)
  case atStart =>
    refine ⟨0, .slice none 0 0, Nat.zero_le _, rfl, ⟨((Below.refl _ _).alloc (Nat.le_refl _) _).alloc (by simp) _, ?_, heap_alloc2 _ _ _, World.ownsRow_nil _ _ _ _, World.ownsRow_nil _ _ _ _⟩⟩
    rw [Below.heap_alloc _ _ _ (by simp)]; exact heap_alloc_new _ _
  case round =>
    clear c1 c3
    obtain ⟨k, sv, hk, rfl, HS⟩ := hrel
    have HA : Hid (HAt wr H code rec now last (.slice pa ps.length pc) qv qs ps) := HH.out.below HS.out.bel
    have hl1 := heap_lt HS.out.o
    by_cases hlt : k < ps.length
    · obtain ⟨g, pc', hv, _, hgl⟩ := HA.out.rB.form (by omega)
      simp at hv
      obtain ⟨rfl, rfl⟩ := hv
      have hran := run_range HA.out.rB HA.out.rl hlt
      have hrl := HA.out.rl _ (List.getElem_mem hlt)
      have HTK : Hid ((ps.map pubP).take (k + 1) = (ps.map pubP).take k ++ [pubP ps[k]]) := by
        show _ = _
        rw [List.take_succ_eq_append_getElem (by simpa using hlt)]
        simp
      obtain ⟨rl, hrll⟩ : ∃ rl, rl = (ps.map pubP).take k := ⟨_, rfl⟩
      rw [← hrll] at HS HTK
      have HRL : Hid (rl.length = k) := (by rw [hrll]; simp; omega : rl.length = k)
      obtain ⟨ra, rc, hrv⟩ := ownsRow_slice HS.out.r
      subst hrv
      generalize ps[k] = m at *
      obtain ⟨C, hC⟩ : ∃ C, C = (runCells m).toArray := ⟨_, rfl⟩
      have HCR : Hid (CellsR C m ∧ wr.rangeAt g (k * 19) C.toList) := ⟨⟨hC, hrl⟩, CellsR.range ⟨hC, hrl⟩ hran⟩
      have k0 : C[0]? = some (.int .i64 m.id) := by rw [hC]; rfl
      have k1 : C[1]? = some (.int .i64 m.dev) := by rw [hC]; rfl
      have k2 : C[2]? = some (.int .i64 m.sent) := by rw [hC]; rfl
      have k3 : C[3]? = some (.int .i64 m.til) := by rw [hC]; rfl
      have k4 : C[4]? = some (.int .i64 m.num) := by rw [hC]; rfl
      have HS1 : Hid (ShAt w ((wr.alloc (.cells C 187)).alloc (.cells #[.int .i64 m.id, .int .i64 m.dev, .int .i64 m.sent, .int .i64 m.til, .int .i64 m.num] 90)) now (.slice ra rl.length rc) rl (.slice none 0 0) []) := (HS.out.alloc _).alloc _
      have o1 : wr.cell? ⟨w.heap.size + 1, 1, none⟩ = some (.slice ra rl.length rc) := (cell_of_heap HS.out.o).trans rfl
      have HNE : Hid ((Value.slice ra rl.length rc).ownBlock ≠ some (w.heap.size + 1)) := fun e => by obtain ⟨cur, hc⟩ := own_block (own0 HS.out.r) e; exact ne_of_type hc HS.out.o (by decide) rfl
      clear hran hrl hC hrll hgl HA
      go_wp2_with (first | (refine wpList_load_mid rfl 187 (.tmp 20) rfl g (k * 19) (by rfl) C.toList _ HCR.out.2 Try.underlying187 rfl HCR.out.1.infoL ?_) | (refine wpList_store_new wr rfl 187 (.tmp 5) (.tmp 21) rfl zeroRun C (by rfl) (by rfl) HCR.out.1.info HCR.out.1.zero HCR.out.1.one ?_) | (at_builtin; refine wpList_append_keep _ rfl (.tmp 23) (.tmp 26) 65 rfl 90 _ 5 40 Try.underlying65 Try.infoRun rfl (by decide) (by decide) (.slice ra rl.length rc) rl.length 1 (rnsCells rl) (wr.heap.size + 1) (rnCells (pubP m)) (by rfl) (by exact own0 HS1.out.r) (by exact heap_alloc2 _ _ _) (by rfl) rfl (by simp [rnCells, Value.oneCell']) (by decide) (by have := HRL.out; omega) ?_))
      intro v2 w2 hown2 ha2
      have HP := HS1.out.pushA (pubP m) hown2 ha2
      rw [← HTK.out] at HP
      have hob : w2.heap[w.heap.size + 1]? = some (.cells #[.int .i64 now, .slice ra rl.length rc, .slice none 0 0] 68 (0, 0)) := by
        rcases ha2 with ⟨g2, cap2, e1, _, hg⟩ | ⟨_, hg⟩
        · rw [hg.block _ (heap_lt HS1.out.o) (fun e => HNE.out (by rw [e1]; exact e.symm))]; exact HS1.out.o
        · rw [hg.block _ (heap_lt HS1.out.o) (by simp)]; exact HS1.out.o
      have o2 : w2.cell? ⟨w.heap.size + 1, 1, none⟩ = some (.slice ra rl.length rc) := (cell_of_heap hob).trans rfl
      have y2 : w2.frozen? ⟨w.heap.size + 1, 1, none⟩ = false := free_of_heap hob
      obtain ⟨va, vc, hv2⟩ := ownsRow_slice hown2
      subst hv2
      have HP2 : Hid (ShAt w (w2.setCell ⟨w.heap.size + 1, 1, none⟩ (.slice va (rl.length + 1) vc)) now (.slice va (rl.length + 1) vc) ((ps.map pubP).take (k + 1)) (.slice none 0 0) []) := HP
      clear HP hob hown2 ha2 HS1 HCR k0 k1 k2 k3 k4 o1
      go_wp2_with fail
      go_roundw
      case rel => exact ⟨k + 1, _, by omega, by go_num, HP2⟩
      case measure => simp [intOf]; omega
    · have HK : Hid ((ps.map pubP).take k = ps.map pubP) := List.take_of_length_le (by simp; omega)
      rw [HK.out] at HS
      obtain ⟨ra, rc, hrv⟩ := ownsRow_slice HS.out.r
      rw [List.length_map] at hrv
      subst hrv
      obtain ⟨qa0, qc0, hq0⟩ := ownsRow_slice (HH.out.oB 0 (by omega))
      obtain ⟨qa1, qc1, hq1⟩ := ownsRow_slice (HH.out.oB 1 (by omega))
      obtain ⟨qa2, qc2, hq2⟩ := ownsRow_slice (HH.out.oB 2 (by omega))
      have HQV : Hid (qv 0 = .slice qa0 (qs 0).length qc0 ∧ qv 1 = .slice qa1 (qs 1).length qc1 ∧ qv 2 = .slice qa2 (qs 2).length qc2) := ⟨hq0, hq1, hq2⟩
      have d4 : wr.cell? ⟨H, 4, none⟩ = some (.slice qa0 (qs 0).length qc0) := by rw [← hq0]; exact (cell_of_heap HA.out.blk).trans rfl
      have d5 : wr.cell? ⟨H, 5, none⟩ = some (.slice qa1 (qs 1).length qc1) := by rw [← hq1]; exact (cell_of_heap HA.out.blk).trans rfl
      have d6 : wr.cell? ⟨H, 6, none⟩ = some (.slice qa2 (qs 2).length qc2) := by rw [← hq2]; exact (cell_of_heap HA.out.blk).trans rfl
      clear HK HA hq0 hq1 hq2
      go_wp2_with fail
      clear d4 d5 d6
      go_loopw [34] (fun i wr' => ∃ (j : Nat) (uv : Value), j ≤ 3 ∧ i = .int .i64 j ∧ Hid (ShAt w wr' now (.slice ra ps.length rc) (ps.map pubP) uv (upQ qs j))) (fun i _ => 3 - (intOf i).toNat)
      case atStart => exact ⟨0, .slice none 0 0, Nat.zero_le _, rfl, HS⟩
      case round =>
        clear hl1 HS
        obtain ⟨j, uv, hj, rfl, HS⟩ := hrel
        have HA : Hid (HAt wr H code rec now last (.slice pa ps.length pc) qv qs ps) := HH.out.below HS.out.bel
        have hl1 := heap_lt HS.out.o
        obtain ⟨ua, uc, huv⟩ := ownsRow_slice HS.out.m
        subst huv
        have o0 : wr.cell? ⟨w.heap.size + 1, 0, none⟩ = some (.int .i64 now) := (cell_of_heap HS.out.o).trans rfl
        have o1 : wr.cell? ⟨w.heap.size + 1, 1, none⟩ = some (.slice ra ps.length rc) := (cell_of_heap HS.out.o).trans rfl
        have o2 : wr.cell? ⟨w.heap.size + 1, 2, none⟩ = some (.slice ua (upQ qs j).length uc) := (cell_of_heap HS.out.o).trans rfl
        by_cases hlt3 : j < 3
        · have hlq := HH.out.ql j hlt3
          have hlu : (upQ qs j).length ≤ 12 := by
            have h0 := HH.out.ql 0 (by omega)
            have h1 := HH.out.ql 1 (by omega)
            rcases (show j = 0 ∨ j = 1 ∨ j = 2 by omega) with rfl | rfl | rfl <;> simp [upQ] <;> omega
          obtain ⟨qa, qc, hqv⟩ : ∃ qa qc, qv j = .slice qa (qs j).length qc := by
            obtain ⟨a, c, h⟩ := ownsRow_slice (HH.out.oB j hlt3)
            exact ⟨a, c, h⟩
          have HSRC : Hid (∀ (ob : Obj), SrcAt (wr.alloc ob) qa (qs j).length (msgsCells (qs j))) := fun ob hp => by
            have ho := (HA.out.oB j hlt3).alloc ob
            rw [hqv] at ho
            obtain ⟨g, c, hv, _, hgl⟩ := ho.form hp
            simp at hv
            obtain ⟨rfl, rfl⟩ := hv
            exact ⟨_, rfl, fun i u hu => ho.cells (g := g) rfl i u hu⟩
          have HNE : Hid ((Value.slice ua (upQ qs j).length uc).ownBlock ≠ some (w.heap.size + 1)) := fun e => by obtain ⟨cur, hc⟩ := own_block (own0 HS.out.m) e; exact ne_of_type hc HS.out.o (by decide) rfl
          have HOB : Hid (∀ (ob : Obj) (w2 : World) (v2 : Value), w2.ownsRow 0 83 4 v2 ((upQ qs j).length + (qs j).length) (msgsCells (upQ qs j) ++ msgsCells (qs j)) → Appended (wr.alloc ob) w2 (.slice ua (upQ qs j).length uc) (upQ qs j).length (qs j).length v2 → w2.heap[w.heap.size + 1]? = some (.cells #[.int .i64 now, .slice ra ps.length rc, .slice ua (upQ qs j).length uc] 68 (0, 0)) ∧ ShAt w (w2.setCell ⟨w.heap.size + 1, 2, none⟩ v2) now (.slice ra ps.length rc) (ps.map pubP) v2 (upQ qs (j + 1))) := fun ob w2 v2 hown ha => by
            have hS1 := HS.out.alloc ob
            refine ⟨?_, ShAt.pushM hS1 (qs j) hown ha⟩
            rcases ha with ⟨g, cap, e1, _, hg⟩ | ⟨_, hg⟩
            · rw [hg.block _ (heap_lt hS1.o) (fun e => HNE.out (by rw [e1]; exact e.symm))]; exact hS1.o
            · rw [hg.block _ (heap_lt hS1.o) (by simp)]; exact hS1.o
          have HM0 : Hid (wr.ownsRow 0 83 4 (.slice ua (upQ qs j).length uc) (upQ qs j).length (msgsCells (upQ qs j))) := own0 HS.out.m
          clear HA
          obtain ⟨ix0, ix1, ix2⟩ := run_index3 (.slice qa0 (qs 0).length qc0) (.slice qa1 (qs 1).length qc1) (.slice qa2 (qs 2).length qc2) wr
          have hcase : j = 0 ∨ j = 1 ∨ j = 2 := by omega
          clear hlt3
          rcases hcase with rfl | rfl | rfl
          · rw [HQV.out.1] at hqv
            simp at hqv
            obtain ⟨rfl, rfl⟩ := hqv
            go_wp2_with (at_builtin; refine wpList_append_src _ rfl (.tmp 38) (.tmp 40) 66 rfl 83 _ 4 32 Try.underlying66 Try.infoMsg rfl (by decide) (by decide) (.slice ua (upQ qs 0).length uc) _ (msgsCells (upQ qs 0)) qa0 _ qc0 (msgsCells (qs 0)) (by rfl) (by exact HM0.out.alloc _) (by rfl) (by exact HSRC.out _) (msgsCells_length _) (by exact codeCells_one _) (by omega) ?_)
            intro v2 w2 hown2 ha2
            obtain ⟨hob, HP⟩ := HOB.out _ w2 v2 hown2 ha2
            have e2 : w2.cell? ⟨w.heap.size + 1, 2, none⟩ = some (.slice ua (upQ qs 0).length uc) := (cell_of_heap hob).trans rfl
            have y2 : w2.frozen? ⟨w.heap.size + 1, 2, none⟩ = false := free_of_heap hob
            obtain ⟨va, vc, hv2⟩ := ownsRow_slice hown2
            subst hv2
            have HP2 : Hid (ShAt w _ now (.slice ra ps.length rc) (ps.map pubP) _ (upQ qs (0 + 1))) := HP
            clear HP hob hown2 ha2 HOB HSRC HM0 o0 o1 o2 ix0 ix1 ix2
            go_wp2_with fail
            go_roundw
            case rel => exact ⟨0 + 1, _, by omega, by go_num, HP2⟩
            case measure => simp [intOf]
          · rw [HQV.out.2.1] at hqv
            simp at hqv
            obtain ⟨rfl, rfl⟩ := hqv
            go_wp2_with (at_builtin; refine wpList_append_src _ rfl (.tmp 38) (.tmp 40) 66 rfl 83 _ 4 32 Try.underlying66 Try.infoMsg rfl (by decide) (by decide) (.slice ua (upQ qs 1).length uc) _ (msgsCells (upQ qs 1)) qa1 _ qc1 (msgsCells (qs 1)) (by rfl) (by exact HM0.out.alloc _) (by rfl) (by exact HSRC.out _) (msgsCells_length _) (by exact codeCells_one _) (by omega) ?_)
            intro v2 w2 hown2 ha2
            obtain ⟨hob, HP⟩ := HOB.out _ w2 v2 hown2 ha2
            have e2 : w2.cell? ⟨w.heap.size + 1, 2, none⟩ = some (.slice ua (upQ qs 1).length uc) := (cell_of_heap hob).trans rfl
            have y2 : w2.frozen? ⟨w.heap.size + 1, 2, none⟩ = false := free_of_heap hob
            obtain ⟨va, vc, hv2⟩ := ownsRow_slice hown2
            subst hv2
            have HP2 : Hid (ShAt w _ now (.slice ra ps.length rc) (ps.map pubP) _ (upQ qs (1 + 1))) := HP
            clear HP hob hown2 ha2 HOB HSRC HM0 o0 o1 o2 ix0 ix1 ix2
            go_wp2_with fail
            go_roundw
            case rel => exact ⟨1 + 1, _, by omega, by go_num, HP2⟩
            case measure => simp [intOf]
          · rw [HQV.out.2.2] at hqv
            simp at hqv
            obtain ⟨rfl, rfl⟩ := hqv
            go_wp2_with (at_builtin; refine wpList_append_src _ rfl (.tmp 38) (.tmp 40) 66 rfl 83 _ 4 32 Try.underlying66 Try.infoMsg rfl (by decide) (by decide) (.slice ua (upQ qs 2).length uc) _ (msgsCells (upQ qs 2)) qa2 _ qc2 (msgsCells (qs 2)) (by rfl) (by exact HM0.out.alloc _) (by rfl) (by exact HSRC.out _) (msgsCells_length _) (by exact codeCells_one _) (by omega) ?_)
            intro v2 w2 hown2 ha2
            obtain ⟨hob, HP⟩ := HOB.out _ w2 v2 hown2 ha2
            have e2 : w2.cell? ⟨w.heap.size + 1, 2, none⟩ = some (.slice ua (upQ qs 2).length uc) := (cell_of_heap hob).trans rfl
            have y2 : w2.frozen? ⟨w.heap.size + 1, 2, none⟩ = false := free_of_heap hob
            obtain ⟨va, vc, hv2⟩ := ownsRow_slice hown2
            subst hv2
            have HP2 : Hid (ShAt w _ now (.slice ra ps.length rc) (ps.map pubP) _ (upQ qs (2 + 1))) := HP
            clear HP hob hown2 ha2 HOB HSRC HM0 o0 o1 o2 ix0 ix1 ix2
            go_wp2_with fail
            go_roundw
            case rel => exact ⟨2 + 1, _, by omega, by go_num, HP2⟩
            case measure => simp [intOf]
        · have hj3 : j = 3 := by omega
          subst hj3
          have r0 : wr.cell? ⟨w.heap.size, 0, none⟩ = some (.int .i64 0) := (cell_of_heap HS.out.a).trans rfl
          have r1 : wr.cell? ⟨w.heap.size, 1, none⟩ = some (.slice none 0 0) := (cell_of_heap HS.out.a).trans rfl
          have r2 : wr.cell? ⟨w.heap.size, 2, none⟩ = some (.slice none 0 0) := (cell_of_heap HS.out.a).trans rfl
          have y0 : wr.frozen? ⟨w.heap.size, 0, none⟩ = false := free_of_heap HS.out.a
          have y1 : wr.frozen? ⟨w.heap.size, 1, none⟩ = false := free_of_heap HS.out.a
          have y2' : wr.frozen? ⟨w.heap.size, 2, none⟩ = false := free_of_heap HS.out.a
          have HB : Hid (Below w.heap.size w (((wr.setCell ⟨w.heap.size, 0, none⟩ (.int .i64 now)).setCell ⟨w.heap.size, 1, none⟩ (.slice ra ps.length rc)).setCell ⟨w.heap.size, 2, none⟩ (.slice ua (upQ qs 3).length uc))) :=
            ((HS.out.bel.setCell (p := ⟨w.heap.size, 0, none⟩) (Nat.le_refl _) _).setCell (p := ⟨w.heap.size, 1, none⟩) (Nat.le_refl _) _).setCell (p := ⟨w.heap.size, 2, none⟩) (Nat.le_refl _) _
          have HU : Hid (upQ qs 3 = qs 0 ++ qs 1 ++ qs 2) := (by simp [upQ] : upQ qs 3 = qs 0 ++ qs 1 ++ qs 2)
          go_wp2_with fail
          refine bodyPost_ret (v := .agg #[.int .i64 now, .slice ra ps.length rc, .slice ua (upQ qs 3).length uc]) (by simp [results, Try.results69, go_sem, r0, r1, r2]) rfl ⟨_, _, rfl, ?_, ?_, HB.out⟩
          · have h := HS.out.r
            rw [List.length_map] at h
            refine own_stays h fun k hk => ?_
            obtain ⟨c, hc⟩ := own_block (own0 h) hk
            have hne := ne_of_type hc HS.out.a (by decide)
            rw [Below.heap_setCell _ _ _ _ hne, Below.heap_setCell _ _ _ _ hne, Below.heap_setCell _ _ _ _ hne]
          · rw [← HU.out]
            have h := HS.out.m
            refine own_stays h fun k hk => ?_
            obtain ⟨c, hc⟩ := own_block (own0 h) hk
            have hne := ne_of_type hc HS.out.a (by decide)
            rw [Below.heap_setCell _ _ _ _ hne, Below.heap_setCell _ _ _ _ hne, Below.heap_setCell _ _ _ _ hne]
open Go.RowKit Go.Proofs.Herald
theorem FH.keep {w w1 : World} {H : Nat} {cs : List Ins} {h : Her Pr} {code rec rv : Value} {qv : Nat → Value} {n : Nat} (F : FH w H cs h code rec rv qv n) (hk : ∀ k, ownF H code rec rv qv k → w1.heap[k]? = w.heap[k]?) : FH w1 H cs h code rec rv qv n := by
  obtain ⟨xs, h1, h2⟩ := F.r
  exact ⟨⟨F.m.at'.keep fun k hk' => hk k (.inl hk'), own_keep F.m.cd fun b hb => hk b (.inr (.inr hb))⟩, xs, h1, own_keep h2 fun b hb => hk b (.inr (.inl hb))⟩
theorem FH.lt {w : World} {H : Nat} {cs : List Ins} {h : Her Pr} {code rec rv : Value} {qv : Nat → Value} {n : Nat} (F : FH w H cs h code rec rv qv n) {k : Nat} (hk : ownF H code rec rv qv k) : k < w.heap.size := by
  rcases hk with hk | hk | hk
  · exact F.m.at'.lt hk
  · obtain ⟨xs, _, h2⟩ := F.r
    obtain ⟨c, hc⟩ := own_block h2 hk
    exact heap_lt hc
  · obtain ⟨c, hc⟩ := own_block F.m.cd hk
    exact heap_lt hc
set_option maxRecDepth 20000 in
set_option maxHeartbeats 4000000 in
theorem f_Show (H : Nat) (cs : List Ins) (h : Her Pr) (code rec rv : Value) (qv : Nat → Value) (n : Nat) (w : World) (F : FH w H cs h code rec rv qv n) (hl : h.rs.length ≤ 1000) :
    Calls Try.prog 30 #[.pointer (some ⟨H, 0, none⟩)] w fun e w' => ∃ sv uv, e = .returned (.agg #[.int .i64 h.now, sv, uv]) ∧ w'.ownsRow w.heap.size 90 5 sv h.rs.length (rnsCells (h.rs.map pubP)) ∧ w'.ownsRow w.heap.size 83 4 uv (h.qs 0 ++ h.qs 1 ++ h.qs 2).length (msgsCells (h.qs 0 ++ h.qs 1 ++ h.qs 2)) ∧ Below w.heap.size w w' := by
  have HC : Hid (∀ o, Calls Try.prog 69 #[.pointer (some ⟨H, 0, none⟩)] (w.alloc o) fun e w' => ∃ sv uv, e = .returned (.agg #[.int .i64 h.now, sv, uv]) ∧ w'.ownsRow (w.alloc o).heap.size 90 5 sv h.rs.length (rnsCells (h.rs.map pubP)) ∧ w'.ownsRow (w.alloc o).heap.size 83 4 uv (h.qs 0 ++ h.qs 1 ++ h.qs 2).length (msgsCells (h.qs 0 ++ h.qs 1 ++ h.qs 2)) ∧ Below (w.alloc o).heap.size (w.alloc o) w') := fun o => c_mShow H code rec h.now h.last rv qv h.qs h.rs (w.alloc o) (F.below ((Below.refl _ _).alloc (Nat.le_refl _) _)).m.at' hl
  clear F
  go_enter Try.func30, Try.ntmps30
  go_wp2_with fail
  refine (HC.out _).mono ?_
  rintro e w1 ⟨sv, uv, rfl, hr1, hm1, hb1⟩
  obtain ⟨sa, sc, hsv⟩ := ownsRow_slice hr1
  obtain ⟨ua, uc, huv⟩ := ownsRow_slice hm1
  subst hsv huv
  have g1 : w1.heap[w.heap.size]? = some (.cells #[.int .i64 0, .slice none 0 0, .slice none 0 0] 68 (0, 0)) := (hb1.block _ (by simp)).trans (heap_alloc_new _ _)
  obtain ⟨r0, r1, r2, y0, y1, y2⟩ := cells3 g1
  have HB : Hid (Below w.heap.size w w1 ∧ w1.ownsRow w.heap.size 90 5 (.slice sa h.rs.length sc) h.rs.length (rnsCells (h.rs.map pubP)) ∧ w1.ownsRow w.heap.size 83 4 (.slice ua (h.qs 0 ++ h.qs 1 ++ h.qs 2).length uc) (h.qs 0 ++ h.qs 1 ++ h.qs 2).length (msgsCells (h.qs 0 ++ h.qs 1 ++ h.qs 2)) ∧ w1.heap[w.heap.size]? = some (.cells #[.int .i64 0, .slice none 0 0, .slice none 0 0] 68 (0, 0))) :=
    ⟨((Below.refl _ _).alloc (Nat.le_refl _) _).trans (hb1.mono (by simp)), own_base (own0 hr1) fun b hb => by have := (ownsRow_lies hr1 hb).1; simp at this; omega, own_base (own0 hm1) fun b hb => by have := (ownsRow_lies hm1 hb).1; simp at this; omega, g1⟩
  clear hb1 g1 HC hr1 hm1
  go_wp2_with fail
  refine bodyPost_ret (v := .agg #[.int .i64 h.now, .slice sa h.rs.length sc, .slice ua (h.qs 0 ++ h.qs 1 ++ h.qs 2).length uc]) (by simp [results, Try.results30, go_sem, r0, r1, r2]) rfl ⟨_, _, rfl, ?_, ?_, ?_⟩
  · refine own_stays HB.out.2.1 fun k hk => ?_
    obtain ⟨c, hc⟩ := own_block (own0 HB.out.2.1) hk
    have hne := ne_of_type hc HB.out.2.2.2 (by decide)
    rw [Below.heap_setCell _ _ _ _ hne, Below.heap_setCell _ _ _ _ hne, Below.heap_setCell _ _ _ _ hne]
  · refine own_stays HB.out.2.2.1 fun k hk => ?_
    obtain ⟨c, hc⟩ := own_block (own0 HB.out.2.2.1) hk
    have hne := ne_of_type hc HB.out.2.2.2 (by decide)
    rw [Below.heap_setCell _ _ _ _ hne, Below.heap_setCell _ _ _ _ hne, Below.heap_setCell _ _ _ _ hne]
  · exact ((HB.out.1.setCell (p := ⟨w.heap.size, 0, none⟩) (Nat.le_refl _) _).setCell (p := ⟨w.heap.size, 1, none⟩) (Nat.le_refl _) _).setCell (p := ⟨w.heap.size, 2, none⟩) (Nat.le_refl _) _
end Go.Proofs.Ytmmmnghiegajmaa
