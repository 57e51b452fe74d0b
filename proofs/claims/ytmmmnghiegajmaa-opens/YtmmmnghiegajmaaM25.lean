import Derived.Test.YtmmmnghiegajmaaM18
import Derived.Test.YtmmmnghiegajmaaM13
import Derived.Test.YtmmmnghiegajmaaM17
import Derived.Test.YtmmmnghiegajmaaM10
/- The document's own herald of code is as the plain one: its runs go on as plain runs of code. -/
namespace Go.Proofs.Herald
theorem sendP_id (q : List Msg) (p : Pr) (key : Int) : (sendP q p key).2.1.id = p.id := by
  unfold sendP
  split
  · rfl
  · rfl
theorem stepP_id (now : Int) (x : Ins) (pc : Int) (q : List Msg) (p : Pr) : (stepP now x pc q p).2.1.id = p.id := by
  unfold stepP
  repeat' split
  all_goals first | rfl | exact sendP_id _ _ _
theorem runP_id (now : Int) (cs : List Ins) : ∀ (f : Nat) (pc : Int) (q : List Msg) (p : Pr), (runP now cs f pc q p).2.1.id = p.id := by
  intro f
  induction f with
  | zero => intro pc q p; rfl
  | succ f ih =>
    intro pc q p
    rw [runP]
    split
    · split
      · exact stepP_id _ _ _ _ _
      · exact (ih _ _ _).trans (stepP_id _ _ _ _ _)
    · rfl
theorem onP_id (now : Int) (cs : List Ins) (yes : Bool) (q : List Msg) (p : Pr) : (onP now cs yes q p).2.1.id = p.id := by
  unfold onP
  split
  · exact runP_id _ _ _ _ _ _
  · split
    · exact runP_id _ _ _ _ _ _
    · exact runP_id _ _ _ _ _ _
theorem sound_all {cs : List Ins} (h : soundL cs = true) : ∀ x ∈ cs, soundI cs.length x = true := by
  unfold soundL at h
  simp only [Bool.and_eq_true, List.all_eq_true] at h
  exact h.2
/-- What a run of code keeps. -/
def goodP (cs : List Ins) (p : Pr) : Prop := RegsOk p ∧ PcsOk cs.length p
/-- Runs of sound code keep the bounds. -/
theorem codeE_ok {cs : List Ins} (hs : soundL cs = true) : EngOk (codeE cs) (goodP cs) := by
  have out : ∀ {now : Int} {p : Pr} {r : List Msg × Pr × Bool}, RunOk cs.length now 10000 p r → EOut (codeE cs) (goodP cs) now p r := fun h =>
    ⟨h.len, h.id, fun _ => h.dev, fun _ => h.sent0, fun _ => h.sent1, fun hd => ⟨⟨h.regs, h.pcs⟩, h.stop hd⟩⟩
  refine ⟨fun now yes q r hg hq _ => out (onP_ok (sound_all hs) yes q r hg.1 hg.2 hq), fun now q id dev hq => out (runP_ok (sound_all hs) 10000 0 q (freshP id dev) (Int.le_refl 0) ?_ ?_ hq), fun id dev => rfl⟩
  · intro z hz
    obtain rfl := (List.mem_replicate.mp hz).2
    omega
  · unfold PcsOk freshP
    simp only
    omega
end Go.Proofs.Herald
namespace Go.Proofs.Ytmmmnghiegajmaa
open Go.RowKit Go.Proofs.Herald
/-- The code lies where it lay. -/
def CodeLies (w : World) (B0 : Nat) (a : Option Addr) (b off : Nat) (cs : List Ins) : Prop := 0 < cs.length → a = some ⟨b, off, none⟩ ∧ b < B0 ∧ b < w.heap.size ∧ CodeAt w b off cs
theorem CodeLies.keep {w w' : World} {B0 : Nat} {a : Option Addr} {b off : Nat} {cs : List Ins} (h : CodeLies w B0 a b off cs) (hk : b < B0 → b < w.heap.size → w'.heap[b]? = w.heap[b]?) : CodeLies w' B0 a b off cs := fun hp => by
  obtain ⟨h1, h2, h3, h4⟩ := h hp
  have e := hk h2 h3
  refine ⟨h1, h2, ?_, h4.keep e⟩
  rw [Array.getElem?_eq_getElem h3] at e
  exact (Array.getElem?_eq_some_iff.mp e).1
/-- A herald of code, in the document's own memory. -/
def codeM (cs : List Ins) (a : Option Addr) (b off cap B0 : Nat) : Mode Pr :=
  ⟨codeE cs, ⟨false, .slice none 0 0, .slice a cs.length cap⟩, B0, fun w x p => x.p = p ∧ goodP cs p ∧ x.yv = .slice none 0 0 ∧ x.nv = .slice none 0 0 ∧ CodeLies w B0 a b off cs⟩
theorem codeM_ok {cs : List Ins} (hs : soundL cs = true) (a : Option Addr) (b off cap B0 : Nat) : ModeOk (codeM cs a b off cap B0) := by
  refine ⟨fun w x r h => by rw [h.1]; rfl, fun w w' x r h hst => ⟨h.1, h.2.1, h.2.2.1, h.2.2.2.1, h.2.2.2.2.keep fun h1 h2 => hst b h2 (.inl h1)⟩, fun now yes q r => onP_id now cs yes q r, ?_⟩
  intro S Q pv rec now last qv qs rs w x r d yes H hB hx hl hd hdev hq hs0 hs1 ht0 ht1 hlen _
  obtain ⟨rfl, hg, hy, hn, hcl⟩ := hl
  have hcore : SimCore w S Q x.P x.R (cmd (.slice a cs.length cap)) pv rec now last qv qs x.p := by
    have h := H.core hx
    rw [hy, hn] at h
    exact h
  have hT : ∀ k, StepT S Q x.P x.R (qv d) k → ownS S Q pv qv rs k := fun k hk => by
    rcases hk with rfl | rfl | rfl | rfl | hk
    · exact .inr (.inr (.inr (.inr ⟨x, hx, .inl rfl⟩)))
    · exact .inr (.inl rfl)
    · exact .inr (.inr (.inr (.inr ⟨x, hx, .inr rfl⟩)))
    · exact .inl rfl
    · exact .inr (.inr (.inl ⟨d, hd, hk⟩))
  have hbT : b < B0 → ¬ StepT S Q x.P x.R (qv d) b := fun h1 h2 => by
    have := hB b (hT b h2)
    have e : (codeM cs a b off cap B0).B0 = B0 := rfl
    omega
  have hready : Ready S Q x.P x.R b off cap a pv rec now last qv qs x.p d (idsOf rs) cs w :=
    ⟨hcore, fun hp => ⟨(hcl hp).1, (hcl hp).2.2.1, (hcl hp).2.2.2, hbT (hcl hp).2.1⟩, ⟨hd, hdev, hq, hs0, by omega, ht0, ht1, hg.1⟩, hs1, H.procs⟩
  have hL : (idsOf rs).length ≤ 1000 := by unfold idsOf; rw [List.length_map]; exact hlen
  have hok := onP_ok (now := now) (sound_all hs) yes (qs d) x.p hg.1 hg.2 hq
  have key : Calls Try.prog 125 #[.pointer (some ⟨S, 0, none⟩), .pointer (some ⟨x.P, 0, none⟩), .bool yes] w fun e w' => e = .returned (.tuple #[]) ∧ StepOut S Q x.P x.R (cmd (.slice a cs.length cap)) pv rec now last qv qs d (idsOf rs) w (onP now cs yes (qs d) x.p).1 (onP now cs yes (qs d) x.p).2.1 (onP now cs yes (qs d) x.p).2.2 w' := by
    obtain ⟨g1, g2, g3, g4⟩ := hg.2
    cases yes with
    | true => exact s_on_yes S Q x.P x.R b off cap a pv rec now last qv qs x.p d x.p.tow.toNat (idsOf rs) cs w hready hs (by omega) hL (by omega)
    | false => exact s_on_no S Q x.P x.R b off cap a pv rec now last qv qs x.p d x.p.els.toNat (idsOf rs) cs w hready hs (by omega) hL (by omega)
  refine key.mono ?_
  rintro e w' ⟨rfl, ho⟩
  refine ⟨rfl, ?_⟩
  have hF : Fr (StepT S Q x.P x.R (qv d)) w w' := by
    obtain ⟨_, _, _, _, _, _, hF⟩ := ho
    exact hF
  have ho2 : StepOut S Q x.P x.R ((codeM cs a b off cap B0).s.md x.yv x.nv) pv rec now last qv qs d (idsOf rs) w (onP now cs yes (qs d) x.p).1 (onP now cs yes (qs d) x.p).2.1 (onP now cs yes (qs d) x.p).2.2 w' := by
    rw [hy, hn]
    exact ho
  obtain ⟨v, pv', hr⟩ := RunOut.of_step ho2 hok.id
  exact ⟨_, v, pv', hr, fun _ => ⟨rfl, ⟨hok.regs, hok.pcs⟩, hy, hn, hcl.keep fun h1 h2 => hF.block b h2 (hbT h1)⟩⟩
end Go.Proofs.Ytmmmnghiegajmaa
/- The document's own herald of code: Trigger. -/
namespace Go.Proofs.Ytmmmnghiegajmaa
open Go.RowKit Go.Proofs.Herald
/-- One run more. -/
theorem SimAt.grow {w w' : World} {S Q : Nat} {s : Sd} {pv pv' : Value} {rec : ByteArray} {now last last' : Int} {qv : Nat → Value} {qs : Nat → List Msg} {rs : List Rs} (h : SimAt w S Q s pv rec now last qv qs rs) (x : Rs)
    (hS : w'.heap[S]? = some (.cells #[.bool s.tx, s.pg, s.code, .int .i64 now, .int .i64 last', pv', .slice (some ⟨Q, 0, none⟩) 3 3, .string rec] 121 (0, 0)))
    (hL : w'.ownsRow 0 177 1 pv' (rs.length + 1) (ptrs (idsOf rs) ++ [.pointer (some ⟨x.P, 0, none⟩)]))
    (hx : RunCells w' x) (hP : w.heap.size ≤ x.P) (hR : w.heap.size ≤ x.R) (hid : ∀ y ∈ rs, y.p.id ≠ x.p.id)
    (hk : ∀ k, k < w.heap.size → k ≠ S → pv.ownBlock ≠ some k → w'.heap[k]? = w.heap[k]?) : SimAt w' S Q s pv' rec now last' qv qs (rs ++ [x]) := by
  have ne : ∀ {k : Nat} {c : Array Value} {t : TypeId}, w.heap[k]? = some (.cells c t (0, 0)) → t ≠ 121 → t ≠ 177 → w'.heap[k]? = w.heap[k]? := fun {k c t} hc ht ht2 => hk k (heap_lt hc) (ne_of_type hc h.sB ht) fun e => by
    obtain ⟨c2, hc2⟩ := own_block h.lB e
    exact ne_of_type hc hc2 ht2 rfl
  refine ⟨hS, (ne h.qB (by decide) (by decide)).trans h.qB, fun d hd => own_keep (h.oB d hd) fun b hb => ?_, h.dis, ?_, fun y hy => ?_, ?_⟩
  · obtain ⟨c, hc⟩ := own_block (h.oB d hd) hb
    exact ne hc (by decide) (by decide)
  · have e : ptrs (idsOf (rs ++ [x])) = ptrs (idsOf rs) ++ [.pointer (some ⟨x.P, 0, none⟩)] := by simp [ptrs, idsOf]
    rw [e, List.length_append]
    exact hL
  · rcases List.mem_append.mp hy with hy | hy
    · obtain ⟨b1, b2, b3⟩ := h.rB y hy
      exact ⟨(ne b1 (by decide) (by decide)).trans b1, (ne b2 (by decide) (by decide)).trans b2, b3⟩
    · rw [List.mem_singleton.mp hy]; exact hx
  · rw [List.pairwise_append]
    refine ⟨h.nd, List.pairwise_singleton _ _, fun y hy z hz => ?_⟩
    rw [List.mem_singleton.mp hz]
    have h1 := heap_lt (h.rB y hy).1
    have h2 := heap_lt (h.rB y hy).2.1
    exact ⟨by omega, by omega, hid y hy⟩
theorem devB_no {dev : Int} (h : ¬ (0 ≤ dev ∧ dev ≤ 2)) : withinB dev 0 2 = false := by
  unfold withinB; simp; omega
theorem devB_yes {dev : Int} (h : 0 ≤ dev ∧ dev ≤ 2) : withinB dev 0 2 = true := by
  unfold withinB; simp; omega
set_option maxRecDepth 20000 in
set_option maxHeartbeats 2000000 in
theorem sim_trig_dev {RT : Type} {M : Mode RT} (S Q : Nat) (rec : ByteArray) (h : Her RT) (pv : Value) (qv : Nat → Value) (rs : List Rs) (dev : Int) (w : World) (H : SimH M w S Q rec h pv qv rs) (hd : ¬ (0 ≤ dev ∧ dev ≤ 2)) :
    Calls Try.prog 90 #[.pointer (some ⟨S, 0, none⟩), .int .i64 dev] w fun e w' => e = .returned (.tuple #[.int .i64 0, .int .i64 8]) ∧ SimOut M w S Q pv qv rs rec h w' := by
  have HS : Hid (SimOut M w S Q pv qv rs rec h w) := SimOut.same H (SameH.refl w) fun _ _ hl => hl
  have hb := devB_no hd
  clear hd H
  go_enter Try.func90, Try.ntmps90
  go_wp2_with fail
  refine (within_any _ _ _ _).mono ?_
  rintro e w1 ⟨rfl, rfl⟩
  rw [hb]
  go_wp2_with fail
  go_ret2
  exact ⟨rfl, HS.out⟩
set_option maxRecDepth 20000 in
set_option maxHeartbeats 2000000 in
theorem sim_trig_full {RT : Type} {M : Mode RT} (S Q : Nat) (rec : ByteArray) (h : Her RT) (pv : Value) (qv : Nat → Value) (rs : List Rs) (dev : Int) (w : World) (H : SimH M w S Q rec h pv qv rs) (hd : 0 ≤ dev ∧ dev ≤ 2) (hl : 5 ≤ h.rs.length) :
    Calls Try.prog 90 #[.pointer (some ⟨S, 0, none⟩), .int .i64 dev] w fun e w' => e = .returned (.tuple #[.int .i64 0, .int .i64 9]) ∧ SimOut M w S Q pv qv rs rec h w' := by
  have HS : Hid (SimOut M w S Q pv qv rs rec h w) := SimOut.same H (SameH.refl w) fun _ _ hl => hl
  have hb := devB_yes hd
  have hl2 : 5 ≤ rs.length := by rw [relL_len H.rel]; exact hl
  obtain ⟨pa, pc, hpv⟩ := ownsRow_slice H.at'.lB
  have c5 : w.cell? ⟨S, 5, none⟩ = some (.slice pa rs.length pc) := by rw [← hpv]; exact (cell_of_heap H.at'.sB).trans rfl
  clear hd H hl hpv
  go_enter Try.func90, Try.ntmps90
  go_wp2_with fail
  refine (within_any _ _ _ _).mono ?_
  rintro e w1 ⟨rfl, rfl⟩
  rw [hb]
  go_wp2_with fail
  go_ret2
  exact ⟨rfl, HS.out⟩
def regs0 : Array Value := Array.replicate 12 (.int .i64 0)
theorem make12 (W : World) : (Instr.makeSlice 52 (.int .i64 12) (.int .i64 12)).run Try.prog W = .ok (.slice (some ⟨W.heap.size, 0, none⟩) 12 12) (W.alloc (.cells regs0 3)) := by
  obtain ⟨i0, hi, hz0, hz1, hz2⟩ := info_parts Try.infoInt
  rw [run_make W 52 3 i0 _ Try.underlying52 hi hz0 .i64 .i64 12 12 (by decide) (by decide) (by rw [hz2]; decide) (by decide), hz1]
  have e : madeCells (Value.int .i64 0).cells (Int.toNat 12 * 1) = regs0 := by kernel_rfl
  rw [e]
  rfl
/-- A new run in memory, before it is in the list. -/
def newW (w : World) (S : Nat) (id dev : Int) : World :=
  ((w.setCell ⟨S, 4, none⟩ (.int .i64 id)).alloc (.cells regs0 3)).alloc (.cells #[.int .i64 id, .int .i64 dev, .int .i64 0, .int .i64 0, .int .i64 0, .slice none 0 0, .slice none 0 0, .slice (some ⟨w.heap.size, 0, none⟩) 12 12, .int .i64 0, .int .i64 0] 176)
/-- The new run. -/
def newRs (w : World) (id dev : Int) : Rs := ⟨w.heap.size + 1, w.heap.size, .slice none 0 0, .slice none 0 0, freshP id dev⟩
theorem newW_size (w : World) (S : Nat) (id dev : Int) : (newW w S id dev).heap.size = w.heap.size + 2 := by simp [newW]
theorem newW_below (w : World) (S : Nat) (id dev : Int) {k : Nat} (hk : k < w.heap.size) (hS : k ≠ S) : (newW w S id dev).heap[k]? = w.heap[k]? := by
  unfold newW
  rw [Below.heap_alloc _ _ _ (by simp; omega), Below.heap_alloc _ _ _ (by simpa using hk), Below.heap_setCell _ _ _ _ hS]
theorem newW_S {w : World} {S : Nat} {id0 now : Int} {tx : Bool} {a b c d e : Value} (id dev : Int) (h : w.heap[S]? = some (.cells #[.bool tx, a, b, .int .i64 now, .int .i64 id0, c, d, e] 121 (0, 0))) :
    (newW w S id dev).heap[S]? = some (.cells #[.bool tx, a, b, .int .i64 now, .int .i64 id, c, d, e] 121 (0, 0)) := by
  have hk := heap_lt h
  unfold newW
  rw [Below.heap_alloc _ _ _ (by simp; omega), Below.heap_alloc _ _ _ (by simpa using hk), heap_setCell_self _ h]
  rfl
theorem newW_run (w : World) (S : Nat) (id dev : Int) : RunCells (newW w S id dev) (newRs w id dev) := by
  have hs : (w.setCell ⟨S, 4, none⟩ (.int .i64 id)).heap.size = w.heap.size := by simp
  refine ⟨?_, ?_, rfl⟩
  · have h := heap_alloc2 (w.setCell ⟨S, 4, none⟩ (.int .i64 id)) (.cells regs0 3) (.cells #[.int .i64 id, .int .i64 dev, .int .i64 0, .int .i64 0, .int .i64 0, .slice none 0 0, .slice none 0 0, .slice (some ⟨w.heap.size, 0, none⟩) 12 12, .int .i64 0, .int .i64 0] 176)
    rw [hs] at h
    exact h
  · have h := heap_alloc_new (w.setCell ⟨S, 4, none⟩ (.int .i64 id)) (.cells regs0 3)
    rw [hs] at h
    have e : (newW w S id dev).heap[w.heap.size]? = some (.cells regs0 3 (0, 0)) := by
      unfold newW
      rw [Below.heap_alloc _ _ _ (by simp), h]
    refine e.trans ?_
    congr 1
theorem newW_fr (w : World) (S : Nat) (id dev : Int) : Fr (fun k => k = S) w (newW w S id dev) :=
  (((Fr.refl (fun k => k = S) w).setCell ⟨S, 4, none⟩ (Or.inl rfl) _).alloc _).alloc _
/-- The new run is in the list. -/
theorem trig_mid {RT : Type} {M : Mode RT} {w V w2 : World} {S Q : Nat} {rec : ByteArray} {h : Her RT} {pv : Value} {qv : Nat → Value} {rs : List Rs} {g cap : Nat} (H : SimH M w S Q rec h pv qv rs) (dev : Int) (hids : ∀ y ∈ rs, y.p.id ≠ h.last + 1) (h0 : OneMore (newW w S (h.last + 1) dev) V) (hgrow : V.grownBy w2 pv.ownBlock)
    (hown : w2.ownsRow 0 177 1 (.slice (some ⟨g, 0, none⟩) (rs.length + 1) cap) (rs.length + 1) (ptrs (idsOf rs) ++ [.pointer (some ⟨w.heap.size + 1, 0, none⟩)])) (hat : pv.ownBlock = some g ∨ g = V.heap.size) :
    SimAt (w2.setCell ⟨S, 5, none⟩ (.slice (some ⟨g, 0, none⟩) (rs.length + 1) cap)) S Q M.s (.slice (some ⟨g, 0, none⟩) (rs.length + 1) cap) rec h.now (h.last + 1) qv h.qs (rs ++ [newRs w (h.last + 1) dev]) ∧
    Fr (ownS S Q pv qv rs) w (w2.setCell ⟨S, 5, none⟩ (.slice (some ⟨g, 0, none⟩) (rs.length + 1) cap)) ∧
    ∀ k, ownS S Q (.slice (some ⟨g, 0, none⟩) (rs.length + 1) cap) qv (rs ++ [newRs w (h.last + 1) dev]) k → ownS S Q pv qv rs k ∨ w.heap.size ≤ k := by
  have hsz := newW_size w S (h.last + 1) dev
  have hS := newW_S (h.last + 1) dev H.at'.sB
  have hrow : ∀ {k : Nat}, pv.ownBlock = some k → ∃ c, w.heap[k]? = some (.cells c 177 (0, 0)) := fun hk => own_block H.at'.lB hk
  have hrowW : ∀ {k : Nat}, pv.ownBlock = some k → k < w.heap.size := fun hk => by obtain ⟨c, hc⟩ := hrow hk; exact heap_lt hc
  have hSrow : pv.ownBlock ≠ some S := fun e => by obtain ⟨c, hc⟩ := hrow e; exact ne_of_type hc H.at'.sB (by decide) rfl
  have hS2 := (grown_same h0 hgrow (heap_lt hS) hSrow).trans hS
  have hgS : g ≠ S := by
    obtain ⟨cur, hc⟩ := own_block hown (k := g) rfl
    exact ne_of_type hc hS2 (by decide)
  have hSl := heap_lt H.at'.sB
  have hfr : Fr (ownS S Q pv qv rs) w (w2.setCell ⟨S, 5, none⟩ (.slice (some ⟨g, 0, none⟩) (rs.length + 1) cap)) := by
    refine Fr.setCell ?_ ⟨S, 5, none⟩ (Or.inl (Or.inl rfl)) _
    refine ((newW_fr w S (h.last + 1) dev).mono (T := ownS S Q pv qv rs) fun k _ hk => .inl hk).trans ?_
    exact Fr.of_push h0 hgrow fun k hk => .inr (.inr (.inr (.inl hk)))
  have hnew : ∀ k, w.heap.size ≤ k → k < w.heap.size + 2 → (w2.setCell ⟨S, 5, none⟩ (.slice (some ⟨g, 0, none⟩) (rs.length + 1) cap)).heap[k]? = (newW w S (h.last + 1) dev).heap[k]? := fun k h1 h2 => by
    rw [Below.heap_setCell _ _ _ _ (show k ≠ S by omega)]
    exact grown_same h0 hgrow (by omega) fun e => by have := hrowW e; omega
  refine ⟨H.at'.grow (newRs w (h.last + 1) dev) ?_ ?_ ?_ (Nat.le_succ _) (Nat.le_refl _) hids fun k hk hkS hkp => ?_, hfr, fun k hk => ?_⟩
  · rw [heap_setCell_self _ hS2]; rfl
  · refine own_keep hown fun k hk => ?_
    simp [Value.ownBlock] at hk
    subst hk
    exact Below.heap_setCell _ _ _ _ hgS
  · obtain ⟨r1, r2, r3⟩ := newW_run w S (h.last + 1) dev
    exact ⟨(hnew _ (Nat.le_succ _) (Nat.lt_succ_self _)).trans r1, (hnew _ (Nat.le_refl _) (by show w.heap.size < w.heap.size + 2; omega)).trans r2, r3⟩
  · rw [Below.heap_setCell _ _ _ _ hkS, grown_same h0 hgrow (by omega) hkp, newW_below _ _ _ _ hk hkS]
  · rcases hk with rfl | rfl | hk | hk | ⟨y, hy, hk⟩
    · exact .inl (.inl rfl)
    · exact .inl (.inr (.inl rfl))
    · exact .inl (.inr (.inr (.inl hk)))
    · simp [Value.ownBlock] at hk
      subst hk
      rcases hat with e | e
      · exact .inl (.inr (.inr (.inr (.inl e))))
      · right; have := h0.size; omega
    · rcases List.mem_append.mp hy with hy | hy
      · exact .inl (.inr (.inr (.inr (.inr ⟨y, hy, hk⟩))))
      · rw [List.mem_singleton.mp hy] at hk
        simp only [newRs] at hk
        right; omega
set_option maxRecDepth 20000 in
set_option maxHeartbeats 4000000 in
theorem sim_trig_code {cs : List Ins} (hs : soundL cs = true) (a : Option Addr) (b off cap B0 : Nat) (S Q : Nat) (rec : ByteArray) (h : Her Pr) (pv : Value) (qv : Nat → Value) (rs : List Rs) (dev C : Int) (w : World) (H : SimH (codeM cs a b off cap B0) w S Q rec h pv qv rs) (hcl : CodeLies w B0 a b off cs) (hI : HOk (codeE cs) (goodP cs) C h) (hr : rec.size ≤ 1000000000000) (hlast : h.last ≤ 1000000000000000000) (hd : 0 ≤ dev ∧ dev ≤ 2) (hl : ¬ 5 ≤ h.rs.length) :
    Calls Try.prog 90 #[.pointer (some ⟨S, 0, none⟩), .int .i64 dev] w fun e w' => e = .returned (.tuple #[.int .i64 (h.last + 1), .int .i64 0]) ∧ SimOut (codeM cs a b off cap B0) w S Q pv qv rs (rec ++ recS 84 dev 0) (trigH (codeE cs) h dev).2.2 w' := by
  have hb := devB_yes hd
  have hl2 : rs.length < 5 := by rw [relL_len H.rel]; omega
  obtain ⟨pa, pc, hpv⟩ := ownsRow_slice H.at'.lB
  subst hpv
  have c4 : w.cell? ⟨S, 4, none⟩ = some (.int .i64 h.last) := (cell_of_heap H.at'.sB).trans rfl
  have c5 : w.cell? ⟨S, 5, none⟩ = some (.slice pa rs.length pc) := (cell_of_heap H.at'.sB).trans rfl
  have z4 : w.frozen? ⟨S, 4, none⟩ = false := free_of_heap H.at'.sB
  have hSl := heap_lt H.at'.sB
  have hl0 := hI.last0
  have HH : Hid (SimH (codeM cs a b off cap B0) w S Q rec h (.slice pa rs.length pc) qv rs) := H
  have HI : Hid (HOk (codeE cs) (goodP cs) C h) := hI
  have HC : Hid (CodeLies w B0 a b off cs) := hcl
  have HID : Hid (∀ y ∈ rs, y.p.id ≠ h.last + 1) := fun y hy => by
    obtain ⟨r, hrm, hlk⟩ := relL_mem H.rel hy
    have h1 := hI.id r hrm
    have h2 := (codeM_ok hs a b off cap B0).pub w y r hlk
    have h3 : (codeE cs).pub r = pubP y.p := h2
    rw [h3] at h1
    simp only [pubP] at h1
    omega
  have HE : Hid ((trigH (codeE cs) h dev).2.2 = { h with last := h.last + 1, qs := updQ h.qs dev.toNat (runP h.now cs 10000 0 (h.qs dev.toNat) (freshP (h.last + 1) dev)).1, rs := afterR (codeE cs) (h.rs ++ [freshP (h.last + 1) dev]) (runP h.now cs 10000 0 (h.qs dev.toNat) (freshP (h.last + 1) dev)).2.1 (runP h.now cs 10000 0 (h.qs dev.toNat) (freshP (h.last + 1) dev)).2.2 }) := by
    show _ = _
    unfold trigH
    rw [if_neg (fun hh => hh hd), if_neg hl]
    rfl
  rw [HE.out]
  have HD2 : Hid (dev = (dev.toNat : Nat)) := (by omega : dev = (dev.toNat : Nat))
  have hd3 : dev.toNat < 3 := by omega
  clear H hI hcl hl hd
  go_enter Try.func90, Try.ntmps90
  go_wp2_with fail
  refine (within_any _ _ _ _).mono ?_
  rintro e w1 ⟨rfl, rfl⟩
  rw [hb]
  have hmk := make12 (w1.setCell ⟨S, 4, none⟩ (.int .i64 (h.last + 1))).drew
  go_upto_region 7 with fail
  go_region
  clear hmk
  rw [show ((w1.setCell ⟨S, 4, none⟩ (.int .i64 (h.last + 1))).alloc (.cells regs0 3)).alloc (.cells #[.int .i64 (h.last + 1), .int .i64 dev, .int .i64 0, .int .i64 0, .int .i64 0, .slice none 0 0, .slice none 0 0, .slice (some ⟨w1.heap.size, 0, none⟩) 12 12, .int .i64 0, .int .i64 0] 176) = newW w1 S (h.last + 1) dev from rfl]
  have HSB : Hid ((newW w1 S (h.last + 1) dev).heap[S]? = _) := newW_S (h.last + 1) dev HH.out.at'.sB
  have HOW : Hid ((newW w1 S (h.last + 1) dev).ownsRow 0 177 1 (.slice pa rs.length pc) rs.length (ptrs (idsOf rs))) := own_keep HH.out.at'.lB fun k hk => by
    obtain ⟨c, hc⟩ := own_block HH.out.at'.lB hk
    exact newW_below _ _ _ _ (heap_lt hc) (ne_of_type hc HH.out.at'.sB (by decide))
  have HNE : Hid ((Value.slice pa rs.length pc).ownBlock ≠ some S) := fun e => by
    obtain ⟨c, hc⟩ := own_block HH.out.at'.lB e
    exact ne_of_type hc HH.out.at'.sB (by decide) rfl
  have hn5 : (newW w1 S (h.last + 1) dev).cell? ⟨S, 5, none⟩ = some (.slice pa rs.length pc) := (cell_of_heap HSB.out).trans rfl
  have hnl := heap_lt HSB.out
  have HM : Hid (∀ (V w2 : World) (g cap' : Nat), OneMore (newW w1 S (h.last + 1) dev) V → V.grownBy w2 (Value.slice pa rs.length pc).ownBlock → w2.ownsRow 0 177 1 (.slice (some ⟨g, 0, none⟩) (rs.length + 1) cap') (rs.length + 1) (ptrs (idsOf rs) ++ [.pointer (some ⟨w1.heap.size + 1, 0, none⟩)]) → ((Value.slice pa rs.length pc).ownBlock = some g ∨ g = V.heap.size) → _) := fun V w2 g cap' h0 hg ho hat => trig_mid HH.out dev HID.out h0 hg ho hat
  generalize newW w1 S (h.last + 1) dev = W at *
  go_wp2_with (at_builtin; refine wpList_push_at _ rfl (.tmp 38) (.tmp 40) 118 rfl 177 _ 1 8 Try.underlying118 Try.infoProcP rfl (by decide) (by decide) (.slice pa rs.length pc) rs.length (ptrs (idsOf rs)) W.heap.size [.pointer (some ⟨w1.heap.size + 1, 0, none⟩)] (by rfl) (by exact HOW.out.alloc _) (by exact heap_alloc_new _ _) (by rfl) rfl (by simp [Value.oneCell']) (by omega) ?_)
  intro g1 cap1 w2 hown1 hgrow hat hlt1
  have hA := HM.out _ w2 g1 cap1 (OneMore.alloc _ _).drew hgrow hown1 (hat.imp id fun e => e.trans (by simp))
  have hS2 := grown_block (OneMore.alloc _ _).drew hgrow HSB.out HNE.out
  have q5 : w2.cell? ⟨S, 5, none⟩ = some (.slice pa rs.length pc) := (cell_of_heap hS2).trans rfl
  have y5 : w2.frozen? ⟨S, 5, none⟩ = false := free_of_heap hS2
  have HA : Hid (_ ∧ _ ∧ _) := hA
  clear hA hS2 hown1 hgrow hat hlt1 HM HSB HOW HNE hn5 hnl
  have HB0 : Hid (B0 ≤ w1.heap.size) := by
    have h1 := HH.out.base S (.inl rfl)
    exact Nat.le_trans h1 (Nat.le_of_lt hSl)
  have HCL : Hid (CodeLies (w2.setCell ⟨S, 5, none⟩ (.slice (some ⟨g1, 0, none⟩) (rs.length + 1) cap1)) B0 a b off cs) := HC.out.keep fun h1 h2 => HA.out.2.1.block b h2 fun ho => by
    have h3 := HH.out.base b ho
    have h4 : B0 ≤ b := h3
    omega
  have HSH : Hid (SimH (codeM cs a b off cap B0) (w2.setCell ⟨S, 5, none⟩ (.slice (some ⟨g1, 0, none⟩) (rs.length + 1) cap1)) S Q rec { h with last := h.last + 1, rs := h.rs ++ [freshP (h.last + 1) dev] } (.slice (some ⟨g1, 0, none⟩) (rs.length + 1) cap1) qv (rs ++ [newRs w1 (h.last + 1) dev])) := by
    refine ⟨HA.out.1, fun k hk => ?_, relL_append (relL_imp (fun x r hl => (codeM_ok hs a b off cap B0).keep w1 _ x r hl (HH.out.at'.still HH.out.base HA.out.2.1)) HH.out.rel) ⟨⟨rfl, ⟨fun z hz => ?_, ?_⟩, rfl, rfl, HCL.out⟩, trivial⟩⟩
    · rcases HA.out.2.2 k hk with h1 | h1
      · exact HH.out.base k h1
      · exact Nat.le_trans HB0.out h1
    · obtain rfl := (List.mem_replicate.mp hz).2
      omega
    · unfold PcsOk freshP
      simp only
      omega
  go_wp2_with fail
  refine (sim_wrote (codeM_ok hs a b off cap B0) S Q rec _ _ qv _ 84 dev 0 _ HSH.out hr).mono ?_
  rintro e w4 ⟨rfl, hS4, hf4⟩
  have HF4 : Hid (Fr (fun k => k = S) (w2.setCell ⟨S, 5, none⟩ (.slice (some ⟨g1, 0, none⟩) (rs.length + 1) cap1)) w4) := hf4
  have HS4 : Hid (SimH (codeM cs a b off cap B0) w4 S Q (rec ++ recS 84 dev 0) _ (.slice (some ⟨g1, 0, none⟩) (rs.length + 1) cap1) qv (rs ++ [newRs w1 (h.last + 1) dev])) := hS4
  have s0 : w4.cell? ⟨S, 0, none⟩ = some (.bool false) := (cell_of_heap hS4.at'.sB).trans rfl
  clear hf4 hS4 q5 y5
  have hx : newRs w1 (h.last + 1) dev ∈ rs ++ [newRs w1 (h.last + 1) dev] := List.mem_append_right _ (List.mem_singleton.mpr rfl)
  have hcl4 : CodeLies w4 B0 a b off cs := HCL.out.keep fun h1 h2 => HF4.out.block b h2 fun e => by
    have h3 : B0 ≤ S := HS4.out.base S (.inl rfl)
    omega
  have hbT : b < B0 → ¬ StepT S Q (w1.heap.size + 1) w1.heap.size (qv dev.toNat) b := fun h1 h2 => by
    have h3 : B0 ≤ b := HS4.out.base b (by
      rcases h2 with e | e | e | e | e
      · exact .inr (.inr (.inr (.inr ⟨_, hx, .inl e⟩)))
      · exact .inr (.inl e)
      · exact .inr (.inr (.inr (.inr ⟨_, hx, .inr e⟩)))
      · exact .inl e
      · exact .inr (.inr (.inl ⟨dev.toNat, hd3, e⟩)))
    omega
  have hg0 : RegsOk (freshP (h.last + 1) dev) := fun z hz => by
    obtain rfl := (List.mem_replicate.mp hz).2
    omega
  have hp0 : PcsOk cs.length (freshP (h.last + 1) dev) := by
    unfold PcsOk freshP
    simp only
    omega
  have hok := runP_ok (now := h.now) (sound_all hs) 10000 0 (h.qs dev.toNat) (freshP (h.last + 1) dev) (Int.le_refl 0) hg0 hp0 (HI.out.qlen _)
  have hrun := s_run S Q (w1.heap.size + 1) w1.heap.size b off cap a (.slice (some ⟨g1, 0, none⟩) (rs.length + 1) cap1) (rec ++ recS 84 dev 0) h.now (h.last + 1) qv h.qs (freshP (h.last + 1) dev) dev.toNat 0 (idsOf (rs ++ [newRs w1 (h.last + 1) dev])) cs w4 (HS4.out.at'.core hx) (fun hp => ⟨(hcl4 hp).1, (hcl4 hp).2.2.1, (hcl4 hp).2.2.2, hbT (hcl4 hp).2.1⟩) hs (Nat.zero_le _) ⟨hd3, HD2.out, HI.out.qlen _, Int.le_refl 0, (by show (0 : Int) ≤ 1000000000000000000; omega), HI.out.now0, HI.out.now1, hg0⟩ (by show (0 : Int) ≤ 999999999999990000; omega) HS4.out.at'.procs (by unfold idsOf; rw [List.length_map, List.length_append, List.length_singleton]; omega)
  have e0 : ((0 : Nat) : Int) = 0 := rfl
  rw [e0] at hrun
  have HRUN : Hid (Calls _ _ _ _ _) := hrun
  have HOK : Hid (RunOk _ _ _ _ _) := hok
  have HEND : Hid (∀ w5, StepOut S Q (w1.heap.size + 1) w1.heap.size (cmd (.slice a cs.length cap)) (.slice (some ⟨g1, 0, none⟩) (rs.length + 1) cap1) (rec ++ recS 84 dev 0) h.now (h.last + 1) qv h.qs dev.toNat (idsOf (rs ++ [newRs w1 (h.last + 1) dev])) w4 (runP h.now cs 10000 0 (h.qs dev.toNat) (freshP (h.last + 1) dev)).1 (runP h.now cs 10000 0 (h.qs dev.toNat) (freshP (h.last + 1) dev)).2.1 (runP h.now cs 10000 0 (h.qs dev.toNat) (freshP (h.last + 1) dev)).2.2 w5 →
      w5.cell? ⟨w1.heap.size + 1, 0, none⟩ = some (.int .i64 (h.last + 1)) ∧ SimOut (codeM cs a b off cap B0) w1 S Q (.slice pa rs.length pc) qv rs (rec ++ recS 84 dev 0) { h with last := h.last + 1, qs := updQ h.qs dev.toNat (runP h.now cs 10000 0 (h.qs dev.toNat) (freshP (h.last + 1) dev)).1, rs := afterR (codeE cs) (h.rs ++ [freshP (h.last + 1) dev]) (runP h.now cs 10000 0 (h.qs dev.toNat) (freshP (h.last + 1) dev)).2.1 (runP h.now cs 10000 0 (h.qs dev.toNat) (freshP (h.last + 1) dev)).2.2 } w5) := fun w5 ho => by
    have hF : Fr (StepT S Q (w1.heap.size + 1) w1.heap.size (qv dev.toNat)) w4 w5 := by
      obtain ⟨_, _, _, _, _, _, hF⟩ := ho
      exact hF
    have hcell : w5.cell? ⟨w1.heap.size + 1, 0, none⟩ = some (.int .i64 (h.last + 1)) := by
      obtain ⟨_, _, hC, _⟩ := ho
      have h1 : w5.cell? ⟨w1.heap.size + 1, 0, none⟩ = some (.int .i64 (runP h.now cs 10000 0 (h.qs dev.toNat) (freshP (h.last + 1) dev)).2.1.id) := (cell_of_heap hC.pB).trans rfl
      rw [runP_id] at h1
      exact h1
    obtain ⟨v, pv', hro⟩ := RunOut.of_step (x := newRs w1 (h.last + 1) dev) (s := (codeM cs a b off cap B0).s) ho (runP_id _ _ _ _ _ _)
    obtain ⟨k1, k2, k3⟩ := HS4.out.after (codeM_ok hs a b off cap B0) (r' := (runP h.now cs 10000 0 (h.qs dev.toNat) (freshP (h.last + 1) dev)).2.1) hx hd3 hro (runP_id _ _ _ _ _ _) fun _ => ⟨rfl, ⟨HOK.out.regs, HOK.out.pcs⟩, rfl, rfl, hcl4.keep fun h1 h2 => hF.block b h2 (hbT h1)⟩
    have hsz : w1.heap.size ≤ w4.heap.size := Nat.le_trans HA.out.2.1.size HF4.out.size
    have f14 : Fr (ownS S Q (.slice pa rs.length pc) qv rs) w1 w4 := HA.out.2.1.trans (HF4.out.mono fun k _ hk => .inl hk)
    refine ⟨hcell, ⟨_, _, _, k1, fun k hk => ?_⟩, ((f14.mono (T := fun j => ownS S Q (.slice pa rs.length pc) qv rs j ∨ w1.heap.size ≤ j) fun _ _ hs => Or.inl hs).trans (k2.mono fun k _ hk => HA.out.2.2 k hk)).mono fun j hj hs => hs.elim id fun h => by omega⟩
    rcases k3 k hk with h1 | h1
    · exact HA.out.2.2 k h1
    · exact .inr (Nat.le_trans hsz h1)
  clear hrun hok hcl4 hbT hg0 hp0 hx e0
  go_wp2_with fail
  refine HRUN.out.mono ?_
  rintro e w5 ⟨rfl, ho⟩
  obtain ⟨p0, hend⟩ := HEND.out w5 ho
  have HEN : Hid (SimOut _ _ _ _ _ _ _ _ _ _) := hend
  clear ho hend
  go_wp2_with fail
  go_ret2
  exact ⟨rfl, HEN.out⟩
end Go.Proofs.Ytmmmnghiegajmaa
