import Derived.Test.YtmmmnghiegajmabM01
import Derived.Test.YtmmmnghiegajmabM04
import Derived.Test.YtmmmnghiegajmabM05
import Derived.Test.YtmmmnghiegajmabM06
import Derived.Test.YtmmmnghiegajmabM07
import Derived.Test.YtmmmnghiegajmabM08
import Derived.Test.YtmmmnghiegajmabM09
import Derived.Test.YtmmmnghiegajmabM10
import Derived.Test.YtmmmnghiegajmabM11
import Derived.Test.YtmmmnghiegajmabM14
import Derived.Test.YtmmmnghiegajmabM16
import Derived.Test.YtmmmnghiegajmabM20
import Derived.Test.YtmmmnghiegajmabM21
import Derived.Test.YtmmmnghiegajmabM22
import Derived.Test.YtmmmnghiegajmabM24
import Derived.Test.YtmmmnghiegajmabM26
import Derived.Test.YtmmmnghiegajmabM27
import Derived.Test.YtmmmnghiegajmabM28
import Derived.Test.YtmmmnghiegajmabM29
import Derived.Test.YtmmmnghiegajmabM30
import Derived.Test.YtmmmnghiegajmabM31
import Derived.Test.YtmmmnghiegajmabM32
import Derived.Test.YtmmmnghiegajmabM33
import Derived.Test.YtmmmnghiegajmabM34
import Derived.Test.YtmmmnghiegajmabM37
import Derived.Test.YtmmmnghiegajmabM38
import Derived.Test.YtmmmnghiegajmabM40
import Derived.Test.YtmmmnghiegajmabM41
import Derived.Test.YtmmmnghiegajmabM42
import Derived.Test.YtmmmnghiegajmabA01
import Derived.Test.YtmmmnghiegajmabA02
import Derived.Test.YtmmmnghiegajmabA03
namespace Go.Proofs.Ytmmmnghiegajmab
open Go.RowKit Go.Proofs.Herald
theorem Game.cell {B : Nat} {cs cs' : List Ins} {i m : Nat} {h h' : Her Pr} {w0 w : World} {G H : Nat} {cv : Value} {s : HS} (g : Game B cs i h w0 G H cv s) (t : GTo cs' m h' w0 H s w) : w.heap[G]? = some (.cells #[.pointer (some ⟨H, 0, none⟩), cv] 38 (0, 0)) := by
  obtain ⟨_, _, _, _, _, hf⟩ := t
  exact (hf.block G (heap_lt g.g) fun ho => (g.own G ho).2 rfl).trans g.g
theorem Game.back {B : Nat} {cs cs' : List Ins} {i m : Nat} {h h' : Her Pr} {w0 w : World} {G H : Nat} {cv : Value} {s : HS} (g : Game B cs i h w0 G H cv s) (t : GTo cs' m h' w0 H s w) : Below B w0 w := by
  obtain ⟨_, _, _, _, _, hf⟩ := t
  have h1 := g.B
  have h2 := heap_lt g.g
  exact ⟨hf.os, hf.tape, hf.output, hf.size, fun k hk => hf.block k (by omega) fun ho => by have := (g.own k ho).1; omega⟩
theorem GTo.same {cs : List Ins} {m : Nat} {h : Her Pr} {w0 : World} {H : Nat} {s0 : HS} {w : World} (g : GTo cs m h w0 H s0 w) {k : Nat} (hk : k < w0.heap.size) (ho : ¬ s0.own H k) : w.heap[k]? = w0.heap[k]? := by
  obtain ⟨_, _, _, _, _, hf⟩ := g
  exact hf.block k hk ho
open Go.RowKit Go.Proofs.Herald
theorem KS.of {B : Nat} {cs : List Ins} {i : Nat} {h : Her Pr} {w0 w : World} {G H : Nat} {cv : Value} {s : HS} (g : Game B cs i h w G H cv s) (hb : Below B w0 w) : KS B cs i h w0 H (fun k => k = G) w :=
  ⟨i, s, Nat.le_refl _, g.ga, fun k hk => g.own k hk, fun k hk => by rw [hk]; exact heap_lt g.g, hb, by have := heap_lt g.g; have := g.B; omega⟩
/-- The three cells of a state are written. -/
theorem state_set {w : World} {X : Nat} {x0 x1 x2 a b c : Value} {e : TypeId} (h : w.heap[X]? = some (.cells #[x0, x1, x2] e (0, 0))) : (((w.setCell ⟨X, 0, none⟩ a).setCell ⟨X, 1, none⟩ b).setCell ⟨X, 2, none⟩ c).heap[X]? = some (.cells #[a, b, c] e (0, 0)) := by
  rw [heap_setCell_self c (heap_setCell_self b (heap_setCell_self a h))]
  rfl
open Go.RowKit Go.Proofs.Herald
theorem KS.now {B : Nat} {cs : List Ins} {m : Nat} {h : Her Pr} {w0 w : World} {H : Nat} {F : Nat → Prop} (g : KS B cs m h w0 H F w) : 0 ≤ h.now ∧ h.now ≤ 1000000000 := by
  obtain ⟨i, s, h1, h2, _⟩ := g
  exact ⟨h2.ok.now0, h2.ok.now1⟩
open Go.ChangeShapes Go.WideShapes Go.ChangeAt Go.RowKit Go.Proofs.Herald
set_option maxRecDepth 100000 in
/-- A script that came in: its numbers are a machine's. -/
theorem open_opsR {H : Type} {enc : TypeId × Value → H} {W : World} {sp : Nat → Bool} {held : Bool} {r : Reach} {b0 : Nat} {v : Value} {d : DataW H} {ps : List MemPlace} (hval : Value.okWide Try.prog W r b0 23 v) (hd : DataW.Trod enc Try.prog W 0 sp held 23 v d ps) :
    ∃ a cap b off cs, v = .slice a (List.length cs) cap ∧ OpsIn W a b off cs ∧ (∀ x ∈ cs, -9223372036854775808 ≤ x.a ∧ x.a ≤ 9223372036854775807) ∧ List.length cs ≤ Rows.uptoBulk d := by
  obtain ⟨a0, len, cap, rfl⟩ := okWide_slice Try.underlying23 hval
  obtain ⟨fuel, hf⟩ := hd
  rcases DataW.trod_slice Try.underlying23 hf with ⟨h, hx⟩ | ⟨ad, len', cap', elems, rest, m, _, h, hx, _, hle, _, hlen, hel, _, _⟩
  · simp [Value.cells] at h
    obtain ⟨rfl, rfl, rfl⟩ := h
    exact ⟨none, 0, 0, 0, [], rfl, fun h => absurd h (by simp), fun x hx => (by cases hx), Nat.zero_le _⟩
  · simp [Value.cells] at h
    obtain ⟨rfl, rfl, rfl⟩ := h
    simp only [Prod.mk.injEq] at hx
    obtain ⟨rfl, _⟩ := hx
    rw [Try.cellsOpK] at hel
    have each : ∀ i, i < len → ∃ x : OpK, (W.cell? ((ad.add (i * 3)).add 0) = some (.int .i64 x.k) ∧ W.cell? ((ad.add (i * 3)).add 1) = some (.int .i64 x.a) ∧ W.cell? ((ad.add (i * 3)).add 2) = some (.int .i64 x.b)) ∧ -9223372036854775808 ≤ x.a ∧ x.a ≤ 9223372036854775807 := by
      intro i hi
      obtain ⟨y, hy⟩ : ∃ y, elems[i]? = some y := ⟨elems[i], List.getElem?_eq_getElem (by omega)⟩
      have h1 := hel i hi
      rw [hy, Option.bind_eq_some_iff] at h1
      obtain ⟨cs3, hc3, ht⟩ := h1
      obtain ⟨_, hl3, hcell⟩ := World.cells?_some hc3
      obtain ⟨xs, k, _, _, _, hxs, hfield⟩ := DataW.trod_struct Try.underlying40 ht
      have fld : ∀ (j : Nat) (f : Field), j < 3 → (#[{ name := "Kind", type := 3, offset := 0, embedded := false, tag := "", pkgPath := "", byteOffset := 0 }, { name := "A", type := 3, offset := 1, embedded := false, tag := "", pkgPath := "", byteOffset := 8 }, { name := "B", type := 3, offset := 2, embedded := false, tag := "", pkgPath := "", byteOffset := 16 }] : Array Field)[j]? = some f → f.type = 3 → f.offset = j → ∃ z : Int, cs3[j]? = some (.int .i64 z) ∧ (-9223372036854775808 ≤ z ∧ z ≤ 9223372036854775807) := by
        intro j f hj hf1 hf2 hf3
        have h2 := hfield j f hf1
        have hxj : xs[j]? = some (xs[j]'(by rw [hxs]; exact Nat.lt_of_lt_of_le hj (by decide))) := List.getElem?_eq_getElem _
        rw [hxj, hf2, hf3, Try.cellsIntK] at h2
        exact one_intK h2
      obtain ⟨z0, e0, _⟩ := fld 0 _ (by omega) rfl rfl rfl
      obtain ⟨z1, e1, q1⟩ := fld 1 _ (by omega) rfl rfl rfl
      obtain ⟨z2, e2, _⟩ := fld 2 _ (by omega) rfl rfl rfl
      exact ⟨⟨z0, z1, z2⟩, ⟨(hcell 0 (by omega)).trans e0, (hcell 1 (by omega)).trans e1, (hcell 2 (by omega)).trans e2⟩, q1⟩
    by_cases hpos : 0 < len
    · obtain ⟨x0, hx0⟩ := each 0 hpos
      obtain ⟨b, off, spot⟩ := ad
      have hspot : spot = none := by simpa [Addr.add] using World.cell?_spot hx0.1.1
      subst hspot
      have hblk : b < W.heap.size := by
        obtain ⟨b', o', e, h'⟩ := block_in hx0.1.1
        rw [Addr.add_lit, Addr.add_lit] at e
        cases e
        exact h'
      have each' : ∀ i, i < len → ∃ x : OpK, (W.cell? ⟨b, off + i * 3, none⟩ = some (.int .i64 x.k) ∧ W.cell? ⟨b, off + i * 3 + 1, none⟩ = some (.int .i64 x.a) ∧ W.cell? ⟨b, off + i * 3 + 2, none⟩ = some (.int .i64 x.b)) ∧ -9223372036854775808 ≤ x.a ∧ x.a ≤ 9223372036854775807 := fun i hi => by
        obtain ⟨x, h1⟩ := each i hi
        rw [Addr.add_lit, Addr.add_lit, Addr.add_lit, Addr.add_lit] at h1
        exact ⟨x, h1⟩
      refine ⟨_, cap, b, off, List.ofFn (fun i : Fin len => Classical.choose (each' i.1 i.2)), by rw [List.length_ofFn], fun _ => ⟨rfl, hblk, fun i hi => ?_⟩, fun x hx => ?_, by rw [List.length_ofFn]; exact Nat.le_trans (by rw [List.length_map]; omega) (kbulk_slice _ _)⟩
      · rw [List.length_ofFn] at hi
        rw [List.getElem_ofFn]
        exact (Classical.choose_spec (each' i hi)).1
      · obtain ⟨i, rfl⟩ := List.mem_ofFn.mp hx
        exact (Classical.choose_spec (each' i.1 i.2)).2
    · obtain rfl : len = 0 := by omega
      exact ⟨_, cap, 0, 0, [], rfl, fun h => absurd h (by simp), fun x hx => (by cases hx), Nat.zero_le _⟩
end Go.Proofs.Ytmmmnghiegajmab
namespace Go.Proofs.Herald
theorem runM_dev (now : Int) (cs : List Ins) : ∀ (f : Nat) (q : List Msg) (p : Pr), (runM now cs f q p).2.1.dev = p.dev := by
  intro f
  induction f with
  | zero => intro q p; rfl
  | succ f ih =>
    intro q p
    rw [runM]
    split
    · split
      · exact (ih _ _).trans (stepM_dev _ _ _ _)
      · exact stepM_dev _ _ _ _
    · rfl
theorem onM_dev (now : Int) (cs : List Ins) (yes : Bool) (q : List Msg) (p : Pr) : (onM now cs yes q p).2.1.dev = p.dev := by
  unfold onM
  split
  · exact runM_dev _ _ _ _ _
  · split
    · exact runM_dev _ _ _ _ _
    · exact runM_dev _ _ _ _ _
/-- A herald with a run on device 1, and one without: on device 0 they are alike. -/
structure AR (g f : Her Pr) : Prop where
  q : g.qs 0 = f.qs 0
  rs : f.rs = g.rs.filter (fun p => p.id == 1)
  id : ∀ p ∈ g.rs, (p.id = 1 ∧ p.dev = 0) ∨ (p.id = 2 ∧ p.dev = 1)
theorem AR.mem {g f : Her Pr} (h : AR g f) {p : Pr} (hp : p ∈ f.rs) : p ∈ g.rs ∧ p.id = 1 ∧ p.dev = 0 := by
  rw [h.rs] at hp
  obtain ⟨h1, h2⟩ := List.mem_filter.mp hp
  have h3 : p.id = 1 := by simpa using h2
  rcases h.id p h1 with h4 | h4
  · exact ⟨h1, h4⟩
  · omega
theorem after_one {cs : List Ins} (l : List Pr) (r : Pr) (done : Bool) : (afterR (machE cs) l r done).filter (fun p => p.id == 1) = afterR (machE cs) (l.filter (fun p => p.id == 1)) r done := by
  have pid : ∀ y : Pr, ((machE cs).pub y).id = y.id := fun _ => rfl
  unfold afterR
  cases done with
  | true =>
    simp only [if_true]
    rw [List.filter_filter, List.filter_filter]
    congr 1
    funext y
    rw [Bool.and_comm]
  | false =>
    simp only [Bool.false_eq_true, if_false, pid]
    rw [List.filter_map]
    congr 1
    refine List.filter_congr fun y _ => ?_
    simp only [Function.comp]
    split
    · rename_i h; rw [h]
    · rfl
theorem after_two {cs : List Ins} (l : List Pr) (r : Pr) (done : Bool) (hr : r.id ≠ 1) : (afterR (machE cs) l r done).filter (fun p => p.id == 1) = l.filter (fun p => p.id == 1) := by
  have pid : ∀ y : Pr, ((machE cs).pub y).id = y.id := fun _ => rfl
  unfold afterR
  induction l with
  | nil => cases done <;> rfl
  | cons x l ih =>
    cases done with
    | true =>
      simp only [if_true, List.filter_cons, pid] at ih ⊢
      by_cases hx : x.id = r.id
      · have h1 : (x.id == 1) = false := by rw [hx]; simpa using hr
        simp only [hx, bne_self_eq_false, Bool.false_eq_true, if_false]
        rw [← hx, h1]
        simp only [Bool.false_eq_true, if_false]
        rw [hx]
        exact ih
      · have h2 : (x.id != r.id) = true := by simpa using hx
        simp only [h2, if_true, List.filter_cons]
        rw [ih]
    | false =>
      simp only [Bool.false_eq_true, if_false, List.map_cons, List.filter_cons, pid] at ih ⊢
      by_cases hx : x.id = r.id
      · have h1 : (x.id == 1) = false := by rw [hx]; simpa using hr
        have h2 : (r.id == 1) = false := by simpa using hr
        simp only [hx, if_true, h2, Bool.false_eq_true, if_false]
        exact ih
      · simp only [if_neg hx]
        rw [ih]
theorem AR.go1 {cs : List Ins} {g f : Her Pr} (h : AR g f) (hn : g.now = f.now) {r : Pr} (hr : r.id = 1) (hd : r.dev = 0) (yes : Bool) : AR (goH (machE cs) g r yes) (goH (machE cs) f r yes) := by
  have e0 : ((machE cs).pub r).dev.toNat = 0 := by show r.dev.toNat = 0; rw [hd]; rfl
  have eo : ∀ (w : Her Pr), (machE cs).on w.now yes (w.qs 0) r = onM w.now cs yes (w.qs 0) r := fun _ => rfl
  refine ⟨?_, ?_, fun p hp => ?_⟩
  · show updQ g.qs _ _ 0 = updQ f.qs _ _ 0
    rw [e0]
    unfold updQ
    rw [if_pos rfl, if_pos rfl, h.q, hn]
  · show afterR (machE cs) f.rs _ _ = (afterR (machE cs) g.rs _ _).filter _
    rw [e0, eo, eo, h.q, hn, after_one, h.rs]
  · rcases mem_after hp with ⟨_, rfl⟩ | ⟨hp, _⟩
    · exact .inl ⟨(onM_id _ _ _ _ _).trans hr, (onM_dev _ _ _ _ _).trans hd⟩
    · exact h.id p hp
theorem AR.go2 {cs : List Ins} {g f : Her Pr} (h : AR g f) {r : Pr} (hr : r.id = 2) (hd : r.dev = 1) (yes : Bool) : AR (goH (machE cs) g r yes) f := by
  have e0 : ((machE cs).pub r).dev.toNat = 1 := by show r.dev.toNat = 1; rw [hd]; rfl
  refine ⟨?_, ?_, fun p hp => ?_⟩
  · show updQ g.qs _ _ 0 = f.qs 0
    rw [e0]
    unfold updQ
    rw [if_neg (by decide), h.q]
  · show f.rs = (afterR (machE cs) g.rs _ _).filter _
    rw [after_two _ _ _ (by show (onM _ _ _ _ _).2.1.id ≠ 1; rw [onM_id, hr]; decide), h.rs]
  · rcases mem_after hp with ⟨_, rfl⟩ | ⟨hp, _⟩
    · exact .inr ⟨(onM_id _ _ _ _ _).trans hr, (onM_dev _ _ _ _ _).trans hd⟩
    · exact h.id p hp
theorem AR.now {g f : Her Pr} (h : AR g f) (a b : Int) : AR { g with now := a } { f with now := b } := ⟨h.q, h.rs, h.id⟩
theorem due_none {RT : Type} {E : Eng RT} {en : Int} : ∀ {l : List RT}, (∀ y ∈ l, en < (E.pub y).til) → dueR E en l = none := by
  intro l
  unfold dueR
  induction l with
  | nil => intro _; rfl
  | cons x l ih =>
    intro h
    have hx : ¬ (E.pub x).til ≤ en := by have := h x (List.mem_cons_self ..); omega
    rw [List.foldl_cons]
    have e : dueF E en none x = none := by unfold dueF; rw [if_neg hx]
    rw [e]
    exact ih fun y hy => h y (List.mem_cons_of_mem _ hy)
theorem tickN_none {RT : Type} {E : Eng RT} {en : Int} {h : Her RT} (hd : dueR E en h.rs = none) : ∀ f, tickN E en f h = h := by
  intro f
  cases f with
  | zero => rfl
  | succ f => unfold tickN; rw [hd]
theorem filter_one {g : Her Pr} {cs : List Ins} (hnd : g.rs.Pairwise fun a b => ((machE cs).pub a).id ≠ ((machE cs).pub b).id) {r : Pr} (hr : r ∈ g.rs) (h1 : r.id = 1) : g.rs.filter (fun p => p.id == 1) = [r] := by
  generalize g.rs = l at *
  induction l with
  | nil => cases hr
  | cons x l ih =>
    rw [List.pairwise_cons] at hnd
    rcases List.mem_cons.mp hr with rfl | hr
    · rw [List.filter_cons_of_pos (by simpa using h1)]
      congr 1
      refine List.filter_eq_nil_iff.mpr fun y hy => ?_
      have : r.id ≠ y.id := hnd.1 y hy
      rw [h1] at this
      simpa using fun hh => this hh.symm
    · have hx : x.id ≠ r.id := hnd.1 r hr
      rw [List.filter_cons_of_neg (by rw [h1] at hx; simpa using hx)]
      exact ih hnd.2 hr
theorem ms_pos {RT : Type} {E : Eng RT} {en : Int} {l : List RT} {r : RT} (hr : r ∈ l) (ht : (E.pub r).til ≤ en) : 1 ≤ msR E en l := by
  induction l with
  | nil => cases hr
  | cons x l ih =>
    simp only [msR, List.map_cons, List.sum_cons] at ih ⊢
    rcases List.mem_cons.mp hr with rfl | hr
    · omega
    · have := ih hr
      omega
theorem AR.tickN {cs : List Ins} {G : Pr → Prop} (hE : EngOk (machE cs) G) (en : Int) (hen : en ≤ 1000000000) : ∀ (a : Nat) (b : Nat) {C D : Int} {g f : Her Pr}, AR g f → HOk (machE cs) G C g → HOk (machE cs) G D f → msR (machE cs) en g.rs ≤ a → msR (machE cs) en f.rs ≤ b → AR (Herald.tickN (machE cs) en a g) (Herald.tickN (machE cs) en b f) := by
  intro a
  induction a with
  | zero =>
    intro b C D g f h _ _ ha _
    have hd : ∀ y ∈ g.rs, en < ((machE cs).pub y).til := fun y hy => by
      by_cases ht : ((machE cs).pub y).til ≤ en
      · have := ms_pos hy ht
        omega
      · omega
    rw [tickN_none (due_none hd), tickN_none (due_none fun y hy => hd y (h.mem hy).1)]
    exact h
  | succ a ih =>
    intro b C D g f h hg hf ha hb
    cases hd : dueR (machE cs) en g.rs with
    | none =>
      have hd2 := dueR_none hd
      rw [tickN_none hd, tickN_none (due_none fun y hy => hd2 y (h.mem hy).1)]
      exact h
    | some r =>
      obtain ⟨hr, h1, h2⟩ := dueR_some hd
      have ht := hg.til r hr
      have h0 := hg.now0
      have hgo := hg.go hE hr false ((machE cs).pub r).til (by omega) (by omega) h2 (fun hh => by cases hh)
      have ho := hE.on ((machE cs).pub r).til false (g.qs ((machE cs).pub r).dev.toNat) r (hg.good r hr) (hg.qlen _) (fun hh => by cases hh)
      have hms := msR_after (E := machE cs) (en := en) (r := r) (r' := ((machE cs).on ((machE cs).pub r).til false (g.qs ((machE cs).pub r).dev.toNat) r).2.1) (done := ((machE cs).on ((machE cs).pub r).til false (g.qs ((machE cs).pub r).dev.toNat) r).2.2) ho.id h1 (fun hh => (ho.stop hh).2.1) g.rs hr hg.nd
      have eg : Herald.tickN (machE cs) en (a + 1) g = Herald.tickN (machE cs) en a (goH (machE cs) { g with now := ((machE cs).pub r).til } r false) := by
        conv => lhs; unfold Herald.tickN
        rw [hd]
      rw [eg]
      rcases h.id r hr with ⟨i1, d1⟩ | ⟨i2, d2⟩
      · have er : f.rs = [r] := by rw [h.rs]; exact filter_one hg.nd hr i1
        have hrf : r ∈ f.rs := by rw [er]; exact List.mem_singleton.mpr rfl
        have hdf : dueR (machE cs) en f.rs = some r := by
          rw [er]
          show dueF (machE cs) en none r = some r
          unfold dueF
          rw [if_pos h1]
        have hbp := ms_pos hrf h1
        obtain ⟨b', rfl⟩ : ∃ b', b = b' + 1 := ⟨b - 1, by omega⟩
        have ef : Herald.tickN (machE cs) en (b' + 1) f = Herald.tickN (machE cs) en b' (goH (machE cs) { f with now := ((machE cs).pub r).til } r false) := by
          conv => lhs; unfold Herald.tickN
          rw [hdf]
        rw [ef]
        have hfo := hf.go hE hrf false ((machE cs).pub r).til (by omega) (by omega) (fun y hy => by rw [er, List.mem_singleton] at hy; rw [hy]; exact Int.le_refl _) (fun hh => by cases hh)
        have ho2 := hE.on ((machE cs).pub r).til false (f.qs ((machE cs).pub r).dev.toNat) r (hf.good r hrf) (hf.qlen _) (fun hh => by cases hh)
        have hms2 := msR_after (E := machE cs) (en := en) (r := r) (r' := ((machE cs).on ((machE cs).pub r).til false (f.qs ((machE cs).pub r).dev.toNat) r).2.1) (done := ((machE cs).on ((machE cs).pub r).til false (f.qs ((machE cs).pub r).dev.toNat) r).2.2) ho2.id h1 (fun hh => (ho2.stop hh).2.1) f.rs hrf hf.nd
        refine ih b' ((h.now _ _).go1 rfl i1 d1 false) hgo hfo ?_ ?_
        · have : msR (machE cs) en (goH (machE cs) { g with now := ((machE cs).pub r).til } r false).rs < msR (machE cs) en g.rs := hms
          omega
        · have : msR (machE cs) en (goH (machE cs) { f with now := ((machE cs).pub r).til } r false).rs < msR (machE cs) en f.rs := hms2
          omega
      · refine ih b (AR.go2 (AR.now h ((machE cs).pub r).til f.now) i2 d2 false) hgo hf ?_ hb
        have : msR (machE cs) en (goH (machE cs) { g with now := ((machE cs).pub r).til } r false).rs < msR (machE cs) en g.rs := hms
        omega
theorem AR.tick {cs : List Ins} {G : Pr → Prop} (hE : EngOk (machE cs) G) {C D : Int} {g f : Her Pr} (h : AR g f) (hn : g.now = f.now) (hg : HOk (machE cs) G C g) (hf : HOk (machE cs) G D f) (n : Int) :
    (tickH (machE cs) g n).1 = (tickH (machE cs) f n).1 ∧ AR (tickH (machE cs) g n).2 (tickH (machE cs) f n).2 ∧ (tickH (machE cs) g n).2.now = (tickH (machE cs) f n).2.now := by
  unfold tickH
  rw [hn]
  split
  · exact ⟨rfl, h, hn⟩
  · rename_i hh
    have small : ∀ {C : Int} {k : Her Pr}, HOk (machE cs) G C k → k.now = f.now → msR (machE cs) (f.now + n) k.rs ≤ 5000 := fun {C k} hk e => by
      have h1 := msR_small (E := machE cs) (en := f.now + n) (t := k.now) 1000 (by omega) k.rs (fun r hr => (hk.til r hr).1)
      have h2 := hk.len
      have : k.rs.length * 1000 ≤ 5 * 1000 := Nat.mul_le_mul_right _ h2
      omega
    exact ⟨rfl, (AR.tickN hE (f.now + n) (by omega) 5000 5000 h hg hf (small hg hn) (small hf rfl)).now _ _, rfl⟩
theorem AR.find {cs : List Ins} {g f : Her Pr} (h : AR g f) : findR (machE cs) f.rs 1 = findR (machE cs) g.rs 1 := by
  unfold findR
  rw [h.rs, List.find?_filter]
  congr 1
  funext y
  have e : ((machE cs).pub y).id = y.id := rfl
  rw [e]
  by_cases hy : y.id = 1
  · simp [hy]
  · simp [hy]
theorem find_id {cs : List Ins} {l : List Pr} {id : Int} {r : Pr} (h : findR (machE cs) l id = some r) : r ∈ l ∧ r.id = id :=
  ⟨List.mem_of_find?_eq_some h, by have h2 : (r.id == id) = true := List.find?_some (p := fun x : Pr => x.id == id) h; simpa using h2⟩
theorem AR.ack {cs : List Ins} {g f : Her Pr} (h : AR g f) (hn : g.now = f.now) (num : Int) :
    (ackH (machE cs) g 1 num).1 = (ackH (machE cs) f 1 num).1 ∧ AR (ackH (machE cs) g 1 num).2 (ackH (machE cs) f 1 num).2 ∧ (ackH (machE cs) g 1 num).2.now = (ackH (machE cs) f 1 num).2.now := by
  unfold ackH
  rw [h.find]
  cases hf : findR (machE cs) g.rs 1 with
  | none => exact ⟨rfl, h, hn⟩
  | some r =>
    obtain ⟨hr, h1⟩ := find_id hf
    have hd : r.dev = 0 := by rcases h.id r hr with h2 | h2 <;> omega
    have e0 : ((machE cs).pub r).dev.toNat = 0 := by show r.dev.toNat = 0; rw [hd]; rfl
    simp only
    rw [e0, h.q]
    split
    · exact ⟨rfl, h, hn⟩
    · split
      · exact ⟨rfl, h, hn⟩
      · exact ⟨rfl, h.go1 hn h1 hd true, hn⟩
theorem AR.ack2 {cs : List Ins} {g f : Her Pr} (h : AR g f) (num : Int) : AR (ackH (machE cs) g 2 num).2 f ∧ (ackH (machE cs) g 2 num).2.now = g.now := by
  unfold ackH
  cases hf : findR (machE cs) g.rs 2 with
  | none => exact ⟨h, rfl⟩
  | some r =>
    obtain ⟨hr, h1⟩ := find_id hf
    have hd : r.dev = 1 := by rcases h.id r hr with h2 | h2 <;> omega
    simp only
    split
    · exact ⟨h, rfl⟩
    · split
      · exact ⟨h, rfl⟩
      · exact ⟨h.go2 h1 hd true, rfl⟩
theorem AR.cancel {cs : List Ins} {g f : Her Pr} (h : AR g f) (hn : g.now = f.now) :
    (cancelH (machE cs) g 1).1 = (cancelH (machE cs) f 1).1 ∧ AR (cancelH (machE cs) g 1).2 (cancelH (machE cs) f 1).2 ∧ (cancelH (machE cs) g 1).2.now = (cancelH (machE cs) f 1).2.now := by
  unfold cancelH
  rw [h.find]
  cases hf : findR (machE cs) g.rs 1 with
  | none => exact ⟨rfl, h, hn⟩
  | some r =>
    obtain ⟨hr, h1⟩ := find_id hf
    have hd : r.dev = 0 := by rcases h.id r hr with h2 | h2 <;> omega
    have e0 : ((machE cs).pub r).dev.toNat = 0 := by show r.dev.toNat = 0; rw [hd]; rfl
    refine ⟨rfl, ⟨?_, ?_, fun p hp => h.id p (List.mem_filter.mp hp).1⟩, hn⟩
    · show updQ g.qs _ _ 0 = updQ f.qs _ _ 0
      rw [e0]
      unfold updQ
      rw [if_pos rfl, if_pos rfl, h.q]
    · show f.rs.filter _ = (g.rs.filter _).filter _
      rw [h.rs, List.filter_filter, List.filter_filter]
      congr 1
      funext y
      rw [Bool.and_comm]
theorem AR.cancel2 {cs : List Ins} {g f : Her Pr} (h : AR g f) : AR (cancelH (machE cs) g 2).2 f ∧ (cancelH (machE cs) g 2).2.now = g.now := by
  unfold cancelH
  cases hf : findR (machE cs) g.rs 2 with
  | none => exact ⟨h, rfl⟩
  | some r =>
    obtain ⟨hr, h1⟩ := find_id hf
    have hd : r.dev = 1 := by rcases h.id r hr with h2 | h2 <;> omega
    have e0 : ((machE cs).pub r).dev.toNat = 1 := by show r.dev.toNat = 1; rw [hd]; rfl
    refine ⟨⟨?_, ?_, fun p hp => h.id p (List.mem_filter.mp hp).1⟩, rfl⟩
    · show updQ g.qs _ _ 0 = f.qs 0
      rw [e0]
      unfold updQ
      rw [if_neg (by decide), h.q]
    · show f.rs = (g.rs.filter _).filter _
      rw [h.rs, List.filter_filter]
      refine List.filter_congr fun y _ => ?_
      show (y.id == 1) = ((y.id == 1) && (y.id != 2))
      by_cases hy : y.id = 1
      · simp [hy]
      · have : (y.id == 1) = false := by simpa using hy
        rw [this]
        rfl
theorem AR.drain {g f : Her Pr} (h : AR g f) (hn : g.now = f.now) :
    (drainH g 0).1 = (drainH f 0).1 ∧ (drainH g 0).2.1 = (drainH f 0).2.1 ∧ AR (drainH g 0).2.2 (drainH f 0).2.2 ∧ (drainH g 0).2.2.now = (drainH f 0).2.2.now := by
  unfold drainH
  rw [if_neg (by decide), if_neg (by decide)]
  have e : g.qs (0 : Int).toNat = f.qs (0 : Int).toNat := h.q
  rw [e]
  cases hq : f.qs (0 : Int).toNat with
  | nil => exact ⟨rfl, rfl, h, hn⟩
  | cons m r =>
    refine ⟨rfl, rfl, ⟨?_, h.rs, h.id⟩, hn⟩
    show updQ g.qs 0 r 0 = updQ f.qs 0 r 0
    unfold updQ
    rw [if_pos rfl, if_pos rfl]
theorem AR.drain2 {g f : Her Pr} (h : AR g f) : AR (drainH g 1).2.2 f ∧ (drainH g 1).2.2.now = g.now := by
  unfold drainH
  rw [if_neg (by decide)]
  cases hq : g.qs (1 : Int).toNat with
  | nil => exact ⟨h, rfl⟩
  | cons m r =>
    refine ⟨⟨?_, h.rs, h.id⟩, rfl⟩
    show updQ g.qs 1 r 0 = f.qs 0
    unfold updQ
    rw [if_neg (by decide), h.q]
/-- The run on device 1 begins. -/
theorem AR.trig {cs : List Ins} {h : Her Pr} (hl : h.last = 1) (hr : ∀ p ∈ h.rs, p.id = 1 ∧ p.dev = 0) (hn : h.rs.length ≤ 1) : (trigH (machE cs) h 1).1 = 2 ∧ (trigH (machE cs) h 1).2.1 = 0 ∧ AR (trigH (machE cs) h 1).2.2 h ∧ (trigH (machE cs) h 1).2.2.now = h.now := by
  have hid : ∀ (q : List Msg), ((machE cs).start h.now q ((machE cs).fresh (h.last + 1) 1)).2.1.id = 2 := fun q => by
    show (runM _ _ _ _ (freshP (h.last + 1) 1)).2.1.id = 2
    rw [runM_id]
    show h.last + 1 = 2
    omega
  have hdv : ∀ (q : List Msg), ((machE cs).start h.now q ((machE cs).fresh (h.last + 1) 1)).2.1.dev = 1 := fun q => by
    show (runM _ _ _ _ (freshP (h.last + 1) 1)).2.1.dev = 1
    rw [runM_dev]
    rfl
  unfold trigH
  rw [if_neg (by decide), if_neg (by omega)]
  refine ⟨by show h.last + 1 = 2; omega, rfl, ⟨?_, ?_, fun p hp => ?_⟩, rfl⟩
  · simp only [updQ]
    rw [if_neg (by decide)]
  · show h.rs = (afterR (machE cs) (h.rs ++ [freshP (h.last + 1) 1]) _ _).filter _
    rw [after_two _ _ _ (by rw [hid]; decide), List.filter_append]
    have e1 : [freshP (h.last + 1) 1].filter (fun p : Pr => p.id == 1) = [] := by
      have : ((freshP (h.last + 1) 1).id == 1) = false := by
        show (h.last + 1 == 1) = false
        rw [hl]; rfl
      rw [List.filter_cons_of_neg (by rw [this]; simp), List.filter_nil]
    rw [e1, List.append_nil]
    refine (List.filter_eq_self.mpr fun p hp => ?_).symm
    have := (hr p hp).1
    simpa using this
  · rcases mem_after hp with ⟨_, rfl⟩ | ⟨hp, hne⟩
    · exact .inr ⟨hid _, hdv _⟩
    · rcases List.mem_append.mp hp with hp | hp
      · exact .inl (hr p hp)
      · rw [List.mem_singleton.mp hp] at hne
        exfalso
        apply hne
        show h.last + 1 = ((machE cs).start h.now _ _).2.1.id
        rw [hid, hl]
        rfl
end Go.Proofs.Herald
namespace Go.Proofs.Ytmmmnghiegajmab
open Go.RowKit Go.Proofs.Herald
set_option maxRecDepth 20000 in
set_option maxHeartbeats 4000000 in
theorem k_sameQueue (l : List Msg) (a b : Option Addr) (ca cb : Nat) (w : World) (ha : w.ownsRow 0 30 4 (.slice a l.length ca) l.length (msgsCells l)) (hb : w.ownsRow 0 30 4 (.slice b l.length cb) l.length (msgsCells l)) (hl : l.length ≤ 100000) :
    Calls Try.prog 31 #[.slice a l.length ca, .slice b l.length cb] w fun e w' => e = .returned (.bool true) ∧ SameH w w' := by
  have HA : Hid (w.ownsRow 0 30 4 (.slice a l.length ca) l.length (msgsCells l) ∧ w.ownsRow 0 30 4 (.slice b l.length cb) l.length (msgsCells l)) := ⟨ha, hb⟩
  clear ha hb
  go_enter Try.func31, Try.ntmps31
  go_wp2_with fail
  go_loopw [5] (fun i wr => ∃ k : Nat, k ≤ l.length ∧ i = .int .i64 k ∧ Hid (SameH w wr)) (fun i _ => l.length - (intOf i).toNat)
  case atStart => exact ⟨0, Nat.zero_le _, rfl, SameH.refl _⟩
  case round =>
    obtain ⟨k, hk, rfl, HS⟩ := hrel
    by_cases hlt : k < l.length
    · obtain ⟨g, ca', hv, _, _⟩ := HA.out.1.form (by omega)
      simp at hv
      obtain ⟨rfl, rfl⟩ := hv
      obtain ⟨g', cb', hv, _, _⟩ := HA.out.2.form (by omega)
      simp at hv
      obtain ⟨rfl, rfl⟩ := hv
      obtain ⟨e0, e1, e2, e3⟩ := msg_get HA.out.1 hlt
      obtain ⟨f0, f1, f2, f3⟩ := msg_get HA.out.2 hlt
      rw [← HS.out.cell] at e0 e1 e2 e3 f0 f1 f2 f3
      generalize l[k] = m at *
      go_wp2_with fail
      go_region
      all_goals
        go_wp2_with fail
        go_roundw
        case rel => exact ⟨k + 1, by omega, by go_num, HS.out.drew⟩
        case measure => simp [intOf]; omega
    · go_wp2_with fail
      go_ret
      exact ⟨rfl, HS.out⟩
end Go.Proofs.Ytmmmnghiegajmab
