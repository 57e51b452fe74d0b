import Derived.Test.YtmmmnghiegajmaaM01
import Derived.Test.YtmmmnghiegajmaaM04
import Derived.Test.YtmmmnghiegajmaaM05
import Derived.Test.YtmmmnghiegajmaaM06
import Derived.Test.YtmmmnghiegajmaaM07
import Derived.Test.YtmmmnghiegajmaaM08
import Derived.Test.YtmmmnghiegajmaaM09
import Derived.Test.YtmmmnghiegajmaaM10
import Derived.Test.YtmmmnghiegajmaaM11
import Derived.Test.YtmmmnghiegajmaaM12
import Derived.Test.YtmmmnghiegajmaaM15
import Derived.Test.YtmmmnghiegajmaaM19
import Derived.Test.YtmmmnghiegajmaaM21
import Derived.Test.YtmmmnghiegajmaaM23
import Derived.Test.YtmmmnghiegajmaaM24
import Derived.Test.YtmmmnghiegajmaaM25
import Derived.Test.YtmmmnghiegajmaaM26
import Derived.Test.YtmmmnghiegajmaaM27
import Derived.Test.YtmmmnghiegajmaaM28
import Derived.Test.YtmmmnghiegajmaaM29
import Derived.Test.YtmmmnghiegajmaaM32
import Derived.Test.YtmmmnghiegajmaaM33
import Derived.Test.YtmmmnghiegajmaaM34
import Derived.WalkKit
import Derived.Deep.AppendLies
import Derived.Deep.RegionLaw
import Derived.Laws.CopyOwn
import Derived.ArgAppend
import Derived.Deep.DeepCutAuto
import Derived.Deep.RegionWith
import Derived.Deep.MidRow
import Derived.Deep.WholeRow
namespace Go.Proofs.Herald
open Go.RowKit
theorem cells_new (w : World) (cs : List Value) (e : TypeId) (j : Nat) (u : Value) (h : cs[j]? = some u) :
    (w.alloc (.cells cs.toArray e)).cell? ((⟨w.heap.size, 0, none⟩ : Addr).add j) = some u := by
  have hh := heap_alloc_new w (.cells cs.toArray e)
  rw [Addr.add_lit, cell_of_heap hh]
  simpa using h
/-- 'out = append(out, x)', x laid in a new block of its own, out the call's own: what is owned has one element more; old memory stands. -/
theorem wpList_push {P : Program} {ops : Array Oper} {rest : List Oper} {o : Oper} {a : Act} {Q : Exit → Act → World → Prop} (w W0 : World)
    (hgd : o.guard = none) (s x : Operand) (t : TypeId)
    (ho : o.op = .call { callee := .builtin .append, args := #[s, x], argTypes := #[t, t] })
    (e : TypeId) (z : Value) (size bytes : Nat) (ht : P.underlying t = some (.slice e))
    (hinfo : (P.info? e).map (fun i => (i.zero, i.size, i.bytes)) = some (some z, size, bytes))
    (hzs : z.cells.size = size) (hsz : 0 < size) (hby : bytes ≤ 1000)
    (B : Nat) (v : Value) (n : Nat) (xs : List Value) (hs : a.eval s = v) (hown : w.ownsRow B e size v n xs)
    (cs : List Value) (hx : a.eval x = .slice (some ⟨w.heap.size, 0, none⟩) 1 1) (hl : cs.length = size) (h1 : ∀ u ∈ cs, u.oneCell' = true)
    (hn : n ≤ 1000000) (hbel : Below B W0 w) (hB : B ≤ w.heap.size)
    (h : ∀ v' w', w'.ownsRow B e size v' (n + 1) (xs ++ cs) → Below B W0 w' → w.heap.size < w'.heap.size → w.grownBy w' v.ownBlock → wpList P ops Q rest (a.put o.dst v') w') :
    wpList P ops Q (o :: rest) a (w.alloc (.cells cs.toArray e)) := by
  obtain ⟨i0, hi, hz0, hz1, hz2⟩ := info_parts hinfo
  refine wpList_append_own _ hgd s x t ho B e i0 z size bytes ht hi hz0 hz1 hz2 hzs hsz v n xs hs (hown.alloc _) ⟨w.heap.size, 0, none⟩ 1 1 cs hx (by omega) (fun j u hj => cells_new w cs e j u hj) h1 ?_ ?_ ?_ ?_
  · unfold maxLen; omega
  · have : (n + 1) * bytes ≤ 1000001 * 1000 := Nat.mul_le_mul (by omega) hby
    omega
  · simp; omega
  · intro v' w' h2 h3 _
    have hsz' : (w.alloc (.cells cs.toArray e)).heap.size = w.heap.size + 1 := by simp
    refine h v' w' h2 ((hbel.alloc hB _).grown h3 (by omega) fun k hk => (hown.lt k hk).1) (by have := h3.size; omega) ?_
    refine ⟨h3.os, h3.tape, h3.output, by have := h3.size; omega, fun k hk hr => ?_⟩
    rw [h3.block k (by omega) hr]
    exact Below.heap_alloc _ _ _ hk
open Go.RowKit
theorem Fr.below {B : Nat} {a b : World} (h : Fr (fun k => B ≤ k) a b) (hB : B ≤ a.heap.size) : Below B a b :=
  ⟨h.os, h.tape, h.output, h.size, fun k hk => h.block k (by omega) (by omega)⟩
theorem Fr.cell {S : Nat → Prop} {a b : World} (h : Fr S a b) {p : Addr} (hlt : p.block < a.heap.size) (hs : ¬ S p.block) : b.cell? p = a.cell? p :=
  World.cell?_of_block (h.block p.block hlt hs)
open Go.RowKit
open Go.RowKit
/-- A statement that is left to do (d: how deep its blocks can be); of a retry how many of its tries are behind it; of a repeat how often it was done. -/
structure It where
  d : Nat
  s : Hd × Tree d × Tree d
  i : Nat
def byW (t : ByteArray) (l : List (Nat × Nat)) : Nat := (l.map fun p => (bytesOf t p).length).sum
theorem byW_cons (t : ByteArray) (p : Nat × Nat) (b : List (Nat × Nat)) : byW t (p :: b) = (bytesOf t p).length + byW t b := by simp [byW]
/-- A word of a statement's head has as many bytes as its word. -/
theorem HdOk.by {t : ByteArray} {wo : List (Nat × Nat)} {h : Hd} {f : Nat} (hh : HdOk t wo h f) : (bytesOf t h.p).length ≤ byW t wo := by
  rcases hh with ⟨p, q, rfl, _, _, rfl⟩ | ⟨p, q, rfl, _, _, rfl⟩ | ⟨p, rfl, _, _, rfl⟩ | ⟨p, q, r, rfl, _, _, rfl⟩ | ⟨p, q, r, s, rfl, _, _, rfl⟩ | ⟨p, q, rfl, _, _, rfl⟩ <;> (rw [byW_cons]; exact Nat.le_add_right _ _)
theorem sp_append (a b : List (List UInt8)) : sp (a ++ b) = sp a ++ sp b := by simp [sp]
/-- The words of a text that ends with a blank. -/
theorem words_sp {t : ByteArray} {us : List (List UInt8)} (h : t.data.toList = sp us) (hw : ∀ u ∈ us, WordB u) : (wordsL t.data.toList).map (bytesOf t) = us := by
  have h1 := scan_sp us 0 [] hw
  rw [List.append_nil] at h1
  unfold wordsL
  rw [h, h1]
  have h2 : scanW (0 + (sp us).length) none [] = [] := rfl
  rw [h2, List.append_nil]
  exact places_bytes us [] [] (by rw [h]; simp)
/-- The code of the statements of trees over it. -/
theorem stm_send {T : Type} (sub : T → Nat → Nat → List Ins) (k : Int) (a b : T) (rep base : Nat) : stmC dict sub (hSend k, a, b) rep base = [⟨1, k, 0, 0⟩] := stmC_send sub (hSend k, a, b) rep base dSend
theorem stm_wait {T : Type} (sub : T → Nat → Nat → List Ins) (n : Int) (a b : T) (rep base : Nat) : stmC dict sub (hWait n, a, b) rep base = [⟨2, n, 0, 0⟩] := stmC_wait sub (hWait n, a, b) rep base dWait
abbrev Wd := List UInt8
/-- A block that is spelled: its words, its statements, the numbers and the bytes that are left. -/
abbrev SpR (T : Type) := List Wd × T × List Nat × Int
def LB (b : Int) (x : Int × Int) : Prop := x.1 ≤ b ∧ x.2 ≤ b
def FL (b : Int) (l : List (Int × Int)) : Prop := ∀ (A : Int) (acc : Int × Int), 0 ≤ A → LB A acc → LB (A + b) (foldI acc l)
theorem behind_le {a b A B : Int} (ha : a ≤ A) (hb : b ≤ B) (hA : 0 ≤ A) (hB : 0 ≤ B) : behindI a b ≤ A + B := by
  unfold behindI
  split <;> omega
theorem max_le {a b B : Int} (ha : a ≤ B) (hb : b ≤ B) : maxI a b ≤ B := by
  unfold maxI
  split <;> omega
theorem FL.nil {b : Int} (hb : 0 ≤ b) : FL b [] := fun A acc _ h => ⟨by show acc.1 ≤ _; have := h.1; omega, by show acc.2 ≤ _; have := h.2; omega⟩
theorem FL.cons {b c : Int} {a : Int × Int} {l : List (Int × Int)} (hc : 0 ≤ c) (ha : LB c a) (hl : FL b l) : FL (c + b) (a :: l) := fun A acc hA h => by
  have h1 := hl (A + c) (behindI acc.1 a.1, maxI acc.2 (behindI acc.1 a.2)) (by omega) ⟨behind_le h.1 ha.1 hA hc, max_le (by have := h.2; omega) (behind_le h.1 ha.2 hA hc)⟩
  rw [foldI, ← Int.add_assoc]
  exact h1
theorem FL.mono {b c : Int} {l : List (Int × Int)} (h : FL b l) (hb : b ≤ c) : FL c l := fun A acc hA h2 => by
  have h3 := h A acc hA h2
  exact ⟨by have := h3.1; omega, by have := h3.2; omega⟩
theorem LB.mono {b c : Int} {x : Int × Int} (h : LB b x) (hb : b ≤ c) : LB c x := ⟨by have := h.1; omega, by have := h.2; omega⟩
/-- A spelled block has no fault: of its words, its size, its depth, its repeats, how long it lasts. -/
structure PG (e : Nat) (c m : Int) (kk : Nat) (vs : List Nat) (left : Int) (R : SpR (Tree e)) : Prop where
  ag : AG dict e R.1 R.2.1
  wd : ∀ u ∈ R.1, WordB u
  sz : ((sp R.1).length : Int) + R.2.2.2 ≤ left
  l0 : 0 ≤ R.2.2.2
  dp : ∀ k, k ≤ kk → Dp dict e R.2.1 k
  hv : ∀ n, 0 ≤ n → n * m ≤ 64 → heavyT dict e R.2.1 n = -1
  ls : LB (c * (left - R.2.2.2)) (lastsT dict e R.2.1)
  vs : R.2.2.1.length ≤ vs.length
/-- One statement. -/
structure PS (e : Nat) (c m : Int) (kk : Nat) (b : Int) (us : List Wd) (x : Hd × Tree e × Tree e) : Prop where
  ag : ∀ (ur : List Wd) (r : List (Hd × Tree e × Tree e)), AL dict (AG dict e) (nilT e) ur r → AL dict (AG dict e) (nilT e) (us ++ ur) (x :: r)
  wd : ∀ u ∈ us, WordB u
  sz : ((sp us).length : Int) ≤ b
  dp : ∀ k, k ≤ kk → (k < 4 ∨ bytesOf dict x.1.p = kSend ∨ bytesOf dict x.1.p = kWait ∨ bytesOf dict x.1.p = kStop) ∧ Dp dict e x.2.1 (k + 1) ∧ Dp dict e x.2.2 (k + 1)
  hv : ∀ (n : Int) (r : List (Hd × Tree e × Tree e)), 0 ≤ n → n * m ≤ 64 → heavyL dict (heavyT dict e) r n = -1 → heavyL dict (heavyT dict e) (x :: r) n = -1
  ls : LB (c * b) (oneI dict x.1 (lastsT dict e x.2.1) (lastsT dict e x.2.2))
theorem dp_nil (e k : Nat) : Dp dict e (nilT e) k := by
  cases e with
  | zero => trivial
  | succ e => intro x hx; cases hx
theorem hv_nil (e : Nat) (n : Int) : heavyT dict e (nilT e) n = -1 := by
  cases e with
  | zero => rfl
  | succ e => rfl
theorem heavy_plain {e : Nat} {x : Hd × Tree e × Tree e} {n : Int} {r : List (Hd × Tree e × Tree e)} (h : ¬ bytesOf dict x.1.p = kRepeat) (h1 : heavyT dict e x.2.1 n = -1) (h2 : heavyT dict e x.2.2 n = -1) (h3 : heavyL dict (heavyT dict e) r n = -1) : heavyL dict (heavyT dict e) (x :: r) n = -1 := by
  rw [heavyL, if_neg h, if_neg (by rw [h1]; decide), if_neg (by rw [h2]; decide), h3]
theorem sp_len_cons (u : Wd) (r : List Wd) : (sp (u :: r)).length = u.length + 1 + (sp r).length := by rw [sp_cons]; simp; omega
theorem sp_len_app (a b : List Wd) : (sp (a ++ b)).length = (sp a).length + (sp b).length := by rw [sp_append]; simp
theorem dig1 {n : Nat} (h : n < 10) : (digitsB n).length = 1 := by unfold digitsB; rw [if_pos h]; rfl
section
variable {e : Nat} {c m : Int} {kk : Nat}
theorem ps_send (v : Nat) (hc : 2 ≤ c) : PS e c m kk 7 [kSend, letterB v] (hSend (v % 8 : Nat), nilT e, nilT e) := by
  obtain ⟨w1, w2, w3, w4, w5, w6, w7, w8, w9⟩ := word_kinds
  have hk := keyL_letter v
  refine ⟨fun ur r h => ?_, ?_, ?_, fun k _ => ⟨.inr (.inl dSend), dp_nil _ _, dp_nil _ _⟩, fun n r _ _ h => heavy_plain (by rw [show bytesOf dict (hSend (v % 8 : Nat)).p = kSend from dSend]; decide) (hv_nil _ _) (hv_nil _ _) h, ?_⟩
  · have h2 := AL.send (sub := AG dict e) (nil := nilT e) (q := letterB v) (by rw [hk]; omega) h
    rw [hk] at h2
    exact h2
  · intro u hu
    simp only [List.mem_cons, List.not_mem_nil, or_false] at hu
    rcases hu with rfl | rfl
    · exact w1
    · exact word_letter _
  · simp [sp, kSend, letterB]
  · rw [oneI_send (h := hSend (v % 8 : Nat)) _ _ dSend]
    exact ⟨by show (0 : Int) ≤ _; omega, by show (-1 : Int) ≤ _; omega⟩
theorem ps_wait (n : Nat) (h1 : 1 ≤ n) (h2 : n ≤ 9) (hc : 2 ≤ c) : PS e c m kk 7 [kWait, digitsB n] (hWait n, nilT e, nilT e) := by
  obtain ⟨w1, w2, w3, w4, w5, w6, w7, w8, w9⟩ := word_kinds
  have hk := numL_digits (n := n) (by omega)
  refine ⟨fun ur r h => ?_, ?_, ?_, fun k _ => ⟨.inr (.inr (.inl dWait)), dp_nil _ _, dp_nil _ _⟩, fun n' r _ _ h => heavy_plain (by rw [show bytesOf dict (hWait n).p = kWait from dWait]; decide) (hv_nil _ _) (hv_nil _ _) h, ?_⟩
  · have h3 := AL.wait (sub := AG dict e) (nil := nilT e) (q := digitsB n) (by rw [hk]; omega) (by rw [hk]; omega) h
    rw [hk] at h3
    exact h3
  · intro u hu
    simp only [List.mem_cons, List.not_mem_nil, or_false] at hu
    rcases hu with rfl | rfl
    · exact w2
    · exact word_digits (by omega)
  · rw [sp_len_cons, sp_len_cons, dig1 (by omega)]
    simp [sp, kWait]
  · rw [oneI_wait (h := hWait n) _ _ dWait]
    exact ⟨by show (n : Int) ≤ _; omega, by show (-1 : Int) ≤ _; omega⟩
end
theorem mul_mono {c a b : Int} (hc : 0 ≤ c) (h : a ≤ b) : c * a ≤ c * b := Int.mul_le_mul_of_nonneg_left h hc
/-- The statements one behind the other. -/
structure PL (e : Nat) (c m : Int) (kk : Nat) (vs : List Nat) (left : Int) (R : SpR (List (Hd × Tree e × Tree e))) : Prop where
  ag : AL dict (AG dict e) (nilT e) R.1 R.2.1
  wd : ∀ u ∈ R.1, WordB u
  sz : ((sp R.1).length : Int) + R.2.2.2 ≤ left
  l0 : 0 ≤ R.2.2.2
  dp : ∀ k, k ≤ kk → ∀ x ∈ R.2.1, (k < 4 ∨ bytesOf dict x.1.p = kSend ∨ bytesOf dict x.1.p = kWait ∨ bytesOf dict x.1.p = kStop) ∧ Dp dict e x.2.1 (k + 1) ∧ Dp dict e x.2.2 (k + 1)
  hv : ∀ n, 0 ≤ n → n * m ≤ 64 → heavyL dict (heavyT dict e) R.2.1 n = -1
  ls : FL (c * (left - R.2.2.2)) (R.2.1.map fun x => oneI dict x.1 (lastsT dict e x.2.1) (lastsT dict e x.2.2))
  vs : R.2.2.1.length ≤ vs.length
theorem PL.pg {e : Nat} {c m : Int} {kk : Nat} {vs : List Nat} {left : Int} {R : SpR (List (Hd × Tree e × Tree e))} (P : PL e c m kk vs left R) : PG (e + 1) c m kk vs left R :=
  ⟨P.ag, P.wd, P.sz, P.l0, P.dp, P.hv, by have h := P.ls 0 (0, -1) (Int.le_refl _) ⟨Int.le_refl _, by show (-1 : Int) ≤ 0; omega⟩; rw [Int.zero_add] at h; exact h, P.vs⟩
theorem PL.none {e : Nat} {c m : Int} {kk : Nat} {vs vs' : List Nat} {left : Int} (h0 : 0 ≤ left) (hv : vs'.length ≤ vs.length) : PL e c m kk vs left ([], [], vs', left) :=
  ⟨rfl, fun u hu => (by cases hu), by simp [sp], h0, fun k _ x hx => (by cases hx), fun n _ _ => rfl, by
    have e : left - (([], [], vs', left) : SpR (List (Hd × Tree e × Tree e))).2.2.2 = 0 := by show left - left = 0; omega
    rw [e, Int.mul_zero]
    exact FL.nil (Int.le_refl _), hv⟩
theorem PL.cons {e : Nat} {c m : Int} {kk : Nat} {vs vs1 : List Nat} {left left1 b : Int} {us : List Wd} {x : Hd × Tree e × Tree e} {R : SpR (List (Hd × Tree e × Tree e))} (hc : 0 ≤ c) (hb : b = left - left1) (hb0 : 0 ≤ b) (S : PS e c m kk b us x) (P : PL e c m kk vs1 left1 R) (hv : vs1.length ≤ vs.length) : PL e c m kk vs left (us ++ R.1, [x] ++ R.2.1, R.2.2) := by
  have hs := P.sz
  refine ⟨S.ag _ _ P.ag, fun u hu => ?_, ?_, P.l0, fun k hk y hy => ?_, fun n hn hn2 => S.hv n _ hn hn2 (P.hv n hn hn2), ?_, Nat.le_trans P.vs hv⟩
  · rcases List.mem_append.mp hu with h | h
    · exact S.wd u h
    · exact P.wd u h
  · show ((sp (us ++ R.1)).length : Int) + R.2.2.2 ≤ left
    have := S.sz
    rw [sp_len_app]
    omega
  · rcases List.mem_cons.mp (show y ∈ x :: R.2.1 from hy) with rfl | h
    · exact S.dp k hk
    · exact P.dp k hk y h
  · have h1 := mul_mono hc hb0
    rw [Int.mul_zero] at h1
    have e1 : c * (left - R.2.2.2) = c * b + c * (left1 - R.2.2.2) := by rw [← Int.mul_add]; congr 1; omega
    show FL (c * (left - R.2.2.2)) ((x :: R.2.1).map _)
    rw [e1]
    exact FL.cons h1 S.ls P.ls
end Go.Proofs.Herald
namespace Go.Proofs.Ytmmmnghiegajmaa
open Go.RowKit Go.Proofs.Herald
theorem CodeIn.fr {w w' : World} {a : Option Addr} {b off S : Nat} {cs : List Ins} (h : CodeIn w a b off cs) (hb : Fr (fun k => k = S) w w') (hS : 0 < cs.length → b ≠ S) : CodeIn w' a b off cs := fun hp =>
  ⟨(h hp).1, Nat.lt_of_lt_of_le (h hp).2.1 hb.size, (h hp).2.2.keep (hb.block _ (h hp).2.1 (hS hp))⟩
open Go.RowKit Go.Proofs.Herald
open Go.RowKit Go.Proofs.Herald
open Go.RowKit Go.Proofs.Herald
theorem ShAt.drew {w wr : World} {now : Int} {rv uv : Value} {rl : List Rn} {ml : List Msg} (h : ShAt w wr now rv rl uv ml) : ShAt w wr.drew now rv rl uv ml :=
  ⟨h.bel.drew, h.a, h.o, own_stays h.r fun _ _ => rfl, own_stays h.m fun _ _ => rfl⟩
open Go.RowKit Go.Proofs.Herald
open Go.RowKit Go.Proofs.Herald
open Go.RowKit Go.Proofs.Herald
open Go.RowKit Go.Proofs.Herald
end Go.Proofs.Ytmmmnghiegajmaa
namespace Go.Proofs.Herald
theorem MidM.len {n : Int} {k : Nat} {s0 : Int} {q : List Msg} {m : Pr} (h : MidM n k s0 q m) : q.length ≤ 4 := by
  obtain ⟨_, _, _, _, _, _, _, h6⟩ := h
  exact h6
end Go.Proofs.Herald
namespace Go.Proofs.Ytmmmnghiegajmaa
open Go.RowKit Go.Proofs.Herald
open Go.RowKit Go.Proofs.Herald
end Go.Proofs.Ytmmmnghiegajmaa
namespace Go.Proofs.Herald
end Go.Proofs.Herald
namespace Go.Proofs.Ytmmmnghiegajmaa
open Go.RowKit Go.Proofs.Herald
open Go.RowKit Go.Proofs.Herald
open Go.RowKit Go.Proofs.Herald
open Go.RowKit Go.Proofs.Herald
theorem Wrote.of {B R : Nat} {w w1 : World} {cs : List Ins} {e : Ending} {w' : World} (h : Wrote B R w1 cs e w') (hb : Below B w w1) : Wrote B R w cs e w' := ⟨h.1, h.2.1, hb.trans h.2.2⟩
open Go.RowKit Go.Proofs.Herald
theorem Game.back {B : Nat} {cs cs' : List Ins} {i m : Nat} {h h' : Her Pr} {w0 w : World} {G H : Nat} {cv : Value} {s : HS} (g : Game B cs i h w0 G H cv s) (t : GTo cs' m h' w0 H s w) : Below B w0 w := by
  obtain ⟨_, _, _, _, _, hf⟩ := t
  have h1 := g.B
  have h2 := heap_lt g.g
  exact ⟨hf.os, hf.tape, hf.output, hf.size, fun k hk => hf.block k (by omega) fun ho => by have := (g.own k ho).1; omega⟩
open Go.RowKit Go.Proofs.Herald
theorem KS.of {B : Nat} {cs : List Ins} {i : Nat} {h : Her Pr} {w0 w : World} {G H : Nat} {cv : Value} {s : HS} (g : Game B cs i h w G H cv s) (hb : Below B w0 w) : KS B cs i h w0 H (fun k => k = G) w :=
  ⟨i, s, Nat.le_refl _, g.ga, fun k hk => g.own k hk, fun k hk => by rw [hk]; exact heap_lt g.g, hb, by have := heap_lt g.g; have := g.B; omega⟩
theorem KS.new {B : Nat} {cs : List Ins} {m : Nat} {h : Her Pr} {w0 w : World} {H : Nat} {F : Nat → Prop} (g : KS B cs m h w0 H F w) (o : Obj) : KS B cs m h w0 H (fun k => k = w.heap.size ∨ F k) (w.alloc o) :=
  (g.more ((Below.refl _ _).alloc (Nat.le_refl _) o)).less fun k hk => by
    rcases hk with rfl | hk
    · exact .inr ⟨Nat.le_refl _, by simp⟩
    · exact .inl hk
theorem ks_Drain {B : Nat} {cs : List Ins} {m : Nat} {h : Her Pr} {w0 : World} {H : Nat} {F : Nat → Prop} (dev : Int) (w : World) (g : KS B cs m h w0 H F w) (hm : m ≤ 2000000) :
    Calls Try.prog 37 #[.pointer (some ⟨H, 0, none⟩), .int .i64 dev] w fun e w' => e = .returned (.tuple #[msgV (drainH h dev).1, .int .i64 (drainH h dev).2.1]) ∧ KS B cs (m + 1) (drainH h dev).2.2 w0 H F w' ∧ ∀ k, F k → w'.heap[k]? = w.heap[k]? := by
  obtain ⟨i, s, h1, h2, h3, h4, h5, h6⟩ := g
  exact (g_Drain dev w h2 (by omega)).mono fun e w' hh => ⟨hh.1, KS.next h1 h3 h4 h5 h6 hh.2⟩
open Go.RowKit Go.Proofs.Herald
def pickN (x : Int) : Nat := (pickI x 1099511627776).toNat
theorem pickN_eq (x : Int) : pickI x 1099511627776 = (pickN x : Nat) := by
  have := (pickI_bound x 1099511627776 (by omega)).1
  unfold pickN
  omega
theorem pickN_lt (x : Int) : pickN x < 1099511627776 := by
  have := (pickI_bound x 1099511627776 (by omega)).2
  have := pickN_eq x
  omega
/-- Numbers that lie in memory. -/
def IntsIn (w : World) (a : Option Addr) (b off : Nat) (xs : List Int) : Prop := 0 < xs.length → a = some ⟨b, off, none⟩ ∧ b < w.heap.size ∧ ∀ i (h : i < xs.length), w.cell? ⟨b, off + i, none⟩ = some (.int .i64 xs[i])
open Go.RowKit Go.Proofs.Herald
theorem bytes_len {s : ByteArray} {l : List UInt8} (h : s.data.toList = l) : s.size = l.length := by
  rw [← h]
  simp
theorem digits_int (n : Int) (k : Nat) (hk : n = (k : Nat)) (hn : k < 1000) (W : World) : Calls Try.prog 25 #[.int .i64 n] W fun e w' => ∃ s : ByteArray, e = .returned (.string s) ∧ s.data.toList = digitsB k ∧ Below W.heap.size W w' := by
  have h := c_digits n W (by omega) (by omega)
  have e : n.toNat = k := by omega
  rw [e] at h
  exact h
open Go.RowKit Go.Proofs.Herald
set_option maxRecDepth 20000 in
set_option maxHeartbeats 4000000 in
theorem c_mNew_nil (w : World) (hs : soundL [] = true) :
    Calls Try.prog 66 #[.slice none 0 0] w fun e w' => ∃ v, e = .returned (.tuple #[.agg #[v, .int .i64 0, .int .i64 0, .slice none 0 0, .slice none 0 0, .slice none 0 0, .slice none 0 0], .int .i64 0]) ∧ w'.ownsRow w.heap.size 128 4 v 0 [] ∧ Below w.heap.size w w' := by
  have HC : Hid (∀ W : World, Calls Try.prog 98 #[.slice none 0 0] W fun e w' => e = .returned (.bool true) ∧ Below W.heap.size W w') := fun W => by
    have := c_sound none 0 0 0 [] W (fun hp => absurd hp (by simp))
    rw [hs] at this
    exact this
  clear hs
  obtain ⟨i0, hi, hz0, hz1, hz2⟩ := info_parts Try.infoInstr
  go_enter Try.func66, Try.ntmps66
  go_wp2_with fail
  refine (HC.out _).mono ?_
  rintro e w1 ⟨rfl, hb1⟩
  have g1 : w1.heap[w.heap.size]? = some (.cells (newM (.slice none 0 0)) 146 (0, 0)) := (hb1.block _ (by simp)).trans (heap_alloc_new _ _)
  have HG1 : Hid (_ = _) := g1
  have HB1 : Hid (Below w.heap.size w w1) := ((Below.refl _ _).alloc (Nat.le_refl _) _).trans (hb1.mono (by simp))
  clear hb1 g1 HC
  have HOWN : Hid ((w1.alloc (.cells #[] 128)).ownsRow w.heap.size 128 4 (.slice (some ⟨w1.heap.size, 0, none⟩) 0 0) 0 []) :=
    ⟨rfl, .inr ⟨w1.heap.size, 0, #[], rfl, HB1.out.size, heap_alloc_new _ _, Nat.le_refl _, Nat.zero_le _, rfl, rfl⟩⟩
  have HBA : Hid (Below w.heap.size w (w1.alloc (.cells #[] 128))) := HB1.out.alloc HB1.out.size _
  have HGA : Hid ((w1.alloc (.cells #[] 128)).heap[w.heap.size]? = some (.cells (newM (.slice none 0 0)) 146 (0, 0))) := by
    show _ = _
    rw [Below.heap_alloc _ _ _ (heap_lt HG1.out)]; exact HG1.out
  have HG2 : (w1.alloc (.cells #[] 128)).heap[w.heap.size]? = some (.cells (newM (.slice none 0 0)) 146 (0, 0)) := HGA.out
  have HO2 : Hid ((w1.alloc (.cells #[] 128)).ownsRow w.heap.size 128 4 (.slice (some ⟨w1.heap.size, 0, none⟩) 0 0) 0 []) := HOWN.out
  have HB2 : Hid (Below w.heap.size w (w1.alloc (.cells #[] 128))) := HBA.out
  obtain ⟨d0, d1, d2, d3, d4, d5, d6, hz⟩ := cells7 HG2
  have z0 := hz 0
  have z1 := hz 1
  have z2 := hz 2
  have z3 := hz 3
  have z4 := hz 4
  have z5 := hz 5
  have z6 := hz 6
  have HNE : Hid (∀ k, (Value.slice (some ⟨w1.heap.size, 0, none⟩) 0 0).ownBlock = some k → k ≠ w.heap.size) := fun k hk => by
    obtain ⟨_, cur, hc⟩ := ownsRow_lies HO2.out hk
    exact ne_of_type hc HG2 (by decide)
  have HBK : Hid (_ = _) := HG2
  clear hz HG2
  go_wp2_with (at_builtin; refine wpList_append_own_none rfl _ _ 26 rfl w.heap.size 128 i0 4 Try.underlying26 hi (.slice (some ⟨w1.heap.size, 0, none⟩) 0 0) 0 [] rfl HOWN.out rfl ?_)
  refine bodyPost_ret (v := .tuple #[.agg #[.slice (some ⟨w1.heap.size, 0, none⟩) 0 0, .int .i64 0, .int .i64 0, .slice none 0 0, .slice none 0 0, .slice none 0 0, .slice none 0 0], .int .i64 0]) (by simp [results, Try.results66, go_sem, d0, d1, d2, d3, d4, d5, d6]) rfl ⟨_, rfl, ?_, ?_⟩
  · refine own_stays HO2.out (fun k hk => ?_)
    have hne := HNE.out k hk
    rw [Below.heap_setCell _ _ _ _ hne, Below.heap_setCell _ _ _ _ hne, Below.heap_setCell _ _ _ _ hne, Below.heap_setCell _ _ _ _ hne, Below.heap_setCell _ _ _ _ hne, Below.heap_setCell _ _ _ _ hne, Below.heap_setCell _ _ _ _ hne]
  · exact below7 HB2.out (Nat.le_refl _) _ _ _ _ _ _ _
set_option maxRecDepth 20000 in
set_option maxHeartbeats 4000000 in
theorem c_New_nil (w : World) (hs : soundL [] = true) :
    Calls Try.prog 27 #[.slice none 0 0] w fun e w' => ∃ H v, e = .returned (.tuple #[.pointer (some ⟨H, 0, none⟩), .int .i64 0]) ∧ w.heap.size ≤ H ∧ w'.heap[H]? = some (.cells (newHd v) 150 (0, 0)) ∧ w'.ownsRow w.heap.size 128 4 v 0 [] ∧ Below w.heap.size w w' := by
  have HC : Hid (Calls Try.prog 66 #[.slice none 0 0] w fun e w' => ∃ v, e = .returned (.tuple #[.agg #[v, .int .i64 0, .int .i64 0, .slice none 0 0, .slice none 0 0, .slice none 0 0, .slice none 0 0], .int .i64 0]) ∧ w'.ownsRow w.heap.size 128 4 v 0 [] ∧ Below w.heap.size w w') := c_mNew_nil w hs
  clear hs
  go_enter Try.func27, Try.ntmps27
  go_wp2_with fail
  refine HC.out.mono ?_
  rintro e w1 ⟨v, rfl, ho1, hb1⟩
  obtain ⟨a2, cap2, hv2⟩ := ownsRow_slice ho1
  subst hv2
  have HO : Hid (_ ∧ _) := And.intro ho1 hb1
  clear ho1 hb1
  go_wp2_with fail
  go_ret2
  refine ⟨w1.heap.size + 1, _, rfl, by have := HO.out.2.size; omega, heap_alloc2 _ _ _, (HO.out.1.alloc _).alloc _, (HO.out.2.alloc HO.out.2.size _).alloc (by have := HO.out.2.size; simp; omega) _⟩
theorem c_New_any {w : World} {B : Nat} {a : Option Addr} {cap : Nat} {cs : List Ins} (h : w.ownsRow B 128 4 (.slice a cs.length cap) cs.length (codeCells cs)) (hs : soundL cs = true) :
    Calls Try.prog 27 #[.slice a cs.length cap] w fun e w' => ∃ H v, e = .returned (.tuple #[.pointer (some ⟨H, 0, none⟩), .int .i64 0]) ∧ w.heap.size ≤ H ∧ w'.heap[H]? = some (.cells (newHd v) 150 (0, 0)) ∧ w'.ownsRow w.heap.size 128 4 v cs.length (codeCells cs) ∧ Below w.heap.size w w' := by
  obtain ⟨b, hb⟩ := own_codeAt h rfl
  rcases h.2 with ⟨h1, h2⟩ | ⟨g, c, cur, hv, _⟩
  · have hn : cs = [] := List.eq_nil_of_length_eq_zero h2
    subst hn
    simp only [Value.slice.injEq] at h1
    obtain ⟨rfl, _, rfl⟩ := h1
    exact c_New_nil w hs
  · simp only [Value.slice.injEq, true_and] at hv
    obtain ⟨rfl, rfl⟩ := hv
    refine c_New_yes g 0 cap cs w (fun hp => ?_) hs
    obtain ⟨e1, e2, e3⟩ := hb hp
    simp only [Option.some.injEq, Addr.mk.injEq, and_true] at e1
    exact ⟨rfl, by rw [e1]; exact e2, by rw [e1]; exact e3⟩
end Go.Proofs.Ytmmmnghiegajmaa
namespace Go.Proofs.Herald
theorem one_drain_no {R : Type} {dv : Nat} (hd : dv ≤ 2) (now last : Int) (rs : List R) : drainH (oneH dv now last [] rs) (dv : Nat) = (⟨0, 0, 0, 0⟩, 13, oneH dv now last [] rs) := by
  unfold drainH
  rw [if_neg (by omega)]
  have e : (oneH dv now last [] rs).qs ((dv : Nat) : Int).toNat = [] := one_qs _ _ _ _ _
  rw [e]
end Go.Proofs.Herald
