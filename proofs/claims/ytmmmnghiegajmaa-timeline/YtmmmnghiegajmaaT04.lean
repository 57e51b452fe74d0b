import Derived.Test.YtmmmnghiegajmaaM01
import Derived.Test.YtmmmnghiegajmaaM04
import Derived.Test.YtmmmnghiegajmaaM05
import Derived.Test.YtmmmnghiegajmaaM06
import Derived.Test.YtmmmnghiegajmaaM07
import Derived.Test.YtmmmnghiegajmaaM08
import Derived.Test.YtmmmnghiegajmaaM09
import Derived.Test.YtmmmnghiegajmaaM10
import Derived.Test.YtmmmnghiegajmaaM11
import Derived.Test.YtmmmnghiegajmaaM12
import Derived.Test.YtmmmnghiegajmaaM15
import Derived.Test.YtmmmnghiegajmaaM19
import Derived.Test.YtmmmnghiegajmaaM21
import Derived.Test.YtmmmnghiegajmaaM23
import Derived.Test.YtmmmnghiegajmaaM24
import Derived.Test.YtmmmnghiegajmaaM25
import Derived.Test.YtmmmnghiegajmaaM26
import Derived.Test.YtmmmnghiegajmaaM27
import Derived.Test.YtmmmnghiegajmaaM28
import Derived.Test.YtmmmnghiegajmaaM29
import Derived.Test.YtmmmnghiegajmaaM32
import Derived.Test.YtmmmnghiegajmaaM33
import Derived.Test.YtmmmnghiegajmaaM34
import Derived.Deep.Onto
import Derived.Test.YtmmmnghiegajmaaT01
import Derived.Test.YtmmmnghiegajmaaT03
namespace Go.Proofs.Ytmmmnghiegajmaa
open Go.RowKit Go.Proofs.Herald
theorem Try.infoIntL : (Try.prog.info? 3).map (fun i => (i.zero, i.size, i.bytes)) = some (some (.int .i64 0), 1, 8) := by kernel_rfl
/-- Numbers that lie in memory, with room behind them perhaps. -/
structure LnAt (w : World) (ao : Option Addr) (b off cap : Nat) (xs : List Int) : Prop where
  came : Came w 1 ao b off xs.length cap (xs.map (Value.int .i64))
  free : ∀ j, j < xs.length → w.frozen? ⟨b, off + j, none⟩ = false
  max : cap ≤ maxLen
  nil : ao = none → cap = 0
theorem LnAt.empty (w : World) : LnAt w none 0 0 0 [] :=
  ⟨⟨Nat.le_refl _, fun h => absurd h (by simp), fun h => absurd h (by simp), rfl, fun j u hj => by simp at hj, fun j hj => by simp at hj⟩, fun j hj => by simp at hj, Nat.zero_le _, fun _ => rfl⟩
theorem LnAt.le {w : World} {ao : Option Addr} {b off cap : Nat} {xs : List Int} (h : LnAt w ao b off cap xs) : xs.length ≤ cap := h.came.le
theorem LnAt.keep {w w' : World} {ao : Option Addr} {b off cap : Nat} {xs : List Int} (h : LnAt w ao b off cap xs) (hk : 0 < cap → w'.heap[b]? = w.heap[b]?) : LnAt w' ao b off cap xs := by
  have hle := h.le
  have hc : ∀ o, 0 < cap → w'.cell? ⟨b, o, none⟩ = w.cell? ⟨b, o, none⟩ := fun o hp => by simp only [World.cell?, hk hp]
  have hf : ∀ o, 0 < cap → w'.frozen? ⟨b, o, none⟩ = w.frozen? ⟨b, o, none⟩ := fun o hp => World.frozen?_of_block (hk hp)
  refine ⟨⟨hle, h.came.addr, fun hp => ?_, h.came.oldsLen, fun j u hj => ?_, fun j hj => ?_⟩, fun j hj => ?_, h.max, h.nil⟩
  · have h1 := h.came.lt hp
    rcases Nat.lt_or_ge b w'.heap.size with h2 | h2
    · exact h2
    · exfalso
      have h3 := hk hp
      rw [Array.getElem?_eq_none h2, Array.getElem?_eq_getElem h1] at h3
      cases h3
  · have hp : 0 < cap := by
      have := (List.getElem?_eq_some_iff.mp hj).1
      rw [List.length_map] at this
      omega
    rw [hc _ hp]
    exact h.came.olds j u hj
  · have hp : 0 < cap := by omega
    rw [hc _ hp, hf _ hp]
    exact h.came.spare j hj
  · rw [hf _ (by omega)]
    exact h.free j hj
theorem LnAt.cell {w : World} {ao : Option Addr} {b off cap : Nat} {xs : List Int} (h : LnAt w ao b off cap xs) {i : Nat} (hi : i < xs.length) : ao = some ⟨b, off, none⟩ ∧ b < w.heap.size ∧ w.cell? ⟨b, off + i, none⟩ = some (.int .i64 xs[i]) := by
  have hle := h.le
  refine ⟨h.came.addr (by omega), h.came.lt (by omega), h.came.olds i _ ?_⟩
  rw [List.getElem?_map, List.getElem?_eq_getElem hi]
  rfl
/-- The head is cut off. -/
theorem LnAt.tail {w : World} {ao : Option Addr} {b off cap : Nat} {x : Int} {xs : List Int} (h : LnAt w ao b off cap (x :: xs)) : LnAt w (some ⟨b, off + 1, none⟩) b (off + 1) (cap - 1) xs := by
  have hle := h.le
  rw [List.length_cons] at hle
  refine ⟨⟨by omega, fun _ => rfl, fun _ => h.came.lt (by omega), by simp, fun j u hj => ?_, fun j hj => ?_⟩, fun j hj => ?_, Nat.le_trans (Nat.sub_le _ _) h.max, fun hn => by cases hn⟩
  · have h1 := h.came.olds (j + 1) u (by simpa using hj)
    rw [show off + 1 + j = off + (j + 1) from by omega]
    exact h1
  · have h1 := h.came.spare j (by rw [List.length_cons]; omega)
    rw [List.length_cons] at h1
    rw [show off + 1 + xs.length * 1 + j = off + (xs.length + 1) * 1 + j from by omega]
    exact h1
  · have h1 := h.free (j + 1) (by rw [List.length_cons]; omega)
    rw [show off + 1 + j = off + (j + 1) from by omega]
    exact h1
theorem cell_other {w : World} {b o p : Nat} {v : Value} (h : o ≠ p) : (w.setCell ⟨b, o, none⟩ v).cell? ⟨b, p, none⟩ = w.cell? ⟨b, p, none⟩ := World.cell?_setCell_other _ _ _ _ (fun e => h (by injection e))
/-- One of them is written. -/
theorem LnAt.put {w : World} {ao : Option Addr} {b off cap : Nat} {xs : List Int} (h : LnAt w ao b off cap xs) {i : Nat} (hi : i < xs.length) (x : Int) : LnAt (w.setCell ⟨b, off + i, none⟩ (.int .i64 x)) ao b off cap (xs.set i x) := by
  have hle := h.le
  obtain ⟨h1, h2, h3⟩ := h.cell hi
  refine ⟨⟨by rw [List.length_set]; exact hle, h.came.addr, fun hp => by rw [size_setCell]; exact h2, by rw [List.length_map, List.length_set]; omega, fun j u hj => ?_, fun j hj => ?_⟩, fun j hj => ?_, h.max, h.nil⟩
  · rw [List.getElem?_map, List.getElem?_set] at hj
    by_cases he : i = j
    · subst he
      rw [if_pos rfl, if_pos hi] at hj
      cases hj
      exact World.cell?_setCell_same _ _ _ h3
    · rw [if_neg he] at hj
      rw [cell_other (by omega)]
      exact h.came.olds j u (by rw [List.getElem?_map]; exact hj)
  · rw [List.length_set] at hj ⊢
    rw [cell_other (by omega), World.frozen?_setCell]
    exact h.came.spare j hj
  · rw [List.length_set] at hj
    rw [World.frozen?_setCell]
    exact h.free j hj
/-- What an append leaves. -/
structure Pushed (w : World) (b cap : Nat) (xs : List Int) (x : Int) (v' : Value) (w' : World) : Prop where
  row : ∃ ao' b' off' cap', v' = .slice ao' (xs.length + 1) cap' ∧ LnAt w' ao' b' off' cap' (xs ++ [x]) ∧ ((0 < cap ∧ b' = b) ∨ w.heap.size ≤ b')
  fr : Fr (fun k => 0 < cap ∧ k = b) w w'
theorem LnAt.of_own {w : World} {B : Nat} {v : Value} {xs : List Int} (h : w.ownsRow B 3 1 v xs.length (xs.map (Value.int .i64))) (hp : 0 < xs.length) : ∃ g cap, v = .slice (some ⟨g, 0, none⟩) xs.length cap ∧ LnAt w (some ⟨g, 0, none⟩) g 0 cap xs ∧ B ≤ g := by
  rcases h.2 with ⟨_, h0⟩ | ⟨g, cap, cur, hv, hb, hg, h1, h2, h3, h4⟩
  · omega
  · refine ⟨g, cap, hv, ⟨⟨h1, fun _ => rfl, fun _ => heap_lt hg, by simp, fun j u hj => ?_, fun j hj => ?_⟩, fun j hj => ?_, h2, fun hn => by cases hn⟩, hb⟩
    · have h5 := h.cells (g := g) (by rw [hv]; rfl) j u hj
      rwa [Addr.add_lit] at h5
    · have hz : 0 + xs.length * 1 + j < cur.size := by omega
      refine ⟨?_, free_of_heap hg⟩
      rw [cell_of_heap hg]
      simp only [Array.getElem?_eq_getElem hz]
      rfl
    · exact free_of_heap hg
theorem run_push {w : World} {ao : Option Addr} {b off cap : Nat} {xs : List Int} (h : LnAt w ao b off cap xs) (hl : xs.length ≤ 1000) (ty : TypeId) (x : Int) (ad : Addr) (c : Nat) (hx : w.cell? ad = some (.int .i64 x)) :
    ∃ v' w', (Builtin.append_ #[52, 52] ty #[.slice ao xs.length cap, .slice (some ad) 1 c]).run Try.prog w = .ok v' w' ∧ Pushed w b cap xs x v' w' := by
  obtain ⟨i, hi, hz0, hz1, hz2⟩ : ∃ i, Try.prog.info? 3 = some i ∧ i.zero = some (.int .i64 0) ∧ i.size = 1 ∧ i.bytes = 8 := by
    have h1 := Try.infoIntL
    cases hi : Try.prog.info? 3 with
    | none => rw [hi] at h1; cases h1
    | some i =>
      rw [hi] at h1
      simp only [Option.map_some, Option.some.injEq, Prod.mk.injEq] at h1
      exact ⟨i, rfl, h1.1, h1.2.1, h1.2.2⟩
  have hle := h.le
  have hnews : ∀ j u, [Value.int .i64 x][j]? = some u → w.cell? (ad.add j) = some u := fun j u hj => by
    have hj0 : j = 0 := by have := (List.getElem?_eq_some_iff.mp hj).1; simp at this; omega
    subst hj0
    simp only [List.getElem?_cons_zero, Option.some.injEq] at hj
    subst hj
    have e : ad.add 0 = ad := by unfold Addr.add; split <;> simp_all
    rw [e]
    exact hx
  have h1c : ∀ u ∈ [Value.int .i64 x], u.oneCell' = true := fun u hu => by rw [List.mem_singleton.mp hu]; rfl
  have hgrow : ∀ v' w', w'.ownsRow w.heap.size 3 1 v' (xs.length + 1) (xs.map (Value.int .i64) ++ [Value.int .i64 x]) → w.grownBy w' none → Pushed w b cap xs x v' w' := fun v' w' h2 h3 => by
    have e : xs.map (Value.int .i64) ++ [Value.int .i64 x] = (xs ++ [x]).map (Value.int .i64) := by simp
    have e2 : xs.length + 1 = (xs ++ [x]).length := by simp
    rw [e, e2] at h2
    obtain ⟨g, cap', hv, hg, hb⟩ := LnAt.of_own h2 (by simp)
    refine ⟨⟨_, g, 0, cap', by rw [hv, ← e2], hg, .inr hb⟩, ?_⟩
    obtain ⟨g1, g2, g3, g4, g5⟩ := h3
    exact ⟨g1, g2, g3, g4, fun k hk _ => g5 k hk (by simp)⟩
  by_cases hroom : xs.length + 1 ≤ cap
  · have hao := h.came.addr (by omega)
    subst hao
    have hsp := h.came.spare 0 (by omega)
    rw [Nat.add_zero, Nat.mul_one] at hsp
    have hrun := run_append_room_cells (P := Try.prog) w 52 ty 3 i Try.underlying52 hi b off xs.length cap ad 1 c [Value.int .i64 x] (by rw [hz1]; rfl) hnews h1c hroom
      (fun j hj => by have hj0 : j = 0 := by simp at hj; omega
                      subst hj0
                      rw [hz1, Nat.mul_one, Nat.add_zero]
                      exact hsp.1)
      (fun j hj => by have hj0 : j = 0 := by simp at hj; omega
                      subst hj0
                      rw [hz1, Nat.mul_one, Nat.add_zero]
                      exact hsp.2)
    rw [hz1, Nat.mul_one] at hrun
    have hset : w.setCells b (off + xs.length) [Value.int .i64 x] = w.setCell ⟨b, off + xs.length, none⟩ (.int .i64 x) := rfl
    rw [hset] at hrun
    obtain ⟨u0, hu0⟩ := Option.isSome_iff_exists.mp hsp.1
    refine ⟨_, _, hrun, ⟨_, b, off, cap, rfl, ⟨⟨by simp; omega, fun _ => rfl, fun hp => by rw [size_setCell]; exact h.came.lt hp, by simp, fun j u hj => ?_, fun j hj => ?_⟩, fun j hj => ?_, h.max, fun hn => by cases hn⟩, .inl ⟨by omega, rfl⟩⟩, Fr.setCell (Fr.refl _ _) ⟨b, off + xs.length, none⟩ (.inl ⟨by omega, rfl⟩) _⟩
    · rw [List.map_append, List.getElem?_append] at hj
      split at hj
      · rename_i hlt
        rw [List.length_map] at hlt
        rw [cell_other (by omega)]
        exact h.came.olds j u hj
      · rename_i hlt
        rw [List.length_map] at hlt hj
        have hj0 : j = xs.length := by
          have := (List.getElem?_eq_some_iff.mp hj).1
          simp at this
          omega
        subst hj0
        rw [Nat.sub_self] at hj
        simp only [List.map_cons, List.map_nil, List.getElem?_cons_zero, Option.some.injEq] at hj
        subst hj
        exact World.cell?_setCell_same _ _ _ hu0
    · rw [List.length_append, List.length_singleton] at hj ⊢
      rw [cell_other (by omega), World.frozen?_setCell]
      have h5 := h.came.spare (j + 1) (by omega)
      rw [show off + (xs.length + 1) * 1 + j = off + xs.length * 1 + (j + 1) from by omega]
      exact h5
    · rw [List.length_append, List.length_singleton] at hj
      rw [World.frozen?_setCell]
      by_cases hj2 : j < xs.length
      · exact h.free j hj2
      · obtain rfl : j = xs.length := by omega
        exact hsp.2
  · cases ao with
    | some a0 =>
      by_cases hp : 0 < cap
      · have hao := h.came.addr hp
        cases hao
        obtain ⟨v', w', hrun, r1, r2⟩ := run_append_arg_grows (P := Try.prog) w 52 ty 3 i (.int .i64 0) 1 8 Try.underlying52 hi hz0 hz1 hz2 rfl (by omega) ⟨b, off, none⟩ xs.length cap (xs.map (Value.int .i64)) (by simp) (fun j u hj => by rw [Addr.add_lit]; exact h.came.olds j u hj) ad 1 c [Value.int .i64 x] rfl hnews (by omega) (by unfold maxLen; omega) (by omega)
        exact ⟨v', w', hrun, hgrow v' w' r1 r2⟩
      · have hx0 : xs = [] := List.eq_nil_of_length_eq_zero (by omega)
        obtain ⟨v', w', hrun, r1, r2⟩ := run_append_arg_grows (P := Try.prog) w 52 ty 3 i (.int .i64 0) 1 8 Try.underlying52 hi hz0 hz1 hz2 rfl (by omega) a0 xs.length cap (xs.map (Value.int .i64)) (by simp) (fun j u hj => by rw [hx0] at hj; simp at hj) ad 1 c [Value.int .i64 x] rfl hnews (by omega) (by unfold maxLen; omega) (by omega)
        exact ⟨v', w', hrun, hgrow v' w' r1 r2⟩
    | none =>
      have hc0 := h.nil rfl
      have hx0 : xs = [] := List.eq_nil_of_length_eq_zero (by omega)
      subst hx0
      subst hc0
      obtain ⟨v', w', hrun, r1, r2, _⟩ := run_append_own (P := Try.prog) w w.heap.size 52 ty 3 i (.int .i64 0) 1 8 Try.underlying52 hi hz0 hz1 hz2 rfl (by omega) (.slice none 0 0) 0 [] (World.ownsRow_nil w _ _ _) ad 1 c [Value.int .i64 x] rfl hnews h1c (by unfold maxLen; omega) (by omega) (Nat.le_refl _)
      exact ⟨v', w', hrun, hgrow v' w' r1 r2⟩
theorem wp_push {w : World} {o : Oper} {a : Act} {K : Act → World → Prop} {Q : Exit → Act → World → Prop} (s x : Operand) (ho : o.op = .call { callee := .builtin .append, args := #[s, x], argTypes := #[52, 52] })
    {ao : Option Addr} {b off cap : Nat} {xs : List Int} (h : LnAt w ao b off cap xs) (hl : xs.length ≤ 1000) (n : Int) (ad : Addr) (c : Nat) (hs : a.eval s = .slice ao xs.length cap) (hx : a.eval x = .slice (some ad) 1 c) (hn : w.cell? ad = some (.int .i64 n))
    (hK : ∀ v' w', Pushed w b cap xs n v' w' → K (a.put o.dst v') w') : o.wp Try.prog a w K Q := by
  obtain ⟨v', w', hr, hp⟩ := run_push h hl o.type n ad c hn
  unfold Oper.wp execOp
  simp only [ho, resolve, invoke, builtin, Sem.run_bind, Sem.run_pure, Result.andThen_ok, List.map_toArray, List.map_cons, List.map_nil, hs, hx, hr]
  exact hK v' w' hp
theorem wpList_push {w : World} {ops : Array Oper} {rest : List Oper} {o : Oper} {a : Act} {Q : Exit → Act → World → Prop} (hgd : o.guard = none) (s x : Operand) (ho : o.op = .call { callee := .builtin .append, args := #[s, x], argTypes := #[52, 52] })
    {ao : Option Addr} {b off cap : Nat} {xs : List Int} (h : LnAt w ao b off cap xs) (hl : xs.length ≤ 1000) (n : Int) (ad : Addr) (c : Nat) (hs : a.eval s = .slice ao xs.length cap) (hx : a.eval x = .slice (some ad) 1 c) (hn : w.cell? ad = some (.int .i64 n))
    (hK : ∀ v' w', Pushed w b cap xs n v' w' → wpList Try.prog ops Q rest (a.put o.dst v') w') : wpList Try.prog ops Q (o :: rest) a w :=
  wpList_plain hgd fun _ hK' => wp_push s x ho h hl n ad c hs hx hn fun v' w' hp => hK' _ _ (hK v' w' hp)
theorem step_pushL {w : World} {ops : Array Oper} {o : Oper} {a : Act} {K : Act → World → Prop} {Q : Exit → Act → World → Prop} {E : Prop} (hgd : o.guard = none) (s x : Operand) (ho : o.op = .call { callee := .builtin .append, args := #[s, x], argTypes := #[52, 52] })
    {ao : Option Addr} {b off cap : Nat} {xs : List Int} (h : LnAt w ao b off cap xs) (hl : xs.length ≤ 1000) (n : Int) (ad : Addr) (c : Nat) (hs : a.eval s = .slice ao xs.length cap) (hx : a.eval x = .slice (some ad) 1 c) (hn : w.cell? ad = some (.int .i64 n))
    (hK : ∀ v' w', Pushed w b cap xs n v' w' → K (a.put o.dst v') w') : if Region.wanted o (yielded ops a.tmps) = true then Oper.wp Try.prog o a w K Q else E := by
  have hw : Region.wanted o (yielded ops a.tmps) = true := by simp [Region.wanted, hgd]
  rw [if_pos hw]
  exact wp_push s x ho h hl n ad c hs hx hn hK
end Go.Proofs.Ytmmmnghiegajmaa
namespace Go.Proofs.Herald
theorem lputL_at (n key : Int) : ∀ (l : List (Int × Int)) (i : Nat) (hi : i < l.length), (∀ j (hj : j < i), (l[j]'(Nat.lt_trans hj hi)).2 ≠ key) → l[i].2 = key → lputL n key l = some (l.set i (n, key)) := by
  intro l
  induction l with
  | nil => intro i hi; simp at hi
  | cons x r ih =>
    intro i hi hlt he
    rw [lputL]
    cases i with
    | zero =>
      have he' : x.2 = key := he
      rw [if_pos he']
      rfl
    | succ i =>
      have h0 : x.2 ≠ key := hlt 0 (by omega)
      rw [if_neg h0, ih i (by simpa using hi) (fun j hj => hlt (j + 1) (by omega)) he]
      rfl
theorem lputL_none (n key : Int) : ∀ (l : List (Int × Int)), (∀ j (hj : j < l.length), l[j].2 ≠ key) → lputL n key l = none := by
  intro l
  induction l with
  | nil => intro _; rfl
  | cons x r ih =>
    intro h
    have h0 : x.2 ≠ key := h 0 (by simp)
    rw [lputL, if_neg h0, ih (fun j hj => h (j + 1) (by simpa using hj))]
    rfl
end Go.Proofs.Herald
namespace Go.Proofs.Ytmmmnghiegajmaa
open Go.RowKit Go.Proofs.Herald
/-- Where a line's rows lie. -/
structure LnS where
  na : Option Addr
  nb : Nat
  no : Nat
  nc : Nat
  ka : Option Addr
  kb : Nat
  ko : Nat
  kc : Nat
def LnS.own (s : LnS) (L k : Nat) : Prop := k = L ∨ (0 < s.nc ∧ k = s.nb) ∨ (0 < s.kc ∧ k = s.kb)
structure LineAt (w : World) (L : Nat) (l : List (Int × Int)) (sent : Int) (s : LnS) : Prop where
  blk : w.heap[L]? = some (.cells #[.slice s.na l.length s.nc, .slice s.ka l.length s.kc, .int .i64 sent] 63 (0, 0))
  num : LnAt w s.na s.nb s.no s.nc (l.map Prod.fst)
  key : LnAt w s.ka s.kb s.ko s.kc (l.map Prod.snd)
  d1 : 0 < s.nc → s.nb ≠ L
  d2 : 0 < s.kc → s.kb ≠ L
  d3 : 0 < s.nc → 0 < s.kc → s.nb ≠ s.kb
theorem LineAt.keep {w w' : World} {L : Nat} {l : List (Int × Int)} {sent : Int} {s : LnS} (h : LineAt w L l sent s) (hk : ∀ k, s.own L k → w'.heap[k]? = w.heap[k]?) : LineAt w' L l sent s :=
  ⟨(hk L (.inl rfl)).trans h.blk, h.num.keep fun hp => hk _ (.inr (.inl ⟨hp, rfl⟩)), h.key.keep fun hp => hk _ (.inr (.inr ⟨hp, rfl⟩)), h.d1, h.d2, h.d3⟩
theorem LineAt.lt {w : World} {L : Nat} {l : List (Int × Int)} {sent : Int} {s : LnS} (h : LineAt w L l sent s) {k : Nat} (hk : s.own L k) : k < w.heap.size := by
  rcases hk with rfl | ⟨hp, rfl⟩ | ⟨hp, rfl⟩
  · exact heap_lt h.blk
  · exact h.num.came.lt hp
  · exact h.key.came.lt hp
/-- What a line's method leaves. -/
def LineTo (w : World) (L : Nat) (s : LnS) (l' : List (Int × Int)) (sent' : Int) (w' : World) : Prop :=
  ∃ s', LineAt w' L l' sent' s' ∧ (∀ k, s'.own L k → s.own L k ∨ w.heap.size ≤ k) ∧ Fr (s.own L) w w'
set_option maxRecDepth 20000 in
set_option maxHeartbeats 4000000 in
theorem c_lsend (L : Nat) (l : List (Int × Int)) (sent key : Int) (s : LnS) (w : World) (h : LineAt w L l sent s) (hl : l.length ≤ 4) (h0 : 0 ≤ sent) (h1 : sent ≤ 1000000) :
    Calls Try.prog 29 #[.pointer (some ⟨L, 0, none⟩), .int .i64 key] w fun e w' => e = .returned (.tuple #[]) ∧ LineTo w L s (lsend l sent key).1 (lsend l sent key).2 w' := by
  have HL : Hid (LineAt w L l sent s) := h
  have c1 : w.cell? ⟨L, 1, none⟩ = some (.slice s.ka l.length s.kc) := (cell_of_heap h.blk).trans rfl
  have c0 : w.cell? ⟨L, 0, none⟩ = some (.slice s.na l.length s.nc) := (cell_of_heap h.blk).trans rfl
  have c2 : w.cell? ⟨L, 2, none⟩ = some (.int .i64 sent) := (cell_of_heap h.blk).trans rfl
  have f0 : w.frozen? ⟨L, 0, none⟩ = false := free_of_heap h.blk
  have f1 : w.frozen? ⟨L, 1, none⟩ = false := free_of_heap h.blk
  have f2 : w.frozen? ⟨L, 2, none⟩ = false := free_of_heap h.blk
  have hLl : L < w.heap.size := heap_lt h.blk
  clear h
  go_enter Try.func29, Try.ntmps29
  go_wp2_with fail
  go_loopw [4] (fun iv wr => ∃ i : Nat, i ≤ l.length ∧ iv = .int .i64 (i : Nat) ∧ wr = w ∧ Hid (∀ j (hj : j < i) (hjl : j < l.length), l[j].2 ≠ key)) (fun iv _ => l.length - (intOf iv).toNat)
  case atStart => exact ⟨0, by omega, rfl, rfl, fun j hj => absurd hj (by omega)⟩
  case round =>
    obtain ⟨i, hi, rfl, rfl, HN⟩ := hrel
    by_cases hlt : i < l.length
    · obtain ⟨k1, k2, k3⟩ := HL.out.key.cell (i := i) (by rw [List.length_map]; exact hlt)
      rw [List.getElem_map] at k3
      rw [k1] at c1
      by_cases hk : l[i].2 = key
      · have b1 : (l[i].2 == key) = true := by simpa using hk
        have hput : (lsend l sent key) = (l.set i (sent + 1, key), sent + 1) := by
          unfold lsend
          rw [lputL_at (sent + 1) key l i hlt (fun j hj => HN.out j hj (by omega)) hk]
        have HFIN : Hid (∀ W, W.heap = ((wr.setCell ⟨L, 2, none⟩ (.int .i64 (sent + 1))).setCell ⟨s.nb, s.no + i, none⟩ (.int .i64 (sent + 1))).heap → W.os = wr.os → W.tape = wr.tape → W.output = wr.output → LineTo wr L s (lsend l sent key).1 (lsend l sent key).2 W) := fun W e1 e2 e3 e4 => by
          rw [hput]
          obtain ⟨n1, n2, n3⟩ := HL.out.num.cell (i := i) (by rw [List.length_map]; exact hlt)
          have nc0 : 0 < s.nc := by have := HL.out.num.le; rw [List.length_map] at this; omega
          have kc0 : 0 < s.kc := by have := HL.out.key.le; rw [List.length_map] at this; omega
          have d1 := HL.out.d1 nc0
          have d2 := HL.out.d2 kc0
          have d3 := HL.out.d3 nc0 kc0
          have hLb : W.heap[L]? = some (.cells #[.slice s.na l.length s.nc, .slice s.ka l.length s.kc, .int .i64 (sent + 1)] 63 (0, 0)) := by
            rw [e1, Below.heap_setCell _ _ _ _ (by show L ≠ s.nb; omega), heap_setCell_self _ HL.out.blk]
            rfl
          have hnum := ((HL.out.num.keep (w' := wr.setCell ⟨L, 2, none⟩ (.int .i64 (sent + 1))) fun _ => Below.heap_setCell _ _ _ _ (by show s.nb ≠ L; omega)).put (i := i) (by rw [List.length_map]; exact hlt) (sent + 1)).keep (w' := W) fun _ => by rw [e1]
          have hkey := HL.out.key.keep (w' := W) fun _ => by rw [e1, Below.heap_setCell _ _ _ _ (by show s.kb ≠ s.nb; omega), Below.heap_setCell _ _ _ _ (by show s.kb ≠ L; omega)]
          have en : (l.set i (sent + 1, key)).map Prod.fst = (l.map Prod.fst).set i (sent + 1) := by rw [List.map_set]
          have ek : (l.set i (sent + 1, key)).map Prod.snd = l.map Prod.snd := by
            rw [List.map_set]
            have e5 : (l.map Prod.snd)[i]'(by rw [List.length_map]; exact hlt) = key := by rw [List.getElem_map]; exact hk
            conv => lhs; rw [← e5]
            exact List.set_getElem_self _
          refine ⟨s, ⟨by rw [List.length_set]; exact hLb, by rw [en]; exact hnum, by rw [ek]; exact hkey, HL.out.d1, HL.out.d2, HL.out.d3⟩, fun k hk => .inl hk, ?_⟩
          have hf := (((Fr.refl (s.own L) wr).setCell ⟨L, 2, none⟩ (.inl (.inl rfl)) (.int .i64 (sent + 1))).setCell ⟨s.nb, s.no + i, none⟩ (.inl (.inr (.inl ⟨nc0, rfl⟩))) (.int .i64 (sent + 1)))
          exact ⟨e2, e3, e4, by rw [e1]; exact hf.size, fun k hk hn => by rw [e1]; exact hf.block k hk hn⟩
        obtain ⟨n1, n2, n3⟩ := HL.out.num.cell (i := i) (by rw [List.length_map]; exact hlt)
        have nf := HL.out.num.free i (by rw [List.length_map]; exact hlt)
        have hne : s.nb ≠ L := HL.out.d1 (by have := HL.out.num.le; rw [List.length_map] at this; omega)
        rw [List.getElem_map] at n3
        rw [n1] at c0
        generalize l[i].2 = kk at *
        generalize l[i].1 = nn at *
        clear hput hk
        go_wp2_with fail
        go_region
        all_goals
          go_wp2_with fail
          (try simp only [Exit.inBlock, Exit.then])
          refine bodyPost_ret (results_none rfl _ _ _) rfl ?_
          exact ⟨rfl, HFIN.out _ rfl rfl rfl rfl⟩
      · have b1 : (l[i].2 == key) = false := by simpa using hk
        have HN2 : Hid (∀ j (hj : j < i + 1) (hjl : j < l.length), l[j].2 ≠ key) := fun j hj hjl => by
          by_cases he : j = i
          · subst he; exact hk
          · exact HN.out j (by omega) hjl
        generalize l[i].2 = kk at *
        clear hk
        go_wp2_with fail
        go_roundw
        case rel => exact ⟨i + 1, by omega, by go_num, trivial, HN2.out⟩
        case measure => simp [intOf]; omega
    · have hnone : lputL (sent + 1) key l = none := lputL_none _ _ l fun j hj => HN.out j (by omega) hj
      by_cases h4 : l.length < 4
      · have hput : lsend l sent key = (l ++ [(sent + 1, key)], sent + 1) := by
          unfold lsend
          rw [hnone]
          exact if_pos h4
        have d1 := HL.out.d1
        have d2 := HL.out.d2
        have d3 := HL.out.d3
        obtain ⟨V, hV⟩ : ∃ V, V = wr.setCell ⟨L, 2, none⟩ (.int .i64 (sent + 1)) := ⟨_, rfl⟩
        have HV : Hid (V.heap[L]? = some (.cells #[.slice s.na l.length s.nc, .slice s.ka l.length s.kc, .int .i64 (sent + 1)] 63 (0, 0)) ∧ LnAt V s.na s.nb s.no s.nc (l.map Prod.fst) ∧ LnAt V s.ka s.kb s.ko s.kc (l.map Prod.snd) ∧ Fr (s.own L) wr V) := by
          rw [hV]
          refine ⟨by rw [heap_setCell_self _ HL.out.blk]; rfl, HL.out.num.keep fun hp => Below.heap_setCell _ _ _ _ (d1 hp), HL.out.key.keep fun hp => Below.heap_setCell _ _ _ _ (d2 hp), (Fr.refl _ _).setCell ⟨L, 2, none⟩ (.inl (.inl rfl)) _⟩
        go_upto_region 8 with fail
        rw [← hV]
        clear hV c0 c1 c2 f0 f1 f2 hLl
        have c0 : V.cell? ⟨L, 0, none⟩ = some (.slice s.na l.length s.nc) := (cell_of_heap HV.out.1).trans rfl
        have c1 : V.cell? ⟨L, 1, none⟩ = some (.slice s.ka (l.map Prod.snd).length s.kc) := by rw [List.length_map]; exact (cell_of_heap HV.out.1).trans rfl
        have f1 : V.frozen? ⟨L, 1, none⟩ = false := free_of_heap HV.out.1
        have hLl : L < V.heap.size := heap_lt HV.out.1
        have HK1 : Hid (LnAt (V.alloc (.cells #[.int .i64 key] 3)) s.ka s.kb s.ko s.kc (l.map Prod.snd)) := HV.out.2.2.1.keep fun hp => Below.heap_alloc _ _ _ (HV.out.2.2.1.came.lt hp)
        have HKS : Hid ((l.map Prod.snd).length = l.length) := by show _ = _; exact List.length_map ..
        have hks4 : (l.map Prod.snd).length < 4 := by rw [List.length_map]; exact h4
        generalize hkl : l.map Prod.snd = ks at c1 HK1 HKS hks4
        go_wp2_with (at_builtin; (refine wpList_push rfl (.tmp 57) (.tmp 59) rfl HK1.out (by omega) key ⟨V.heap.size, 0, none⟩ 1 rfl rfl ((cell_of_heap (heap_alloc_new _ _)).trans rfl) ?_))
        intro v2 w2 hp
        obtain ⟨⟨ka2, kb2, ko2, kc2, rfl, hk2, hb2⟩, fr2⟩ := hp
        have hsz : (V.alloc (.cells #[.int .i64 key] 3)).heap.size = V.heap.size + 1 := by simp
        have hLV : V.heap.size ≤ w2.heap.size := by have := fr2.size; rw [hsz] at this; omega
        rw [hsz] at hb2
        have keep2 : ∀ k, k < V.heap.size → (0 < s.kc → k ≠ s.kb) → w2.heap[k]? = V.heap[k]? := fun k hk hn => (fr2.block k (by rw [hsz]; omega) fun he => hn he.1 he.2).trans (Below.heap_alloc _ _ _ hk)
        have hL2 : w2.heap[L]? = some (.cells #[.slice s.na l.length s.nc, .slice s.ka l.length s.kc, .int .i64 (sent + 1)] 63 (0, 0)) := (keep2 L hLl fun hp he => d2 hp he.symm).trans HV.out.1
        have g1 : w2.cell? ⟨L, 1, none⟩ = some (.slice s.ka l.length s.kc) := (cell_of_heap hL2).trans rfl
        have z1 : w2.frozen? ⟨L, 1, none⟩ = false := free_of_heap hL2
        have hLl2 : L < w2.heap.size := heap_lt hL2
        have hn2 : LnAt w2 s.na s.nb s.no s.nc (l.map Prod.fst) := HV.out.2.1.keep fun hp => keep2 _ (HV.out.2.1.came.lt hp) fun hp2 => d3 hp hp2
        have kL : 0 < kc2 → kb2 ≠ L := fun _ he => by
          rcases hb2 with ⟨hp, h3⟩ | h3
          · exact d2 hp (h3.symm.trans he)
          · omega
        have kN : 0 < s.nc → kb2 ≠ s.nb := fun hp he => by
          rcases hb2 with ⟨hp2, h3⟩ | h3
          · exact d3 hp hp2 (he.symm.trans h3)
          · have := HV.out.2.1.came.lt hp
            omega
        have H2 : Hid (w2.heap[L]? = some (.cells #[.slice s.na l.length s.nc, .slice s.ka l.length s.kc, .int .i64 (sent + 1)] 63 (0, 0)) ∧ LnAt w2 s.na s.nb s.no s.nc (l.map Prod.fst) ∧ LnAt w2 ka2 kb2 ko2 kc2 (ks ++ [key]) ∧ (0 < kc2 → kb2 ≠ L) ∧ (0 < s.nc → kb2 ≠ s.nb) ∧ ((0 < s.kc ∧ kb2 = s.kb) ∨ V.heap.size + 1 ≤ kb2) ∧ Fr (s.own L) wr w2) := by
          refine ⟨hL2, hn2, hk2, kL, kN, hb2, ?_⟩
          have hfA := HV.out.2.2.2.alloc (.cells #[.int .i64 key] 3)
          exact hfA.trans (fr2.mono fun k _ he => .inr (.inr he))
        clear fr2 hL2 hn2 hk2 kL kN hb2 keep2 hsz HK1 c0 c1 f1 hLl
        go_upto_region 9 with fail
        obtain ⟨U, hU⟩ : ∃ U, U = w2.setCell ⟨L, 1, none⟩ (.slice ka2 (ks.length + 1) kc2) := ⟨_, rfl⟩
        rw [← hU]
        have HU : Hid (U.heap[L]? = some (.cells #[.slice s.na l.length s.nc, .slice ka2 (ks.length + 1) kc2, .int .i64 (sent + 1)] 63 (0, 0)) ∧ LnAt U s.na s.nb s.no s.nc (l.map Prod.fst) ∧ LnAt U ka2 kb2 ko2 kc2 (ks ++ [key]) ∧ Fr (s.own L) wr U) := by
          rw [hU]
          refine ⟨by rw [heap_setCell_self _ H2.out.1]; rfl, H2.out.2.1.keep fun hp => Below.heap_setCell _ _ _ _ (d1 hp), H2.out.2.2.1.keep fun hp => Below.heap_setCell _ _ _ _ (H2.out.2.2.2.1 hp), H2.out.2.2.2.2.2.2.setCell ⟨L, 1, none⟩ (.inl (.inl rfl)) _⟩
        have HUs : Hid (V.heap.size ≤ w2.heap.size ∧ wr.heap.size ≤ V.heap.size ∧ w2.heap.size = U.heap.size ∧ (0 < kc2 → kb2 ≠ L) ∧ (0 < s.nc → kb2 ≠ s.nb) ∧ ((0 < s.kc ∧ kb2 = s.kb) ∨ V.heap.size + 1 ≤ kb2)) := by
          refine ⟨hLV, HV.out.2.2.2.size, by rw [hU]; simp, H2.out.2.2.2.1, H2.out.2.2.2.2.1, H2.out.2.2.2.2.2.1⟩
        clear hU H2 g1 z1 hLl2
        have c0 : U.cell? ⟨L, 0, none⟩ = some (.slice s.na (l.map Prod.fst).length s.nc) := by rw [List.length_map]; exact (cell_of_heap HU.out.1).trans rfl
        have c2 : U.cell? ⟨L, 2, none⟩ = some (.int .i64 (sent + 1)) := (cell_of_heap HU.out.1).trans rfl
        have f0 : U.frozen? ⟨L, 0, none⟩ = false := free_of_heap HU.out.1
        have hLl : L < U.heap.size := heap_lt HU.out.1
        have HN1 : Hid (LnAt ((U.alloc (.cells #[.int .i64 (sent + 1)] 3)).drew) s.na s.nb s.no s.nc (l.map Prod.fst)) := HU.out.2.1.keep fun hp => Below.heap_alloc U _ _ (HU.out.2.1.came.lt hp)
        have HNS : Hid ((l.map Prod.fst).length = l.length) := by show _ = _; exact List.length_map ..
        have hns4 : (l.map Prod.fst).length < 4 := by rw [List.length_map]; exact h4
        generalize hnl : l.map Prod.fst = ns at c0 HN1 HNS hns4
        go_region_law (refine step_pushL rfl (.tmp 67) (.tmp 72) rfl HN1.out (by omega) (sent + 1) ⟨U.heap.size, 0, none⟩ 1 (by rfl) (by rfl) (by exact (cell_of_heap (heap_alloc_new U _)).trans rfl) ?_; intro v3 w3 hp3; obtain ⟨⟨na3, nb3, no3, nc3, rfl, hn3, hb3⟩, fr3⟩ := hp3; have hL3 : w3.heap[L]? = U.heap[L]? := (fr3.block L (by simp; omega) fun he => d1 he.1 he.2.symm).trans (Below.heap_alloc U _ _ hLl); have g0 : w3.cell? ⟨L, 0, none⟩ = some (.slice s.na l.length s.nc) := (cell_of_heap (hL3.trans HU.out.1)).trans rfl; have z0 : w3.frozen? ⟨L, 0, none⟩ = false := free_of_heap (hL3.trans HU.out.1); have hLl3 : L < w3.heap.size := heap_lt (hL3.trans HU.out.1))
        all_goals
          go_wp2_with fail
          go_end0
          refine ⟨rfl, ?_⟩
          rw [hput]
          have sz3 : U.heap.size + 1 ≤ w3.heap.size := by have := fr3.size; simpa using this
          have hb3' : (0 < s.nc ∧ nb3 = s.nb) ∨ U.heap.size + 1 ≤ nb3 := by
            rcases hb3 with h | h
            · exact .inl h
            · exact .inr (by simpa using h)
          have nL : nb3 ≠ L := fun he => by
            rcases hb3' with ⟨hp, h3⟩ | h3
            · exact d1 hp (h3.symm.trans he)
            · omega
          obtain ⟨u1, u2, u3, u4, u5, u6⟩ := HUs.out
          have hkeyK : LnAt w3 ka2 kb2 ko2 kc2 (ks ++ [key]) := HU.out.2.2.1.keep fun hp => (fr3.block kb2 (by have := HU.out.2.2.1.came.lt hp; simp; omega) fun he => u5 he.1 he.2).trans (Below.heap_alloc U _ _ (HU.out.2.2.1.came.lt hp))
          have len1 : (l ++ [(sent + 1, key)]).length = ns.length + 1 := by rw [List.length_append, HNS.out]; rfl
          have len2 : (l ++ [(sent + 1, key)]).length = ks.length + 1 := by rw [List.length_append, HKS.out]; rfl
          refine ⟨⟨na3, nb3, no3, nc3, ka2, kb2, ko2, kc2⟩, ⟨?_, ?_, ?_, fun _ => nL, u4, fun _ hp2 he => ?_⟩, fun k hk => ?_, ?_⟩
          · have e1 : (Value.slice na3 (l ++ [(sent + 1, key)]).length nc3) = .slice na3 (ns.length + 1) nc3 := by rw [len1]
            have e2 : (Value.slice ka2 (l ++ [(sent + 1, key)]).length kc2) = .slice ka2 (ks.length + 1) kc2 := by rw [len2]
            show _ = some (Obj.cells #[Value.slice na3 (l ++ [(sent + 1, key)]).length nc3, Value.slice ka2 (l ++ [(sent + 1, key)]).length kc2, .int .i64 (sent + 1)] 63 (0, 0))
            rw [e1, e2, heap_setCell_self _ (hL3.trans HU.out.1)]
            rfl
          · have e : (l ++ [(sent + 1, key)]).map Prod.fst = ns ++ [sent + 1] := by rw [List.map_append, hnl]; rfl
            rw [e]
            exact hn3.keep fun _ => Below.heap_setCell _ _ _ _ nL
          · have e : (l ++ [(sent + 1, key)]).map Prod.snd = ks ++ [key] := by rw [List.map_append, hkl]; rfl
            rw [e]
            exact hkeyK.keep fun hp => Below.heap_setCell _ _ _ _ (u4 hp)
          · have h3 : nb3 = kb2 := he
            rcases hb3' with ⟨hp, h4⟩ | h4
            · exact u5 hp (h3.symm.trans h4)
            · have := HU.out.2.2.1.came.lt hp2
              omega
          · rcases hk with hk | ⟨_, hk⟩ | ⟨_, hk⟩
            · exact .inl (.inl hk)
            · have hk' : k = nb3 := hk
              rw [hk']
              rcases hb3' with ⟨hp, h4⟩ | h4
              · exact .inl (.inr (.inl ⟨hp, h4⟩))
              · exact .inr (by omega)
            · have hk' : k = kb2 := hk
              rw [hk']
              rcases u6 with ⟨hp, h4⟩ | h4
              · exact .inl (.inr (.inr ⟨hp, h4⟩))
              · exact .inr (by omega)
          · exact ((((HU.out.2.2.2.alloc (.cells #[.int .i64 (sent + 1)] 3)).drew).trans (fr3.mono fun k _ he => .inr (.inl he))).setCell ⟨L, 0, none⟩ (.inl (.inl rfl)) _)
      · have hput : lsend l sent key = (l, sent) := by
          unfold lsend
          rw [hnone]
          exact if_neg h4
        go_wp2_with fail
        go_end0
        rw [hput]
        exact ⟨rfl, s, HL.out, fun k hk => .inl hk, Fr.refl _ _⟩
end Go.Proofs.Ytmmmnghiegajmaa
