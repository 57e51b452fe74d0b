import Derived.Test.YtmmmnghiegajmabGreatM28
import Derived.Test.YtmmmnghiegajmabGreatM08
import Derived.BigQuiet
/- What the queues, the runs and the drained messages of a herald keep: plain mathematics of Bounded. -/
namespace Go.Proofs.Herald
/-- Two messages that may lie beside one another: not of one run and key, nor of one run and number. -/
def apartM (a b : Msg) : Prop := a.run = b.run → a.key ≠ b.key ∧ a.num ≠ b.num
/-- A message that was drained, and one that may still be. -/
def olderM (o m : Msg) : Prop := o.run = m.run → o.dev = m.dev ∧ o.num ≠ m.num ∧ (o.key = m.key → o.num < m.num)
/-- A message of a device. -/
def fineM (dev : Int) (m : Msg) : Prop := 0 < m.num ∧ 0 < m.run ∧ 0 ≤ m.key ∧ m.key ≤ 7 ∧ m.dev = dev
/-- What a herald's queues and runs keep; O: what was drained. -/
structure HB (O : List Msg) (h : Her Pr) : Prop where
  dist : ∀ d, (h.qs d).Pairwise apartM
  fine : ∀ d, ∀ m ∈ h.qs d, fineM (d : Nat) m
  last : ∀ d, ∀ m ∈ h.qs d, m.run ≤ h.last
  own : ∀ r ∈ h.rs, ∀ d, ∀ m ∈ h.qs d, m.run = r.id → m.num ≤ r.sent ∧ r.dev = (d : Nat)
  old : ∀ r ∈ h.rs, ∀ o ∈ O, o.run = r.id → o.num ≤ r.sent ∧ o.dev = r.dev
  oldl : ∀ o ∈ O, o.run ≤ h.last
  rel : ∀ o ∈ O, ∀ d, ∀ m ∈ h.qs d, olderM o m
  cross : ∀ d e, ∀ m ∈ h.qs d, ∀ x ∈ h.qs e, m.run = x.run → d = e
  num : ∀ r ∈ h.rs, 0 < r.id ∧ 0 ≤ r.num ∧ r.num ≤ r.sent
  ids : h.rs.Pairwise fun a b => a.id < b.id
theorem HB.new : HB [] newH := ⟨fun _ => List.Pairwise.nil, fun _ m hm => (by simp [newH] at hm), fun _ m hm => (by simp [newH] at hm), fun r hr => (by simp [newH] at hr), fun r hr => (by simp [newH] at hr), fun o ho => (by cases ho), fun o ho => (by cases ho), fun d e m hm => (by simp [newH] at hm), fun r hr => (by simp [newH] at hr), List.Pairwise.nil⟩
theorem HB.now {O : List Msg} {h : Her Pr} (H : HB O h) (t : Int) : HB O { h with now := t } := ⟨H.dist, H.fine, H.last, H.own, H.old, H.oldl, H.rel, H.cross, H.num, H.ids⟩
theorem HB.sub {O : List Msg} {h : Her Pr} (H : HB O h) {qs : Nat → List Msg} {rs : List Pr} (hq : ∀ d, (qs d).Sublist (h.qs d)) (hr : rs.Sublist h.rs) : HB O { h with qs := qs, rs := rs } :=
  ⟨fun d => (H.dist d).sublist (hq d), fun d m hm => H.fine d m ((hq d).mem hm), fun d m hm => H.last d m ((hq d).mem hm), fun r hr' d m hm => H.own r (hr.mem hr') d m ((hq d).mem hm), fun r hr' => H.old r (hr.mem hr'), H.oldl, fun o ho d m hm => H.rel o ho d m ((hq d).mem hm), fun d e m hm x hx => H.cross d e m ((hq d).mem hm) x ((hq e).mem hx), fun r hr' => H.num r (hr.mem hr'), H.ids.sublist hr⟩
end Go.Proofs.Herald
/- A drained message is newer than all before it; a state is sane. -/
namespace Go.Proofs.YtmmmnghiegajmabGreat
open Go.RowKit Go.Proofs.Herald
theorem row_below {w w' : World} {e : TypeId} {k n : Nat} {v : Value} {l : List Value} (h : w.ownsRow 0 e k v n l) (hb : Below w.heap.size w w') : w'.ownsRow 0 e k v n l :=
  own_keep h fun b hb' => by
    obtain ⟨c, hc⟩ := own_block h hb'
    exact hb.block b (heap_lt hc)
end Go.Proofs.YtmmmnghiegajmabGreat
