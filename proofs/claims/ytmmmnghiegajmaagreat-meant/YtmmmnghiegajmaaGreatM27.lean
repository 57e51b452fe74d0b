import Derived.Test.YtmmmnghiegajmaaGreatM10
import Derived.Test.YtmmmnghiegajmaaGreatM01
import Derived.Laws.AppendOwnNone
import Derived.Deep.DeepCutAuto
import Derived.Test.YtmmmnghiegajmaaGreatM26
set_option maxHeartbeats 1000000
namespace Go.Proofs.YtmmmnghiegajmaaGreat
open Go.RowKit Go.Proofs.Herald
theorem zev {w:World}{R:Nat}{e:TypeId}{u0 u1 u2:Value}(h:w.heap[R]?=some (.cells #[u0,u1,u2] e (0,0))):
  w.cell? ⟨R,0,none⟩=some u0/\w.cell? ⟨R,1,none⟩=some u1/\w.cell? ⟨R,2,none⟩=some u2/\w.frozen? ⟨R,0,none⟩=false/\w.frozen? ⟨R,1,none⟩=false/\w.frozen? ⟨R,2,none⟩=false:=
 ⟨(zaa h).trans rfl,(zaa h).trans rfl,(zaa h).trans rfl,zab h,zab h,zab h⟩
theorem zmt (u0 u1 u2:Value)(w:World):
  (Instr.index 110 (.agg #[u0,u1,u2]) (.int .i64 0)).run Tryz.prog w=.ok (.agg #[u0]) w/\(Instr.index 110 (.agg #[u0,u1,u2]) (.int .i64 1)).run Tryz.prog w=.ok (.agg #[u1]) w/\(Instr.index 110 (.agg #[u0,u1,u2]) (.int .i64 2)).run Tryz.prog w=.ok (.agg #[u2]) w:=by
 refine ⟨?_,?_,?_⟩ <;> simp [Instr.index,run_underlying Tryz.underlying110,asIntOf,go_sem]
open Go.RowKit Go.Proofs.Herald
def zpb (w:World)(S Q:Nat)(cv:Value):Prop:=
 w.heap[S]?=some (.cells #[.bool false,.slice none 0 0,cv,.int .i64 0,.int .i64 0,.slice none 0 0,.slice (some ⟨Q,0,none⟩) 3 3,.string ⟨#[]⟩] 60 (0,0))/\w.heap[Q]?=some (.cells #[.slice none 0 0,.slice none 0 0,.slice none 0 0] 99 (0,0))
theorem Tryz.infoMsgs:(Tryz.prog.info? 99).map (fun i=>(i.zero,i.size,i.bytes))=some (some (.slice none 0 0),1,24):=by kernel_rfl
theorem zmR (w:World):Calls Tryz.prog 32 #[] w fun e w'=>∃ S Q,e=.returned (.pointer (some ⟨S,0,none⟩))/\w.heap.size<=S/\w.heap.size<=Q/\zpb w' S Q (.slice none 0 0)/\Below w.heap.size w w':=by
 obtain ⟨i0,hi,hz0,hz1,hz2⟩:=info_parts Tryz.infoMsgs
 go_enter Tryz.func32,Tryz.ntmps32
 go_wp2_with (at_make;refine wpList_make_full _ rfl _ _ 58 rfl w.heap.size 99 i0 _ 1 Tryz.underlying58 hi hz0 hz1 _ _ _ _ 3 rfl rfl rfl rfl (by rw [hz2];omega) (by unfold maxLen;omega) (Nat.le_refl _) ?_)
 intro w1 hown1 hgrow1
 have g1:w1.heap[w.heap.size]?=some (.cells #[.slice none 0 0,.slice none 0 0,.slice none 0 0] 99 (0,0)):=by
  rcases hown1.2 with ⟨h,_⟩|⟨g,c,cur,hv,hb,hg,h1,h2,h3,h4⟩
  .cases h
  .simp at hv
   obtain ⟨rfl,rfl⟩:=hv
   rw [hg]
   have e1:cur.toList=[.slice none 0 0,.slice none 0 0,.slice none 0 0]:=by
    have:cur.toList.take (3*1)=cur.toList:=List.take_of_length_le (by simp;omega)
    rw [<- this,h4];simp [madeCells,List.range,List.range.loop]
   have e2:cur=#[.slice none 0 0,.slice none 0 0,.slice none 0 0]:=by
    apply Array.ext'
    exact e1
   rw [e2]
 have HB1:Hid (Below w.heap.size w w1):=(Below.refl _ _).grown hgrow1 (Nat.le_refl _) (fun k hk=>by cases hk)
 have HG:=zHd g1
 clear hown1 hgrow1 g1
 go_wp2_with fail
 go_ret
 exact ⟨_,_,rfl,HB1.out.size,Nat.le_refl _,⟨heap_alloc_new _ _,by rw [Below.heap_alloc _ _ _ (zae HG.out)];exact HG.out⟩,HB1.out.alloc HB1.out.size _⟩
open Go.RowKit Go.Proofs.Herald
theorem BookOk.keep {w w':World}{X:Nat->Prop}{e:TypeId}{k:Nat}{b:Value×List Value}(h:BookOk w X e k b)(hk:∀ j,X j->w'.heap[j]?=w.heap[j]?):BookOk w' X e k b:=by
 obtain ⟨h1,m,hm,h2,h3⟩:=h
 exact ⟨h1,m,hm,zaj h2 fun g hg=>hk g (h3 g hg),h3⟩
theorem OwnAt.keep {w w':World}{X:Nat->Prop}{O:Nat}{n:Int}{cv rv qv:Value}{cb rb qb:List (Value×List Value)}(h:OwnAt w X O n cv rv qv cb rb qb)(hk:∀ j,X j->w'.heap[j]?=w.heap[j]?):OwnAt w' X O n cv rv qv cb rb qb:=
 ⟨(hk O h.inO).trans h.blk,h.inO,zaj h.cown fun g hg=>hk g (h.cin g hg),zaj h.rown fun g hg=>hk g (h.rin g hg),zaj h.qown fun g hg=>hk g (h.qin g hg),h.cin,h.rin,h.qin,
  fun b hb=>(h.cbk b hb).keep hk,fun b hb=>(h.rbk b hb).keep hk,fun b hb=>(h.qbk b hb).keep hk⟩
end Go.Proofs.YtmmmnghiegajmaaGreat
