import Derived.Laws.AppendOwnNone
import Derived.Test.YtmmmnghiegajmaaGreatM14
set_option maxHeartbeats 1000000
open Go.RowKit Go.Proofs.Herald Go.Proofs.Tryz
namespace Go.Proofs.YtmmmnghiegajmaaGreat
theorem lh {w:World}{R:Nat}{e:TypeId}{u0 u1 u2:Value}(h:w.heap[R]?=some (.cells #[u0,u1,u2] e (0,0))):
  w.cell? ⟨R,0,none⟩=some u0/\w.cell? ⟨R,1,none⟩=some u1/\w.cell? ⟨R,2,none⟩=some u2/\w.frozen? ⟨R,0,none⟩=false/\w.frozen? ⟨R,1,none⟩=false/\w.frozen? ⟨R,2,none⟩=false:=
 ⟨(ag h).trans rfl,(ag h).trans rfl,(ag h).trans rfl,aC h,aC h,aC h⟩
theorem Cr (u0 u1 u2:Value)(w:World):
  (Instr.index 110 (.agg #[u0,u1,u2]) (.int .i64 0)).run prog w=.ok (.agg #[u0]) w/\(Instr.index 110 (.agg #[u0,u1,u2]) (.int .i64 1)).run prog w=.ok (.agg #[u1]) w/\(Instr.index 110 (.agg #[u0,u1,u2]) (.int .i64 2)).run prog w=.ok (.agg #[u2]) w:=by
 refine⟨?_,?_,?_⟩ <;> simp[Instr.index,run_underlying underlying110,asIntOf,go_sem]
def yj (w:World)(S Q:Nat)(cv:Value):Prop:=
 w.heap[S]?=some (.cells #[.bool false,.slice none 0 0,cv,.int .i64 0,.int .i64 0,.slice none 0 0,.slice (some ⟨Q,0,none⟩) 3 3,.string ⟨#[]⟩] 60)/\w.heap[Q]?=some (.cells #[.slice none 0 0,.slice none 0 0,.slice none 0 0] 99)
theorem Tryz.infoMsgs:(prog.info? 99).map (fun i=>(i.zero,i.size,i.bytes))=some (some (.slice none 0 0),1,24):=by kernel_rfl
theorem BQ (w:World):Calls prog 32 #[] w fun e w'=>∃ S Q,e=.returned (.pointer (some ⟨S,0,none⟩))/\w.heap.size<=S/\w.heap.size<=Q/\yj w' S Q (.slice none 0 0)/\Below w.heap.size w w':=by
 obtain⟨i0,hi,A1,A2,A3⟩:=info_parts Tryz.infoMsgs;go_enter func32,ntmps32
 go_wp2_with (at_make;refine wpList_make_full _ rfl _ _ 58 rfl w.heap.size 99 i0 _ 1 underlying58 hi A1 A2 _ _ _ _ 3 rfl rfl rfl rfl (by rw[A3];omega) (by unfold maxLen;omega) (v9 _) ?_)
 intro w1 hown1 hgrow1;have g1:w1.heap[w.heap.size]?=some (.cells #[.slice none 0 0,.slice none 0 0,.slice none 0 0] 99):=by
  rcases hown1.2 with ⟨h,_⟩|⟨g,c,cur,hv,hb,hg,h1,h2,h3,h4⟩
  .cases h
  .simp at hv;obtain⟨rfl,rfl⟩:=hv;rw[hg];have e1:cur.toList=[.slice none 0 0,.slice none 0 0,.slice none 0 0]:=by
    have:cur.toList.take (3*1)=cur.toList:=Qe (by simp;omega);rw[<- this,h4];simp[madeCells,List.range,List.range.loop]
   have e2:cur=#[.slice none 0 0,.slice none 0 0,.slice none 0 0]:=by
    apply Array.ext';exact e1
   rw[e2]
 have A0:Hid (Below w.heap.size w w1):=(v7 _ _).grown hgrow1 (v9 _) (fun k hk=>by cases hk);have HG:=ah g1;clear hown1 hgrow1 g1;go_wp2_with fail
 go_ret;exact⟨_,_,rfl,A0.size,v9 _,⟨v8 _ _,by rw[q9 _ _ _ (ak HG)];exact HG⟩,A0.alloc A0.size _⟩
theorem dv.keep {w w':World}{X:Nat->Prop}{e:TypeId}{k:Nat}{b:Value×List Value}(h:dv w X e k b)(hk:∀ j,X j->w'.heap[j]?=w.heap[j]?):dv w' X e k b:=by
 obtain⟨h1,m,hm,h2,h3⟩:=h;exact⟨h1,m,hm,aT h2 fun g hg=>hk g (h3 g hg),h3⟩
theorem dn.keep {w w':World}{X:Nat->Prop}{O:Nat}{n:Int}{cv rv qv:Value}{cb rb qb:List (Value×List Value)}(h:dn w X O n cv rv qv cb rb qb)(hk:∀ j,X j->w'.heap[j]?=w.heap[j]?):dn w' X O n cv rv qv cb rb qb:=
 ⟨(hk O h.inO).trans h.blk,h.inO,aT h.cown fun g hg=>hk g (h.cin g hg),aT h.rown fun g hg=>hk g (h.rin g hg),aT h.qown fun g hg=>hk g (h.qin g hg),h.cin,h.rin,h.qin,
  fun b hb=>(h.cbk b hb).keep hk,fun b hb=>(h.rbk b hb).keep hk,fun b hb=>(h.qbk b hb).keep hk⟩
end Go.Proofs.YtmmmnghiegajmaaGreat
