import Derived.Test.YtmmmnghiegajmaaGreatM39
import Derived.Test.YtmmmnghiegajmaaGreatM49
set_option maxHeartbeats 2000000
open Go.RowKit Go.Proofs.Herald Go.Proofs.Tryz
namespace Go.Proofs.YtmmmnghiegajmaaGreat
theorem uw (t:ByteArray)(ht:t.size<=400)(tr:af 5)(hT:bu t tr)(w:World):
  Calls prog 8 #[.string t] w fun e w'=>∃ S Q pg,e=.returned (.pointer (some ⟨S,0,none⟩))/\w.heap.size<=S/\w.heap.size<=Q /\
   (w'.heap[S]?=some (.cells #[.bool true,pg,.slice none 0 0,.int .i64 0,.int .i64 0,.slice none 0 0,.slice (some ⟨Q,0,none⟩) 3 3,.string ⟨#[]⟩] 60)/\w'.heap[Q]?=some (.cells #[.slice none 0 0,.slice none 0 0,.slice none 0 0] 99)) /\
   ai t w' (fun _=>True) 5 pg tr/\Below w.heap.size w w':=by
 have HG:Hid (GT t 5 (dC t.data.toList) tr):=hT.words;have B5:(dC t.data.toList).length<=400:=by
  have h2:=ky t.data.toList;have h3:t.data.toList.length=t.size:=by simp
  omega
 clear hT;go_enter func8,ntmps8
 go_wp2_with fail
 refine(BQ _).mono ?_;rintro e w1 ⟨S,Q,rfl,hS,hQ,hn,hb⟩;have c0:w1.cell? ⟨S,0,none⟩=some (.bool false):=(ag hn.1).trans rfl;have z0:w1.frozen? ⟨S,0,none⟩=false:=aC hn.1;have HN:Hid (yj w1 S Q (.slice none 0 0)/\Below w.heap.size w w1):=⟨hn,hb⟩;clear hn hb;go_wp2_with fail
 refine(qj t _ ht).mono ?_;rintro e w2 ⟨a,B0,L,rfl,A3,A6,B1⟩;generalize dC t.data.toList=ws at *;have A9:Hid (Calls prog 24 #[.slice a ws.length B0] w2 fun e w'=>∃ aa na ca,e=.returned (.slice aa na ca)/\ai t w' (fun k=>w2.heap.size<=k) 5 (.slice aa na ca) tr/\Below w2.heap.size w2 w'):=
  vU t ht 5 ws tr a L 0 B0 ws.length w2 rfl HG B5 A3 (fun h=>⟨(A6 h).1,(A6 h).2.2.1,(A6 h).2.2.2⟩)
 have A4:=ah B1;clear A6 B1 B5 A3;go_wp2_with fail
 refine A9.mono ?_;rintro e w3 ⟨aa,na,ca,rfl,B4,B2⟩;have B3:(w1.setCell ⟨S,0,none⟩ (.bool true)).heap.size=w1.heap.size:=by simp
 have A1:=A4.trans (B2.mono A4.size);have A5:(w1.setCell ⟨S,0,none⟩ (.bool true)).heap[S]?=some (.cells #[.bool true,.slice none 0 0,.slice none 0 0,.int .i64 0,.int .i64 0,.slice none 0 0,.slice (some ⟨Q,0,none⟩) 3 3,.string ⟨#[]⟩] 60):=by rw[cG _ HN.1.1];rfl
 have A2:=(A1.block S (ak A5)).trans A5;have A7:(w1.setCell ⟨S,0,none⟩ (.bool true)).heap[Q]?=some (.cells #[.slice none 0 0,.slice none 0 0,.slice none 0 0] 99):=by rw[q8 _ _ _ _ (aA HN.1.2 HN.1.1 (by decide))];exact HN.1.2
 have A8:=(A1.block Q (ak A7)).trans A7;have c1:w3.cell? ⟨S,1,none⟩=some (.slice none 0 0):=(ag A2).trans rfl;have z1:w3.frozen? ⟨S,1,none⟩=false:=aC A2;have A0:Hid ((w3.setCell ⟨S,1,none⟩ (.slice aa na ca)).heap[S]?=some (.cells #[.bool true,.slice aa na ca,.slice none 0 0,.int .i64 0,.int .i64 0,.slice none 0 0,.slice (some ⟨Q,0,none⟩) 3 3,.string ⟨#[]⟩] 60) /\
   (w3.setCell ⟨S,1,none⟩ (.slice aa na ca)).heap[Q]?=some (.cells #[.slice none 0 0,.slice none 0 0,.slice none 0 0] 99)/\ai t (w3.setCell ⟨S,1,none⟩ (.slice aa na ca)) (fun _=>True) 5 (.slice aa na ca) tr/\Below w.heap.size w (w3.setCell ⟨S,1,none⟩ (.slice aa na ca))):=by
  refine⟨?_,?_,?_,?_⟩
  .rw[cG _ A2];rfl
  .rw[q8 _ _ _ _ (aA A8 A2 (by decide))];exact A8
  .refine ai.mono (fun _ _=>trivial) _ _ _ (ai.keep (X:=fun k=>w2.heap.size<=k) (fun k hk=>q8 _ _ _ _ ?_) _ _ _ B4);show k≠S;have:=ak A5;have:=A4.size;omega
  .refine((HN.2.setCell (p:=⟨S,0,none⟩) hS _).trans (A1.mono ?_)).setCell (p:=⟨S,1,none⟩) hS _;rw[B3];exact HN.2.size
 clear B4 B2 A1 A5 A2 A7 A8 B3 A4 A9;go_wp2_with fail
 go_ret;exact⟨S,Q,_,rfl,hS,hQ,⟨A0.1,A0.2.1⟩,A0.2.2.1,A0.2.2.2⟩
end Go.Proofs.YtmmmnghiegajmaaGreat
