import Derived.Test.YtmmmnghiegajmaaGreatM22
import Derived.OwnWalk
set_option maxHeartbeats 4000000
set_option maxRecDepth 100000
open Go.RowKit Go.Proofs.Herald Go.Proofs.Tryz
namespace Go.Proofs.YtmmmnghiegajmaaGreat
structure fa (t:ByteArray)(d:Nat)(ws:List (Nat×Nat))(tr:af (d+1))(w wr:World)(k:Nat)(v:Value)(xs:List ((Hd×af d×af d)×(Value×Value)))(rem:List (Hd×af d×af d))(X:Nat->Prop):Prop where
 le:k<=ws.length
 split:tr=xs.map Prod.fst++rem
 spelt:GL t (GT t d) (cm d) (ws.drop k) rem
 own:wr.ownsRow 0 133 7 v xs.length (iV t xs)
 new:∀ b,v.ownBlock=some b->w.heap.size<=b/\¬ X b
 low:∀ b,X b->w.heap.size<=b/\b<wr.heap.size
 subs:∀ x∈xs,ai t wr X d x.2.1 x.1.2.1/\ai t wr X d x.2.2 x.1.2.2
 one:∀ x∈xs,x.2.1.oneCell'=true/\x.2.2.oneCell'=true
 few:xs.length<=k
 bel:Below w.heap.size w wr
theorem ff {t:ByteArray}{w:World}{b off k:Nat}{ws u:List (Nat×Nat)}(h:aP t w b off ws)(hu:ws.drop k=u)(j:Nat)(p:Nat×Nat)(hj:u[j]?=some p):
  w.cell? ⟨b,off+(k+j)*2,none⟩=some (.string (t.extract p.1 p.2))/\w.cell? ⟨b,off+(k+j)*2+1,none⟩=some (.int .i64 p.1):=by
 subst hu;rw[List.getElem?_drop]at hj;obtain⟨A0,rfl⟩:=List.getElem?_eq_some_iff.1 hj;exact h (k+j) A0
theorem nE {t:ByteArray}{w:World}{b off k:Nat}{ws u:List (Nat×Nat)}{K:List UInt8}(h:aP t w b off ws)(hu:ws.drop k=u)(hk:k<=ws.length)(hn:lE t u K):
  k=ws.length\/(k<ws.length/\∃ s:ByteArray,w.cell? ⟨b,off+k*2,none⟩=some (.string s)/\(s.toList==K)=false):=by
 cases u with
 | nil=>left;have:=congrArg List.length hu;simp at this;omega
 | cons p r=>
  right;have hl:k<ws.length:=by have:=congrArg List.length hu;simp at this;omega
  have:=(ff h hu 0 p (by simp)).1;simp only[Nat.add_zero]at this;exact⟨hl,_,this,bg (hn p rfl)⟩
theorem fa.push {t:ByteArray}{d:Nat}{ws:List (Nat×Nat)}{tr:af (d+1)}{w wr W w1:World}{k k':Nat}{v:Value}{xs:List ((Hd×af d×af d)×(Value×Value))}{x:Hd×af d×af d}{rem:List (Hd×af d×af d)}{X Y:Nat->Prop}{g cap2:Nat}{va vb:Value}
  (HI:fa t d ws tr w wr k v xs (x::rem) X) (hW:Below wr.heap.size wr W)
  (hown1:w1.ownsRow 0 133 7 (.slice (some ⟨g,0,none⟩) (xs.length+1) cap2) (xs.length+1) (iV t xs++iq t x.1 (va,vb)))
  (hgrow:W.grownBy w1 v.ownBlock) (hat:v.ownBlock=some g\/g=W.heap.size)
  (ta:ai t W Y d va x.2.1) (tb:ai t W Y d vb x.2.2) (hY:∀ b,Y b->wr.heap.size<=b/\b<W.heap.size) (o1:va.oneCell'=true) (o2:vb.oneCell'=true)
  (hk:k<k') (hk':k'<=ws.length) (hrest:GL t (GT t d) (cm d) (ws.drop k') rem):
  fa t d ws tr w w1 k' (.slice (some ⟨g,0,none⟩) (xs.length+1) cap2) (xs++[(x,(va,vb))]) rem (fun b=>X b\/Y b):=by
 have hs1:=hW.size;have A1:=hgrow.size;have hs0:=HI.bel.size;have A0:∀ j,v.ownBlock=some j->j<wr.heap.size:=fun j hj=>by obtain⟨c,hc⟩:=ax HI.own hj;exact ak hc
 refine⟨hk',?_,hrest,?_,?_,?_,?_,?_,?_,?_⟩
 .rw[HI.split,List.map_append,List.append_assoc];rfl
 .rw[yR];simpa using hown1
 .intro j hj;simp[Value.ownBlock]at hj;subst hj;rcases hat with h|h
  .have h1:=HI.new g h;have h2:=A0 g h;exact⟨h1.1,fun h3=>by rcases h3 with h3|h3;exact h1.2 h3;have:=hY g h3;omega⟩
  .exact⟨by omega,fun h3=>by rcases h3 with h3|h3;have:=HI.low g h3;omega;have:=hY g h3;omega⟩
 .intro j hj;rcases hj with hj|hj
  .have:=HI.low j hj;omega
  .have:=hY j hj;omega
 .intro y hy;simp only[List.mem_append,List.mem_singleton]at hy;rcases hy with hy|rfl
  .have keep:∀ j,X j->w1.heap[j]?=wr.heap[j]?:=fun j hj=>by
    have h1:=HI.low j hj;rw[hgrow.block j (by omega) (fun e=>(HI.new j e.symm).2 hj),hW.block j (by omega)]
   have:=HI.subs y hy;exact⟨ai.mono (fun j hj=>.inl hj) d _ _ (ai.keep keep d _ _ this.1),ai.mono (fun j hj=>.inl hj) d _ _ (ai.keep keep d _ _ this.2)⟩
  .have keep:∀ j,Y j->w1.heap[j]?=W.heap[j]?:=fun j hj=>by
    have h1:=hY j hj;exact hgrow.block j (by omega) (fun e=>by have:=A0 j e.symm;omega)
   exact⟨ai.mono (fun j hj=>.inr hj) d _ _ (ai.keep keep d _ _ ta),ai.mono (fun j hj=>.inr hj) d _ _ (ai.keep keep d _ _ tb)⟩
 .intro y hy;simp only[List.mem_append,List.mem_singleton]at hy;rcases hy with hy|rfl
  .exact HI.one y hy
  .exact⟨o1,o2⟩
 .simp;have:=HI.few;omega
 .exact(HI.bel.trans (hW.mono hs0)).grown hgrow (by omega) (fun j hj=>(HI.new j hj).1)
theorem mm {s:ByteArray}{a b c e:Int}{va vb:Value}(o1:va.oneCell'=true)(o2:vb.oneCell'=true):∀ u∈[Value.string s,.int .i64 a,.int .i64 b,.int .i64 c,va,vb,.int .i64 e],u.oneCell'=true:=by
 intro u hu;simp at hu;rcases hu with rfl|rfl|rfl|rfl|rfl|rfl|rfl <;> first|rfl|assumption
theorem ai.bound {t:ByteArray}{w:World}{X:Nat->Prop}:∀ (d:Nat) (v:Value) (l:af d),ai t w X d v l->ai t w (fun k=>X k/\k<w.heap.size) d v l:=by
 intro d;induction d with
 | zero=>intro v l hl;exact hl
 | succ d ih=>
  intro v l hl;obtain⟨xs,h1,h2,h3,h4,h5⟩:=hl;exact⟨xs,h1,h2,fun k hk=>⟨h3 k hk,by obtain⟨c,hc⟩:=ax h2 hk;exact ak hc⟩,fun x hx=>⟨ih _ _ (h4 x hx).1,ih _ _ (h4 x hx).2⟩,h5⟩
theorem ai.laid {t:ByteArray}{w2:World}{d:Nat}{v:Value}{l:af d}{B F j:Nat}{u:Value}(h:ai t w2 (fun k=>B<=k) d v l)(hF:F<B):
  ai t (w2.setCell ⟨F,j,none⟩ u) (fun k=>B<=k/\k<w2.heap.size) d v l:=
 ai.keep (fun k hk=>q8 _ _ _ _ (by show k≠F;omega)) d v l (ai.bound d v l h)
theorem ai.alloc {t:ByteArray}{w:World}{d:Nat}{v:Value}{l:af d}{X:Nat->Prop}(o:Obj)(h:ai t w X d v l)(hX:∀ k,X k->k<w.heap.size):ai t (w.alloc o) X d v l:=
 ai.keep (fun k hk=>q9 _ _ _ (hX k hk)) d v l h
def vT (t:ByteArray)(d:Nat):Prop:=
 ∀ (ws:List (Nat×Nat)) (tr:af d) (a:Option Addr) (b off cap n:Nat) (w:World),n=ws.length->GT t d ws tr->ws.length<=400->ws.length<=cap->(0<ws.length->a=some ⟨b,off,none⟩/\b<w.heap.size/\aP t w b off ws) ->
   Calls prog 24 #[.slice a n cap] w fun e w'=>∃ aa na ca,e=.returned (.slice aa na ca)/\ai t w' (fun k=>w.heap.size<=k) d (.slice aa na ca) tr/\Below w.heap.size w w'
theorem AV (t:ByteArray)(ht:t.size<=400)(d:Nat)
  (ih:vT t d)
  (ws:List (Nat×Nat)) (tr:af (d+1)) (b off cap:Nat) (w:World) (hg:GT t (d+1) ws tr) (hlen:ws.length<=400) (hcap:ws.length<=cap) (hb:b<w.heap.size) (hws:aP t w b off ws):
  Calls prog 24 #[.slice (some ⟨b,off,none⟩) ws.length cap] w fun e w'=>∃ aa na ca,e=.returned (.slice aa na ca)/\ai t w' (fun k=>w.heap.size<=k) (d+1) (.slice aa na ca) tr/\Below w.heap.size w w':=by
 go_enter func24,ntmps24
 go_wp2_with fail
 go_loopw [3,4] (fun v i wr=>∃ (k:Nat) (xs:List ((Hd×af d×af d)×(Value×Value))) (B7:List (Hd×af d×af d)) (X:Nat->Prop),i=.int .i64 k/\fa t d ws tr w wr k v xs B7 X)
  (fun _ i _=>ws.length - (intOf i).toNat)
 case atStart=>exact⟨0,[],tr,fun _=>False,rfl,⟨Qa _,rfl,hg,Qg _ _ _ _,by simp[Value.ownBlock],by simp,by simp,by simp,by simp,v7 _ _⟩⟩
 case round=>
  obtain⟨k,xs,B7,X,rfl,B1⟩:=hrel;by_cases hlt:k<ws.length
  .cases B7 with
   | nil=>have:=B1.spelt;rw[GL]at this;simp at this;omega
   | cons x B7=>
    have A0:=B1.spelt;rw[GL]at A0;obtain⟨wo,wb,C5,f,hu,hh,hp,A3,A5⟩:=A0;have HI:=ah B1;have A2:aP t wr b off ws:=hws.keep (B1.bel.block b hb);have E1:=B1.bel.size;have A6:=B1.own;have I1:=B1.few;clear B1;rcases hh with ⟨p,q,rfl,rfl,hk,hx⟩|⟨p,q,rfl,rfl,hk,hx⟩|⟨p,rfl,rfl,hk,hx⟩|⟨p,q,r,rfl,rfl,hk,hx⟩|⟨p,q,r,z,rfl,rfl,hk,hx⟩|⟨p,q,rfl,rfl,hk,hx⟩
    .obtain⟨rfl,E5,C7,B0⟩:wb=[]/\x.2.1=cm d/\x.2.2=cm d/\lE t C5 dK:=by simpa using A5
     simp only[List.nil_append,List.cons_append]at hu;obtain⟨c0,C9⟩:=ff A2 hu 0 p (by simp);simp only[Nat.add_zero]at c0 C9;obtain⟨c1,_⟩:=ff A2 hu 1 q (by simp);obtain⟨sp,A0⟩:∃ s,s=t.extract p.1 p.2:=⟨_,rfl⟩;obtain⟨sq,A8⟩:∃ s,s=t.extract q.1 q.2:=⟨_,rfl⟩;rw[<- A0]at c0;rw[<- A8]at c1;have F3:sp.size<=400:=by rw[A0];simp;omega
     have G2:sq.size<=400:=by rw[A8];simp;omega
     have y0:(sp.toList==[115,101,110,100])=true:=du (by rw[A0];exact hk);have B5:=congrArg List.length hu;simp at B5;have B2:b<wr.heap.size:=by omega
     have HX:Hid (∀ va vb:Value,iq t x.1 (va,vb)=[.string sp,.int .i64 (cA sq.data.toList),.int .i64 (0),.int .i64 (0),va,vb,.int .i64 p.1]):=fun va vb=>by rw[hx,A0,A8];rfl
     have E0:ws.drop (k+2)=C5:=by have:=congrArg (List.drop 2) hu;simpa[List.drop_drop] using this
     have B6:k+2=ws.length\/(k+2<ws.length/\∃ s:ByteArray,wr.cell? ⟨b,off+(k+2)*2,none⟩=some (.string s)/\(s.toList==[123])=false):=nE A2 E0 (by omega) B0;have HG:Hid (GL t (GT t d) (cm d) (ws.drop (k+2)) B7):=by rw[E0];exact A3
     have HN:Hid (x.2.1=cm d/\x.2.2=cm d):=And.intro E5 C7;clear A0 A8 hp hk A5 hx hws A2 hu E5 C7 A3 E0 B0 B5;rcases B6 with B6|⟨B6,sn,hcn,hsn⟩;all_goals
      go_wp2_with fail
      go_region;go_wp2_with (first|(go_at_call 54;refine(lM _ _).mono ?_;rintro e w' ⟨rfl,rfl⟩)|(go_at_call 52;refine(ke _ _ (by unfold maxLen;omega)).mono ?_;rintro e w' ⟨rfl,rfl⟩)|(at_builtin;refine jZ _ rfl (.tmp 161) (.tmp 163) 56 rfl 133 _ 7 96 underlying56 Tryz.infoStmt rfl (by decide) (by decide) u3 _ _ (wr.heap.size+1) [.string sp,.int .i64 (cA sq.data.toList),.int .i64 (0),.int .i64 (0),.slice none 0 0,.slice none 0 0,.int .i64 p.1] (by rfl) (by exact(A6.alloc _).alloc _) (by exact ey _ _ _) (by rfl) rfl (mm rfl rfl) (by omega) ?_))
      intro g cap2 w1 hown1 hgrow hat hlt1;have HP:=HI.push (Y:=fun _=>False) (va:=.slice none 0 0) (vb:=.slice none 0 0) (k':=k+2) (by repeat (first|exact v7 _ _|refine Below.drew ?_|refine Below.alloc ?_ (by simp) _)) (by rw[HX];exact hown1) hgrow (by simpa using hat) (by rw[HN.out.1];exact ai.nil _ _ _ _) (by rw[HN.2];exact ai.nil _ _ _ _) (fun _ h=>h.elim) rfl rfl (by omega) (by omega) HG.out;have C8:=ah HP;clear HP hown1 hgrow hat;go_wp2_with fail
      go_roundw;case rel=>exact⟨k+2,_,B7,_,by go_num,C8⟩
      case measure=>simp[intOf];omega
    .obtain⟨rfl,E5,C7,B0⟩:wb=[]/\x.2.1=cm d/\x.2.2=cm d/\lE t C5 dK:=by simpa using A5
     simp only[List.nil_append,List.cons_append]at hu;obtain⟨c0,C9⟩:=ff A2 hu 0 p (by simp);simp only[Nat.add_zero]at c0 C9;obtain⟨c1,_⟩:=ff A2 hu 1 q (by simp);obtain⟨sp,A0⟩:∃ s,s=t.extract p.1 p.2:=⟨_,rfl⟩;obtain⟨sq,A8⟩:∃ s,s=t.extract q.1 q.2:=⟨_,rfl⟩;rw[<- A0]at c0;rw[<- A8]at c1;have F3:sp.size<=400:=by rw[A0];simp;omega
     have G2:sq.size<=400:=by rw[A8];simp;omega
     have n0:(sp.toList==[115,101,110,100])=false:=bg (by rw[A0];show ¬ ao t p=_;rw[hk];decide);have y0:(sp.toList==[119,97,105,116])=true:=du (by rw[A0];exact hk);have B5:=congrArg List.length hu;simp at B5;have B2:b<wr.heap.size:=by omega
     have HX:Hid (∀ va vb:Value,iq t x.1 (va,vb)=[.string sp,.int .i64 (0),.int .i64 (bm sq.data.toList),.int .i64 (0),va,vb,.int .i64 p.1]):=fun va vb=>by rw[hx,A0,A8];rfl
     have E0:ws.drop (k+2)=C5:=by have:=congrArg (List.drop 2) hu;simpa[List.drop_drop] using this
     have B6:k+2=ws.length\/(k+2<ws.length/\∃ s:ByteArray,wr.cell? ⟨b,off+(k+2)*2,none⟩=some (.string s)/\(s.toList==[123])=false):=nE A2 E0 (by omega) B0;have HG:Hid (GL t (GT t d) (cm d) (ws.drop (k+2)) B7):=by rw[E0];exact A3
     have HN:Hid (x.2.1=cm d/\x.2.2=cm d):=And.intro E5 C7;clear A0 A8 hp hk A5 hx hws A2 hu E5 C7 A3 E0 B0 B5;rcases B6 with B6|⟨B6,sn,hcn,hsn⟩;all_goals
      go_wp2_with fail
      go_region;go_wp2_with (first|(go_at_call 54;refine(lM _ _).mono ?_;rintro e w' ⟨rfl,rfl⟩)|(go_at_call 52;refine(ke _ _ (by unfold maxLen;omega)).mono ?_;rintro e w' ⟨rfl,rfl⟩)|(at_builtin;refine jZ _ rfl (.tmp 161) (.tmp 163) 56 rfl 133 _ 7 96 underlying56 Tryz.infoStmt rfl (by decide) (by decide) u3 _ _ (wr.heap.size+1) [.string sp,.int .i64 (0),.int .i64 (bm sq.data.toList),.int .i64 (0),.slice none 0 0,.slice none 0 0,.int .i64 p.1] (by rfl) (by exact(A6.alloc _).alloc _) (by exact ey _ _ _) (by rfl) rfl (mm rfl rfl) (by omega) ?_))
      intro g cap2 w1 hown1 hgrow hat hlt1;have HP:=HI.push (Y:=fun _=>False) (va:=.slice none 0 0) (vb:=.slice none 0 0) (k':=k+2) (by repeat (first|exact v7 _ _|refine Below.drew ?_|refine Below.alloc ?_ (by simp) _)) (by rw[HX];exact hown1) hgrow (by simpa using hat) (by rw[HN.out.1];exact ai.nil _ _ _ _) (by rw[HN.2];exact ai.nil _ _ _ _) (fun _ h=>h.elim) rfl rfl (by omega) (by omega) HG.out;have C8:=ah HP;clear HP hown1 hgrow hat;go_wp2_with fail
      go_roundw;case rel=>exact⟨k+2,_,B7,_,by go_num,C8⟩
      case measure=>simp[intOf];omega
    .obtain⟨rfl,E5,C7,B0⟩:wb=[]/\x.2.1=cm d/\x.2.2=cm d/\lE t C5 dK:=by simpa using A5
     simp only[List.nil_append,List.cons_append]at hu;obtain⟨c0,C9⟩:=ff A2 hu 0 p (by simp);simp only[Nat.add_zero]at c0 C9;obtain⟨sp,A0⟩:∃ s,s=t.extract p.1 p.2:=⟨_,rfl⟩;rw[<- A0]at c0;have F3:sp.size<=400:=by rw[A0];simp;omega
     have n0:(sp.toList==[115,101,110,100])=false:=bg (by rw[A0];show ¬ ao t p=_;rw[hk];decide);have n1:(sp.toList==[119,97,105,116])=false:=bg (by rw[A0];show ¬ ao t p=_;rw[hk];decide);have y0:(sp.toList==[115,116,111,112])=true:=du (by rw[A0];exact hk);have B5:=congrArg List.length hu;simp at B5;have B2:b<wr.heap.size:=by omega
     have HX:Hid (∀ va vb:Value,iq t x.1 (va,vb)=[.string sp,.int .i64 (0),.int .i64 (0),.int .i64 (0),va,vb,.int .i64 p.1]):=fun va vb=>by rw[hx,A0];rfl
     have E0:ws.drop (k+1)=C5:=by have:=congrArg (List.drop 1) hu;simpa[List.drop_drop] using this
     have B6:k+1=ws.length\/(k+1<ws.length/\∃ s:ByteArray,wr.cell? ⟨b,off+(k+1)*2,none⟩=some (.string s)/\(s.toList==[123])=false):=nE A2 E0 (by omega) B0;have HG:Hid (GL t (GT t d) (cm d) (ws.drop (k+1)) B7):=by rw[E0];exact A3
     have HN:Hid (x.2.1=cm d/\x.2.2=cm d):=And.intro E5 C7;clear A0 hp hk A5 hx hws A2 hu E5 C7 A3 E0 B0 B5;rcases B6 with B6|⟨B6,sn,hcn,hsn⟩;all_goals
      go_wp2_with fail
      go_region;go_wp2_with (first|(go_at_call 54;refine(lM _ _).mono ?_;rintro e w' ⟨rfl,rfl⟩)|(go_at_call 52;refine(ke _ _ (by unfold maxLen;omega)).mono ?_;rintro e w' ⟨rfl,rfl⟩)|(at_builtin;refine jZ _ rfl (.tmp 161) (.tmp 163) 56 rfl 133 _ 7 96 underlying56 Tryz.infoStmt rfl (by decide) (by decide) u3 _ _ (wr.heap.size+1) [.string sp,.int .i64 (0),.int .i64 (0),.int .i64 (0),.slice none 0 0,.slice none 0 0,.int .i64 p.1] (by rfl) (by exact(A6.alloc _).alloc _) (by exact ey _ _ _) (by rfl) rfl (mm rfl rfl) (by omega) ?_))
      intro g cap2 w1 hown1 hgrow hat hlt1;have HP:=HI.push (Y:=fun _=>False) (va:=.slice none 0 0) (vb:=.slice none 0 0) (k':=k+1) (by repeat (first|exact v7 _ _|refine Below.drew ?_|refine Below.alloc ?_ (by simp) _)) (by rw[HX];exact hown1) hgrow (by simpa using hat) (by rw[HN.out.1];exact ai.nil _ _ _ _) (by rw[HN.2];exact ai.nil _ _ _ _) (fun _ h=>h.elim) rfl rfl (by omega) (by omega) HG.out;have C8:=ah HP;clear HP hown1 hgrow hat;go_wp2_with fail
      go_roundw;case rel=>exact⟨k+1,_,B7,_,by go_num,C8⟩
      case measure=>simp[intOf];omega
    .rcases A5 with ⟨h0,_⟩|⟨o,wa,cl,hf,rfl,ho,hc,ha,C7,B0⟩|⟨o,wa,cl,el,o2,wa2,cl2,hf,rfl,ho,hc,he,ho2,hc2,ha,ha2⟩
     .exact absurd h0 (by decide)
     .have A5:True:=trivial;obtain⟨wt,rfl⟩:∃ wt,wt=C5:=⟨_,rfl⟩;simp only[List.nil_append,List.cons_append,List.append_assoc]at hu;obtain⟨c0,C9⟩:=ff A2 hu 0 p (by simp);simp only[Nat.add_zero]at c0 C9;obtain⟨c1,_⟩:=ff A2 hu 1 q (by simp);obtain⟨c2,_⟩:=ff A2 hu 2 r (by simp);obtain⟨sp,A0⟩:∃ s,s=t.extract p.1 p.2:=⟨_,rfl⟩;obtain⟨sq,A8⟩:∃ s,s=t.extract q.1 q.2:=⟨_,rfl⟩;obtain⟨sr,C2⟩:∃ s,s=t.extract r.1 r.2:=⟨_,rfl⟩;rw[<- A0]at c0;rw[<- A8]at c1;rw[<- C2]at c2;have F3:sp.size<=400:=by rw[A0];simp;omega
      have G2:sq.size<=400:=by rw[A8];simp;omega
      have H2:sr.size<=400:=by rw[C2];simp;omega
      have n0:(sp.toList==[115,101,110,100])=false:=bg (by rw[A0];show ¬ ao t p=_;rw[hk];decide);have n1:(sp.toList==[119,97,105,116])=false:=bg (by rw[A0];show ¬ ao t p=_;rw[hk];decide);have n2:(sp.toList==[115,116,111,112])=false:=bg (by rw[A0];show ¬ ao t p=_;rw[hk];decide);have y0:(sp.toList==[97,115,107])=true:=du (by rw[A0];exact hk);have B5:=congrArg List.length hu;simp at B5;have B2:b<wr.heap.size:=by omega
      have HX:Hid (∀ va vb:Value,iq t x.1 (va,vb)=[.string sp,.int .i64 (cA sq.data.toList),.int .i64 (bm sr.data.toList),.int .i64 (0),va,vb,.int .i64 p.1]):=fun va vb=>by rw[hx,A0,A8,C2];rfl
      have B3:ws.drop (k+3)=o::(wa++cl::wt):=by have:=congrArg (List.drop 3) hu;simpa[List.drop_drop] using this
      have D2:gq t (ws.drop (k+3)) 0=some (wa.length+1):=by rw[B3];exact mJ ho hc (GT.passes d _ _ ha)
      obtain⟨co,_⟩:=ff A2 B3 0 o (by simp);simp only[Nat.add_zero]at co;obtain⟨so,C1⟩:∃ s,s=t.extract o.1 o.2:=⟨_,rfl⟩;rw[<- C1]at co;have yo:(so.toList==[123])=true:=du (by rw[C1];exact ho);have B4:ws.drop (k+3+1)=wa++cl::wt:=by have:=congrArg (List.drop 1) B3;simpa[List.drop_drop] using this
      have D3:aP t wr b (off+(k+3+1)*2) wa:=A2.sub (k+3+1) wa.length wa (by rw[B4];simp);have G4:k+3+(wa.length+1)+1<=ws.length:=by have:=congrArg List.length B4;simp at this;omega
      have B8:ws.drop (k+3+(wa.length+1)+1)=wt:=by have:=congrArg (List.drop (wa.length+1)) B4;rw[List.drop_drop]at this;rw[show k+3+(wa.length+1)+1=k+3+1+(wa.length+1) from by omega,this];simp
      have HA:=ah ha;have E2:=ah D2;have E3:=ah D3;have D8:=ah A2;have B6:k+3+(wa.length+1)+1=ws.length\/(k+3+(wa.length+1)+1<ws.length/\∃ s:ByteArray,wr.cell? ⟨b,off+(k+3+(wa.length+1)+1)*2,none⟩=some (.string s)/\(s.toList==[101,108,115,101])=false):=nE A2 B8 (by omega) B0;have HG:Hid (GL t (GT t d) (cm d) (ws.drop (k+3+(wa.length+1)+1)) B7):=by rw[B8];exact A3
      have HN:=ah C7;clear A0 A8 C2 hp hk A5 hx hws A2 hu C7 A3 B3 B4 B8 B0 B5 D2 D3 ha ho hc C1;rcases B6 with B6|⟨B6,sn,hcn,hsn⟩;all_goals
       go_wp2_with fail
       go_region;go_wp2_with (first|(go_at_call 54;refine(lM _ _).mono ?_;rintro e w' ⟨rfl,rfl⟩)|(go_at_call 52;refine(ke _ _ (by unfold maxLen;omega)).mono ?_;rintro e w' ⟨rfl,rfl⟩))
       refine(mS t b off cap ws _ _ (k+3) (wa.length+1) (by omega) hlen ?_ E2.out).mono ?_
       .exact D8.keep (q9 _ _ _ B2)
       rintro e w' ⟨rfl,rfl⟩;go_wp2_with fail
       refine(ih wa x.2.1 _ b (off+(k+3+1)*2) _ _ _ (by omega) HA.out (by omega) (by omega) ?_).mono ?_
       .intro _;exact⟨rfl,by simp;omega,E3.out.keep (q9 _ _ _ B2)⟩
       rintro e w2 ⟨aa,na,ca,rfl,C3,A7⟩;have C4:(wr.alloc (.cells #[.string sp,.int .i64 (cA sq.data.toList),.int .i64 (bm sr.data.toList),.int .i64 (0),.slice none 0 0,.slice none 0 0,.int .i64 p.1] 133)).drew.heap.size=wr.heap.size+1:=by show(wr.alloc _).heap.size=_;simp
       rw[C4]at C3 A7;have A1:w2.heap[wr.heap.size]?=some (.cells #[.string sp,.int .i64 (cA sq.data.toList),.int .i64 (bm sr.data.toList),.int .i64 (0),.slice none 0 0,.slice none 0 0,.int .i64 p.1] 133):=(A7.block _ (by omega)).trans (v8 _ _);have F5:w2.cell? ⟨wr.heap.size,0,none⟩=some (.string sp):=(ag A1).trans rfl;have F6:w2.cell? ⟨wr.heap.size,1,none⟩=some (.int .i64 (cA sq.data.toList)):=(ag A1).trans rfl;have F7:w2.cell? ⟨wr.heap.size,2,none⟩=some (.int .i64 (bm sr.data.toList)):=(ag A1).trans rfl;have F8:w2.cell? ⟨wr.heap.size,3,none⟩=some (.int .i64 (0)):=(ag A1).trans rfl;have F9:w2.cell? ⟨wr.heap.size,4,none⟩=some (.slice none 0 0):=(ag A1).trans rfl;have G0:w2.cell? ⟨wr.heap.size,5,none⟩=some (.slice none 0 0):=(ag A1).trans rfl;have G1:w2.cell? ⟨wr.heap.size,6,none⟩=some (.int .i64 p.1):=(ag A1).trans rfl;have G6:w2.frozen? ⟨wr.heap.size,4,none⟩=false:=aC A1;have G5:wr.heap.size+1<=w2.heap.size:=by have:=A7.size;rw[C4]at this;exact this
       have A9:∀ (s:ByteArray) (j:Nat),wr.cell? ⟨b,j,none⟩=some (.string s)->w2.cell? ⟨b,j,none⟩=some (.string s):=fun s j hj=>(A7.cell (p:=⟨b,j,none⟩) (by show b < _;omega)).trans ((World.cell?_of_block (q9 _ _ _ B2)).trans hj);have C0:Below wr.heap.size wr w2:=(((v7 _ _).alloc (v9 _) _).drew).trans (A7.mono (by omega));have D4:=ah C0;have HT:=ah C3;have A4:(w2.setCell ⟨wr.heap.size,4,none⟩ (.slice aa na ca)).ownsRow 0 133 7 u3 xs.length (iV t xs):=aT A6 (fun j hj=>by obtain⟨cc,D6⟩:=ax A6 hj;have D7:=ak D6;rw[q8 _ _ _ _ (by show j≠wr.heap.size;omega)];exact C0.block j D7);have F4:=ah A1;clear C3 A7 A1 C0 C4;try (have H3:=A9 _ _ hcn)
       clear A9;go_wp2_with (at_builtin;refine jZ _ rfl (.tmp 161) (.tmp 163) 56 rfl 133 _ 7 96 underlying56 Tryz.infoStmt rfl (by decide) (by decide) u3 _ _ w2.heap.size [.string sp,.int .i64 (cA sq.data.toList),.int .i64 (bm sr.data.toList),.int .i64 (0),.slice aa na ca,.slice none 0 0,.int .i64 p.1] (by rfl) (by exact A4.alloc _) (by exact jj _ _ _ (ef _ _ _)) (by rfl) rfl (mm rfl rfl) (by omega) ?_)
       intro g cap2 w3 hown3 hgrow hat hlt3;have HP:=HI.push (Y:=fun j=>wr.heap.size+1<=j/\j<w2.heap.size) (va:=.slice aa na ca) (vb:=.slice none 0 0) (k':=k+3+(wa.length+1)+1) ((D4.setCell (p:=⟨wr.heap.size,4,none⟩) (v9 _) _).alloc (by rw[ef];omega) _) (by rw[HX.out];exact hown3) hgrow (by simpa using hat) ((HT.out.laid (Nat.lt_succ_self _)).alloc _ (fun j hj=>by rw[ef];exact hj.2)) (by rw[HN];exact ai.nil _ _ _ _) (fun j hj=>by simp;omega) rfl rfl (by omega) (by omega) HG.out;have C8:=ah HP;clear HP hown3 hgrow hat A4;go_wp2_with fail
       go_roundw;case rel=>exact⟨k+3+(wa.length+1)+1,_,B7,_,by go_num,C8⟩
       case measure=>simp[intOf];omega
     .have A5:True:=trivial;obtain⟨wt,F2⟩:∃ wt,wt=el::o2::(wa2++cl2::C5):=⟨_,rfl⟩;simp only[List.nil_append,List.cons_append,List.append_assoc]at hu;rw[<- F2]at hu;obtain⟨c0,C9⟩:=ff A2 hu 0 p (by simp);simp only[Nat.add_zero]at c0 C9;obtain⟨c1,_⟩:=ff A2 hu 1 q (by simp);obtain⟨c2,_⟩:=ff A2 hu 2 r (by simp);obtain⟨sp,A0⟩:∃ s,s=t.extract p.1 p.2:=⟨_,rfl⟩;obtain⟨sq,A8⟩:∃ s,s=t.extract q.1 q.2:=⟨_,rfl⟩;obtain⟨sr,C2⟩:∃ s,s=t.extract r.1 r.2:=⟨_,rfl⟩;rw[<- A0]at c0;rw[<- A8]at c1;rw[<- C2]at c2;have F3:sp.size<=400:=by rw[A0];simp;omega
      have G2:sq.size<=400:=by rw[A8];simp;omega
      have H2:sr.size<=400:=by rw[C2];simp;omega
      have n0:(sp.toList==[115,101,110,100])=false:=bg (by rw[A0];show ¬ ao t p=_;rw[hk];decide);have n1:(sp.toList==[119,97,105,116])=false:=bg (by rw[A0];show ¬ ao t p=_;rw[hk];decide);have n2:(sp.toList==[115,116,111,112])=false:=bg (by rw[A0];show ¬ ao t p=_;rw[hk];decide);have y0:(sp.toList==[97,115,107])=true:=du (by rw[A0];exact hk);have B5:=congrArg List.length hu;simp at B5;have B2:b<wr.heap.size:=by omega
      have HX:Hid (∀ va vb:Value,iq t x.1 (va,vb)=[.string sp,.int .i64 (cA sq.data.toList),.int .i64 (bm sr.data.toList),.int .i64 (0),va,vb,.int .i64 p.1]):=fun va vb=>by rw[hx,A0,A8,C2];rfl
      have B3:ws.drop (k+3)=o::(wa++cl::wt):=by have:=congrArg (List.drop 3) hu;simpa[List.drop_drop] using this
      have D2:gq t (ws.drop (k+3)) 0=some (wa.length+1):=by rw[B3];exact mJ ho hc (GT.passes d _ _ ha)
      obtain⟨co,_⟩:=ff A2 B3 0 o (by simp);simp only[Nat.add_zero]at co;obtain⟨so,C1⟩:∃ s,s=t.extract o.1 o.2:=⟨_,rfl⟩;rw[<- C1]at co;have yo:(so.toList==[123])=true:=du (by rw[C1];exact ho);have B4:ws.drop (k+3+1)=wa++cl::wt:=by have:=congrArg (List.drop 1) B3;simpa[List.drop_drop] using this
      have D3:aP t wr b (off+(k+3+1)*2) wa:=A2.sub (k+3+1) wa.length wa (by rw[B4];simp);have G4:k+3+(wa.length+1)+1<=ws.length:=by have:=congrArg List.length B4;simp at this;omega
      have B8:ws.drop (k+3+(wa.length+1)+1)=wt:=by have:=congrArg (List.drop (wa.length+1)) B4;rw[List.drop_drop]at this;rw[show k+3+(wa.length+1)+1=k+3+1+(wa.length+1) from by omega,this];simp
      have HA:=ah ha;have E2:=ah D2;have E3:=ah D3;have D8:=ah A2;rw[F2]at B8;have D9:=B8;clear F2;have E9:ws.drop (k+3+(wa.length+1)+1+1)=o2::(wa2++cl2::C5):=by have:=congrArg (List.drop 1) B8;simpa[List.drop_drop] using this
      have E4:ws.drop (k+3+(wa.length+1)+1+1+1)=wa2++cl2::C5:=by have:=congrArg (List.drop 1) E9;simpa[List.drop_drop] using this
      have I2:k+3+(wa.length+1)+1+1+1+wa2.length+1<=ws.length:=by have:=congrArg List.length E4;simp at this;omega
      have G3:ws.drop (k+3+(wa.length+1)+1+1+(wa2.length+1)+1)=C5:=by have:=congrArg (List.drop (wa2.length+1)) E4;rw[List.drop_drop]at this;rw[show k+3+(wa.length+1)+1+1+(wa2.length+1)+1=k+3+(wa.length+1)+1+1+1+(wa2.length+1) from by omega,this];simp
      obtain⟨ce,_⟩:=ff A2 D9 0 el (by simp);simp only[Nat.add_zero]at ce;obtain⟨se,F0⟩:∃ s,s=t.extract el.1 el.2:=⟨_,rfl⟩;rw[<- F0]at ce;have ye:(se.toList==[101,108,115,101])=true:=du (by rw[F0];exact he);have E7:Hid (gq t (ws.drop (k+3+(wa.length+1)+1+1)) 0=some (wa2.length+1)):=by rw[E9];exact mJ ho2 hc2 (GT.passes d _ _ ha2)
      have E8:Hid (aP t wr b (off+(k+3+(wa.length+1)+1+1+1)*2) wa2):=A2.sub (k+3+(wa.length+1)+1+1+1) wa2.length wa2 (by rw[E4];simp);have G7:=ah ha2;have HG:Hid (GL t (GT t d) (cm d) (ws.drop (k+3+(wa.length+1)+1+1+(wa2.length+1)+1)) B7):=by rw[G3];exact A3
      clear A0 A8 C2 hp hk A5 hx hws A2 hu A3 B3 B4 B8 D9 E9 E4 G3 B5 D2 D3 ha ha2 ho hc ho2 hc2 he C1 F0;go_wp2_with fail
      go_region;go_wp2_with (first|(go_at_call 54;refine(lM _ _).mono ?_;rintro e w' ⟨rfl,rfl⟩)|(go_at_call 52;refine(ke _ _ (by unfold maxLen;omega)).mono ?_;rintro e w' ⟨rfl,rfl⟩))
      refine(mS t b off cap ws _ _ (k+3) (wa.length+1) (by omega) hlen ?_ E2.out).mono ?_
      .exact D8.keep (q9 _ _ _ B2)
      rintro e w' ⟨rfl,rfl⟩;go_wp2_with fail
      refine(ih wa x.2.1 _ b (off+(k+3+1)*2) _ _ _ (by omega) HA.out (by omega) (by omega) ?_).mono ?_
      .intro _;exact⟨rfl,by simp;omega,E3.out.keep (q9 _ _ _ B2)⟩
      rintro e w2 ⟨aa,na,ca,rfl,C3,A7⟩;have C4:(wr.alloc (.cells #[.string sp,.int .i64 (cA sq.data.toList),.int .i64 (bm sr.data.toList),.int .i64 (0),.slice none 0 0,.slice none 0 0,.int .i64 p.1] 133)).drew.heap.size=wr.heap.size+1:=by show(wr.alloc _).heap.size=_;simp
      rw[C4]at C3 A7;have A1:w2.heap[wr.heap.size]?=some (.cells #[.string sp,.int .i64 (cA sq.data.toList),.int .i64 (bm sr.data.toList),.int .i64 (0),.slice none 0 0,.slice none 0 0,.int .i64 p.1] 133):=(A7.block _ (by omega)).trans (v8 _ _);have F5:w2.cell? ⟨wr.heap.size,0,none⟩=some (.string sp):=(ag A1).trans rfl;have F6:w2.cell? ⟨wr.heap.size,1,none⟩=some (.int .i64 (cA sq.data.toList)):=(ag A1).trans rfl;have F7:w2.cell? ⟨wr.heap.size,2,none⟩=some (.int .i64 (bm sr.data.toList)):=(ag A1).trans rfl;have F8:w2.cell? ⟨wr.heap.size,3,none⟩=some (.int .i64 (0)):=(ag A1).trans rfl;have F9:w2.cell? ⟨wr.heap.size,4,none⟩=some (.slice none 0 0):=(ag A1).trans rfl;have G0:w2.cell? ⟨wr.heap.size,5,none⟩=some (.slice none 0 0):=(ag A1).trans rfl;have G1:w2.cell? ⟨wr.heap.size,6,none⟩=some (.int .i64 p.1):=(ag A1).trans rfl;have G6:w2.frozen? ⟨wr.heap.size,4,none⟩=false:=aC A1;have G5:wr.heap.size+1<=w2.heap.size:=by have:=A7.size;rw[C4]at this;exact this
      have A9:∀ (s:ByteArray) (j:Nat),wr.cell? ⟨b,j,none⟩=some (.string s)->w2.cell? ⟨b,j,none⟩=some (.string s):=fun s j hj=>(A7.cell (p:=⟨b,j,none⟩) (by show b < _;omega)).trans ((World.cell?_of_block (q9 _ _ _ B2)).trans hj);have C0:Below wr.heap.size wr w2:=(((v7 _ _).alloc (v9 _) _).drew).trans (A7.mono (by omega));have D4:=ah C0;have HT:=ah C3;have A4:(w2.setCell ⟨wr.heap.size,4,none⟩ (.slice aa na ca)).ownsRow 0 133 7 u3 xs.length (iV t xs):=aT A6 (fun j hj=>by obtain⟨cc,D6⟩:=ax A6 hj;have D7:=ak D6;rw[q8 _ _ _ _ (by show j≠wr.heap.size;omega)];exact C0.block j D7);have F4:=ah A1;clear C3 A7 A1 C0 C4;have H0:=A9 _ _ ce;have D0:w2.heap[b]?=wr.heap[b]?:=D4.block b B2;have B0:b≠wr.heap.size:=by omega
      clear A9;go_wp2_with fail
      refine(mS t b off cap ws _ _ (k+3+(wa.length+1)+1+1) (wa2.length+1) (by omega) hlen ?_ E7.out).mono ?_
      .exact D8.keep ((q8 _ _ _ _ B0).trans D0)
      rintro e w' ⟨rfl,rfl⟩;go_wp2_with fail
      refine(ih wa2 x.2.2 _ b (off+(k+3+(wa.length+1)+1+1+1)*2) _ _ _ (by omega) G7.out (by omega) (by omega) ?_).mono ?_
      .intro _;exact⟨rfl,by rw[ef];omega,E8.out.keep ((q8 _ _ _ _ B0).trans D0)⟩
      rintro e w4 ⟨ab,nb,cb,rfl,F1,D5⟩;rw[ef]at F1 D5;have I3:w2.heap.size<=w4.heap.size:=by have:=D5.size;rw[ef]at this;exact this
      have B9:w4.heap[wr.heap.size]?=some (.cells #[.string sp,.int .i64 (cA sq.data.toList),.int .i64 (bm sr.data.toList),.int .i64 (0),.slice aa na ca,.slice none 0 0,.int .i64 p.1] 133):=by rw[D5.block _ (by omega),cG _ F4.out];rfl
      have H4:w4.cell? ⟨wr.heap.size,0,none⟩=some (.string sp):=(ag B9).trans rfl;have H5:w4.cell? ⟨wr.heap.size,1,none⟩=some (.int .i64 (cA sq.data.toList)):=(ag B9).trans rfl;have H6:w4.cell? ⟨wr.heap.size,2,none⟩=some (.int .i64 (bm sr.data.toList)):=(ag B9).trans rfl;have H7:w4.cell? ⟨wr.heap.size,3,none⟩=some (.int .i64 (0)):=(ag B9).trans rfl;have H8:w4.cell? ⟨wr.heap.size,4,none⟩=some (.slice aa na ca):=(ag B9).trans rfl;have H9:w4.cell? ⟨wr.heap.size,5,none⟩=some (.slice none 0 0):=(ag B9).trans rfl;have I0:w4.cell? ⟨wr.heap.size,6,none⟩=some (.int .i64 p.1):=(ag B9).trans rfl;have I4:w4.frozen? ⟨wr.heap.size,5,none⟩=false:=aC B9;have D1:∀ j,j<w2.heap.size->j≠wr.heap.size->(w4.setCell ⟨wr.heap.size,5,none⟩ (.slice ab nb cb)).heap[j]?=w2.heap[j]?:=fun j hj B0=>by rw[q8 _ _ _ _ (by exact B0),D5.block j hj,q8 _ _ _ _ (by exact B0)]
      have G8:Hid (ai t (w4.setCell ⟨wr.heap.size,5,none⟩ (.slice ab nb cb)) (fun k=>wr.heap.size+1<=k/\k<w4.heap.size) d (.slice aa na ca) x.2.1):=ai.mono (fun j hj=>⟨hj.1,by omega⟩) d _ _ (ai.keep (fun j hj=>D1 j hj.2 (by omega)) d _ _ (ai.bound d _ _ HT.out));have G9:Hid (ai t (w4.setCell ⟨wr.heap.size,5,none⟩ (.slice ab nb cb)) (fun k=>wr.heap.size+1<=k/\k<w4.heap.size) d (.slice ab nb cb) x.2.2):=ai.mono (fun j hj=>⟨by omega,hj.2⟩) d _ _ (F1.laid (by omega));have E6:Hid (Below wr.heap.size wr w4):=(D4.setCell (p:=⟨wr.heap.size,4,none⟩) (v9 _) _).trans (D5.mono (by omega));have C6:(w4.setCell ⟨wr.heap.size,5,none⟩ (.slice ab nb cb)).ownsRow 0 133 7 u3 xs.length (iV t xs):=aT A6 (fun j hj=>by obtain⟨cc,D6⟩:=ax A6 hj;have D7:=ak D6;rw[D1 j (by omega) (by omega)];exact D4.block j D7);clear F1 D5 B9 D1 D0 A4 F5 F6 F7 F8 F9 G0 G1;go_wp2_with (at_builtin;refine jZ _ rfl (.tmp 161) (.tmp 163) 56 rfl 133 _ 7 96 underlying56 Tryz.infoStmt rfl (by decide) (by decide) u3 _ _ w4.heap.size [.string sp,.int .i64 (cA sq.data.toList),.int .i64 (bm sr.data.toList),.int .i64 (0),.slice aa na ca,.slice ab nb cb,.int .i64 p.1] (by rfl) (by exact C6.alloc _) (by exact jj _ _ _ (ef _ _ _)) (by rfl) rfl (mm rfl rfl) (by omega) ?_)
      intro g cap2 w5 hown5 hgrow hat hlt5;have HP:=HI.push (Y:=fun j=>wr.heap.size+1<=j/\j<w4.heap.size) (va:=.slice aa na ca) (vb:=.slice ab nb cb) (k':=k+3+(wa.length+1)+1+1+(wa2.length+1)+1) ((E6.setCell (p:=⟨wr.heap.size,5,none⟩) (v9 _) _).alloc (by rw[ef];omega) _) (by rw[HX.out];exact hown5) hgrow (by simpa using hat) (G8.out.alloc _ (fun j hj=>by rw[ef];exact hj.2)) (G9.alloc _ (fun j hj=>by rw[ef];exact hj.2)) (fun j hj=>by simp;omega) rfl rfl (by omega) (by omega) HG.out;have C8:=ah HP;clear HP hown5 hgrow hat C6;go_wp2_with fail
      go_roundw;case rel=>exact⟨k+3+(wa.length+1)+1+1+(wa2.length+1)+1,_,B7,_,by go_num,C8⟩
      case measure=>simp[intOf];omega
    .rcases A5 with ⟨h0,_⟩|⟨o,wa,cl,hf,rfl,ho,hc,ha,C7,B0⟩|⟨o,wa,cl,el,o2,wa2,cl2,hf,rfl,ho,hc,he,ho2,hc2,ha,ha2⟩
     .exact absurd h0 (by decide)
     .have A5:True:=trivial;obtain⟨wt,rfl⟩:∃ wt,wt=C5:=⟨_,rfl⟩;simp only[List.nil_append,List.cons_append,List.append_assoc]at hu;obtain⟨c0,C9⟩:=ff A2 hu 0 p (by simp);simp only[Nat.add_zero]at c0 C9;obtain⟨c1,_⟩:=ff A2 hu 1 q (by simp);obtain⟨c2,_⟩:=ff A2 hu 2 r (by simp);obtain⟨c3,_⟩:=ff A2 hu 3 z (by simp);obtain⟨sp,A0⟩:∃ s,s=t.extract p.1 p.2:=⟨_,rfl⟩;obtain⟨sq,A8⟩:∃ s,s=t.extract q.1 q.2:=⟨_,rfl⟩;obtain⟨sr,C2⟩:∃ s,s=t.extract r.1 r.2:=⟨_,rfl⟩;obtain⟨sz,E1⟩:∃ s,s=t.extract z.1 z.2:=⟨_,rfl⟩;rw[<- A0]at c0;rw[<- A8]at c1;rw[<- C2]at c2;rw[<- E1]at c3;have F3:sp.size<=400:=by rw[A0];simp;omega
      have G2:sq.size<=400:=by rw[A8];simp;omega
      have H2:sr.size<=400:=by rw[C2];simp;omega
      have I5:sz.size<=400:=by rw[E1];simp;omega
      have n0:(sp.toList==[115,101,110,100])=false:=bg (by rw[A0];show ¬ ao t p=_;rw[hk];decide);have n1:(sp.toList==[119,97,105,116])=false:=bg (by rw[A0];show ¬ ao t p=_;rw[hk];decide);have n2:(sp.toList==[115,116,111,112])=false:=bg (by rw[A0];show ¬ ao t p=_;rw[hk];decide);have n3:(sp.toList==[97,115,107])=false:=bg (by rw[A0];show ¬ ao t p=_;rw[hk];decide);have y0:(sp.toList==[114,101,116,114,121])=true:=du (by rw[A0];exact hk);have B5:=congrArg List.length hu;simp at B5;have B2:b<wr.heap.size:=by omega
      have HX:Hid (∀ va vb:Value,iq t x.1 (va,vb)=[.string sp,.int .i64 (cA sr.data.toList),.int .i64 (bm sz.data.toList),.int .i64 (bm sq.data.toList),va,vb,.int .i64 p.1]):=fun va vb=>by rw[hx,A0,A8,C2,E1];rfl
      have B3:ws.drop (k+4)=o::(wa++cl::wt):=by have:=congrArg (List.drop 4) hu;simpa[List.drop_drop] using this
      have D2:gq t (ws.drop (k+4)) 0=some (wa.length+1):=by rw[B3];exact mJ ho hc (GT.passes d _ _ ha)
      obtain⟨co,_⟩:=ff A2 B3 0 o (by simp);simp only[Nat.add_zero]at co;obtain⟨so,C1⟩:∃ s,s=t.extract o.1 o.2:=⟨_,rfl⟩;rw[<- C1]at co;have yo:(so.toList==[123])=true:=du (by rw[C1];exact ho);have B4:ws.drop (k+4+1)=wa++cl::wt:=by have:=congrArg (List.drop 1) B3;simpa[List.drop_drop] using this
      have D3:aP t wr b (off+(k+4+1)*2) wa:=A2.sub (k+4+1) wa.length wa (by rw[B4];simp);have G4:k+4+(wa.length+1)+1<=ws.length:=by have:=congrArg List.length B4;simp at this;omega
      have B8:ws.drop (k+4+(wa.length+1)+1)=wt:=by have:=congrArg (List.drop (wa.length+1)) B4;rw[List.drop_drop]at this;rw[show k+4+(wa.length+1)+1=k+4+1+(wa.length+1) from by omega,this];simp
      have HA:=ah ha;have E2:=ah D2;have E3:=ah D3;have D8:=ah A2;have B6:k+4+(wa.length+1)+1=ws.length\/(k+4+(wa.length+1)+1<ws.length/\∃ s:ByteArray,wr.cell? ⟨b,off+(k+4+(wa.length+1)+1)*2,none⟩=some (.string s)/\(s.toList==[101,108,115,101])=false):=nE A2 B8 (by omega) B0;have HG:Hid (GL t (GT t d) (cm d) (ws.drop (k+4+(wa.length+1)+1)) B7):=by rw[B8];exact A3
      have HN:=ah C7;clear A0 A8 C2 E1 hp hk A5 hx hws A2 hu C7 A3 B3 B4 B8 B0 B5 D2 D3 ha ho hc C1;rcases B6 with B6|⟨B6,sn,hcn,hsn⟩;all_goals
       go_wp2_with fail
       go_region;go_wp2_with (first|(go_at_call 54;refine(lM _ _).mono ?_;rintro e w' ⟨rfl,rfl⟩)|(go_at_call 52;refine(ke _ _ (by unfold maxLen;omega)).mono ?_;rintro e w' ⟨rfl,rfl⟩))
       refine(mS t b off cap ws _ _ (k+4) (wa.length+1) (by omega) hlen ?_ E2.out).mono ?_
       .exact D8.keep (q9 _ _ _ B2)
       rintro e w' ⟨rfl,rfl⟩;go_wp2_with fail
       refine(ih wa x.2.1 _ b (off+(k+4+1)*2) _ _ _ (by omega) HA.out (by omega) (by omega) ?_).mono ?_
       .intro _;exact⟨rfl,by simp;omega,E3.out.keep (q9 _ _ _ B2)⟩
       rintro e w2 ⟨aa,na,ca,rfl,C3,A7⟩;have C4:(wr.alloc (.cells #[.string sp,.int .i64 (cA sr.data.toList),.int .i64 (bm sz.data.toList),.int .i64 (bm sq.data.toList),.slice none 0 0,.slice none 0 0,.int .i64 p.1] 133)).drew.heap.size=wr.heap.size+1:=by show(wr.alloc _).heap.size=_;simp
       rw[C4]at C3 A7;have A1:w2.heap[wr.heap.size]?=some (.cells #[.string sp,.int .i64 (cA sr.data.toList),.int .i64 (bm sz.data.toList),.int .i64 (bm sq.data.toList),.slice none 0 0,.slice none 0 0,.int .i64 p.1] 133):=(A7.block _ (by omega)).trans (v8 _ _);have F5:w2.cell? ⟨wr.heap.size,0,none⟩=some (.string sp):=(ag A1).trans rfl;have F6:w2.cell? ⟨wr.heap.size,1,none⟩=some (.int .i64 (cA sr.data.toList)):=(ag A1).trans rfl;have F7:w2.cell? ⟨wr.heap.size,2,none⟩=some (.int .i64 (bm sz.data.toList)):=(ag A1).trans rfl;have F8:w2.cell? ⟨wr.heap.size,3,none⟩=some (.int .i64 (bm sq.data.toList)):=(ag A1).trans rfl;have F9:w2.cell? ⟨wr.heap.size,4,none⟩=some (.slice none 0 0):=(ag A1).trans rfl;have G0:w2.cell? ⟨wr.heap.size,5,none⟩=some (.slice none 0 0):=(ag A1).trans rfl;have G1:w2.cell? ⟨wr.heap.size,6,none⟩=some (.int .i64 p.1):=(ag A1).trans rfl;have G6:w2.frozen? ⟨wr.heap.size,4,none⟩=false:=aC A1;have G5:wr.heap.size+1<=w2.heap.size:=by have:=A7.size;rw[C4]at this;exact this
       have A9:∀ (s:ByteArray) (j:Nat),wr.cell? ⟨b,j,none⟩=some (.string s)->w2.cell? ⟨b,j,none⟩=some (.string s):=fun s j hj=>(A7.cell (p:=⟨b,j,none⟩) (by show b < _;omega)).trans ((World.cell?_of_block (q9 _ _ _ B2)).trans hj);have C0:Below wr.heap.size wr w2:=(((v7 _ _).alloc (v9 _) _).drew).trans (A7.mono (by omega));have D4:=ah C0;have HT:=ah C3;have A4:(w2.setCell ⟨wr.heap.size,4,none⟩ (.slice aa na ca)).ownsRow 0 133 7 u3 xs.length (iV t xs):=aT A6 (fun j hj=>by obtain⟨cc,D6⟩:=ax A6 hj;have D7:=ak D6;rw[q8 _ _ _ _ (by show j≠wr.heap.size;omega)];exact C0.block j D7);have F4:=ah A1;clear C3 A7 A1 C0 C4;try (have H3:=A9 _ _ hcn)
       clear A9;go_wp2_with (at_builtin;refine jZ _ rfl (.tmp 161) (.tmp 163) 56 rfl 133 _ 7 96 underlying56 Tryz.infoStmt rfl (by decide) (by decide) u3 _ _ w2.heap.size [.string sp,.int .i64 (cA sr.data.toList),.int .i64 (bm sz.data.toList),.int .i64 (bm sq.data.toList),.slice aa na ca,.slice none 0 0,.int .i64 p.1] (by rfl) (by exact A4.alloc _) (by exact jj _ _ _ (ef _ _ _)) (by rfl) rfl (mm rfl rfl) (by omega) ?_)
       intro g cap2 w3 hown3 hgrow hat hlt3;have HP:=HI.push (Y:=fun j=>wr.heap.size+1<=j/\j<w2.heap.size) (va:=.slice aa na ca) (vb:=.slice none 0 0) (k':=k+4+(wa.length+1)+1) ((D4.setCell (p:=⟨wr.heap.size,4,none⟩) (v9 _) _).alloc (by rw[ef];omega) _) (by rw[HX.out];exact hown3) hgrow (by simpa using hat) ((HT.out.laid (Nat.lt_succ_self _)).alloc _ (fun j hj=>by rw[ef];exact hj.2)) (by rw[HN];exact ai.nil _ _ _ _) (fun j hj=>by simp;omega) rfl rfl (by omega) (by omega) HG.out;have C8:=ah HP;clear HP hown3 hgrow hat A4;go_wp2_with fail
       go_roundw;case rel=>exact⟨k+4+(wa.length+1)+1,_,B7,_,by go_num,C8⟩
       case measure=>simp[intOf];omega
     .have A5:True:=trivial;obtain⟨wt,F2⟩:∃ wt,wt=el::o2::(wa2++cl2::C5):=⟨_,rfl⟩;simp only[List.nil_append,List.cons_append,List.append_assoc]at hu;rw[<- F2]at hu;obtain⟨c0,C9⟩:=ff A2 hu 0 p (by simp);simp only[Nat.add_zero]at c0 C9;obtain⟨c1,_⟩:=ff A2 hu 1 q (by simp);obtain⟨c2,_⟩:=ff A2 hu 2 r (by simp);obtain⟨c3,_⟩:=ff A2 hu 3 z (by simp);obtain⟨sp,A0⟩:∃ s,s=t.extract p.1 p.2:=⟨_,rfl⟩;obtain⟨sq,A8⟩:∃ s,s=t.extract q.1 q.2:=⟨_,rfl⟩;obtain⟨sr,C2⟩:∃ s,s=t.extract r.1 r.2:=⟨_,rfl⟩;obtain⟨sz,E1⟩:∃ s,s=t.extract z.1 z.2:=⟨_,rfl⟩;rw[<- A0]at c0;rw[<- A8]at c1;rw[<- C2]at c2;rw[<- E1]at c3;have F3:sp.size<=400:=by rw[A0];simp;omega
      have G2:sq.size<=400:=by rw[A8];simp;omega
      have H2:sr.size<=400:=by rw[C2];simp;omega
      have I5:sz.size<=400:=by rw[E1];simp;omega
      have n0:(sp.toList==[115,101,110,100])=false:=bg (by rw[A0];show ¬ ao t p=_;rw[hk];decide);have n1:(sp.toList==[119,97,105,116])=false:=bg (by rw[A0];show ¬ ao t p=_;rw[hk];decide);have n2:(sp.toList==[115,116,111,112])=false:=bg (by rw[A0];show ¬ ao t p=_;rw[hk];decide);have n3:(sp.toList==[97,115,107])=false:=bg (by rw[A0];show ¬ ao t p=_;rw[hk];decide);have y0:(sp.toList==[114,101,116,114,121])=true:=du (by rw[A0];exact hk);have B5:=congrArg List.length hu;simp at B5;have B2:b<wr.heap.size:=by omega
      have HX:Hid (∀ va vb:Value,iq t x.1 (va,vb)=[.string sp,.int .i64 (cA sr.data.toList),.int .i64 (bm sz.data.toList),.int .i64 (bm sq.data.toList),va,vb,.int .i64 p.1]):=fun va vb=>by rw[hx,A0,A8,C2,E1];rfl
      have B3:ws.drop (k+4)=o::(wa++cl::wt):=by have:=congrArg (List.drop 4) hu;simpa[List.drop_drop] using this
      have D2:gq t (ws.drop (k+4)) 0=some (wa.length+1):=by rw[B3];exact mJ ho hc (GT.passes d _ _ ha)
      obtain⟨co,_⟩:=ff A2 B3 0 o (by simp);simp only[Nat.add_zero]at co;obtain⟨so,C1⟩:∃ s,s=t.extract o.1 o.2:=⟨_,rfl⟩;rw[<- C1]at co;have yo:(so.toList==[123])=true:=du (by rw[C1];exact ho);have B4:ws.drop (k+4+1)=wa++cl::wt:=by have:=congrArg (List.drop 1) B3;simpa[List.drop_drop] using this
      have D3:aP t wr b (off+(k+4+1)*2) wa:=A2.sub (k+4+1) wa.length wa (by rw[B4];simp);have G4:k+4+(wa.length+1)+1<=ws.length:=by have:=congrArg List.length B4;simp at this;omega
      have B8:ws.drop (k+4+(wa.length+1)+1)=wt:=by have:=congrArg (List.drop (wa.length+1)) B4;rw[List.drop_drop]at this;rw[show k+4+(wa.length+1)+1=k+4+1+(wa.length+1) from by omega,this];simp
      have HA:=ah ha;have E2:=ah D2;have E3:=ah D3;have D8:=ah A2;rw[F2]at B8;have D9:=B8;clear F2;have E9:ws.drop (k+4+(wa.length+1)+1+1)=o2::(wa2++cl2::C5):=by have:=congrArg (List.drop 1) B8;simpa[List.drop_drop] using this
      have E4:ws.drop (k+4+(wa.length+1)+1+1+1)=wa2++cl2::C5:=by have:=congrArg (List.drop 1) E9;simpa[List.drop_drop] using this
      have I2:k+4+(wa.length+1)+1+1+1+wa2.length+1<=ws.length:=by have:=congrArg List.length E4;simp at this;omega
      have G3:ws.drop (k+4+(wa.length+1)+1+1+(wa2.length+1)+1)=C5:=by have:=congrArg (List.drop (wa2.length+1)) E4;rw[List.drop_drop]at this;rw[show k+4+(wa.length+1)+1+1+(wa2.length+1)+1=k+4+(wa.length+1)+1+1+1+(wa2.length+1) from by omega,this];simp
      obtain⟨ce,_⟩:=ff A2 D9 0 el (by simp);simp only[Nat.add_zero]at ce;obtain⟨se,F0⟩:∃ s,s=t.extract el.1 el.2:=⟨_,rfl⟩;rw[<- F0]at ce;have ye:(se.toList==[101,108,115,101])=true:=du (by rw[F0];exact he);have E7:Hid (gq t (ws.drop (k+4+(wa.length+1)+1+1)) 0=some (wa2.length+1)):=by rw[E9];exact mJ ho2 hc2 (GT.passes d _ _ ha2)
      have E8:Hid (aP t wr b (off+(k+4+(wa.length+1)+1+1+1)*2) wa2):=A2.sub (k+4+(wa.length+1)+1+1+1) wa2.length wa2 (by rw[E4];simp);have G7:=ah ha2;have HG:Hid (GL t (GT t d) (cm d) (ws.drop (k+4+(wa.length+1)+1+1+(wa2.length+1)+1)) B7):=by rw[G3];exact A3
      clear A0 A8 C2 E1 hp hk A5 hx hws A2 hu A3 B3 B4 B8 D9 E9 E4 G3 B5 D2 D3 ha ha2 ho hc ho2 hc2 he C1 F0;go_wp2_with fail
      go_region;go_wp2_with (first|(go_at_call 54;refine(lM _ _).mono ?_;rintro e w' ⟨rfl,rfl⟩)|(go_at_call 52;refine(ke _ _ (by unfold maxLen;omega)).mono ?_;rintro e w' ⟨rfl,rfl⟩))
      refine(mS t b off cap ws _ _ (k+4) (wa.length+1) (by omega) hlen ?_ E2.out).mono ?_
      .exact D8.keep (q9 _ _ _ B2)
      rintro e w' ⟨rfl,rfl⟩;go_wp2_with fail
      refine(ih wa x.2.1 _ b (off+(k+4+1)*2) _ _ _ (by omega) HA.out (by omega) (by omega) ?_).mono ?_
      .intro _;exact⟨rfl,by simp;omega,E3.out.keep (q9 _ _ _ B2)⟩
      rintro e w2 ⟨aa,na,ca,rfl,C3,A7⟩;have C4:(wr.alloc (.cells #[.string sp,.int .i64 (cA sr.data.toList),.int .i64 (bm sz.data.toList),.int .i64 (bm sq.data.toList),.slice none 0 0,.slice none 0 0,.int .i64 p.1] 133)).drew.heap.size=wr.heap.size+1:=by show(wr.alloc _).heap.size=_;simp
      rw[C4]at C3 A7;have A1:w2.heap[wr.heap.size]?=some (.cells #[.string sp,.int .i64 (cA sr.data.toList),.int .i64 (bm sz.data.toList),.int .i64 (bm sq.data.toList),.slice none 0 0,.slice none 0 0,.int .i64 p.1] 133):=(A7.block _ (by omega)).trans (v8 _ _);have F5:w2.cell? ⟨wr.heap.size,0,none⟩=some (.string sp):=(ag A1).trans rfl;have F6:w2.cell? ⟨wr.heap.size,1,none⟩=some (.int .i64 (cA sr.data.toList)):=(ag A1).trans rfl;have F7:w2.cell? ⟨wr.heap.size,2,none⟩=some (.int .i64 (bm sz.data.toList)):=(ag A1).trans rfl;have F8:w2.cell? ⟨wr.heap.size,3,none⟩=some (.int .i64 (bm sq.data.toList)):=(ag A1).trans rfl;have F9:w2.cell? ⟨wr.heap.size,4,none⟩=some (.slice none 0 0):=(ag A1).trans rfl;have G0:w2.cell? ⟨wr.heap.size,5,none⟩=some (.slice none 0 0):=(ag A1).trans rfl;have G1:w2.cell? ⟨wr.heap.size,6,none⟩=some (.int .i64 p.1):=(ag A1).trans rfl;have G6:w2.frozen? ⟨wr.heap.size,4,none⟩=false:=aC A1;have G5:wr.heap.size+1<=w2.heap.size:=by have:=A7.size;rw[C4]at this;exact this
      have A9:∀ (s:ByteArray) (j:Nat),wr.cell? ⟨b,j,none⟩=some (.string s)->w2.cell? ⟨b,j,none⟩=some (.string s):=fun s j hj=>(A7.cell (p:=⟨b,j,none⟩) (by show b < _;omega)).trans ((World.cell?_of_block (q9 _ _ _ B2)).trans hj);have C0:Below wr.heap.size wr w2:=(((v7 _ _).alloc (v9 _) _).drew).trans (A7.mono (by omega));have D4:=ah C0;have HT:=ah C3;have A4:(w2.setCell ⟨wr.heap.size,4,none⟩ (.slice aa na ca)).ownsRow 0 133 7 u3 xs.length (iV t xs):=aT A6 (fun j hj=>by obtain⟨cc,D6⟩:=ax A6 hj;have D7:=ak D6;rw[q8 _ _ _ _ (by show j≠wr.heap.size;omega)];exact C0.block j D7);have F4:=ah A1;clear C3 A7 A1 C0 C4;have H0:=A9 _ _ ce;have D0:w2.heap[b]?=wr.heap[b]?:=D4.block b B2;have B0:b≠wr.heap.size:=by omega
      clear A9;go_wp2_with fail
      refine(mS t b off cap ws _ _ (k+4+(wa.length+1)+1+1) (wa2.length+1) (by omega) hlen ?_ E7.out).mono ?_
      .exact D8.keep ((q8 _ _ _ _ B0).trans D0)
      rintro e w' ⟨rfl,rfl⟩;go_wp2_with fail
      refine(ih wa2 x.2.2 _ b (off+(k+4+(wa.length+1)+1+1+1)*2) _ _ _ (by omega) G7.out (by omega) (by omega) ?_).mono ?_
      .intro _;exact⟨rfl,by rw[ef];omega,E8.out.keep ((q8 _ _ _ _ B0).trans D0)⟩
      rintro e w4 ⟨ab,nb,cb,rfl,F1,D5⟩;rw[ef]at F1 D5;have I3:w2.heap.size<=w4.heap.size:=by have:=D5.size;rw[ef]at this;exact this
      have B9:w4.heap[wr.heap.size]?=some (.cells #[.string sp,.int .i64 (cA sr.data.toList),.int .i64 (bm sz.data.toList),.int .i64 (bm sq.data.toList),.slice aa na ca,.slice none 0 0,.int .i64 p.1] 133):=by rw[D5.block _ (by omega),cG _ F4.out];rfl
      have H4:w4.cell? ⟨wr.heap.size,0,none⟩=some (.string sp):=(ag B9).trans rfl;have H5:w4.cell? ⟨wr.heap.size,1,none⟩=some (.int .i64 (cA sr.data.toList)):=(ag B9).trans rfl;have H6:w4.cell? ⟨wr.heap.size,2,none⟩=some (.int .i64 (bm sz.data.toList)):=(ag B9).trans rfl;have H7:w4.cell? ⟨wr.heap.size,3,none⟩=some (.int .i64 (bm sq.data.toList)):=(ag B9).trans rfl;have H8:w4.cell? ⟨wr.heap.size,4,none⟩=some (.slice aa na ca):=(ag B9).trans rfl;have H9:w4.cell? ⟨wr.heap.size,5,none⟩=some (.slice none 0 0):=(ag B9).trans rfl;have I0:w4.cell? ⟨wr.heap.size,6,none⟩=some (.int .i64 p.1):=(ag B9).trans rfl;have I4:w4.frozen? ⟨wr.heap.size,5,none⟩=false:=aC B9;have D1:∀ j,j<w2.heap.size->j≠wr.heap.size->(w4.setCell ⟨wr.heap.size,5,none⟩ (.slice ab nb cb)).heap[j]?=w2.heap[j]?:=fun j hj B0=>by rw[q8 _ _ _ _ (by exact B0),D5.block j hj,q8 _ _ _ _ (by exact B0)]
      have G8:Hid (ai t (w4.setCell ⟨wr.heap.size,5,none⟩ (.slice ab nb cb)) (fun k=>wr.heap.size+1<=k/\k<w4.heap.size) d (.slice aa na ca) x.2.1):=ai.mono (fun j hj=>⟨hj.1,by omega⟩) d _ _ (ai.keep (fun j hj=>D1 j hj.2 (by omega)) d _ _ (ai.bound d _ _ HT.out));have G9:Hid (ai t (w4.setCell ⟨wr.heap.size,5,none⟩ (.slice ab nb cb)) (fun k=>wr.heap.size+1<=k/\k<w4.heap.size) d (.slice ab nb cb) x.2.2):=ai.mono (fun j hj=>⟨by omega,hj.2⟩) d _ _ (F1.laid (by omega));have E6:Hid (Below wr.heap.size wr w4):=(D4.setCell (p:=⟨wr.heap.size,4,none⟩) (v9 _) _).trans (D5.mono (by omega));have C6:(w4.setCell ⟨wr.heap.size,5,none⟩ (.slice ab nb cb)).ownsRow 0 133 7 u3 xs.length (iV t xs):=aT A6 (fun j hj=>by obtain⟨cc,D6⟩:=ax A6 hj;have D7:=ak D6;rw[D1 j (by omega) (by omega)];exact D4.block j D7);clear F1 D5 B9 D1 D0 A4 F5 F6 F7 F8 F9 G0 G1;go_wp2_with (at_builtin;refine jZ _ rfl (.tmp 161) (.tmp 163) 56 rfl 133 _ 7 96 underlying56 Tryz.infoStmt rfl (by decide) (by decide) u3 _ _ w4.heap.size [.string sp,.int .i64 (cA sr.data.toList),.int .i64 (bm sz.data.toList),.int .i64 (bm sq.data.toList),.slice aa na ca,.slice ab nb cb,.int .i64 p.1] (by rfl) (by exact C6.alloc _) (by exact jj _ _ _ (ef _ _ _)) (by rfl) rfl (mm rfl rfl) (by omega) ?_)
      intro g cap2 w5 hown5 hgrow hat hlt5;have HP:=HI.push (Y:=fun j=>wr.heap.size+1<=j/\j<w4.heap.size) (va:=.slice aa na ca) (vb:=.slice ab nb cb) (k':=k+4+(wa.length+1)+1+1+(wa2.length+1)+1) ((E6.setCell (p:=⟨wr.heap.size,5,none⟩) (v9 _) _).alloc (by rw[ef];omega) _) (by rw[HX.out];exact hown5) hgrow (by simpa using hat) (G8.out.alloc _ (fun j hj=>by rw[ef];exact hj.2)) (G9.alloc _ (fun j hj=>by rw[ef];exact hj.2)) (fun j hj=>by simp;omega) rfl rfl (by omega) (by omega) HG.out;have C8:=ah HP;clear HP hown5 hgrow hat C6;go_wp2_with fail
      go_roundw;case rel=>exact⟨k+4+(wa.length+1)+1+1+(wa2.length+1)+1,_,B7,_,by go_num,C8⟩
      case measure=>simp[intOf];omega
    .obtain⟨o,wa,cl,rfl,ho,hc,ha,C7,B0⟩:∃ o wa c,wb=o::(wa++[c])/\ao t o=dK/\ao t c=dh/\GT t d wa x.2.1/\x.2.2=cm d/\lE t C5 fE:=by simpa using A5
     obtain⟨wt,rfl⟩:∃ wt,wt=C5:=⟨_,rfl⟩;simp only[List.nil_append,List.cons_append,List.append_assoc]at hu;obtain⟨c0,C9⟩:=ff A2 hu 0 p (by simp);simp only[Nat.add_zero]at c0 C9;obtain⟨c1,_⟩:=ff A2 hu 1 q (by simp);obtain⟨sp,A0⟩:∃ s,s=t.extract p.1 p.2:=⟨_,rfl⟩;obtain⟨sq,A8⟩:∃ s,s=t.extract q.1 q.2:=⟨_,rfl⟩;rw[<- A0]at c0;rw[<- A8]at c1;have F3:sp.size<=400:=by rw[A0];simp;omega
     have G2:sq.size<=400:=by rw[A8];simp;omega
     have n0:(sp.toList==[115,101,110,100])=false:=bg (by rw[A0];show ¬ ao t p=_;rw[hk];decide);have n1:(sp.toList==[119,97,105,116])=false:=bg (by rw[A0];show ¬ ao t p=_;rw[hk];decide);have n2:(sp.toList==[115,116,111,112])=false:=bg (by rw[A0];show ¬ ao t p=_;rw[hk];decide);have n3:(sp.toList==[97,115,107])=false:=bg (by rw[A0];show ¬ ao t p=_;rw[hk];decide);have n4:(sp.toList==[114,101,116,114,121])=false:=bg (by rw[A0];show ¬ ao t p=_;rw[hk];decide);have y0:(sp.toList==[114,101,112,101,97,116])=true:=du (by rw[A0];exact hk);have B5:=congrArg List.length hu;simp at B5;have B2:b<wr.heap.size:=by omega
     have HX:Hid (∀ va vb:Value,iq t x.1 (va,vb)=[.string sp,.int .i64 (0),.int .i64 (bm sq.data.toList),.int .i64 (0),va,vb,.int .i64 p.1]):=fun va vb=>by rw[hx,A0,A8];rfl
     have B3:ws.drop (k+2)=o::(wa++cl::wt):=by have:=congrArg (List.drop 2) hu;simpa[List.drop_drop] using this
     have D2:gq t (ws.drop (k+2)) 0=some (wa.length+1):=by rw[B3];exact mJ ho hc (GT.passes d _ _ ha)
     obtain⟨co,_⟩:=ff A2 B3 0 o (by simp);simp only[Nat.add_zero]at co;obtain⟨so,C1⟩:∃ s,s=t.extract o.1 o.2:=⟨_,rfl⟩;rw[<- C1]at co;have yo:(so.toList==[123])=true:=du (by rw[C1];exact ho);have B4:ws.drop (k+2+1)=wa++cl::wt:=by have:=congrArg (List.drop 1) B3;simpa[List.drop_drop] using this
     have D3:aP t wr b (off+(k+2+1)*2) wa:=A2.sub (k+2+1) wa.length wa (by rw[B4];simp);have G4:k+2+(wa.length+1)+1<=ws.length:=by have:=congrArg List.length B4;simp at this;omega
     have B8:ws.drop (k+2+(wa.length+1)+1)=wt:=by have:=congrArg (List.drop (wa.length+1)) B4;rw[List.drop_drop]at this;rw[show k+2+(wa.length+1)+1=k+2+1+(wa.length+1) from by omega,this];simp
     have HA:=ah ha;have E2:=ah D2;have E3:=ah D3;have D8:=ah A2;have B6:k+2+(wa.length+1)+1=ws.length\/(k+2+(wa.length+1)+1<ws.length/\∃ s:ByteArray,wr.cell? ⟨b,off+(k+2+(wa.length+1)+1)*2,none⟩=some (.string s)/\(s.toList==[101,108,115,101])=false):=nE A2 B8 (by omega) B0;have HG:Hid (GL t (GT t d) (cm d) (ws.drop (k+2+(wa.length+1)+1)) B7):=by rw[B8];exact A3
     have HN:=ah C7;clear A0 A8 hp hk A5 hx hws A2 hu C7 A3 B3 B4 B8 B0 B5 D2 D3 ha ho hc C1;rcases B6 with B6|⟨B6,sn,hcn,hsn⟩;all_goals
      go_wp2_with fail
      go_region;go_wp2_with (first|(go_at_call 54;refine(lM _ _).mono ?_;rintro e w' ⟨rfl,rfl⟩)|(go_at_call 52;refine(ke _ _ (by unfold maxLen;omega)).mono ?_;rintro e w' ⟨rfl,rfl⟩))
      refine(mS t b off cap ws _ _ (k+2) (wa.length+1) (by omega) hlen ?_ E2.out).mono ?_
      .exact D8.keep (q9 _ _ _ B2)
      rintro e w' ⟨rfl,rfl⟩;go_wp2_with fail
      refine(ih wa x.2.1 _ b (off+(k+2+1)*2) _ _ _ (by omega) HA.out (by omega) (by omega) ?_).mono ?_
      .intro _;exact⟨rfl,by simp;omega,E3.out.keep (q9 _ _ _ B2)⟩
      rintro e w2 ⟨aa,na,ca,rfl,C3,A7⟩;have C4:(wr.alloc (.cells #[.string sp,.int .i64 (0),.int .i64 (bm sq.data.toList),.int .i64 (0),.slice none 0 0,.slice none 0 0,.int .i64 p.1] 133)).drew.heap.size=wr.heap.size+1:=by show(wr.alloc _).heap.size=_;simp
      rw[C4]at C3 A7;have A1:w2.heap[wr.heap.size]?=some (.cells #[.string sp,.int .i64 (0),.int .i64 (bm sq.data.toList),.int .i64 (0),.slice none 0 0,.slice none 0 0,.int .i64 p.1] 133):=(A7.block _ (by omega)).trans (v8 _ _);have F5:w2.cell? ⟨wr.heap.size,0,none⟩=some (.string sp):=(ag A1).trans rfl;have F6:w2.cell? ⟨wr.heap.size,1,none⟩=some (.int .i64 (0)):=(ag A1).trans rfl;have F7:w2.cell? ⟨wr.heap.size,2,none⟩=some (.int .i64 (bm sq.data.toList)):=(ag A1).trans rfl;have F8:w2.cell? ⟨wr.heap.size,3,none⟩=some (.int .i64 (0)):=(ag A1).trans rfl;have F9:w2.cell? ⟨wr.heap.size,4,none⟩=some (.slice none 0 0):=(ag A1).trans rfl;have G0:w2.cell? ⟨wr.heap.size,5,none⟩=some (.slice none 0 0):=(ag A1).trans rfl;have G1:w2.cell? ⟨wr.heap.size,6,none⟩=some (.int .i64 p.1):=(ag A1).trans rfl;have G6:w2.frozen? ⟨wr.heap.size,4,none⟩=false:=aC A1;have G5:wr.heap.size+1<=w2.heap.size:=by have:=A7.size;rw[C4]at this;exact this
      have A9:∀ (s:ByteArray) (j:Nat),wr.cell? ⟨b,j,none⟩=some (.string s)->w2.cell? ⟨b,j,none⟩=some (.string s):=fun s j hj=>(A7.cell (p:=⟨b,j,none⟩) (by show b < _;omega)).trans ((World.cell?_of_block (q9 _ _ _ B2)).trans hj);have C0:Below wr.heap.size wr w2:=(((v7 _ _).alloc (v9 _) _).drew).trans (A7.mono (by omega));have D4:=ah C0;have HT:=ah C3;have A4:(w2.setCell ⟨wr.heap.size,4,none⟩ (.slice aa na ca)).ownsRow 0 133 7 u3 xs.length (iV t xs):=aT A6 (fun j hj=>by obtain⟨cc,D6⟩:=ax A6 hj;have D7:=ak D6;rw[q8 _ _ _ _ (by show j≠wr.heap.size;omega)];exact C0.block j D7);have F4:=ah A1;clear C3 A7 A1 C0 C4;try (have H3:=A9 _ _ hcn)
      clear A9;go_wp2_with (at_builtin;refine jZ _ rfl (.tmp 161) (.tmp 163) 56 rfl 133 _ 7 96 underlying56 Tryz.infoStmt rfl (by decide) (by decide) u3 _ _ w2.heap.size [.string sp,.int .i64 (0),.int .i64 (bm sq.data.toList),.int .i64 (0),.slice aa na ca,.slice none 0 0,.int .i64 p.1] (by rfl) (by exact A4.alloc _) (by exact jj _ _ _ (ef _ _ _)) (by rfl) rfl (mm rfl rfl) (by omega) ?_)
      intro g cap2 w3 hown3 hgrow hat hlt3;have HP:=HI.push (Y:=fun j=>wr.heap.size+1<=j/\j<w2.heap.size) (va:=.slice aa na ca) (vb:=.slice none 0 0) (k':=k+2+(wa.length+1)+1) ((D4.setCell (p:=⟨wr.heap.size,4,none⟩) (v9 _) _).alloc (by rw[ef];omega) _) (by rw[HX.out];exact hown3) hgrow (by simpa using hat) ((HT.out.laid (Nat.lt_succ_self _)).alloc _ (fun j hj=>by rw[ef];exact hj.2)) (by rw[HN];exact ai.nil _ _ _ _) (fun j hj=>by simp;omega) rfl rfl (by omega) (by omega) HG.out;have C8:=ah HP;clear HP hown3 hgrow hat A4;go_wp2_with fail
      go_roundw;case rel=>exact⟨k+2+(wa.length+1)+1,_,B7,_,by go_num,C8⟩
      case measure=>simp[intOf];omega
  .obtain rfl:k=ws.length:=by have:=B1.le;omega
   have H1:B7=[]:=by
    have:=B1.spelt;cases B7 with
    | nil=>rfl
    | cons x r=>
     rw[GL,List.drop_length]at this;obtain⟨wo,wb,C5,f,hu,hh,_⟩:=this;rcases hh with ⟨p,q,rfl,_⟩|⟨p,q,rfl,_⟩|⟨p,rfl,_⟩|⟨p,q,r,rfl,_⟩|⟨p,q,r,z,rfl,_⟩|⟨p,q,rfl,_⟩ <;> simp at hu
   subst H1;obtain⟨aa,na,ca,hv⟩:∃ aa na ca,u3=.slice aa na ca:=by
    rcases B1.own.2 with ⟨h1,_⟩|⟨g,c,cur,h1,_⟩
    .exact⟨_,_,_,h1⟩
    .exact⟨_,_,_,h1⟩
   have HI:=ah B1;have HV:=ah hv;clear B1 hv;go_wp2_with fail
   go_ret;refine⟨aa,na,ca,by rw[<- HV];rfl,?_,HI.bel⟩;rw[<- HV];refine⟨xs,HI.split.trans (List.append_nil _),HI.own,fun j hj=>(HI.new j hj).1,fun y hy=>?_,HI.one⟩;have h1:=HI.subs y hy;exact⟨ai.mono (fun j hj=>(HI.low j hj).1) d _ _ h1.1,ai.mono (fun j hj=>(HI.low j hj).1) d _ _ h1.2⟩
theorem AU (a:Option Addr)(cap:Nat)(w:World):
  Calls prog 24 #[.slice a 0 cap] w fun e w'=>e=.returned (.slice none 0 0)/\w'=w:=by
 go_enter func24,ntmps24
 go_wp2_with fail
 go_loop [3,4] (fun v i=>v=.slice none 0 0/\i=.int .i64 0) (fun _ _=>0)
 case atStart=>exact⟨rfl,rfl⟩
 case round=>
  obtain⟨rfl,rfl⟩:=hrel;go_wp2_with fail
  go_ret;exact⟨rfl,rfl⟩
theorem GT.empty {t:ByteArray}:∀ (d:Nat) (tr:af d),GT t d [] tr->tr=cm d:=by
 intro d tr h;cases d with
 | zero=>rfl
 | succ d=>
  cases tr with
  | nil=>rfl
  | cons x r=>
   change GL t (GT t d) (cm d) [] (x::r) at h;rw[GL]at h;obtain⟨wo,wb,A0,f,hu,hh,_⟩:=h;rcases hh with ⟨p,q,rfl,_⟩|⟨p,q,rfl,_⟩|⟨p,rfl,_⟩|⟨p,q,r,rfl,_⟩|⟨p,q,r,z,rfl,_⟩|⟨p,q,rfl,_⟩ <;> simp at hu
theorem vU (t:ByteArray)(ht:t.size<=400)(d:Nat):vT t d:=by
 have A0:∀ (d:Nat) (tr:af d) (a:Option Addr) (cap:Nat) (w:World),GT t d [] tr ->
   Calls prog 24 #[.slice a 0 cap] w fun e w'=>∃ aa na ca,e=.returned (.slice aa na ca)/\ai t w' (fun k=>w.heap.size<=k) d (.slice aa na ca) tr/\Below w.heap.size w w':=by
  intro d tr a cap w hg;rw[GT.empty d tr hg];refine(AU a cap w).mono fun e w' h=>⟨none,0,0,h.1,ai.nil _ _ _ _,?_⟩;rw[h.2];exact v7 _ _
 induction d with
 | zero=>
  intro ws tr a b off cap n w hn hg _ _ _;have A1:ws=[]:=hg;subst A1;subst hn;exact A0 0 tr a cap w hg
 | succ d ih=>
  intro ws tr a b off cap n w hn hg hlen hcap A1;subst hn;cases hc:ws with
  | nil=>rw[hc]at hg;exact A0 (d+1) tr a cap w hg
  | cons p r=>
   rw[<- hc];obtain⟨rfl,hb,A2⟩:=A1 (by rw[hc];simp);exact AV t ht d ih ws tr b off cap w hg hlen hcap hb A2
theorem De (a:Option Addr)(cap:Nat)(w:World):
  Calls prog 23 #[.slice a 0 cap] w fun e w'=>e=.returned (.int .i64 (-1))/\w'=w:=by
 go_enter func23,ntmps23
 go_wp2
 go_loop [3,4] (fun n i=>n=.int .i64 0/\i=.int .i64 0) (fun _ _=>0)
 case atStart=>exact⟨rfl,rfl⟩
 case round=>
  obtain⟨rfl,rfl⟩:=hrel;go_wp2
  go_ret;exact⟨rfl,rfl⟩
theorem wD (t:ByteArray)(a:Option Addr)(b off cap n:Nat)(ws:List (Nat×Nat))(w:World)(hn:n=ws.length)(hlen:ws.length<=400)(hw:0<ws.length->a=some ⟨b,off,none⟩/\aP t w b off ws):
  Calls prog 23 #[.slice a n cap] w fun e w'=>e=.returned (.int .i64 (fQ t ws 0))/\w'=w:=by
 subst hn;cases hc:ws with
 | nil=>exact De a cap w
 | cons p r=>
  rw[<- hc];obtain⟨rfl,h⟩:=hw (by rw[hc];simp);exact DL t b off cap ws w hlen h
theorem yI (t:ByteArray)(ht:400<t.size)(w:World):
  Calls prog 6 #[.string t] w fun e w'=>e=.returned (.tuple #[.int .i64 0,.int .i64 1,.int .i64 0])/\w'=w:=by
 go_enter func6,ntmps6
 go_wp2_with fail
 go_ret3;exact⟨rfl,rfl⟩
theorem vv (t:ByteArray)(ht:t.size<=400)(r:Int×Int×Int)(hr:ti t r)(w:World):
  Calls prog 6 #[.string t] w fun e w'=>e=.returned (.tuple #[.int .i64 r.1,.int .i64 r.2.1,.int .i64 r.2.2])/\Below w.heap.size w w':=by
 have A4:(dC t.data.toList).length<=400:=by
  have h2:=ky t.data.toList;have h3:t.data.toList.length=t.size:=by simp
  omega
 rcases hr with ⟨f,p,hf,hne,rfl⟩|⟨p,hf,hd,hp,rfl⟩|⟨tr,hf,hd,hgt,hgood,hsz,hr⟩
 .have HF:Hid (∀ W:World,Calls prog 21 #[.string t] W fun e w'=>e=.returned (.tuple #[.int .i64 f,.int .i64 p])/\Below W.heap.size W w'):=fun W=>by
   have:=rR t W ht;rw[hf]at this;exact this
  have e0:(f==0)=false:=by simpa using hne
  have e1:(f != 0)=true:=by simpa using hne
  clear hf hne A4;go_enter func6,ntmps6
  go_wp2_with fail
  refine(HF _).mono ?_;rintro e w1 ⟨rfl,A1⟩;go_wp2_with fail
  go_ret3;exact⟨rfl,A1⟩
 .have HF:Hid (∀ W:World,Calls prog 21 #[.string t] W fun e w'=>e=.returned (.tuple #[.int .i64 0,.int .i64 0])/\Below W.heap.size W w'):=fun W=>by
   have:=rR t W ht;rw[hf]at this;exact this
  have HD:=ah hd;clear hf hd;go_enter func6,ntmps6
  go_wp2_with fail
  refine(HF _).mono ?_;rintro e w1 ⟨rfl,A1⟩;go_wp2_with fail
  refine(qj t _ ht).mono ?_;rintro e w2 ⟨a,A3,L,rfl,A2,A0,A5⟩;generalize dC t.data.toList=ws at *;have A6:Hid (Calls prog 23 #[.slice a ws.length A3] w2 fun e w'=>e=.returned (.int .i64 p)/\w'=w2):=by
   have:=wD t a L 0 A3 ws.length ws w2 rfl A4 (fun h=>⟨(A0 h).1,(A0 h).2.2.2⟩);rw[HD]at this;exact this
  have HB:Hid (Below w.heap.size w w2):=A1.trans (A5.mono A1.size);clear A0 A1 A5 A4 A2 HD;go_wp2_with (go_at_call 23;refine A6.mono ?_;rintro e w' ⟨rfl,rfl⟩)
  go_ret3;exact⟨rfl,HB⟩
 .have HF:Hid (∀ W:World,Calls prog 21 #[.string t] W fun e w'=>e=.returned (.tuple #[.int .i64 0,.int .i64 0])/\Below W.heap.size W w'):=fun W=>by
   have:=rR t W ht;rw[hf]at this;exact this
  have HD:=ah hd;have HG:=ah hgt;have B0:Hid (io t 5 tr/\aF t 5 tr):=⟨aF.ok 5 tr hgood,hgood⟩;clear hf hd hgt hgood;go_enter func6,ntmps6
  go_wp2_with fail
  refine(HF _).mono ?_;rintro e w1 ⟨rfl,A1⟩;go_wp2_with fail
  refine(qj t _ ht).mono ?_;rintro e w2 ⟨a,A3,L,rfl,A2,A0,A5⟩;generalize dC t.data.toList=ws at *;have A6:Hid (Calls prog 23 #[.slice a ws.length A3] w2 fun e w'=>e=.returned (.int .i64 (-1))/\w'=w2):=by
   have:=wD t a L 0 A3 ws.length ws w2 rfl A4 (fun h=>⟨(A0 h).1,(A0 h).2.2.2⟩);rw[HD]at this;exact this
  have A9:Hid (Calls prog 24 #[.slice a ws.length A3] w2 fun e w'=>∃ aa na ca,e=.returned (.slice aa na ca)/\ai t w' (fun k=>w2.heap.size<=k) 5 (.slice aa na ca) tr/\Below w2.heap.size w2 w'):=
   vU t ht 5 ws tr a L 0 A3 ws.length w2 rfl HG A4 A2 (fun h=>⟨(A0 h).1,(A0 h).2.2.1,(A0 h).2.2.2⟩)
  have HB:Hid (Below w.heap.size w w2):=A1.trans (A5.mono A1.size);clear A0 A1 A5 A4 A2 HD;go_wp2_with (go_at_call 23;refine A6.mono ?_;rintro e w' ⟨rfl,rfl⟩)
  refine A9.mono ?_;rintro e w3 ⟨aa,na,ca,rfl,A8,B1⟩;have HH:Hid (Calls prog 25 #[.slice aa na ca,.int .i64 1] w3 fun e w'=>e=.returned (.int .i64 (fI t 5 tr 1))/\w'=w3):=Do t 5 _ tr 1 _ w3 A8 B0.1 hsz (by omega) (by omega);have HL:Hid (Calls prog 26 #[.slice aa na ca] w3 fun e w'=>e=.returned (.tuple #[.int .i64 (bE t 5 tr).1,.int .i64 (bE t 5 tr).2])/\Below w3.heap.size w3 w'):=BM t 5 _ tr _ w3 A8 B0.1 hsz (by omega);have A7:Hid (Below w.heap.size w w3):=HB.trans (B1.mono HB.size);clear A8 B1 A6 A9 HB;generalize (bE t 5 tr).1=A at *;generalize (bE t 5 tr).2=C at *;generalize fI t 5 tr 1=P at *;rcases hr with ⟨p,rfl,hp,rfl⟩|⟨rfl,hl,rfl⟩|⟨rfl,hl,rfl⟩
  .go_wp2_with (go_at_call 25;refine HH.mono ?_;rintro e w' ⟨rfl,rfl⟩)
   go_ret3;exact⟨rfl,A7⟩
  iterate 2
   .go_wp2_with (go_at_call 25;refine HH.mono ?_;rintro e w' ⟨rfl,rfl⟩)
    refine HL.mono ?_;rintro e w4 ⟨rfl,B2⟩;have B3:Hid (Below w.heap.size w w4):=A7.trans (B2.mono A7.size);clear B2;go_wp2_with (go_at_call 27;refine(pE _ _ _).mono ?_;rintro e w' ⟨rfl,rfl⟩)
    go_ret3;exact⟨rfl,B3⟩
end Go.Proofs.YtmmmnghiegajmaaGreat
