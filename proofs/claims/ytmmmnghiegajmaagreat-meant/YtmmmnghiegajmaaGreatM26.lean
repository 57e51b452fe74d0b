import Derived.Test.YtmmmnghiegajmaaGreatM24
import Derived.Test.YtmmmnghiegajmaaGreatM12
import Derived.Test.YtmmmnghiegajmaaGreatM11
import Derived.Test.YtmmmnghiegajmaaGreatM20
import Derived.Deep.DeepCutAuto
namespace Go.Proofs.YtmmmnghiegajmaaGreat
open Go.RowKit Go.Proofs.Herald
def zjs (X:Nat->Prop)(w w':World)(l q:Value)(k:Nat):Prop:=k<w'.heap.size/\(X k\/l.ownBlock=some k\/q.ownBlock=some k\/w.heap.size<=k)
theorem znZ (X:Nat->Prop)(O:Nat)(n now:Int)(cv rv qv:Value)(cb rb qb:List (Value×List Value))(a:Option Addr)(nl cap:Nat)(xs:List Value)(aq:Option Addr)(nq capq:Nat)(xq:List Value)(w:World)(hn0:0<=n)(hn1:n<=900000000)(hnl:nl<=1000000)(hnq:nq<=1000000)(hrb:rb.length<=10000000)(hqb:qb.length<=10000000)
  (h:OwnAt w X O n cv rv qv cb rb qb) (hl:w.ownsRow 0 96 5 (.slice a nl cap) nl xs) (hlq:w.ownsRow 0 87 4 (.slice aq nq capq) nq xq)
  (hlX:∀ b,(Value.slice a nl cap).ownBlock=some b->¬ X b) (hqX:∀ b,(Value.slice aq nq capq).ownBlock=some b->¬ X b):
  Calls Tryz.prog 47 #[.pointer (some ⟨O,0,none⟩),.agg #[.int .i64 now,.slice a nl cap,.slice aq nq capq]] w fun e w'=>e=.returned (.tuple #[]) /\
   ∃ rv' qv' rb' qb',rb'.length=rb.length+4/\qb'.length=qb.length+4/\OwnAt w' (zjs X w w' (.slice a nl cap) (.slice aq nq capq)) O (n+1) cv rv' qv' cb rb' qb'/\Fr (fun k=>X k\/(Value.slice a nl cap).ownBlock=some k\/(Value.slice aq nq capq).ownBlock=some k) w w':=by
 refine (zo5 O n now cv rv qv rb qb a nl cap xs aq nq capq xq w hn0 hn1 hnl hnq hrb hqb h.blk h.rown h.qown hl hlq).mono ?_
 rintro e w' ⟨rfl,wm,u,v1,v2,v3,v,v4,v5,v6,B1,B2⟩
 obtain ⟨w0,hw0⟩:∃ W,W=((w.setCell ⟨O,0,none⟩ (.int .i64 (n+1))).alloc (.cells #[.int .i64 now,.slice a nl cap,.slice aq nq capq] 103)):=⟨_,rfl⟩
 rw [<- hw0] at B1
 have hs0:w0.heap.size=w.heap.size+1:=by rw [hw0];simp [World.setCell]
 have hsm:=B1.fr.size
 have hs':=B2.fr.size
 have old0:∀ {b:Nat} {cur:Array Value} {e:TypeId},w.heap[b]?=some (.cells cur e (0,0))->e≠28->w0.heap[b]?=some (.cells cur e (0,0)):=fun {b cur e} hb he=>by
  rw [hw0,Below.heap_alloc _ _ _ (by simp [World.setCell];exact zae hb),Below.heap_setCell _ _ _ _ (zac hb h.blk he)];exact hb
 have keep1:∀ {b:Nat} {cur:Array Value} {e:TypeId},w.heap[b]?=some (.cells cur e (0,0))->e≠28->e≠98->(Value.slice a nl cap).ownBlock≠some b->wm.heap[b]?=some (.cells cur e (0,0)):=fun {b cur e} hb h1 h2 h3=>by
  have hb0:=old0 hb h1
  rw [B1.fr.block b (zae hb0) (fun hh=>?_)]
  .exact hb0
  .rcases hh with rfl|hh|hh
   .exact zac hb h.blk h1 rfl
   .obtain ⟨c,hc⟩:=zad h.rown hh;exact zac hb hc h2 rfl
   .exact h3 hh
 have qm:wm.ownsRow 0 101 5 qv qb.length (zaP qb):=zaj h.qown fun b hb=>by
  obtain ⟨c,hc⟩:=zad h.qown hb
  rw [keep1 hc (by decide) (by decide) (fun e=>by obtain ⟨c2,hc2⟩:=zad hl e;exact zac hc hc2 (by decide) rfl),hc]
 have keep2:∀ {b:Nat} {cur:Array Value} {e:TypeId},wm.heap[b]?=some (.cells cur e (0,0))->e≠28->e≠101->(Value.slice aq nq capq).ownBlock≠some b->w'.heap[b]?=some (.cells cur e (0,0)):=fun {b cur e} hb h1 h2 h3=>by
  rw [B2.fr.block b (zae hb) (fun hh=>?_)]
  .exact hb
  .rcases hh with rfl|hh|hh
   .exact zac hb B1.o h1 rfl
   .obtain ⟨c,hc⟩:=zad qm hh;exact zac hb hc h2 rfl
   .exact h3 hh
 have lqm:wm.ownsRow 0 87 4 (.slice aq nq capq) nq xq:=zaj hlq fun b hb=>by
  obtain ⟨c,hc⟩:=zad hlq hb
  rw [keep1 hc (by decide) (by decide) (fun e=>by obtain ⟨c2,hc2⟩:=zad hl e;exact zac hc hc2 (by decide) rfl),hc]
 have inX:∀ {b:Nat},X b->∀ {o:Obj},w.heap[b]?=some o->zjs X w w' (.slice a nl cap) (.slice aq nq capq) b:=fun {b} hb {o} ho=>⟨by have:=zae ho;omega,Or.inl hb⟩
 refine ⟨rfl,u,v,rb++[(.slice a nl cap,[.int .i64 (-(n+1)),.int .i64 0,.int .i64 0,.int .i64 0,.int .i64 0]),(v1,[.int .i64 (-(n+1)),.int .i64 0,.int .i64 0,.int .i64 0,.int .i64 0]),(v2,[.int .i64 (-(n+1)),.int .i64 0,.int .i64 0,.int .i64 0,.int .i64 0]),(v3,[.int .i64 (-(n+1)),.int .i64 0,.int .i64 0,.int .i64 0,.int .i64 0])],qb++[(.slice aq nq capq,[.int .i64 0,.int .i64 (-(n+1)),.int .i64 0,.int .i64 0]),(v4,[.int .i64 0,.int .i64 (-(n+1)),.int .i64 0,.int .i64 0]),(v5,[.int .i64 0,.int .i64 (-(n+1)),.int .i64 0,.int .i64 0]),(v6,[.int .i64 0,.int .i64 (-(n+1)),.int .i64 0,.int .i64 0])],?_,?_,⟨B2.o,inX h.inO h.blk,?_,?_,B2.rown,?_,?_,?_,?_,?_,?_⟩,?_⟩
 .simp
 .simp
 .exact zaj h.cown fun b hb=>by
   obtain ⟨c,hc⟩:=zad h.cown hb
   rw [keep2 (keep1 hc (by decide) (by decide) (fun e=>by obtain ⟨c2,hc2⟩:=zad hl e;exact zac hc hc2 (by decide) rfl)) (by decide) (by decide) (fun e=>by obtain ⟨c2,hc2⟩:=zad hlq e;exact zac hc hc2 (by decide) rfl),hc]
 .exact zaj B1.rown fun b hb=>by
   obtain ⟨c,hc⟩:=zad B1.rown hb
   rw [keep2 hc (by decide) (by decide) (fun e=>by obtain ⟨c2,hc2⟩:=zad lqm e;exact zac hc hc2 (by decide) rfl),hc]
 .intro b hb
  obtain ⟨c,hc⟩:=zad h.cown hb
  exact inX (h.cin b hb) hc
 .intro b hb
  obtain ⟨c,hc⟩:=zad B1.rown hb
  refine ⟨by have:=zae hc;omega,?_⟩
  rcases B1.rat b hb with h1|h1
  .exact Or.inl (h.rin b h1)
  .exact Or.inr (Or.inr (Or.inr (by omega)))
 .intro b hb
  obtain ⟨c,hc⟩:=zad B2.rown hb
  refine ⟨zae hc,?_⟩
  rcases B2.rat b hb with h1|h1
  .exact Or.inl (h.qin b h1)
  .exact Or.inr (Or.inr (Or.inr (by omega)))
 .intro b hb
  obtain ⟨h1,m,hm,h2,h3⟩:=h.cbk b hb
  refine ⟨h1,m,hm,zaj h2 fun g hg=>?_,fun g hg=>?_⟩
  .obtain ⟨c,hc⟩:=zad h2 hg
   rw [keep2 (keep1 hc (by decide) (by decide) (fun e=>by obtain ⟨c2,hc2⟩:=zad hl e;exact zac hc hc2 (by decide) rfl)) (by decide) (by decide) (fun e=>by obtain ⟨c2,hc2⟩:=zad hlq e;exact zac hc hc2 (by decide) rfl),hc]
  .obtain ⟨c,hc⟩:=zad h2 hg
   exact inX (h3 g hg) hc
 .have new:∀ x nx,nx<=100000000->wm.ownsRow 0 96 5 x nx (zbv [.int .i64 (-(n+1)),.int .i64 0,.int .i64 0,.int .i64 0,.int .i64 0] nx)->(∀ b,x.ownBlock=some b->(Value.slice a nl cap).ownBlock=some b\/w0.heap.size<=b) ->
    BookOk w' (zjs X w w' (.slice a nl cap) (.slice aq nq capq)) 96 5 (x,[.int .i64 (-(n+1)),.int .i64 0,.int .i64 0,.int .i64 0,.int .i64 0]):=fun x nx hnx hx hxb=>by
   refine ⟨⟨[-(n+1),0,0,0,0],rfl,rfl⟩,nx,hnx,zaj hx fun g hg=>?_,fun g hg=>?_⟩
   .obtain ⟨c,hc⟩:=zad hx hg
    rw [keep2 hc (by decide) (by decide) (fun e=>by obtain ⟨c2,hc2⟩:=zad lqm e;exact zac hc hc2 (by decide) rfl),hc]
   .obtain ⟨c,hc⟩:=zad hx hg
    refine ⟨by have:=zae hc;omega,?_⟩
    rcases hxb g hg with h1|h1
    .exact Or.inr (Or.inl h1)
    .exact Or.inr (Or.inr (Or.inr (by omega)))
  intro b hb
  rw [List.mem_append] at hb
  rcases hb with hb|hb
  .obtain ⟨h1,m,hm,h2,h3⟩:=h.rbk b hb
   refine ⟨h1,m,hm,zaj h2 fun g hg=>?_,fun g hg=>?_⟩
   .obtain ⟨c,hc⟩:=zad h2 hg
    rw [keep2 (keep1 hc (by decide) (by decide) (fun e=>hlX g e (h3 g hg))) (by decide) (by decide) (fun e=>by obtain ⟨c2,hc2⟩:=zad hlq e;exact zac hc hc2 (by decide) rfl),hc]
   .obtain ⟨c,hc⟩:=zad h2 hg
    exact inX (h3 g hg) hc
  .simp only [List.mem_cons,List.not_mem_nil,or_false] at hb
   rcases hb with rfl|rfl|rfl|rfl
   .exact new _ nl (by omega) B1.lown (fun b hb=>Or.inl hb)
   .obtain ⟨k1,_,k3⟩:=B1.kins (v1,nl+1) (by simp)
    exact new _ _ (by omega) k1 k3
   .obtain ⟨k1,_,k3⟩:=B1.kins (v2,nl+2) (by simp)
    exact new _ _ (by omega) k1 k3
   .obtain ⟨k1,_,k3⟩:=B1.kins (v3,nl+3) (by simp)
    exact new _ _ (by omega) k1 k3
 .have new:∀ x nx,nx<=100000000->w'.ownsRow 0 87 4 x nx (zbv [.int .i64 0,.int .i64 (-(n+1)),.int .i64 0,.int .i64 0] nx)->(∀ b,x.ownBlock=some b->(Value.slice aq nq capq).ownBlock=some b\/wm.heap.size<=b) ->
    BookOk w' (zjs X w w' (.slice a nl cap) (.slice aq nq capq)) 87 4 (x,[.int .i64 0,.int .i64 (-(n+1)),.int .i64 0,.int .i64 0]):=fun x nx hnx hx hxb=>by
   refine ⟨⟨[0,-(n+1),0,0],rfl,rfl⟩,nx,hnx,hx,fun g hg=>?_⟩
   obtain ⟨c,hc⟩:=zad hx hg
   refine ⟨zae hc,?_⟩
   rcases hxb g hg with h1|h1
   .exact Or.inr (Or.inr (Or.inl h1))
   .exact Or.inr (Or.inr (Or.inr (by omega)))
  intro b hb
  rw [List.mem_append] at hb
  rcases hb with hb|hb
  .obtain ⟨h1,m,hm,h2,h3⟩:=h.qbk b hb
   refine ⟨h1,m,hm,zaj h2 fun g hg=>?_,fun g hg=>?_⟩
   .obtain ⟨c,hc⟩:=zad h2 hg
    rw [keep2 (keep1 hc (by decide) (by decide) (fun e=>by obtain ⟨c2,hc2⟩:=zad hl e;exact zac hc hc2 (by decide) rfl)) (by decide) (by decide) (fun e=>hqX g e (h3 g hg)),hc]
   .obtain ⟨c,hc⟩:=zad h2 hg
    exact inX (h3 g hg) hc
  .simp only [List.mem_cons,List.not_mem_nil,or_false] at hb
   rcases hb with rfl|rfl|rfl|rfl
   .exact new _ nq (by omega) B2.lown (fun b hb=>Or.inl hb)
   .obtain ⟨k1,_,k3⟩:=B2.kins (v4,nq+1) (by simp)
    exact new _ _ (by omega) k1 k3
   .obtain ⟨k1,_,k3⟩:=B2.kins (v5,nq+2) (by simp)
    exact new _ _ (by omega) k1 k3
   .obtain ⟨k1,_,k3⟩:=B2.kins (v6,nq+3) (by simp)
    exact new _ _ (by omega) k1 k3
 .have f0:Fr (fun k=>X k\/(Value.slice a nl cap).ownBlock=some k\/(Value.slice aq nq capq).ownBlock=some k) w w0:=by
   rw [hw0]
   exact ((Fr.refl _ w).setCell ⟨O,0,none⟩ (Or.inl (Or.inl h.inO)) _).alloc _
  have f1:Fr (fun k=>X k\/(Value.slice a nl cap).ownBlock=some k\/(Value.slice aq nq capq).ownBlock=some k) w0 wm:=B1.fr.mono fun k _ hk=>by
   rcases hk with rfl|hk|hk
   .exact Or.inl h.inO
   .exact Or.inl (h.rin k hk)
   .exact Or.inr (Or.inl hk)
  have f2:Fr (fun k=>X k\/(Value.slice a nl cap).ownBlock=some k\/(Value.slice aq nq capq).ownBlock=some k) wm w':=B2.fr.mono fun k _ hk=>by
   rcases hk with rfl|hk|hk
   .exact Or.inl h.inO
   .exact Or.inl (h.qin k hk)
   .exact Or.inr (Or.inr hk)
  exact (f0.trans f1).trans f2
end Go.Proofs.YtmmmnghiegajmaaGreat
set_option maxHeartbeats 1000000
namespace Go.Proofs.Herald
def zb3 (p:Pr):Pr:={p with els:=p.els+1}
def zfn (p:Pr)(r:Int):Pr:=zdU p r (if 1000000<zcz p r*2 then 1000000 else zcz p r*2)
def zek (p:Pr)(c:Int):Pr:={p with tow:=p.els,els:=c}
def zea (p:Pr)(c:Int):Pr:={p with tow:=c}
def zin (p:Pr)(a:Int):Pr:=if 0<zcz p a then zdU p a (zcz p a - 1) else p
def zeB (p:Pr)(a c:Int):Pr:=if 0<zcz (zin p a) a then {zin p a with els:=c} else zin p a
def zcj (now:Int)(x:Ins)(q:List Msg)(p:Pr):List Msg×Pr×Int:=
 if x.op=0 then (q,zb3 p,2)
 else if x.op=1 then ((zan q (zb3 p) x.a).1,(zan q (zb3 p) x.a).2.1,0)
 else if x.op=2 then (q,zbL (zb3 p) now x.a 0,1)
 else if x.op=3 then
  (if (zan q (zek (zb3 p) x.c) x.a).2.2=0 then ((zan q (zek (zb3 p) x.c) x.a).1,(zan q (zek (zb3 p) x.c) x.a).2.1,0)
   else ((zan q (zek (zb3 p) x.c) x.a).1,zbL (zan q (zek (zb3 p) x.c) x.a).2.1 now x.b (zan q (zek (zb3 p) x.c) x.a).2.2,1))
 else if x.op=4 then (q,zdU (zb3 p) x.a x.b,0)
 else if x.op=5 then (q,zfn (zb3 p) x.a,0)
 else if x.op=6 then ((zan q (zea (zb3 p) x.c) x.a).1,zbL (zan q (zea (zb3 p) x.c) x.a).2.1 now (if zcz p x.b<1 then 1 else zcz p x.b) (zan q (zea (zb3 p) x.c) x.a).2.2,1)
 else if x.op=7 then (q,zeB (zb3 p) x.a x.c,0)
 else if x.op=8 then (q,{zb3 p with els:=x.c},0)
 else (q,zb3 p,0)
def zco (now:Int)(cs:List Ins):Nat->List Msg->Pr->List Msg×Pr×Bool
 | 0,q,p=>(q,p,true)
 | f+1,q,p=>
  if h:p.els.toNat<cs.length then
   (if (zcj now cs[p.els.toNat] q p).2.2=0 then zco now cs f (zcj now cs[p.els.toNat] q p).1 (zcj now cs[p.els.toNat] q p).2.1
    else ((zcj now cs[p.els.toNat] q p).1,(zcj now cs[p.els.toNat] q p).2.1,(zcj now cs[p.els.toNat] q p).2.2 != 1))
  else (q,p,true)
def onM (now:Int)(cs:List Ins)(yes:Bool)(q:List Msg)(p:Pr):List Msg×Pr×Bool:=
 if yes then zco now cs 10000 q {p with els:=p.tow}
 else if p.num=0 then zco now cs 10000 q p
 else zco now cs 10000 (zbK q p.id p.num) p
def zaA (cs:List Ins):Eng Pr:=⟨zcE,zaZ,fun now q p=>zco now cs 10000 q p,fun now yes q p=>onM now cs yes q p⟩
theorem zjL (q:List Msg)(p:Pr)(key:Int):(zan q p key).2.1.id=p.id:=(zb6 q p key).2.1
theorem ziM (now:Int)(x:Ins)(q:List Msg)(p:Pr):(zcj now x q p).2.1.id=p.id:=by
 unfold zcj
 repeat' split
 all_goals first|rfl|exact zjL _ _ _|skip
 unfold zeB zin
 repeat' split
 all_goals rfl
theorem zgr (now:Int)(cs:List Ins):∀ (f:Nat) (q:List Msg) (p:Pr),(zco now cs f q p).2.1.id=p.id:=by
 intro f
 induction f with
 | zero=>intro q p;rfl
 | succ f ih=>
  intro q p
  rw [zco]
  split
  .split
   .exact (ih _ _).trans (ziM _ _ _ _)
   .exact ziM _ _ _ _
  .rfl
theorem zls (now:Int)(cs:List Ins)(yes:Bool)(q:List Msg)(p:Pr):(onM now cs yes q p).2.1.id=p.id:=by
 unfold onM
 split
 .exact zgr _ _ _ _ _
 .split
  .exact zgr _ _ _ _ _
  .exact zgr _ _ _ _ _
theorem zjT (now:Int)(x:Ins)(pc:Int)(q:List Msg)(p:Pr):(zbO now x pc q p).2.1.id=p.id:=by
 unfold zbO
 repeat' split
 all_goals first|rfl|exact zjL _ _ _
theorem zgQ (now:Int)(cs:List Ins):∀ (f:Nat) (pc:Int) (q:List Msg) (p:Pr),(zdu now cs f pc q p).2.1.id=p.id:=by
 intro f
 induction f with
 | zero=>intro pc q p;rfl
 | succ f ih=>
  intro pc q p
  rw [zdu]
  split
  .split
   .exact zjT _ _ _ _ _
   .exact (ih _ _ _).trans (zjT _ _ _ _ _)
  .rfl
theorem zpS (now:Int)(cs:List Ins)(yes:Bool)(q:List Msg)(p:Pr):(onP now cs yes q p).2.1.id=p.id:=by
 unfold onP
 split
 .exact zgQ _ _ _ _ _ _
 .split
  .exact zgQ _ _ _ _ _ _
  .exact zgQ _ _ _ _ _ _
structure InR (pc:Int)(p m:Pr):Prop where
 id:p.id=m.id
 dev:p.dev=m.dev
 sent:p.sent=m.sent
 til:p.til=m.til
 regs:p.regs=m.regs
 els:m.els=pc
 pc0:0<=pc
 sent0:0<=p.sent
 len:p.regs.length=12
structure StR (p m:Pr):Prop where
 id:p.id=m.id
 dev:p.dev=m.dev
 sent:p.sent=m.sent
 til:p.til=m.til
 num:p.num=m.num
 regs:p.regs=m.regs
 els:p.els=m.els
 els0:0<=p.els
 tow:p.num≠0->p.tow=m.tow/\0<=p.tow
 num0:0<=p.num
 sent0:0<=p.sent
 len:p.regs.length=12
theorem ziI {pc:Int}{p m:Pr}(h:InR pc p m)(q:List Msg)(key:Int):
  (zan q p key).1=(zan q m key).1/\(zan q p key).2.2=(zan q m key).2.2/\InR pc (zan q p key).2.1 (zan q m key).2.1/\0<=(zan q p key).2.2:=by
 have e:(⟨m.dev,m.id,m.sent+1,key⟩:Msg)=⟨p.dev,p.id,p.sent+1,key⟩:=by rw [h.id,h.dev,h.sent]
 have h0:=h.sent0
 have e2:p.sent+1=m.sent+1:=by rw [h.sent]
 unfold zan
 rw [e]
 cases zgM q ⟨p.dev,p.id,p.sent+1,key⟩ with
 | some q'=>
  simp only
  exact ⟨trivial,e2,⟨h.id,h.dev,e2,h.til,h.regs,h.els,h.pc0,by show 0<=p.sent+1;omega,h.len⟩,by omega⟩
 | none=>exact ⟨rfl,rfl,h,Int.le_refl 0⟩
theorem InR.inc {pc:Int}{p m:Pr}(h:InR pc p m):InR (pc+1) p (zb3 m):=
 ⟨h.id,h.dev,h.sent,h.til,h.regs,by show m.els+1=_;rw [h.els],by have:=h.pc0;omega,h.sent0,h.len⟩
theorem InR.setP {pc:Int}{p m:Pr}(h:InR pc p m)(r v:Int):InR pc (zdU p r v) (zdU m r v):=
 ⟨h.id,h.dev,h.sent,h.til,by show p.regs.set _ _=m.regs.set _ _;rw [h.regs],h.els,h.pc0,h.sent0,by show (p.regs.set _ _).length=_;rw [List.length_set];exact h.len⟩
theorem InR.reg {pc:Int}{p m:Pr}(h:InR pc p m)(r:Int):zcz m r=zcz p r:=by unfold zcz;rw [h.regs]
theorem ziC {p:Pr}{r v:Int}(h:r.toNat<p.regs.length):zcz (zdU p r v) r=v:=by
 unfold zcz zdU
 simp [h]
theorem InR.jump {pc c:Int}{p m:Pr}(h:InR pc p m)(h0:0<=c):InR c p {m with els:=c}:=
 ⟨h.id,h.dev,h.sent,h.til,h.regs,rfl,h0,h.sent0,h.len⟩
structure StepSame (r:List Msg×Pr×Int×Bool)(o:List Msg×Pr×Int):Prop where
 q:r.1=o.1
 go:o.2.2=0->0<=r.2.2.1/\InR r.2.2.1 r.2.1 o.2.1
 stop:o.2.2≠0->r.2.2.1<0/\r.2.2.2=(o.2.2 != 1)/\(o.2.2=1->StR r.2.1 o.2.1)
theorem zjU {n now:Int}{x:Ins}{pc:Int}{q:List Msg}{p m:Pr}(hx:zaK n x=true)(h:InR pc p m):StepSame (zbO now x pc q p) (zcj now x q m):=by
 have hi:=h.inc
 have hpc:=h.pc0
 have hlen:=h.len
 have t20:¬ (2:Int)=0:=by decide
 have t21:¬ (2:Int)=1:=by decide
 have t10:¬ (1:Int)=0:=by decide
 have tm:(-1:Int)<0:=by decide
 unfold zaK at hx
 unfold zbO zcj
 by_cases g0:x.op=0
 .rw [if_neg (by omega),if_neg (by omega),if_neg (by omega),if_neg (by omega),if_neg (by omega),if_neg (by omega),if_neg (by omega),if_neg (by omega),if_pos g0]
  exact ⟨rfl,fun hh=>absurd hh t20,fun _=>⟨tm,rfl,fun hh=>absurd hh t21⟩⟩
 rw [if_neg g0] at hx ⊢
 by_cases g1:x.op=1
 .rw [if_pos g1,if_pos g1]
  obtain ⟨k1,k2,k3,k4⟩:=ziI hi q x.a
  exact ⟨k1,fun _=>⟨by show 0<=pc+1;omega,k3⟩,fun hh=>absurd rfl hh⟩
 rw [if_neg g1] at hx ⊢
 rw [if_neg g1]
 by_cases g2:x.op=2
 .rw [if_pos g2,if_pos g2]
  exact ⟨rfl,fun hh=>absurd hh t10,fun _=>⟨tm,rfl,fun _=>⟨h.id,h.dev,h.sent,rfl,rfl,h.regs,hi.els.symm,hi.pc0,fun hh=>absurd rfl hh,Int.le_refl 0,h.sent0,h.len⟩⟩⟩
 rw [if_neg g2] at hx ⊢
 rw [if_neg g2]
 by_cases g3:x.op=3
 .rw [if_pos g3] at hx ⊢
  rw [if_pos g3]
  simp only [Bool.and_eq_true] at hx
  have hc:=zaN hx.2
  have ha:InR x.c p (zek (zb3 m) x.c):=⟨h.id,h.dev,h.sent,h.til,h.regs,rfl,hc.1,h.sent0,h.len⟩
  obtain ⟨k1,k2,k3,k4⟩:=ziI ha q x.a
  have kto:(zan q (zek (zb3 m) x.c) x.a).2.1.tow=pc+1/\(zan q (zek (zb3 m) x.c) x.a).2.1.els=x.c:=by
   refine ⟨?_,k3.els⟩
   unfold zan
   split
   .exact hi.els
   .exact hi.els
  by_cases hz:(zan q p x.a).2.2=0
  .rw [if_pos hz,if_pos (k2 ▸ hz)]
   exact ⟨k1,fun _=>⟨hc.1,k3⟩,fun hh=>absurd rfl hh⟩
  .rw [if_neg hz,if_neg (k2 ▸ hz)]
   exact ⟨k1,fun hh=>absurd hh t10,fun _=>⟨tm,rfl,fun _=>⟨k3.id,k3.dev,k3.sent,rfl,k2,k3.regs,kto.2.symm,hc.1,fun _=>⟨kto.1.symm,by show 0<=pc+1;omega⟩,k4,k3.sent0,k3.len⟩⟩⟩
 rw [if_neg g3] at hx ⊢
 rw [if_neg g3]
 by_cases g4:x.op=4
 .rw [if_pos g4,if_pos g4]
  exact ⟨rfl,fun _=>⟨by show 0<=pc+1;omega,hi.setP _ _⟩,fun hh=>absurd rfl hh⟩
 rw [if_neg g4] at hx ⊢
 rw [if_neg g4]
 by_cases g5:x.op=5
 .rw [if_pos g5,if_pos g5]
  have e:zfn (zb3 m) x.a=zdU (zb3 m) x.a (if 1000000<2*zcz p x.a then 1000000 else 2*zcz p x.a):=by
   unfold zfn
   rw [hi.reg,Int.mul_comm]
  rw [e]
  exact ⟨rfl,fun _=>⟨by show 0<=pc+1;omega,hi.setP _ _⟩,fun hh=>absurd rfl hh⟩
 rw [if_neg g5] at hx ⊢
 rw [if_neg g5]
 by_cases g6:x.op=6
 .rw [if_pos g6] at hx ⊢
  rw [if_pos g6]
  simp only [Bool.and_eq_true] at hx
  have hc:=zaN hx.2
  have ha:InR (pc+1) p (zea (zb3 m) x.c):=⟨h.id,h.dev,h.sent,h.til,h.regs,hi.els,hi.pc0,h.sent0,h.len⟩
  obtain ⟨k1,k2,k3,k4⟩:=ziI ha q x.a
  have kto:(zan q (zea (zb3 m) x.c) x.a).2.1.tow=x.c:=by
   unfold zan
   split
   .rfl
   .rfl
  have et:(if zcz m x.b<1 then 1 else zcz m x.b)=zcy 1 (zcz p x.b):=by unfold zcy;rw [h.reg]
  rw [et]
  exact ⟨k1,fun hh=>absurd hh t10,fun _=>⟨tm,rfl,fun _=>⟨k3.id,k3.dev,k3.sent,rfl,k2,k3.regs,k3.els.symm,hi.pc0,fun _=>⟨kto.symm,hc.1⟩,k4,k3.sent0,k3.len⟩⟩⟩
 rw [if_neg g6] at hx ⊢
 rw [if_neg g6]
 by_cases g7:x.op=7
 .rw [if_pos g7] at hx ⊢
  rw [if_pos g7]
  simp only [Bool.and_eq_true] at hx
  have ha:=zaN hx.1.1
  have hc:=zaN hx.2
  have hal:x.a.toNat<(zb3 m).regs.length:=by rw [<- hi.regs,hlen];omega
  refine ⟨?_,fun _=>?_,fun hh=>absurd rfl hh⟩
  .split <;> rfl
  .unfold zeB zin
   rw [hi.reg]
   by_cases hp:0<zcz p x.a
   .rw [if_pos hp,if_pos hp,ziC hal]
    by_cases hp2:0<zcz p x.a - 1
    .rw [if_pos hp2,if_pos hp2]
     exact ⟨hc.1,(hi.setP _ _).jump hc.1⟩
    .rw [if_neg hp2,if_neg hp2]
     exact ⟨by show 0<=pc+1;omega,hi.setP _ _⟩
   .rw [if_neg hp,if_neg hp,hi.reg,if_neg hp]
    exact ⟨by show 0<=pc+1;omega,hi⟩
 rw [if_neg g7] at hx ⊢
 rw [if_neg g7]
 by_cases g8:x.op=8
 .rw [if_pos g8] at hx ⊢
  rw [if_pos g8]
  simp only [Bool.and_eq_true] at hx
  have hc:=zaN hx.2
  exact ⟨rfl,fun _=>⟨hc.1,hi.jump hc.1⟩,fun hh=>absurd rfl hh⟩
 rw [if_neg g8] at hx
 cases hx
theorem zn0 {now:Int}{x:Ins}{pc:Int}{q:List Msg}{p:Pr}(h:0<=(zbO now x pc q p).2.2.1)(hn:p.num=0):(zbO now x pc q p).2.1.num=0:=by
 have hs:∀ key,(zan q p key).2.1.num=0:=fun key=>by
  unfold zan
  split
  .exact hn
  .exact hn
 unfold zbO at h ⊢
 repeat' split
 all_goals first|exact hn|exact hs _|skip
 all_goals simp_all
theorem zlE {now:Int}{cs:List Ins}(hs:∀ x∈cs,zaK cs.length x=true):∀ (f:Nat) (pc:Int) (q:List Msg) (p m:Pr),InR pc p m->p.num=0 ->
  (zdu now cs f pc q p).1=(zco now cs f q m).1/\(zdu now cs f pc q p).2.2=(zco now cs f q m).2.2/\((zdu now cs f pc q p).2.2=false->StR (zdu now cs f pc q p).2.1 (zco now cs f q m).2.1):=by
 intro f
 induction f with
 | zero=>intro pc q p m h _;exact ⟨rfl,rfl,fun hh=>by cases hh⟩
 | succ f ih=>
  intro pc q p m h hn
  rw [zdu,zco,h.els]
  by_cases hlt:pc.toNat<cs.length
  .rw [dif_pos hlt,dif_pos hlt]
   have k:=zjU (now:=now) (q:=q) (hs _ (List.getElem_mem hlt)) h
   by_cases hz:(zcj now cs[pc.toNat] q m).2.2=0
   .obtain ⟨h0,hin⟩:=k.go hz
    have hq:=k.q
    rw [if_pos hz,if_neg (by omega),<- hq]
    exact ih _ _ _ _ hin (zn0 h0 hn)
   .obtain ⟨h0,hd,hst⟩:=k.stop hz
    rw [if_neg hz,if_pos h0]
    refine ⟨k.q,hd,fun hf=>hst ?_⟩
    simp only at hf
    rw [hd] at hf
    simpa using hf
  .rw [dif_neg hlt,dif_neg hlt]
   exact ⟨rfl,rfl,fun hh=>by cases hh⟩
theorem zjp {cs:List Ins}(hs:zbq cs=true):SameEng (zi8 cs) (zaA cs) StR:=by
 have hall:∀ x∈cs,zaK cs.length x=true:=by
  unfold zbq at hs
  simp only [Bool.and_eq_true,List.all_eq_true] at hs
  exact hs.2
 refine ⟨fun a b h=>?_,fun now q id dev=>?_,fun id dev=>⟨rfl,rfl⟩,fun a b h now yes q hy=>?_⟩
 .show zcE a=zcE b
  unfold zcE
  rw [h.id,h.dev,h.sent,h.til,h.num]
 .have hin:InR 0 (zaZ id dev) (zaZ id dev):=⟨rfl,rfl,rfl,rfl,rfl,rfl,Int.le_refl 0,Int.le_refl 0,rfl⟩
  obtain ⟨k1,k2,k3⟩:=zlE (now:=now) hall 10000 0 q _ _ hin rfl
  exact ⟨k1,k2,zgQ _ _ _ _ _ _,zgr _ _ _ _ _,k3⟩
 .have e1:(zi8 cs).on now yes q a=onP now cs yes q a:=rfl
  have e2:(zaA cs).on now yes q b=onM now cs yes q b:=rfl
  rw [e1,e2]
  have key:∀ (pc:Int) (m:Pr) (q':List Msg),InR pc {a with num:=0} m->(zdu now cs 10000 pc q' {a with num:=0}).1=(zco now cs 10000 q' m).1/\(zdu now cs 10000 pc q' {a with num:=0}).2.2=(zco now cs 10000 q' m).2.2/\((zdu now cs 10000 pc q' {a with num:=0}).2.2=false->StR (zdu now cs 10000 pc q' {a with num:=0}).2.1 (zco now cs 10000 q' m).2.1):=fun pc m q' hin=>zlE hall 10000 pc q' _ _ hin rfl
  have hid1:((zi8 cs).pub (onP now cs yes q a).2.1).id=((zi8 cs).pub a).id:=zpS now cs yes q a
  have hid2:((zaA cs).pub (onM now cs yes q b).2.1).id=((zaA cs).pub b).id:=zls now cs yes q b
  have fin:((onP now cs yes q a).1=(onM now cs yes q b).1/\(onP now cs yes q a).2.2=(onM now cs yes q b).2.2/\((onP now cs yes q a).2.2=false->StR (onP now cs yes q a).2.1 (onM now cs yes q b).2.1)):=by
   unfold onP onM
   have n0:=h.num0
   cases yes with
   | true=>
    have hto:=h.tow (hy rfl)
    exact key a.tow _ q ⟨h.id,h.dev,h.sent,h.til,h.regs,hto.1.symm,hto.2,h.sent0,h.len⟩
   | false=>
    simp only [Bool.false_eq_true,if_false]
    by_cases hz:a.num=0
    .rw [if_neg (by omega),if_pos (h.num ▸ hz)]
     exact key a.els _ q ⟨h.id,h.dev,h.sent,h.til,h.regs,h.els.symm,h.els0,h.sent0,h.len⟩
    .rw [if_pos (by omega),if_neg (h.num ▸ hz),<- h.id,<- h.num]
     exact key a.els _ _ ⟨h.id,h.dev,h.sent,h.til,h.regs,h.els.symm,h.els0,h.sent0,h.len⟩
  exact ⟨fin.1,fin.2.1,hid1,hid2,fin.2.2⟩
end Go.Proofs.Herald
set_option maxHeartbeats 4000000
namespace Go.Proofs.YtmmmnghiegajmaaGreat
open Go.RowKit Go.Proofs.Herald
theorem Tryz.infoCB:(Tryz.prog.info? 93).map (fun i=>(i.zero,i.size,i.bytes))=some (some (.agg #[.slice none 0 0,.int .i64 0,.int .i64 0,.int .i64 0,.int .i64 0]),5,56):=by kernel_rfl
set_option maxRecDepth 20000 in
theorem zno (O:Nat)(n0:Int)(cv rv qv:Value)(cb:List (Value×List Value))(a:Option Addr)(nl cap:Nat)(xs:List Value)(w0:World)(hn00:0<=n0)(hn10:n0<=900000000)(hnl:nl<=1000000)(hcb:cb.length<=10000000)
  (hO0:w0.heap[O]?=some (.cells #[.int .i64 n0,cv,rv,qv] 28 (0,0))) (hq0:w0.ownsRow 0 93 5 cv cb.length (zaP cb)) (hl0:w0.ownsRow 0 91 4 (.slice a nl cap) nl xs):
  Calls Tryz.prog 20 #[.pointer (some ⟨O,0,none⟩),.slice a nl cap] w0 fun e w'=>e=.returned (.tuple #[]) /\
   ∃ v v1 v2 v3,BkAt (w0.setCell ⟨O,0,none⟩ (.int .i64 (n0+1))) w' O w0.heap.size (fun v=>#[.int .i64 (n0+1),v,rv,qv]) 91 93 4 cv v (cb++[(.slice a nl cap,[.int .i64 (-(n0+1)),.int .i64 0,.int .i64 0,.int .i64 0]),(v1,[.int .i64 (-(n0+1)),.int .i64 0,.int .i64 0,.int .i64 0]),(v2,[.int .i64 (-(n0+1)),.int .i64 0,.int .i64 0,.int .i64 0]),(v3,[.int .i64 (-(n0+1)),.int .i64 0,.int .i64 0,.int .i64 0])])
    (.slice a nl cap) nl [.int .i64 (-(n0+1)),.int .i64 0,.int .i64 0,.int .i64 0] [(v1,nl+1),(v2,nl+2),(v3,nl+3)]:=by
 have c00:w0.cell? ⟨O,0,none⟩=some (.int .i64 n0):=(zaa hO0).trans rfl
 have f00:w0.frozen? ⟨O,0,none⟩=false:=zab hO0
 obtain ⟨w,hw⟩:∃ w,w=w0.setCell ⟨O,0,none⟩ (.int .i64 (n0+1)):=⟨_,rfl⟩
 obtain ⟨n,hn⟩:∃ n,n=n0+1:=⟨_,rfl⟩
 have hsz:w0.heap.size=w.heap.size:=by rw [hw,zaq]
 rw [<- hw,<- hn,hsz]
 have hO:w.heap[O]?=some (.cells #[.int .i64 n,cv,rv,qv] 28 (0,0)):=by rw [hw,hn,zah _ hO0];rfl
 have hq:w.ownsRow 0 93 5 cv cb.length (zaP cb):=zaJ hq0 fun b hb=>by
  obtain ⟨c,hc⟩:=zad hq0 hb
  rw [hw];exact Below.heap_setCell _ _ _ _ (zac hc hO0 (by decide))
 have hl:w.ownsRow 0 91 4 (.slice a nl cap) nl xs:=zaJ hl0 fun b hb=>by
  obtain ⟨c,hc⟩:=zad hl0 hb
  rw [hw];exact Below.heap_setCell _ _ _ _ (zac hc hO0 (by decide))
 have hn0:0<=n:=by omega
 have hn1:n<=1000000000:=by omega
 have HW:=zHd hw
 have HN:=zHd hn
 clear hsz hw hn hO0 hq0 hl0
 have c0:w.cell? ⟨O,0,none⟩=some (.int .i64 n):=(zaa hO).trans rfl
 obtain ⟨mk,hmk⟩:∃ mk:List Value,mk=[.int .i64 (-n),.int .i64 0,.int .i64 0,.int .i64 0]:=⟨_,rfl⟩
 have HMK:=zHd hmk
 have HML:Hid (mk.length=4):=by show _=_;rw [hmk];rfl
 rw [<- hmk]
 have HO:Hid (w.heap[O]?=some (.cells #[.int .i64 n,cv,rv,qv] 28 (0,0))/\w.ownsRow 0 93 5 cv cb.length (zaP cb)/\w.ownsRow 0 91 4 (.slice a nl cap) nl xs):=⟨hO,hq,hl⟩
 clear hO hq hl hmk
 go_enter Tryz.func20,Tryz.ntmps20
 go_upto_region 1 with fail
 rw [<- HW.out]
 clear HW HN c00 f00 hn00 hn10
 go_wp2_with fail
 go_loopw [5] (fun i wr=>∃ (k:Nat) (rest:List Value),k<=nl/\i=.int .i64 k/\rest.length=(nl - k)*4/\Hid (wr.ownsRow 0 91 4 (.slice a nl cap) nl (zbv mk k++rest))/\Hid (wr.heap[w.heap.size]?=some (.cells mk.toArray 91 (0,0)))/\Hid (Fr (fun j=>j=O\/cv.ownBlock=some j\/(Value.slice a nl cap).ownBlock=some j) w wr)/\Hid (wr.heap[O]?=some (.cells #[.int .i64 n,cv,rv,qv] 28 (0,0))/\wr.ownsRow 0 93 5 cv cb.length (zaP cb))) (fun i _=>nl - (intOf i).toNat)
 case atStart=>
  refine ⟨0,xs,Nat.zero_le _,rfl,HO.out.2.2.1,?_,?_,(Fr.refl _ _).alloc _,?_,HO.out.2.1.alloc _⟩
  .show World.ownsRow _ _ _ _ _ _ ([]++xs)
   exact HO.out.2.2.alloc _
  .show _=_
   rw [HMK.out];exact heap_alloc_new _ _
  .rw [Below.heap_alloc _ _ _ (zae HO.out.1)];exact HO.out.1
 case round=>
  obtain ⟨k,rest,hk,rfl,hrl,HL,HM,HF,HR⟩:=hrel
  by_cases hlt:k<nl
  .obtain ⟨g,cap',hv,_,hgl⟩:=HL.out.form (by omega)
   simp at hv
   obtain ⟨rfl,rfl⟩:=hv
   obtain ⟨r0,r1,r2,r3,rest',rfl,hrl'⟩:=zri hrl (by omega)
   have HP:Hid (k*4=(zbv mk k).length):=by show _=_;rw [zdX,HML.out]
   obtain ⟨e0,e1,e2,e3,z0,z1,z2,z3⟩:=zlu HL.out HP.out
   have hM:=HM.out
   rw [HMK.out] at hM
   obtain ⟨m0,m1,m2,m3⟩:=zdF hM
   have HS:=zgL HL.out HP.out (.int .i64 (-n)) (.int .i64 0) (.int .i64 0) (.int .i64 0)
   have HS2:Hid (((((wr.setCell ⟨g,k*4,none⟩ (.int .i64 (-n))).setCell ⟨g,k*4+1,none⟩ (.int .i64 0)).setCell ⟨g,k*4+2,none⟩ (.int .i64 0)).setCell ⟨g,k*4+3,none⟩ (.int .i64 0)).ownsRow 0 91 4 (.slice (some ⟨g,0,none⟩) nl cap) nl (zbv mk (k+1)++rest')):=by
    rw [<- HMK.out] at HS
    have e:zbv mk (k+1)=zbv mk k++mk:=by rw [zeN];simp [zbv]
    rw [e];exact HS
   obtain ⟨_,curl,hcl⟩:=zao HL.out (k:=g) rfl
   have HNE:Hid (O≠g/\w.heap.size≠g/\∀ b,cv.ownBlock=some b->b≠g):=by
    refine ⟨zac HR.out.1 hcl (by decide),fun e=>?_,fun b hb=>?_⟩
    .obtain ⟨_,cl0,hcl0⟩:=zao HO.out.2.2 (k:=g) rfl
     have:=zae hcl0
     omega
    .obtain ⟨_,cq,hcq⟩:=zao HR.out.2 hb
     exact zac hcq hcl (by decide)
   clear hcl hM HS
   go_wp2_with fail
   go_roundw
   case rel=>
    refine ⟨k+1,rest',by omega,by go_num,by rw [hrl',show nl - k - 1=nl - (k+1) from by omega],HS2,?_,zpe HF.out (Or.inr (Or.inr rfl)) _ _ _ _ _,?_,?_⟩
    .show _=_
     rw [Below.heap_setCell _ _ _ _ HNE.out.2.1,Below.heap_setCell _ _ _ _ HNE.out.2.1,Below.heap_setCell _ _ _ _ HNE.out.2.1,Below.heap_setCell _ _ _ _ HNE.out.2.1];exact HM.out
    .rw [Below.heap_setCell _ _ _ _ HNE.out.1,Below.heap_setCell _ _ _ _ HNE.out.1,Below.heap_setCell _ _ _ _ HNE.out.1,Below.heap_setCell _ _ _ _ HNE.out.1];exact HR.out.1
    .exact zaJ HR.out.2 (fun b hb=>by
      have:=HNE.out.2.2 b hb
      rw [Below.heap_setCell _ _ _ _ this,Below.heap_setCell _ _ _ _ this,Below.heap_setCell _ _ _ _ this,Below.heap_setCell _ _ _ _ this])
   case measure=>simp [intOf];omega
  .obtain rfl:k=nl:=by omega
   obtain rfl:rest=[]:=List.eq_nil_of_length_eq_zero (by simpa using hrl)
   have HB:Hid (BkAt w wr O w.heap.size (fun v=>#[.int .i64 n,v,rv,qv]) 91 93 4 cv cv cb (.slice a k cap) k mk []):=by
    refine ⟨HR.out.1,HM.out,HR.out.2,fun b hb=>Or.inl hb,?_,fun x hx=>absurd hx (by simp),HF.out,Nat.le_refl _,zae HO.out.1,fun b hb=>?_⟩
    .have h:=HL.out
     rw [List.append_nil] at h
     exact h
    .obtain ⟨_,cur,hc⟩:=zao HO.out.2.2 hb
     exact zae hc
   clear HL HM HF HR hrl hk
   have HM1:Hid ([.int .i64 (-n),.int .i64 0,.int .i64 0,.int .i64 0]=zbv mk 1/\[.int .i64 (-n),.int .i64 0,.int .i64 0,.int .i64 0]++[.int .i64 (-n),.int .i64 0,.int .i64 0,.int .i64 0]=zbv mk 2/\[.int .i64 (-n),.int .i64 0,.int .i64 0,.int .i64 0]++([.int .i64 (-n),.int .i64 0,.int .i64 0,.int .i64 0]++[.int .i64 (-n),.int .i64 0,.int .i64 0,.int .i64 0])=zbv mk 3):=by rw [HMK.out];exact ⟨rfl,rfl,rfl⟩
   go_upto_region 6 with fail
   have hm:=HB.out.m
   rw [HMK.out] at hm
   obtain ⟨m0,m1,m2,m3⟩:=zdF hm
   clear hm
   have o3:wr.cell? ⟨O,1,none⟩=some cv:=(zaa HB.out.o).trans rfl
   have y3:wr.frozen? ⟨O,1,none⟩=false:=zab HB.out.o
   have hOl:O<wr.heap.size:=zae HB.out.o
   have hMl:w.heap.size<wr.heap.size:=zae HB.out.m
   have HV:Hid (cv.ownBlock≠some O):=fun e=>by obtain ⟨cur,hc⟩:=zad HB.out.rown e;exact zac hc HB.out.o (by decide) rfl
   go_cut [0] (fun r wx=>r=.pointer (some ⟨O,0,none⟩)/\Hid (∃ v,BkAt w wx O w.heap.size (fun v=>#[.int .i64 n,v,rv,qv]) 91 93 4 cv v (cb++[(.slice a k cap,mk)]) (.slice a k cap) k mk []))
   case first=>
    go_region_law (refine zby _ rfl (.tmp 36) (.tmp 40) 24 rfl 93 _ 5 56 Tryz.underlying24 Tryz.infoCB rfl (by decide) (by decide) cv _ _ wr.heap.size [.slice a k cap,.int .i64 (-n),.int .i64 0,.int .i64 0,.int .i64 0] (by rfl) (by exact HB.out.rown.alloc _) (by exact heap_alloc_new _ _) (by rfl) rfl (by simp [Value.oneCell']) (by first|omega|(simp;omega)) ?_;intro g1 cap1 w1 hown1 hgrow hat hlt;have hc1:w1.cell? ⟨O,1,none⟩=some cv:=(zaa (zal (OneMore.alloc _ _).drew hgrow HB.out.o HV.out)).trans rfl;have hf1:w1.frozen? ⟨O,1,none⟩=false:=zab (zal (OneMore.alloc _ _).drew hgrow HB.out.o HV.out))
    all_goals
     go_wp2_with fail
     go_meet
     case rel=>
      have e:([.slice a k cap,.int .i64 (-n),.int .i64 0,.int .i64 0,.int .i64 0]:List Value)=.slice a k cap::mk:=by rw [HMK.out]
      rw [e] at hown1
      have h:=HB.out.push (by decide) (by decide) (by decide) (OneMore.alloc _ _).drew (x:=.slice a k cap) (idx:=1) hown1 hgrow hat rfl
      refine ⟨rfl,?_⟩
      show ∃ v,BkAt _ _ _ _ _ _ _ _ _ v _ _ _ _ _
      refine ⟨.slice (some ⟨g1,0,none⟩) (cb.length+0+1) cap1,?_⟩
      simpa using h
   case rest=>
    obtain ⟨rfl,HX⟩:=hcut
    obtain ⟨u0,hu0⟩:=HX.out
    have HC0:=zHd hu0
    clear hu0 HX m0 m1 m2 m3 o3 y3 hOl hMl HV HB
    obtain ⟨x0,hx0⟩:∃ W,W=wc:=⟨_,rfl⟩
    rw [<- hx0] at HC0 ⊢
    clear hx0
    have hm1:=HC0.out.m
    rw [HMK.out] at hm1
    obtain ⟨m0,m1,m2,m3⟩:=zdF hm1
    clear hm1
    go_wp2_with (at_builtin;refine zav _ rfl (.tmp 44) (.tmp 46) 29 rfl 91 _ 4 32 Tryz.underlying29 Tryz.infoInstr rfl (by decide) (by decide) (.slice a k cap) k 1 (zbv mk k) x0.heap.size [.int .i64 (-n),.int .i64 0,.int .i64 0,.int .i64 0] (by rfl) (by exact HC0.out.lown.alloc _) (by exact heap_alloc_new _ _) (by rfl) rfl (by simp [Value.oneCell']) (by decide) (by omega) ?_)
    intro v1 w2 hown1 ha1
    have HA1:Hid (BkAt w w2 O w.heap.size (fun v=>#[.int .i64 n,v,rv,qv]) 91 93 4 cv u0 (cb++[(.slice a k cap,mk)]) (.slice a k cap) k mk [(v1,k+1)]):=HC0.out.app (by decide) (by decide) HML.out (OneMore.alloc _ _) (by rw [<- HM1.out.1];exact hown1) ha1 (by simp)
    clear hown1 ha1 m0 m1 m2 m3 HC0
    go_upto_region 8 with fail
    have hm:=HA1.out.m
    rw [HMK.out] at hm
    obtain ⟨m0,m1,m2,m3⟩:=zdF hm
    clear hm
    have o3:w2.cell? ⟨O,1,none⟩=some u0:=(zaa HA1.out.o).trans rfl
    have y3:w2.frozen? ⟨O,1,none⟩=false:=zab HA1.out.o
    have hOl:O<w2.heap.size:=zae HA1.out.o
    have hMl:w.heap.size<w2.heap.size:=zae HA1.out.m
    have HV:Hid (u0.ownBlock≠some O):=fun e=>by obtain ⟨cur,hc⟩:=zad HA1.out.rown e;exact zac hc HA1.out.o (by decide) rfl
    obtain ⟨aa1,cc1,hvv1⟩:=zag (HA1.out.kins (v1,k+1) (by simp)).1
    replace hvv1:v1=.slice aa1 (k+1) cc1:=hvv1
    subst hvv1
    go_cut [0] (fun r wx=>r=.pointer (some ⟨O,0,none⟩)/\Hid (∃ v,BkAt w wx O w.heap.size (fun v=>#[.int .i64 n,v,rv,qv]) 91 93 4 cv v (cb++[(.slice a k cap,mk),(.slice aa1 (k+1) cc1,mk)]) (.slice a k cap) k mk [(.slice aa1 (k+1) cc1,k+1)]))
    case first=>
     go_region_law (refine zby _ rfl (.tmp 52) (.tmp 56) 24 rfl 93 _ 5 56 Tryz.underlying24 Tryz.infoCB rfl (by decide) (by decide) u0 _ _ w2.heap.size [.slice aa1 (k+1) cc1,.int .i64 (-n),.int .i64 0,.int .i64 0,.int .i64 0] (by rfl) (by exact HA1.out.rown.alloc _) (by exact heap_alloc_new _ _) (by rfl) rfl (by simp [Value.oneCell']) (by first|omega|(simp;omega)) ?_;intro g1 cap1 w1 hown1 hgrow hat hlt;have hc1:w1.cell? ⟨O,1,none⟩=some u0:=(zaa (zal (OneMore.alloc _ _).drew hgrow HA1.out.o HV.out)).trans rfl;have hf1:w1.frozen? ⟨O,1,none⟩=false:=zab (zal (OneMore.alloc _ _).drew hgrow HA1.out.o HV.out))
     all_goals
      go_wp2_with fail
      go_meet
      case rel=>
       have e:([.slice aa1 (k+1) cc1,.int .i64 (-n),.int .i64 0,.int .i64 0,.int .i64 0]:List Value)=.slice aa1 (k+1) cc1::mk:=by rw [HMK.out]
       rw [e] at hown1
       have h:=HA1.out.push (by decide) (by decide) (by decide) (OneMore.alloc _ _).drew (x:=.slice aa1 (k+1) cc1) (idx:=1) hown1 hgrow hat rfl
       refine ⟨rfl,?_⟩
       show ∃ v,BkAt _ _ _ _ _ _ _ _ _ v _ _ _ _ _
       refine ⟨.slice (some ⟨g1,0,none⟩) (cb.length+1+1) cap1,?_⟩
       simpa using h
    case rest=>
     obtain ⟨rfl,HX⟩:=hcut
     obtain ⟨u1,hu1⟩:=HX.out
     have HC1:=zHd hu1
     clear hu1 HX m0 m1 m2 m3 o3 y3 hOl hMl HV HA1
     obtain ⟨x1,hx1⟩:∃ W,W=wc:=⟨_,rfl⟩
     rw [<- hx1] at HC1 ⊢
     clear hx1
     have hm2:=HC1.out.m
     rw [HMK.out] at hm2
     obtain ⟨m0,m1,m2,m3⟩:=zdF hm2
     clear hm2
     go_wp2_with (at_builtin;refine zav _ rfl (.tmp 60) (.tmp 63) 29 rfl 91 _ 4 32 Tryz.underlying29 Tryz.infoInstr rfl (by decide) (by decide) (.slice a k cap) k 2 (zbv mk k) x1.heap.size [.int .i64 (-n),.int .i64 0,.int .i64 0,.int .i64 0,.int .i64 (-n),.int .i64 0,.int .i64 0,.int .i64 0] (by rfl) (by exact HC1.out.lown.alloc _) (by exact heap_alloc_new _ _) (by rfl) rfl (by simp [Value.oneCell']) (by decide) (by omega) ?_)
     intro v2 w4 hown2 ha2
     have HA2:Hid (BkAt w w4 O w.heap.size (fun v=>#[.int .i64 n,v,rv,qv]) 91 93 4 cv u1 (cb++[(.slice a k cap,mk),(.slice aa1 (k+1) cc1,mk)]) (.slice a k cap) k mk [(.slice aa1 (k+1) cc1,k+1),(v2,k+2)]):=HC1.out.app (by decide) (by decide) HML.out (OneMore.alloc _ _) (by rw [<- HM1.out.2.1];exact hown2) ha2 (by simp)
     clear hown2 ha2 m0 m1 m2 m3 HC1
     go_upto_region 10 with fail
     have hm:=HA2.out.m
     rw [HMK.out] at hm
     obtain ⟨m0,m1,m2,m3⟩:=zdF hm
     clear hm
     have o3:w4.cell? ⟨O,1,none⟩=some u1:=(zaa HA2.out.o).trans rfl
     have y3:w4.frozen? ⟨O,1,none⟩=false:=zab HA2.out.o
     have hOl:O<w4.heap.size:=zae HA2.out.o
     have hMl:w.heap.size<w4.heap.size:=zae HA2.out.m
     have HV:Hid (u1.ownBlock≠some O):=fun e=>by obtain ⟨cur,hc⟩:=zad HA2.out.rown e;exact zac hc HA2.out.o (by decide) rfl
     obtain ⟨aa2,cc2,hvv2⟩:=zag (HA2.out.kins (v2,k+2) (by simp)).1
     replace hvv2:v2=.slice aa2 (k+2) cc2:=hvv2
     subst hvv2
     go_cut [0] (fun r wx=>r=.pointer (some ⟨O,0,none⟩)/\Hid (∃ v,BkAt w wx O w.heap.size (fun v=>#[.int .i64 n,v,rv,qv]) 91 93 4 cv v (cb++[(.slice a k cap,mk),(.slice aa1 (k+1) cc1,mk),(.slice aa2 (k+2) cc2,mk)]) (.slice a k cap) k mk [(.slice aa1 (k+1) cc1,k+1),(.slice aa2 (k+2) cc2,k+2)]))
     case first=>
      go_region_law (refine zby _ rfl (.tmp 69) (.tmp 73) 24 rfl 93 _ 5 56 Tryz.underlying24 Tryz.infoCB rfl (by decide) (by decide) u1 _ _ w4.heap.size [.slice aa2 (k+2) cc2,.int .i64 (-n),.int .i64 0,.int .i64 0,.int .i64 0] (by rfl) (by exact HA2.out.rown.alloc _) (by exact heap_alloc_new _ _) (by rfl) rfl (by simp [Value.oneCell']) (by first|omega|(simp;omega)) ?_;intro g1 cap1 w1 hown1 hgrow hat hlt;have hc1:w1.cell? ⟨O,1,none⟩=some u1:=(zaa (zal (OneMore.alloc _ _).drew hgrow HA2.out.o HV.out)).trans rfl;have hf1:w1.frozen? ⟨O,1,none⟩=false:=zab (zal (OneMore.alloc _ _).drew hgrow HA2.out.o HV.out))
      all_goals
       go_wp2_with fail
       go_meet
       case rel=>
        have e:([.slice aa2 (k+2) cc2,.int .i64 (-n),.int .i64 0,.int .i64 0,.int .i64 0]:List Value)=.slice aa2 (k+2) cc2::mk:=by rw [HMK.out]
        rw [e] at hown1
        have h:=HA2.out.push (by decide) (by decide) (by decide) (OneMore.alloc _ _).drew (x:=.slice aa2 (k+2) cc2) (idx:=1) hown1 hgrow hat rfl
        refine ⟨rfl,?_⟩
        show ∃ v,BkAt _ _ _ _ _ _ _ _ _ v _ _ _ _ _
        refine ⟨.slice (some ⟨g1,0,none⟩) (cb.length+2+1) cap1,?_⟩
        simpa using h
     case rest=>
      obtain ⟨rfl,HX⟩:=hcut
      obtain ⟨u2,hu2⟩:=HX.out
      have HC2:=zHd hu2
      clear hu2 HX m0 m1 m2 m3 o3 y3 hOl hMl HV HA2
      obtain ⟨x2,hx2⟩:∃ W,W=wc:=⟨_,rfl⟩
      rw [<- hx2] at HC2 ⊢
      clear hx2
      have hm3:=HC2.out.m
      rw [HMK.out] at hm3
      obtain ⟨m0,m1,m2,m3⟩:=zdF hm3
      clear hm3
      go_wp2_with (at_builtin;refine zav _ rfl (.tmp 77) (.tmp 81) 29 rfl 91 _ 4 32 Tryz.underlying29 Tryz.infoInstr rfl (by decide) (by decide) (.slice a k cap) k 3 (zbv mk k) x2.heap.size [.int .i64 (-n),.int .i64 0,.int .i64 0,.int .i64 0,.int .i64 (-n),.int .i64 0,.int .i64 0,.int .i64 0,.int .i64 (-n),.int .i64 0,.int .i64 0,.int .i64 0] (by rfl) (by exact HC2.out.lown.alloc _) (by exact heap_alloc_new _ _) (by rfl) rfl (by simp [Value.oneCell']) (by decide) (by omega) ?_)
      intro v3 w6 hown3 ha3
      have HA3:Hid (BkAt w w6 O w.heap.size (fun v=>#[.int .i64 n,v,rv,qv]) 91 93 4 cv u2 (cb++[(.slice a k cap,mk),(.slice aa1 (k+1) cc1,mk),(.slice aa2 (k+2) cc2,mk)]) (.slice a k cap) k mk [(.slice aa1 (k+1) cc1,k+1),(.slice aa2 (k+2) cc2,k+2),(v3,k+3)]):=HC2.out.app (by decide) (by decide) HML.out (OneMore.alloc _ _) (by rw [<- HM1.out.2.2];exact hown3) ha3 (by simp)
      clear hown3 ha3 m0 m1 m2 m3 HC2
      go_upto_region 12 with fail
      have hm:=HA3.out.m
      rw [HMK.out] at hm
      obtain ⟨m0,m1,m2,m3⟩:=zdF hm
      clear hm
      have o3:w6.cell? ⟨O,1,none⟩=some u2:=(zaa HA3.out.o).trans rfl
      have y3:w6.frozen? ⟨O,1,none⟩=false:=zab HA3.out.o
      have hOl:O<w6.heap.size:=zae HA3.out.o
      have hMl:w.heap.size<w6.heap.size:=zae HA3.out.m
      have HV:Hid (u2.ownBlock≠some O):=fun e=>by obtain ⟨cur,hc⟩:=zad HA3.out.rown e;exact zac hc HA3.out.o (by decide) rfl
      obtain ⟨aa3,cc3,hvv3⟩:=zag (HA3.out.kins (v3,k+3) (by simp)).1
      replace hvv3:v3=.slice aa3 (k+3) cc3:=hvv3
      subst hvv3
      go_region_law (refine zby _ rfl (.tmp 87) (.tmp 91) 24 rfl 93 _ 5 56 Tryz.underlying24 Tryz.infoCB rfl (by decide) (by decide) u2 _ _ w6.heap.size [.slice aa3 (k+3) cc3,.int .i64 (-n),.int .i64 0,.int .i64 0,.int .i64 0] (by rfl) (by exact HA3.out.rown.alloc _) (by exact heap_alloc_new _ _) (by rfl) rfl (by simp [Value.oneCell']) (by first|omega|(simp;omega)) ?_;intro g1 cap1 w1 hown1 hgrow hat hlt;have hc1:w1.cell? ⟨O,1,none⟩=some u2:=(zaa (zal (OneMore.alloc _ _).drew hgrow HA3.out.o HV.out)).trans rfl;have hf1:w1.frozen? ⟨O,1,none⟩=false:=zab (zal (OneMore.alloc _ _).drew hgrow HA3.out.o HV.out))
      all_goals
       go_wp2_with fail
       go_end0
       have e:([.slice aa3 (k+3) cc3,.int .i64 (-n),.int .i64 0,.int .i64 0,.int .i64 0]:List Value)=.slice aa3 (k+3) cc3::mk:=by rw [HMK.out]
       rw [e] at hown1
       have h:=HA3.out.push (by decide) (by decide) (by decide) (OneMore.alloc _ _).drew (x:=.slice aa3 (k+3) cc3) (idx:=1) hown1 hgrow hat rfl
       refine ⟨rfl,.slice (some ⟨g1,0,none⟩) (cb.length+3+1) cap1,.slice aa1 (k+1) cc1,.slice aa2 (k+2) cc2,.slice aa3 (k+3) cc3,?_⟩
       simpa using h
end Go.Proofs.YtmmmnghiegajmaaGreat
