import Derived.Test.YtmmmnghiegajmaaGreatM05
namespace Go.Proofs.Herald
structure Msg where
 dev:Int
 run:Int
 num:Int
 key:Int
structure Pr where
 id:Int
 dev:Int
 sent:Int
 til:Int
 num:Int
 regs:List Int
 tow:Int
 els:Int
def zfu:List Msg->Msg->Option (List Msg)
 | [],_=>none
 | x::r,m=>if x.run=m.run/\x.key=m.key then some (m::r) else (zfu r m).map (x::·)
def zgM (q:List Msg)(m:Msg):Option (List Msg):=
 match zfu q m with
 | some q'=>some q'
 | none=>if 4<=q.length then none else some (q++[m])
def zan (q:List Msg)(p:Pr)(key:Int):List Msg×Pr×Int:=
 match zgM q ⟨p.dev,p.id,p.sent+1,key⟩ with
 | some q'=>(q',{p with sent:=p.sent+1},p.sent+1)
 | none=>(q,p,0)
def zaW (id num:Int)(m:Msg):Bool:=(m.run != id) || ((num != 0) && (m.num != num))
def zbK (q:List Msg)(id num:Int):List Msg:=q.filter (zaW id num)
def zjk (q:List Msg)(id num:Int):Bool:=q.any fun m=>m.run==id && m.num==num
def zbL (p:Pr)(now n num:Int):Pr:={p with til:=now+n,num:=num}
def zcz (p:Pr)(r:Int):Int:=p.regs.getD r.toNat 0
def zdU (p:Pr)(r v:Int):Pr:={p with regs:=p.regs.set r.toNat v}
def zbO (now:Int)(x:Ins)(pc:Int)(q:List Msg)(p:Pr):List Msg×Pr×Int×Bool:=
 if x.op=1 then ((zan q p x.a).1,(zan q p x.a).2.1,pc+1,false)
 else if x.op=2 then (q,{zbL p now x.a 0 with els:=pc+1},-1,false)
 else if x.op=3 then
  (if (zan q p x.a).2.2=0 then ((zan q p x.a).1,(zan q p x.a).2.1,x.c,false)
   else ((zan q p x.a).1,{zbL (zan q p x.a).2.1 now x.b (zan q p x.a).2.2 with tow:=pc+1,els:=x.c},-1,false))
 else if x.op=4 then (q,zdU p x.a x.b,pc+1,false)
 else if x.op=5 then (q,zdU p x.a (if 1000000<2*zcz p x.a then 1000000 else 2*zcz p x.a),pc+1,false)
 else if x.op=6 then ((zan q p x.a).1,{zbL (zan q p x.a).2.1 now (zcy 1 (zcz p x.b)) (zan q p x.a).2.2 with tow:=x.c,els:=pc+1},-1,false)
 else if x.op=7 then
  (if 0<zcz p x.a then (q,zdU p x.a (zcz p x.a - 1),if 0<zcz p x.a - 1 then x.c else pc+1,false) else (q,p,pc+1,false))
 else if x.op=8 then (q,p,x.c,false)
 else (q,p,-1,true)
def zdu (now:Int)(cs:List Ins):Nat->Int->List Msg->Pr->List Msg×Pr×Bool
 | 0,_,q,p=>(q,p,true)
 | f+1,pc,q,p=>
  if h:pc.toNat<cs.length then
   (if (zbO now cs[pc.toNat] pc q p).2.2.1<0 then ((zbO now cs[pc.toNat] pc q p).1,(zbO now cs[pc.toNat] pc q p).2.1,(zbO now cs[pc.toNat] pc q p).2.2.2)
    else zdu now cs f (zbO now cs[pc.toNat] pc q p).2.2.1 (zbO now cs[pc.toNat] pc q p).1 (zbO now cs[pc.toNat] pc q p).2.1)
  else (q,p,true)
def zdr (m x:Msg):Prop:=x.run=m.run/\x.key=m.key
theorem zfc:∀ (q:List Msg)(m:Msg),(∀ x∈q,¬ zdr m x)->zfu q m=none:=by
 intro q
 induction q with
 | nil=>intro m _;rfl
 | cons x r ih=>
  intro m h
  have hx:¬ (x.run=m.run/\x.key=m.key):=h x (by simp)
  rw [zfu,if_neg hx,ih m (fun y hy=>h y (by simp [hy]))];rfl
theorem zlx:∀ (q:List Msg)(m:Msg)(k:Nat)(hk:k<q.length),(∀ x∈q.take k,¬ zdr m x)->zdr m q[k]->zfu q m=some (q.set k m):=by
 intro q
 induction q with
 | nil=>intro m k hk;simp at hk
 | cons x r ih=>
  intro m k hk h hm
  cases k with
  | zero=>
   have hx:x.run=m.run/\x.key=m.key:=hm
   rw [zfu,if_pos hx];rfl
  | succ k=>
   have hx:¬ (x.run=m.run/\x.key=m.key):=h x (by simp)
   rw [zfu,if_neg hx,ih m k (by simpa using hk) (fun y hy=>h y (by simp [hy])) (by simpa using hm)]
   rfl
theorem zo2 {q:List Msg}{p:Pr}{key:Int}{k:Nat}(hk:k<q.length)(h:∀ x∈q.take k,¬ zdr ⟨p.dev,p.id,p.sent+1,key⟩ x)(hm:zdr ⟨p.dev,p.id,p.sent+1,key⟩ q[k]):
  zan q p key=(q.set k ⟨p.dev,p.id,p.sent+1,key⟩,{p with sent:=p.sent+1},p.sent+1):=by
 unfold zan zgM;rw [zlx q _ k hk h hm]
theorem zmv {q:List Msg}{p:Pr}{key:Int}(h:∀ x∈q,¬ zdr ⟨p.dev,p.id,p.sent+1,key⟩ x)(hl:4<=q.length):zan q p key=(q,p,0):=by
 unfold zan zgM;rw [zfc q _ h];simp only [if_pos hl]
theorem znX {q:List Msg}{p:Pr}{key:Int}(h:∀ x∈q,¬ zdr ⟨p.dev,p.id,p.sent+1,key⟩ x)(hl:¬ 4<=q.length):
  zan q p key=(q++[⟨p.dev,p.id,p.sent+1,key⟩],{p with sent:=p.sent+1},p.sent+1):=by
 unfold zan zgM;rw [zfc q _ h];simp only [if_neg hl]
theorem zhx (q:List Msg)(p:Pr)(key:Int)(h:q.length<=4):(zan q p key).1.length<=4:=by
 have hset:∀ (q:List Msg) (m:Msg) (q':List Msg),zfu q m=some q'->q'.length=q.length:=by
  intro q
  induction q with
  | nil=>intro m q' h;cases h
  | cons x r ih=>
   intro m q' h
   rw [zfu] at h
   split at h
   .cases h;rfl
   .cases hr:zfu r m with
    | none=>rw [hr] at h;cases h
    | some r'=>rw [hr] at h;cases h;simp [ih m r' hr]
 unfold zan zgM
 cases hp:zfu q ⟨p.dev,p.id,p.sent+1,key⟩ with
 | some q'=>simp only;rw [hset _ _ _ hp];exact h
 | none=>
  simp only
  by_cases hl:4<=q.length
  .rw [if_pos hl];exact h
  .rw [if_neg hl];simp;omega
theorem zb6 (q:List Msg)(p:Pr)(key:Int):(zan q p key).2.1.regs=p.regs/\(zan q p key).2.1.id=p.id/\(zan q p key).2.1.dev=p.dev/\p.sent<=(zan q p key).2.1.sent/\(zan q p key).2.1.sent<=p.sent+1:=by
 unfold zan
 split
 .exact ⟨rfl,rfl,rfl,by simp only;omega,Int.le_refl _⟩
 .exact ⟨rfl,rfl,rfl,by simp only;omega,by simp only;omega⟩
def RegsOk (p:Pr):Prop:=∀ z∈p.regs,0<=z/\z<=1000000
theorem RegsOk.get {p:Pr}(h:RegsOk p)(j:Int):0<=zcz p j/\zcz p j<=1000000:=by
 unfold zcz
 by_cases hj:j.toNat<p.regs.length
 .have e:p.regs.getD j.toNat 0=p.regs[j.toNat]:=by simp [hj]
  rw [e];exact h _ (List.getElem_mem hj)
 .have e:p.regs.getD j.toNat 0=0:=by simp [hj]
  rw [e];decide
theorem RegsOk.set {p:Pr}(h:RegsOk p)(j v:Int)(h0:0<=v)(h1:v<=1000000):RegsOk (zdU p j v):=fun z hz=>by
 rcases List.mem_or_eq_of_mem_set hz with hz|hz
 .exact h z hz
 .rw [hz];exact ⟨h0,h1⟩
theorem zaN {n lo hi:Int}(h:zam n lo hi=true):lo<=n/\n<=hi:=by
 unfold zam at h
 simpa using h
structure StepOk (n:Int)(q:List Msg)(p:Pr)(r:List Msg×Pr×Int×Bool):Prop where
 regs:RegsOk r.2.1
 id:r.2.1.id=p.id
 dev:r.2.1.dev=p.dev
 sent0:p.sent<=r.2.1.sent
 sent1:r.2.1.sent<=p.sent+1
 len:r.1.length<=4
 pc:r.2.2.1=-1\/(0<=r.2.2.1/\r.2.2.1<=n)
 done:r.2.2.2=true->r.2.2.1=-1
theorem zcu {n:Int}{q:List Msg}{p p':Pr}{pc:Int}{f:Bool}(hq:q.length<=4)(hr:RegsOk p')(hi:p'.id=p.id)(hd:p'.dev=p.dev)(hs:p'.sent=p.sent)(hpc:pc=-1\/(0<=pc/\pc<=n))(hf:f=true->pc=-1):StepOk n q p (q,p',pc,f):=
 ⟨hr,hi,hd,by simp only;omega,by simp only;omega,hq,hpc,hf⟩
theorem zet {n:Int}{q:List Msg}{p p':Pr}{key pc:Int}(hq:q.length<=4)(hr:RegsOk p)(hp1:p'.regs=(zan q p key).2.1.regs)(hp2:p'.id=(zan q p key).2.1.id)(hp3:p'.dev=(zan q p key).2.1.dev)(hp4:p'.sent=(zan q p key).2.1.sent)(hpc:pc=-1\/(0<=pc/\pc<=n)):
  StepOk n q p ((zan q p key).1,p',pc,false):=by
 obtain ⟨h1,h2,h3,h4,h5⟩:=zb6 q p key
 refine ⟨fun z hz=>hr z ?_,by rw [hp2];exact h2,by rw [hp3];exact h3,by rw [hp4];exact h4,by rw [hp4];exact h5,zhx q p key hq,hpc,fun h=>by cases h⟩
 have:p'.regs=p.regs:=hp1.trans h1
 rwa [<- this]
theorem zlG {n:Int}{now:Int}{x:Ins}{pc:Int}{q:List Msg}{p:Pr}(hx:zaK n x=true)(h0:0<=pc)(h1:pc<n)(hr:RegsOk p)(hq:q.length<=4):StepOk n q p (zbO now x pc q p):=by
 have hnext:pc+1=-1\/(0<=pc+1/\pc+1<=n):=.inr ⟨by omega,by omega⟩
 unfold zaK at hx
 unfold zbO
 by_cases g0:x.op=0
 .rw [if_neg (by omega),if_neg (by omega),if_neg (by omega),if_neg (by omega),if_neg (by omega),if_neg (by omega),if_neg (by omega),if_neg (by omega)]
  exact zcu hq hr rfl rfl rfl (.inl rfl) (fun _=>rfl)
 rw [if_neg g0] at hx
 by_cases g1:x.op=1
 .rw [if_pos g1]
  exact zet hq hr rfl rfl rfl rfl hnext
 rw [if_neg g1] at hx ⊢
 by_cases g2:x.op=2
 .rw [if_pos g2]
  exact zcu hq hr rfl rfl rfl (.inl rfl) (fun h=>by cases h)
 rw [if_neg g2] at hx ⊢
 by_cases g3:x.op=3
 .rw [if_pos g3] at hx ⊢
  simp only [Bool.and_eq_true] at hx
  have hc:=zaN hx.2
  split
  .exact zet hq hr rfl rfl rfl rfl (.inr hc)
  .exact zet hq hr rfl rfl rfl rfl (.inl rfl)
 rw [if_neg g3] at hx ⊢
 by_cases g4:x.op=4
 .rw [if_pos g4] at hx ⊢
  simp only [Bool.and_eq_true] at hx
  have hb:=zaN hx.1.2
  exact zcu hq (hr.set _ _ hb.1 (by omega)) rfl rfl rfl hnext (fun h=>by cases h)
 rw [if_neg g4] at hx ⊢
 by_cases g5:x.op=5
 .rw [if_pos g5]
  have hg:=hr.get x.a
  exact zcu hq (hr.set _ _ (by split <;> omega) (by split <;> omega)) rfl rfl rfl hnext (fun h=>by cases h)
 rw [if_neg g5] at hx ⊢
 by_cases g6:x.op=6
 .rw [if_pos g6]
  exact zet hq hr rfl rfl rfl rfl (.inl rfl)
 rw [if_neg g6] at hx ⊢
 by_cases g7:x.op=7
 .rw [if_pos g7] at hx ⊢
  simp only [Bool.and_eq_true] at hx
  have hc:=zaN hx.2
  have hg:=hr.get x.a
  split
  .refine zcu hq (hr.set _ _ (by omega) (by omega)) rfl rfl rfl ?_ (fun h=>by cases h)
   split
   .exact .inr hc
   .exact hnext
  .exact zcu hq hr rfl rfl rfl hnext (fun h=>by cases h)
 rw [if_neg g7] at hx ⊢
 by_cases g8:x.op=8
 .rw [if_pos g8] at hx ⊢
  simp only [Bool.and_eq_true] at hx
  have hc:=zaN hx.2
  exact zcu hq hr rfl rfl rfl (.inr hc) (fun h=>by cases h)
 rw [if_neg g8] at hx
 cases hx
def onP (now:Int)(cs:List Ins)(yes:Bool)(q:List Msg)(p:Pr):List Msg×Pr×Bool:=
 if yes then zdu now cs 10000 p.tow q {p with num:=0}
 else if 0<p.num then zdu now cs 10000 p.els (zbK q p.id p.num) {p with num:=0}
 else zdu now cs 10000 p.els q {p with num:=0}
theorem zpD:∀ (L:List (Nat×Int))(id:Int)(k:Nat)(hk:k<L.length),(∀ x∈L.take k,¬ x.2=id)->L[k].2=id->L.find? (fun x=>x.2==id)=some L[k]:=by
 intro L
 induction L with
 | nil=>intro id k hk;simp at hk
 | cons y r ih=>
  intro id k hk h hm
  cases k with
  | zero=>
   have hy:y.2=id:=hm
   rw [List.find?_cons_of_pos (by simpa using hy)];rfl
  | succ k=>
   have hy:¬ y.2=id:=h y (by simp)
   rw [List.find?_cons_of_neg (by simpa using hy)]
   exact ih id k (by simpa using hk) (fun x hx=>h x (by simp [hx])) (by simpa using hm)
def zd2 (en:Int)(o:Option (Nat×Int))(x:Nat×Int):Option (Nat×Int):=
 if x.2<=en then (match o with|none=>some x|some b=>if x.2<b.2 then some x else some b) else o
def zjY (en:Int)(L:List (Nat×Int)):Option (Nat×Int):=L.foldl (zd2 en) none
theorem znc {en:Int}{L:List (Nat×Int)}{k:Nat}(hk:k<L.length):zjY en (L.take (k+1))=zd2 en (zjY en (L.take k)) L[k]:=by
 unfold zjY
 rw [List.take_succ_eq_append_getElem hk,List.foldl_append]
 rfl
def zhF (n:Int)(p:Pr):Prop:=0<=p.tow/\p.tow<=n/\0<=p.els/\p.els<=n
structure StepOk2 (n now:Int)(r:List Msg×Pr×Int×Bool):Prop where
 pcs:zhF n r.2.1
 stop:r.2.2.1=-1->r.2.2.2=false->now<r.2.1.til/\r.2.1.til<=now+1000000
theorem zjK (q:List Msg)(p:Pr)(key n:Int)(h:zhF n p):zhF n (zan q p key).2.1:=by
 unfold zan
 split
 .exact h
 .exact h
theorem zn1 {n:Int}{now:Int}{x:Ins}{pc:Int}{q:List Msg}{p:Pr}(hx:zaK n x=true)(h0:0<=pc)(h1:pc<n)(hr:RegsOk p)(hp:zhF n p):StepOk2 n now (zbO now x pc q p):=by
 unfold zaK at hx
 unfold zbO
 by_cases g0:x.op=0
 .rw [if_neg (by omega),if_neg (by omega),if_neg (by omega),if_neg (by omega),if_neg (by omega),if_neg (by omega),if_neg (by omega),if_neg (by omega)]
  exact ⟨hp,fun _ h=>by cases h⟩
 rw [if_neg g0] at hx
 by_cases g1:x.op=1
 .rw [if_pos g1]
  exact ⟨zjK _ _ _ _ hp,fun h=>by simp only at h;omega⟩
 rw [if_neg g1] at hx ⊢
 by_cases g2:x.op=2
 .rw [if_pos g2] at hx ⊢
  simp only [Bool.and_eq_true] at hx
  have ha:=zaN hx.1.1
  exact ⟨⟨hp.1,hp.2.1,by simp only;omega,by simp only;omega⟩,fun _ _=>⟨by simp only [zbL];omega,by simp only [zbL];omega⟩⟩
 rw [if_neg g2] at hx ⊢
 by_cases g3:x.op=3
 .rw [if_pos g3] at hx ⊢
  simp only [Bool.and_eq_true] at hx
  have hb:=zaN hx.1.2
  have hc:=zaN hx.2
  split
  .exact ⟨zjK _ _ _ _ hp,fun h=>by simp only at h;omega⟩
  .exact ⟨⟨by simp only;omega,by simp only;omega,hc.1,hc.2⟩,fun _ _=>⟨by simp only [zbL];omega,by simp only [zbL];omega⟩⟩
 rw [if_neg g3] at hx ⊢
 by_cases g4:x.op=4
 .rw [if_pos g4]
  exact ⟨hp,fun h=>by simp only at h;omega⟩
 rw [if_neg g4] at hx ⊢
 by_cases g5:x.op=5
 .rw [if_pos g5]
  exact ⟨hp,fun h=>by simp only at h;omega⟩
 rw [if_neg g5] at hx ⊢
 by_cases g6:x.op=6
 .rw [if_pos g6] at hx ⊢
  simp only [Bool.and_eq_true] at hx
  have hc:=zaN hx.2
  have hg:=hr.get x.b
  have hm:1<=zcy 1 (zcz p x.b)/\zcy 1 (zcz p x.b)<=1000000:=by
   unfold zcy
   split
   .omega
   .omega
  exact ⟨⟨hc.1,hc.2,by simp only;omega,by simp only;omega⟩,fun _ _=>⟨by simp only [zbL];omega,by simp only [zbL];omega⟩⟩
 rw [if_neg g6] at hx ⊢
 by_cases g7:x.op=7
 .rw [if_pos g7] at hx ⊢
  simp only [Bool.and_eq_true] at hx
  have hc:=zaN hx.2
  split
  .refine ⟨hp,fun h=>?_⟩
   simp only at h
   split at h
   .omega
   .omega
  .exact ⟨hp,fun h=>by simp only at h;omega⟩
 rw [if_neg g7] at hx ⊢
 by_cases g8:x.op=8
 .rw [if_pos g8] at hx ⊢
  simp only [Bool.and_eq_true] at hx
  have hc:=zaN hx.2
  exact ⟨hp,fun h=>by simp only at h;omega⟩
 rw [if_neg g8] at hx
 cases hx
structure RunOk (n now:Int)(f:Nat)(p:Pr)(r:List Msg×Pr×Bool):Prop where
 regs:RegsOk r.2.1
 pcs:zhF n r.2.1
 id:r.2.1.id=p.id
 dev:r.2.1.dev=p.dev
 sent0:p.sent<=r.2.1.sent
 sent1:r.2.1.sent<=p.sent+f
 len:r.1.length<=4
 stop:r.2.2=false->now<r.2.1.til/\r.2.1.til<=now+1000000
theorem znO {now:Int}{cs:List Ins}(hall:∀ x∈cs,zaK cs.length x=true):∀ (f:Nat) (pc:Int) (q:List Msg) (p:Pr),0<=pc->RegsOk p->zhF cs.length p->q.length<=4->RunOk cs.length now f p (zdu now cs f pc q p):=by
 intro f
 induction f with
 | zero=>
  intro pc q p _ hr hp hq
  rw [zdu]
  exact ⟨hr,hp,rfl,rfl,Int.le_refl _,by simp only;omega,hq,fun h=>by cases h⟩
 | succ f ih=>
  intro pc q p h0 hr hp hq
  rw [zdu]
  split
  .next hlt=>
   have k1:=zlG (now:=now) (hall _ (List.getElem_mem hlt)) h0 (by omega) hr hq
   have k2:=zn1 (now:=now) (q:=q) (hall _ (List.getElem_mem hlt)) h0 (by omega) hr hp
   have s0:=k1.sent0
   have s1:=k1.sent1
   split
   .next hneg=>
    refine ⟨k1.regs,k2.pcs,k1.id,k1.dev,s0,by simp only;omega,k1.len,fun hd=>?_⟩
    rcases k1.pc with h|h
    .exact k2.stop h hd
    .omega
   .next hneg=>
    have hpc:0<=(zbO now cs[pc.toNat] pc q p).2.2.1:=by omega
    have k3:=ih _ (zbO now cs[pc.toNat] pc q p).1 (zbO now cs[pc.toNat] pc q p).2.1 hpc k1.regs k2.pcs k1.len
    have t0:=k3.sent0
    have t1:=k3.sent1
    exact ⟨k3.regs,k3.pcs,k3.id.trans k1.id,k3.dev.trans k1.dev,by omega,by omega,k3.len,k3.stop⟩
  .exact ⟨hr,hp,rfl,rfl,Int.le_refl _,by simp only;omega,hq,fun h=>by cases h⟩
theorem zqE {now:Int}{cs:List Ins}(hall:∀ x∈cs,zaK cs.length x=true)(yes:Bool)(q:List Msg)(p:Pr)(hr:RegsOk p)(hp:zhF cs.length p)(hq:q.length<=4):RunOk cs.length now 10000 p (onP now cs yes q p):=by
 have key:∀ (pc:Int) (q':List Msg),0<=pc->q'.length<=4->RunOk cs.length now 10000 p (zdu now cs 10000 pc q' {p with num:=0}):=fun pc q' h0 hq'=>by
  have k:=znO (now:=now) hall 10000 pc q' {p with num:=0} h0 hr hp hq'
  exact ⟨k.regs,k.pcs,k.id,k.dev,k.sent0,k.sent1,k.len,k.stop⟩
 unfold onP
 split
 .exact key _ _ hp.1 hq
 .split
  .exact key _ _ hp.2.2.1 (Nat.le_trans (List.length_filter_le _ _) hq)
  .exact key _ _ hp.2.2.1 hq
theorem zoZ {now:Int}{cs:List Ins}{f:Nat}{pc:Int}{q:List Msg}{p:Pr}(h:¬ pc.toNat<cs.length):zdu now cs (f+1) pc q p=(q,p,true):=by rw [zdu,dif_neg h]
theorem zn5 (q:List Msg)(id num:Int):(zbK q id num).length<=q.length:=List.length_filter_le _ _
structure Rn where
 id:Int
 dev:Int
 sent:Int
 til:Int
 num:Int
structure Eng (R:Type) where
 pub:R->Rn
 fresh:Int->Int->R
 start:Int->List Msg->R->List Msg×R×Bool
 on:Int->Bool->List Msg->R->List Msg×R×Bool
structure Her (R:Type) where
 now:Int
 last:Int
 qs:Nat->List Msg
 rs:List R
def zcc (f:Nat->List Msg)(d:Nat)(v:List Msg)(k:Nat):List Msg:=if k=d then v else f k
def zbe {R:Type}(E:Eng R)(rs:List R)(r:R)(done:Bool):List R:=
 if done then rs.filter (fun y=>(E.pub y).id != (E.pub r).id) else rs.map (fun y=>if (E.pub y).id=(E.pub r).id then r else y)
def zb7 {R:Type}(E:Eng R)(h:Her R)(dev:Int):Int×Int×Her R:=
 if ¬ (0<=dev/\dev<=2) then (0,8,h)
 else if 5<=h.rs.length then (0,9,h)
 else (h.last+1,0,{h with
  last:=h.last+1
  qs:=zcc h.qs dev.toNat (E.start h.now (h.qs dev.toNat) (E.fresh (h.last+1) dev)).1
  rs:=zbe E (h.rs++[E.fresh (h.last+1) dev]) (E.start h.now (h.qs dev.toNat) (E.fresh (h.last+1) dev)).2.1 (E.start h.now (h.qs dev.toNat) (E.fresh (h.last+1) dev)).2.2})
def goH {R:Type}(E:Eng R)(h:Her R)(r:R)(yes:Bool):Her R:=
 {h with
  qs:=zcc h.qs (E.pub r).dev.toNat (E.on h.now yes (h.qs (E.pub r).dev.toNat) r).1
  rs:=zbe E h.rs (E.on h.now yes (h.qs (E.pub r).dev.toNat) r).2.1 (E.on h.now yes (h.qs (E.pub r).dev.toNat) r).2.2}
def zgi {R:Type}(E:Eng R)(en:Int)(o:Option R)(x:R):Option R:=
 if (E.pub x).til<=en then (match o with|none=>some x|some b=>if (E.pub x).til<(E.pub b).til then some x else some b) else o
def zjb {R:Type}(E:Eng R)(en:Int)(l:List R):Option R:=l.foldl (zgi E en) none
def zcv {R:Type}(E:Eng R)(en:Int):Nat->Her R->Her R
 | 0,h=>h
 | f+1,h=>match zjb E en h.rs with
  | none=>h
  | some r=>zcv E en f (goH E {h with now:=(E.pub r).til} r false)
def zdk {R:Type}(E:Eng R)(h:Her R)(n:Int):Int×Her R:=
 if ¬ (1<=n/\n<=999)\/1000000000<h.now+n then (14,h)
 else (0,{zcv E (h.now+n) 5000 h with now:=h.now+n})
def zc3 {R:Type}(E:Eng R)(rs:List R)(id:Int):Option R:=rs.find? fun x=>(E.pub x).id==id
def zej {R:Type}(E:Eng R)(h:Her R)(id num:Int):Int×Her R:=
 match zc3 E h.rs id with
 | none=>(10,h)
 | some r=>
  if num=0\/(E.pub r).num≠num then (11,h)
  else if zjk (h.qs (E.pub r).dev.toNat) id num then (12,h)
  else (0,goH E h r true)
def zbb {R:Type}(E:Eng R)(h:Her R)(id:Int):Int×Her R:=
 match zc3 E h.rs id with
 | none=>(10,h)
 | some r=>(0,{h with qs:=zcc h.qs (E.pub r).dev.toNat (zbK (h.qs (E.pub r).dev.toNat) id 0),rs:=h.rs.filter (fun y=>(E.pub y).id != id)})
def zbA {R:Type}(h:Her R)(dev:Int):Msg×Int×Her R:=
 if ¬ (0<=dev/\dev<=2) then (⟨0,0,0,0⟩,8,h)
 else match h.qs dev.toNat with
  | []=>(⟨0,0,0,0⟩,13,h)
  | m::r=>(m,0,{h with qs:=zcc h.qs dev.toNat r})
def zgF {R:Type}:Her R:=⟨0,0,fun _=>[],[]⟩
def zgq {A B:Type}(ρ:A->B->Prop):List A->List B->Prop
 | [],[]=>True
 | a::l,b::m=>ρ a b/\zgq ρ l m
 | _,_=>False
theorem zdG {A B:Type}{ρ:A->B->Prop}:∀ {l:List A} {m:List B},zgq ρ l m->l.length=m.length
 | [],[],_=>rfl
 | _::_,_::_,h=>by simp [zdG h.2]
 | [],_::_,h=>h.elim
 | _::_,[],h=>h.elim
theorem zep {A B:Type}{ρ:A->B->Prop}:∀ {l:List A} {m:List B} {l':List A} {m':List B},zgq ρ l m->zgq ρ l' m'->zgq ρ (l++l') (m++m')
 | [],[],_,_,_,h=>h
 | _::_,_::_,_,_,h,h'=>⟨h.1,zep h.2 h'⟩
 | [],_::_,_,_,h,_=>h.elim
 | _::_,[],_,_,h,_=>h.elim
structure SameEng {R S:Type}(E:Eng R)(F:Eng S)(ρ:R->S->Prop):Prop where
 pub:∀ a b,ρ a b->E.pub a=F.pub b
 start:∀ now q id dev,((E.start now q (E.fresh id dev)).1=(F.start now q (F.fresh id dev)).1)/\(E.start now q (E.fresh id dev)).2.2=(F.start now q (F.fresh id dev)).2.2 /\
  (E.pub (E.start now q (E.fresh id dev)).2.1).id=id/\(F.pub (F.start now q (F.fresh id dev)).2.1).id=id/\((E.start now q (E.fresh id dev)).2.2=false->ρ (E.start now q (E.fresh id dev)).2.1 (F.start now q (F.fresh id dev)).2.1)
 fresh:∀ id dev,(E.pub (E.fresh id dev)).id=id/\(F.pub (F.fresh id dev)).id=id
 on:∀ a b,ρ a b->∀ now yes q,(yes=true->(E.pub a).num≠0)->((E.on now yes q a).1=(F.on now yes q b).1)/\(E.on now yes q a).2.2=(F.on now yes q b).2.2 /\
  (E.pub (E.on now yes q a).2.1).id=(E.pub a).id/\(F.pub (F.on now yes q b).2.1).id=(F.pub b).id/\((E.on now yes q a).2.2=false->ρ (E.on now yes q a).2.1 (F.on now yes q b).2.1)
structure SameHer {R S:Type}(ρ:R->S->Prop)(h:Her R)(k:Her S):Prop where
 now:h.now=k.now
 last:h.last=k.last
 qs:h.qs=k.qs
 rs:zgq ρ h.rs k.rs
theorem zeq {R S:Type}{E:Eng R}{F:Eng S}{ρ:R->S->Prop}(hp:∀ a b,ρ a b->E.pub a=F.pub b)(id:Int):∀ {l:List R} {m:List S},zgq ρ l m->zgq ρ (l.filter fun y=>(E.pub y).id != id) (m.filter fun y=>(F.pub y).id != id)
 | [],[],_=>trivial
 | a::l,b::m,h=>by
  have e:=hp a b h.1
  have ih:=zeq hp id h.2
  simp only [List.filter_cons,e]
  split
  .exact ⟨h.1,ih⟩
  .exact ih
 | [],_::_,h=>h.elim
 | _::_,[],h=>h.elim
theorem ziE {R S:Type}{E:Eng R}{F:Eng S}{ρ:R->S->Prop}(hp:∀ a b,ρ a b->E.pub a=F.pub b){r:R}{s:S}(hr:ρ r s):∀ {l:List R} {m:List S},zgq ρ l m->zgq ρ (l.map fun y=>if (E.pub y).id=(E.pub r).id then r else y) (m.map fun y=>if (F.pub y).id=(F.pub s).id then s else y)
 | [],[],_=>trivial
 | a::l,b::m,h=>by
  have e:=hp a b h.1
  have e2:=hp r s hr
  have ih:=ziE hp hr h.2
  simp only [List.map_cons]
  refine ⟨?_,ih⟩
  rw [e,e2]
  split
  .exact hr
  .exact h.1
 | [],_::_,h=>h.elim
 | _::_,[],h=>h.elim
theorem zif {R S:Type}{E:Eng R}{F:Eng S}{ρ:R->S->Prop}(hp:∀ a b,ρ a b->E.pub a=F.pub b){l:List R}{m:List S}(h:zgq ρ l m){r:R}{s:S}{done:Bool}(hid:(E.pub r).id=(F.pub s).id)(hr:done=false->ρ r s):zgq ρ (zbe E l r done) (zbe F m s done):=by
 unfold zbe
 cases done with
 | true=>
  simp only [if_true]
  rw [hid]
  exact zeq hp _ h
 | false=>
  simp only [Bool.false_eq_true,if_false]
  exact ziE hp (hr rfl) h
def zqR {A B:Type}(ρ:A->B->Prop):Option A->Option B->Prop
 | none,none=>True
 | some a,some b=>ρ a b
 | _,_=>False
theorem zhr {R S:Type}{E:Eng R}{F:Eng S}{ρ:R->S->Prop}(hp:∀ a b,ρ a b->E.pub a=F.pub b)(id:Int):∀ {l:List R} {m:List S},zgq ρ l m->zqR ρ (zc3 E l id) (zc3 F m id)
 | [],[],_=>trivial
 | a::l,b::m,h=>by
  have e:=hp a b h.1
  have ih:=zhr hp id h.2
  unfold zc3 at ih ⊢
  simp only [List.find?_cons,e]
  split
  .exact h.1
  .exact ih
 | [],_::_,h=>h.elim
 | _::_,[],h=>h.elim
theorem ziD {R S:Type}{E:Eng R}{F:Eng S}{ρ:R->S->Prop}(hp:∀ a b,ρ a b->E.pub a=F.pub b)(en:Int):∀ {l:List R} {m:List S} {o:Option R} {o':Option S},zgq ρ l m->zqR ρ o o'->zqR ρ (l.foldl (zgi E en) o) (m.foldl (zgi F en) o')
 | [],[],_,_,_,h=>h
 | a::l,b::m,o,o',h,ho=>by
  have e:=hp a b h.1
  simp only [List.foldl_cons]
  refine ziD hp en h.2 ?_
  unfold zgi
  rw [e]
  split
  .cases o with
   | none=>
    cases o' with
    | none=>exact h.1
    | some _=>exact ho.elim
   | some x=>
    cases o' with
    | none=>exact ho.elim
    | some y=>
     have e2:=hp x y ho
     show zqR ρ (if _ then _ else _) (if _ then _ else _)
     rw [e2]
     split
     .exact h.1
     .exact ho
  .exact ho
 | [],_::_,_,_,h,_=>h.elim
 | _::_,[],_,_,h,_=>h.elim
theorem SameHer.trig {R S:Type}{E:Eng R}{F:Eng S}{ρ:R->S->Prop}(hE:SameEng E F ρ){a:Her R}{b:Her S}(h:SameHer ρ a b)(dev:Int):
  (zb7 E a dev).1=(zb7 F b dev).1/\(zb7 E a dev).2.1=(zb7 F b dev).2.1/\SameHer ρ (zb7 E a dev).2.2 (zb7 F b dev).2.2:=by
 unfold zb7
 rw [zdG h.rs,h.last,h.qs,h.now]
 split
 .exact ⟨rfl,rfl,h⟩
 .split
  .exact ⟨rfl,rfl,h⟩
  .obtain ⟨h1,h2,h3,h4,h5⟩:=hE.start b.now (b.qs dev.toNat) (b.last+1) dev
   refine ⟨rfl,rfl,⟨rfl,rfl,?_,?_⟩⟩
   .show zcc _ _ _=zcc _ _ _
    rw [h1]
   .show zgq ρ (zbe E (a.rs++_) _ _) (zbe F (b.rs++_) _ _)
    rw [h2] at h5 ⊢
    cases hd:(F.start b.now (b.qs dev.toNat) (F.fresh (b.last+1) dev)).2.2 with
    | true=>
     unfold zbe
     simp only [if_true]
     rw [h3,h4,List.filter_append,List.filter_append]
     refine zep (zeq hE.pub _ h.rs) ?_
     have e1:=(hE.fresh (b.last+1) dev).1
     have e2:=(hE.fresh (b.last+1) dev).2
     simp [e1,e2,zgq]
    | false=>
     rw [hd] at h5
     have hr:=h5 rfl
     have e1:=(hE.fresh (b.last+1) dev).1
     have e2:=(hE.fresh (b.last+1) dev).2
     unfold zbe
     simp only [Bool.false_eq_true,if_false,List.map_append,List.map_cons,List.map_nil]
     refine zep (ziE hE.pub hr h.rs) ?_
     rw [h3,h4,e1,e2]
     simp only [if_true]
     exact ⟨hr,trivial⟩
theorem SameHer.go {R S:Type}{E:Eng R}{F:Eng S}{ρ:R->S->Prop}(hE:SameEng E F ρ){a:Her R}{b:Her S}(h:SameHer ρ a b){r:R}{s:S}(hr:ρ r s)(yes:Bool)(hy:yes=true->(E.pub r).num≠0):SameHer ρ (goH E a r yes) (goH F b s yes):=by
 have e:=hE.pub r s hr
 obtain ⟨h1,h2,h3,h4,h5⟩:=hE.on r s hr b.now yes (b.qs (F.pub s).dev.toNat) hy
 unfold goH
 rw [h.now,h.qs,e]
 refine ⟨rfl,h.last,?_,?_⟩
 .show zcc _ _ _=zcc _ _ _
  rw [h1]
 .show zgq ρ (zbe E a.rs _ _) (zbe F b.rs _ _)
  rw [h2] at h5 ⊢
  exact zif hE.pub h.rs (by rw [h3,h4,e]) h5
theorem SameHer.tickN {R S:Type}{E:Eng R}{F:Eng S}{ρ:R->S->Prop}(hE:SameEng E F ρ)(en:Int):∀ (f:Nat) {a:Her R} {b:Her S},SameHer ρ a b->SameHer ρ (Herald.zcv E en f a) (Herald.zcv F en f b):=by
 intro f
 induction f with
 | zero=>intro a b h;exact h
 | succ f ih=>
  intro a b h
  have hd:=ziD hE.pub en h.rs (o:=none) (o':=none) trivial
  unfold Herald.zcv zjb
  cases h1:a.rs.foldl (zgi E en) none with
  | none=>
   rw [h1] at hd
   cases h2:b.rs.foldl (zgi F en) none with
   | none=>exact h
   | some y=>rw [h2] at hd;exact hd.elim
  | some x=>
   rw [h1] at hd
   cases h2:b.rs.foldl (zgi F en) none with
   | none=>rw [h2] at hd;exact hd.elim
   | some y=>
    rw [h2] at hd
    have hxy:ρ x y:=hd
    simp only
    rw [hE.pub x y hxy]
    have hh:SameHer ρ {a with now:=(F.pub y).til} {b with now:=(F.pub y).til}:=⟨rfl,h.last,h.qs,h.rs⟩
    exact ih (SameHer.go hE hh hxy false (fun hh=>by cases hh))
theorem SameHer.tick {R S:Type}{E:Eng R}{F:Eng S}{ρ:R->S->Prop}(hE:SameEng E F ρ){a:Her R}{b:Her S}(h:SameHer ρ a b)(n:Int):(zdk E a n).1=(zdk F b n).1/\SameHer ρ (zdk E a n).2 (zdk F b n).2:=by
 unfold zdk
 rw [h.now]
 split
 .exact ⟨rfl,h⟩
 .have h2:=SameHer.tickN hE (b.now+n) 5000 h
  exact ⟨rfl,rfl,h2.last,h2.qs,h2.rs⟩
theorem SameHer.ack {R S:Type}{E:Eng R}{F:Eng S}{ρ:R->S->Prop}(hE:SameEng E F ρ){a:Her R}{b:Her S}(h:SameHer ρ a b)(id num:Int):(zej E a id num).1=(zej F b id num).1/\SameHer ρ (zej E a id num).2 (zej F b id num).2:=by
 have hf:=zhr hE.pub id h.rs
 unfold zej
 cases h1:zc3 E a.rs id with
 | none=>
  rw [h1] at hf
  cases h2:zc3 F b.rs id with
  | none=>exact ⟨rfl,h⟩
  | some y=>rw [h2] at hf;exact hf.elim
 | some x=>
  rw [h1] at hf
  cases h2:zc3 F b.rs id with
  | none=>rw [h2] at hf;exact hf.elim
  | some y=>
   rw [h2] at hf
   have hxy:ρ x y:=hf
   have e:=hE.pub x y hxy
   simp only
   rw [e,h.qs]
   split
   .exact ⟨rfl,h⟩
   .rename_i hn
    split
    .exact ⟨rfl,h⟩
    .refine ⟨rfl,SameHer.go hE h hxy true (fun _ h0=>hn ?_)⟩
     rw [e] at h0
     by_cases hz:num=0
     .exact Or.inl hz
     .right;rw [h0];exact fun hh=>hz hh.symm
theorem SameHer.cancel {R S:Type}{E:Eng R}{F:Eng S}{ρ:R->S->Prop}(hE:SameEng E F ρ){a:Her R}{b:Her S}(h:SameHer ρ a b)(id:Int):(zbb E a id).1=(zbb F b id).1/\SameHer ρ (zbb E a id).2 (zbb F b id).2:=by
 have hf:=zhr hE.pub id h.rs
 unfold zbb
 cases h1:zc3 E a.rs id with
 | none=>
  rw [h1] at hf
  cases h2:zc3 F b.rs id with
  | none=>exact ⟨rfl,h⟩
  | some y=>rw [h2] at hf;exact hf.elim
 | some x=>
  rw [h1] at hf
  cases h2:zc3 F b.rs id with
  | none=>rw [h2] at hf;exact hf.elim
  | some y=>
   rw [h2] at hf
   have e:=hE.pub x y hf
   refine ⟨rfl,h.now,h.last,?_,zeq hE.pub id h.rs⟩
   show zcc _ _ _=zcc _ _ _
   rw [e,h.qs]
theorem SameHer.drain {R S:Type}{ρ:R->S->Prop}{a:Her R}{b:Her S}(h:SameHer ρ a b)(dev:Int):(zbA a dev).1=(zbA b dev).1/\(zbA a dev).2.1=(zbA b dev).2.1/\SameHer ρ (zbA a dev).2.2 (zbA b dev).2.2:=by
 unfold zbA
 rw [h.qs]
 split
 .exact ⟨rfl,rfl,h⟩
 .split
  .exact ⟨rfl,rfl,h⟩
  .exact ⟨rfl,rfl,h.now,h.last,rfl,h.rs⟩
theorem SameHer.new {R S:Type}(ρ:R->S->Prop):SameHer ρ (zgF (R:=R)) (zgF (R:=S)):=⟨rfl,rfl,rfl,trivial⟩
end Go.Proofs.Herald
set_option maxHeartbeats 8000000
namespace Go.Proofs.YtmmmnghiegajmaaGreat
open Go.RowKit Go.Proofs.Herald
set_option maxRecDepth 100000 in
theorem zgZ (a:Option Addr)(b off cap:Nat)(cs:List Ins)(w:World)(hc:CodeIn w a b off cs):
  Calls Tryz.prog 18 #[.slice a cs.length cap] w fun e w'=>e=.returned (.bool (zbq cs))/\Below w.heap.size w w':=by
 rcases Nat.lt_or_ge 1000 cs.length with hl|hl
 .have HS:Hid (zbq cs=false):=zdQ hl
  go_enter Tryz.func18,Tryz.ntmps18
  go_wp2_with fail
  go_ret
  exact ⟨zau HS.out.symm,Below.refl _ _⟩
 .have HS:Hid (zbq cs=cs.all (zaK cs.length)):=ze0 hl
  have HC:=zHd hc
  clear hc
  go_enter Tryz.func18,Tryz.ntmps18
  go_wp2_with fail
  go_loopw [3] (fun i wr=>∃ k:Nat,k<=cs.length/\i=.int .i64 k/\Hid (Below w.heap.size w wr)/\Hid ((cs.take k).all (zaK cs.length)=true)) (fun i _=>cs.length - (intOf i).toNat)
  case atStart=>exact ⟨0,Nat.zero_le _,rfl,Below.refl _ _,by show _=_;simp⟩
  case round=>
   obtain ⟨k,hk,rfl,HB,HT⟩:=hrel
   by_cases hlt:k<cs.length
   .obtain ⟨rfl,hblt,hca⟩:=HC.out (by omega)
    obtain ⟨c0,c1,c2,c3⟩:=(hca.keep (HB.out.block b hblt)).get k hlt
    have HTT:Hid (zaK cs.length cs[k]=true->(cs.take (k+1)).all (zaK cs.length)=true):=fun h=>zfz _ cs k hlt HT.out h
    have HFF:Hid (zaK cs.length cs[k]=false->cs.all (zaK cs.length)=false):=fun h=>zmQ _ cs k hlt h
    have HBA:Hid (∀ o,Below w.heap.size w (wr.alloc o)):=fun o=>HB.out.alloc HB.out.size o
    obtain ⟨x,hx⟩:∃ x,x=cs[k]:=⟨_,rfl⟩
    rw [<- hx] at c0 c1 c2 c3 HTT HFF
    clear hx hca HC HB
    obtain ⟨op,xa,xb,xc⟩:=x
    simp only [] at c0 c1 c2 c3
    by_cases h0:op=0
    .subst h0
     have hs:zaK cs.length ⟨0,xa,xb,xc⟩=((xa==0) && (xb==0) && (xc==0)):=rfl
     rw [hs] at HTT HFF
     clear hs
     rcases ziT (xa==0) (xb==0) (xc==0) with ⟨hr,g1⟩|⟨hr,g1,g2⟩|⟨hr,g1,g2,g3⟩|⟨hr,g1,g2,g3⟩
     .have HF:Hid (_=_):=HFF.out hr
      clear hr HTT HFF
      go_wp2_with (go_at_call 50;refine (zar _ _ _ _).mono ?_;rintro e w' ⟨rfl,rfl⟩)
      go_ret
      exact ⟨zau (by rw [HS.out];exact HF.out.symm),HBA.out _⟩
     .have HF:Hid (_=_):=HFF.out hr
      clear hr HTT HFF
      go_wp2_with (go_at_call 50;refine (zar _ _ _ _).mono ?_;rintro e w' ⟨rfl,rfl⟩)
      go_ret
      exact ⟨zau (by rw [HS.out];exact HF.out.symm),HBA.out _⟩
     .have HF:Hid (_=_):=HFF.out hr
      clear hr HTT HFF
      go_wp2_with (go_at_call 50;refine (zar _ _ _ _).mono ?_;rintro e w' ⟨rfl,rfl⟩)
      go_ret
      exact ⟨zau (by rw [HS.out];exact HF.out.symm),HBA.out _⟩
     .have HF:Hid (_=_):=HTT.out hr
      clear hr HTT HFF
      go_wp2_with (go_at_call 50;refine (zar _ _ _ _).mono ?_;rintro e w' ⟨rfl,rfl⟩)
      go_roundw
      case rel=>exact ⟨k+1,by omega,by go_num,HBA.out _,HF⟩
      case measure=>simp [intOf];omega
    by_cases h1:op=1
    .subst h1
     have hs:zaK cs.length ⟨1,xa,xb,xc⟩=((zam xa 0 7) && (xb==0) && (xc==0)):=rfl
     rw [hs] at HTT HFF
     clear hs
     rcases ziT (zam xa 0 7) (xb==0) (xc==0) with ⟨hr,g1⟩|⟨hr,g1,g2⟩|⟨hr,g1,g2,g3⟩|⟨hr,g1,g2,g3⟩
     .have HF:Hid (_=_):=HFF.out hr
      clear hr HTT HFF
      go_wp2_with (go_at_call 50;refine (zar _ _ _ _).mono ?_;rintro e w' ⟨rfl,rfl⟩)
      go_ret
      exact ⟨zau (by rw [HS.out];exact HF.out.symm),HBA.out _⟩
     .have HF:Hid (_=_):=HFF.out hr
      clear hr HTT HFF
      go_wp2_with (go_at_call 50;refine (zar _ _ _ _).mono ?_;rintro e w' ⟨rfl,rfl⟩)
      go_ret
      exact ⟨zau (by rw [HS.out];exact HF.out.symm),HBA.out _⟩
     .have HF:Hid (_=_):=HFF.out hr
      clear hr HTT HFF
      go_wp2_with (go_at_call 50;refine (zar _ _ _ _).mono ?_;rintro e w' ⟨rfl,rfl⟩)
      go_ret
      exact ⟨zau (by rw [HS.out];exact HF.out.symm),HBA.out _⟩
     .have HF:Hid (_=_):=HTT.out hr
      clear hr HTT HFF
      go_wp2_with (go_at_call 50;refine (zar _ _ _ _).mono ?_;rintro e w' ⟨rfl,rfl⟩)
      go_roundw
      case rel=>exact ⟨k+1,by omega,by go_num,HBA.out _,HF⟩
      case measure=>simp [intOf];omega
    by_cases h2:op=2
    .subst h2
     have hs:zaK cs.length ⟨2,xa,xb,xc⟩=((zam xa 1 999) && (xb==0) && (xc==0)):=rfl
     rw [hs] at HTT HFF
     clear hs
     rcases ziT (zam xa 1 999) (xb==0) (xc==0) with ⟨hr,g1⟩|⟨hr,g1,g2⟩|⟨hr,g1,g2,g3⟩|⟨hr,g1,g2,g3⟩
     .have HF:Hid (_=_):=HFF.out hr
      clear hr HTT HFF
      go_wp2_with (go_at_call 50;refine (zar _ _ _ _).mono ?_;rintro e w' ⟨rfl,rfl⟩)
      go_ret
      exact ⟨zau (by rw [HS.out];exact HF.out.symm),HBA.out _⟩
     .have HF:Hid (_=_):=HFF.out hr
      clear hr HTT HFF
      go_wp2_with (go_at_call 50;refine (zar _ _ _ _).mono ?_;rintro e w' ⟨rfl,rfl⟩)
      go_ret
      exact ⟨zau (by rw [HS.out];exact HF.out.symm),HBA.out _⟩
     .have HF:Hid (_=_):=HFF.out hr
      clear hr HTT HFF
      go_wp2_with (go_at_call 50;refine (zar _ _ _ _).mono ?_;rintro e w' ⟨rfl,rfl⟩)
      go_ret
      exact ⟨zau (by rw [HS.out];exact HF.out.symm),HBA.out _⟩
     .have HF:Hid (_=_):=HTT.out hr
      clear hr HTT HFF
      go_wp2_with (go_at_call 50;refine (zar _ _ _ _).mono ?_;rintro e w' ⟨rfl,rfl⟩)
      go_roundw
      case rel=>exact ⟨k+1,by omega,by go_num,HBA.out _,HF⟩
      case measure=>simp [intOf];omega
    by_cases h3:op=3
    .subst h3
     have hs:zaK cs.length ⟨3,xa,xb,xc⟩=((zam xa 0 7) && (zam xb 1 999) && (zam xc 0 cs.length)):=rfl
     rw [hs] at HTT HFF
     clear hs
     rcases ziT (zam xa 0 7) (zam xb 1 999) (zam xc 0 cs.length) with ⟨hr,g1⟩|⟨hr,g1,g2⟩|⟨hr,g1,g2,g3⟩|⟨hr,g1,g2,g3⟩
     .have HF:Hid (_=_):=HFF.out hr
      clear hr HTT HFF
      go_wp2_with (go_at_call 50;refine (zar _ _ _ _).mono ?_;rintro e w' ⟨rfl,rfl⟩)
      go_ret
      exact ⟨zau (by rw [HS.out];exact HF.out.symm),HBA.out _⟩
     .have HF:Hid (_=_):=HFF.out hr
      clear hr HTT HFF
      go_wp2_with (go_at_call 50;refine (zar _ _ _ _).mono ?_;rintro e w' ⟨rfl,rfl⟩)
      go_ret
      exact ⟨zau (by rw [HS.out];exact HF.out.symm),HBA.out _⟩
     .have HF:Hid (_=_):=HFF.out hr
      clear hr HTT HFF
      go_wp2_with (go_at_call 50;refine (zar _ _ _ _).mono ?_;rintro e w' ⟨rfl,rfl⟩)
      go_ret
      exact ⟨zau (by rw [HS.out];exact HF.out.symm),HBA.out _⟩
     .have HF:Hid (_=_):=HTT.out hr
      clear hr HTT HFF
      go_wp2_with (go_at_call 50;refine (zar _ _ _ _).mono ?_;rintro e w' ⟨rfl,rfl⟩)
      go_roundw
      case rel=>exact ⟨k+1,by omega,by go_num,HBA.out _,HF⟩
      case measure=>simp [intOf];omega
    by_cases h4:op=4
    .subst h4
     have hs:zaK cs.length ⟨4,xa,xb,xc⟩=((zam xa 0 11) && (zam xb 0 999) && (xc==0)):=rfl
     rw [hs] at HTT HFF
     clear hs
     rcases ziT (zam xa 0 11) (zam xb 0 999) (xc==0) with ⟨hr,g1⟩|⟨hr,g1,g2⟩|⟨hr,g1,g2,g3⟩|⟨hr,g1,g2,g3⟩
     .have HF:Hid (_=_):=HFF.out hr
      clear hr HTT HFF
      go_wp2_with (go_at_call 50;refine (zar _ _ _ _).mono ?_;rintro e w' ⟨rfl,rfl⟩)
      go_ret
      exact ⟨zau (by rw [HS.out];exact HF.out.symm),HBA.out _⟩
     .have HF:Hid (_=_):=HFF.out hr
      clear hr HTT HFF
      go_wp2_with (go_at_call 50;refine (zar _ _ _ _).mono ?_;rintro e w' ⟨rfl,rfl⟩)
      go_ret
      exact ⟨zau (by rw [HS.out];exact HF.out.symm),HBA.out _⟩
     .have HF:Hid (_=_):=HFF.out hr
      clear hr HTT HFF
      go_wp2_with (go_at_call 50;refine (zar _ _ _ _).mono ?_;rintro e w' ⟨rfl,rfl⟩)
      go_ret
      exact ⟨zau (by rw [HS.out];exact HF.out.symm),HBA.out _⟩
     .have HF:Hid (_=_):=HTT.out hr
      clear hr HTT HFF
      go_wp2_with (go_at_call 50;refine (zar _ _ _ _).mono ?_;rintro e w' ⟨rfl,rfl⟩)
      go_roundw
      case rel=>exact ⟨k+1,by omega,by go_num,HBA.out _,HF⟩
      case measure=>simp [intOf];omega
    by_cases h5:op=5
    .subst h5
     have hs:zaK cs.length ⟨5,xa,xb,xc⟩=((zam xa 0 11) && (xb==0) && (xc==0)):=rfl
     rw [hs] at HTT HFF
     clear hs
     rcases ziT (zam xa 0 11) (xb==0) (xc==0) with ⟨hr,g1⟩|⟨hr,g1,g2⟩|⟨hr,g1,g2,g3⟩|⟨hr,g1,g2,g3⟩
     .have HF:Hid (_=_):=HFF.out hr
      clear hr HTT HFF
      go_wp2_with (go_at_call 50;refine (zar _ _ _ _).mono ?_;rintro e w' ⟨rfl,rfl⟩)
      go_ret
      exact ⟨zau (by rw [HS.out];exact HF.out.symm),HBA.out _⟩
     .have HF:Hid (_=_):=HFF.out hr
      clear hr HTT HFF
      go_wp2_with (go_at_call 50;refine (zar _ _ _ _).mono ?_;rintro e w' ⟨rfl,rfl⟩)
      go_ret
      exact ⟨zau (by rw [HS.out];exact HF.out.symm),HBA.out _⟩
     .have HF:Hid (_=_):=HFF.out hr
      clear hr HTT HFF
      go_wp2_with (go_at_call 50;refine (zar _ _ _ _).mono ?_;rintro e w' ⟨rfl,rfl⟩)
      go_ret
      exact ⟨zau (by rw [HS.out];exact HF.out.symm),HBA.out _⟩
     .have HF:Hid (_=_):=HTT.out hr
      clear hr HTT HFF
      go_wp2_with (go_at_call 50;refine (zar _ _ _ _).mono ?_;rintro e w' ⟨rfl,rfl⟩)
      go_roundw
      case rel=>exact ⟨k+1,by omega,by go_num,HBA.out _,HF⟩
      case measure=>simp [intOf];omega
    by_cases h6:op=6
    .subst h6
     have hs:zaK cs.length ⟨6,xa,xb,xc⟩=((zam xa 0 7) && (zam xb 0 11) && (zam xc 0 cs.length)):=rfl
     rw [hs] at HTT HFF
     clear hs
     rcases ziT (zam xa 0 7) (zam xb 0 11) (zam xc 0 cs.length) with ⟨hr,g1⟩|⟨hr,g1,g2⟩|⟨hr,g1,g2,g3⟩|⟨hr,g1,g2,g3⟩
     .have HF:Hid (_=_):=HFF.out hr
      clear hr HTT HFF
      go_wp2_with (go_at_call 50;refine (zar _ _ _ _).mono ?_;rintro e w' ⟨rfl,rfl⟩)
      go_ret
      exact ⟨zau (by rw [HS.out];exact HF.out.symm),HBA.out _⟩
     .have HF:Hid (_=_):=HFF.out hr
      clear hr HTT HFF
      go_wp2_with (go_at_call 50;refine (zar _ _ _ _).mono ?_;rintro e w' ⟨rfl,rfl⟩)
      go_ret
      exact ⟨zau (by rw [HS.out];exact HF.out.symm),HBA.out _⟩
     .have HF:Hid (_=_):=HFF.out hr
      clear hr HTT HFF
      go_wp2_with (go_at_call 50;refine (zar _ _ _ _).mono ?_;rintro e w' ⟨rfl,rfl⟩)
      go_ret
      exact ⟨zau (by rw [HS.out];exact HF.out.symm),HBA.out _⟩
     .have HF:Hid (_=_):=HTT.out hr
      clear hr HTT HFF
      go_wp2_with (go_at_call 50;refine (zar _ _ _ _).mono ?_;rintro e w' ⟨rfl,rfl⟩)
      go_roundw
      case rel=>exact ⟨k+1,by omega,by go_num,HBA.out _,HF⟩
      case measure=>simp [intOf];omega
    by_cases h7:op=7
    .subst h7
     have hs:zaK cs.length ⟨7,xa,xb,xc⟩=((zam xa 0 11) && (xb==0) && (zam xc 0 cs.length)):=rfl
     rw [hs] at HTT HFF
     clear hs
     rcases ziT (zam xa 0 11) (xb==0) (zam xc 0 cs.length) with ⟨hr,g1⟩|⟨hr,g1,g2⟩|⟨hr,g1,g2,g3⟩|⟨hr,g1,g2,g3⟩
     .have HF:Hid (_=_):=HFF.out hr
      clear hr HTT HFF
      go_wp2_with (go_at_call 50;refine (zar _ _ _ _).mono ?_;rintro e w' ⟨rfl,rfl⟩)
      go_ret
      exact ⟨zau (by rw [HS.out];exact HF.out.symm),HBA.out _⟩
     .have HF:Hid (_=_):=HFF.out hr
      clear hr HTT HFF
      go_wp2_with (go_at_call 50;refine (zar _ _ _ _).mono ?_;rintro e w' ⟨rfl,rfl⟩)
      go_ret
      exact ⟨zau (by rw [HS.out];exact HF.out.symm),HBA.out _⟩
     .have HF:Hid (_=_):=HFF.out hr
      clear hr HTT HFF
      go_wp2_with (go_at_call 50;refine (zar _ _ _ _).mono ?_;rintro e w' ⟨rfl,rfl⟩)
      go_ret
      exact ⟨zau (by rw [HS.out];exact HF.out.symm),HBA.out _⟩
     .have HF:Hid (_=_):=HTT.out hr
      clear hr HTT HFF
      go_wp2_with (go_at_call 50;refine (zar _ _ _ _).mono ?_;rintro e w' ⟨rfl,rfl⟩)
      go_roundw
      case rel=>exact ⟨k+1,by omega,by go_num,HBA.out _,HF⟩
      case measure=>simp [intOf];omega
    by_cases h8:op=8
    .subst h8
     have hs:zaK cs.length ⟨8,xa,xb,xc⟩=((xa==0) && (xb==0) && (zam xc 0 cs.length)):=rfl
     rw [hs] at HTT HFF
     clear hs
     rcases ziT (xa==0) (xb==0) (zam xc 0 cs.length) with ⟨hr,g1⟩|⟨hr,g1,g2⟩|⟨hr,g1,g2,g3⟩|⟨hr,g1,g2,g3⟩
     .have HF:Hid (_=_):=HFF.out hr
      clear hr HTT HFF
      go_wp2_with (go_at_call 50;refine (zar _ _ _ _).mono ?_;rintro e w' ⟨rfl,rfl⟩)
      go_ret
      exact ⟨zau (by rw [HS.out];exact HF.out.symm),HBA.out _⟩
     .have HF:Hid (_=_):=HFF.out hr
      clear hr HTT HFF
      go_wp2_with (go_at_call 50;refine (zar _ _ _ _).mono ?_;rintro e w' ⟨rfl,rfl⟩)
      go_ret
      exact ⟨zau (by rw [HS.out];exact HF.out.symm),HBA.out _⟩
     .have HF:Hid (_=_):=HFF.out hr
      clear hr HTT HFF
      go_wp2_with (go_at_call 50;refine (zar _ _ _ _).mono ?_;rintro e w' ⟨rfl,rfl⟩)
      go_ret
      exact ⟨zau (by rw [HS.out];exact HF.out.symm),HBA.out _⟩
     .have HF:Hid (_=_):=HTT.out hr
      clear hr HTT HFF
      go_wp2_with (go_at_call 50;refine (zar _ _ _ _).mono ?_;rintro e w' ⟨rfl,rfl⟩)
      go_roundw
      case rel=>exact ⟨k+1,by omega,by go_num,HBA.out _,HF⟩
      case measure=>simp [intOf];omega
    have hs:zaK cs.length ⟨op,xa,xb,xc⟩=false:=by unfold zaK;simp only [h0,h1,h2,h3,h4,h5,h6,h7,h8,if_false]
    have HF:Hid (_=_):=HFF.out hs
    have e0:(op==0)=false:=by simpa using h0
    have e1:(op==1)=false:=by simpa using h1
    have e2:(op==2)=false:=by simpa using h2
    have e3:(op==3)=false:=by simpa using h3
    have e4:(op==4)=false:=by simpa using h4
    have e5:(op==5)=false:=by simpa using h5
    have e6:(op==6)=false:=by simpa using h6
    have e7:(op==7)=false:=by simpa using h7
    have e8:(op==8)=false:=by simpa using h8
    clear h0 h1 h2 h3 h4 h5 h6 h7 h8 hs HTT HFF
    go_wp2_with (go_at_call 50;refine (zar _ _ _ _).mono ?_;rintro e w' ⟨rfl,rfl⟩)
    go_ret
    exact ⟨zau (by rw [HS.out];exact HF.out.symm),HBA.out _⟩
   .have HE:Hid (cs.take k=cs):=List.take_of_length_le (by omega)
    go_wp2_with fail
    go_ret
    exact ⟨zau (by rw [HS.out];have h:=HT.out;rw [HE.out] at h;exact h.symm),HB.out⟩
end Go.Proofs.YtmmmnghiegajmaaGreat
