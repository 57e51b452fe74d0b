import Derived.Test.YtmmmnghiegajmaaGreatM05
open Go.Proofs.Herald
namespace Go.Proofs.Herald
structure Rn where
 id:Int
 dev:Int
 sent:Int
 til:Int
 num:Int
structure bM (R:Type) where
 pub:R->Rn
 fresh:Int->Int->R
 start:Int->List aj->R->List aj×R×Bool
 on:Int->Bool->List aj->R->List aj×R×Bool
structure az (R:Type) where
 now:Int
 last:Int
 qs:Nat->List aj
 rs:List R
def bU (f:Nat->List aj)(d:Nat)(v:List aj)(k:Nat):List aj:=if k=d then v else f k
def dP {R:Type}(E:bM R)(rs:List R)(r:R)(done:Bool):List R:=
 if done then rs.filter (fun y=>(E.pub y).id != (E.pub r).id) else rs.map (fun y=>if (E.pub y).id=(E.pub r).id then r else y)
def cP {R:Type}(E:bM R)(h:az R)(dev:Int):Int×Int×az R:=
 if ¬ (0<=dev/\dev<=2) then (0,8,h)
 else if 5<=h.rs.length then (0,9,h)
 else (h.last+1,0,{h with
  last:=h.last+1
  qs:=bU h.qs dev.toNat (E.start h.now (h.qs dev.toNat) (E.fresh (h.last+1) dev)).1
  rs:=dP E (h.rs++[E.fresh (h.last+1) dev]) (E.start h.now (h.qs dev.toNat) (E.fresh (h.last+1) dev)).2.1 (E.start h.now (h.qs dev.toNat) (E.fresh (h.last+1) dev)).2.2})
def fv {R:Type}(E:bM R)(h:az R)(r:R)(yes:Bool):az R:=
 {h with
  qs:=bU h.qs (E.pub r).dev.toNat (E.on h.now yes (h.qs (E.pub r).dev.toNat) r).1
  rs:=dP E h.rs (E.on h.now yes (h.qs (E.pub r).dev.toNat) r).2.1 (E.on h.now yes (h.qs (E.pub r).dev.toNat) r).2.2}
def fA {R:Type}(E:bM R)(en:Int)(o:Option R)(x:R):Option R:=
 if (E.pub x).til<=en then (match o with|none=>some x|some b=>if (E.pub x).til<(E.pub b).til then some x else some b) else o
def iM {R:Type}(E:bM R)(en:Int)(l:List R):Option R:=l.foldl (fA E en) none
def gS {R:Type}(E:bM R)(en:Int):Nat->az R->az R
 | 0,h=>h
 | f+1,h=>match iM E en h.rs with
  | none=>h
  | some r=>gS E en f (fv E {h with now:=(E.pub r).til} r false)
def dU {R:Type}(E:bM R)(h:az R)(n:Int):Int×az R:=
 if ¬ (1<=n/\n<=999)\/1000000000<h.now+n then (14,h)
 else (0,{gS E (h.now+n) 5000 h with now:=h.now+n})
def fm {R:Type}(E:bM R)(rs:List R)(id:Int):Option R:=rs.find? fun x=>(E.pub x).id==id
def di {R:Type}(E:bM R)(h:az R)(id num:Int):Int×az R:=
 match fm E h.rs id with
 | none=>(10,h)
 | some r=>
  if num=0\/(E.pub r).num≠num then (11,h)
  else if jt (h.qs (E.pub r).dev.toNat) id num then (12,h)
  else (0,fv E h r true)
def dH {R:Type}(E:bM R)(h:az R)(id:Int):Int×az R:=
 match fm E h.rs id with
 | none=>(10,h)
 | some r=>(0,{h with qs:=bU h.qs (E.pub r).dev.toNat (dr (h.qs (E.pub r).dev.toNat) id 0),rs:=h.rs.filter (fun y=>(E.pub y).id != id)})
def cU {R:Type}(h:az R)(dev:Int):aj×Int×az R:=
 if ¬ (0<=dev/\dev<=2) then (⟨0,0,0,0⟩,8,h)
 else match h.qs dev.toNat with
  | []=>(⟨0,0,0,0⟩,13,h)
  | m::r=>(m,0,{h with qs:=bU h.qs dev.toNat r})
def dM {R:Type}:az R:=⟨0,0,fun _=>[],[]⟩
def fB {A B:Type}(ρ:A->B->Prop):List A->List B->Prop
 | [],[]=>True
 | a::l,b::m=>ρ a b/\fB ρ l m
 | _,_=>False
theorem lG {A B:Type}{ρ:A->B->Prop}:∀ {l:List A} {m:List B},fB ρ l m->l.length=m.length
 | [],[],_=>rfl
 | _::_,_::_,h=>by simp[lG h.2]
 | [],_::_,h=>h.elim
 | _::_,[],h=>h.elim
theorem py {A B:Type}{ρ:A->B->Prop}:∀ {l:List A} {m:List B} {l':List A} {m':List B},fB ρ l m->fB ρ l' m'->fB ρ (l++l') (m++m')
 | [],[],_,_,_,h=>h
 | _::_,_::_,_,_,h,h'=>⟨h.1,py h.2 h'⟩
 | [],_::_,_,_,h,_=>h.elim
 | _::_,[],_,_,h,_=>h.elim
structure bq {R S:Type}(E:bM R)(F:bM S)(ρ:R->S->Prop):Prop where
 pub:∀ a b,ρ a b->E.pub a=F.pub b
 start:∀ now q id dev,((E.start now q (E.fresh id dev)).1=(F.start now q (F.fresh id dev)).1)/\(E.start now q (E.fresh id dev)).2.2=(F.start now q (F.fresh id dev)).2.2 /\
  (E.pub (E.start now q (E.fresh id dev)).2.1).id=id/\(F.pub (F.start now q (F.fresh id dev)).2.1).id=id/\((E.start now q (E.fresh id dev)).2.2=false->ρ (E.start now q (E.fresh id dev)).2.1 (F.start now q (F.fresh id dev)).2.1)
 fresh:∀ id dev,(E.pub (E.fresh id dev)).id=id/\(F.pub (F.fresh id dev)).id=id
 on:∀ a b,ρ a b->∀ now yes q,(yes=true->(E.pub a).num≠0)->((E.on now yes q a).1=(F.on now yes q b).1)/\(E.on now yes q a).2.2=(F.on now yes q b).2.2 /\
  (E.pub (E.on now yes q a).2.1).id=(E.pub a).id/\(F.pub (F.on now yes q b).2.1).id=(F.pub b).id/\((E.on now yes q a).2.2=false->ρ (E.on now yes q a).2.1 (F.on now yes q b).2.1)
structure ay {R S:Type}(ρ:R->S->Prop)(h:az R)(k:az S):Prop where
 now:h.now=k.now
 last:h.last=k.last
 qs:h.qs=k.qs
 rs:fB ρ h.rs k.rs
theorem pz {R S:Type}{E:bM R}{F:bM S}{ρ:R->S->Prop}(hp:∀ a b,ρ a b->E.pub a=F.pub b)(id:Int):∀ {l:List R} {m:List S},fB ρ l m->fB ρ (l.filter fun y=>(E.pub y).id != id) (m.filter fun y=>(F.pub y).id != id)
 | [],[],_=>trivial
 | a::l,b::m,h=>by
  have e:=hp a b h.1;have ih:=pz hp id h.2;simp only[List.filter_cons,e];split
  .exact⟨h.1,ih⟩
  .exact ih
 | [],_::_,h=>h.elim
 | _::_,[],h=>h.elim
theorem sA {R S:Type}{E:bM R}{F:bM S}{ρ:R->S->Prop}(hp:∀ a b,ρ a b->E.pub a=F.pub b){r:R}{s:S}(hr:ρ r s):∀ {l:List R} {m:List S},fB ρ l m->fB ρ (l.map fun y=>if (E.pub y).id=(E.pub r).id then r else y) (m.map fun y=>if (F.pub y).id=(F.pub s).id then s else y)
 | [],[],_=>trivial
 | a::l,b::m,h=>by
  have e:=hp a b h.1;have e2:=hp r s hr;have ih:=sA hp hr h.2;simp only[List.map_cons];refine⟨?_,ih⟩;rw[e,e2];split
  .exact hr
  .exact h.1
 | [],_::_,h=>h.elim
 | _::_,[],h=>h.elim
theorem vw {R S:Type}{E:bM R}{F:bM S}{ρ:R->S->Prop}(hp:∀ a b,ρ a b->E.pub a=F.pub b){l:List R}{m:List S}(h:fB ρ l m){r:R}{s:S}{done:Bool}(hid:(E.pub r).id=(F.pub s).id)(hr:done=false->ρ r s):fB ρ (dP E l r done) (dP F m s done):=by
 unfold dP;cases done with
 | true=>
  simp only[if_true];rw[hid];exact pz hp _ h
 | false=>
  simp only[Bool.false_eq_true,if_false];exact sA hp (hr rfl) h
def qQ {A B:Type}(ρ:A->B->Prop):Option A->Option B->Prop
 | none,none=>True
 | some a,some b=>ρ a b
 | _,_=>False
theorem rV {R S:Type}{E:bM R}{F:bM S}{ρ:R->S->Prop}(hp:∀ a b,ρ a b->E.pub a=F.pub b)(id:Int):∀ {l:List R} {m:List S},fB ρ l m->qQ ρ (fm E l id) (fm F m id)
 | [],[],_=>trivial
 | a::l,b::m,h=>by
  have e:=hp a b h.1;have ih:=rV hp id h.2;unfold fm at ih ⊢;simp only[List.find?_cons,e];split
  .exact h.1
  .exact ih
 | [],_::_,h=>h.elim
 | _::_,[],h=>h.elim
theorem sy {R S:Type}{E:bM R}{F:bM S}{ρ:R->S->Prop}(hp:∀ a b,ρ a b->E.pub a=F.pub b)(en:Int):∀ {l:List R} {m:List S} {o:Option R} {o':Option S},fB ρ l m->qQ ρ o o'->qQ ρ (l.foldl (fA E en) o) (m.foldl (fA F en) o')
 | [],[],_,_,_,h=>h
 | a::l,b::m,o,o',h,ho=>by
  have e:=hp a b h.1;simp only[List.foldl_cons];refine sy hp en h.2 ?_;unfold fA;rw[e];split
  .cases o with
   | none=>
    cases o' with
    | none=>exact h.1
    | some _=>exact ho.elim
   | some x=>
    cases o' with
    | none=>exact ho.elim
    | some y=>
     have e2:=hp x y ho;show qQ ρ (if _ then _ else _) (if _ then _ else _);rw[e2];split
     .exact h.1
     .exact ho
  .exact ho
 | [],_::_,_,_,h,_=>h.elim
 | _::_,[],_,_,h,_=>h.elim
theorem ay.trig {R S:Type}{E:bM R}{F:bM S}{ρ:R->S->Prop}(hE:bq E F ρ){a:az R}{b:az S}(h:ay ρ a b)(dev:Int):
  (cP E a dev).1=(cP F b dev).1/\(cP E a dev).2.1=(cP F b dev).2.1/\ay ρ (cP E a dev).2.2 (cP F b dev).2.2:=by
 unfold cP;rw[lG h.rs,h.last,h.qs,h.now];split
 .exact⟨rfl,rfl,h⟩
 .split
  .exact⟨rfl,rfl,h⟩
  .obtain⟨h1,h2,h3,h4,h5⟩:=hE.start b.now (b.qs dev.toNat) (b.last+1) dev;refine⟨rfl,rfl,⟨rfl,rfl,?_,?_⟩⟩
   .show bU _ _ _=bU _ _ _;rw[h1]
   .show fB ρ (dP E (a.rs++_) _ _) (dP F (b.rs++_) _ _);rw[h2]at h5 ⊢;cases hd:(F.start b.now (b.qs dev.toNat) (F.fresh (b.last+1) dev)).2.2 with
    | true=>
     unfold dP;simp only[if_true];rw[h3,h4,List.filter_append,List.filter_append];refine py (pz hE.pub _ h.rs) ?_;have e1:=(hE.fresh (b.last+1) dev).1;have e2:=(hE.fresh (b.last+1) dev).2;simp[e1,e2,fB]
    | false=>
     rw[hd]at h5;have hr:=h5 rfl;have e1:=(hE.fresh (b.last+1) dev).1;have e2:=(hE.fresh (b.last+1) dev).2;unfold dP;simp only[Bool.false_eq_true,if_false,List.map_append,List.map_cons,List.map_nil];refine py (sA hE.pub hr h.rs) ?_;rw[h3,h4,e1,e2];simp only[if_true];exact⟨hr,trivial⟩
theorem ay.go {R S:Type}{E:bM R}{F:bM S}{ρ:R->S->Prop}(hE:bq E F ρ){a:az R}{b:az S}(h:ay ρ a b){r:R}{s:S}(hr:ρ r s)(yes:Bool)(hy:yes=true->(E.pub r).num≠0):ay ρ (fv E a r yes) (fv F b s yes):=by
 have e:=hE.pub r s hr;obtain⟨h1,h2,h3,h4,h5⟩:=hE.on r s hr b.now yes (b.qs (F.pub s).dev.toNat) hy;unfold fv;rw[h.now,h.qs,e];refine⟨rfl,h.last,?_,?_⟩
 .show bU _ _ _=bU _ _ _;rw[h1]
 .show fB ρ (dP E a.rs _ _) (dP F b.rs _ _);rw[h2]at h5 ⊢;exact vw hE.pub h.rs (by rw[h3,h4,e]) h5
theorem ay.tickN {R S:Type}{E:bM R}{F:bM S}{ρ:R->S->Prop}(hE:bq E F ρ)(en:Int):∀ (f:Nat) {a:az R} {b:az S},ay ρ a b->ay ρ (Herald.gS E en f a) (Herald.gS F en f b):=by
 intro f;induction f with
 | zero=>intro a b h;exact h
 | succ f ih=>
  intro a b h;have hd:=sy hE.pub en h.rs (o:=none) (o':=none) trivial;unfold Herald.gS iM;cases h1:a.rs.foldl (fA E en) none with
  | none=>
   rw[h1]at hd;cases h2:b.rs.foldl (fA F en) none with
   | none=>exact h
   | some y=>rw[h2]at hd;exact hd.elim
  | some x=>
   rw[h1]at hd;cases h2:b.rs.foldl (fA F en) none with
   | none=>rw[h2]at hd;exact hd.elim
   | some y=>
    rw[h2]at hd;have A0:ρ x y:=hd;simp only;rw[hE.pub x y A0];have hh:ay ρ {a with now:=(F.pub y).til} {b with now:=(F.pub y).til}:=⟨rfl,h.last,h.qs,h.rs⟩;exact ih (ay.go hE hh A0 false (fun hh=>by cases hh))
theorem ay.tick {R S:Type}{E:bM R}{F:bM S}{ρ:R->S->Prop}(hE:bq E F ρ){a:az R}{b:az S}(h:ay ρ a b)(n:Int):(dU E a n).1=(dU F b n).1/\ay ρ (dU E a n).2 (dU F b n).2:=by
 unfold dU;rw[h.now];split
 .exact⟨rfl,h⟩
 .have h2:=ay.tickN hE (b.now+n) 5000 h;exact⟨rfl,rfl,h2.last,h2.qs,h2.rs⟩
theorem ay.ack {R S:Type}{E:bM R}{F:bM S}{ρ:R->S->Prop}(hE:bq E F ρ){a:az R}{b:az S}(h:ay ρ a b)(id num:Int):(di E a id num).1=(di F b id num).1/\ay ρ (di E a id num).2 (di F b id num).2:=by
 have hf:=rV hE.pub id h.rs;unfold di;cases h1:fm E a.rs id with
 | none=>
  rw[h1]at hf;cases h2:fm F b.rs id with
  | none=>exact⟨rfl,h⟩
  | some y=>rw[h2]at hf;exact hf.elim
 | some x=>
  rw[h1]at hf;cases h2:fm F b.rs id with
  | none=>rw[h2]at hf;exact hf.elim
  | some y=>
   rw[h2]at hf;have A0:ρ x y:=hf;have e:=hE.pub x y A0;simp only;rw[e,h.qs];split
   .exact⟨rfl,h⟩
   .rename_i hn;split
    .exact⟨rfl,h⟩
    .refine⟨rfl,ay.go hE h A0 true (fun _ h0=>hn ?_)⟩;rw[e]at h0;by_cases hz:num=0
     .exact Or.inl hz
     .right;rw[h0];exact fun hh=>hz hh.symm
theorem ay.cancel {R S:Type}{E:bM R}{F:bM S}{ρ:R->S->Prop}(hE:bq E F ρ){a:az R}{b:az S}(h:ay ρ a b)(id:Int):(dH E a id).1=(dH F b id).1/\ay ρ (dH E a id).2 (dH F b id).2:=by
 have hf:=rV hE.pub id h.rs;unfold dH;cases h1:fm E a.rs id with
 | none=>
  rw[h1]at hf;cases h2:fm F b.rs id with
  | none=>exact⟨rfl,h⟩
  | some y=>rw[h2]at hf;exact hf.elim
 | some x=>
  rw[h1]at hf;cases h2:fm F b.rs id with
  | none=>rw[h2]at hf;exact hf.elim
  | some y=>
   rw[h2]at hf;have e:=hE.pub x y hf;refine⟨rfl,h.now,h.last,?_,pz hE.pub id h.rs⟩;show bU _ _ _=bU _ _ _;rw[e,h.qs]
theorem ay.drain {R S:Type}{ρ:R->S->Prop}{a:az R}{b:az S}(h:ay ρ a b)(dev:Int):(cU a dev).1=(cU b dev).1/\(cU a dev).2.1=(cU b dev).2.1/\ay ρ (cU a dev).2.2 (cU b dev).2.2:=by
 unfold cU;rw[h.qs];split
 .exact⟨rfl,rfl,h⟩
 .split
  .exact⟨rfl,rfl,h⟩
  .exact⟨rfl,rfl,h.now,h.last,rfl,h.rs⟩
theorem ay.new {R S:Type}(ρ:R->S->Prop):ay ρ (dM (R:=R)) (dM (R:=S)):=⟨rfl,rfl,rfl,trivial⟩
structure my {RT:Type}(E:bM RT)(G:RT->Prop)(now:Int)(r:RT)(o:List aj×RT×Bool):Prop where
 len:o.1.length<=4
 id:(E.pub o.2.1).id=(E.pub r).id
 dev:o.2.2=false->(E.pub o.2.1).dev=(E.pub r).dev
 sent0:o.2.2=false->(E.pub r).sent<=(E.pub o.2.1).sent
 sent1:o.2.2=false->(E.pub o.2.1).sent<=(E.pub r).sent+10000
 stop:o.2.2=false->G o.2.1/\now<(E.pub o.2.1).til/\(E.pub o.2.1).til<=now+1000000
structure dl {RT:Type}(E:bM RT)(G:RT->Prop):Prop where
 on:∀ now yes q r,G r->q.length<=4->(yes=true->(E.pub r).num≠0)->my E G now r (E.on now yes q r)
 start:∀ now q id dev,q.length<=4->my E G now (E.fresh id dev) (E.start now q (E.fresh id dev))
 fresh:∀ id dev,E.pub (E.fresh id dev)=⟨id,dev,0,0,0⟩
structure cC {RT:Type}(E:bM RT)(G:RT->Prop)(C:Int)(h:az RT):Prop where
 now0:0<=h.now
 now1:h.now<=1000000000
 last0:0<=h.last
 qlen:∀ d,(h.qs d).length<=4
 len:h.rs.length<=5
 dev:∀ r∈h.rs,0<=(E.pub r).dev/\(E.pub r).dev<=2
 sent:∀ r∈h.rs,0<=(E.pub r).sent/\(E.pub r).sent<=C
 til:∀ r∈h.rs,h.now<=(E.pub r).til/\(E.pub r).til<=2000000000
 id:∀ r∈h.rs,(E.pub r).id<=h.last
 good:∀ r∈h.rs,G r
 nd:h.rs.Pairwise fun a b=>(E.pub a).id≠(E.pub b).id
theorem cC.new {RT:Type}(E:bM RT)(G:RT->Prop):cC E G 0 dM:=
 ⟨Int.le_refl 0,(by show(0:Int)<=1000000000;omega),Int.le_refl 0,fun _=>by simp[dM],by simp[dM],fun r hr=>absurd hr (by simp[dM]),fun r hr=>absurd hr (by simp[dM]),fun r hr=>absurd hr (by simp[dM]),fun r hr=>absurd hr (by simp[dM]),fun r hr=>absurd hr (by simp[dM]),List.Pairwise.nil⟩
theorem cC.mono {RT:Type}{E:bM RT}{G:RT->Prop}{C D:Int}{h:az RT}(H:cC E G C h)(hC:C<=D):cC E G D h:=
 {H with sent:=fun r hr=>⟨(H.sent r hr).1,Int.le_trans (H.sent r hr).2 hC⟩}
theorem qC {f:Nat->List aj}{d:Nat}{v:List aj}(h:∀ k,(f k).length<=4)(hv:v.length<=4)(k:Nat):(bU f d v k).length<=4:=by
 unfold bU;split
 .exact hv
 .exact h k
theorem sf {RT:Type}{E:bM RT}{rs:List RT}{r y:RT}{done:Bool}(h:y∈dP E rs r done):(done=false/\y=r)\/(y∈rs/\(E.pub y).id≠(E.pub r).id):=by
 unfold dP at h;cases done with
 | true=>
  simp only[if_true]at h;obtain⟨h1,h2⟩:=List.mem_filter.mp h;exact .inr ⟨h1,by simpa using h2⟩
 | false=>
  simp only[Bool.false_eq_true,if_false]at h;obtain⟨z,hz,rfl⟩:=List.mem_map.mp h;split
  .exact .inl ⟨rfl,rfl⟩
  .rename_i hne;exact .inr ⟨hz,hne⟩
theorem vX {RT:Type}{E:bM RT}(rs:List RT)(r:RT)(done:Bool):(dP E rs r done).length<=rs.length:=by
 unfold dP;cases done with
 | true=>exact List.length_filter_le _ _
 | false=>simp
theorem wP {RT:Type}{E:bM RT}{rs:List RT}(r:RT)(done:Bool)(h:rs.Pairwise fun a b=>(E.pub a).id≠(E.pub b).id):(dP E rs r done).Pairwise fun a b=>(E.pub a).id≠(E.pub b).id:=by
 unfold dP;cases done with
 | true=>exact h.filter _
 | false=>
  simp only[Bool.false_eq_true,if_false];rw[List.pairwise_map];refine h.imp fun {a b} hab=>?_;have e:∀ u:RT,(E.pub (if (E.pub u).id=(E.pub r).id then r else u)).id=(E.pub u).id:=fun u=>by
   split
   .rename_i hh;exact hh.symm
   .rfl
  rw[e,e];exact hab
theorem cC.go {RT:Type}{E:bM RT}{G:RT->Prop}(hE:dl E G){C:Int}{h:az RT}(H:cC E G C h){r:RT}(hr:r∈h.rs)(yes:Bool)(t:Int)(h0:0<=t)(h1:t<=1000000000)(ht:∀ y∈h.rs,t<=(E.pub y).til)(hn:yes=true->(E.pub r).num≠0):
  cC E G (C+10000) (fv E {h with now:=t} r yes):=by
 have ho:=hE.on t yes (h.qs (E.pub r).dev.toNat) r (H.good r hr) (H.qlen _) hn;have hs:=H.sent r hr;have key:∀ y∈(fv E {h with now:=t} r yes).rs,((E.on t yes (h.qs (E.pub r).dev.toNat) r).2.2=false/\y=(E.on t yes (h.qs (E.pub r).dev.toNat) r).2.1)\/(y∈h.rs/\(E.pub y).id≠(E.pub (E.on t yes (h.qs (E.pub r).dev.toNat) r).2.1).id):=fun y hy=>sf hy;refine⟨h0,h1,H.last0,qC H.qlen ho.len,Qc (vX _ _ _) H.len,fun y hy=>?_,fun y hy=>?_,fun y hy=>?_,fun y hy=>?_,fun y hy=>?_,wP _ _ H.nd⟩
 .rcases key y hy with ⟨hd,rfl⟩|⟨hy,_⟩
  .rw[ho.dev hd];exact H.dev r hr
  .exact H.dev y hy
 .rcases key y hy with ⟨hd,rfl⟩|⟨hy,_⟩
  .have:=ho.sent0 hd;have:=ho.sent1 hd;omega
  .have:=H.sent y hy;omega
 .rcases key y hy with ⟨hd,rfl⟩|⟨hy,_⟩
  .have:=(ho.stop hd).2;show t<=_/\_;omega
  .exact⟨ht y hy,(H.til y hy).2⟩
 .rcases key y hy with ⟨_,rfl⟩|⟨hy,_⟩
  .rw[ho.id];exact H.id r hr
  .exact H.id y hy
 .rcases key y hy with ⟨hd,rfl⟩|⟨hy,_⟩
  .exact(ho.stop hd).1
  .exact H.good y hy
theorem vF {RT:Type}{E:bM RT}(en:Int):∀ (l:List RT) (o:Option RT),(∀ b,o=some b->(E.pub b).til<=en) ->
  match l.foldl (fA E en) o with
  | none=>o=none/\∀ y∈l,en<(E.pub y).til
  | some r=>(o=some r\/r∈l)/\(E.pub r).til<=en/\(∀ b,o=some b->(E.pub r).til<=(E.pub b).til)/\∀ y∈l,(E.pub r).til<=(E.pub y).til:=by
 intro l;induction l with
 | nil=>
  intro o ho;cases o with
  | none=>exact⟨rfl,fun y hy=>absurd hy (by simp)⟩
  | some b=>exact⟨.inl rfl,ho b rfl,fun c hc=>by cases hc;exact Int.le_refl _,fun y hy=>absurd hy (by simp)⟩
 | cons x l ih=>
  intro o ho;simp only[List.foldl_cons];have A0:(∀ b,fA E en o x=some b->(E.pub b).til<=en):=by
   intro b hb;unfold fA at hb;split at hb
   .rename_i hx;cases o with
    | none=>cases hb;exact hx
    | some c=>
     simp only at hb;split at hb
     .cases hb;exact hx
     .cases hb;exact ho _ rfl
   .exact ho b hb
  have h:=ih (fA E en o x) A0;cases hr:l.foldl (fA E en) (fA E en o x) with
  | none=>
   rw[hr]at h;obtain⟨h1,h2⟩:=h;unfold fA at h1;split at h1
   .cases o with
    | none=>cases h1
    | some c=>simp only at h1;split at h1 <;> cases h1
   .rename_i hx;refine⟨h1,fun y hy=>?_⟩;rcases List.mem_cons.mp hy with rfl|hy
    .omega
    .exact h2 y hy
  | some r=>
   rw[hr]at h;obtain⟨h1,h2,h3,h4⟩:=h;have A1:(∀ b,o=some b->(E.pub r).til<=(E.pub b).til)/\(E.pub r).til<=(E.pub x).til:=by
    unfold fA at h3;by_cases hx:(E.pub x).til<=en
    .rw[if_pos hx]at h3;cases o with
     | none=>exact⟨fun b hb=>(by cases hb),h3 x rfl⟩
     | some c=>
      simp only at h3;by_cases hlt:(E.pub x).til<(E.pub c).til
      .rw[if_pos hlt]at h3;have:=h3 x rfl;exact⟨fun b hb=>by cases hb;omega,this⟩
      .rw[if_neg hlt]at h3;have:=h3 c rfl;exact⟨fun b hb=>by cases hb;exact this,by omega⟩
    .rw[if_neg hx]at h3;exact⟨h3,by omega⟩
   refine⟨?_,h2,A1.1,fun y hy=>?_⟩
   .rcases h1 with h1|h1
    .unfold fA at h1;split at h1
     .cases o with
      | none=>cases h1;exact .inr (List.mem_cons_self ..)
      | some c=>
       simp only at h1;split at h1
       .cases h1;exact .inr (List.mem_cons_self ..)
       .cases h1;exact .inl rfl
     .exact .inl h1
    .exact .inr (Qf _ h1)
   .rcases List.mem_cons.mp hy with rfl|hy
    .exact A1.2
    .exact h4 y hy
theorem Dg {RT:Type}{E:bM RT}{en:Int}{l:List RT}(h:iM E en l=none):∀ y∈l,en<(E.pub y).til:=by
 have:=vF (E:=E) en l none (fun b hb=>by cases hb);unfold iM at h;rw[h]at this;exact this.2
theorem nD {RT:Type}{E:bM RT}{en:Int}{l:List RT}{r:RT}(h:iM E en l=some r):r∈l/\(E.pub r).til<=en/\∀ y∈l,(E.pub r).til<=(E.pub y).til:=by
 have:=vF (E:=E) en l none (fun b hb=>by cases hb);unfold iM at h;rw[h]at this;obtain⟨h1,h2,_,h4⟩:=this;refine⟨?_,h2,h4⟩;rcases h1 with h1|h1
 .cases h1
 .exact h1
def fe {RT:Type}(E:bM RT)(en:Int)(l:List RT):Nat:=(l.map fun r=>(en+1 - (E.pub r).til).toNat).sum
theorem Cg {RT:Type}{E:bM RT}{en:Int}(p:RT->Bool):∀ (l:List RT),fe E en (l.filter p)<=fe E en l:=by
 intro l;induction l with
 | nil=>simp[fe]
 | cons x l ih=>
  simp only[fe,List.filter_cons,List.map_cons,List.sum_cons]at ih ⊢;split
  .simp only[List.map_cons,List.sum_cons];omega
  .omega
theorem sg {RT:Type}{E:bM RT}{en:Int}{r r':RT}{done:Bool}(hid:(E.pub r').id=(E.pub r).id)(hen:(E.pub r).til<=en)(ht:done=false->(E.pub r).til<(E.pub r').til):
  ∀ (l:List RT),r∈l->l.Pairwise (fun a b=>(E.pub a).id≠(E.pub b).id)->fe E en (dP E l r' done)<fe E en l:=by
 intro l;induction l with
 | nil=>intro h;cases h
 | cons x l ih=>
  intro hr hnd;rw[List.pairwise_cons]at hnd;rcases List.mem_cons.mp hr with rfl|hr
  .cases done with
   | true=>
    have e:dP E (r::l) r' true=l.filter (fun y=>(E.pub y).id != (E.pub r').id):=by unfold dP;simp[hid]
    rw[e];have:=Cg (E:=E) (en:=en) (fun y=>(E.pub y).id != (E.pub r').id) l;simp only[fe,List.map_cons,List.sum_cons]at this ⊢;omega
   | false=>
    have e:dP E (r::l) r' false=r'::l:=by
     unfold dP;simp only[Bool.false_eq_true,if_false,List.map_cons,hid,if_true];congr 1;conv=>rhs;rw[<- List.map_id l]
     refine List.map_congr_left fun y hy=>?_;rw[if_neg (fun hh=>hnd.1 y hy hh.symm)];rfl
    rw[e];have:=ht rfl;simp only[fe,List.map_cons,List.sum_cons];omega
  .have hx:(E.pub x).id≠(E.pub r').id:=by rw[hid];exact hnd.1 r hr
   have h2:=ih hr hnd.2;have e:dP E (x::l) r' done=x::dP E l r' done:=by
    unfold dP;cases done with
    | true=>simp[hx]
    | false=>simp[hx]
   rw[e];simp only[fe,List.map_cons,List.sum_cons]at h2 ⊢;omega
theorem sh {RT:Type}{E:bM RT}{en t:Int}(n:Nat)(hn:en+1 - t<=n):∀ (l:List RT),(∀ r∈l,t<=(E.pub r).til)->fe E en l<=l.length*n:=by
 intro l;induction l with
 | nil=>intro _;simp[fe]
 | cons x l ih=>
  intro h;have h1:=ih fun r hr=>h r (Qf _ hr);have h2:=h x (List.mem_cons_self ..);simp only[fe,List.map_cons,List.sum_cons,List.length_cons,Nat.succ_mul]at h1 ⊢;omega
theorem dl.same {RT ST:Type}{E:bM RT}{F:bM ST}{ρ:RT->ST->Prop}{G:RT->Prop}(h:dl E G)(hs:bq E F ρ)(hf:∀ id dev,F.pub (F.fresh id dev)=⟨id,dev,0,0,0⟩):dl F (fun s=>∃ r,ρ r s/\G r):=by
 refine⟨fun now yes q s hg hq hn=>?_,fun now q id dev hq=>?_,hf⟩
 .obtain⟨r,hr,hg⟩:=hg;have hp:=hs.pub r s hr;have A0:yes=true->(E.pub r).num≠0:=fun hy=>by rw[hp];exact hn hy
  have ho:=h.on now yes q r hg hq A0;obtain⟨e1,e2,_,e4,e5⟩:=hs.on r s hr now yes q A0;refine⟨by rw[<- e1];exact ho.len,e4,fun hd=>?_,fun hd=>?_,fun hd=>?_,fun hd=>?_⟩
  .rw[<- hs.pub _ _ (e5 (e2.trans hd)),<- hp];exact ho.dev (e2.trans hd)
  .rw[<- hs.pub _ _ (e5 (e2.trans hd)),<- hp];exact ho.sent0 (e2.trans hd)
  .rw[<- hs.pub _ _ (e5 (e2.trans hd)),<- hp];exact ho.sent1 (e2.trans hd)
  .rw[<- hs.pub _ _ (e5 (e2.trans hd))];exact⟨⟨_,e5 (e2.trans hd),(ho.stop (e2.trans hd)).1⟩,(ho.stop (e2.trans hd)).2⟩
 .have ho:=h.start now q id dev hq;obtain⟨e1,e2,_,e4,e5⟩:=hs.start now q id dev;have hp:F.pub (F.fresh id dev)=E.pub (E.fresh id dev):=by rw[hf,h.fresh]
  refine⟨by rw[<- e1];exact ho.len,by rw[e4,hf],fun hd=>?_,fun hd=>?_,fun hd=>?_,fun hd=>?_⟩
  .rw[<- hs.pub _ _ (e5 (e2.trans hd)),hp];exact ho.dev (e2.trans hd)
  .rw[<- hs.pub _ _ (e5 (e2.trans hd)),hp];exact ho.sent0 (e2.trans hd)
  .rw[<- hs.pub _ _ (e5 (e2.trans hd)),hp];exact ho.sent1 (e2.trans hd)
  .rw[<- hs.pub _ _ (e5 (e2.trans hd))];exact⟨⟨_,e5 (e2.trans hd),(ho.stop (e2.trans hd)).1⟩,(ho.stop (e2.trans hd)).2⟩
end Go.Proofs.Herald
