import Derived.WalkKit
import Derived.Deep.AppendLies
import Derived.Deep.RegionLaw
import Derived.Laws.CopyOwn
import Derived.ArgAppend
namespace Go.Proofs.Herald
open Go.RowKit
abbrev q8:=@Below.heap_setCell
abbrev q9:=@Below.heap_alloc
abbrev v7:=@Below.refl
abbrev v8:=@heap_alloc_new
abbrev v9:=@Nat.le_refl
abbrev Qa:=@Nat.zero_le
abbrev Qb:=@List.getElem_mem
abbrev Qc:=@Nat.le_trans
abbrev Qd:=@List.take_succ_eq_append_getElem
abbrev Qe:=@List.take_of_length_le
abbrev Qf:=@List.mem_cons_of_mem
abbrev Qg:=@World.ownsRow_nil
abbrev Qh:=@Nat.lt_of_lt_of_le
theorem ah {p:Prop}(h:p):Hid p:=h
theorem ag {w:World}{b o:Nat}{cur:Array Value}{e:TypeId}{fz:Nat×Nat}(h:w.heap[b]?=some (.cells cur e fz)):w.cell? ⟨b,o,none⟩=cur[o]?:=by
 unfold World.cell?;rw[h];rfl
theorem aC {w:World}{b o:Nat}{cur:Array Value}{e:TypeId}(h:w.heap[b]?=some (.cells cur e (0,0))):w.frozen? ⟨b,o,none⟩=false:=by
 unfold World.frozen?;rw[h];simp
theorem CY (w:World)(cs:List Value)(e:TypeId)(j:Nat)(u:Value)(h:cs[j]?=some u):
  (w.alloc (.cells cs.toArray e)).cell? ((⟨w.heap.size,0,none⟩:Addr).add j)=some u:=by
 have hh:=heap_alloc_new w (.cells cs.toArray e);rw[Addr.add_lit,ag hh];simpa using h
theorem jX {P:Program}{ops:Array Oper}{rest:List Oper}{o:Oper}{a:Act}{Q:Exit->Act->World->Prop}(w W0:World)
  (hgd:o.guard=none) (s x:Operand) (t:TypeId)
  (ho:o.op=.call {callee:=.builtin .append,args:=#[s,x],argTypes:=#[t,t]})
  (e:TypeId) (z:Value) (size bytes:Nat) (ht:P.underlying t=some (.slice e))
  (hinfo:(P.info? e).map (fun i=>(i.zero,i.size,i.bytes))=some (some z,size,bytes))
  (hzs:z.cells.size=size) (hsz:0<size) (hby:bytes<=1000)
  (B:Nat) (v:Value) (n:Nat) (xs:List Value) (hs:a.eval s=v) (hown:w.ownsRow B e size v n xs)
  (cs:List Value) (hx:a.eval x=.slice (some ⟨w.heap.size,0,none⟩) 1 1) (hl:cs.length=size) (h1:∀ u∈cs,u.oneCell'=true)
  (hn:n<=1000000) (hbel:Below B W0 w) (hB:B<=w.heap.size)
  (h:∀ v' w',w'.ownsRow B e size v' (n+1) (xs++cs)->Below B W0 w'->w.heap.size<w'.heap.size->w.grownBy w' v.ownBlock->wpList P ops Q rest (a.put o.dst v') w'):
  wpList P ops Q (o::rest) a (w.alloc (.cells cs.toArray e)):=by
 obtain⟨i0,hi,A1,A2,A3⟩:=info_parts hinfo;refine wpList_append_own _ hgd s x t ho B e i0 z size bytes ht hi A1 A2 A3 hzs hsz v n xs hs (hown.alloc _) ⟨w.heap.size,0,none⟩ 1 1 cs hx (by omega) (fun j u hj=>CY w cs e j u hj) h1 ?_ ?_ ?_ ?_
 .unfold maxLen;omega
 .have:(n+1)*bytes<=1000001*1000:=Nat.mul_le_mul (by omega) hby;omega
 .simp;omega
 .intro v' w' h2 h3 _;have A0:(w.alloc (.cells cs.toArray e)).heap.size=w.heap.size+1:=by simp
  refine h v' w' h2 ((hbel.alloc hB _).grown h3 (by omega) fun k hk=>(hown.lt k hk).1) (by have:=h3.size;omega) ?_;refine⟨h3.os,h3.tape,h3.output,by have:=h3.size;omega,fun k hk hr=>?_⟩;rw[h3.block k (by omega) hr];exact Below.heap_alloc _ _ _ hk
open Go.RowKit
structure Fr (S:Nat->Prop)(w w':World):Prop where
 os:w'.os=w.os
 tape:w'.tape=w.tape
 output:w'.output=w.output
 size:w.heap.size<=w'.heap.size
 block:∀ k,k<w.heap.size->¬ S k->w'.heap[k]?=w.heap[k]?
theorem Fr.refl (S:Nat->Prop)(w:World):Fr S w w:=⟨rfl,rfl,rfl,Nat.le_refl _,fun _ _ _=>rfl⟩
theorem Fr.trans {S:Nat->Prop}{a b c:World}(h:Fr S a b)(k:Fr S b c):Fr S a c:=
 ⟨k.os.trans h.os,k.tape.trans h.tape,k.output.trans h.output,Nat.le_trans h.size k.size,fun i hi hs=>(k.block i (Nat.lt_of_lt_of_le hi h.size) hs).trans (h.block i hi hs)⟩
theorem Fr.mono {S T:Nat->Prop}{a b:World}(h:Fr S a b)(hst:∀ k,k<a.heap.size->S k->T k):Fr T a b:=
 ⟨h.os,h.tape,h.output,h.size,fun i hi hs=>h.block i hi (fun hk=>hs (hst i hi hk))⟩
theorem Fr.drew {S:Nat->Prop}{a b:World}(h:Fr S a b):Fr S a b.drew:=⟨h.os,h.tape,h.output,h.size,h.block⟩
theorem Fr.alloc {S:Nat->Prop}{a b:World}(h:Fr S a b)(o:Obj):Fr S a (b.alloc o):=
 h.trans ⟨rfl,rfl,rfl,by simp,fun k hk _=>Below.heap_alloc _ _ _ hk⟩
theorem Fr.setCell {S:Nat->Prop}{a b:World}(h:Fr S a b)(p:Addr)(hp:S p.block\/a.heap.size<=p.block)(u:Value):Fr S a (b.setCell p u):=by
 refine⟨h.os,h.tape,h.output,by simpa[World.setCell] using h.size,fun k hk hs=>?_⟩;rw[Below.heap_setCell _ _ _ _ (fun e=>by rcases hp with hp|hp;exact hs (e ▸ hp);omega)];exact h.block k hk hs
theorem Fr.grown {S:Nat->Prop}{a b c:World}{row:Option Nat}(h:Fr S a b)(hg:b.grownBy c row)(hr:∀ k,row=some k->S k\/a.heap.size<=k):Fr S a c:=
 ⟨hg.os.trans h.os,hg.tape.trans h.tape,hg.output.trans h.output,Nat.le_trans h.size hg.size,fun i hi hs=>
  (hg.block i (Nat.lt_of_lt_of_le hi h.size) (fun e=>by rcases hr i e.symm with h'|h';exact hs h';omega)).trans (h.block i hi hs)⟩
theorem Fr.below {B:Nat}{a b:World}(h:Fr (fun k=>B<=k) a b)(hB:B<=a.heap.size):Below B a b:=
 ⟨h.os,h.tape,h.output,h.size,fun k hk=>h.block k (by omega) (by omega)⟩
theorem Fr.of_below {B:Nat}{a b:World}(h:Below B a b):Fr (fun k=>B<=k) a b:=
 ⟨h.os,h.tape,h.output,h.size,fun k _ hs=>h.block k (by omega)⟩
theorem Fr.cell {S:Nat->Prop}{a b:World}(h:Fr S a b){p:Addr}(hlt:p.block<a.heap.size)(hs:¬ S p.block):b.cell? p=a.cell? p:=
 World.cell?_of_block (h.block p.block hlt hs)
theorem ak {w:World}{k:Nat}{o:Obj}(h:w.heap[k]?=some o):k<w.heap.size:=by
 rcases Nat.lt_or_ge k w.heap.size with hlt|hge
 .exact hlt
 .rw[Array.getElem?_eq_none hge]at h;cases h
theorem jj (w:World)(o:Obj)(X:Nat)(hX:w.heap.size=X):(w.alloc o).heap[X]?=some o:=by
 subst hX;exact heap_alloc_new w o
theorem ef (w:World)(a:Addr)(v:Value):(w.setCell a v).heap.size=w.heap.size:=by simp[World.setCell]
theorem ey (w:World)(o1 o2:Obj):((w.alloc o1).alloc o2).heap[w.heap.size+1]?=some o2:=by
 have:=heap_alloc_new (w.alloc o1) o2;rwa [show(w.alloc o1).heap.size=w.heap.size+1 from by simp]at this
theorem mi {w:World}{e:TypeId}{v:Value}{n:Nat}{xs:List Value}{g cap:Nat}(h:w.ownsRow 0 e 1 v n xs)(hv:v=.slice (some ⟨g,0,none⟩) n cap){j:Nat}{u:Value}(hj:xs[j]?=some u):w.cell? ⟨g,j,none⟩=some u:=by
 have:=h.cells (g:=g) (by rw[hv];rfl) j u hj;rwa [Addr.add_lit,Nat.zero_add]at this
theorem jN {w:World}{e:TypeId}{size n m:Nat}{xs:List Value}{a:Option Addr}{cap:Nat}(h:w.ownsRow 0 e size (.slice a n cap) m xs):n<=cap/\n=m/\cap<=maxLen:=by
 rcases h.2 with ⟨h1,h2⟩|⟨g,c,cur,h1,_,_,h2,h3,_⟩
 .simp at h1;omega
 .simp at h1;omega
theorem aT {w w':World}{e:TypeId}{size:Nat}{v:Value}{n:Nat}{xs:List Value}(h:w.ownsRow 0 e size v n xs)(hk:∀ k,v.ownBlock=some k->w'.heap[k]?=w.heap[k]?):w'.ownsRow 0 e size v n xs:=by
 refine⟨h.1,?_⟩;rcases h.2 with h2|⟨g,cap,cur,rfl,hb,hg,r⟩
 .exact .inl h2
 .exact .inr ⟨g,cap,cur,rfl,hb,by rw[hk g rfl];exact hg,r⟩
theorem ax {w:World}{e:TypeId}{size:Nat}{v:Value}{n:Nat}{xs:List Value}(h:w.ownsRow 0 e size v n xs){k:Nat}(hk:v.ownBlock=some k):∃ cur,w.heap[k]?=some (.cells cur e (0,0)):=by
 rcases h.2 with ⟨rfl,_⟩|⟨g,cap,cur,rfl,hb,hg,r⟩
 .simp[Value.ownBlock]at hk
 .simp[Value.ownBlock]at hk;subst hk;exact⟨cur,hg⟩
theorem aA {w:World}{j k:Nat}{a b:Array Value}{d e:TypeId}{x y:Nat×Nat}(hj:w.heap[j]?=some (.cells a d x))(hk:w.heap[k]?=some (.cells b e y))(h:d≠e):j≠k:=by
 intro hjk;subst hjk;rw[hj]at hk;simp at hk;exact h hk.2.1
theorem cG {w:World}{F j:Nat}{cs:Array Value}{e:TypeId}{fz:Nat×Nat}(v:Value)(h:w.heap[F]?=some (.cells cs e fz)):
  (w.setCell ⟨F,j,none⟩ v).heap[F]?=some (.cells (cs.setIfInBounds j v) e fz):=by
 simp only[World.setCell,Array.getElem?_modify,if_true,h,Option.map_some];rfl
structure ae (w W:World):Prop where
 os:W.os=w.os
 tape:W.tape=w.tape
 output:W.output=w.output
 size:W.heap.size=w.heap.size+1
 block:∀ k,k<w.heap.size->W.heap[k]?=w.heap[k]?
theorem ae.alloc (w:World)(o:Obj):ae w (w.alloc o):=⟨rfl,rfl,rfl,by simp,fun _ hk=>Below.heap_alloc _ _ _ hk⟩
theorem ae.drew {w W:World}(h:ae w W):ae w W.drew:=⟨h.os,h.tape,h.output,h.size,h.block⟩
theorem cM {w W w1:World}{row:Option Nat}{x:Obj}{k:Nat}(h0:ae w W)(hg:W.grownBy w1 row)(hk:w.heap[k]?=some x)(hne:row≠some k):w1.heap[k]?=some x:=by
 have A0:=ak hk;rw[hg.block k (by have:=h0.size;omega) (fun e=>hne e.symm),h0.block k A0];exact hk
theorem iU {w W w1:World}{row:Option Nat}{k:Nat}(h0:ae w W)(hg:W.grownBy w1 row)(hlt:k<w.heap.size)(hne:row≠some k):w1.heap[k]?=w.heap[k]?:=by
 rw[hg.block k (by have:=h0.size;omega) (fun e=>hne e.symm),h0.block k hlt]
theorem nw {w W w1:World}{row:Option Nat}(h0:ae w W)(hg:W.grownBy w1 row):w.heap.size+1<=w1.heap.size:=by
 have:=hg.size;have:=h0.size;omega
theorem Fr.of_push {S:Nat->Prop}{w W w1:World}{row:Option Nat}(h0:ae w W)(hg:W.grownBy w1 row)(hr:∀ k,row=some k->S k):Fr S w w1:=
 ⟨hg.os.trans h0.os,hg.tape.trans h0.tape,hg.output.trans h0.output,by have:=nw h0 hg;omega,fun k hk hs=>iU h0 hg hk (fun e=>hs (hr k e))⟩
theorem jZ {P:Program}{ops:Array Oper}{rest:List Oper}{o:Oper}{a:Act}{Q:Exit->Act->World->Prop}(w:World)
  (hgd:o.guard=none) (s x:Operand) (t:TypeId)
  (ho:o.op=.call {callee:=.builtin .append,args:=#[s,x],argTypes:=#[t,t]})
  (e:TypeId) (z:Value) (size bytes:Nat) (ht:P.underlying t=some (.slice e))
  (hinfo:(P.info? e).map (fun i=>(i.zero,i.size,i.bytes))=some (some z,size,bytes))
  (hzs:z.cells.size=size) (hsz:0<size) (hby:bytes<=1000)
  (v:Value) (n:Nat) (xs:List Value) (X:Nat) (cs:List Value)
  (hs:a.eval s=v) (hown:w.ownsRow 0 e size v n xs) (hX:w.heap[X]?=some (.cells cs.toArray e (0,0)))
  (hx:a.eval x=.slice (some ⟨X,0,none⟩) 1 1) (hl:cs.length=size) (h1:∀ u∈cs,u.oneCell'=true) (hn:n<=1000000)
  (h:∀ g cap w',w'.ownsRow 0 e size (.slice (some ⟨g,0,none⟩) (n+1) cap) (n+1) (xs++cs)->w.grownBy w' v.ownBlock->(v.ownBlock=some g\/g=w.heap.size)->g<w'.heap.size->wpList P ops Q rest (a.put o.dst (.slice (some ⟨g,0,none⟩) (n+1) cap)) w'):
  wpList P ops Q (o::rest) a w:=by
 obtain⟨i0,hi,A0,A1,A2⟩:=info_parts hinfo;refine wpList_append_lies w hgd s x t ho 0 e i0 z size bytes ht hi A0 A1 A2 hzs hsz v n xs hs hown ⟨X,0,none⟩ 1 1 cs hx (by omega) (fun j u hj=>World.news_of_block hX j u (by simpa using hj)) h1 (by omega) ?_ ?_ (by omega) _ rfl h
 .unfold maxLen;omega
 .have:(n+1)*bytes<=1000001*1000:=Nat.mul_le_mul (by omega) hby;omega
theorem oG {P:Program}{ops:Array Oper}{o:Oper}{a:Act}{K:Act->World->Prop}{Q:Exit->Act->World->Prop}{E:Prop}(w:World)
  (hgd:o.guard=none) (s x:Operand) (t:TypeId)
  (ho:o.op=.call {callee:=.builtin .append,args:=#[s,x],argTypes:=#[t,t]})
  (e:TypeId) (z:Value) (size bytes:Nat) (ht:P.underlying t=some (.slice e))
  (hinfo:(P.info? e).map (fun i=>(i.zero,i.size,i.bytes))=some (some z,size,bytes))
  (hzs:z.cells.size=size) (hsz:0<size) (hby:bytes<=1000)
  (v:Value) (n:Nat) (xs:List Value) (X:Nat) (cs:List Value)
  (hs:a.eval s=v) (hown:w.ownsRow 0 e size v n xs) (hX:w.heap[X]?=some (.cells cs.toArray e (0,0)))
  (hx:a.eval x=.slice (some ⟨X,0,none⟩) 1 1) (hl:cs.length=size) (h1:∀ u∈cs,u.oneCell'=true) (hn:n<=1000000)
  (h:∀ g cap w',w'.ownsRow 0 e size (.slice (some ⟨g,0,none⟩) (n+1) cap) (n+1) (xs++cs)->w.grownBy w' v.ownBlock->(v.ownBlock=some g\/g=w.heap.size)->g<w'.heap.size->K (a.put o.dst (.slice (some ⟨g,0,none⟩) (n+1) cap)) w'):
  if Region.wanted o (yielded ops a.tmps)=true then Oper.wp P o a w K Q else E:=by
 obtain⟨i0,hi,A0,A1,A2⟩:=info_parts hinfo;have hw:Region.wanted o (yielded ops a.tmps)=true:=by simp[Region.wanted,hgd]
 rw[if_pos hw];refine wp_append_lies w s x t ho 0 e i0 z size bytes ht hi A0 A1 A2 hzs hsz v n xs hs hown ⟨X,0,none⟩ 1 1 cs hx (by omega) (fun j u hj=>World.news_of_block hX j u (by simpa using hj)) h1 (by omega) ?_ ?_ (by omega) _ rfl h
 .unfold maxLen;omega
 .have:(n+1)*bytes<=1000001*1000:=Nat.mul_le_mul (by omega) hby;omega
open Go.RowKit
theorem yU {P:Program}(w:World)(dT sT ty elem:TypeId)(g dLen dCap:Nat)(a:Addr)(sLen sCap:Nat)(cur:Array Value)(t:TypeId)(cs:List Value)(size:Nat)
  (hu:P.underlying dT=some (.slice elem)) (hs:(P.info? elem).map (·.size)=some size)
  (hg:w.heap[g]?=some (.cells cur t (0,0))) (hn:cs.length=Nat.min sLen dLen*size)
  (hsrc:∀ j v,cs[j]?=some v->w.cell? (a.add j)=some v) (hfit:cs.length<=cur.size) (h1:∀ v∈cs,v.oneCell'=true):
  (Builtin.copy_ #[dT,sT] ty #[.slice (some ⟨g,0,none⟩) dLen dCap,.slice (some a) sLen sCap]).run P w =
   .ok (goInt (Nat.min sLen dLen)) (w.setRow g (cs++cur.toList.drop cs.length).toArray):=by
 have hl:=run_loadCells_list (P:=P) w a cs hsrc;have A0:=run_storeCells_at P g 0 t cs 0 cur w hg (by simpa using hfit) h1;cases hq:P.info? elem with
 | none=>simp[hq]at hs
 | some i=>
  have hi:i.size=size:=by simpa[hq] using hs
  simp[Builtin.copy_,run_underlying hu,Builtin.lenOf,Builtin.firstCells,sizeOf,typeInfo,hq,hi,<- hn,hl,A0]
theorem tJ {P:Program}{w:World}{ops:Array Oper}{rest:List Oper}{o:Oper}{a:Act}{Q:Exit->Act->World->Prop}(hgd:o.guard=none)(d s:Operand)(dT sT:TypeId)
  (ho:o.op=.call {callee:=.builtin .copy,args:=#[d,s],argTypes:=#[dT,sT]}) (elem:TypeId) (hu:P.underlying dT=some (.slice elem)) (size:Nat) (hsz:(P.info? elem).map (·.size)=some size)
  (g dLen dCap:Nat) (hd:a.eval d=.slice (some ⟨g,0,none⟩) dLen dCap) (sp:Option Addr) (sLen sCap:Nat) (hs:a.eval s=.slice sp sLen sCap)
  (cur:List Value) (t:TypeId) (hg:w.heap[g]?=some (.cells cur.toArray t (0,0))) (cs:List Value) (hle:sLen<=dLen) (hn:cs.length=sLen*size)
  (hpos:0<sLen->∃ ad,sp=some ad/\∀ j v,cs[j]?=some v->w.cell? (ad.add j)=some v)
  (hfit:cs.length<=cur.length) (h1:∀ v∈cs,v.oneCell'=true)
  (h:∀ w',w'.heap[g]?=some (.cells (cs++cur.drop cs.length).toArray t (0,0))->w.grownBy w' (some g)->wpList P ops Q rest (a.put o.dst (goInt sLen)) w'):wpList P ops Q (o::rest) a w:=by
 refine wpList_plain hgd fun K hK=>?_;have A1:Nat.min sLen dLen=sLen:=Nat.min_eq_left hle;by_cases h0:sLen=0
 .subst h0;obtain rfl:cs=[]:=List.eq_nil_of_length_eq_zero (by simpa using hn);have hw:=h w (by simpa using hg) ⟨rfl,rfl,rfl,Nat.le_refl _,fun _ _ _=>rfl⟩;cases hq:P.info? elem with
  | none=>simp[hq]at hsz
  | some i=>
   have A0:(Builtin.copy_ #[dT,sT] o.type #[.slice (some ⟨g,0,none⟩) dLen dCap,.slice sp 0 sCap]).run P w=.ok (goInt 0) w:=by
    cases sp with
    | none=>simp[Builtin.copy_,run_underlying hu,Builtin.lenOf,Builtin.firstCells,sizeOf,typeInfo,hq,storeCells]
    | some ad=>
     have hl:=run_loadCells_list (P:=P) w ad [] (by simp);simp at hl;simp[Builtin.copy_,run_underlying hu,Builtin.lenOf,Builtin.firstCells,sizeOf,typeInfo,hq,storeCells,hl]
   unfold Oper.wp;simp[execOp,ho,resolve,invoke,builtin,hd,hs,A0,Result.andThen];exact hK _ _ hw
 .obtain⟨ad,rfl,A2⟩:=hpos (by omega);have A0:=yU (P:=P) w dT sT o.type elem g dLen dCap ad sLen sCap cur.toArray t cs size hu hsz hg (by rw[A1];exact hn) A2 (by simpa using hfit) h1;rw[A1]at A0;have hw:=h _ (setRow_heap w g _ _ t _ hg) ⟨rfl,rfl,rfl,by simp[World.setRow],fun k _ hne=>setRow_other w g k _ (by intro e;exact hne (by rw[e]))⟩;unfold Oper.wp;simp[execOp,ho,resolve,invoke,builtin,hd,hs,A0,Result.andThen];exact hK _ _ hw
open Go.RowKit
def cO (mk:List Value):Nat->List Value
 | 0=>[]
 | n+1=>mk++cO mk n
theorem pG (mk:List Value)(n:Nat):(cO mk n).length=n*mk.length:=by
 induction n with
 | zero=>simp[cO]
 | succ n ih=>rw[cO,List.length_append,ih,Nat.add_mul];omega
theorem oI (mk:List Value)(a b:Nat):cO mk (a+b)=cO mk a++cO mk b:=by
 induction a with
 | zero=>simp[cO]
 | succ a ih=>rw[show a+1+b=(a+b)+1 from by omega,cO,cO,ih,List.append_assoc]
theorem vp (mk:List Value){n N:Nat}(h:n<=N):(cO mk N).take (n*mk.length)=cO mk n:=by
 rw[show N=n+(N - n) from by omega,oI,<- pG mk n];exact List.take_left
theorem vQ (mk:List Value):∀ (n i j:Nat),i<n->j<mk.length->(cO mk n)[i*mk.length+j]?=mk[j]?:=by
 intro n;induction n with
 | zero=>intro i j h;omega
 | succ n ih=>
  intro i j hi hj;rw[cO];cases i with
  | zero=>rw[Nat.zero_mul,Nat.zero_add,List.getElem?_append_left hj]
  | succ i=>
   rw[List.getElem?_append_right (by rw[Nat.add_mul];omega)];have e:(i+1)*mk.length+j - mk.length=i*mk.length+j:=by rw[Nat.add_mul];omega
   rw[e];exact ih i j (by omega) hj
theorem vu {w:World}{B:Nat}{e:TypeId}{size g N cap n:Nat}{xs:List Value}(h:w.ownsRow B e size (.slice (some ⟨g,0,none⟩) N cap) N xs)(hn:n<=N):w.ownsRow B e size (.slice (some ⟨g,0,none⟩) n cap) n (xs.take (n*size)):=by
 have A0:n*size<=N*size:=Nat.mul_le_mul_right _ hn;refine⟨by rw[List.length_take,h.1];omega,?_⟩;rcases h.2 with ⟨h1,_⟩|⟨g',cap',cur,hv,hb,hg,hc,hm,hs,ht⟩
 .cases h1
 .simp at hv;obtain⟨rfl,rfl⟩:=hv;refine .inr ⟨g,cap,cur,rfl,hb,hg,by omega,hm,hs,?_⟩;rw[<- ht,List.take_take,Nat.min_eq_left A0]
def jL (w w':World)(v:Value)(n m:Nat)(v':Value):Prop:=
 (∃ g cap,v=.slice (some ⟨g,0,none⟩) n cap/\v'=.slice (some ⟨g,0,none⟩) (n+m) cap/\w.grownBy w' (some g))\/((∀ k,v'.ownBlock=some k->w.heap.size<=k)/\w.grownBy w' none)
theorem tG {P:Program}(w:World)(t ty:TypeId)(e:TypeId)(i:TypeInfo)(z:Value)(size bytes:Nat)(ht:P.underlying t=some (.slice e))(hi:P.info? e=some i)(hz:i.zero=some z)
  (hsize:i.size=size) (hby:i.bytes=bytes) (hzs:z.cells.size=size) (hsz:0<size)
  (v:Value) (n:Nat) (xs:List Value) (hown:w.ownsRow 0 e size v n xs)
  (ad:Addr) (m c:Nat) (news:List Value) (hl:news.length=m*size) (hnews:∀ j u,news[j]?=some u->w.cell? (ad.add j)=some u) (h1:∀ u∈news,u.oneCell'=true)
  (hm:0<m) (h63:n+m<=maxLen) (hbytes:(n+m)*bytes<=140737488355328):
  ∃ v' w',(Builtin.append_ #[t,t] ty #[v,.slice (some ad) m c]).run P w=.ok v' w'/\w'.ownsRow 0 e size v' (n+m) (xs++news)/\jL w w' v n m v':=by
 rcases hown.2 with ⟨rfl,h0⟩|⟨g,A0,cur,rfl,hb,hg,hc,hmx,hs,htk⟩
 .obtain⟨g,A0,w',hr,h2,h3,h4,_⟩:=run_append_lies (P:=P) w t ty 0 e i z size bytes ht hi hz hsize hby hzs hsz _ n xs hown ad m c news hl hnews h1 hm h63 hbytes (Nat.zero_le _) _ rfl;refine⟨_,w',hr,h2,.inr ⟨fun k hk=>?_,h3⟩⟩;rcases h4 with h4|h4
  .simp[Value.ownBlock]at h4
  .simp[Value.ownBlock]at hk;omega
 .by_cases hroom:n+m<=A0
  .obtain⟨w',hr,h2,h3⟩:=run_append_fits (P:=P) w 0 t ty e i size ht hi hsize g n A0 xs hown ad m c news hl hnews h1 hroom;exact⟨_,w',hr,h2,.inl ⟨g,A0,rfl,rfl,h3⟩⟩
  .obtain⟨v',w',hr,h2,h3⟩:=run_append_arg_grows (P:=P) w t ty e i z size bytes ht hi hz hsize hby hzs hsz ⟨g,0,none⟩ n A0 xs hown.1 (fun j u hj=>hown.cells (g:=g) rfl j u hj) ad m c news hl hnews (by omega) h63 hbytes;refine⟨v',w',hr,⟨h2.1,?_⟩,.inr ⟨fun k hk=>?_,h3⟩⟩
   .rcases h2.2 with h|⟨g',cap',cur',hv,hb',r⟩
    .exact .inl h
    .exact .inr ⟨g',cap',cur',hv,Nat.zero_le _,r⟩
   .rcases h2.2 with ⟨rfl,_⟩|⟨g',cap',cur',rfl,hb',r⟩
    .simp[Value.ownBlock]at hk
    .simp[Value.ownBlock]at hk;omega
theorem gN {P:Program}{ops:Array Oper}{rest:List Oper}{o:Oper}{a:Act}{Q:Exit->Act->World->Prop}(w:World)(hgd:o.guard=none)(s x:Operand)(t:TypeId)
  (ho:o.op=.call {callee:=.builtin .append,args:=#[s,x],argTypes:=#[t,t]})
  (e:TypeId) (z:Value) (size bytes:Nat) (ht:P.underlying t=some (.slice e)) (hinfo:(P.info? e).map (fun i=>(i.zero,i.size,i.bytes))=some (some z,size,bytes))
  (hzs:z.cells.size=size) (hsz:0<size) (hby:bytes<=1000)
  (v:Value) (n m:Nat) (xs:List Value) (X:Nat) (cs:List Value)
  (hs:a.eval s=v) (hown:w.ownsRow 0 e size v n xs) (hX:w.heap[X]?=some (.cells cs.toArray e (0,0)))
  (hx:a.eval x=.slice (some ⟨X,0,none⟩) m m) (hl:cs.length=m*size) (h1:∀ u∈cs,u.oneCell'=true) (hm:0<m) (hn:n+m<=100000000)
  (h:∀ v' w',w'.ownsRow 0 e size v' (n+m) (xs++cs)->jL w w' v n m v'->wpList P ops Q rest (a.put o.dst v') w'):
  wpList P ops Q (o::rest) a w:=by
 obtain⟨i0,hi,A0,A1,A2⟩:=info_parts hinfo;refine wpList_plain hgd fun K hK=>?_;obtain⟨v',w',hr,h2,h3⟩:=tG (P:=P) w t o.type e i0 z size bytes ht hi A0 A1 A2 hzs hsz v n xs hown ⟨X,0,none⟩ m m cs hl (fun j u hj=>World.news_of_block hX j u (by simpa using hj)) h1 hm (by unfold maxLen;omega)
  (by
    have:(n+m)*bytes<=100000000*1000:=Nat.mul_le_mul hn hby;omega)
 unfold Oper.wp execOp;simp only[ho,resolve,invoke,builtin,Sem.run_bind,Sem.run_pure,Result.andThen_ok,List.map_toArray,List.map_cons,List.map_nil,hs,hx,hr];exact hK _ _ (h v' w' h2 h3)
theorem jk {P:Program}{ops:Array Oper}{o:Oper}{a:Act}{K:Act->World->Prop}{Q:Exit->Act->World->Prop}{E:Prop}(w:World)
  (hgd:o.guard=none) (s x:Operand) (t:TypeId)
  (ho:o.op=.call {callee:=.builtin .append,args:=#[s,x],argTypes:=#[t,t]})
  (e:TypeId) (z:Value) (size bytes:Nat) (ht:P.underlying t=some (.slice e))
  (hinfo:(P.info? e).map (fun i=>(i.zero,i.size,i.bytes))=some (some z,size,bytes))
  (hzs:z.cells.size=size) (hsz:0<size) (hby:bytes<=1000)
  (v:Value) (n:Nat) (xs:List Value) (X:Nat) (cs:List Value)
  (hs:a.eval s=v) (hown:w.ownsRow 0 e size v n xs) (hX:w.heap[X]?=some (.cells cs.toArray e (0,0)))
  (hx:a.eval x=.slice (some ⟨X,0,none⟩) 1 1) (hl:cs.length=size) (h1:∀ u∈cs,u.oneCell'=true) (hn:n<=100000000)
  (h:∀ g cap w',w'.ownsRow 0 e size (.slice (some ⟨g,0,none⟩) (n+1) cap) (n+1) (xs++cs)->w.grownBy w' v.ownBlock->(v.ownBlock=some g\/g=w.heap.size)->g<w'.heap.size->K (a.put o.dst (.slice (some ⟨g,0,none⟩) (n+1) cap)) w'):
  if Region.wanted o (yielded ops a.tmps)=true then Oper.wp P o a w K Q else E:=by
 obtain⟨i0,hi,A0,A1,A2⟩:=info_parts hinfo;have hw:Region.wanted o (yielded ops a.tmps)=true:=by simp[Region.wanted,hgd]
 rw[if_pos hw];refine wp_append_lies w s x t ho 0 e i0 z size bytes ht hi A0 A1 A2 hzs hsz v n xs hs hown ⟨X,0,none⟩ 1 1 cs hx (by omega) (fun j u hj=>World.news_of_block hX j u (by simpa using hj)) h1 (by omega) ?_ ?_ (by omega) _ rfl h
 .unfold maxLen;omega
 .have:(n+1)*bytes<=100000001*1000:=Nat.mul_le_mul (by omega) hby;omega
end Go.Proofs.Herald
