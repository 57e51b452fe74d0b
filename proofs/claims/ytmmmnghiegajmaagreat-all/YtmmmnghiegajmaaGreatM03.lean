import Derived.Test.YtmmmnghiegajmaaGreatM01
import Derived.Laws.AppendOwnNone
open Go.RowKit Go.Proofs.Herald
namespace Go.Proofs.Herald
theorem yK {P:Program}{w:World}(t ty e:TypeId)(i:TypeInfo)(size:Nat)(ht:P.underlying t=some (.slice e))(hi:P.info? e=some i)(v:Value)(n:Nat)(xs:List Value)(hown:w.ownsRow 0 e size v n xs)(a:Option Addr)(c:Nat):
  (Builtin.append_ #[t,t] ty #[v,.slice a 0 c]).run P w=.ok v w:=by
 rcases hown.2 with ⟨rfl,rfl⟩|⟨g,cap,cur,rfl,_,_,hnc,_⟩
 .cases a <;> simp[Builtin.append_,run_underlying ht,sizeOf,typeInfo,hi,Builtin.lenOf,Builtin.firstCells,loadCells,loadCellsFrom]
 .cases a <;> simp[Builtin.append_,run_underlying ht,sizeOf,typeInfo,hi,Builtin.lenOf,Builtin.firstCells,hnc,storeCells,loadCells,loadCellsFrom]
def jo (w:World)(a:Option Addr)(m:Nat)(news:List Value):Prop:=0<m->∃ ad,a=some ad/\∀ j u,news[j]?=some u->w.cell? (ad.add j)=some u
theorem tW {P:Program}(w:World)(t ty:TypeId)(e:TypeId)(i:TypeInfo)(z:Value)(size bytes:Nat)(ht:P.underlying t=some (.slice e))(hi:P.info? e=some i)(hz:i.zero=some z)
  (hsize:i.size=size) (hby:i.bytes=bytes) (hzs:z.cells.size=size) (hsz:0<size) (v:Value) (n:Nat) (xs:List Value) (hown:w.ownsRow 0 e size v n xs)
  (a:Option Addr) (m c:Nat) (news:List Value) (hl:news.length=m*size) (hnews:jo w a m news) (h1:∀ u∈news,u.oneCell'=true) (h63:n+m<=maxLen) (hbytes:(n+m)*bytes<=140737488355328):
  ∃ v' w',(Builtin.append_ #[t,t] ty #[v,.slice a m c]).run P w=.ok v' w'/\w'.ownsRow 0 e size v' (n+m) (xs++news)/\jL w w' v n m v':=by
 rcases Nat.eq_zero_or_pos m with rfl|hm
 .obtain rfl:news=[]:=List.eq_nil_of_length_eq_zero (by simpa using hl);refine⟨v,w,yK t ty e i size ht hi v n xs hown a c,by rw[List.append_nil];exact hown,?_⟩;rcases hown.2 with ⟨rfl,rfl⟩|⟨g,cap,cur,rfl,_,hg,_⟩
  .exact .inr ⟨fun k hk=>(by cases hk),rfl,rfl,rfl,v9 _,fun _ _ _=>rfl⟩
  .exact .inl ⟨g,cap,rfl,rfl,rfl,rfl,rfl,v9 _,fun _ _ _=>rfl⟩
 .obtain⟨ad,rfl,hc⟩:=hnews hm;exact tG w t ty e i z size bytes ht hi hz hsize hby hzs hsz v n xs hown ad m c news hl hc h1 hm h63 hbytes
theorem ly {P:Program}{ops:Array Oper}{rest:List Oper}{o:Oper}{a:Act}{Q:Exit->Act->World->Prop}(w:World)(hgd:o.guard=none)(s x:Operand)(t:TypeId)
  (ho:o.op=.call {callee:=.builtin .append,args:=#[s,x],argTypes:=#[t,t]})
  (e:TypeId) (z:Value) (size bytes:Nat) (ht:P.underlying t=some (.slice e)) (hinfo:(P.info? e).map (fun i=>(i.zero,i.size,i.bytes))=some (some z,size,bytes))
  (hzs:z.cells.size=size) (hsz:0<size) (hby:bytes<=1000)
  (v:Value) (n:Nat) (xs:List Value) (sa:Option Addr) (m c:Nat) (cs:List Value)
  (hs:a.eval s=v) (hown:w.ownsRow 0 e size v n xs) (hx:a.eval x=.slice sa m c) (hsrc:jo w sa m cs) (hl:cs.length=m*size) (h1:∀ u∈cs,u.oneCell'=true) (hn:n+m<=100000000)
  (h:∀ v' w',w'.ownsRow 0 e size v' (n+m) (xs++cs)->jL w w' v n m v'->wpList P ops Q rest (a.put o.dst v') w'):
  wpList P ops Q (o::rest) a w:=by
 obtain⟨i0,hi,A0,A1,A2⟩:=info_parts hinfo;refine wpList_plain hgd fun K hK=>?_;obtain⟨v',w',hr,h2,h3⟩:=tW (P:=P) w t o.type e i0 z size bytes ht hi A0 A1 A2 hzs hsz v n xs hown sa m c cs hl hsrc h1 (by unfold maxLen;omega)
  (by
    have:(n+m)*bytes<=100000000*1000:=Nat.mul_le_mul hn hby;omega)
 unfold Oper.wp execOp;simp only[ho,resolve,invoke,builtin,Sem.run_bind,Sem.run_pure,Result.andThen_ok,List.map_toArray,List.map_cons,List.map_nil,hs,hx,hr];exact hK _ _ (h v' w' h2 h3)
theorem yM {P:Program}{ops:Array Oper}{o:Oper}{a:Act}{K:Act->World->Prop}{Q:Exit->Act->World->Prop}{E:Prop}(w:World)(hgd:o.guard=none)(s x:Operand)(t:TypeId)
  (ho:o.op=.call {callee:=.builtin .append,args:=#[s,x],argTypes:=#[t,t]})
  (e:TypeId) (z:Value) (size bytes:Nat) (ht:P.underlying t=some (.slice e)) (hinfo:(P.info? e).map (fun i=>(i.zero,i.size,i.bytes))=some (some z,size,bytes))
  (hzs:z.cells.size=size) (hsz:0<size) (hby:bytes<=1000)
  (v:Value) (n:Nat) (xs:List Value) (sa:Option Addr) (m c:Nat) (cs:List Value)
  (hs:a.eval s=v) (hown:w.ownsRow 0 e size v n xs) (hx:a.eval x=.slice sa m c) (hsrc:jo w sa m cs) (hl:cs.length=m*size) (h1:∀ u∈cs,u.oneCell'=true) (hn:n+m<=100000000)
  (h:∀ v' w',w'.ownsRow 0 e size v' (n+m) (xs++cs)->jL w w' v n m v'->K (a.put o.dst v') w'):
  if Region.wanted o (yielded ops a.tmps)=true then Oper.wp P o a w K Q else E:=by
 obtain⟨i0,hi,A0,A1,A2⟩:=info_parts hinfo;have hw:Region.wanted o (yielded ops a.tmps)=true:=by simp[Region.wanted,hgd]
 rw[if_pos hw];obtain⟨v',w',hr,h2,h3⟩:=tW (P:=P) w t o.type e i0 z size bytes ht hi A0 A1 A2 hzs hsz v n xs hown sa m c cs hl hsrc h1 (by unfold maxLen;omega)
  (by
    have:(n+m)*bytes<=100000000*1000:=Nat.mul_le_mul hn hby;omega)
 unfold Oper.wp execOp;simp only[ho,resolve,invoke,builtin,Sem.run_bind,Sem.run_pure,Result.andThen_ok,List.map_toArray,List.map_cons,List.map_nil,hs,hx,hr];exact h v' w' h2 h3
end Go.Proofs.Herald
