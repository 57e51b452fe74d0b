import Derived.Test.YtmmmnghiegajmaaGreatM22
import Derived.Test.YtmmmnghiegajmaaGreatM03
import Derived.Test.YtmmmnghiegajmaaGreatM12
set_option maxHeartbeats 4000000
set_option maxRecDepth 20000
open Go.RowKit Go.Proofs.Herald Go.Proofs.Tryz
namespace Go.Proofs.YtmmmnghiegajmaaGreat
theorem Tryz.infoItem:(prog.info? 177).map (fun i=>(i.zero,i.size,i.bytes))=some (some (.agg #[.string ByteArray.empty,.int .i64 0,.int .i64 0,.int .i64 0,.slice none 0 0,.slice none 0 0,.int .i64 0,.int .i64 0]),8,104):=by kernel_rfl
def gX (t:ByteArray)(h:Hd)(u:Value×Value)(i:Nat):List Value:=iq t h u++[.int .i64 (i:Nat)]
theorem sd {t:ByteArray}{h:Hd}{u:Value×Value}{i:Nat}(h1:u.1.oneCell'=true/\u.2.oneCell'=true):∀ v∈gX t h u i,v.oneCell'=true:=by
 intro v hv;simp only[gX,iq,List.cons_append,List.nil_append,List.mem_cons,List.not_mem_nil,or_false]at hv;rcases hv with rfl|rfl|rfl|rfl|rfl|rfl|rfl|rfl;all_goals first|rfl|exact h1.1|exact h1.2
def jQ (t:ByteArray){T:Type}(xs:List ((Hd×T×T)×(Value×Value))):List Value:=xs.flatMap fun x=>gX t x.1.1 x.2 0
theorem Au (t:ByteArray){T:Type}(xs:List ((Hd×T×T)×(Value×Value)))(x:(Hd×T×T)×(Value×Value)):jQ t (xs++[x])=jQ t xs++gX t x.1.1 x.2 0:=by simp[jQ]
theorem rn {w:World}{p:Addr}{v:Value}(h:w.cell? p=some v):p.block<w.heap.size:=by
 rcases Nat.lt_or_ge p.block w.heap.size with h1|h1
 .exact h1
 .have e:w.heap[p.block]?=none:=Array.getElem?_eq_none h1;simp[World.cell?,e]at h
theorem ue (t:ByteArray){T:Type}(xs:List ((Hd×T×T)×(Value×Value)))(a ra:Option Addr)(cap g m rc:Nat)(news:List Value)(w:World)(ha:0<xs.length->a=some ⟨g,0,none⟩)
  (hc:∀ (i:Nat) (hi:i<xs.length),w.cell? ⟨g,i*7,none⟩=some (.string (t.extract xs[i].1.1.p.1 xs[i].1.1.p.2))/\w.cell? ⟨g,i*7+1,none⟩=some (.int .i64 xs[i].1.1.key) /\
    w.cell? ⟨g,i*7+2,none⟩=some (.int .i64 xs[i].1.1.n)/\w.cell? ⟨g,i*7+3,none⟩=some (.int .i64 xs[i].1.1.m)/\w.cell? ⟨g,i*7+4,none⟩=some xs[i].2.1 /\
    w.cell? ⟨g,i*7+5,none⟩=some xs[i].2.2/\w.cell? ⟨g,i*7+6,none⟩=some (.int .i64 xs[i].1.1.p.1))
  (h1:∀ x∈xs,x.2.1.oneCell'=true/\x.2.2.oneCell'=true) (hsrc:jo w ra m news) (hl:news.length=m*8) (hn1:∀ u∈news,u.oneCell'=true) (hx:xs.length<=10000) (hm:m<=1000000):
  Calls prog 67 #[.slice a xs.length cap,.slice ra m rc] w fun e w'=>∃ ov,e=.returned ov/\w'.ownsRow w.heap.size 177 8 ov (xs.length+m) (jQ t xs++news)/\Below w.heap.size w w':=by
 have HC:=ah hc;have H1:=ah h1;have HL:=ah hl;have HN:=ah hn1;have HS:Hid (∀ wr,Below w.heap.size w wr->jo wr ra m news):=fun wr hb hp=>by
  obtain⟨ad,h2,h3⟩:=hsrc hp;exact⟨ad,h2,fun j u hu=>(hb.cell (rn (h3 j u hu))).trans (h3 j u hu)⟩
 have HA:=ah ha;clear hc h1 hl hn1 hsrc ha;go_enter func67,ntmps67
 go_wp2_with fail
 go_loopw [5,6] (fun ov i wr=>∃ k:Nat,k<=xs.length/\i=.int .i64 k/\Hid (wr.ownsRow w.heap.size 177 8 ov k (jQ t (xs.take k)))/\Hid (Below w.heap.size w wr)) (fun _ i _=>xs.length - (intOf i).toNat)
 case atStart=>exact⟨0,Qa _,rfl,Qg _ _ _ _,v7 _ _⟩
 case round=>
  obtain⟨k,hk,rfl,HV,HB⟩:=hrel;by_cases hlt:k<xs.length
  .obtain rfl:=HA (by omega);obtain⟨k0,k1,k2,k3,k4,k5,k6⟩:=HC k hlt;have A1:=rn k0;have bc:∀ j,wr.cell? ⟨g,j,none⟩=w.cell? ⟨g,j,none⟩:=fun j=>HB.cell (p:=⟨g,j,none⟩) A1;rw[<- bc]at k0 k1 k2 k3 k4 k5 k6;have A4:Hid (jQ t (xs.take (k+1))=jQ t (xs.take k)++gX t xs[k].1.1 xs[k].2 0):=by
    show _=_;rw[Qd hlt,Au]
   have HO:=sd (t:=t) (h:=xs[k].1.1) (i:=0) (H1 xs[k] (Qb hlt));have A3:=ah HO;clear HO bc;generalize xs[k]=x at *;have A6:g<wr.heap.size:=Qh A1 HB.size;go_wp2_with (at_builtin;refine jX wr w rfl (.tmp 13) (.tmp 19) 145 rfl 177 _ 8 104 underlying145 Tryz.infoItem rfl (by decide) (by decide) w.heap.size _ _ _ (by rfl) HV (gX t x.1.1 x.2 0) (by rfl) rfl A3 (by omega) HB.out HB.out.size ?_)
   intro v2 w2 hown2 hb2 hlt2 hg2;rw[<- A4]at hown2;have A5:=ah hown2;have A2:=ah hb2;clear hown2 hb2 hg2;go_wp2_with fail
   go_roundw;case rel=>exact⟨k+1,by omega,by go_num,A5,A2⟩
   case measure=>simp[intOf];omega
  .have A7:k=xs.length:=by omega
   subst A7;have HK:Hid (jQ t (xs.take xs.length)=jQ t xs):=by show _=_;rw[List.take_length]
   rw[HK]at HV;clear hlt;go_wp2_with (at_builtin;refine ly _ rfl (.tmp 21) (.tmp 22) 145 rfl 177 _ 8 104 underlying145 Tryz.infoItem rfl (by decide) (by decide) _ _ (jQ t xs) ra m rc news (by rfl) (by exact bZ HV) (by rfl) (by exact HS.out _ HB) HL HN (by omega) ?_)
   intro v2 w2 hown2 ha2;have A0:=iF HB HB.size HV hown2 ha2;have HR:Hid (w2.ownsRow w.heap.size 177 8 v2 (xs.length+m) (jQ t xs++news)/\Below w.heap.size w w2):=⟨A0.2,A0.1⟩;clear A0 hown2 ha2;go_wp2_with fail
   go_ret;exact⟨_,rfl,HR⟩
def gK (t:ByteArray)(us:List (It×(Value×Value))):List Value:=us.flatMap fun x=>gX t x.1.s.1 x.2 x.1.i
theorem rA (t:ByteArray)(us:List (It×(Value×Value))):(gK t us).length=us.length*8:=by
 induction us with
 | nil=>rfl
 | cons x r ih=>simp only[gK,List.flatMap_cons,List.length_append,List.length_cons]at *;rw[ih];simp[gX,iq];omega
theorem Ax (t:ByteArray)(us vs:List (It×(Value×Value))):gK t (us++vs)=gK t us++gK t vs:=by simp[gK]
def dy (t:ByteArray)(w:World)(_:Nat)(x:It×(Value×Value)):Prop:=
 ai t w (fun _=>True) x.1.d x.2.1 x.1.s.2.1/\ai t w (fun _=>True) x.1.d x.2.2 x.1.s.2.2/\x.2.1.oneCell'=true/\x.2.2.oneCell'=true
def aw (t:ByteArray)(w:World)(B0:Nat)(v:Value)(l:List It):Prop:=
 ∃ (us:List (It×(Value×Value))) (a:Option Addr) (cap:Nat),l=us.map Prod.fst/\v=.slice a us.length cap/\us.length<=cap/\cap<=maxLen /\
  (0<us.length->∃ g off c z,a=some ⟨g,off,none⟩/\w.heap[g]?=some (.cells c 177 z)/\∀ j u,(gK t us)[j]?=some u->w.cell? ⟨g,off+j,none⟩=some u)/\∀ x∈us,dy t w B0 x
theorem ai.still {t:ByteArray}{w w':World}{B0:Nat}(hs:aN B0 w w'):∀ (d:Nat) (v:Value) (l:af d),ai t w (fun _=>True) d v l->ai t w' (fun _=>True) d v l:=by
 intro d;induction d with
 | zero=>intro v l hl;exact hl
 | succ d ih=>
  intro v l hl;obtain⟨xs,h1,h2,h3,h4,h5⟩:=hl;exact⟨xs,h1,aT h2 (fun k hk=>by obtain⟨c,hc⟩:=ax h2 hk;exact hs k (ak hc) (.inr ⟨c,_,_,hc,.inr rfl⟩)),h3,fun x hx=>⟨ih _ _ (h4 x hx).1,ih _ _ (h4 x hx).2⟩,h5⟩
theorem dy.keep {t:ByteArray}{w w':World}{B0:Nat}{x:It×(Value×Value)}(h:dy t w B0 x)(hk:aN B0 w w'):dy t w' B0 x:=
 ⟨ai.still hk _ _ _ h.1,ai.still hk _ _ _ h.2.1,h.2.2⟩
theorem aw.keep {t:ByteArray}{w w':World}{B0:Nat}{v:Value}{l:List It}(h:aw t w B0 v l)(hs:aN B0 w w')(_:B0<=w.heap.size):aw t w' B0 v l:=by
 obtain⟨us,a,A0,h1,h2,h3,h4,h5,h6⟩:=h;refine⟨us,a,A0,h1,h2,h3,h4,fun hp=>?_,fun x hx=>(h6 x hx).keep hs⟩;obtain⟨g,A1,c,z,e1,e2,e3⟩:=h5 hp;have e:=hs g (ak e2) (.inr ⟨c,_,z,e2,.inl rfl⟩);exact⟨g,A1,c,z,e1,e.trans e2,fun j u hu=>(World.cell?_of_block e).trans (e3 j u hu)⟩
theorem aw.src {t:ByteArray}{w:World}{us:List (It×(Value×Value))}{a:Option Addr}(h:0<us.length->∃ g off c z,a=some ⟨g,off,none⟩/\w.heap[g]?=some (.cells c 177 z)/\∀ j u,(gK t us)[j]?=some u->w.cell? ⟨g,off+j,none⟩=some u):jo w a us.length (gK t us):=fun hp=>by
 obtain⟨g,off,_,_,e1,_,e3⟩:=h hp;exact⟨_,e1,fun j u hu=>by rw[Addr.add_lit];exact e3 j u hu⟩
theorem sI {t:ByteArray}{w:World}{B0:Nat}{us:List (It×(Value×Value))}(h:∀ x∈us,dy t w B0 x):∀ u∈gK t us,u.oneCell'=true:=fun u hu=>by
 unfold gK at hu;obtain⟨x,hx,hxu⟩:=List.mem_flatMap.mp hu;exact sd (h x hx).2.2 u hxu
theorem aw.of_own {t:ByteArray}{w:World}{B0 B:Nat}{v:Value}{us:List (It×(Value×Value))}(h:w.ownsRow B 177 8 v us.length (gK t us))(hs:∀ x∈us,dy t w B0 x):aw t w B0 v (us.map Prod.fst):=by
 have hO:=bZ h;rcases h.2 with ⟨rfl,h0⟩|⟨g,cap,cur,rfl,_,hg,hn,hm,_⟩
 .exact⟨us,none,0,rfl,by rw[h0],by omega,Qa _,fun hp=>by omega,hs⟩
 .refine⟨us,_,cap,rfl,rfl,hn,hm,fun _=>⟨g,0,cur,_,rfl,hg,fun j u hu=>?_⟩,hs⟩;have:=hO.cells (g:=g) rfl j u hu;rwa [Addr.add_lit]at this
theorem Dn (t:ByteArray)(d:Nat)(xs:List ((Hd×af d×af d)×(Value×Value))):jQ t xs=gK t (xs.map fun x=>((⟨d,x.1,0⟩:It),x.2)):=by
 induction xs with
 | nil=>rfl
 | cons x r ih=>simp only[jQ,gK,List.flatMap_cons,List.map_cons]at *;rw[ih]
theorem mP (t:ByteArray)(B0 d:Nat)(tr:af d)(v rv:Value)(rest:List It)(w:World)(_:B0<=w.heap.size)(hT:ai t w (fun _=>True) d v tr)(hR:aw t w B0 rv rest)(hx:(bB d tr).length<=10000)(hm:rest.length<=1000000):
  Calls prog 67 #[v,rv] w fun e w'=>∃ ov,e=.returned ov/\aw t w' B0 ov (bB d tr++rest)/\Below w.heap.size w w':=by
 obtain⟨us,ra,rc,rfl,rfl,h3,h4,h5,h6⟩:=hR;rw[List.length_map]at hm;cases d with
 | zero=>
  obtain⟨a,A2,rfl⟩:=hT;refine(ue t (T:=Nat) [] a ra A2 0 us.length rc (gK t us) w (fun h=>by simp at h) (fun i hi=>by simp at hi) (fun x hx=>by simp at hx) (aw.src h5) (rA t us) (sI h6) (by simp) hm).mono ?_;rintro e w' ⟨ov,rfl,ho,hb⟩;refine⟨ov,rfl,?_,hb⟩;have A3:w'.ownsRow w.heap.size 177 8 ov us.length (gK t us):=by
   have e1:([]:List ((Hd×Nat×Nat)×(Value×Value))).length+us.length=us.length:=by simp
   rw[e1]at ho;exact ho
  exact aw.of_own A3 fun x hx=>(h6 x hx).keep fun k hk _=>hb.block k hk
 | succ d=>
  obtain⟨xs,a,A2,g,p1,rfl,p3,p4,p5⟩:=hT.open;have A1:∀ x∈xs,x.2.1.oneCell'=true/\x.2.2.oneCell'=true:=fun x hx=>by
   obtain⟨i,hi,rfl⟩:=List.getElem_of_mem hx;obtain⟨h7,h8⟩:=p5 i hi;obtain⟨_,_,_,e1⟩:=h7.one;obtain⟨_,_,_,e2⟩:=h8.one;rw[e1,e2];exact⟨rfl,rfl⟩
  have A0:bB (d+1) tr=(xs.map fun x=>((⟨d,x.1,0⟩:It),x.2)).map Prod.fst:=by
   rw[p1];show(List.map Prod.fst xs).map _=_;rw[List.map_map,List.map_map];rfl
  rw[A0,List.length_map,List.length_map]at hx;rw[A0,<- List.map_append];refine(ue t xs a ra A2 g us.length rc (gK t us) w p3 p4 A1 (aw.src h5) (rA t us) (sI h6) hx hm).mono ?_;rintro e w' ⟨ov,rfl,ho,hb⟩;refine⟨ov,rfl,?_,hb⟩;refine aw.of_own (B:=w.heap.size) ?_ fun x hx=>dy.keep (w:=w) ?_ fun k hk _=>hb.block k hk
  .rw[Ax,<- Dn,List.length_append,List.length_map];exact ho
  .rcases List.mem_append.mp hx with hx|hx
   .obtain⟨y,hy,rfl⟩:=List.mem_map.mp hx;obtain⟨i,hi,rfl⟩:=List.getElem_of_mem hy;exact⟨(p5 i hi).1,(p5 i hi).2,A1 _ hy⟩
   .exact h6 x hx
theorem Dy (t:ByteArray)(h:Hd)(u:Value×Value)(i:Nat)(ra:Option Addr)(m rc:Nat)(news:List Value)(w:World)(h1:u.1.oneCell'=true/\u.2.oneCell'=true)(hsrc:jo w ra m news)(hl:news.length=m*8)(hn1:∀ u∈news,u.oneCell'=true)(hm:m<=1000000):
  Calls prog 98 #[.agg (gX t h u i).toArray,.slice ra m rc] w fun e w'=>∃ ov,e=.returned ov/\w'.ownsRow w.heap.size 177 8 ov (1+m) (gX t h u i++news)/\Below w.heap.size w w':=by
 have HL:=ah hl;have HN:=ah hn1;have HO:Hid (∀ v∈gX t h u i,v.oneCell'=true):=sd h1;have HS:Hid (∀ wr,Below w.heap.size w wr->jo wr ra m news):=fun wr hb hp=>by
  obtain⟨ad,h2,h3⟩:=hsrc hp;exact⟨ad,h2,fun j u hu=>(hb.cell (rn (h3 j u hu))).trans (h3 j u hu)⟩
 clear hl hn1 hsrc h1;have e:(gX t h u i).toArray=#[.string (t.extract h.p.1 h.p.2),.int .i64 h.key,.int .i64 h.n,.int .i64 h.m,u.1,u.2,.int .i64 h.p.1,.int .i64 (i:Nat)]:=rfl;rw[e];clear e;go_enter func98,ntmps98
 go_wp2_with (at_builtin;refine jZ _ rfl (.tmp 6) (.tmp 8) 145 rfl 177 _ 8 104 underlying145 Tryz.infoItem rfl (by decide) (by decide) (.slice none 0 0) 0 [] (w.heap.size+1) (gX t h u i) (by rfl) (Qg _ _ _ _) (by exact ey _ _ _) (by rfl) rfl HO (by omega) ?_)
 intro g1 cap1 w2 hown1 hgrow hat hlt1;have A1:Below w.heap.size w w2:=(((v7 w.heap.size w).alloc (v9 _) _).alloc (by simp) _).grown hgrow (by simp;omega) fun k hk=>by cases hk
 have A2:w.heap.size<=g1:=by
  rcases hat with hh|hh
  .cases hh
  .omega
 have HB:=ah A1;have HV:Hid (w2.ownsRow w.heap.size 177 8 (.slice (some ⟨g1,0,none⟩) 1 cap1) 1 (gX t h u i)):=lF hown1 fun b hb=>by
  simp[Value.ownBlock]at hb;omega
 clear hown1 hgrow hat hlt1 A1 A2;go_wp2_with (at_builtin;refine ly _ rfl (.tmp 10) (.tmp 11) 145 rfl 177 _ 8 104 underlying145 Tryz.infoItem rfl (by decide) (by decide) (.slice (some ⟨g1,0,none⟩) 1 cap1) 1 (gX t h u i) ra m rc news (by rfl) (by exact bZ HV) (by rfl) (by exact HS.out _ HB) HL HN (by omega) ?_)
 intro v2 w3 hown2 ha2;have A0:=iF HB HB.size HV hown2 ha2;have HR:Hid (w3.ownsRow w.heap.size 177 8 v2 (1+m) (gX t h u i++news)/\Below w.heap.size w w3):=⟨A0.2,A0.1⟩;clear A0 hown2 ha2;go_wp2_with fail
 go_ret;exact⟨_,rfl,HR⟩
theorem FW (t:ByteArray)(B0:Nat)(x:It×(Value×Value))(rv:Value)(rest:List It)(w:World)(_:B0<=w.heap.size)(hX:dy t w B0 x)(hR:aw t w B0 rv rest)(hm:rest.length<=1000000):
  Calls prog 98 #[.agg (gX t x.1.s.1 x.2 x.1.i).toArray,rv] w fun e w'=>∃ ov,e=.returned ov/\aw t w' B0 ov (x.1::rest)/\Below w.heap.size w w':=by
 obtain⟨us,ra,rc,rfl,rfl,h3,h4,h5,h6⟩:=hR;rw[List.length_map]at hm;refine(Dy t x.1.s.1 x.2 x.1.i ra us.length rc (gK t us) w hX.2.2 (aw.src h5) (rA t us) (sI h6) hm).mono ?_;rintro e w' ⟨ov,rfl,ho,hb⟩;refine⟨ov,rfl,?_,hb⟩;refine aw.of_own (us:=x::us) (B:=w.heap.size) ?_ fun y hy=>dy.keep (w:=w) ?_ fun k hk _=>hb.block k hk
 .rw[List.length_cons,Nat.add_comm];exact ho
 .rcases List.mem_cons.mp hy with rfl|hy
  .exact hX
  .exact h6 y hy
theorem aw.cons {t:ByteArray}{w:World}{B0:Nat}{v:Value}{x:It}{l:List It}(h:aw t w B0 v (x::l)):
  ∃ (g off cap:Nat) (ub:Value×Value),v=.slice (some ⟨g,off,none⟩) (l.length+1) cap/\l.length+1<=cap/\cap<=maxLen/\g<w.heap.size/\dy t w B0 (x,ub) /\
   (∀ j u,(gX t x.s.1 ub x.i)[j]?=some u->w.cell? ⟨g,off+j,none⟩=some u)/\aw t w B0 (.slice (some ⟨g,off+8,none⟩) l.length (cap - 1)) l:=by
 obtain⟨us,a,cap,h1,h2,h3,h4,h5,h6⟩:=h;cases us with
 | nil=>simp at h1
 | cons y us=>
  simp only[List.map_cons,List.cons.injEq]at h1;obtain⟨rfl,rfl⟩:=h1;obtain⟨g,off,c,z,rfl,e2,e3⟩:=h5 (by simp);have hl:(gX t y.1.s.1 y.2 y.1.i).length=8:=rfl;have A0:gK t (y::us)=gX t y.1.s.1 y.2 y.1.i++gK t us:=by simp[gK]
  rw[List.length_cons]at h2 h3;refine⟨g,off,cap,y.2,by rw[h2,List.length_map],by rw[List.length_map];exact h3,h4,ak e2,h6 y (List.mem_cons_self ..),fun j u hu=>e3 j u ?_,?_⟩
  .have hj:j<8:=by
    have:=(List.getElem?_eq_some_iff.mp hu).1;omega
   rw[A0,List.getElem?_append_left (by omega)];exact hu
  .refine⟨us,_,cap - 1,rfl,by rw[List.length_map],by omega,by omega,fun _=>⟨g,off+8,c,z,rfl,e2,fun j u hu=>?_⟩,fun x hx=>h6 x (Qf _ hx)⟩;have:=e3 (8+j) u (by rw[A0,List.getElem?_append_right (by omega),hl,Nat.add_sub_cancel_left];exact hu);rw[show off+8+j=off+(8+j) by omega];exact this
theorem aw.nil' {t:ByteArray}{w:World}{B0:Nat}{v:Value}(h:aw t w B0 v []):∃ a cap,v=.slice a 0 cap:=by
 obtain⟨us,a,cap,h1,h2,_⟩:=h;cases us with
 | nil=>exact⟨a,cap,h2⟩
 | cons y us=>simp at h1
theorem aw.none (t:ByteArray)(w:World)(B0:Nat):aw t w B0 (.slice none 0 0) []:=
 ⟨[],.none,0,rfl,rfl,v9 _,Qa _,fun h=>by simp at h,fun x hx=>by simp at hx⟩
end Go.Proofs.YtmmmnghiegajmaaGreat
