import Derived.Test.YtmmmnghiegajmaaGreatM08
import Derived.Test.YtmmmnghiegajmaaGreatM02
import Derived.Test.YtmmmnghiegajmaaGreatM11
import Derived.Test.YtmmmnghiegajmaaGreatM16
set_option maxHeartbeats 4000000
namespace Go.Proofs.YtmmmnghiegajmaaGreat
open Go.RowKit Go.Proofs.Herald
theorem Tryz.infoItem:(Tryz.prog.info? 177).map (fun i=>(i.zero,i.size,i.bytes))=some (some (.agg #[.string ByteArray.empty,.int .i64 0,.int .i64 0,.int .i64 0,.slice none 0 0,.slice none 0 0,.int .i64 0,.int .i64 0]),8,104):=by kernel_rfl
def zd4 (t:ByteArray)(h:Hd)(u:Value×Value)(i:Nat):List Value:=zbw t h u++[.int .i64 (i:Nat)]
theorem zhe {t:ByteArray}{h:Hd}{u:Value×Value}{i:Nat}(h1:u.1.oneCell'=true/\u.2.oneCell'=true):∀ v∈zd4 t h u i,v.oneCell'=true:=by
 intro v hv
 simp only [zd4,zbw,List.cons_append,List.nil_append,List.mem_cons,List.not_mem_nil,or_false] at hv
 rcases hv with rfl|rfl|rfl|rfl|rfl|rfl|rfl|rfl
 all_goals first|rfl|exact h1.1|exact h1.2
def zdW (t:ByteArray){T:Type}(xs:List ((Hd×T×T)×(Value×Value))):List Value:=xs.flatMap fun x=>zd4 t x.1.1 x.2 0
theorem zkq (t:ByteArray){T:Type}(xs:List ((Hd×T×T)×(Value×Value)))(x:(Hd×T×T)×(Value×Value)):zdW t (xs++[x])=zdW t xs++zd4 t x.1.1 x.2 0:=by simp [zdW]
theorem zeI {w:World}{p:Addr}{v:Value}(h:w.cell? p=some v):p.block<w.heap.size:=by
 rcases Nat.lt_or_ge p.block w.heap.size with h1|h1
 .exact h1
 .have e:w.heap[p.block]?=none:=Array.getElem?_eq_none h1
  simp [World.cell?,e] at h
set_option maxRecDepth 20000 in
theorem zg0 (t:ByteArray){T:Type}(xs:List ((Hd×T×T)×(Value×Value)))(a ra:Option Addr)(cap g m rc:Nat)(news:List Value)(w:World)(ha:0<xs.length->a=some ⟨g,0,none⟩)
  (hc:∀ (i:Nat) (hi:i<xs.length),w.cell? ⟨g,i*7,none⟩=some (.string (t.extract xs[i].1.1.p.1 xs[i].1.1.p.2))/\w.cell? ⟨g,i*7+1,none⟩=some (.int .i64 xs[i].1.1.key) /\
    w.cell? ⟨g,i*7+2,none⟩=some (.int .i64 xs[i].1.1.n)/\w.cell? ⟨g,i*7+3,none⟩=some (.int .i64 xs[i].1.1.m)/\w.cell? ⟨g,i*7+4,none⟩=some xs[i].2.1 /\
    w.cell? ⟨g,i*7+5,none⟩=some xs[i].2.2/\w.cell? ⟨g,i*7+6,none⟩=some (.int .i64 xs[i].1.1.p.1))
  (h1:∀ x∈xs,x.2.1.oneCell'=true/\x.2.2.oneCell'=true) (hsrc:zfq w ra m news) (hl:news.length=m*8) (hn1:∀ u∈news,u.oneCell'=true) (hx:xs.length<=10000) (hm:m<=1000000):
  Calls Tryz.prog 67 #[.slice a xs.length cap,.slice ra m rc] w fun e w'=>∃ ov,e=.returned ov/\w'.ownsRow w.heap.size 177 8 ov (xs.length+m) (zdW t xs++news)/\Below w.heap.size w w':=by
 have HC:=zHd hc
 have H1:=zHd h1
 have HL:=zHd hl
 have HN:=zHd hn1
 have HS:Hid (∀ wr,Below w.heap.size w wr->zfq wr ra m news):=fun wr hb hp=>by
  obtain ⟨ad,h2,h3⟩:=hsrc hp
  exact ⟨ad,h2,fun j u hu=>(hb.cell (zeI (h3 j u hu))).trans (h3 j u hu)⟩
 have HA:=zHd ha
 clear hc h1 hl hn1 hsrc ha
 go_enter Tryz.func67,Tryz.ntmps67
 go_wp2_with fail
 go_loopw [5,6] (fun ov i wr=>∃ k:Nat,k<=xs.length/\i=.int .i64 k/\Hid (wr.ownsRow w.heap.size 177 8 ov k (zdW t (xs.take k)))/\Hid (Below w.heap.size w wr)) (fun _ i _=>xs.length - (intOf i).toNat)
 case atStart=>exact ⟨0,Nat.zero_le _,rfl,World.ownsRow_nil _ _ _ _,Below.refl _ _⟩
 case round=>
  obtain ⟨k,hk,rfl,HV,HB⟩:=hrel
  by_cases hlt:k<xs.length
  .obtain rfl:=HA.out (by omega)
   obtain ⟨k0,k1,k2,k3,k4,k5,k6⟩:=HC.out k hlt
   have hgl:=zeI k0
   have bc:∀ j,wr.cell? ⟨g,j,none⟩=w.cell? ⟨g,j,none⟩:=fun j=>HB.out.cell (p:=⟨g,j,none⟩) hgl
   rw [<- bc] at k0 k1 k2 k3 k4 k5 k6
   have HTK:Hid (zdW t (xs.take (k+1))=zdW t (xs.take k)++zd4 t xs[k].1.1 xs[k].2 0):=by
    show _=_
    rw [List.take_succ_eq_append_getElem hlt,zkq]
   have HO:=zhe (t:=t) (h:=xs[k].1.1) (i:=0) (H1.out xs[k] (List.getElem_mem hlt))
   have HO2:=zHd HO
   clear HO bc
   generalize xs[k]=x at *
   have hgl2:g<wr.heap.size:=Nat.lt_of_lt_of_le hgl HB.out.size
   go_wp2_with (at_builtin;refine zbI wr w rfl (.tmp 13) (.tmp 19) 145 rfl 177 _ 8 104 Tryz.underlying145 Tryz.infoItem rfl (by decide) (by decide) w.heap.size _ _ _ (by rfl) HV.out (zd4 t x.1.1 x.2 0) (by rfl) rfl HO2.out (by omega) HB.out HB.out.size ?_)
   intro v2 w2 hown2 hb2 hlt2 hg2
   rw [<- HTK.out] at hown2
   have HV2:=zHd hown2
   have HB2:=zHd hb2
   clear hown2 hb2 hg2
   go_wp2_with fail
   go_roundw
   case rel=>exact ⟨k+1,by omega,by go_num,HV2,HB2⟩
   case measure=>simp [intOf];omega
  .have hkx:k=xs.length:=by omega
   subst hkx
   have HK:Hid (zdW t (xs.take xs.length)=zdW t xs):=by show _=_;rw [List.take_length]
   rw [HK.out] at HV
   clear hlt
   go_wp2_with (at_builtin;refine za9 _ rfl (.tmp 21) (.tmp 22) 145 rfl 177 _ 8 104 Tryz.underlying145 Tryz.infoItem rfl (by decide) (by decide) _ _ (zdW t xs) ra m rc news (by rfl) (by exact zcr HV.out) (by rfl) (by exact HS.out _ HB.out) HL.out HN.out (by omega) ?_)
   intro v2 w2 hown2 ha2
   have hab:=zaR HB.out HB.out.size HV.out hown2 ha2
   have HR:Hid (w2.ownsRow w.heap.size 177 8 v2 (xs.length+m) (zdW t xs++news)/\Below w.heap.size w w2):=⟨hab.2,hab.1⟩
   clear hab hown2 ha2
   go_wp2_with fail
   go_ret
   exact ⟨_,rfl,HR.out⟩
end Go.Proofs.YtmmmnghiegajmaaGreat
set_option maxHeartbeats 4000000
namespace Go.Proofs.YtmmmnghiegajmaaGreat
open Go.RowKit Go.Proofs.Herald
def zhM (t:ByteArray)(us:List (It×(Value×Value))):List Value:=us.flatMap fun x=>zd4 t x.1.s.1 x.2 x.1.i
theorem zfs (t:ByteArray)(us:List (It×(Value×Value))):(zhM t us).length=us.length*8:=by
 induction us with
 | nil=>rfl
 | cons x r ih=>simp only [zhM,List.flatMap_cons,List.length_append,List.length_cons] at *;rw [ih];simp [zd4,zbw];omega
theorem zkt (t:ByteArray)(us vs:List (It×(Value×Value))):zhM t (us++vs)=zhM t us++zhM t vs:=by simp [zhM]
def SubsAt (t:ByteArray)(w:World)(_:Nat)(x:It×(Value×Value)):Prop:=
 TreeAt t w (fun _=>True) x.1.d x.2.1 x.1.s.2.1/\TreeAt t w (fun _=>True) x.1.d x.2.2 x.1.s.2.2/\x.2.1.oneCell'=true/\x.2.2.oneCell'=true
def ItemsAt (t:ByteArray)(w:World)(B0:Nat)(v:Value)(l:List It):Prop:=
 ∃ (us:List (It×(Value×Value))) (a:Option Addr) (cap:Nat),l=us.map Prod.fst/\v=.slice a us.length cap/\us.length<=cap/\cap<=maxLen /\
  (0<us.length->∃ g off c z,a=some ⟨g,off,none⟩/\w.heap[g]?=some (.cells c 177 z)/\∀ j u,(zhM t us)[j]?=some u->w.cell? ⟨g,off+j,none⟩=some u)/\∀ x∈us,SubsAt t w B0 x
theorem TreeAt.still {t:ByteArray}{w w':World}{B0:Nat}(hs:Still B0 w w'):∀ (d:Nat) (v:Value) (l:Tree d),TreeAt t w (fun _=>True) d v l->TreeAt t w' (fun _=>True) d v l:=by
 intro d
 induction d with
 | zero=>intro v l hl;exact hl
 | succ d ih=>
  intro v l hl
  obtain ⟨xs,h1,h2,h3,h4,h5⟩:=hl
  exact ⟨xs,h1,zaj h2 (fun k hk=>by obtain ⟨c,hc⟩:=zad h2 hk;exact hs k (zae hc) (.inr ⟨c,_,_,hc,.inr rfl⟩)),h3,fun x hx=>⟨ih _ _ (h4 x hx).1,ih _ _ (h4 x hx).2⟩,h5⟩
theorem SubsAt.keep {t:ByteArray}{w w':World}{B0:Nat}{x:It×(Value×Value)}(h:SubsAt t w B0 x)(hk:Still B0 w w'):SubsAt t w' B0 x:=
 ⟨TreeAt.still hk _ _ _ h.1,TreeAt.still hk _ _ _ h.2.1,h.2.2⟩
theorem ItemsAt.keep {t:ByteArray}{w w':World}{B0:Nat}{v:Value}{l:List It}(h:ItemsAt t w B0 v l)(hs:Still B0 w w')(_:B0<=w.heap.size):ItemsAt t w' B0 v l:=by
 obtain ⟨us,a,cap,h1,h2,h3,h4,h5,h6⟩:=h
 refine ⟨us,a,cap,h1,h2,h3,h4,fun hp=>?_,fun x hx=>(h6 x hx).keep hs⟩
 obtain ⟨g,off,c,z,e1,e2,e3⟩:=h5 hp
 have e:=hs g (zae e2) (.inr ⟨c,_,z,e2,.inl rfl⟩)
 exact ⟨g,off,c,z,e1,e.trans e2,fun j u hu=>(World.cell?_of_block e).trans (e3 j u hu)⟩
theorem ItemsAt.src {t:ByteArray}{w:World}{us:List (It×(Value×Value))}{a:Option Addr}(h:0<us.length->∃ g off c z,a=some ⟨g,off,none⟩/\w.heap[g]?=some (.cells c 177 z)/\∀ j u,(zhM t us)[j]?=some u->w.cell? ⟨g,off+j,none⟩=some u):zfq w a us.length (zhM t us):=fun hp=>by
 obtain ⟨g,off,_,_,e1,_,e3⟩:=h hp
 exact ⟨_,e1,fun j u hu=>by rw [Addr.add_lit];exact e3 j u hu⟩
theorem ziw {t:ByteArray}{w:World}{B0:Nat}{us:List (It×(Value×Value))}(h:∀ x∈us,SubsAt t w B0 x):∀ u∈zhM t us,u.oneCell'=true:=fun u hu=>by
 unfold zhM at hu
 obtain ⟨x,hx,hxu⟩:=List.mem_flatMap.mp hu
 exact zhe (h x hx).2.2 u hxu
theorem ItemsAt.of_own {t:ByteArray}{w:World}{B0 B:Nat}{v:Value}{us:List (It×(Value×Value))}(h:w.ownsRow B 177 8 v us.length (zhM t us))(hs:∀ x∈us,SubsAt t w B0 x):ItemsAt t w B0 v (us.map Prod.fst):=by
 have hO:=zcr h
 rcases h.2 with ⟨rfl,h0⟩|⟨g,cap,cur,rfl,_,hg,hn,hm,_⟩
 .exact ⟨us,none,0,rfl,by rw [h0],by omega,Nat.zero_le _,fun hp=>by omega,hs⟩
 .refine ⟨us,_,cap,rfl,rfl,hn,hm,fun _=>⟨g,0,cur,_,rfl,hg,fun j u hu=>?_⟩,hs⟩
  have:=hO.cells (g:=g) rfl j u hu
  rwa [Addr.add_lit] at this
theorem znl (t:ByteArray)(d:Nat)(xs:List ((Hd×Tree d×Tree d)×(Value×Value))):zdW t xs=zhM t (xs.map fun x=>((⟨d,x.1,0⟩:It),x.2)):=by
 induction xs with
 | nil=>rfl
 | cons x r ih=>simp only [zdW,zhM,List.flatMap_cons,List.map_cons] at *;rw [ih]
theorem zde (t:ByteArray)(B0 d:Nat)(tr:Tree d)(v rv:Value)(rest:List It)(w:World)(_:B0<=w.heap.size)(hT:TreeAt t w (fun _=>True) d v tr)(hR:ItemsAt t w B0 rv rest)(hx:(zaT d tr).length<=10000)(hm:rest.length<=1000000):
  Calls Tryz.prog 67 #[v,rv] w fun e w'=>∃ ov,e=.returned ov/\ItemsAt t w' B0 ov (zaT d tr++rest)/\Below w.heap.size w w':=by
 obtain ⟨us,ra,rc,rfl,rfl,h3,h4,h5,h6⟩:=hR
 rw [List.length_map] at hm
 cases d with
 | zero=>
  obtain ⟨a,cap,rfl⟩:=hT
  refine (zg0 t (T:=Nat) [] a ra cap 0 us.length rc (zhM t us) w (fun h=>by simp at h) (fun i hi=>by simp at hi) (fun x hx=>by simp at hx) (ItemsAt.src h5) (zfs t us) (ziw h6) (by simp) hm).mono ?_
  rintro e w' ⟨ov,rfl,ho,hb⟩
  refine ⟨ov,rfl,?_,hb⟩
  have ho2:w'.ownsRow w.heap.size 177 8 ov us.length (zhM t us):=by
   have e1:([]:List ((Hd×Nat×Nat)×(Value×Value))).length+us.length=us.length:=by simp
   rw [e1] at ho
   exact ho
  exact ItemsAt.of_own ho2 fun x hx=>(h6 x hx).keep fun k hk _=>hb.block k hk
 | succ d=>
  obtain ⟨xs,a,cap,g,p1,rfl,p3,p4,p5⟩:=hT.open
  have hone:∀ x∈xs,x.2.1.oneCell'=true/\x.2.2.oneCell'=true:=fun x hx=>by
   obtain ⟨i,hi,rfl⟩:=List.getElem_of_mem hx
   obtain ⟨h7,h8⟩:=p5 i hi
   obtain ⟨_,_,_,e1⟩:=h7.one
   obtain ⟨_,_,_,e2⟩:=h8.one
   rw [e1,e2]
   exact ⟨rfl,rfl⟩
  have hits:zaT (d+1) tr=(xs.map fun x=>((⟨d,x.1,0⟩:It),x.2)).map Prod.fst:=by
   rw [p1]
   show (List.map Prod.fst xs).map _=_
   rw [List.map_map,List.map_map]
   rfl
  rw [hits,List.length_map,List.length_map] at hx
  rw [hits,<- List.map_append]
  refine (zg0 t xs a ra cap g us.length rc (zhM t us) w p3 p4 hone (ItemsAt.src h5) (zfs t us) (ziw h6) hx hm).mono ?_
  rintro e w' ⟨ov,rfl,ho,hb⟩
  refine ⟨ov,rfl,?_,hb⟩
  refine ItemsAt.of_own (B:=w.heap.size) ?_ fun x hx=>SubsAt.keep (w:=w) ?_ fun k hk _=>hb.block k hk
  .rw [zkt,<- znl,List.length_append,List.length_map]
   exact ho
  .rcases List.mem_append.mp hx with hx|hx
   .obtain ⟨y,hy,rfl⟩:=List.mem_map.mp hx
    obtain ⟨i,hi,rfl⟩:=List.getElem_of_mem hy
    exact ⟨(p5 i hi).1,(p5 i hi).2,hone _ hy⟩
   .exact h6 x hx
set_option maxRecDepth 20000 in
theorem zoQ (t:ByteArray)(h:Hd)(u:Value×Value)(i:Nat)(ra:Option Addr)(m rc:Nat)(news:List Value)(w:World)(h1:u.1.oneCell'=true/\u.2.oneCell'=true)(hsrc:zfq w ra m news)(hl:news.length=m*8)(hn1:∀ u∈news,u.oneCell'=true)(hm:m<=1000000):
  Calls Tryz.prog 98 #[.agg (zd4 t h u i).toArray,.slice ra m rc] w fun e w'=>∃ ov,e=.returned ov/\w'.ownsRow w.heap.size 177 8 ov (1+m) (zd4 t h u i++news)/\Below w.heap.size w w':=by
 have HL:=zHd hl
 have HN:=zHd hn1
 have HO:Hid (∀ v∈zd4 t h u i,v.oneCell'=true):=zhe h1
 have HS:Hid (∀ wr,Below w.heap.size w wr->zfq wr ra m news):=fun wr hb hp=>by
  obtain ⟨ad,h2,h3⟩:=hsrc hp
  exact ⟨ad,h2,fun j u hu=>(hb.cell (zeI (h3 j u hu))).trans (h3 j u hu)⟩
 clear hl hn1 hsrc h1
 have e:(zd4 t h u i).toArray=#[.string (t.extract h.p.1 h.p.2),.int .i64 h.key,.int .i64 h.n,.int .i64 h.m,u.1,u.2,.int .i64 h.p.1,.int .i64 (i:Nat)]:=rfl
 rw [e]
 clear e
 go_enter Tryz.func98,Tryz.ntmps98
 go_wp2_with (at_builtin;refine za7 _ rfl (.tmp 6) (.tmp 8) 145 rfl 177 _ 8 104 Tryz.underlying145 Tryz.infoItem rfl (by decide) (by decide) (.slice none 0 0) 0 [] (w.heap.size+1) (zd4 t h u i) (by rfl) (World.ownsRow_nil _ _ _ _) (by exact zaw _ _ _) (by rfl) rfl HO.out (by omega) ?_)
 intro g1 cap1 w2 hown1 hgrow hat hlt1
 have hb2:Below w.heap.size w w2:=(((Below.refl w.heap.size w).alloc (Nat.le_refl _) _).alloc (by simp) _).grown hgrow (by simp;omega) fun k hk=>by cases hk
 have hgB:w.heap.size<=g1:=by
  rcases hat with hh|hh
  .cases hh
  .omega
 have HB:=zHd hb2
 have HV:Hid (w2.ownsRow w.heap.size 177 8 (.slice (some ⟨g1,0,none⟩) 1 cap1) 1 (zd4 t h u i)):=zdn hown1 fun b hb=>by
  simp [Value.ownBlock] at hb
  omega
 clear hown1 hgrow hat hlt1 hb2 hgB
 go_wp2_with (at_builtin;refine za9 _ rfl (.tmp 10) (.tmp 11) 145 rfl 177 _ 8 104 Tryz.underlying145 Tryz.infoItem rfl (by decide) (by decide) (.slice (some ⟨g1,0,none⟩) 1 cap1) 1 (zd4 t h u i) ra m rc news (by rfl) (by exact zcr HV.out) (by rfl) (by exact HS.out _ HB.out) HL.out HN.out (by omega) ?_)
 intro v2 w3 hown2 ha2
 have hab:=zaR HB.out HB.out.size HV.out hown2 ha2
 have HR:Hid (w3.ownsRow w.heap.size 177 8 v2 (1+m) (zd4 t h u i++news)/\Below w.heap.size w w3):=⟨hab.2,hab.1⟩
 clear hab hown2 ha2
 go_wp2_with fail
 go_ret
 exact ⟨_,rfl,HR.out⟩
theorem zpU (t:ByteArray)(B0:Nat)(x:It×(Value×Value))(rv:Value)(rest:List It)(w:World)(_:B0<=w.heap.size)(hX:SubsAt t w B0 x)(hR:ItemsAt t w B0 rv rest)(hm:rest.length<=1000000):
  Calls Tryz.prog 98 #[.agg (zd4 t x.1.s.1 x.2 x.1.i).toArray,rv] w fun e w'=>∃ ov,e=.returned ov/\ItemsAt t w' B0 ov (x.1::rest)/\Below w.heap.size w w':=by
 obtain ⟨us,ra,rc,rfl,rfl,h3,h4,h5,h6⟩:=hR
 rw [List.length_map] at hm
 refine (zoQ t x.1.s.1 x.2 x.1.i ra us.length rc (zhM t us) w hX.2.2 (ItemsAt.src h5) (zfs t us) (ziw h6) hm).mono ?_
 rintro e w' ⟨ov,rfl,ho,hb⟩
 refine ⟨ov,rfl,?_,hb⟩
 refine ItemsAt.of_own (us:=x::us) (B:=w.heap.size) ?_ fun y hy=>SubsAt.keep (w:=w) ?_ fun k hk _=>hb.block k hk
 .rw [List.length_cons,Nat.add_comm]
  exact ho
 .rcases List.mem_cons.mp hy with rfl|hy
  .exact hX
  .exact h6 y hy
open Go.RowKit Go.Proofs.Herald
theorem ItemsAt.cons {t:ByteArray}{w:World}{B0:Nat}{v:Value}{x:It}{l:List It}(h:ItemsAt t w B0 v (x::l)):
  ∃ (g off cap:Nat) (ub:Value×Value),v=.slice (some ⟨g,off,none⟩) (l.length+1) cap/\l.length+1<=cap/\cap<=maxLen/\g<w.heap.size/\SubsAt t w B0 (x,ub) /\
   (∀ j u,(zd4 t x.s.1 ub x.i)[j]?=some u->w.cell? ⟨g,off+j,none⟩=some u)/\ItemsAt t w B0 (.slice (some ⟨g,off+8,none⟩) l.length (cap - 1)) l:=by
 obtain ⟨us,a,cap,h1,h2,h3,h4,h5,h6⟩:=h
 cases us with
 | nil=>simp at h1
 | cons y us=>
  simp only [List.map_cons,List.cons.injEq] at h1
  obtain ⟨rfl,rfl⟩:=h1
  obtain ⟨g,off,c,z,rfl,e2,e3⟩:=h5 (by simp)
  have hl:(zd4 t y.1.s.1 y.2 y.1.i).length=8:=rfl
  have hcons:zhM t (y::us)=zd4 t y.1.s.1 y.2 y.1.i++zhM t us:=by simp [zhM]
  rw [List.length_cons] at h2 h3
  refine ⟨g,off,cap,y.2,by rw [h2,List.length_map],by rw [List.length_map];exact h3,h4,zae e2,h6 y (List.mem_cons_self ..),fun j u hu=>e3 j u ?_,?_⟩
  .have hj:j<8:=by
    have:=(List.getElem?_eq_some_iff.mp hu).1
    omega
   rw [hcons,List.getElem?_append_left (by omega)]
   exact hu
  .refine ⟨us,_,cap - 1,rfl,by rw [List.length_map],by omega,by omega,fun _=>⟨g,off+8,c,z,rfl,e2,fun j u hu=>?_⟩,fun x hx=>h6 x (List.mem_cons_of_mem _ hx)⟩
   have:=e3 (8+j) u (by rw [hcons,List.getElem?_append_right (by omega),hl,Nat.add_sub_cancel_left];exact hu)
   rw [show off+8+j=off+(8+j) by omega]
   exact this
theorem ItemsAt.nil' {t:ByteArray}{w:World}{B0:Nat}{v:Value}(h:ItemsAt t w B0 v []):∃ a cap,v=.slice a 0 cap:=by
 obtain ⟨us,a,cap,h1,h2,_⟩:=h
 cases us with
 | nil=>exact ⟨a,cap,h2⟩
 | cons y us=>simp at h1
theorem ItemsAt.none (t:ByteArray)(w:World)(B0:Nat):ItemsAt t w B0 (.slice none 0 0) []:=
 ⟨[],.none,0,rfl,rfl,Nat.le_refl _,Nat.zero_le _,fun h=>by simp at h,fun x hx=>by simp at hx⟩
end Go.Proofs.YtmmmnghiegajmaaGreat
