import Derived.Test.YtmmmnghiegajmaaGreatM45
import Derived.Test.YtmmmnghiegajmaaGreatM44
import Derived.Test.YtmmmnghiegajmaaGreatRows
import Derived.ProofKit
import Derived.OpenShut
import Derived.HandedShaped
import Derived.Carry
import Derived.Test.YtmmmnghiegajmaaGreatM31
import Derived.Test.YtmmmnghiegajmaaGreatM21
set_option maxHeartbeats 8000000
namespace Go.Proofs.YtmmmnghiegajmaaGreat
open Go.RowKit Go.Proofs.Herald
structure OpI where
 k:Int
 a:Int
 b:Int
 c:Int
 str:ByteArray
def ziz (x:OpI):List Value:=[.int .i64 x.k,.int .i64 x.a,.int .i64 x.b,.int .i64 x.c,.string x.str]
def zmN (W:World)(sa:Option Addr)(sb soff:Nat)(ops:List OpI):Prop:=0<ops.length->sa=some ⟨sb,soff,none⟩/\sb<W.heap.size/\∀ (i:Nat) (hi:i<ops.length) (j:Nat) (u:Value),(ziz ops[i])[j]?=some u->W.cell? ⟨sb,soff+i*5+j,none⟩=some u
theorem zoV {RT:Type}{M:Mode RT}{G:RT->Prop}{ρ:RT->Pr->Prop}{CB:World->Prop}{cs:List Ins}(K:Kinds M G ρ CB cs)(Pb H S Q O:Nat)(u tv:Value)(i:Nat)(hm:Her Pr)(hd:Her RT)(s:PSt)(o:OSt)(x:OpI)(w:World)(h:ST M G ρ CB w Pb H S Q O u tv cs i hm hd s o)(hi:i<=1100000)(hk:x.k<=6):
  Calls Tryz.prog 13 #[.pointer (some ⟨Pb,0,none⟩),.agg #[.int .i64 x.k,.int .i64 x.a,.int .i64 x.b,.int .i64 x.c,.string x.str],.pointer (some ⟨O,0,none⟩)] w fun e w'=>e=.returned (.bool true)/\zfp M G ρ CB w Pb H S Q O u tv cs i w':=by
 obtain ⟨k,a,b,c,str⟩:=x
 simp only at hk ⊢
 by_cases h0:k<=0
 .exact znF K Pb H S Q O u tv i hm hd s o k a b c str w h (.inl h0)
 .rcases (show k=1\/k=2\/k=3\/k=4\/k=5\/k=6 by omega) with rfl|rfl|rfl|rfl|rfl|rfl
  .exact znI K Pb H S Q O u tv i hm hd s o a b c str w h hi
  .exact znH K Pb H S Q O u tv i hm hd s o a b c str w h hi
  .exact zoU K Pb H S Q O u tv i hm hd s o a b c str w h hi
  .exact zkJ K Pb H S Q O u tv i hm hd s o a b c str w h hi
  .exact zmo K Pb H S Q O u tv i hm hd s o a b c str w h hi
  .exact znG K Pb H S Q O u tv i hm hd s o a b c str w h hi
set_option maxRecDepth 20000 in
theorem znJ {RT:Type}{M:Mode RT}{G:RT->Prop}{ρ:RT->Pr->Prop}{CB:World->Prop}{cs:List Ins}(K:Kinds M G ρ CB cs)(Pb H S Q:Nat)(u tv:Value)(s:PSt)(sa:Option Addr)(sb soff scap:Nat)(ops:List OpI)(w:World)(hp:PP M CB w Pb H S Q u tv cs zgF zgF s)(hn:s.n=0)(hdr:s.drec.size=0)(hsc:zmN w sa sb soff ops)(hsb:0<ops.length->sb<M.B0)(hlen:ops.length<=1048576):
  Calls Tryz.prog 9 #[.pointer (some ⟨Pb,0,none⟩),.slice sa ops.length scap,.int .i64 6] w fun e w'=>e=.returned (.bool true)/\Below M.B0 w w':=by
 have hB0:M.B0<=w.heap.size:=by have h1:=hp.pb;have h2:=zae hp.p;omega
 have HST:Hid (ST M G ρ CB (w.alloc (.cells #[.int .i64 0,.slice none 0 0,.slice none 0 0,.slice none 0 0] 28)) Pb H S Q w.heap.size u tv cs 0 zgF zgF s ⟨0,.slice none 0 0,.slice none 0 0,.slice none 0 0,[],[],[]⟩):=by
  have hb:Below w.heap.size w (w.alloc (.cells #[.int .i64 0,.slice none 0 0,.slice none 0 0,.slice none 0 0] 28)):=(Below.refl _ _).alloc (Nat.le_refl _) _
  have hX:∀ k,zeE w.heap.size ⟨0,.slice none 0 0,.slice none 0 0,.slice none 0 0,[],[],[]⟩ k->k=w.heap.size:=fun k hk=>by
   rcases hk with hk|hk|hk|hk|⟨b,hb,_⟩|⟨b,hb,_⟩|⟨b,hb,_⟩
   .exact hk
   .cases hk
   .cases hk
   .cases hk
   .cases hb
   .cases hb
   .cases hb
  refine ⟨⟨hp.below K.hM K.hCB hb,⟨heap_alloc_new _ _,.inl rfl,World.ownsRow_nil _ _ _ _,World.ownsRow_nil _ _ _ _,World.ownsRow_nil _ _ _ _,fun b hb=>(by cases hb),fun b hb=>(by cases hb),fun b hb=>(by cases hb),fun b hb=>(by cases hb),fun b hb=>(by cases hb),fun b hb=>(by cases hb)⟩,fun k hk hx=>?_,fun k hk=>?_⟩,SameHer.new ρ,(HOk.new _ _).mono (by simp),(HOk.new _ _).mono (by simp),QsOk.new,by simp [zgF],by omega,by omega,by simp,by simp,by simp,by simp,by simp⟩
  .have:=hp.lt hk
   have:=hX k hx
   omega
  .have:=hX k hk
   omega
 have HSC:Hid (zmN w sa sb soff ops/\(0<ops.length->sb<M.B0)):=⟨hsc,hsb⟩
 clear hp hn hdr hsc hsb
 go_enter Tryz.func9,Tryz.ntmps9
 go_wp2_with fail
 go_loopw [8] (fun i wr=>∃ k:Nat,k<=ops.length/\i=.int .i64 k/\Hid (∃ hm hd s o,ST M G ρ CB wr Pb H S Q w.heap.size u tv cs k hm hd s o)/\Hid (Below M.B0 w wr)) (fun i _=>ops.length - (intOf i).toNat)
 case atStart=>exact ⟨0,Nat.zero_le _,rfl,⟨_,_,_,_,HST.out⟩,((Below.refl _ _).alloc (Nat.le_refl _) _).mono hB0⟩
 case round=>
  obtain ⟨k,hk,rfl,HS,HB⟩:=hrel
  obtain ⟨hm,hd,s',o',hS⟩:=HS.out
  by_cases hlt:k<ops.length
  .obtain ⟨rfl,hsw,hcell⟩:=HSC.out.1 (by omega)
   have hsb:=HSC.out.2 (by omega)
   have cell:∀ j v,(ziz ops[k])[j]?=some v->wr.cell? ⟨sb,soff+k*5+j,none⟩=some v:=fun j v hj=>(HB.out.cell (p:=⟨sb,soff+k*5+j,none⟩) hsb).trans (hcell k hlt j v hj)
   have e0:wr.cell? ⟨sb,soff+k*5,none⟩=some (.int .i64 ops[k].k):=cell 0 _ rfl
   have e1:wr.cell? ⟨sb,soff+k*5+1,none⟩=some (.int .i64 ops[k].a):=cell 1 _ rfl
   have e2:wr.cell? ⟨sb,soff+k*5+2,none⟩=some (.int .i64 ops[k].b):=cell 2 _ rfl
   have e3:wr.cell? ⟨sb,soff+k*5+3,none⟩=some (.int .i64 ops[k].c):=cell 3 _ rfl
   have e4:wr.cell? ⟨sb,soff+k*5+4,none⟩=some (.string ops[k].str):=cell 4 _ rfl
   generalize ops[k]=x at *
   by_cases hx:6<x.k
   .have HN:Hid (zfp M G ρ CB wr Pb H S Q w.heap.size u tv cs k wr):=hS.stay K (Below.refl _ _)
    clear hS cell hcell HS
    go_wp2_with fail
    go_roundw
    case rel=>
     obtain ⟨hm2,hd2,s2,o2,h2,_⟩:=HN.out
     exact ⟨k+1,by omega,by go_num,⟨hm2,hd2,s2,o2,h2⟩,HB⟩
    case measure=>simp [intOf];omega
   .have hx6:x.k<=6:=by omega
    have HC:Hid (Calls Tryz.prog 13 #[.pointer (some ⟨Pb,0,none⟩),.agg #[.int .i64 x.k,.int .i64 x.a,.int .i64 x.b,.int .i64 x.c,.string x.str],.pointer (some ⟨w.heap.size,0,none⟩)] wr fun e w'=>e=.returned (.bool true)/\zfp M G ρ CB wr Pb H S Q w.heap.size u tv cs k w'):=zoV K Pb H S Q w.heap.size u tv k hm hd s' o' x wr hS (by omega) hx6
    clear hS cell hcell HS
    go_wp2_with fail
    refine HC.out.mono ?_
    rintro e w1 ⟨rfl,hN⟩
    have HN:=zHd hN
    clear hN HC e0 e1 e2 e3 e4
    go_wp2_with fail
    go_roundw
    case rel=>
     obtain ⟨hm2,hd2,s2,o2,h2,h3⟩:=HN.out
     exact ⟨k+1,by omega,by go_num,⟨hm2,hd2,s2,o2,h2⟩,HB.out.trans h3⟩
    case measure=>simp [intOf];omega
  .have hlk:Hid (Calls Tryz.prog 15 #[.pointer (some ⟨Pb,0,none⟩),.pointer (some ⟨w.heap.size,0,none⟩)] wr fun e w'=>e=.returned (.bool true)/\Below M.B0 w w'):=by
    have h3:=hS.on1
    have h4:=hS.rb
    have h5:=hS.qb
    have h7:=hS.cb
    have h8:=hS.on0
    refine (zh7 K.hM K.hCB Pb H S Q w.heap.size u tv cs hm hd s' o' wr K.hE hS.same hS.lk hS.okm.len hS.okm.qlen h8 (by omega) (by omega) (by omega) (by omega)).mono ?_
    rintro e w' ⟨rfl,o2,_,_,_,_,_,_,l7⟩
    exact ⟨rfl,HB.out.trans (ze9 l7 (fun k _ hz=>hS.lk.ob k hz) (by have:=HB.out.size;omega))⟩
   clear hS HS
   go_wp2_with fail
   refine hlk.out.mono ?_
   rintro e w1 ⟨rfl,hb⟩
   have HB1:=zHd hb
   clear hb hlk
   go_wp2_with fail
   go_ret
   exact ⟨rfl,HB1.out⟩
open Go.RowKit Go.Proofs.Herald
def zfR (v:Value):PSt:=⟨v,.slice none 0 0,.slice none 0 0,fun _=>.slice none 0 0,0,⟨#[]⟩,.slice none 0 0,fun _=>.slice none 0 0,[]⟩
theorem zqF {RT:Type}{M:Mode RT}{CB:World->Prop}{cs:List Ins}{w:World}{Pb H S Q:Nat}{v u tv:Value}(hP:w.heap[Pb]?=some (.cells #[.pointer (some ⟨H,0,none⟩),.pointer (some ⟨S,0,none⟩),u,tv] 42 (0,0)))(hH:w.heap[H]?=some (.cells (zjv v) 114 (0,0)))(hv:w.ownsRow M.B0 91 4 v cs.length (zai cs))
  (hS:w.heap[S]?=some (.cells #[.bool M.s.tx,M.s.pg,M.s.code,.int .i64 0,.int .i64 0,.slice none 0 0,.slice (some ⟨Q,0,none⟩) 3 3,.string ⟨#[]⟩] 60 (0,0))/\w.heap[Q]?=some (.cells #[.slice none 0 0,.slice none 0 0,.slice none 0 0] 99 (0,0))) (hcl:CB w)
  (h1:M.B0<=Pb) (h2:M.B0<=H) (h3:M.B0<=S) (h4:M.B0<=Q):PP M CB w Pb H S Q u tv cs zgF zgF (zfR v):=by
 have hF:∀ k,zhp H (zfR v).code (zfR v).jr (zfR v).rv (zfR v).qv k->k=H\/v.ownBlock=some k:=fun k hk=>by
  rcases hk with (hk|⟨d,_,hk⟩|hk)|hk|hk
  .exact .inl hk
  .cases hk
  .cases hk
  .cases hk
  .exact .inr hk
 have hD:∀ k,zdc S Q (zfR v).pv (zfR v).dqv (zfR v).rs k->k=S\/k=Q:=fun k hk=>by
  rcases hk with hk|hk|⟨d,_,hk⟩|hk|⟨x,hx,_⟩
  .exact .inl hk
  .exact .inr hk
  .cases hk
  .cases hk
  .cases hx
 have hty:∀ k,zhp H (zfR v).code (zfR v).jr (zfR v).rv (zfR v).qv k->∃ c t,w.heap[k]?=some (.cells c t (0,0))/\(t=114\/t=91):=fun k hk=>by
  rcases hF k hk with rfl|hk
  .exact ⟨_,_,hH,.inl rfl⟩
  .obtain ⟨c,hc⟩:=zad (zcr hv) hk
   exact ⟨_,_,hc,.inr rfl⟩
 refine ⟨hP,⟨⟨⟨hH,fun d _=>World.ownsRow_nil _ _ _ _,fun d _=>by simp [zgF],fun d e b _ _ hb=>(by cases hb),World.ownsRow_nil _ _ _ _,fun p hp=>(by simp [zgF] at hp)⟩,zcr hv⟩,[],rfl,World.ownsRow_nil _ _ _ _⟩,⟨⟨hS.1,hS.2,fun d _=>World.ownsRow_nil _ _ _ _,fun d e b _ _ hb=>(by cases hb),World.ownsRow_nil _ _ _ _,fun x hx=>(by cases hx),List.Pairwise.nil⟩,fun k hk=>?_,trivial⟩,hcl,fun k hk hk2=>?_,fun hk=>?_,fun hk=>?_,fun k hk=>?_,h1⟩
 .show M.B0<=k
  rcases hD k hk with rfl|rfl
  .exact h3
  .exact h4
 .obtain ⟨c,t,hc,ht⟩:=hty k hk
  rcases hD k hk2 with rfl|rfl
  .rcases ht with rfl|rfl
   .exact zac hc hS.1 (by decide) rfl
   .exact zac hc hS.1 (by decide) rfl
  .rcases ht with rfl|rfl
   .exact zac hc hS.2 (by decide) rfl
   .exact zac hc hS.2 (by decide) rfl
 .obtain ⟨c,t,hc,ht⟩:=hty Pb hk
  rcases ht with rfl|rfl
  .exact zac hc hP (by decide) rfl
  .exact zac hc hP (by decide) rfl
 .rcases hD Pb hk with h|h
  .exact zac hP hS.1 (by decide) h
  .exact zac hP hS.2 (by decide) h
 .show M.B0<=k
  rcases hF k hk with rfl|hk
  .exact h2
  .exact (zao hv hk).1
open Go.ChangeShapes Go.WideShapes Go.ChangeAt Go.RowKit Go.Proofs.Herald
theorem Tryz.cellsOp:Tryz.prog.cellsOf 47=5:=by kernel_rfl
theorem Tryz.cellsStr:Tryz.prog.cellsOf 9=1:=by kernel_rfl
theorem zom {H:Type}(d:DataW H):1<=Rows.uptoBulk d:=by
 cases d with
 | lit l=>cases l <;> simp [Rows.uptoBulk]
 | nil=>simp [Rows.uptoBulk]
 | ptr d=>simp [Rows.uptoBulk]
 | slice a b=>simp [Rows.uptoBulk]
 | agg p=>simp [Rows.uptoBulk]
 | iface t d=>simp [Rows.uptoBulk]
 | map e=>simp [Rows.uptoBulk]
 | held h=>simp [Rows.uptoBulk]
theorem zk7 {H:Type}:∀ (l:List (DataW H)),l.length<=Rows.uptoBulkAll l
 | []=>Nat.zero_le _
 | d::r=>by
  have h1:=zom d
  have h2:=zk7 r
  simp only [Rows.uptoBulkAll,List.length_cons]
  omega
theorem zlP {H:Type}(a b:List (DataW H)):a.length<=Rows.uptoBulk (.slice a b):=by
 have h1:=zk7 a
 simp only [Rows.uptoBulk]
 omega
set_option maxRecDepth 100000 in
theorem zkH {H:Type}{enc:TypeId×Value->H}{W:World}{sp:Nat->Bool}{held:Bool}{r:Reach}{b0:Nat}{v:Value}{d:DataW H}{ps:List MemPlace}(hval:Value.okWide Tryz.prog W r b0 22 v)(hd:DataW.Trod enc Tryz.prog W 0 sp held 22 v d ps)(_:True):
  ∃ a cap b off cs,v=.slice a (List.length cs) cap/\zmN W a b off cs/\List.length cs<=Rows.uptoBulk d:=by
 obtain ⟨a0,len,cap,rfl⟩:=okWide_slice Tryz.underlying22 hval
 obtain ⟨fuel,hf⟩:=hd
 rcases DataW.trod_slice Tryz.underlying22 hf with ⟨h,hx⟩|⟨ad,len',cap',elems,rest,m,_,h,hx,_,hle,_,hlen,hel,_,_⟩
 .simp [Value.cells] at h
  obtain ⟨rfl,rfl,rfl⟩:=h
  exact ⟨none,0,0,0,[],rfl,fun h=>absurd h (by simp),Nat.zero_le _⟩
 .simp [Value.cells] at h
  obtain ⟨rfl,rfl,rfl⟩:=h
  simp only [Prod.mk.injEq] at hx
  obtain ⟨rfl,_⟩:=hx
  rw [Tryz.cellsOp] at hel
  have each:∀ i,i<len->∃ x:OpI,∀ j u,(ziz x)[j]?=some u->W.cell? ((ad.add (i*5)).add j)=some u:=by
   intro i hi
   obtain ⟨y,hy⟩:∃ y,elems[i]?=some y:=⟨elems[i],List.getElem?_eq_getElem (by omega)⟩
   have h1:=hel i hi
   rw [hy,Option.bind_eq_some_iff] at h1
   obtain ⟨cs5,hc5,ht⟩:=h1
   obtain ⟨_,hl5,hcell⟩:=World.cells?_some hc5
   obtain ⟨xs,k,_,_,_,hxs,hfield⟩:=DataW.trod_struct Tryz.underlying47 ht
   have fld:∀ (j:Nat) (f:Field),j<4->(#[{name := "Kind",type:=3,offset:=0,embedded:=false,tag := "",pkgPath := "",byteOffset:=0},{name := "A",type:=3,offset:=1,embedded:=false,tag := "",pkgPath := "",byteOffset:=8},{name := "B",type:=3,offset:=2,embedded:=false,tag := "",pkgPath := "",byteOffset:=16},{name := "C",type:=3,offset:=3,embedded:=false,tag := "",pkgPath := "",byteOffset:=24},{name := "S",type:=9,offset:=4,embedded:=false,tag := "",pkgPath := "",byteOffset:=32}]:Array Field)[j]?=some f->f.type=3->f.offset=j->∃ z:Int,cs5[j]?=some (.int .i64 z):=by
    intro j f hj hf1 hf2 hf3
    have h2:=hfield j f hf1
    have hxj:xs[j]?=some (xs[j]'(by rw [hxs];exact Nat.lt_trans hj (by decide))):=List.getElem?_eq_getElem _
    rw [hxj,hf2,hf3,Tryz.cells3] at h2
    exact zpV h2
   obtain ⟨z0,e0⟩:=fld 0 _ (by omega) rfl rfl rfl
   obtain ⟨z1,e1⟩:=fld 1 _ (by omega) rfl rfl rfl
   obtain ⟨z2,e2⟩:=fld 2 _ (by omega) rfl rfl rfl
   obtain ⟨z3,e3⟩:=fld 3 _ (by omega) rfl rfl rfl
   obtain ⟨z4,e4⟩:∃ z:ByteArray,cs5[4]?=some (.string z):=by
    have h2:=hfield 4 {name := "S",type:=9,offset:=4,embedded:=false,tag := "",pkgPath := "",byteOffset:=32} rfl
    have hxj:xs[4]?=some (xs[4]'(by rw [hxs];decide)):=List.getElem?_eq_getElem _
    rw [hxj] at h2
    simp only [Tryz.cellsStr] at h2
    obtain ⟨z,hz,_⟩:=DataW.trod_string Tryz.underlying9 h2
    refine ⟨z,?_⟩
    have h0:((cs5.drop 4).take 1)[0]?=some (.string z):=by rw [hz];rfl
    rw [List.getElem?_take_of_lt (by omega),List.getElem?_drop] at h0
    simpa using h0
   refine ⟨⟨z0,z1,z2,z3,z4⟩,fun j u hj=>?_⟩
   have hj5:j<5:=by have:=(List.getElem?_eq_some_iff.mp hj).1;simpa [ziz] using this
   rw [hcell j hj5]
   match j,hj5 with
   | 0,_=>rw [e0];exact hj
   | 1,_=>rw [e1];exact hj
   | 2,_=>rw [e2];exact hj
   | 3,_=>rw [e3];exact hj
   | 4,_=>rw [e4];exact hj
  by_cases hpos:0<len
  .obtain ⟨x0,hx0⟩:=each 0 hpos
   obtain ⟨b,off,spot⟩:=ad
   have g0:=hx0 0 _ rfl
   have hspot:spot=none:=by simpa [Addr.add] using World.cell?_spot g0
   subst hspot
   have hblk:b<W.heap.size:=by
    rcases Nat.lt_or_ge b W.heap.size with h|h
    .exact h
    .exfalso
     have h2:W.heap[b]?=none:=Array.getElem?_eq_none h
     have g1:=g0
     rw [Addr.add_lit,Addr.add_lit] at g1
     simp [World.cell?,h2] at g1
   refine ⟨_,cap,b,off,List.ofFn (fun i:Fin len=>Classical.choose (each i.1 i.2)),by rw [List.length_ofFn],fun _=>⟨rfl,hblk,fun i hi j u hj=>?_⟩,by rw [List.length_ofFn];exact Nat.le_trans (by rw [List.length_map];omega) (zlP _ _)⟩
   rw [List.length_ofFn] at hi
   rw [List.getElem_ofFn] at hj
   have h1:=Classical.choose_spec (each i hi) j u hj
   rw [Addr.add_lit,Addr.add_lit] at h1
   exact h1
  .obtain rfl:len=0:=by omega
   exact ⟨_,cap,0,0,[],rfl,fun h=>absurd h (by simp),Nat.zero_le _⟩
end Go.Proofs.YtmmmnghiegajmaaGreat
set_option maxHeartbeats 4000000
namespace Go.Proofs.YtmmmnghiegajmaaGreat
open Go.RowKit Go.Proofs.Herald
set_option maxRecDepth 20000 in
theorem ziL {t:ByteArray}{tr:Tree 5}(hT:TextOk t tr)(ht:t.size<=400)(pg:Value)(B0:Nat){G:TR->Prop}(S Q:Nat)(rec:ByteArray)(h:Her TR)(pv:Value)(qv:Nat->Value)(rs:List Rs)(dev C:Int)(w:World)(H:SimH (zgs t tr pg B0) w S Q rec h pv qv rs)(htr:TreeAt t w (fun _=>True) 5 pg tr)(hI:HOk (zhO t tr) G C h)(hr:rec.size<=1000000000000)(hlast:h.last<=1000000000000000000)(hd:0<=dev/\dev<=2)(hl:¬ 5<=h.rs.length):
  Calls Tryz.prog 35 #[.pointer (some ⟨S,0,none⟩),.int .i64 dev] w fun e w'=>e=.returned (.tuple #[.int .i64 (h.last+1),.int .i64 0])/\SimOut (zgs t tr pg B0) w S Q pv qv rs (rec++ziB 84 dev 0) (zb7 (zhO t tr) h dev).2.2 w':=by
 have hb:=zla hd
 have hl2:rs.length<5:=by rw [zdG H.rel];omega
 obtain ⟨pa,pc,hpv⟩:=zag H.at'.lB
 subst hpv
 have c4:w.cell? ⟨S,4,none⟩=some (.int .i64 h.last):=(zaa H.at'.sB).trans rfl
 have c5:w.cell? ⟨S,5,none⟩=some (.slice pa rs.length pc):=(zaa H.at'.sB).trans rfl
 have z4:w.frozen? ⟨S,4,none⟩=false:=zab H.at'.sB
 have hSl:=zae H.at'.sB
 have hl0:=hI.last0
 have HH:=zHd H
 have HI:=zHd hI
 have HTR:=zHd htr
 have HTX:=zHd hT
 have HID:Hid (∀ y∈rs,y.p.id≠h.last+1):=fun y hy=>by
  obtain ⟨r,hrm,hlk⟩:=zlz H.rel hy
  have h1:=hI.id r hrm
  have h2:=(zfg t tr pg B0).pub w y r hlk
  have h3:(zhO t tr).pub r=zcE y.p:=h2
  rw [h3] at h1
  simp only [zcE] at h1
  omega
 have HE:Hid ((zb7 (zhO t tr) h dev).2.2={h with last:=h.last+1,qs:=zcc h.qs dev.toNat (doT t h.now (msT t 5 tr+1) (zaT 5 tr) (h.qs dev.toNat) ⟨zaZ (h.last+1) dev,[],[]⟩).1,rs:=zbe (zhO t tr) (h.rs++[(⟨zaZ (h.last+1) dev,[],[]⟩:TR)]) (doT t h.now (msT t 5 tr+1) (zaT 5 tr) (h.qs dev.toNat) ⟨zaZ (h.last+1) dev,[],[]⟩).2.1 (doT t h.now (msT t 5 tr+1) (zaT 5 tr) (h.qs dev.toNat) ⟨zaZ (h.last+1) dev,[],[]⟩).2.2}):=by
  show _=_
  unfold zb7
  rw [if_neg (fun hh=>hh hd),if_neg hl]
  rfl
 rw [HE.out]
 have HD2:Hid (dev=(dev.toNat:Nat)):=(by omega:dev=(dev.toNat:Nat))
 have hd3:dev.toNat<3:=by omega
 clear H hI htr hT hl hd
 go_enter Tryz.func35,Tryz.ntmps35
 go_wp2_with fail
 refine (zar _ _ _ _).mono ?_
 rintro e w1 ⟨rfl,rfl⟩
 rw [hb]
 have hmk:=zqx (w1.setCell ⟨S,4,none⟩ (.int .i64 (h.last+1))).drew
 go_upto_region 7 with fail
 go_region
 clear hmk
 rw [show ((w1.setCell ⟨S,4,none⟩ (.int .i64 (h.last+1))).alloc (.cells zkM 3)).alloc (.cells #[.int .i64 (h.last+1),.int .i64 dev,.int .i64 0,.int .i64 0,.int .i64 0,.slice none 0 0,.slice none 0 0,.slice (some ⟨w1.heap.size,0,none⟩) 12 12,.int .i64 0,.int .i64 0] 147)=ziU w1 S (h.last+1) dev from rfl]
 have HSB:Hid ((ziU w1 S (h.last+1) dev).heap[S]?=_):=zpi (h.last+1) dev HH.out.at'.sB
 have HOW:Hid ((ziU w1 S (h.last+1) dev).ownsRow 0 144 1 (.slice pa rs.length pc) rs.length (zf8 (zbN rs))):=zaj HH.out.at'.lB fun k hk=>by
  obtain ⟨c,hc⟩:=zad HH.out.at'.lB hk
  exact zib _ _ _ _ (zae hc) (zac hc HH.out.at'.sB (by decide))
 have HNE:Hid ((Value.slice pa rs.length pc).ownBlock≠some S):=fun e=>by
  obtain ⟨c,hc⟩:=zad HH.out.at'.lB e
  exact zac hc HH.out.at'.sB (by decide) rfl
 have hn5:(ziU w1 S (h.last+1) dev).cell? ⟨S,5,none⟩=some (.slice pa rs.length pc):=(zaa HSB.out).trans rfl
 have hnl:=zae HSB.out
 have HM:Hid (∀ (V w2:World) (g cap':Nat),OneMore (ziU w1 S (h.last+1) dev) V->V.grownBy w2 (Value.slice pa rs.length pc).ownBlock->w2.ownsRow 0 144 1 (.slice (some ⟨g,0,none⟩) (rs.length+1) cap') (rs.length+1) (zf8 (zbN rs)++[.pointer (some ⟨w1.heap.size+1,0,none⟩)])->((Value.slice pa rs.length pc).ownBlock=some g\/g=V.heap.size)->_):=fun V w2 g cap' h0 hg ho hat=>zo7 HH.out dev HID.out h0 hg ho hat
 generalize ziU w1 S (h.last+1) dev=W at *
 go_wp2_with (at_builtin;refine za7 _ rfl (.tmp 38) (.tmp 40) 57 rfl 144 _ 1 8 Tryz.underlying57 Tryz.infoProcP rfl (by decide) (by decide) (.slice pa rs.length pc) rs.length (zf8 (zbN rs)) W.heap.size [.pointer (some ⟨w1.heap.size+1,0,none⟩)] (by rfl) (by exact HOW.out.alloc _) (by exact heap_alloc_new _ _) (by rfl) rfl (by simp [Value.oneCell']) (by omega) ?_)
 intro g1 cap1 w2 hown1 hgrow hat hlt1
 have hA:=HM.out _ w2 g1 cap1 (OneMore.alloc _ _).drew hgrow hown1 (hat.imp id fun e=>e.trans (by simp))
 have hS2:=zal (OneMore.alloc _ _).drew hgrow HSB.out HNE.out
 have q5:w2.cell? ⟨S,5,none⟩=some (.slice pa rs.length pc):=(zaa hS2).trans rfl
 have y5:w2.frozen? ⟨S,5,none⟩=false:=zab hS2
 have HA:=zHd hA
 clear hA hS2 hown1 hgrow hat hlt1 HM HSB HOW HNE hn5 hnl
 have HB0:Hid (B0<=w1.heap.size):=by
  have h1:=HH.out.base S (.inl rfl)
  exact Nat.le_trans h1 (Nat.le_of_lt hSl)
 have HST2:Hid (Still B0 w1 (w2.setCell ⟨S,5,none⟩ (.slice (some ⟨g1,0,none⟩) (rs.length+1) cap1))):=HH.out.at'.still HH.out.base HA.out.2.1
 have HSH:Hid (SimH (zgs t tr pg B0) (w2.setCell ⟨S,5,none⟩ (.slice (some ⟨g1,0,none⟩) (rs.length+1) cap1)) S Q rec {h with last:=h.last+1,rs:=h.rs++[(⟨zaZ (h.last+1) dev,[],[]⟩:TR)]} (.slice (some ⟨g1,0,none⟩) (rs.length+1) cap1) qv (rs++[zfQ w1 (h.last+1) dev])):=by
  refine ⟨HA.out.1,fun k hk=>?_,zep (zcC (fun x r hl=>(zfg t tr pg B0).keep w1 _ x r hl HST2.out) HH.out.rel) ⟨⟨rfl,Nat.le_trans HB0.out HA.out.2.1.size,ItemsAt.none _ _ _,ItemsAt.none _ _ _,ItsOk.nil _,ItsOk.nil _⟩,trivial⟩⟩
  rcases HA.out.2.2 k hk with h1|h1
  .exact HH.out.base k h1
  .exact Nat.le_trans HB0.out h1
 go_wp2_with fail
 refine (zeZ (zfg t tr pg B0) S Q rec _ _ qv _ 84 dev 0 _ HSH.out hr).mono ?_
 rintro e w4 ⟨rfl,hS4,hf4⟩
 have HF4:=zHd hf4
 have HS4:=zHd hS4
 have HT4:Hid (TreeAt t w4 (fun _=>True) 5 pg tr):=TreeAt.still (HSH.out.at'.still HSH.out.base (hf4.mono fun k _ hk=>.inl hk)) _ _ _ (TreeAt.still HST2.out _ _ _ HTR.out)
 obtain ⟨ga,gn,gc,hpg⟩:=HT4.out.one
 have s0:w4.cell? ⟨S,0,none⟩=some (.bool true):=(zaa hS4.at'.sB).trans rfl
 have s1:w4.cell? ⟨S,1,none⟩=some (.slice ga gn gc):=by rw [<- hpg];exact (zaa hS4.at'.sB).trans rfl
 have HB4:Hid (B0<=w4.heap.size):=Nat.le_trans (Nat.le_trans HB0.out HA.out.2.1.size) hf4.size
 clear hf4 hS4 q5 y5
 have HITS:Hid (ItsOk t (zaT 5 tr)):=HTX.out.its ht
 have HBE:Hid (Calls Tryz.prog 67 #[.slice ga gn gc,.slice none 0 0] w4 fun e w'=>∃ ov,e=.returned ov/\ItemsAt t w' B0 ov (zaT 5 tr)/\Below w4.heap.size w4 w'):=by
  have h1:=zde t B0 5 tr (.slice ga gn gc) (.slice none 0 0) [] w4 HB4.out (by rw [<- hpg];exact HT4.out) (ItemsAt.none _ _ _) (Nat.le_trans HITS.out.len (by omega)) (Nat.zero_le _)
  rw [List.append_nil] at h1
  exact h1
 have HX:Hid (zfQ w1 (h.last+1) dev∈rs++[zfQ w1 (h.last+1) dev]):=List.mem_append_right _ (List.mem_singleton.mpr rfl)
 have HRUN:Hid (∀ w5 ov,Below w4.heap.size w4 w5->ItemsAt t w5 B0 ov (zaT 5 tr)->Calls Tryz.prog 66 #[.pointer (some ⟨S,0,none⟩),.pointer (some ⟨w1.heap.size+1,0,none⟩),ov] w5 fun e w6=>e=.returned (.tuple #[]) /\
   w6.cell? ⟨w1.heap.size+1,0,none⟩=some (.int .i64 (h.last+1))/\SimOut (zgs t tr pg B0) w1 S Q (.slice pa rs.length pc) qv rs (rec++ziB 84 dev 0) {h with last:=h.last+1,qs:=zcc h.qs dev.toNat (doT t h.now (msT t 5 tr+1) (zaT 5 tr) (h.qs dev.toNat) ⟨zaZ (h.last+1) dev,[],[]⟩).1,rs:=zbe (zhO t tr) (h.rs++[(⟨zaZ (h.last+1) dev,[],[]⟩:TR)]) (doT t h.now (msT t 5 tr+1) (zaT 5 tr) (h.qs dev.toNat) ⟨zaZ (h.last+1) dev,[],[]⟩).2.1 (doT t h.now (msT t 5 tr+1) (zaT 5 tr) (h.qs dev.toNat) ⟨zaZ (h.last+1) dev,[],[]⟩).2.2} w6):=fun w5 ov hb5 hi5=>by
  have H5:=HS4.out.below (zfg t tr pg B0) hb5
  have hlk:LinkT t B0 w5 (zfQ w1 (h.last+1) dev) ⟨zaZ (h.last+1) dev,[],[]⟩:=⟨rfl,Nat.le_trans HB4.out hb5.size,ItemsAt.none _ _ _,ItemsAt.none _ _ _,ItsOk.nil _,ItsOk.nil _⟩
  have hT5:∀ k,zei S Q (zfQ w1 (h.last+1) dev).P (zfQ w1 (h.last+1) dev).R (qv dev.toNat) k->B0<=k:=fun k hk=>H5.base k (by
   rcases hk with e|e|e|e|e
   .exact .inr (.inr (.inr (.inr ⟨_,HX.out,.inl e⟩)))
   .exact .inr (.inl e)
   .exact .inr (.inr (.inr (.inr ⟨_,HX.out,.inr e⟩)))
   .exact .inl e
   .exact .inr (.inr (.inl ⟨dev.toNat,hd3,e⟩)))
  have hdo:=zrk t B0 S Q (zgs t tr pg B0).s (.slice (some ⟨g1,0,none⟩) (rs.length+1) cap1) (rec++ziB 84 dev 0) h.now (h.last+1) qv h.qs (zbN (rs++[zfQ w1 (h.last+1) dev])) (zfQ w1 (h.last+1) dev) dev.toNat ⟨zaZ (h.last+1) dev,[],[]⟩ (zaT 5 tr) ov w5 (H5.at'.core HX.out) H5.at'.procs (by unfold zbN;rw [List.length_map,List.length_append,List.length_singleton];omega) hlk hi5 HITS.out hT5 hd3 HD2.out (HI.out.qlen _) (Int.le_refl 0) (by show (0:Int)<=999999999999990000;omega) HI.out.now0 HI.out.now1
  rw [zdw] at hdo
  refine hdo.mono ?_
  rintro e w6 ⟨rfl,x',v,pv',hro,hlk'⟩
  have hcell:w6.cell? ⟨w1.heap.size+1,0,none⟩=some (.int .i64 (h.last+1)):=by
   have h1:w6.cell? ⟨w1.heap.size+1,0,none⟩=some (.int .i64 x'.p.id):=(zaa hro.core.pB).trans rfl
   rw [hro.id] at h1
   exact h1
  obtain ⟨k1,k2,k3⟩:=H5.after (zfg t tr pg B0) (r':=(doT t h.now (msT t 5 tr+1) (zaT 5 tr) (h.qs dev.toNat) ⟨zaZ (h.last+1) dev,[],[]⟩).2.1) HX.out hd3 hro (zja _ _ _ _) hlk'
  have f45:Fr (zdc S Q (.slice pa rs.length pc) qv rs) w4 w5:=⟨hb5.os,hb5.tape,hb5.output,hb5.size,fun k hk _=>hb5.block k hk⟩
  have f15:Fr (zdc S Q (.slice pa rs.length pc) qv rs) w1 w5:=(HA.out.2.1.trans (HF4.out.mono fun k _ hk=>.inl hk)).trans f45
  refine ⟨rfl,hcell,⟨_,_,_,k1,fun k hk=>?_⟩,((f15.mono (T:=fun j=>zdc S Q (.slice pa rs.length pc) qv rs j\/w1.heap.size<=j) fun _ _ hs=>Or.inl hs).trans (k2.mono fun k _ hk=>HA.out.2.2 k hk)).mono fun j hj hs=>hs.elim id fun h=>by omega⟩
  rcases k3 k hk with h1|h1
  .exact HA.out.2.2 k h1
  .exact .inr (Nat.le_trans f15.size h1)
 clear hpg
 go_wp2_with fail
 refine HBE.out.mono ?_
 rintro e w5 ⟨ov,rfl,hi5,hb5⟩
 obtain ⟨oa,on,oc,rfl⟩:=hi5.form
 have HR5:=HRUN.out w5 _ hb5 hi5
 clear hi5 hb5 HRUN HBE s0 s1
 go_wp2_with fail
 refine HR5.mono ?_
 rintro e w6 ⟨rfl,p0,hend⟩
 have HEN:=zHd hend
 clear hend HR5
 go_wp2_with fail
 go_ret2
 exact ⟨rfl,HEN.out⟩
theorem zn7 {t:ByteArray}{tr:Tree 5}(hT:TextOk t tr)(ht:t.size<=400)(pg:Value)(B0:Nat)(G:TR->Prop):zmI (zgs t tr pg B0) G (fun w=>TreeAt t w (fun _=>True) 5 pg tr):=by
 intro S Q rec h pv qv rs dev C w H htr hI hC hr hlast
 by_cases hd:0<=dev/\dev<=2
 .by_cases hl:5<=h.rs.length
  .refine (ziK S Q rec h pv qv rs dev w H hd hl).mono ?_
   rintro e w' ⟨rfl,ho⟩
   unfold zb7
   rw [if_neg (by simpa using hd),if_pos hl]
   exact ⟨rfl,rec,by omega,ho⟩
  .refine (ziL hT ht pg B0 S Q rec h pv qv rs dev C w H htr hI hr hlast hd hl).mono ?_
   rintro e w' ⟨rfl,ho⟩
   refine ⟨?_,_,?_,ho⟩
   .unfold zb7
    rw [if_neg (by simpa using hd),if_neg hl]
   .rw [ByteArray.size_append,zeU];omega
 .refine (zjP S Q rec h pv qv rs dev w H hd).mono ?_
  rintro e w' ⟨rfl,ho⟩
  unfold zb7
  rw [if_pos (by simpa using hd)]
  exact ⟨rfl,rec,by omega,ho⟩
theorem zmD {t:ByteArray}{tr:Tree 5}(hT:TextOk t tr)(ht:t.size<=400)(pg:Value)(B0:Nat):
  Kinds (zgs t tr pg B0) (fun r=>∃ p,Tied t (zbj t tr) 6400 p r/\zoy (zbj t tr) p) (fun r m=>∃ p,Tied t (zbj t tr) 6400 p r/\StR p m) (fun w=>TreeAt t w (fun _=>True) 5 pg tr) (zbj t tr):=
 ⟨zfg t tr pg B0,fun _ _ h hs=>TreeAt.still hs _ _ _ h,(hT.same ht).comp (zjp (hT.sound ht)),hT.sound ht,(zk8 (hT.sound ht)).same (hT.same ht) (fun _ _=>rfl),(zk8 (hT.sound ht)).same (zjp (hT.sound ht)) (fun _ _=>rfl),zn7 hT ht pg B0 _⟩
end Go.Proofs.YtmmmnghiegajmaaGreat
