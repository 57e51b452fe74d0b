import Derived.Test.YtmmmnghiegajmaaGreatM04
import Derived.Test.YtmmmnghiegajmaaGreatM05
import Derived.Test.YtmmmnghiegajmaaGreatM10
import Derived.Deep.DeepCutAuto
import Derived.Test.YtmmmnghiegajmaaGreatM09
set_option maxHeartbeats 2000000
namespace Go.Proofs.Herald
def zdi (t:ByteArray){T:Type}(sub:T->Nat->Nat->List Ins)(x:Hd×T×T)(rep base:Nat):List Ins:=
 if zaf t x.1.p=zci then [⟨1,x.1.key,0,0⟩]
 else if zaf t x.1.p=zcB then [⟨2,x.1.n,0,0⟩]
 else if zaf t x.1.p=zcN then [⟨0,0,0,0⟩]
 else if zaf t x.1.p=zec then
  ⟨3,x.1.key,x.1.n,((base+2+(sub x.2.1 rep (base+1)).length:Nat):Int)⟩::(sub x.2.1 rep (base+1) ++
   ⟨8,0,0,((base+2+(sub x.2.1 rep (base+1)).length+(sub x.2.2 rep (base+2+(sub x.2.1 rep (base+1)).length)).length:Nat):Int)⟩::sub x.2.2 rep (base+2+(sub x.2.1 rep (base+1)).length))
 else if zaf t x.1.p=zbd then
  ⟨4,4,x.1.m,0⟩::⟨4,5,x.1.n,0⟩::⟨6,x.1.key,5,((base+6+(sub x.2.2 rep (base+5)).length:Nat):Int)⟩::⟨5,5,0,0⟩::⟨7,4,0,((base+2:Nat):Int)⟩::(sub x.2.2 rep (base+5) ++
   ⟨8,0,0,((base+6+(sub x.2.2 rep (base+5)).length+(sub x.2.1 rep (base+6+(sub x.2.2 rep (base+5)).length)).length:Nat):Int)⟩::sub x.2.1 rep (base+6+(sub x.2.2 rep (base+5)).length))
 else if zaf t x.1.p=zax then
  ⟨4,(rep:Nat),x.1.n,0⟩::(sub x.2.1 (rep+1) (base+1)++[⟨7,(rep:Nat),0,((base+1:Nat):Int)⟩])
 else []
def zch (t:ByteArray){T:Type}(sub:T->Nat->Nat->List Ins):List (Hd×T×T)->Nat->Nat->List Ins
 | [],_,_=>[]
 | x::r,rep,base=>zdi t sub x rep base++zch t sub r rep (base+(zdi t sub x rep base).length)
def zaI (t:ByteArray):(d:Nat)->Tree d->Nat->Nat->List Ins
 | 0,_,_,_=>[]
 | d+1,l,rep,base=>zch t (zaI t d) l rep base
theorem zm7 (t:ByteArray)(d rep base:Nat):zaI t d (zcn d) rep base=[]:=by cases d <;> rfl
theorem zf1 {t:ByteArray}{T:Type}(sub:T->Nat->Nat->List Ins)(x:Hd×T×T)(rep base:Nat)(h:zaf t x.1.p=zci):zdi t sub x rep base=[⟨1,x.1.key,0,0⟩]:=by
 unfold zdi;rw [h];rfl
theorem zf3 {t:ByteArray}{T:Type}(sub:T->Nat->Nat->List Ins)(x:Hd×T×T)(rep base:Nat)(h:zaf t x.1.p=zcB):zdi t sub x rep base=[⟨2,x.1.n,0,0⟩]:=by
 unfold zdi;rw [h];rfl
theorem zf2 {t:ByteArray}{T:Type}(sub:T->Nat->Nat->List Ins)(x:Hd×T×T)(rep base:Nat)(h:zaf t x.1.p=zcN):zdi t sub x rep base=[⟨0,0,0,0⟩]:=by
 unfold zdi;rw [h];rfl
theorem zgS {t:ByteArray}{T:Type}(sub:T->Nat->Nat->List Ins)(x:Hd×T×T)(rep base:Nat)(h:zaf t x.1.p=zec):zdi t sub x rep base =
  ⟨3,x.1.key,x.1.n,((base+2+(sub x.2.1 rep (base+1)).length:Nat):Int)⟩::(sub x.2.1 rep (base+1) ++
   ⟨8,0,0,((base+2+(sub x.2.1 rep (base+1)).length+(sub x.2.2 rep (base+2+(sub x.2.1 rep (base+1)).length)).length:Nat):Int)⟩::sub x.2.2 rep (base+2+(sub x.2.1 rep (base+1)).length)):=by
 unfold zdi;rw [h];rfl
theorem zdj {t:ByteArray}{T:Type}(sub:T->Nat->Nat->List Ins)(x:Hd×T×T)(rep base:Nat)(h:zaf t x.1.p=zbd):zdi t sub x rep base =
  ⟨4,4,x.1.m,0⟩::⟨4,5,x.1.n,0⟩::⟨6,x.1.key,5,((base+6+(sub x.2.2 rep (base+5)).length:Nat):Int)⟩::⟨5,5,0,0⟩::⟨7,4,0,((base+2:Nat):Int)⟩::(sub x.2.2 rep (base+5) ++
   ⟨8,0,0,((base+6+(sub x.2.2 rep (base+5)).length+(sub x.2.1 rep (base+6+(sub x.2.2 rep (base+5)).length)).length:Nat):Int)⟩::sub x.2.1 rep (base+6+(sub x.2.2 rep (base+5)).length)):=by
 unfold zdi;rw [h];rfl
theorem zdR {t:ByteArray}{T:Type}(sub:T->Nat->Nat->List Ins)(x:Hd×T×T)(rep base:Nat)(h:zaf t x.1.p=zax):zdi t sub x rep base =
  ⟨4,(rep:Nat),x.1.n,0⟩::(sub x.2.1 (rep+1) (base+1)++[⟨7,(rep:Nat),0,((base+1:Nat):Int)⟩]):=by
 unfold zdi;rw [h];rfl
theorem GL.codeLen {t:ByteArray}{d:Nat}(hs:∀ ws x rep base,GT t d ws x->(zaI t d x rep base).length<=ws.length):∀ (l:List (Hd×Tree d×Tree d)) (ws:List (Nat×Nat)) (rep base:Nat),GL t (GT t d) (zcn d) ws l->(zch t (zaI t d) l rep base).length<=ws.length:=by
 intro l
 induction l with
 | nil=>intro ws rep base _;simp [zch]
 | cons x r ih=>
  intro ws rep base h
  rw [GL] at h
  obtain ⟨wo,wb,wr,f,rfl,hh,_,hr,hb⟩:=h
  have h1:=ih wr rep (base+(zdi t (zaI t d) x rep base).length) hr
  have h2:(zdi t (zaI t d) x rep base).length<=wo.length+wb.length:=by
   have e0:=zm7 t d
   rcases hh with ⟨p,q,rfl,rfl,hk,hx⟩|⟨p,q,rfl,rfl,hk,hx⟩|⟨p,rfl,rfl,hk,hx⟩|⟨p,q,u,rfl,rfl,hk,hx⟩|⟨p,q,u,v,rfl,rfl,hk,hx⟩|⟨p,q,rfl,rfl,hk,hx⟩
   .rw [zf1 _ _ _ _ (by rw [hx];exact hk)];simp;omega
   .rw [zf3 _ _ _ _ (by rw [hx];exact hk)];simp;omega
   .rw [zf2 _ _ _ _ (by rw [hx];exact hk)];simp
   .rw [zgS _ _ _ _ (by rw [hx];exact hk)]
    rcases hb with ⟨h0,_⟩|⟨o,wa,c,_,rfl,_,_,ha,e2,_⟩|⟨o,wa,c,e,o2,wa2,c2,_,rfl,_,_,_,_,_,ha,ha2⟩
    .omega
    .have:=hs _ _ rep (base+1) ha
     rw [e2,e0];simp;omega
    .have:=hs _ _ rep (base+1) ha
     have:=hs _ _ rep (base+2+(zaI t d x.2.1 rep (base+1)).length) ha2
     simp;omega
   .rw [zdj _ _ _ _ (by rw [hx];exact hk)]
    rcases hb with ⟨h0,_⟩|⟨o,wa,c,_,rfl,_,_,ha,e2,_⟩|⟨o,wa,c,e,o2,wa2,c2,_,rfl,_,_,_,_,_,ha,ha2⟩
    .omega
    .have:=hs _ _ rep (base+6) ha
     rw [e2,e0];simp;omega
    .have:=hs _ _ rep (base+5) ha2
     have:=hs _ _ rep (base+6+(zaI t d x.2.2 rep (base+5)).length) ha
     simp;omega
   .rw [zdR _ _ _ _ (by rw [hx];exact hk)]
    rcases hb with ⟨h0,_⟩|⟨o,wa,c,_,rfl,_,_,ha,e2,_⟩|⟨o,wa,c,e,o2,wa2,c2,h0,rfl,_,_,_,_,_,ha,ha2⟩
    .omega
    .have:=hs _ _ (rep+1) (base+1) ha
     simp;omega
    .omega
  rw [zch,List.length_append]
  simp only [List.length_append]
  omega
theorem GT.codeLen {t:ByteArray}:∀ (d:Nat) (ws:List (Nat×Nat)) (x:Tree d) (rep base:Nat),GT t d ws x->(zaI t d x rep base).length<=ws.length:=by
 intro d
 induction d with
 | zero=>intro ws x rep base _;exact Nat.zero_le _
 | succ d ih=>intro ws x rep base h;exact GL.codeLen (fun ws x rep base=>ih ws x rep base) x.list ws rep base h
def zjZ (t:ByteArray):(d:Nat)->Tree d->Prop
 | 0,_=>True
 | d+1,l=>∀ x:Hd×Tree d×Tree d,x∈l.list->(0<=x.1.key/\x.1.key<=7)/\zjZ t d x.2.1/\zjZ t d x.2.2
def KeysF (l:List Nd):Prop:=∀ x∈l,0<=x.key/\x.key<=7
theorem KeysF.tree {t:ByteArray}:∀ (d:Nat) (tr:Tree d),KeysF (zbi t d tr)->zjZ t d tr:=by
 intro d
 induction d with
 | zero=>intro tr _;trivial
 | succ d ih=>
  intro tr h x hx
  have hm:∀ y,y∈zen t x.1 (zbi t d x.2.1).length (zbi t d x.2.2).length::(zbi t d x.2.1++zbi t d x.2.2)->0<=y.key/\y.key<=7:=fun y hy=>h y (List.mem_flatMap.mpr ⟨x,hx,hy⟩)
  refine ⟨hm _ List.mem_cons_self,ih _ fun y hy=>hm y ?_,ih _ fun y hy=>hm y ?_⟩
  .exact List.mem_cons_of_mem _ (List.mem_append.mpr (Or.inl hy))
  .exact List.mem_cons_of_mem _ (List.mem_append.mpr (Or.inr hy))
theorem zoB (l:List UInt8):0<=kV l/\kV l<=7:=by
 have:=zmg l
 unfold kV;split <;> omega
theorem KeysF.set {l:List Nd}(h:KeysF l)(i n:Nat):KeysF (zaB l i n)/\KeysF (zbR l i n):=by
 constructor
 all_goals
  intro x hx
  simp only [zaB,zbR] at hx
  rw [List.mem_iff_getElem?] at hx
  obtain ⟨j,hj⟩:=hx
  rw [List.getElem?_modify] at hj
  cases hl:l[j]? with
  | none=>rw [hl] at hj;simp at hj
  | some y=>
   rw [hl] at hj
   have hy:=h y (List.mem_of_getElem? hl)
   by_cases hij:i=j
   .simp [hij] at hj
    subst hj
    exact hy
   .simp [hij] at hj
    subst hj
    exact hy
theorem KeysF.same {a b:RSt}(h:KeysF a.fl)(k:Same4 a b):KeysF b.fl:=by rw [k.fl];exact h
theorem zdM (t:ByteArray)(blk:RSt->Bool×RSt)(hb:∀ st,KeysF st.fl->KeysF (blk st).2.fl)(st:RSt)(h:KeysF st.fl):KeysF (zaC t blk st).2.2.fl:=by
 unfold zaC
 split
 .exact h
 .have h1:KeysF (if 4<=st.deep then zbc st 4 (atR t st.us:Nat) else st).fl:=by
   split
   .exact h.same (Same4.note _ _ _)
   .exact h
  dsimp only
  generalize (if 4<=st.deep then zbc st 4 (atR t st.us:Nat) else st)=s1 at h1 ⊢
  split
  .exact hb (za4 {s1 with deep:=s1.deep+1}) h1
  .exact hb (za4 {s1 with deep:=s1.deep+1}) h1
theorem zfk (t:ByteArray)(blk:RSt->Bool×RSt)(hb:∀ st,KeysF st.fl->KeysF (blk st).2.fl)(st:RSt)(h:KeysF st.fl):KeysF (zaL t blk st).2.fl:=by
 unfold zaL
 simp only []
 split
 .exact h
 .have h1:KeysF (za8 t (za4 st) (zbu (zaD t st))).2.2.fl:=KeysF.same (a:=za4 st) h (zhD _ _ _).1
  split
  .have h2:KeysF (zdt t (za8 t (za4 st) (zbu (zaD t st))).2.2 (zbu (zaD t st))).2.2.fl:=KeysF.same h1 (zjm _ _ _)
   split
   .have h3:KeysF (zb1 t (zdt t (za8 t (za4 st) (zbu (zaD t st))).2.2 (zbu (zaD t st))).2.2 (zbu (zaD t st))).2.2.fl:=KeysF.same h2 (zhC _ _ _)
    have hk:0<=(zdt t (za8 t (za4 st) (zbu (zaD t st))).2.2 (zbu (zaD t st))).1/\(zdt t (za8 t (za4 st) (zbu (zaD t st))).2.2 (zbu (zaD t st))).1<=7:=by
     unfold zdt
     split
     .exact zoB _
     .exact ⟨by simp,by simp⟩
    split
    .have h4:KeysF ((zb1 t (zdt t (za8 t (za4 st) (zbu (zaD t st))).2.2 (zbu (zaD t st))).2.2 (zbu (zaD t st))).2.2.fl++[{kind:=zbu (zaD t st),key:=(zdt t (za8 t (za4 st) (zbu (zaD t st))).2.2 (zbu (zaD t st))).1,times:=(za8 t (za4 st) (zbu (zaD t st))).1,ticks:=(zb1 t (zdt t (za8 t (za4 st) (zbu (zaD t st))).2.2 (zbu (zaD t st))).2.2 (zbu (zaD t st))).1,body:=0,els:=0}]):=by
      intro x hx
      rw [List.mem_append,List.mem_singleton] at hx
      rcases hx with hx|rfl
      .exact h3 x hx
      .exact hk
     split
     .unfold zba
      simp only []
      split
      .split
       .exact ((zdM t blk hb _ (((zdM t blk hb _ h4).set _ _).1)).set _ _).2
       .exact ((zdM t blk hb _ h4).set _ _).1
      .exact zdM t blk hb _ h4
     .split
      .unfold zbg
       simp only []
       refine ((zdM t blk hb _ ?_).set _ _).1
       split
       .refine KeysF.same ?_ (Same4.note _ _ _)
        exact h4
       .exact h4
      .exact h4
    .exact h3
   .exact h2
  .exact h1
theorem zjn (t:ByteArray)(stm:RSt->Bool×RSt)(hs:∀ st,KeysF st.fl->KeysF (stm st).2.fl)(behind:List UInt8):∀ (f:Nat) (st:RSt),KeysF st.fl->KeysF (zed t stm behind f st).2.fl:=by
 intro f
 induction f with
 | zero=>intro st h;exact h
 | succ f ih=>
  intro st h
  rw [zed]
  split
  .exact h
  .split
   .exact ih _ (hs _ h)
   .exact hs _ h
theorem zmh (t:ByteArray):∀ (n:Nat) (behind:List UInt8) (st:RSt),KeysF st.fl->KeysF (zeH t n behind st).2.fl:=by
 intro n
 induction n with
 | zero=>intro behind st h;exact h
 | succ n ih=>intro behind st h;exact zjn t _ (fun st h=>zfk t _ (fun st h=>ih zbG st h) st h) behind _ st h
theorem zne (t:ByteArray):KeysF (zd9 t).2.fl:=
 zjn t _ (fun st h=>zfk t _ (fun st h=>zmh t 401 zbG st h) st h) [] _ (zdd t) (fun x hx=>by simp [zdd] at hx)
theorem wB {n lo hi:Int}(h1:lo<=n)(h2:n<=hi):zam n lo hi=true:=by unfold zam;rw [decide_eq_true h1,decide_eq_true h2];rfl
theorem zkc (t:ByteArray)(N:Nat):∀ (d:Nat) (tr:Tree d) (rep base:Nat),GoodT t d tr->zjZ t d tr->rep+d<=12->base+(zaI t d tr rep base).length<=N->∀ x∈zaI t d tr rep base,zaK (N:Int) x=true:=by
 intro d
 induction d with
 | zero=>intro tr rep base _ _ _ _ x hx;cases hx
 | succ d ih=>
  intro tr rep base hg hk hr hN
  have key:∀ (l:List (Hd×Tree d×Tree d)) (base:Nat),(∀ x∈l,GoodHd t x.1/\GoodT t d x.2.1/\GoodT t d x.2.2)->(∀ x∈l,(0<=x.1.key/\x.1.key<=7)/\zjZ t d x.2.1/\zjZ t d x.2.2)->base+(zch t (zaI t d) l rep base).length<=N ->
    ∀ x∈zch t (zaI t d) l rep base,zaK (N:Int) x=true:=by
   intro l
   induction l with
   | nil=>intro base _ _ _ x hx;cases hx
   | cons y r ihr=>
    intro base hg hk hN x hx
    rw [zch] at hx hN
    rw [List.length_append] at hN
    rw [List.mem_append] at hx
    rcases hx with hx|hx
    .obtain ⟨gh,ga,gb⟩:=hg y List.mem_cons_self
     obtain ⟨⟨k0,k1⟩,ka,kb⟩:=hk y List.mem_cons_self
     have hN1:base+(zdi t (zaI t d) y rep base).length<=N:=by omega
     clear hN
     rcases gh with ⟨hk,_⟩|⟨hk,h1,h2,_⟩|⟨hk,_⟩|⟨hk,h1,h2,_⟩|⟨hk,h1,h2,h3,h4⟩|⟨hk,h1,h2,_⟩
     .rw [zf1 _ _ _ _ hk] at hx
      simp only [List.mem_singleton] at hx
      subst hx
      simp [zaK,wB k0 k1]
     .rw [zf3 _ _ _ _ hk] at hx
      simp only [List.mem_singleton] at hx
      subst hx
      simp [zaK,wB h1 h2]
     .rw [zf2 _ _ _ _ hk] at hx
      simp only [List.mem_singleton] at hx
      subst hx
      simp [zaK]
     .rw [zgS _ _ _ _ hk] at hx hN1
      simp only [List.length_cons,List.length_append] at hN1
      simp only [List.mem_cons,List.mem_append] at hx
      rcases hx with rfl|hx|rfl|hx
      .have:=wB (n:=((base+2+(zaI t d y.2.1 rep (base+1)).length:Nat):Int)) (lo:=0) (hi:=(N:Int)) (by omega) (by omega)
       simp only [zaK,wB k0 k1,wB h1 h2,this];rfl
      .exact ih _ _ _ ga ka (by omega) (by omega) x hx
      .have:=wB (n:=((base+2+(zaI t d y.2.1 rep (base+1)).length+(zaI t d y.2.2 rep (base+2+(zaI t d y.2.1 rep (base+1)).length)).length:Nat):Int)) (lo:=0) (hi:=(N:Int)) (by omega) (by omega)
       simp only [zaK,this];rfl
      .exact ih _ _ _ gb kb (by omega) (by omega) x hx
     .rw [zdj _ _ _ _ hk] at hx hN1
      simp only [List.length_cons,List.length_append] at hN1
      simp only [List.mem_cons,List.mem_append] at hx
      rcases hx with rfl|rfl|rfl|rfl|rfl|hx|rfl|hx
      .simp only [zaK,wB (show (0:Int)<=y.1.m by omega) (show y.1.m<=999 by omega)];rfl
      .simp only [zaK,wB (show (0:Int)<=y.1.n by omega) h2];rfl
      .have:=wB (n:=((base+6+(zaI t d y.2.2 rep (base+5)).length:Nat):Int)) (lo:=0) (hi:=(N:Int)) (by omega) (by omega)
       simp only [zaK,wB k0 k1,this];rfl
      .rfl
      .have:=wB (n:=((base+2:Nat):Int)) (lo:=0) (hi:=(N:Int)) (by omega) (by omega)
       simp only [zaK,this];rfl
      .exact ih _ _ _ gb kb (by omega) (by omega) x hx
      .have:=wB (n:=((base+6+(zaI t d y.2.2 rep (base+5)).length+(zaI t d y.2.1 rep (base+6+(zaI t d y.2.2 rep (base+5)).length)).length:Nat):Int)) (lo:=0) (hi:=(N:Int)) (by omega) (by omega)
       simp only [zaK,this];rfl
      .exact ih _ _ _ ga ka (by omega) (by omega) x hx
     .rw [zdR _ _ _ _ hk] at hx hN1
      simp only [List.length_cons,List.length_append,List.length_nil] at hN1
      simp only [List.mem_cons,List.mem_append,List.not_mem_nil,or_false] at hx
      have hrp:=wB (n:=(rep:Int)) (lo:=0) (hi:=11) (by omega) (by omega)
      rcases hx with rfl|hx|rfl
      .simp only [zaK,hrp,wB (show (0:Int)<=y.1.n by omega) (show y.1.n<=999 by omega)];rfl
      .exact ih _ _ _ ga ka (by omega) (by omega) x hx
      .have:=wB (n:=((base+1:Nat):Int)) (lo:=0) (hi:=(N:Int)) (by omega) (by omega)
       simp only [zaK,hrp,this];rfl
    .exact ihr _ (fun z hz=>hg z (List.mem_cons_of_mem _ hz)) (fun z hz=>hk z (List.mem_cons_of_mem _ hz)) (by omega) x hx
  exact key tr base hg hk hN
structure TextOk (t:ByteArray)(tr:Tree 5):Prop where
 ended:(zd9 t).1=true
 fault:(zd9 t).2.fault=0
 flat:(zd9 t).2.fl=zbi t 5 tr
 words:GT t 5 (za2 t.data.toList) tr
 good:GoodT t 5 tr
 keys:zjZ t 5 tr
 size:zaQ 5 tr<=400
 deep:zdp t (za2 t.data.toList) 0=-1
 short:¬ 100000<zcy (zay t 5 tr).1 (zay t 5 tr).2
 heavy:zce t 5 tr 1=-1
def zbj (t:ByteArray)(tr:Tree 5):List Ins:=zaI t 5 tr 0 0
theorem TextOk.len {t:ByteArray}{tr:Tree 5}(h:TextOk t tr)(ht:t.size<=400):(zbj t tr).length<=400:=by
 have h1:=GT.codeLen 5 _ tr 0 0 h.words
 have h2:=zbr t.data.toList
 have h3:t.data.toList.length=t.size:=by simp
 unfold zbj
 omega
theorem TextOk.sound {t:ByteArray}{tr:Tree 5}(h:TextOk t tr)(ht:t.size<=400):zbq (zbj t tr)=true:=by
 have h1:=h.len ht
 unfold zbq
 rw [decide_eq_true (by omega),Bool.true_and,List.all_eq_true]
 intro x hx
 exact zkc t (zbj t tr).length 5 tr 0 0 h.good h.keys (by omega) (by unfold zbj;omega) x hx
theorem zoi (t:ByteArray)(ht:t.size<=400):∃ r,zmM t r/\zgX t r/\((∃ tr,TextOk t tr/\r=(zcy (zay t 5 tr).1 (zay t 5 tr).2,0,0))\/r.2.1≠0):=by
 cases h:(zd9 t).1 with
 | false=>
  exact ⟨(0,2,(atR t (zd9 t).2.us:Int)),Or.inl ⟨2,_,zpp t ht h,by decide,rfl⟩,Or.inl ⟨h,rfl⟩,Or.inr (by simp)⟩
 | true=>
  obtain ⟨e,he,hf,hd,hdp,htree⟩:=zn8 t ht h
  have hfst:(zd9 t).2.fault=(zov e).1:=congrArg Prod.fst he
  have hsnd:(zd9 t).2.place=(zov e).2:=congrArg Prod.snd he
  obtain ⟨f3,f4,f5⟩:=e
  cases f3 with
  | some p=>
   refine ⟨(0,3,p),Or.inl ⟨3,p,hf,by decide,rfl⟩,Or.inr (Or.inl ⟨h,by rw [hfst];show (3:Int)≠0;decide,?_⟩),Or.inr (by simp)⟩
   rw [hfst,hsnd];rfl
  | none=>
   cases f4 with
   | some p=>
    refine ⟨(0,4,p),Or.inr (Or.inl ⟨p,hf,hd,hdp p rfl,rfl⟩),Or.inr (Or.inl ⟨h,by rw [hfst];show (4:Int)≠0;decide,?_⟩),Or.inr (by simp)⟩
    rw [hfst,hsnd];rfl
   | none=>
    obtain ⟨tr,g1,g2,g3⟩:=htree rfl
    obtain ⟨g4,g5,g6⟩:=g3 rfl
    have hsz:zaQ 5 tr<=400:=by
     have h1:=GT.size 5 _ tr g1
     have h2:=zbr t.data.toList
     have h3:t.data.toList.length=t.size:=by simp
     omega
    cases f5 with
    | some p=>
     refine ⟨(0,5,p),Or.inr (Or.inr ⟨tr,hf,hd,g1,g4,hsz,Or.inl ⟨p,g5,g6 p rfl,rfl⟩⟩),Or.inr (Or.inl ⟨h,by rw [hfst];show (5:Int)≠0;decide,?_⟩),Or.inr (by simp)⟩
     rw [hfst,hsnd];rfl
    | none=>
     have h0:(zd9 t).2.fault=0:=by rw [hfst];rfl
     by_cases hl:100000<zcy (zay t 5 tr).1 (zay t 5 tr).2
     .exact ⟨(0,6,0),Or.inr (Or.inr ⟨tr,hf,hd,g1,g4,hsz,Or.inr (Or.inl ⟨g5,hl,rfl⟩)⟩),Or.inr (Or.inr ⟨h,h0,tr,g2,g4,hsz,Or.inl ⟨hl,rfl⟩⟩),Or.inr (by simp)⟩
     .refine ⟨_,Or.inr (Or.inr ⟨tr,hf,hd,g1,g4,hsz,Or.inr (Or.inr ⟨g5,hl,rfl⟩)⟩),Or.inr (Or.inr ⟨h,h0,tr,g2,g4,hsz,Or.inr ⟨hl,rfl⟩⟩),Or.inl ⟨tr,⟨h,h0,g2,g1,g4,?_,hsz,hd,hl,g5⟩,rfl⟩⟩
      exact KeysF.tree 5 tr (by rw [<- g2];exact zne t)
end Go.Proofs.Herald
namespace Go.Proofs.YtmmmnghiegajmaaGreat
open Go.RowKit Go.Proofs.Herald
structure WrAt (B:Nat)(w:World)(R:Nat)(sv:Value)(cs:List Ins):Prop where
 le:B<=R
 blk:w.heap[R]?=some (.cells #[sv] 164 (0,0))
 own:w.ownsRow 0 91 4 sv cs.length (zai cs)
 new:∀ b,sv.ownBlock=some b->B<=b
theorem WrAt.keep {B:Nat}{w w':World}{R:Nat}{sv:Value}{cs:List Ins}(h:WrAt B w R sv cs)(hk:∀ k,k<w.heap.size->w'.heap[k]?=w.heap[k]?):WrAt B w' R sv cs:=
 ⟨h.le,by rw [hk _ (zae h.blk)];exact h.blk,zaj h.own fun b hb=>by obtain ⟨cur,hc⟩:=zad h.own hb;exact hk _ (zae hc),h.new⟩
theorem WrAt.alloc {B:Nat}{w:World}{R:Nat}{sv:Value}{cs:List Ins}(h:WrAt B w R sv cs)(o:Obj):WrAt B (w.alloc o) R sv cs:=h.keep fun _ hk=>Below.heap_alloc _ _ _ hk
theorem WrAt.push {B:Nat}{w W w1:World}{R g cap:Nat}{sv:Value}{cs:List Ins}(x:Ins)(h:WrAt B w R sv cs)(h0:OneMore w W)
  (hown1:w1.ownsRow 0 91 4 (.slice (some ⟨g,0,none⟩) (cs.length+1) cap) (cs.length+1) (zai cs++za1 x)) (hgrow:W.grownBy w1 sv.ownBlock) (hat:sv.ownBlock=some g\/g=W.heap.size):
  WrAt B (w1.setCell ⟨R,0,none⟩ (.slice (some ⟨g,0,none⟩) (cs.length+1) cap)) R (.slice (some ⟨g,0,none⟩) (cs.length+1) cap) (cs++[x]) /\
   Below B w (w1.setCell ⟨R,0,none⟩ (.slice (some ⟨g,0,none⟩) (cs.length+1) cap)):=by
 have hs:=h0.size
 have hRl:=zae h.blk
 have hvR:sv.ownBlock≠some R:=fun e=>by obtain ⟨cur,hc⟩:=zad h.own e;exact zac hc h.blk (by decide) rfl
 have hR1:w1.heap[R]?=w.heap[R]?:=zbs h0 hgrow hRl hvR
 have hBg:B<=g:=by
  rcases hat with h1|h1
  .exact h.new _ h1
  .have:=h.le;omega
 have hgR:g≠R:=by
  obtain ⟨cur,hc⟩:=zad hown1 (k:=g) rfl
  exact zac hc (hR1.trans h.blk) (by decide)
 refine ⟨⟨h.le,?_,?_,?_⟩,?_⟩
 .rw [zah _ (hR1.trans h.blk)];rfl
 .have e1:zai (cs++[x])=zai cs++za1 x:=by rw [za0];simp [zai]
  rw [e1,List.length_append]
  exact zaj hown1 (fun k hk=>by simp [Value.ownBlock] at hk;subst hk;exact Below.heap_setCell _ _ _ _ hgR)
 .intro b hb
  simp [Value.ownBlock] at hb
  omega
 .have hb:Below B w w1:=⟨hgrow.os.trans h0.os,hgrow.tape.trans h0.tape,hgrow.output.trans h0.output,by have:=zdI h0 hgrow;omega,fun k hk=>zbs h0 hgrow (by have:=h.le;omega) (fun e=>by have:=h.new _ e;omega)⟩
  exact hb.setCell (p:=⟨R,0,none⟩) h.le _
def zmO (w w':World):Prop:=∀ (k:Nat) (c:Array Value) (z:Nat×Nat),w.heap[k]?=some (.cells c 190 z)->w'.heap[k]?=some (.cells c 190 z)
theorem zqo (B R:Nat)(sv:Value)(cs:List Ins)(x:Ins)(w:World)(h:WrAt B w R sv cs)(hl:cs.length<=1000):
  Calls Tryz.prog 132 #[.pointer (some ⟨R,0,none⟩),.agg (za1 x).toArray] w fun e w'=>e=.returned (.int .i64 (cs.length:Nat))/\(∃ sv',WrAt B w' R sv' (cs++[x]))/\Below B w w'/\Hid (zmO w w'):=by
 obtain ⟨a,cap,rfl⟩:=zag h.own
 have hcell:za1 x=[.int .i64 x.op,.int .i64 x.a,.int .i64 x.b,.int .i64 x.c]:=rfl
 rw [hcell]
 have HC:=zHd hcell
 obtain ⟨w1,hw1⟩:∃ w1,w1=w.alloc (.cells #[.int .i64 x.op,.int .i64 x.a,.int .i64 x.b,.int .i64 x.c] 91):=⟨_,rfl⟩
 have h1:WrAt B w1 R (.slice a cs.length cap) cs:=by rw [hw1];exact h.alloc _
 have hx1:w1.heap[w.heap.size]?=some (.cells #[.int .i64 x.op,.int .i64 x.a,.int .i64 x.b,.int .i64 x.c] 91 (0,0)):=by rw [hw1];exact heap_alloc_new _ _
 have HW:=zHd hw1
 have HB1:Hid (Below B w w1):=by
  show Below B w w1
  rw [hw1];exact (Below.refl _ _).alloc (by have:=zae h.blk;have:=h.le;omega) _
 have H1:=zHd h1
 have m0:w1.cell? ⟨w.heap.size,0,none⟩=some (.int .i64 x.op):=(zaa hx1).trans rfl
 have m1:w1.cell? ⟨w.heap.size,1,none⟩=some (.int .i64 x.a):=(zaa hx1).trans rfl
 have m2:w1.cell? ⟨w.heap.size,2,none⟩=some (.int .i64 x.b):=(zaa hx1).trans rfl
 have m3:w1.cell? ⟨w.heap.size,3,none⟩=some (.int .i64 x.c):=(zaa hx1).trans rfl
 have r0:w1.cell? ⟨R,0,none⟩=some (.slice a cs.length cap):=(zaa h1.blk).trans rfl
 have y0:w1.frozen? ⟨R,0,none⟩=false:=zab h1.blk
 have hRl:R<w1.heap.size:=zae h1.blk
 have hXl:w.heap.size<w1.heap.size:=zae hx1
 have HK:Hid (zmO w w1):=fun k c z hk=>by rw [hw1,Below.heap_alloc _ _ _ (zae hk)];exact hk
 have HV:Hid ((Value.slice a cs.length cap).ownBlock≠some R):=fun e=>by obtain ⟨cur,hc⟩:=zad H1.out.own e;exact zac hc H1.out.blk (by decide) rfl
 clear h h1 hx1 hw1 hcell
 go_enter Tryz.func132,Tryz.ntmps132
 go_upto_region 1 with fail
 rw [<- HW.out]
 clear HW
 go_upto_region 2 with fail
 go_region_law (refine ze2 _ rfl (.tmp 15) (.tmp 17) 29 rfl 91 _ 4 32 Tryz.underlying29 Tryz.infoInstr rfl (by decide) (by decide) (.slice a cs.length cap) _ _ w1.heap.size [.int .i64 x.op,.int .i64 x.a,.int .i64 x.b,.int .i64 x.c] (by rfl) (by exact H1.out.own.alloc _) (by exact heap_alloc_new _ _) (by rfl) rfl (by simp [Value.oneCell']) (by omega) ?_;intro g1 cap1 w2 hown1 hgrow hat hlt;have hc1:w2.cell? ⟨R,0,none⟩=some (.slice a cs.length cap):=(zaa (zal (OneMore.alloc _ _).drew hgrow H1.out.blk HV.out)).trans rfl;have hf1:w2.frozen? ⟨R,0,none⟩=false:=zab (zal (OneMore.alloc _ _).drew hgrow H1.out.blk HV.out))
 all_goals
  go_wp2_with fail
  go_ret
  rw [<- HC.out] at hown1
  obtain ⟨k1,k2⟩:=H1.out.push x (OneMore.alloc _ _).drew hown1 hgrow hat
  refine ⟨rfl,⟨_,k1⟩,HB1.out.trans k2,?_⟩
  intro k c z hk
  have hk1:=HK.out k c z hk
  rw [Below.heap_setCell _ _ _ _ (zac hk1 H1.out.blk (by decide))]
  exact zal (OneMore.alloc _ _).drew hgrow hk1 (fun e=>by obtain ⟨cur,hc⟩:=zad H1.out.own e;exact zac hc hk1 (by decide) rfl)
theorem zgg (B R n:Nat)(sv:Value)(cs:List Ins)(x:Ins)(w:World)(h:WrAt B w R sv cs)(hn:n=cs.length)(hl:n<=1000):
  Calls Tryz.prog 132 #[.pointer (some ⟨R,0,none⟩),.agg (za1 x).toArray] w fun e w'=>e=.returned (.int .i64 (n:Nat))/\(∃ sv',WrAt B w' R sv' (cs++[x]))/\Below B w w'/\Hid (zmO w w'):=by
 rw [hn];exact zqo B R sv cs x w h (by omega)
theorem zhG (pre:List Ins)(x:Ins)(post:List Ins)(n:Int):(zai (pre++x::post)).set (pre.length*4+3) (.int .i64 n)=zai (pre++{x with c:=n}::post):=by
 have e:∀ y:Ins,zai (pre++y::post)=zai pre++(za1 y++zai post):=fun y=>by rw [za0];simp [zai]
 rw [e,e,List.set_append_right _ _ (by rw [zaF];omega),zaF,show pre.length*4+3 - pre.length*4=3 from by omega]
 rfl
theorem zoS {w:World}{B:Nat}{e:TypeId}{size n g cap:Nat}{xs:List Value}(h:w.ownsRow B e size (.slice (some ⟨g,0,none⟩) n cap) n xs)(p:Nat)(v:Value):
  (w.setCell ⟨g,p,none⟩ v).ownsRow B e size (.slice (some ⟨g,0,none⟩) n cap) n (xs.set p v):=by
 refine ⟨by rw [List.length_set];exact h.1,.inr ?_⟩
 rcases h.2 with ⟨h1,_⟩|⟨g',cap',cur,hv,hb,hg,hn,hm,hs,ht⟩
 .cases h1
 .simp at hv
  obtain ⟨rfl,rfl⟩:=hv
  refine ⟨g,cap,cur.setIfInBounds p v,rfl,hb,zah v hg,hn,hm,by simpa using hs,?_⟩
  rw [Array.toList_setIfInBounds,List.take_set,ht]
theorem zmZ (B R:Nat)(sv:Value)(pre:List Ins)(x:Ins)(post:List Ins)(w:World)(h:WrAt B w R sv (pre++x::post))(hl:(pre++x::post).length<=2000):
  Calls Tryz.prog 154 #[.pointer (some ⟨R,0,none⟩),.int .i64 (pre.length:Nat)] w fun e w'=>e=.returned (.tuple #[])/\(∃ sv',WrAt B w' R sv' (pre++{x with c:=(((pre++x::post).length:Nat):Int)}::post))/\Below B w w':=by
 obtain ⟨n,hn⟩:∃ n,n=(pre++x::post).length:=⟨_,rfl⟩
 obtain ⟨p,hp⟩:∃ p,p=pre.length:=⟨_,rfl⟩
 have hpn:p<n:=by rw [hn,hp];simp
 have hown:=h.own
 rw [<- hn] at hown hl ⊢
 rw [<- hp]
 obtain ⟨g,cap,hv,_,hgl⟩:=hown.form (by omega)
 subst hv
 have hg0:(zai (pre++x::post))[p*4+3]?=some (.int .i64 x.c):=by
  rw [zbS _ p (by rw [<- hn];exact hpn) 3 (by omega)]
  simp [hp,za1]
 have c0:w.cell? ⟨g,p*4+3,none⟩=some (.int .i64 x.c):=by
  have h1:=hown.cells (g:=g) rfl (p*4+3) _ hg0
  rwa [Addr.add_lit,Nat.zero_add] at h1
 obtain ⟨cur,hc⟩:=zad hown (k:=g) rfl
 have f0:w.frozen? ⟨g,p*4+3,none⟩=false:=zab hc
 have hcap:=zdh hown
 obtain ⟨q1,_,q3⟩:=hcap
 unfold maxLen at q3
 have r0:w.cell? ⟨R,0,none⟩=some (.slice (some ⟨g,0,none⟩) n cap):=(zaa h.blk).trans rfl
 have hRl:R<w.heap.size:=zae h.blk
 have HS:Hid (WrAt B (w.setCell ⟨g,p*4+3,none⟩ (.int .i64 n)) R (.slice (some ⟨g,0,none⟩) n cap) (pre++{x with c:=(n:Int)}::post)/\Below B w (w.setCell ⟨g,p*4+3,none⟩ (.int .i64 n))):=by
  refine ⟨⟨h.le,?_,?_,h.new⟩,(Below.refl _ _).setCell (p:=⟨g,p*4+3,none⟩) (h.new g rfl) _⟩
  .rw [Below.heap_setCell _ _ _ _ (zac h.blk hc (by decide))];exact h.blk
  .have h1:=zoS hown (p*4+3) (.int .i64 n)
   rw [hp,zhG] at h1
   have h2:(pre++{x with c:=(n:Int)}::post).length=n:=by rw [hn];simp
   rw [h2,hp]
   exact h1
 clear hown h hn hp hg0 hc
 go_enter Tryz.func154,Tryz.ntmps154
 go_region
 all_goals
  go_wp2_with fail
  go_end0
  exact ⟨rfl,⟨_,HS.out.1.keep fun _ _=>rfl⟩,HS.out.2.drew⟩
theorem zgI (B R p n:Nat)(sv:Value)(pre:List Ins)(x:Ins)(post:List Ins)(w:World)(h:WrAt B w R sv (pre++x::post))(hp:p=pre.length)(hn:n=(pre++x::post).length)(hl:n<=2000):
  Calls Tryz.prog 154 #[.pointer (some ⟨R,0,none⟩),.int .i64 (p:Nat)] w fun e w'=>e=.returned (.tuple #[])/\(∃ sv',WrAt B w' R sv' (pre++{x with c:=((n:Nat):Int)}::post))/\Below B w w':=by
 rw [hp,hn];exact zmZ B R sv pre x post w h (by omega)
end Go.Proofs.YtmmmnghiegajmaaGreat
namespace Go.Proofs.Herald
structure It where
 d:Nat
 s:Hd×Tree d×Tree d
 i:Nat
def zaT:(d:Nat)->Tree d->List It
 | 0,_=>[]
 | d+1,l=>l.list.map fun x=>⟨d,x,0⟩
def msS {T:Type}(t:ByteArray)(sub:T->Nat)(x:Hd×T×T)(i:Nat):Nat:=
 if zaf t x.1.p=zax then 1+(x.1.n.toNat - i)*(sub x.2.1+1) else 1+sub x.2.2
def msT (t:ByteArray):(d:Nat)->Tree d->Nat
 | 0,_=>0
 | d+1,l=>(l.list.map fun x=>msS t (msT t d) x 0).sum
def msI (t:ByteArray)(x:It):Nat:=msS t (msT t x.d) x.s x.i
def msL (t:ByteArray)(l:List It):Nat:=(l.map (msI t)).sum
theorem zpM (t:ByteArray):msL t []=0:=rfl
theorem zc5 (t:ByteArray)(x:It)(l:List It):msL t (x::l)=msI t x+msL t l:=by unfold msL;simp
theorem zcg (t:ByteArray)(l m:List It):msL t (l++m)=msL t l+msL t m:=by unfold msL;simp
theorem zdw (t:ByteArray)(d:Nat)(x:Tree d):msL t (zaT d x)=msT t d x:=by
 cases d with
 | zero=>rfl
 | succ d=>unfold msL zaT msT;rw [List.map_map];rfl
structure TR where
 p:Pr
 yes:List It
 no:List It
def doT (t:ByteArray)(now:Int):Nat->List It->List Msg->TR->List Msg×TR×Bool
 | 0,_,q,r=>(q,r,true)
 | _+1,[],q,r=>(q,r,true)
 | f+1,x::l,q,r=>
  if zaf t x.s.1.p=zci then doT t now f l (zan q r.p x.s.1.key).1 {r with p:=(zan q r.p x.s.1.key).2.1}
  else if zaf t x.s.1.p=zcB then (q,{r with p:=zbL r.p now x.s.1.n 0,no:=l},false)
  else if zaf t x.s.1.p=zcN then (q,r,true)
  else if zaf t x.s.1.p=zec then
   (if (zan q r.p x.s.1.key).2.2=0 then doT t now f (zaT x.d x.s.2.2++l) (zan q r.p x.s.1.key).1 {r with p:=(zan q r.p x.s.1.key).2.1}
    else ((zan q r.p x.s.1.key).1,⟨zbL (zan q r.p x.s.1.key).2.1 now x.s.1.n (zan q r.p x.s.1.key).2.2,zaT x.d x.s.2.1++l,zaT x.d x.s.2.2++l⟩,false))
  else if zaf t x.s.1.p=zbd then
   (if (x.i:Int)=x.s.1.m then doT t now f (zaT x.d x.s.2.2++l) q r
    else ((zan q r.p x.s.1.key).1,⟨zbL (zan q r.p x.s.1.key).2.1 now (x.s.1.n*2 ^ x.i) (zan q r.p x.s.1.key).2.2,zaT x.d x.s.2.1++l,⟨x.d,x.s,x.i+1⟩::l⟩,false))
  else if zaf t x.s.1.p=zax then
   (if (x.i:Int)<x.s.1.n then doT t now f (zaT x.d x.s.2.1++⟨x.d,x.s,x.i+1⟩::l) q r
    else doT t now f l q r)
  else (q,r,true)
def onT (t:ByteArray)(now:Int)(yes:Bool)(q:List Msg)(r:TR):List Msg×TR×Bool:=
 if yes then doT t now (msL t r.yes+1) r.yes q {r with p:={r.p with num:=0}}
 else if 0<r.p.num then doT t now (msL t r.no+1) r.no (zbK q r.p.id r.p.num) {r with p:={r.p with num:=0}}
 else doT t now (msL t r.no+1) r.no q {r with p:={r.p with num:=0}}
def zcE (p:Pr):Rn:=⟨p.id,p.dev,p.sent,p.til,p.num⟩
def zaZ (id dev:Int):Pr:=⟨id,dev,0,0,0,List.replicate 12 0,0,0⟩
def zi8 (cs:List Ins):Eng Pr:=⟨zcE,zaZ,fun now q p=>zdu now cs 10000 0 q p,fun now yes q p=>onP now cs yes q p⟩
def zhO (t:ByteArray)(tr:Tree 5):Eng TR:=
 ⟨fun r=>zcE r.p,fun id dev=>⟨zaZ id dev,[],[]⟩,fun now q r=>doT t now (msT t 5 tr+1) (zaT 5 tr) q r,fun now yes q r=>onT t now yes q r⟩
def Seg (cs:List Ins)(b:Nat)(s:List Ins):Prop:=∀ i x,s[i]?=some x->cs[b+i]?=some x
theorem Seg.append {cs:List Ins}{b:Nat}{s u:List Ins}(h:Seg cs b (s++u)):Seg cs b s/\Seg cs (b+s.length) u:=by
 refine ⟨fun i x hx=>h i x ?_,fun i x hx=>?_⟩
 .rw [List.getElem?_append_left (List.getElem?_eq_some_iff.mp hx).1];exact hx
 .rw [Nat.add_assoc]
  exact h _ x (by rw [List.getElem?_append_right (Nat.le_add_right _ _),Nat.add_sub_cancel_left];exact hx)
theorem Seg.cons {cs:List Ins}{b:Nat}{y:Ins}{u:List Ins}(h:Seg cs b (y::u)):cs[b]?=some y/\Seg cs (b+1) u:=
 ⟨h 0 y rfl,fun i x hx=>by rw [Nat.add_assoc,Nat.add_comm 1 i];exact h (i+1) x hx⟩
def wtS {T:Type}(t:ByteArray)(sub:T->Nat)(x:Hd×T×T)(i:Nat):Nat:=
 if zaf t x.1.p=zci then 1
 else if zaf t x.1.p=zec\/zaf t x.1.p=zbd then 1+max (sub x.2.1) (sub x.2.2)
 else if zaf t x.1.p=zax then 1+(x.1.n.toNat - i)*(sub x.2.1+1)
 else 1
def wtT (t:ByteArray):(d:Nat)->Tree d->Nat
 | 0,_=>0
 | d+1,l=>(l.list.map fun x=>wtS t (wtT t d) x 0).sum
def wtI (t:ByteArray)(x:It):Nat:=wtS t (wtT t x.d) x.s x.i
def wtL (t:ByteArray)(l:List It):Nat:=(l.map (wtI t)).sum
theorem zbQ (t:ByteArray)(x:It)(l:List It):wtL t (x::l)=wtI t x+wtL t l:=by unfold wtL;simp
theorem zbM (t:ByteArray)(l m:List It):wtL t (l++m)=wtL t l+wtL t m:=by unfold wtL;simp
theorem zcP (t:ByteArray)(d:Nat)(x:Tree d):wtL t (zaT d x)=wtT t d x:=by
 cases d with
 | zero=>rfl
 | succ d=>unfold wtL zaT wtT;rw [List.map_map];rfl
def zmK (t:ByteArray):(d:Nat)->Tree d->Nat->Prop
 | 0,_,_=>True
 | d+1,l,lv=>∀ x:Hd×Tree d×Tree d,x∈l.list->GoodHd t x.1/\(zaf t x.1.p=zax->lv<4/\zmK t d x.2.1 (lv+1))/\(¬ zaf t x.1.p=zax->zmK t d x.2.1 lv/\zmK t d x.2.2 lv)
def OkS (t:ByteArray)(d:Nat)(x:Hd×Tree d×Tree d)(lv:Nat):Prop:=
 GoodHd t x.1/\(zaf t x.1.p=zax->lv<4/\zmK t d x.2.1 (lv+1))/\(¬ zaf t x.1.p=zax->zmK t d x.2.1 lv/\zmK t d x.2.2 lv)
def Rp (t:ByteArray)(cs:List Ins)(g:List Int):Nat->Nat->Nat->Nat->List It->Prop
 | 0,_,_,_,_=>False
 | n+1,j,lv,pc,l=>
  (l=[]/\cs.length<=pc/\lv<=4) \/
  (∃ (j' tgt:Nat),j=j'+1/\cs[pc]?=some ⟨8,0,0,(tgt:Nat)⟩/\Rp t cs g n j' lv tgt l) \/
  (∃ (d:Nat) (r:List (Hd×Tree d×Tree d)) (l':List It),Seg cs pc (zch t (zaI t d) r lv pc)/\zmK t (d+1) r lv/\l=zaT (d+1) r++l'/\Rp t cs g n j lv (pc+(zch t (zaI t d) r lv pc).length) l') \/
  (∃ (d:Nat) (x:Hd×Tree d×Tree d) (i rep base:Nat) (l':List It),zaf t x.1.p=zax/\lv=rep+1/\Seg cs base (zdi t (zaI t d) x rep base)/\OkS t d x rep/\pc=base+1+(zaI t d x.2.1 (rep+1) (base+1)).length/\1<=i/\(i:Int)<=x.1.n /\
   g.getD rep 0=x.1.n - i+1/\l=⟨d,x,i⟩::l'/\Rp t cs g n j rep (pc+1) l')
theorem Rp.lv4 {t:ByteArray}{cs:List Ins}{g:List Int}:∀ {n j lv pc:Nat} {l:List It},Rp t cs g n j lv pc l->lv<=4:=by
 intro n
 induction n with
 | zero=>intro j lv pc l h;exact h.elim
 | succ n ih=>
  intro j lv pc l h
  rcases h with ⟨_,_,h⟩|⟨j',tgt,_,_,h⟩|⟨d,r,l',_,_,_,h⟩|⟨d,x,i,rep,base,l',hk,rfl,_,hok,_⟩
  .exact h
  .exact ih h
  .exact ih h
  .have:=(hok.2.1 hk).1;omega
theorem Rp.regs {t:ByteArray}{cs:List Ins}{g g':List Int}:∀ {n j lv pc:Nat} {l:List It},(∀ k,k<lv->g'.getD k 0=g.getD k 0)->Rp t cs g n j lv pc l->Rp t cs g' n j lv pc l:=by
 intro n
 induction n with
 | zero=>intro j lv pc l _ h;exact h.elim
 | succ n ih=>
  intro j lv pc l hg h
  rcases h with h|⟨j',tgt,h1,h2,h⟩|⟨d,r,l',h1,h2,h3,h⟩|⟨d,x,i,rep,base,l',h1,h2,h3,h4,h5,h6,h7,h8,h9,h⟩
  .exact Or.inl h
  .exact Or.inr (Or.inl ⟨j',tgt,h1,h2,ih hg h⟩)
  .exact Or.inr (Or.inr (Or.inl ⟨d,r,l',h1,h2,h3,ih hg h⟩))
  .exact Or.inr (Or.inr (Or.inr ⟨d,x,i,rep,base,l',h1,h2,h3,h4,h5,h6,h7,(hg rep (by omega)).trans h8,h9,ih (fun k hk=>hg k (by omega)) h⟩))
def RpE (t:ByteArray)(cs:List Ins)(g:List Int)(B lv pc:Nat)(l:List It):Prop:=∃ n j,Rp t cs g n j lv pc l/\wtL t l+j<=B
def zrh (t:ByteArray)(cs:List Ins)(g:List Int)(B pc:Nat)(l:List It):Prop:=
 (∃ lv,RpE t cs g B lv pc l) \/
 (∃ (d:Nat) (x:Hd×Tree d×Tree d) (i lv base n j:Nat) (l':List It),zaf t x.1.p=zbd/\Seg cs base (zdi t (zaI t d) x lv base)/\OkS t d x lv/\pc=base+3/\1<=i/\(i:Int)<=x.1.m /\
  g.getD 4 0=x.1.m - i+1/\g.getD 5 0=x.1.n*2 ^ (i - 1)/\l=⟨d,x,i⟩::l'/\Rp t cs g n j lv (base+(zdi t (zaI t d) x lv base).length) l'/\wtL t l+j<=B)
structure SameP (p r:Pr):Prop where
 id:p.id=r.id
 dev:p.dev=r.dev
 sent:p.sent=r.sent
 til:p.til=r.til
 num:p.num=r.num
theorem SameP.send {p r:Pr}(h:SameP p r)(q:List Msg)(key:Int):(zan q p key).1=(zan q r key).1/\(zan q p key).2.2=(zan q r key).2.2/\SameP (zan q p key).2.1 (zan q r key).2.1:=by
 unfold zan
 rw [h.dev,h.id,h.sent]
 split
 .exact ⟨rfl,rfl,rfl,rfl,rfl,h.til,h.num⟩
 .exact ⟨rfl,rfl,h⟩
structure Tied (t:ByteArray)(cs:List Ins)(B:Nat)(p:Pr)(r:TR):Prop where
 pub:SameP p r.p
 len:p.regs.length=12
 no:∃ e:Nat,p.els=(e:Nat)/\zrh t cs p.regs B e r.no
 yes:p.num≠0->∃ (e lv:Nat),p.tow=(e:Nat)/\RpE t cs p.regs B lv e r.yes
theorem zdP {now:Int}{cs:List Ins}{f pc:Nat}{x:Ins}(h:cs[pc]?=some x)(q:List Msg)(p:Pr):
  zdu now cs (f+1) (pc:Nat) q p=if (zbO now x (pc:Nat) q p).2.2.1<0 then ((zbO now x (pc:Nat) q p).1,(zbO now x (pc:Nat) q p).2.1,(zbO now x (pc:Nat) q p).2.2.2) else zdu now cs f (zbO now x (pc:Nat) q p).2.2.1 (zbO now x (pc:Nat) q p).1 (zbO now x (pc:Nat) q p).2.1:=by
 obtain ⟨hlt,hx⟩:=List.getElem?_eq_some_iff.mp h
 rw [zdu]
 have h1:((pc:Nat):Int).toNat<cs.length:=by simpa using hlt
 rw [dif_pos h1]
 have h2:cs[((pc:Nat):Int).toNat]=x:=by simpa using hx
 rw [h2]
theorem zjG {now:Int}{cs:List Ins}{f pc:Nat}(h:cs.length<=pc)(q:List Msg)(p:Pr):zdu now cs (f+1) (pc:Nat) q p=(q,p,true):=zoZ (by simp;omega)
theorem zlD {now:Int}{cs:List Ins}{f pc c:Nat}(h:cs[pc]?=some ⟨8,0,0,(c:Nat)⟩)(q:List Msg)(p:Pr):zdu now cs (f+1) (pc:Nat) q p=zdu now cs f (c:Nat) q p:=by
 rw [zdP h]
 have e:zbO now ⟨8,0,0,(c:Nat)⟩ (pc:Nat) q p=(q,p,((c:Nat):Int),false):=by simp [zbO]
 rw [e,if_neg (by first|omega|(simp;done)|(simp;omega))]
theorem zo0 {now:Int}{cs:List Ins}{f pc:Nat}{k:Int}(h:cs[pc]?=some ⟨1,k,0,0⟩)(q:List Msg)(p:Pr):zdu now cs (f+1) (pc:Nat) q p=zdu now cs f ((pc+1:Nat):Int) (zan q p k).1 (zan q p k).2.1:=by
 rw [zdP h]
 have e:zbO now ⟨1,k,0,0⟩ (pc:Nat) q p=((zan q p k).1,(zan q p k).2.1,((pc+1:Nat):Int),false):=by simp [zbO]
 rw [e,if_neg (by first|omega|(simp;done)|(simp;omega))]
theorem zkR {now:Int}{cs:List Ins}{f pc a:Nat}{b:Int}(h:cs[pc]?=some ⟨4,(a:Nat),b,0⟩)(q:List Msg)(p:Pr):zdu now cs (f+1) (pc:Nat) q p=zdu now cs f ((pc+1:Nat):Int) q {p with regs:=p.regs.set a b}:=by
 rw [zdP h]
 have e:zbO now ⟨4,(a:Nat),b,0⟩ (pc:Nat) q p=(q,{p with regs:=p.regs.set a b},((pc+1:Nat):Int),false):=by simp [zbO,zdU]
 rw [e,if_neg (by first|omega|(simp;done)|(simp;omega))]
theorem znQ {now:Int}{cs:List Ins}{f pc a:Nat}(h:cs[pc]?=some ⟨5,(a:Nat),0,0⟩)(q:List Msg)(p:Pr)(hr:2*p.regs.getD a 0<=1000000):zdu now cs (f+1) (pc:Nat) q p=zdu now cs f ((pc+1:Nat):Int) q {p with regs:=p.regs.set a (2*p.regs.getD a 0)}:=by
 rw [zdP h]
 have e:zbO now ⟨5,(a:Nat),0,0⟩ (pc:Nat) q p=(q,{p with regs:=p.regs.set a (2*p.regs.getD a 0)},((pc+1:Nat):Int),false):=by
  have h1:zcz p ((a:Nat):Int)=p.regs.getD a 0:=rfl
  simp only [zbO]
  rw [h1,if_neg (show ¬ 1000000<2*p.regs.getD a 0 by omega)]
  simp [zdU]
 rw [e,if_neg (by first|omega|(simp;done)|(simp;omega))]
theorem zhw {now:Int}{cs:List Ins}{f pc a c:Nat}(h:cs[pc]?=some ⟨7,(a:Nat),0,(c:Nat)⟩)(q:List Msg)(p:Pr)(hr:1<p.regs.getD a 0):zdu now cs (f+1) (pc:Nat) q p=zdu now cs f (c:Nat) q {p with regs:=p.regs.set a (p.regs.getD a 0 - 1)}:=by
 rw [zdP h]
 have e:zbO now ⟨7,(a:Nat),0,(c:Nat)⟩ (pc:Nat) q p=(q,{p with regs:=p.regs.set a (p.regs.getD a 0 - 1)},((c:Nat):Int),false):=by
  have h1:zcz p ((a:Nat):Int)=p.regs.getD a 0:=rfl
  simp only [zbO]
  rw [h1,if_pos (show 0<p.regs.getD a 0 by omega),if_pos (show 0<p.regs.getD a 0 - 1 by omega)]
  simp [zdU]
 rw [e,if_neg (by first|omega|(simp;done)|(simp;omega))]
theorem zgz {now:Int}{cs:List Ins}{f pc a c:Nat}(h:cs[pc]?=some ⟨7,(a:Nat),0,(c:Nat)⟩)(q:List Msg)(p:Pr)(hr:p.regs.getD a 0=1):zdu now cs (f+1) (pc:Nat) q p=zdu now cs f ((pc+1:Nat):Int) q {p with regs:=p.regs.set a 0}:=by
 rw [zdP h]
 have e:zbO now ⟨7,(a:Nat),0,(c:Nat)⟩ (pc:Nat) q p=(q,{p with regs:=p.regs.set a 0},((pc+1:Nat):Int),false):=by
  have h1:zcz p ((a:Nat):Int)=1:=hr
  simp only [zbO]
  rw [h1]
  simp [zdU]
 rw [e,if_neg (by first|omega|(simp;done)|(simp;omega))]
theorem zo1 {now:Int}{cs:List Ins}{f pc:Nat}{n:Int}(h:cs[pc]?=some ⟨2,n,0,0⟩)(q:List Msg)(p:Pr):zdu now cs (f+1) (pc:Nat) q p=(q,{zbL p now n 0 with els:=((pc+1:Nat):Int)},false):=by
 rw [zdP h]
 simp [zbO]
theorem zp1 {now:Int}{cs:List Ins}{f pc:Nat}(h:cs[pc]?=some ⟨0,0,0,0⟩)(q:List Msg)(p:Pr):zdu now cs (f+1) (pc:Nat) q p=(q,p,true):=by
 rw [zdP h]
 simp [zbO]
theorem zmr {now:Int}{cs:List Ins}{f pc c:Nat}{k n:Int}(h:cs[pc]?=some ⟨3,k,n,(c:Nat)⟩)(q:List Msg)(p:Pr)(h0:(zan q p k).2.2=0):zdu now cs (f+1) (pc:Nat) q p=zdu now cs f (c:Nat) (zan q p k).1 (zan q p k).2.1:=by
 rw [zdP h]
 have e:zbO now ⟨3,k,n,(c:Nat)⟩ (pc:Nat) q p=((zan q p k).1,(zan q p k).2.1,((c:Nat):Int),false):=by simp [zbO,h0]
 rw [e,if_neg (by first|omega|(simp;done)|(simp;omega))]
theorem zkP {now:Int}{cs:List Ins}{f pc c:Nat}{k n:Int}(h:cs[pc]?=some ⟨3,k,n,(c:Nat)⟩)(q:List Msg)(p:Pr)(h0:¬ (zan q p k).2.2=0):
  zdu now cs (f+1) (pc:Nat) q p=((zan q p k).1,{zbL (zan q p k).2.1 now n (zan q p k).2.2 with tow:=((pc+1:Nat):Int),els:=((c:Nat):Int)},false):=by
 rw [zdP h]
 simp [zbO,h0]
theorem zlC {now:Int}{cs:List Ins}{f pc c b:Nat}{k:Int}(h:cs[pc]?=some ⟨6,k,(b:Nat),(c:Nat)⟩)(q:List Msg)(p:Pr)(hr:1<=p.regs.getD b 0):
  zdu now cs (f+1) (pc:Nat) q p=((zan q p k).1,{zbL (zan q p k).2.1 now (p.regs.getD b 0) (zan q p k).2.2 with tow:=((c:Nat):Int),els:=((pc+1:Nat):Int)},false):=by
 rw [zdP h]
 have h1:zcz p ((b:Nat):Int)=p.regs.getD b 0:=rfl
 have h2:zcy 1 (p.regs.getD b 0)=p.regs.getD b 0:=by unfold zcy;split <;> omega
 have e:zbO now ⟨6,k,(b:Nat),(c:Nat)⟩ (pc:Nat) q p=((zan q p k).1,{zbL (zan q p k).2.1 now (p.regs.getD b 0) (zan q p k).2.2 with tow:=((c:Nat):Int),els:=((pc+1:Nat):Int)},-1,false):=by
  simp only [zbO]
  rw [h1,h2]
  simp
 rw [e,if_pos (by simp)]
theorem zcA {l:List Int}{k:Nat}{v:Int}(h:k<l.length):(l.set k v).getD k 0=v:=by simp [List.getD,h]
theorem zbf {l:List Int}{k j:Nat}{v:Int}(h:j≠k):(l.set k v).getD j 0=l.getD j 0:=by
 simp only [List.getD]
 rw [List.getElem?_set_ne (fun e=>h e.symm)]
theorem Rp.block {t:ByteArray}{cs:List Ins}{g:List Int}{d n j lv pc:Nat}{x:Tree d}{l:List It}(hs:Seg cs pc (zaI t d x lv pc))(ho:zmK t d x lv)(h:Rp t cs g n j lv (pc+(zaI t d x lv pc).length) l):∃ m,Rp t cs g m j lv pc (zaT d x++l):=by
 cases d with
 | zero=>exact ⟨n,h⟩
 | succ d=>exact ⟨n+1,Or.inr (Or.inr (Or.inl ⟨d,x,l,hs,ho,rfl,h⟩))⟩
theorem Rp.jump {t:ByteArray}{cs:List Ins}{g:List Int}{n j lv pc c:Nat}{l:List It}(hc:cs[pc]?=some ⟨8,0,0,(c:Nat)⟩)(h:Rp t cs g n j lv c l):Rp t cs g (n+1) (j+1) lv pc l:=Or.inr (Or.inl ⟨j,c,rfl,hc,h⟩)
structure Out (t:ByteArray)(cs:List Ins)(B:Nat)(c:List Msg×Pr×Bool)(d:List Msg×TR×Bool):Prop where
 q:c.1=d.1
 done:c.2.2=d.2.2
 id:c.2.1.id=d.2.1.p.id
 tied:c.2.2=false->Tied t cs B c.2.1 d.2.1
theorem GoodHd.kind {t:ByteArray}{h:Hd}(g:GoodHd t h):zaf t h.p=zci\/zaf t h.p=zcB\/zaf t h.p=zcN\/zaf t h.p=zec\/zaf t h.p=zbd\/zaf t h.p=zax:=by
 rcases g with ⟨h,_⟩|⟨h,_⟩|⟨h,_⟩|⟨h,_⟩|⟨h,_⟩|⟨h,_⟩
 .exact Or.inl h
 .exact Or.inr (Or.inl h)
 .exact Or.inr (Or.inr (Or.inl h))
 .exact Or.inr (Or.inr (Or.inr (Or.inl h)))
 .exact Or.inr (Or.inr (Or.inr (Or.inr (Or.inl h))))
 .exact Or.inr (Or.inr (Or.inr (Or.inr (Or.inr h))))
theorem zkf (t:ByteArray)(now:Int)(g:Nat)(q:List Msg)(r:TR):doT t now (g+1) [] q r=(q,r,true):=rfl
theorem zlc {t:ByteArray}{now:Int}{g:Nat}{x:It}{l:List It}{q:List Msg}{r:TR}(h:zaf t x.s.1.p=zci):doT t now (g+1) (x::l) q r=doT t now g l (zan q r.p x.s.1.key).1 {r with p:=(zan q r.p x.s.1.key).2.1}:=by
 rw [doT,if_pos h]
theorem zle {t:ByteArray}{now:Int}{g:Nat}{x:It}{l:List It}{q:List Msg}{r:TR}(h:zaf t x.s.1.p=zcB):doT t now (g+1) (x::l) q r=(q,{r with p:=zbL r.p now x.s.1.n 0,no:=l},false):=by
 rw [doT,h];rfl
theorem zld {t:ByteArray}{now:Int}{g:Nat}{x:It}{l:List It}{q:List Msg}{r:TR}(h:zaf t x.s.1.p=zcN):doT t now (g+1) (x::l) q r=(q,r,true):=by
 rw [doT,h];rfl
theorem zhW {t:ByteArray}{now:Int}{g:Nat}{x:It}{l:List It}{q:List Msg}{r:TR}(h:zaf t x.s.1.p=zec)(h0:(zan q r.p x.s.1.key).2.2=0):doT t now (g+1) (x::l) q r=doT t now g (zaT x.d x.s.2.2++l) (zan q r.p x.s.1.key).1 {r with p:=(zan q r.p x.s.1.key).2.1}:=by
 rw [doT,h];simp only [h0];rfl
theorem zg9 {t:ByteArray}{now:Int}{g:Nat}{x:It}{l:List It}{q:List Msg}{r:TR}(h:zaf t x.s.1.p=zec)(h0:¬ (zan q r.p x.s.1.key).2.2=0):
  doT t now (g+1) (x::l) q r=((zan q r.p x.s.1.key).1,⟨zbL (zan q r.p x.s.1.key).2.1 now x.s.1.n (zan q r.p x.s.1.key).2.2,zaT x.d x.s.2.1++l,zaT x.d x.s.2.2++l⟩,false):=by
 rw [doT,h];simp only [if_neg h0];rfl
theorem zfF {t:ByteArray}{now:Int}{g:Nat}{x:It}{l:List It}{q:List Msg}{r:TR}(h:zaf t x.s.1.p=zbd)(h0:(x.i:Int)=x.s.1.m):doT t now (g+1) (x::l) q r=doT t now g (zaT x.d x.s.2.2++l) q r:=by
 rw [doT,h];simp only [if_pos h0];rfl
theorem zeL {t:ByteArray}{now:Int}{g:Nat}{x:It}{l:List It}{q:List Msg}{r:TR}(h:zaf t x.s.1.p=zbd)(h0:¬ (x.i:Int)=x.s.1.m):
  doT t now (g+1) (x::l) q r=((zan q r.p x.s.1.key).1,⟨zbL (zan q r.p x.s.1.key).2.1 now (x.s.1.n*2 ^ x.i) (zan q r.p x.s.1.key).2.2,zaT x.d x.s.2.1++l,⟨x.d,x.s,x.i+1⟩::l⟩,false):=by
 rw [doT,h];simp only [if_neg h0];rfl
theorem zel {t:ByteArray}{now:Int}{g:Nat}{x:It}{l:List It}{q:List Msg}{r:TR}(h:zaf t x.s.1.p=zax)(h0:(x.i:Int)<x.s.1.n):doT t now (g+1) (x::l) q r=doT t now g (zaT x.d x.s.2.1++⟨x.d,x.s,x.i+1⟩::l) q r:=by
 rw [doT,h];simp only [if_pos h0];rfl
theorem zfi {t:ByteArray}{now:Int}{g:Nat}{x:It}{l:List It}{q:List Msg}{r:TR}(h:zaf t x.s.1.p=zax)(h0:¬ (x.i:Int)<x.s.1.n):doT t now (g+1) (x::l) q r=doT t now g l q r:=by
 rw [doT,h];simp only [if_neg h0];rfl
end Go.Proofs.Herald
