namespace Go.Proofs.Herald
def fF:Int->List UInt8->Option Int
 | n,[]=>some n
 | n,c::r=>if 48<=c.toNat/\c.toNat<=57 then fF (10*n+(c.toNat - 48)) r else none
def bm (l:List UInt8):Int:=
 if l.length=0\/4<l.length then -1 else (fF 0 l).getD (-1)
def cA (l:List UInt8):Int:=
 match l with
 | [c]=>if 97<=c.toNat/\c.toNat<105 then (c.toNat:Int) - 97 else -1
 | _=>-1
def cu (a b:Int):Int:=if b<a then a else b
def bV (a b:Int):Int:=if a<0\/b<0 then -1 else a+b
def mZ (s:Int):Int:=if s=4 then 6 else if s=5 then 9 else 999
theorem uA:∀ (l:List UInt8)(n v:Int),0<=n->fF n l=some v->n*10 ^ l.length<=v/\v<(n+1)*10 ^ l.length:=by
 intro l;induction l with
 | nil=>intro n v h e;simp[fF]at e;subst e;simp;omega
 | cons c r ih=>
  intro n v h e;simp only[fF]at e;split at e
  .rename_i hc;have:=ih (10*n+(c.toNat - 48)) v (by omega) e;have hp:(0:Int)<10 ^ r.length:=Int.pow_pos (by omega);have e1:(10:Int) ^ (c::r).length=10 ^ r.length*10:=by simp[Int.pow_succ]
   rw[e1];generalize (10:Int) ^ r.length=P at *;have A0:(0:Int)<=c.toNat - 48:=by omega
   have A1:(c.toNat:Int) - 48<=9:=by omega
   generalize (c.toNat:Int) - 48=d at *;constructor
   .have h1:n*(P*10)<=(10*n+d)*P:=by
     have:(10*n+d)*P=n*(P*10)+d*P:=by
      rw[Int.add_mul,Int.mul_comm 10 n,Int.mul_assoc,Int.mul_comm 10 P]
     rw[this];have:=Int.mul_nonneg A0 (Int.le_of_lt hp);omega
    omega
   .have h1:(10*n+d+1)*P<=(n+1)*(P*10):=by
     have e2:(n+1)*(P*10)=(10*n+10)*P:=by
      rw[Int.mul_comm P 10,<- Int.mul_assoc,Int.add_mul n 1 10,Int.mul_comm n 10];simp
     rw[e2];exact Int.mul_le_mul_of_nonneg_right (by omega) (Int.le_of_lt hp)
    omega
  .simp at e
theorem Ch (l:List UInt8):-1<=bm l/\bm l<=9999:=by
 unfold bm;split
 .omega
 .rename_i h;cases e:fF 0 l with
  | none=>simp
  | some v=>
   have:=uA l 0 v (by omega) e;have h4:l.length=1\/l.length=2\/l.length=3\/l.length=4:=by omega
   rcases h4 with h4|h4|h4|h4 <;> rw[h4]at this <;> simp at this ⊢ <;> omega
theorem Cb (l:List UInt8):-1<=cA l/\cA l<=7:=by
 unfold cA;split
 .split <;> omega
 .omega
theorem xh (s:ByteArray)(h:s.size=1)(hp:0<s.size):
  cA s.data.toList=if (97:Int)<=((s[0]'hp).toNat:Int)/\((s[0]'hp).toNat:Int)<105 then ((s[0]'hp).toNat:Int) - 97 else -1:=by
 obtain⟨⟨l⟩⟩:=s;match l,h with
 | [c],_=>
  have e:(ByteArray.mk ⟨[c]⟩)[0]'hp=c:=rfl;rw[e];simp only[cA];by_cases h:97<=c.toNat/\c.toNat<105
  .rw[if_pos h,if_pos (by omega)]
  .rw[if_neg h,if_neg (by omega)]
theorem xg (s:ByteArray)(h:s.size≠1):cA s.data.toList=-1:=by
 obtain⟨⟨l⟩⟩:=s;unfold cA;split
 .rename_i e;simp at e;subst e;exact absurd rfl h
 .rfl
theorem pV (s:ByteArray)(h:s.size=0\/4<s.size):bm s.data.toList=-1:=by
 have e:s.data.toList.length=s.size:=by simp
 unfold bm;rw[if_pos (by rw[e];exact h)]
theorem vt (s:ByteArray)(h0:s.size≠0)(h:s.size<=4):bm s.data.toList=(fF 0 s.data.toList).getD (-1):=by
 have e:s.data.toList.length=s.size:=by simp
 unfold bm;rw[if_neg (by rw[e];omega)]
theorem uI:∀ (a b:List UInt8)(n:Int),fF n (a++b)=(fF n a).bind fun m=>fF m b:=by
 intro a;induction a with
 | nil=>intro b n;simp[fF]
 | cons c r ih=>
  intro b n;simp only[List.cons_append,fF];split
  .exact ih b _
  .rfl
theorem Eh (s:ByteArray)(k:Nat)(h:k<s.size):s.data.toList.take (k+1)=s.data.toList.take k++[s[k]]:=by
 rw[List.take_succ_eq_append_getElem (by simpa using h)];rfl
theorem kZ (s:ByteArray)(k:Nat)(h:k<s.size):s.data.toList.drop k=s[k]::s.data.toList.drop (k+1):=by
 rw[List.drop_eq_getElem_cons (by simpa using h)];rfl
theorem xH (s:ByteArray)(k:Nat)(h:k<s.size)(m:Int)(hm:fF 0 (s.data.toList.take k)=some m)(hc:((s[k]).toNat:Int)<48\/57<((s[k]).toNat:Int)):
  fF 0 s.data.toList=none:=by
 rw[<- List.take_append_drop k s.data.toList,uI,hm,kZ s k h];simp only[Option.bind_some,fF];rw[if_neg (by omega)]
theorem wF (s:ByteArray)(k:Nat)(h:k<s.size)(m:Int)(hm:fF 0 (s.data.toList.take k)=some m)(h1:(48:Int)<=((s[k]).toNat:Int))(h2:((s[k]).toNat:Int)<=57):
  fF 0 (s.data.toList.take (k+1))=some (10*m+(((s[k]).toNat:Int) - 48)):=by
 rw[Eh s k h,uI,hm];simp only[Option.bind_some,fF];rw[if_pos (by omega)]
theorem tL (s:ByteArray)(k:Nat)(hk:k<=4)(m:Int)(hm:fF 0 (s.data.toList.take k)=some m):0<=m/\m<=9999:=by
 have:=uA _ 0 m (by omega) hm;have hl:(s.data.toList.take k).length<=4:=by simp;omega
 generalize (s.data.toList.take k).length=n at *;have h4:n=0\/n=1\/n=2\/n=3\/n=4:=by omega
 rcases h4 with h4|h4|h4|h4|h4 <;> rw[h4]at this <;> simp at this ⊢ <;> omega
def jG (c:UInt8):Bool:=c.toNat==123 || c.toNat==125
def jH (c:UInt8):Bool:=c.toNat==32 || c.toNat==10
def eO (f:Option Nat)(i:Nat):List (Nat×Nat):=
 match f with
 | some b=>[(b,i)]
 | none=>[]
def cZ:Nat->Option Nat->List UInt8->List (Nat×Nat)
 | i,f,[]=>eO f i
 | i,f,c::r=>
  if jG c then eO f i++(i,i+1)::cZ (i+1) none r
  else if jH c then eO f i++cZ (i+1) none r
  else cZ (i+1) (some (f.getD i)) r
def dC (t:List UInt8):List (Nat×Nat):=cZ 0 none t
def tp (f:Option Nat):Int:=
 match f with
 | some b=>(b:Int)
 | none=>-1
theorem pN:tp none=-1:=rfl
theorem pO (b:Nat):tp (some b)=(b:Int):=rfl
theorem Ae:∀ (t:List UInt8)(i:Nat)(f:Option Nat),(cZ i f t).length<=t.length+(if f.isSome then 1 else 0):=by
 intro t;induction t with
 | nil=>intro i f;cases f <;> simp[cZ,eO]
 | cons c r ih=>
  intro i f;simp only[cZ];split
  .have:=ih (i+1) none;cases f <;> simp[eO]at * <;> omega
  .split
   .have:=ih (i+1) none;cases f <;> simp[eO]at * <;> omega
   .have:=ih (i+1) (some (f.getD i));cases f <;> simp at * <;> omega
theorem ky (t:List UInt8):(dC t).length<=t.length:=by
 have:=Ae t 0 none;simpa[dC] using this
theorem Ad:∀ (t:List UInt8)(i:Nat)(f:Option Nat),(∀ b,f=some b->b<i) ->
  ∀ p∈cZ i f t,p.1<p.2/\p.2<=i+t.length:=by
 intro t;induction t with
 | nil=>
  intro i f hf p hp;cases f with
  | none=>simp[cZ,eO]at hp
  | some b=>simp[cZ,eO]at hp;subst hp;exact⟨hf b rfl,by simp⟩
 | cons c r ih=>
  intro i f hf p hp;simp only[cZ]at hp;split at hp
  .simp only[List.mem_append,List.mem_cons]at hp;rcases hp with hp|hp|hp
   .cases f with
    | none=>simp[eO]at hp
    | some b=>simp[eO]at hp;subst hp;exact⟨hf b rfl,by simp⟩
   .subst hp;exact⟨by simp,by simp⟩
   .have:=ih (i+1) none (by simp) p hp;simp;omega
  .split at hp
   .simp only[List.mem_append]at hp;rcases hp with hp|hp
    .cases f with
     | none=>simp[eO]at hp
     | some b=>simp[eO]at hp;subst hp;exact⟨hf b rfl,by simp⟩
    .have:=ih (i+1) none (by simp) p hp;simp;omega
   .have:=ih (i+1) (some (f.getD i)) (by intro b hb;simp at hb;subst hb;cases f with|none=>simp|some b=>have:=hf b rfl;simp;omega) p hp;simp;omega
theorem tV (t:List UInt8):∀ p∈dC t,p.1<p.2/\p.2<=t.length:=by
 intro p hp;have:=Ad t 0 none (by simp) p hp;simpa using this
theorem Am (t:ByteArray)(k:Nat)(h:k<t.size)(f:Option Nat)(hc:((t[k]).toNat:Int)=123\/((t[k]).toNat:Int)=125):
  cZ k f (t.data.toList.drop k)=eO f k++(k,k+1)::cZ (k+1) none (t.data.toList.drop (k+1)):=by
 rw[kZ t k h,cZ,if_pos];simp only[jG,Bool.or_eq_true,beq_iff_eq];omega
theorem Cx (t:ByteArray)(k:Nat)(h:k<t.size)(f:Option Nat)(hc:((t[k]).toNat:Int)=32\/((t[k]).toNat:Int)=10):
  cZ k f (t.data.toList.drop k)=eO f k++cZ (k+1) none (t.data.toList.drop (k+1)):=by
 rw[kZ t k h,cZ,if_neg,if_pos]
 .simp only[jH,Bool.or_eq_true,beq_iff_eq];omega
 .simp only[jG,Bool.or_eq_true,beq_iff_eq];omega
theorem An (t:ByteArray)(k:Nat)(h:k<t.size)(f:Option Nat)(h1:¬ ((t[k]).toNat:Int)=123)(h2:¬ ((t[k]).toNat:Int)=125)(h3:¬ ((t[k]).toNat:Int)=32)(h4:¬ ((t[k]).toNat:Int)=10):
  cZ k f (t.data.toList.drop k)=cZ (k+1) (some (f.getD k)) (t.data.toList.drop (k+1)):=by
 rw[kZ t k h,cZ,if_neg,if_neg]
 .simp only[jH,Bool.or_eq_true,beq_iff_eq];omega
 .simp only[jG,Bool.or_eq_true,beq_iff_eq];omega
theorem Cw (t:ByteArray)(k:Nat)(h:t.size<=k)(f:Option Nat):cZ k f (t.data.toList.drop k)=eO f k:=by
 rw[List.drop_of_length_le (by simpa using h)];rfl
def ao (t:ByteArray)(p:Nat×Nat):List UInt8:=(t.extract p.1 p.2).data.toList
def fQ (t:ByteArray):List (Nat×Nat)->Int->Int
 | [],_=>-1
 | p::r,n=>
  if ao t p=[123] then (if 4<n+1 then (p.1:Int) else fQ t r (n+1))
  else if ao t p=[125] then fQ t r (n - 1)
  else fQ t r n
def gi (t:ByteArray)(p:Nat×Nat)(n:Int):Int:=
 if ao t p=[123] then n+1 else if ao t p=[125] then n - 1 else n
def gq (t:ByteArray):List (Nat×Nat)->Int->Option Nat
 | [],_=>none
 | p::r,n=>if gi t p n=0 then some 0 else (gq t r (gi t p n)).map (·+1)
theorem lu {α:Type}(l:List α)(k:Nat)(h:k<l.length):l.drop k=l[k]::l.drop (k+1):=List.drop_eq_getElem_cons h
theorem EV (t:ByteArray):∀ (l:List (Nat×Nat)) (n:Int) (j:Nat),gq t l n=some j->j<l.length:=by
 intro l;induction l with
 | nil=>intro n j h;simp[gq]at h
 | cons p r ih=>
  intro n j h;simp only[gq]at h;split at h
  .simp at h;subst h;simp
  .cases e:gq t r (gi t p n) with
   | none=>rw[e]at h;simp at h
   | some i=>rw[e]at h;simp at h;have:=ih _ _ e;simp;omega
def eA:List UInt8:=[115,101,110,100]
def eJ:List UInt8:=[119,97,105,116]
def eX:List UInt8:=[115,116,111,112]
def dV:List UInt8:=[97,115,107]
def dL:List UInt8:=[114,101,116,114,121]
def ch:List UInt8:=[114,101,112,101,97,116]
def fE:List UInt8:=[101,108,115,101]
def dK:List UInt8:=[123]
def dh:List UInt8:=[125]
structure dw where
 want:List Int
 elses:List Bool
 next:Bool
 nums:List (Nat×Nat)
 sorts:List Int
def fU (s:List UInt8)(mode:Int)(st:dw):dw×Bool:=
 if s=eA then ({st with want:=[2,0]},true)
 else if s=eJ then ({st with want:=[3,0]},true)
 else if s=eX then ({st with want:=[0]},true)
 else if s=dV then ({st with want:=[2,3,6],next:=true},true)
 else if s=dL then ({st with want:=[4,2,3,6],next:=true},true)
 else if s=ch then ({st with want:=[5,6],next:=false},true)
 else if s=fE then ({st with want:=[6],next:=false},mode==1)
 else if s=dh then
  match st.elses with
  | []=>(st,false)
  | e::r=>({st with want:=if e then [1] else [0],elses:=r},true)
 else (st,false)
def fW (s:List UInt8)(p:Nat×Nat)(st:dw):dw×Bool:=
 match st.want with
 | []=>(st,false)
 | m::r=>
  if m=0\/m=1 then fU s m st
  else if m=6 then ({st with elses:=st.next::st.elses,want:=[0]},s==dK)
  else if m=2 then ({st with want:=r},decide (0<=cA s))
  else ({st with want:=r,nums:=st.nums++[p],sorts:=st.sorts++[m]},decide (0<=bm s))
def kp (t:ByteArray):List (Nat×Nat)->dw->dw ⊕ Nat
 | [],st=>.inl st
 | p::r,st=>if (fW (ao t p) p st).2=true then kp t r (fW (ao t p) p st).1 else .inr p.1
def ik:dw:={want:=[0],elses:=[],next:=false,nums:=[],sorts:=[]}
def jE (t:ByteArray):List (Nat×Nat)->List Int->Int×Int
 | p::r,s::q=>if bm (ao t p)<1\/mZ s<bm (ao t p) then (3,(p.1:Int)) else jE t r q
 | _,_=>(0,0)
def nU (t:ByteArray)(st:dw):Int×Int:=
 if 0<st.elses.length\/1<st.want.headD 0 then (2,(t.size:Int)) else jE t st.nums st.sorts
def iW (t:ByteArray):Int×Int:=
 match kp t (dC t.data.toList) ik with
 | .inr a=>(2,(a:Int))
 | .inl st=>nU t st
def mC (l:List Int):Prop:=∃ a l',l=l'++[a]/\(a=0\/a=1\/a=6)
structure kR (st:dw)(k:Nat):Prop where
 want:mC st.want
 short:st.want.length<=10
 elses:st.elses.length<=k
 nums:st.nums.length<=k
 same:st.sorts.length=st.nums.length
theorem mC.ne {l:List Int}(h:mC l):l≠[]:=by obtain⟨a,l',rfl,_⟩:=h;simp
theorem mC.tail {m:Int}{r:List Int}(h:mC (m::r))(h0:¬ (m=0\/m=1))(h6:¬ m=6):mC r:=by
 obtain⟨a,l',e,ha⟩:=h;cases l' with
 | nil=>simp at e;omega
 | cons b l''=>simp at e;exact⟨a,l'',e.2,ha⟩
theorem ku (l:List Int)(a:Int)(ha:a=0\/a=1\/a=6):mC (l++[a]):=⟨a,l,rfl,ha⟩
theorem kR.init:kR ik 0:=⟨ku [] 0 (by omega),by simp[ik],by simp[ik],by simp[ik],by simp[ik]⟩
theorem kR.first {s:List UInt8}{m:Int}{st:dw}{k:Nat}(h:kR st k):kR (fU s m st).1 (k+1):=by
 have he:=h.elses;have hn:=h.nums;have hs:=h.same;unfold fU;split
 .exact⟨ku [2] 0 (by omega),by simp,by simp;omega,by simp;omega,hs⟩
 split
 .exact⟨ku [3] 0 (by omega),by simp,by simp;omega,by simp;omega,hs⟩
 split
 .exact⟨ku [] 0 (by omega),by simp,by simp;omega,by simp;omega,hs⟩
 split
 .exact⟨ku [2,3] 6 (by omega),by simp,by simp;omega,by simp;omega,hs⟩
 split
 .exact⟨ku [4,2,3] 6 (by omega),by simp,by simp;omega,by simp;omega,hs⟩
 split
 .exact⟨ku [5] 6 (by omega),by simp,by simp;omega,by simp;omega,hs⟩
 split
 .exact⟨ku [] 6 (by omega),by simp,by simp;omega,by simp;omega,hs⟩
 split
 .split
  .exact⟨h.want,h.short,by simp;omega,by simp;omega,hs⟩
  .rename_i e r hr;rw[hr]at he;simp at he;refine⟨?_,?_,by simp;omega,by simp;omega,hs⟩
   .cases e
    .exact ku [] 0 (by omega)
    .exact ku [] 1 (by omega)
   .cases e <;> simp
 .exact⟨h.want,h.short,by simp;omega,by simp;omega,hs⟩
theorem kR.read {s:List UInt8}{p:Nat×Nat}{st:dw}{k:Nat}(h:kR st k):kR (fW s p st).1 (k+1):=by
 have he:=h.elses;have hn:=h.nums;have hs:=h.same;have hw:=h.want;have A0:=h.short;unfold fW;split
 .rename_i e;rw[e]at hw;exact absurd rfl hw.ne
 .rename_i m r e;rw[e]at hw A0;simp at A0;split
  .exact h.first
  .rename_i h01;split
   .exact⟨ku [] 0 (by omega),by simp,by simp;omega,by simp;omega,hs⟩
   .rename_i h6;have ht:=hw.tail h01 h6;split
    .exact⟨ht,by simp;omega,by simp;omega,by simp;omega,hs⟩
    .exact⟨ht,by simp;omega,by simp;omega,by simp;omega,by simp;omega⟩
structure Hd where
 p:Nat×Nat
 key:Int
 n:Int
 m:Int
def af:Nat->Type
 | 0=>Unit
 | d+1=>List (Hd×af d×af d)
def cm:(d:Nat)->af d
 | 0=>()
 | _+1=>[]
def gv (t:ByteArray)(wo:List (Nat×Nat))(h:Hd)(f:Nat):Prop:=
 (∃ p q,wo=[p,q]/\f=0/\ao t p=eA/\h={p:=p,key:=cA (ao t q),n:=0,m:=0}) \/
 (∃ p q,wo=[p,q]/\f=0/\ao t p=eJ/\h={p:=p,key:=0,n:=bm (ao t q),m:=0}) \/
 (∃ p,wo=[p]/\f=0/\ao t p=eX/\h={p:=p,key:=0,n:=0,m:=0}) \/
 (∃ p q r,wo=[p,q,r]/\f=2/\ao t p=dV/\h={p:=p,key:=cA (ao t q),n:=bm (ao t r),m:=0}) \/
 (∃ p q r s,wo=[p,q,r,s]/\f=2/\ao t p=dL/\h={p:=p,key:=cA (ao t r),n:=bm (ao t s),m:=bm (ao t q)}) \/
 (∃ p q,wo=[p,q]/\f=1/\ao t p=ch/\h={p:=p,key:=0,n:=bm (ao t q),m:=0})
def qM (t:ByteArray)(l:List (Nat×Nat)):Prop:=∀ p∈l,¬ ao t p=dK/\¬ ao t p=dh
def lE (t:ByteArray)(l:List (Nat×Nat))(s:List UInt8):Prop:=∀ p,l.head?=some p->¬ ao t p=s
def GL (t:ByteArray){T:Type}(sub:List (Nat×Nat)->T->Prop)(nil:T):List (Nat×Nat)->List (Hd×T×T)->Prop
 | ws,[]=>ws=[]
 | ws,x::r=>∃ wo wb wr f,ws=wo++(wb++wr)/\gv t wo x.1 f/\qM t wo/\GL t sub nil wr r /\
   ((f=0/\wb=[]/\x.2.1=nil/\x.2.2=nil/\lE t wr dK) \/
    (∃ o wa c,¬ f=0/\wb=o::(wa++[c])/\ao t o=dK/\ao t c=dh/\sub wa x.2.1/\x.2.2=nil/\lE t wr fE) \/
    (∃ o wa c e o2 wa2 c2,f=2/\wb=o::(wa++c::e::o2::(wa2++[c2]))/\ao t o=dK/\ao t c=dh/\ao t e=fE/\ao t o2=dK/\ao t c2=dh/\sub wa x.2.1/\sub wa2 x.2.2))
def GT (t:ByteArray):(d:Nat)->List (Nat×Nat)->af d->Prop
 | 0,ws,_=>ws=[]
 | d+1,ws,l=>GL t (GT t d) (cm d) ws l
theorem pJ (t:ByteArray)(p:Nat×Nat)(r:List (Nat×Nat))(n:Int)(h:¬ gi t p n=0):gq t (p::r) n=(gq t r (gi t p n)).map (·+1):=by
 rw[gq,if_neg h]
theorem kA {t:ByteArray}{p:Nat×Nat}(n:Int)(h:ao t p=dK):gi t p n=n+1:=by unfold gi;exact if_pos h
theorem kC {t:ByteArray}{p:Nat×Nat}(n:Int)(h:ao t p=dh):gi t p n=n - 1:=by unfold gi;exact(if_neg (by rw[h];decide)).trans (if_pos h)
theorem lD {t:ByteArray}{p:Nat×Nat}(n:Int)(h:¬ ao t p=dK/\¬ ao t p=dh):gi t p n=n:=by unfold gi;exact(if_neg h.1).trans (if_neg h.2)
def aY (t:ByteArray)(ws:List (Nat×Nat)):Prop:=∀ (u:List (Nat×Nat)) (n:Int),1<=n->gq t (ws++u) n=(gq t u n).map (·+ws.length)
theorem aY.nil (t:ByteArray):aY t []:=fun u n _=>by simp
theorem aY.append {t:ByteArray}{a b:List (Nat×Nat)}(ha:aY t a)(hb:aY t b):aY t (a++b):=fun u n hn=>by
 rw[List.append_assoc,ha _ n hn,hb u n hn,Option.map_map];congr 1;funext i;simp;omega
theorem aY.plain {t:ByteArray}:∀ {l:List (Nat×Nat)},qM t l->aY t l:=by
 intro l;induction l with
 | nil=>intro _;exact aY.nil t
 | cons p r ih=>
  intro h u n hn;have hp:=h p (by simp);rw[List.cons_append,pJ _ _ _ _ (by rw[lD n hp];omega),lD n hp,ih (fun q hq=>h q (by simp[hq])) u n hn,Option.map_map];congr 1
theorem aY.one {t:ByteArray}{p:Nat×Nat}(h:¬ ao t p=dK/\¬ ao t p=dh):aY t [p]:=aY.plain (fun q hq=>by simp at hq;subst hq;exact h)
theorem aY.brace {t:ByteArray}{o c:Nat×Nat}{wa:List (Nat×Nat)}(ho:ao t o=dK)(hc:ao t c=dh)(ha:aY t wa):aY t (o::(wa++[c])):=fun u n hn=>by
 rw[List.cons_append,pJ _ _ _ _ (by rw[kA n ho];omega),kA n ho,List.append_assoc,ha _ (n+1) (by omega),List.cons_append,List.nil_append,
  pJ _ _ _ _ (by rw[kC (n+1) hc];omega),kC (n+1) hc,show n+1 - 1=n from by omega,Option.map_map,Option.map_map]
 congr 1;funext i;simp;omega
theorem rT {t:ByteArray}{e:Nat×Nat}(h:ao t e=fE):¬ ao t e=dK/\¬ ao t e=dh:=by rw[h];decide
theorem GL.passes {t:ByteArray}{T:Type}{sub:List (Nat×Nat)->T->Prop}{nil:T}(hs:∀ ws x,sub ws x->aY t ws):∀ (l:List (Hd×T×T)) (ws:List (Nat×Nat)),GL t sub nil ws l->aY t ws:=by
 intro l;induction l with
 | nil=>intro ws h;rw[GL]at h;subst h;exact aY.nil t
 | cons x r ih=>
  intro ws h;rw[GL]at h;obtain⟨wo,wb,wr,f,rfl,_,hp,hr,hb⟩:=h;refine(aY.plain hp).append (aY.append ?_ (ih wr hr));rcases hb with ⟨_,rfl,_⟩|⟨o,wa,c,_,rfl,ho,hc,ha,_⟩|⟨o,wa,c,e,o2,wa2,c2,_,rfl,ho,hc,he,ho2,hc2,ha,ha2⟩
  .exact aY.nil t
  .exact aY.brace ho hc (hs _ _ ha)
  .have h1:=aY.brace ho hc (hs _ _ ha);have h2:=aY.brace ho2 hc2 (hs _ _ ha2);have:=h1.append ((aY.one (rT he)).append h2);simpa using this
theorem GT.passes {t:ByteArray}:∀ (d:Nat) (ws:List (Nat×Nat)) (x:af d),GT t d ws x->aY t ws:=by
 intro d;induction d with
 | zero=>intro ws x h;rw[GT]at h;subst h;exact aY.nil t
 | succ d ih=>intro ws x h;rw[GT]at h;exact GL.passes ih x ws h
theorem mJ {t:ByteArray}{o c:Nat×Nat}{wa u:List (Nat×Nat)}(ho:ao t o=dK)(hc:ao t c=dh)(ha:aY t wa):
  gq t (o::(wa++c::u)) 0=some (wa.length+1):=by
 rw[pJ _ _ _ _ (by rw[kA 0 ho];omega),kA 0 ho,ha _ (0+1) (by omega),gq,kC (0+1) hc,if_pos (by omega)];simp
def kj (t:ByteArray){T:Type}(sub:T->Int->Int):List (Hd×T×T)->Int->Int
 | [],_=>-1
 | x::r,n=>
  if ao t x.1.p=ch then
   (if 64<n*x.1.n then (x.1.p.1:Int)
    else if 0<=sub x.2.1 (n*x.1.n) then sub x.2.1 (n*x.1.n)
    else if 0<=sub x.2.2 (n*x.1.n) then sub x.2.2 (n*x.1.n)
    else kj t sub r n)
  else
   (if 0<=sub x.2.1 n then sub x.2.1 n
    else if 0<=sub x.2.2 n then sub x.2.2 n
    else kj t sub r n)
def fI (t:ByteArray):(d:Nat)->af d->Int->Int
 | 0,_,_=>-1
 | d+1,l,n=>kj t (fI t d) l n
def gR:Nat->Int×Int->Int×Int->Int×Int
 | 0,acc,_=>acc
 | k+1,acc,a=>gR k (bV acc.1 a.1,cu acc.2 (bV acc.1 a.2)) a
def fO (n:Int):Nat->Int
 | 0=>n
 | k+1=>2*fO n k+n
def eD (t:ByteArray)(h:Hd)(a b:Int×Int):Int×Int:=
 if ao t h.p=eJ then (h.n,-1)
 else if ao t h.p=eX then (-1,0)
 else if ao t h.p=eA then (0,-1)
 else if ao t h.p=ch then gR h.n.toNat (0,-1) a
 else (cu (bV (fO h.n (h.m - 1).toNat - 1) a.1) (bV (fO h.n (h.m - 1).toNat) b.1),
    cu (bV (fO h.n (h.m - 1).toNat - 1) a.2) (bV (fO h.n (h.m - 1).toNat) b.2))
def fJ:Int×Int->List (Int×Int)->Int×Int
 | acc,[]=>acc
 | acc,a::r=>fJ (bV acc.1 a.1,cu acc.2 (bV acc.1 a.2)) r
def bE (t:ByteArray):(d:Nat)->af d->Int×Int
 | 0,_=>(0,-1)
 | d+1,l=>fJ (0,-1) (l.map fun x=>eD t x.1 (bE t d x.2.1) (bE t d x.2.2))
def bv:(d:Nat)->af d->Nat
 | 0,_=>0
 | d+1,l=>(l.map fun x=>1+bv d x.2.1+bv d x.2.2).sum
def af.list {d:Nat}(l:af (d+1)):List (Hd×af d×af d):=l
def io (t:ByteArray):(d:Nat)->af d->Prop
 | 0,_=>True
 | d+1,l=>∀ x:Hd×af d×af d,x∈l.list->0<=x.1.n/\x.1.n<=999/\0<=x.1.m/\x.1.m<=6/\(ao t x.1.p=ch->1<=x.1.n/\x.1.n<=9)/\io t d x.2.1/\io t d x.2.2
def kQ (d:Nat):Int:=62937*9 ^ d
theorem nC (d:Nat):kQ (d+1)=9*kQ d:=by unfold kQ;rw[Int.pow_succ];omega
theorem lH (d:Nat):62937<=kQ d:=by
 induction d with
 | zero=>decide
 | succ d ih=>rw[nC];omega
theorem nu {a b x y:Int}(ha:a<=x)(hb:b<=y)(hx:0<=x)(hy:0<=y):-1<=bV a b/\bV a b<=x+y:=by
 unfold bV;split <;> omega
theorem tf {a b x:Int}(ha:a<=x)(hb:b<=x):cu a b<=x:=by unfold cu;split <;> omega
theorem te {a b:Int}(ha:-1<=a):-1<=cu a b:=by unfold cu;split <;> omega
def bn (a:Int×Int)(c:Int):Prop:=-1<=a.1/\a.1<=c/\-1<=a.2/\a.2<=c
theorem bn.step {acc a:Int×Int}{c e:Int}(h1:bn acc c)(h2:bn a e)(hc:0<=c)(he:0<=e):bn (bV acc.1 a.1,cu acc.2 (bV acc.1 a.2)) (c+e):=by
 obtain⟨a1,a2,a3,a4⟩:=h1;obtain⟨b1,b2,b3,b4⟩:=h2;have h3:=nu a2 b2 hc he;have h4:=nu a2 b4 hc he;exact⟨h3.1,h3.2,te a3,tf (by omega) h4.2⟩
theorem yT {a:Int×Int}{e:Int}(h2:bn a e)(he:0<=e):∀ (k:Nat) (acc:Int×Int) (c:Int),bn acc c->0<=c->bn (gR k acc a) (c+k*e):=by
 intro k;induction k with
 | zero=>intro acc c h hc;simpa[gR] using h
 | succ k ih=>
  intro acc c h hc;have:=ih _ _ (h.step h2 hc he) (by omega);rw[gR];have e1:c+((k+1:Nat):Int)*e=c+e+k*e:=by push_cast;rw[Int.add_mul];omega
  rw[e1];exact this
theorem pI (n:Int)(h0:0<=n)(hn:n<=999):∀ (k:Nat),k<=5->0<=fO n k/\fO n k<=62937:=by
 intro k hk;have h:k=0\/k=1\/k=2\/k=3\/k=4\/k=5:=by omega
 rcases h with rfl|rfl|rfl|rfl|rfl|rfl <;> simp only[fO] <;> omega
theorem ow (t:ByteArray)(h:Hd)(a b:Int×Int)(sa sb:Nat)(C:Int)(hC:62937<=C)(ha:bn a (sa*C))(hb:bn b (sb*C))(h1:0<=h.n)(h2:h.n<=999)(h4:h.m<=6)
  (h5:ao t h.p=ch->1<=h.n/\h.n<=9):bn (eD t h a b) ((1+sa+sb:Nat)*(9*C)):=by
 have pa:(0:Int)<=sa*C:=Int.mul_nonneg (by omega) (by omega);have pb:(0:Int)<=sb*C:=Int.mul_nonneg (by omega) (by omega);have e0:((1+sa+sb:Nat):Int)*(9*C)=9*C+9*(sa*C)+9*(sb*C):=by
  push_cast;rw[Int.add_mul,Int.add_mul,Int.one_mul,Int.mul_left_comm,Int.mul_left_comm (sb:Int)]
 rw[e0];unfold eD;split
 .exact⟨by simp;omega,by simp;omega,by simp,by simp;omega⟩
 split
 .exact⟨by simp,by simp;omega,by simp,by simp;omega⟩
 split
 .exact⟨by simp,by simp;omega,by simp,by simp;omega⟩
 split
 .rename_i hr;have:=h5 hr;have hk:=yT ha pa h.n.toNat (0,-1) 0 ⟨by simp,by simp,by simp,by simp⟩ (by omega);have e1:((h.n.toNat:Nat):Int)=h.n:=by omega
  rw[e1]at hk;have hm:h.n*(sa*C)<=9*(sa*C):=Int.mul_le_mul_of_nonneg_right (by omega) pa;obtain⟨k1,k2,k3,k4⟩:=hk;exact⟨k1,by omega,k3,by omega⟩
 .obtain⟨a1,a2,a3,a4⟩:=ha;obtain⟨b1,b2,b3,b4⟩:=hb;have ht:=pI h.n h1 h2 (h.m - 1).toNat (by omega);generalize fO h.n (h.m - 1).toNat=T at *;have q1:=nu (show T - 1<=62937 by omega) a2 (by omega) pa;have q2:=nu (show T<=62937 by omega) b2 (by omega) pb;have q3:=nu (show T - 1<=62937 by omega) a4 (by omega) pa;have q4:=nu (show T<=62937 by omega) b4 (by omega) pb;exact⟨te q1.1,tf (by omega) (by omega),te q3.1,tf (by omega) (by omega)⟩
theorem rp (D:Int)(hD:0<=D){α:Type}(f:α->Int×Int)(s:α->Nat):∀ (l:List α) (acc:Int×Int) (c:Int),(∀ x∈l,bn (f x) (s x*D))->bn acc c->0<=c->bn (fJ acc (l.map f)) (c+(l.map s).sum*D):=by
 intro l;induction l with
 | nil=>intro acc c _ h _;simpa[fJ] using h
 | cons x r ih=>
  intro acc c hx h hc;have hp:(0:Int)<=s x*D:=Int.mul_nonneg (by omega) hD;have:=ih _ _ (fun y hy=>hx y (by simp[hy])) (h.step (hx x (by simp)) hc hp) (by omega);rw[List.map_cons,fJ];have e1:c+(((x::r).map s).sum:Nat)*D=c+s x*D+((r.map s).sum:Nat)*D:=by
   simp only[List.map_cons,List.sum_cons];push_cast;rw[Int.add_mul];omega
  rw[e1];exact this
theorem kT (t:ByteArray):∀ (d:Nat) (tr:af d),io t d tr->bn (bE t d tr) (bv d tr*kQ d):=by
 intro d;induction d with
 | zero=>intro tr _;exact⟨by simp[bE],by simp[bE,bv],by simp[bE],by simp[bE,bv]⟩
 | succ d ih=>
  intro tr hok;have hp:=lH d;have:=rp (kQ (d+1)) (by have:=lH (d+1);omega) (fun x:Hd×af d×af d=>eD t x.1 (bE t d x.2.1) (bE t d x.2.2)) (fun x=>1+bv d x.2.1+bv d x.2.2) tr.list (0,-1) 0
   (fun x hx=>by
    have h:=hok x hx;rw[nC];exact ow t x.1 _ _ _ _ _ hp (ih _ h.2.2.2.2.2.1) (ih _ h.2.2.2.2.2.2) h.1 h.2.1 h.2.2.2.1 h.2.2.2.2.1) ⟨by simp,by simp,by simp,by simp⟩ (by omega)
  rw[Int.zero_add]at this;exact this
theorem vf:∀ (l:List (Int×Int))(acc a:Int×Int),fJ acc (l++[a])=(bV (fJ acc l).1 a.1,cu (fJ acc l).2 (bV (fJ acc l).1 a.2)):=by
 intro l;induction l with
 | nil=>intro acc a;rfl
 | cons x r ih=>intro acc a;rw[List.cons_append,fJ,ih,fJ]
theorem uD {α:Type}(f:α->Nat):∀ (l:List α) (k:Nat),((l.take k).map f).sum<=(l.map f).sum:=by
 intro l;induction l with
 | nil=>intro k;simp
 | cons x r ih=>
  intro k;cases k with
  | zero=>simp
  | succ k=>
   have:=ih k;simp only[List.take_succ_cons,List.map_cons,List.sum_cons];omega
theorem lY {a:Int×Int}{n d:Nat}(h:bn a (n*kQ d))(hn:n<=400)(hd:d<=5):bn a 10000000000000:=by
 have hc:kQ d<=3716366913:=by
  have:d=0\/d=1\/d=2\/d=3\/d=4\/d=5:=by omega
  rcases this with rfl|rfl|rfl|rfl|rfl|rfl <;> decide
 have h0:=lH d;have:(n:Int)*kQ d<=400*3716366913:=Int.mul_le_mul (by omega) hc (by omega) (by omega);obtain⟨a1,a2,a3,a4⟩:=h;exact⟨a1,by omega,a3,by omega⟩
def dB:List UInt8->Nat->Nat
 | [],i=>i
 | c::r,i=>if jH c then dB r (i+1) else i
def eK:List UInt8->Nat->Nat
 | [],i=>i
 | c::r,i=>if jH c || jG c then i else eK r (i+1)
def fK (l:List UInt8)(i:Nat):Nat:=
 match l with
 | []=>i
 | c::_=>if jG c then i+1 else eK l i
def cN (s:List UInt8):Int:=
 if s=eA then 1 else if s=eJ then 2 else if s=eX then 3 else if s=dV then 4 else if s=dL then 5 else if s=ch then 6 else 0
def gD (t:ByteArray)(i:Nat):List (Nat×Nat):=cZ i none (t.data.toList.drop i)
theorem pW:∀ (l:List UInt8)(i:Nat),i<=dB l i/\dB l i<=i+l.length:=by
 intro l;induction l with
 | nil=>intro i;simp[dB]
 | cons c r ih=>
  intro i;have:=ih (i+1);simp only[dB,List.length_cons];split <;> omega
theorem sN:∀ (l:List UInt8)(i:Nat),i<=eK l i/\eK l i<=i+l.length:=by
 intro l;induction l with
 | nil=>intro i;simp[eK]
 | cons c r ih=>
  intro i;have:=ih (i+1);simp only[eK,List.length_cons];split <;> omega
theorem Cs:∀ (l:List UInt8)(i:Nat),cZ i none l=cZ (dB l i) none (l.drop (dB l i - i)):=by
 intro l;induction l with
 | nil=>intro i;simp[dB]
 | cons c r ih=>
  intro i;by_cases hg:jH c=true
  .have hb:jG c=false:=by
    simp only[jH,jG,Bool.or_eq_true,beq_iff_eq,Bool.or_eq_false_iff,beq_eq_false_iff_ne]at *;omega
   have h1:dB (c::r) i=dB r (i+1):=by rw[dB,if_pos hg]
   have h2:=(pW r (i+1)).1;rw[h1,show dB r (i+1) - i=(dB r (i+1) - (i+1))+1 from by omega,List.drop_succ_cons,<- ih (i+1)];rw[cZ,if_neg (by rw[hb];decide),if_pos hg];rfl
  .have h1:dB (c::r) i=i:=by rw[dB,if_neg hg]
   rw[h1];simp
theorem Cz:∀ (l:List UInt8)(i b:Nat),cZ i (some b) l=(b,eK l i)::cZ (eK l i) none (l.drop (eK l i - i)):=by
 intro l;induction l with
 | nil=>intro i b;simp[cZ,eK,eO]
 | cons c r ih=>
  intro i b;by_cases hb:jG c=true
  .have h1:eK (c::r) i=i:=by rw[eK,if_pos (by rw[hb];simp)]
   rw[h1,Nat.sub_self,List.drop_zero,cZ,if_pos hb,cZ,if_pos hb];rfl
  .by_cases hg:jH c=true
   .have h1:eK (c::r) i=i:=by rw[eK,if_pos (by rw[hg];simp)]
    rw[h1,Nat.sub_self,List.drop_zero,cZ,if_neg hb,if_pos hg,cZ,if_neg hb,if_pos hg];rfl
   .have h1:eK (c::r) i=eK r (i+1):=by rw[eK,if_neg (by simp[hb,hg])]
    have h2:=(sN r (i+1)).1;rw[h1,show eK r (i+1) - i=(eK r (i+1) - (i+1))+1 from by omega,List.drop_succ_cons,<- ih (i+1) b];rw[cZ,if_neg hb,if_neg hg];rfl
theorem CA (l:List UInt8)(i:Nat)(h:dB l i=i)(hl:l≠[]):i<fK l i/\cZ i none l=(i,fK l i)::cZ (fK l i) none (l.drop (fK l i - i)):=by
 cases l with
 | nil=>exact absurd rfl hl
 | cons c r=>
  have hg:¬ jH c=true:=fun hg=>by
   rw[dB,if_pos hg]at h;have:=(pW r (i+1)).1;omega
  by_cases hb:jG c=true
  .have h1:fK (c::r) i=i+1:=by simp only[fK];rw[if_pos hb]
   rw[h1];refine⟨by omega,?_⟩;rw[show i+1 - i=1 from by omega,List.drop_succ_cons,List.drop_zero,cZ,if_pos hb];rfl
  .have h1:fK (c::r) i=eK r (i+1):=by simp only[fK];rw[if_neg hb,eK,if_neg (by simp[hb,hg])]
   have h2:=(sN r (i+1)).1;rw[h1];refine⟨by omega,?_⟩;rw[show eK r (i+1) - i=(eK r (i+1) - (i+1))+1 from by omega,List.drop_succ_cons,<- Cz r (i+1) i,cZ,if_neg hb,if_neg hg];rfl
theorem tY (t:ByteArray)(i:Nat)(hi:i<=t.size):
  (gD t i=[]/\dB (t.data.toList.drop i) i=t.size) \/
  (∃ a b,dB (t.data.toList.drop i) i=a/\fK (t.data.toList.drop a) a=b/\a<b/\b<=t.size/\i<=a/\gD t i=(a,b)::gD t b):=by
 have hb:=pW (t.data.toList.drop i) i;have A0:(t.data.toList.drop i).length=t.size - i:=by simp
 rw[A0]at hb;have h1:=Cs (t.data.toList.drop i) i;rw[List.drop_drop,show i+(dB (t.data.toList.drop i) i - i)=dB (t.data.toList.drop i) i from by omega]at h1;obtain⟨a,ha⟩:∃ a,a=dB (t.data.toList.drop i) i:=⟨_,rfl⟩;rw[<- ha]at h1 hb;by_cases hend:a=t.size
 .left;refine⟨?_,by rw[<- ha,hend]⟩;unfold gD;rw[h1,List.drop_of_length_le (by simp;omega)];rfl
 .right;have hs:dB (t.data.toList.drop a) a=a:=by
   have:∀ (l:List UInt8) (j:Nat),dB (l.drop (dB l j - j)) (dB l j)=dB l j:=by
    intro l;induction l with
    | nil=>intro j;simp[dB]
    | cons c r ih=>
     intro j;by_cases hg:jH c=true
     .have e:dB (c::r) j=dB r (j+1):=by rw[dB,if_pos hg]
      have h2:=(pW r (j+1)).1;rw[e,show dB r (j+1) - j=(dB r (j+1) - (j+1))+1 from by omega,List.drop_succ_cons];exact ih (j+1)
     .have e:dB (c::r) j=j:=by rw[dB,if_neg hg]
      rw[e,Nat.sub_self,List.drop_zero,e]
   have h3:=this (t.data.toList.drop i) i;rw[List.drop_drop,<- ha,show i+(a - i)=a from by omega]at h3;exact h3
  have hw:=CA (t.data.toList.drop a) a hs (by intro h;have:=congrArg List.length h;simp at this;omega);have A2:fK (t.data.toList.drop a) a<=t.size:=by
   have A1:(t.data.toList.drop a).length=t.size - a:=by simp
   cases hc:t.data.toList.drop a with
   | nil=>simp only[fK];omega
   | cons c r=>
    rw[hc]at A1;simp only[fK];split
    .simp at A1;omega
    .have:=(sN (c::r) a).2;omega
  refine⟨a,_,ha.symm,rfl,hw.1,A2,by omega,?_⟩;unfold gD;rw[h1,hw.2,List.drop_drop,show a+(fK (t.data.toList.drop a) a - a)=fK (t.data.toList.drop a) a from by omega]
theorem Aq (t:ByteArray)(k:Nat)(h:k<t.size)(hg:((t[k]).toNat:Int)=32\/((t[k]).toNat:Int)=10):dB (t.data.toList.drop k) k=dB (t.data.toList.drop (k+1)) (k+1):=by
 rw[kZ t k h,dB,if_pos];simp only[jH,Bool.or_eq_true,beq_iff_eq];omega
theorem Ap (t:ByteArray)(k:Nat)(h:k<t.size)(h1:¬ ((t[k]).toNat:Int)=32)(h2:¬ ((t[k]).toNat:Int)=10):dB (t.data.toList.drop k) k=k:=by
 rw[kZ t k h,dB,if_neg];simp only[jH,Bool.or_eq_true,beq_iff_eq];omega
theorem uP (t:ByteArray)(k:Nat)(h:t.size<=k):dB (t.data.toList.drop k) k=k:=by
 rw[List.drop_of_length_le (by simpa using h)];rfl
theorem BB (t:ByteArray)(k:Nat)(h:k<t.size)(h1:¬ ((t[k]).toNat:Int)=32)(h2:¬ ((t[k]).toNat:Int)=10)(h3:¬ ((t[k]).toNat:Int)=123)(h4:¬ ((t[k]).toNat:Int)=125):eK (t.data.toList.drop k) k=eK (t.data.toList.drop (k+1)) (k+1):=by
 rw[kZ t k h,eK,if_neg];simp only[jH,jG,Bool.or_eq_true,beq_iff_eq];omega
theorem uQ (t:ByteArray)(k:Nat)(h:k<t.size)(h1:((t[k]).toNat:Int)=32\/((t[k]).toNat:Int)=10\/((t[k]).toNat:Int)=123\/((t[k]).toNat:Int)=125):eK (t.data.toList.drop k) k=k:=by
 rw[kZ t k h,eK,if_pos];simp only[jH,jG,Bool.or_eq_true,beq_iff_eq];omega
theorem rX (t:ByteArray)(k:Nat)(h:t.size<=k):eK (t.data.toList.drop k) k=k:=by
 rw[List.drop_of_length_le (by simpa using h)];rfl
theorem Bp (t:ByteArray)(k:Nat)(h:k<t.size)(h1:((t[k]).toNat:Int)=123\/((t[k]).toNat:Int)=125):fK (t.data.toList.drop k) k=k+1:=by
 rw[kZ t k h];simp only[fK];rw[if_pos];simp only[jG,Bool.or_eq_true,beq_iff_eq];omega
theorem AK (t:ByteArray)(k:Nat)(h:k<t.size)(h1:¬ ((t[k]).toNat:Int)=123)(h2:¬ ((t[k]).toNat:Int)=125):fK (t.data.toList.drop k) k=eK (t.data.toList.drop k) k:=by
 rw[kZ t k h];simp only[fK];rw[if_neg];simp only[jG,Bool.or_eq_true,beq_iff_eq];omega
theorem wK (t:ByteArray)(k:Nat)(h:t.size<=k):fK (t.data.toList.drop k) k=eK (t.data.toList.drop k) k:=by
 rw[List.drop_of_length_le (by simpa using h)];rfl
structure Nd where
 kind:Int
 key:Int
 times:Int
 ticks:Int
 body:Nat
 els:Nat
def bt (t:ByteArray)(h:Hd):Prop:=
 (ao t h.p=eA/\h.n=0/\h.m=0) \/
 (ao t h.p=eJ/\1<=h.n/\h.n<=999/\h.m=0/\h.key=0) \/
 (ao t h.p=eX/\h.n=0/\h.m=0/\h.key=0) \/
 (ao t h.p=dV/\1<=h.n/\h.n<=999/\h.m=0) \/
 (ao t h.p=dL/\1<=h.n/\h.n<=999/\1<=h.m/\h.m<=6) \/
 (ao t h.p=ch/\1<=h.n/\h.n<=9/\h.m=0/\h.key=0)
def ei (t:ByteArray)(h:Hd)(b e:Nat):Nd:=
 {kind:=cN (ao t h.p),key:=h.key,
  times:=if ao t h.p=dL then h.m else if ao t h.p=ch then h.n else 0,
  ticks:=if ao t h.p=eJ\/ao t h.p=dV\/ao t h.p=dL then h.n else 0,
  body:=b,els:=e}
def cE (t:ByteArray):(d:Nat)->af d->List Nd
 | 0,_=>[]
 | d+1,l=>l.flatMap fun x:Hd×af d×af d=>ei t x.1 (cE t d x.2.1).length (cE t d x.2.2).length::(cE t d x.2.1++cE t d x.2.2)
def aF (t:ByteArray):(d:Nat)->af d->Prop
 | 0,_=>True
 | d+1,l=>∀ x:Hd×af d×af d,x∈l.list->bt t x.1/\aF t d x.2.1/\aF t d x.2.2
theorem aF.ok {t:ByteArray}:∀ (d:Nat) (tr:af d),aF t d tr->io t d tr:=by
 intro d;induction d with
 | zero=>intro tr _;trivial
 | succ d ih=>
  intro tr h x hx;obtain⟨h1,h2,h3⟩:=h x hx;have key:0<=x.1.n/\x.1.n<=999/\0<=x.1.m/\x.1.m<=6/\(ao t x.1.p=ch->1<=x.1.n/\x.1.n<=9):=by
   rcases h1 with ⟨hk,h⟩|⟨hk,h⟩|⟨hk,h⟩|⟨hk,h⟩|⟨hk,h⟩|⟨hk,h⟩;all_goals
    refine⟨by omega,by omega,by omega,by omega,fun hr=>?_⟩;first|omega|(rw[hk]at hr;exact absurd hr (by decide))
  exact⟨key.1,key.2.1,key.2.2.1,key.2.2.2.1,key.2.2.2.2,ih _ h2,ih _ h3⟩
theorem ve (t:ByteArray):∀ (d:Nat) (tr:af d),(cE t d tr).length=bv d tr:=by
 intro d;induction d with
 | zero=>intro tr;rfl
 | succ d ih=>
  intro tr;have:∀ l:List (Hd×af d×af d),(l.flatMap fun x:Hd×af d×af d=>ei t x.1 (cE t d x.2.1).length (cE t d x.2.2).length::(cE t d x.2.1++cE t d x.2.2)).length =
    (l.map fun x=>1+bv d x.2.1+bv d x.2.2).sum:=by
   intro l;induction l with
   | nil=>rfl
   | cons x r ihr=>
    rw[List.flatMap_cons,List.length_append,ihr,List.map_cons,List.sum_cons,List.length_cons,List.length_append,ih,ih];omega
  exact this tr
theorem si {t:ByteArray}{h:Hd}(b e:Nat)(hk:ao t h.p=eA):ei t h b e={kind:=1,key:=h.key,times:=0,ticks:=0,body:=b,els:=e}:=by unfold ei;rw[hk];rfl
theorem sk {t:ByteArray}{h:Hd}(b e:Nat)(hk:ao t h.p=eJ):ei t h b e={kind:=2,key:=h.key,times:=0,ticks:=h.n,body:=b,els:=e}:=by unfold ei;rw[hk];rfl
theorem sj {t:ByteArray}{h:Hd}(b e:Nat)(hk:ao t h.p=eX):ei t h b e={kind:=3,key:=h.key,times:=0,ticks:=0,body:=b,els:=e}:=by unfold ei;rw[hk];rfl
theorem oK {t:ByteArray}{h:Hd}(b e:Nat)(hk:ao t h.p=dV):ei t h b e={kind:=4,key:=h.key,times:=0,ticks:=h.n,body:=b,els:=e}:=by unfold ei;rw[hk];rfl
theorem ol {t:ByteArray}{h:Hd}(b e:Nat)(hk:ao t h.p=dL):ei t h b e={kind:=5,key:=h.key,times:=h.m,ticks:=h.n,body:=b,els:=e}:=by unfold ei;rw[hk];rfl
theorem ou {t:ByteArray}{h:Hd}(b e:Nat)(hk:ao t h.p=ch):ei t h b e={kind:=6,key:=h.key,times:=h.n,ticks:=0,body:=b,els:=e}:=by unfold ei;rw[hk];rfl
theorem CO {t:ByteArray}{h:Hd}(x y:Int×Int)(hk:ao t h.p=eA):eD t h x y=(0,-1):=by unfold eD;rw[hk];rfl
theorem CQ {t:ByteArray}{h:Hd}(x y:Int×Int)(hk:ao t h.p=eJ):eD t h x y=(h.n,-1):=by unfold eD;rw[hk];rfl
theorem CP {t:ByteArray}{h:Hd}(x y:Int×Int)(hk:ao t h.p=eX):eD t h x y=(-1,0):=by unfold eD;rw[hk];rfl
theorem AD {t:ByteArray}{h:Hd}(x y:Int×Int)(hk:ao t h.p=ch):eD t h x y=gR h.n.toNat (0,-1) x:=by unfold eD;rw[hk];rfl
theorem Dx {t:ByteArray}{h:Hd}(x y:Int×Int)(hk:ao t h.p=dV)(hm:h.m=0):eD t h x y=(cu (bV (h.n - 1) x.1) (bV h.n y.1),cu (bV (h.n - 1) x.2) (bV h.n y.2)):=by unfold eD;rw[hk,hm];rfl
theorem Ci {t:ByteArray}{h:Hd}(x y:Int×Int)(hk:ao t h.p=dL):eD t h x y=(cu (bV (fO h.n (h.m - 1).toNat - 1) x.1) (bV (fO h.n (h.m - 1).toNat) y.1),cu (bV (fO h.n (h.m - 1).toNat - 1) x.2) (bV (fO h.n (h.m - 1).toNat) y.2)):=by unfold eD;rw[hk];rfl
structure aD where
 us:List (Nat×Nat)
 fl:List Nd
 deep:Int
 heavy:Int
 fault:Int
 place:Int
def bz (t:ByteArray)(us:List (Nat×Nat)):Nat:=
 match us with
 | []=>t.size
 | p::_=>p.1
def eo (t:ByteArray)(us:List (Nat×Nat)):ByteArray:=
 match us with
 | []=>ByteArray.empty
 | p::_=>t.extract p.1 p.2
def gy (t:ByteArray)(us:List (Nat×Nat)):Prop:=∀ p r,us=p::r->r=gD t p.2/\p.1<=p.2/\p.2<=t.size
theorem gy.of_from (t:ByteArray)(i:Nat)(hi:i<=t.size):gy t (gD t i):=by
 intro p r h;rcases tY t i hi with ⟨h1,_⟩|⟨a,b,_,_,h3,h4,_,h6⟩
 .rw[h1]at h;cases h
 .rw[h6]at h;simp at h;obtain⟨rfl,rfl⟩:=h;exact⟨rfl,Nat.le_of_lt h3,h4⟩
theorem gy.tail {t:ByteArray}{us:List (Nat×Nat)}(h:gy t us):gy t us.tail:=by
 cases us with
 | nil=>exact h
 | cons p r=>
  obtain⟨h1,_,h3⟩:=h p r rfl;rw[List.tail_cons,h1];exact gy.of_from t p.2 h3
theorem gy.next {t:ByteArray}{us:List (Nat×Nat)}(h:gy t us):
  dB (t.data.toList.drop (bz t us+(eo t us).size)) (bz t us+(eo t us).size)=bz t us.tail/\fK (t.data.toList.drop (bz t us.tail)) (bz t us.tail)=bz t us.tail+(eo t us.tail).size /\
   bz t us+(eo t us).size<=t.size/\bz t us.tail<=t.size/\bz t us.tail+(eo t us.tail).size<=t.size/\t.extract (bz t us.tail) (bz t us.tail+(eo t us.tail).size)=eo t us.tail:=by
 have A0:fK (t.data.toList.drop t.size) t.size=t.size:=by
  rw[wK t t.size (Nat.le_refl _),rX t t.size (Nat.le_refl _)]
 have A1:t.extract t.size (t.size+0)=ByteArray.empty:=by
  apply ByteArray.ext;simp
 have key:∀ i,i<=t.size->dB (t.data.toList.drop i) i=bz t (gD t i)/\fK (t.data.toList.drop (bz t (gD t i))) (bz t (gD t i))=bz t (gD t i)+(eo t (gD t i)).size /\
   bz t (gD t i)<=t.size/\bz t (gD t i)+(eo t (gD t i)).size<=t.size/\t.extract (bz t (gD t i)) (bz t (gD t i)+(eo t (gD t i)).size)=eo t (gD t i):=by
  intro i hi;rcases tY t i hi with ⟨h1,h2⟩|⟨a,b,h1,h2,h3,h4,h5,h6⟩
  .rw[h1];refine⟨h2,?_,Nat.le_refl _,Nat.le_refl _,A1⟩;exact A0
  .rw[h6];have A2:(t.extract a b).size=b - a:=by simp;omega
   refine⟨h1,?_,by show a<=_;omega,?_,?_⟩
   .show fK (t.data.toList.drop a) a=a+(t.extract a b).size;rw[h2,A2];omega
   .show a+(t.extract a b).size<=_;rw[A2];omega
   .show t.extract a (a+(t.extract a b).size)=t.extract a b;rw[A2,show a+(b - a)=b from by omega]
 cases us with
 | nil=>
  have e:bz t []+(eo t []).size=t.size:=rfl;have hs:dB (t.data.toList.drop t.size) t.size=t.size:=uP t t.size (Nat.le_refl _);refine⟨?_,A0,Nat.le_refl _,Nat.le_refl _,Nat.le_refl _,A1⟩;rw[e];exact hs
 | cons p r=>
  obtain⟨h1,h2,h3⟩:=h p r rfl;have A2:(t.extract p.1 p.2).size=p.2 - p.1:=by simp;omega
  have e:bz t (p::r)+(eo t (p::r)).size=p.2:=by show p.1+(t.extract p.1 p.2).size=_;rw[A2];omega
  rw[e,List.tail_cons,h1];have:=key p.2 h3;exact⟨this.1,this.2.1,h3,this.2.2.1,this.2.2.2.1,this.2.2.2.2⟩
def cz (st:aD)(f p:Int):aD:=if st.fault=0\/f<st.fault then {st with fault:=f,place:=p} else st
def aL (st:aD):aD:={st with us:=st.us.tail}
def nV (l:List UInt8):Int:=if 0<=bm l then bm l else 0
def nB (l:List UInt8):Bool:=decide (0<=bm l)
def kV (l:List UInt8):Int:=if 0<=cA l then cA l else 0
def kB (l:List UInt8):Bool:=decide (0<=cA l)
def bS (t:ByteArray)(st:aD):List UInt8:=(eo t st.us).data.toList
def eI (t:ByteArray)(st:aD)(most:Int):Int×Bool×aD:=
 if nB (bS t st) then
  (nV (bS t st),true,aL (if nV (bS t st)<1\/most<nV (bS t st) then cz st 3 (bz t st.us:Nat) else st))
 else (0,false,st)
def dD (t:ByteArray)(st:aD)(kind:Int):Int×Bool×aD:=
 if kind=5 then eI t st 6 else if kind=6 then eI t st 9 else (0,true,st)
def db (t:ByteArray)(st:aD)(kind:Int):Int×Bool×aD:=
 if kind=1\/kind=4\/kind=5 then (kV (bS t st),kB (bS t st),if kB (bS t st) then aL st else st) else (0,true,st)
def ft (t:ByteArray)(st:aD)(kind:Int):Int×Bool×aD:=
 if kind=2\/kind=4\/kind=5 then eI t st 999 else (0,true,st)
theorem BI {t:ByteArray}(us:List (Nat×Nat)):(eo t us).size<=t.size:=by
 cases us with
 | nil=>simp[eo]
 | cons p r=>show(t.extract p.1 p.2).size<=_;simp;omega
def ir (a b:Int):Int:=if 64<a*b then 65 else a*b
def cJ (t:ByteArray)(blk:aD->Bool×aD)(st:aD):Nat×Bool×aD:=
 if ¬ bS t st=dK then (0,false,st)
 else
  let st1:=if 4<=st.deep then cz st 4 (bz t st.us:Nat) else st
  let r:=blk (aL {st1 with deep:=st1.deep+1})
  if r.1 then (r.2.fl.length - st.fl.length,true,aL {r.2 with deep:=r.2.deep - 1}) else (0,false,r.2)
def cH (l:List Nd)(i n:Nat):List Nd:=l.modify i fun x=>{x with body:=n}
def gQ (l:List Nd)(i n:Nat):List Nd:=l.modify i fun x=>{x with els:=n}
def fY (t:ByteArray)(blk:aD->Bool×aD)(st:aD)(i:Nat):Bool×aD:=
 let a:=cJ t blk st
 if a.2.1 then
  let st1:={a.2.2 with fl:=cH a.2.2.fl i a.1}
  if bS t st1=fE then
   let b:=cJ t blk (aL st1)
   (b.2.1,{b.2.2 with fl:=gQ b.2.2.fl i b.1})
  else (true,st1)
 else (false,a.2.2)
def gC (t:ByteArray)(blk:aD->Bool×aD)(st:aD)(i:Nat)(times p:Int):Bool×aD:=
 let st1:={st with heavy:=ir st.heavy times}
 let st2:=if 64<st1.heavy then cz st1 5 p else st1
 let a:=cJ t blk st2
 (a.2.1,{a.2.2 with fl:=cH a.2.2.fl i a.1,heavy:=st.heavy})
def fD (t:ByteArray)(blk:aD->Bool×aD)(st:aD):Bool×aD:=
 let kind:=cN (bS t st)
 if kind=0 then (false,st)
 else
  let a:=dD t (aL st) kind
  if a.2.1 then
   let b:=db t a.2.2 kind
   if b.2.1 then
    let c:=ft t b.2.2 kind
    if c.2.1 then
     let st5:={c.2.2 with fl:=c.2.2.fl++[{kind:=kind,key:=b.1,times:=a.1,ticks:=c.1,body:=0,els:=0}]}
     if kind=4\/kind=5 then fY t blk st5 c.2.2.fl.length
     else if kind=6 then gC t blk st5 c.2.2.fl.length a.1 (bz t st.us:Nat)
     else (true,st5)
    else (false,c.2.2)
   else (false,b.2.2)
  else (false,a.2.2)
def ix (t:ByteArray)(stm:aD->Bool×aD)(behind:List UInt8):Nat->aD->Bool×aD
 | 0,st=>(false,st)
 | f+1,st=>if bS t st=behind then (true,st) else if (stm st).1 then ix t stm behind f (stm st).2 else (false,(stm st).2)
def kK (t:ByteArray):Nat->List UInt8->aD->Bool×aD
 | 0,_,st=>(false,st)
 | n+1,behind,st=>ix t (fD t (kK t n dh)) behind (st.us.length+1) st
structure bY (a b:aD):Prop where
 deep:b.deep=a.deep
 heavy:b.heavy=a.heavy
 grows:a.fl.length<=b.fl.length
 mass:b.fl.length+b.us.length<=a.fl.length+a.us.length
 less:b.us.length<=a.us.length
def cr (a b:aD):Prop:=a.fl.length<=b.fl.length/\b.fl.length+b.us.length<=a.fl.length+a.us.length
theorem cr.refl (a:aD):cr a a:=⟨Nat.le_refl _,Nat.le_refl _⟩
theorem cr.trans {a b c:aD}(h:cr a b)(k:cr b c):cr a c:=⟨Nat.le_trans h.1 k.1,Nat.le_trans k.2 h.2⟩
theorem bY.grown {a b:aD}(h:bY a b):cr a b:=⟨h.grows,h.mass⟩
theorem bY.trans {a b c:aD}(h:bY a b)(k:bY b c):bY a c:=
 ⟨k.deep.trans h.deep,k.heavy.trans h.heavy,Nat.le_trans h.grows k.grows,Nat.le_trans k.mass h.mass,Nat.le_trans k.less h.less⟩
theorem nA (st:aD)(f p:Int):(cz st f p).deep=st.deep/\(cz st f p).heavy=st.heavy/\(cz st f p).fl=st.fl/\(cz st f p).us=st.us:=by
 unfold cz;split <;> exact⟨rfl,rfl,rfl,rfl⟩
structure br (a b:aD):Prop where
 fl:b.fl=a.fl
 deep:b.deep=a.deep
 heavy:b.heavy=a.heavy
 less:b.us.length<=a.us.length
theorem br.refl (a:aD):br a a:=⟨rfl,rfl,rfl,Nat.le_refl _⟩
theorem br.trans {a b c:aD}(h:br a b)(k:br b c):br a c:=⟨k.fl.trans h.fl,k.deep.trans h.deep,k.heavy.trans h.heavy,Nat.le_trans k.less h.less⟩
theorem br.adv (a:aD):br a (aL a):=⟨rfl,rfl,rfl,by show a.us.tail.length<=_;rw[List.length_tail];omega⟩
theorem br.note (a:aD)(f p:Int):br a (cz a f p):=by
 obtain⟨h1,h2,h3,h4⟩:=nA a f p;exact⟨h3,h1,h2,by rw[h4];exact Nat.le_refl _⟩
theorem Du (l:List UInt8):0<=nV l/\nV l<=9999:=by
 have:=Ch l;unfold nV;split <;> omega
theorem rg (t:ByteArray)(st:aD)(m:Int):br st (eI t st m).2.2/\0<=(eI t st m).1/\(eI t st m).1<=9999:=by
 have hb:=Du (bS t st);unfold eI;split
 .refine⟨?_,hb.1,hb.2⟩;show br st (aL _);split
  .exact(br.note st 3 _).trans (br.adv _)
  .exact br.adv _
 .exact⟨br.refl _,by simp,by simp⟩
theorem uF (t:ByteArray)(st:aD)(k:Int):br st (dD t st k).2.2/\0<=(dD t st k).1/\(dD t st k).1<=9999:=by
 unfold dD;split
 .exact rg t st 6
 .split
  .exact rg t st 9
  .exact⟨br.refl _,by simp,by simp⟩
theorem uE (t:ByteArray)(st:aD)(k:Int):br st (ft t st k).2.2:=by
 unfold ft;split
 .exact(rg t st 999).1
 .exact br.refl _
theorem vN (t:ByteArray)(st:aD)(k:Int):br st (db t st k).2.2:=by
 unfold db;split
 .show br st (if _ then _ else _);split
  .exact br.adv _
  .exact br.refl _
 .exact br.refl _
theorem Ay (s:List UInt8):cN s=0\/cN s=1\/cN s=2\/cN s=3\/cN s=4\/cN s=5\/cN s=6:=by
 unfold cN;repeat (first|split|omega)
def dk (t:ByteArray)(us:List (Nat×Nat))(st:dw):Nat ⊕ (List (Nat×Nat)×List Int):=
 match kp t us st with
 | .inr a=>.inl a
 | .inl s=>if 0<s.elses.length\/1<s.want.headD 0 then .inl t.size else .inr (s.nums,s.sorts)
theorem ic (t:ByteArray)(p:Nat×Nat)(r:List (Nat×Nat))(st:dw):
  dk t (p::r) st=if (fW (ao t p) p st).2=true then dk t r (fW (ao t p) p st).1 else .inl p.1:=by
 unfold dk;rw[kp];by_cases h:(fW (ao t p) p st).2=true
 .rw[if_pos h,if_pos h]
 .rw[if_neg h,if_neg h]
theorem mR (t:ByteArray)(s:dw):dk t [] s=if 0<s.elses.length\/1<s.want.headD 0 then .inl t.size else .inr (s.nums,s.sorts):=rfl
theorem uL (t:ByteArray):iW t=match dk t (dC t.data.toList) ik with
  | .inl a=>(2,(a:Int))
  | .inr x=>jE t x.1 x.2:=by
 unfold iW dk;cases kp t (dC t.data.toList) ik with
 | inr a=>rfl
 | inl s=>
  simp only;unfold nU;split <;> rfl
structure Gh where
 f3:Option Int
 f4:Option Int
 f5:Option Int
def Gh.nil:Gh:=⟨none,none,none⟩
def Gh.add (a b:Gh):Gh:=⟨a.f3.or b.f3,a.f4.or b.f4,a.f5.or b.f5⟩
def qU (p:Int):Gh:=⟨some p,none,none⟩
def qV (p:Int):Gh:=⟨none,some p,none⟩
def qW (p:Int):Gh:=⟨none,none,some p⟩
theorem Gh.add_assoc (a b c:Gh):(a.add b).add c=a.add (b.add c):=by simp[Gh.add,Option.or_assoc]
theorem Gh.add_nil (a:Gh):a.add Gh.nil=a:=by simp[Gh.add,Gh.nil]
theorem Gh.nil_add (a:Gh):Gh.nil.add a=a:=by simp[Gh.add,Gh.nil]
def lS (g:Gh):Int×Int:=
 match g.f3 with
 | some p=>(3,p)
 | none=>match g.f4 with
  | some p=>(4,p)
  | none=>match g.f5 with
   | some p=>(5,p)
   | none=>(0,0)
def iO (st:aD)(g:Gh):Prop:=(st.fault,st.place)=lS g
theorem iO.note3 {st:aD}{g:Gh}(h:iO st g)(p:Int):iO (cz st 3 p) (g.add (qU p)):=by
 obtain⟨a,b,c⟩:=g;unfold iO at *;cases a <;> cases b <;> cases c <;> simp[lS,Gh.add,qU]at * <;> simp[cz,h]
theorem iO.note4 {st:aD}{g:Gh}(h:iO st g)(p:Int):iO (cz st 4 p) (g.add (qV p)):=by
 obtain⟨a,b,c⟩:=g;unfold iO at *;cases a <;> cases b <;> cases c <;> simp[lS,Gh.add,qV]at * <;> simp[cz,h]
theorem iO.note5 {st:aD}{g:Gh}(h:iO st g)(p:Int):iO (cz st 5 p) (g.add (qW p)):=by
 obtain⟨a,b,c⟩:=g;unfold iO at *;cases a <;> cases b <;> cases c <;> simp[lS,Gh.add,qW]at * <;> simp[cz,h]
def Ev (a b:aD)(e:Gh):Prop:=∀ g,iO a g->iO b (g.add e)
theorem Ev.same {a b:aD}(hf:b.fault=a.fault)(hp:b.place=a.place):Ev a b Gh.nil:=fun g h=>by
 rw[Gh.add_nil];unfold iO at *;rw[hf,hp];exact h
theorem Ev.trans {a b c:aD}{e f:Gh}(h:Ev a b e)(k:Ev b c f):Ev a c (e.add f):=fun g hg=>by
 rw[<- Gh.add_assoc];exact k _ (h g hg)
def nQ (t:ByteArray)(p:Nat×Nat)(s:Int):Option Int:=if bm (ao t p)<1\/mZ s<bm (ao t p) then some (p.1:Int) else none
def jW (t:ByteArray):List (Nat×Nat)->List Int->Option Int
 | p::r,s::q=>(nQ t p s).or (jW t r q)
 | _,_=>none
theorem FSa (t:ByteArray):∀ (a:List (Nat×Nat)) (b:List Int),jE t a b=match jW t a b with
  | some p=>(3,p)
  | none=>(0,0):=by
 intro a;induction a with
 | nil=>intro b;rfl
 | cons p r ih=>
  intro b;cases b with
  | nil=>rfl
  | cons s q=>
   rw[jE,jW,nQ];split
   .rfl
   .rw[ih q];rfl
theorem zi (t:ByteArray):∀ (a:List (Nat×Nat)) (b:List Int) (a':List (Nat×Nat)) (b':List Int),a.length=b.length->jW t (a++a') (b++b')=(jW t a b).or (jW t a' b'):=by
 intro a;induction a with
 | nil=>intro b a' b' h;cases b with|nil=>simp[jW]|cons s q=>simp at h
 | cons p r ih=>
  intro b a' b' h;cases b with
  | nil=>simp at h
  | cons s q=>simp at h;rw[List.cons_append,List.cons_append,jW,jW,ih q a' b' h,Option.or_assoc]
def gf (t:ByteArray):List (Nat×Nat)->Int->Option Int
 | [],_=>none
 | p::r,n=>
  if ao t p=[123] then (if 4<n+1 then some (p.1:Int) else gf t r (n+1))
  else if ao t p=[125] then gf t r (n - 1)
  else gf t r n
theorem Eu (t:ByteArray):∀ (l:List (Nat×Nat)) (n:Int),fQ t l n=(gf t l n).getD (-1):=by
 intro l;induction l with
 | nil=>intro n;rfl
 | cons p r ih=>
  intro n;rw[fQ,gf];split
  .split
   .rfl
   .exact ih _
  .split <;> exact ih _
theorem Dd (t:ByteArray):∀ (l:List (Nat×Nat)) (n p:Int),gf t l n=some p->0<=p:=by
 intro l;induction l with
 | nil=>intro n p h;simp[gf]at h
 | cons q r ih=>
  intro n p h;rw[gf]at h;split at h
  .split at h
   .simp at h;omega
   .exact ih _ _ h
  .split at h <;> exact ih _ _ h
def iP (t:ByteArray):List (Nat×Nat)->Int->Int
 | [],n=>n
 | p::r,n=>iP t r (gi t p n)
theorem uW (t:ByteArray):∀ (a b:List (Nat×Nat)) (n:Int),iP t (a++b) n=iP t b (iP t a n):=by
 intro a;induction a with
 | nil=>intro b n;rfl
 | cons p r ih=>intro b n;rw[List.cons_append,iP,iP,ih]
theorem up (t:ByteArray):∀ (a b:List (Nat×Nat)) (n:Int),gf t (a++b) n=(gf t a n).or (gf t b (iP t a n)):=by
 intro a;induction a with
 | nil=>intro b n;simp[gf,iP]
 | cons p r ih=>
  intro b n;rw[List.cons_append,gf,gf,iP,gi];split
  .split
   .rfl
   .exact ih _ _
  .split <;> exact ih _ _
structure bl (t:ByteArray)(st st':aD)(ws a:List (Nat×Nat))(b:List Int)(e:Gh):Prop where
 us:st.us=ws++st'.us
 len:a.length=b.length
 ev:Ev st st' e
 e3:e.f3=jW t a b
 e4:e.f4=gf t ws st.deep
 dp:∀ n,iP t ws n=n
 deep:st'.deep=st.deep
 heavy:st'.heavy=st.heavy
theorem bl.trans {t:ByteArray}{x y z:aD}{w1 w2 a1 a2:List (Nat×Nat)}{b1 b2:List Int}{e1 e2:Gh}(h:bl t x y w1 a1 b1 e1)(k:bl t y z w2 a2 b2 e2):
  bl t x z (w1++w2) (a1++a2) (b1++b2) (e1.add e2) where
 us:=by rw[h.us,k.us,List.append_assoc]
 len:=by rw[List.length_append,List.length_append,h.len,k.len]
 ev:=h.ev.trans k.ev
 e3:=by rw[zi t _ _ _ _ h.len,<- h.e3,<- k.e3];rfl
 e4:=by rw[up,h.dp,<- h.e4,<- h.deep,<- k.e4];rfl
 dp:=fun n=>by rw[uW,h.dp,k.dp]
 deep:=k.deep.trans h.deep
 heavy:=k.heavy.trans h.heavy
theorem rz {t:ByteArray}{p:Nat×Nat}(n:Int)(h:¬ ao t p=dK/\¬ ao t p=dh):gf t [p] n=none:=by
 rw[gf];exact(if_neg h.1).trans ((if_neg h.2).trans rfl)
theorem qu (w:List UInt8)(p:Nat×Nat){s:Int}(hs:s=3\/s=4\/s=5)(r:List Int)(els:List Bool)(nx:Bool)(ns:List (Nat×Nat))(ss:List Int):
  fW w p ⟨s::r,els,nx,ns,ss⟩=(⟨r,els,nx,ns++[p],ss++[s]⟩,decide (0<=bm w)):=by
 rcases hs with rfl|rfl|rfl <;> rfl
theorem qt (w:List UInt8)(p:Nat×Nat)(r:List Int)(els:List Bool)(nx:Bool)(ns:List (Nat×Nat))(ss:List Int):
  fW w p ⟨2::r,els,nx,ns,ss⟩=(⟨r,els,nx,ns,ss⟩,decide (0<=cA w)):=rfl
theorem bl.refl (t:ByteArray)(x:aD):bl t x x [] [] [] Gh.nil:=
 ⟨rfl,rfl,Ev.same rfl rfl,rfl,rfl,fun _=>rfl,rfl,rfl⟩
theorem bl.fl {t:ByteArray}{x y:aD}{w a:List (Nat×Nat)}{b:List Int}{e:Gh}(h:bl t x y w a b e)(l l':List Nd):bl t {x with fl:=l} {y with fl:=l'} w a b e:=
 ⟨h.us,h.len,h.ev,h.e3,h.e4,h.dp,h.deep,h.heavy⟩
theorem bl.word {t:ByteArray}{x:aD}{p:Nat×Nat}{r:List (Nat×Nat)}(h:x.us=p::r)(hp:¬ ao t p=dK/\¬ ao t p=dh):bl t x (aL x) [p] [] [] Gh.nil where
 us:=by show x.us=[p]++x.us.tail;rw[h];rfl
 len:=rfl
 ev:=Ev.same rfl rfl
 e3:=rfl
 e4:=(rz _ hp).symm
 dp:=fun n=>by rw[iP,lD n hp];rfl
 deep:=rfl
 heavy:=rfl
theorem lK {s:List UInt8}(h:0<=bm s):¬ s=dK/\¬ s=dh:=by
 constructor <;> (intro e;rw[e]at h;exact absurd h (by decide))
theorem pT {s:List UInt8}(h:0<=cA s):¬ s=dK/\¬ s=dh:=by
 constructor <;> (intro e;rw[e]at h;exact absurd h (by decide))
theorem ny {s:List UInt8}(h:¬ cN s=0):(¬ s=dK/\¬ s=dh)/\¬ s=fE:=by
 refine⟨⟨?_,?_⟩,?_⟩ <;> (intro e;rw[e]at h;exact absurd (by decide) h)
theorem jA {t:ByteArray}{st:aD}{p:Nat×Nat}{r:List (Nat×Nat)}(h:st.us=p::r):bS t st=ao t p:=by
 unfold bS;rw[h];rfl
theorem ru {t:ByteArray}{st:aD}(h:st.us=[]):bS t st=[]:=by
 unfold bS;rw[h];rfl
theorem mU {t:ByteArray}{st:aD}(h:¬ bS t st=[]):∃ p r,st.us=p::r:=by
 cases hu:st.us with
 | nil=>exact absurd (ru hu) h
 | cons p r=>exact⟨p,r,rfl⟩
theorem oE {t:ByteArray}{st:aD}{s most:Int}(hm:mZ s=most)(hs:s=3\/s=4\/s=5)(h:(eI t st most).2.1=true):
  ∃ p e,bl t st (eI t st most).2.2 [p] [p] [s] e/\0<=bm (ao t p)/\(eI t st most).1=bm (ao t p)/\(eI t st most).2.2.fl=st.fl/\e.f5=none/\(e.f3=none->1<=bm (ao t p)/\bm (ao t p)<=most) /\
   ∀ r els nx ns ss,dk t st.us ⟨s::r,els,nx,ns,ss⟩=dk t (eI t st most).2.2.us ⟨r,els,nx,ns++[p],ss++[s]⟩:=by
 by_cases hb:nB (bS t st)=true
 .have h0:0<=bm (bS t st):=by unfold nB at hb;exact of_decide_eq_true hb
  obtain⟨p,r,hu⟩:=mU (t:=t) (st:=st) (by intro e;rw[e]at h0;exact absurd h0 (by decide));have A1:=jA (t:=t) hu;have hv:nV (bS t st)=bm (ao t p):=by unfold nV;rw[if_pos h0,A1]
  rw[A1]at h0;have hE:eI t st most=(bm (ao t p),true,aL (if bm (ao t p)<1\/most<bm (ao t p) then cz st 3 (bz t st.us:Nat) else st)):=by
   unfold eI;rw[if_pos hb,hv]
  have A2:(bz t st.us:Nat)=p.1:=by rw[hu];rfl
  rw[hE,A2];have A0:∀ r' els nx ns ss,dk t st.us ⟨s::r',els,nx,ns,ss⟩=dk t r ⟨r',els,nx,ns++[p],ss++[s]⟩:=by
   intro r' els nx ns ss;rw[hu,ic,qu _ _ hs,if_pos (decide_eq_true h0)]
  by_cases hbad:bm (ao t p)<1\/most<bm (ao t p)
  .rw[if_pos hbad];obtain⟨k1,k2,k3,k4⟩:=nA st 3 (p.1:Nat);refine⟨p,qU p.1,⟨?_,rfl,?_,?_,?_,?_,k1,k2⟩,h0,rfl,k3,rfl,?_,?_⟩
   .show st.us=[p]++(cz st 3 (p.1:Nat)).us.tail;rw[k4,hu];rfl
   .exact fun g hg=>hg.note3 _
   .show some (p.1:Int)=((nQ t p s).or (jW t [] []));rw[nQ,hm,if_pos hbad];rfl
   .exact(rz _ (lK h0)).symm
   .intro n;rw[iP,lD n (lK h0)];rfl
   .intro e;cases e
   .intro r' els nx ns ss;rw[A0];show _=dk t (cz st 3 (p.1:Nat)).us.tail _;rw[k4,hu];rfl
  .rw[if_neg hbad];refine⟨p,Gh.nil,⟨?_,rfl,Ev.same rfl rfl,?_,?_,?_,rfl,rfl⟩,h0,rfl,rfl,rfl,fun _=>by omega,?_⟩
   .show st.us=[p]++st.us.tail;rw[hu];rfl
   .show none=((nQ t p s).or (jW t [] []));rw[nQ,hm,if_neg hbad];rfl
   .exact(rz _ (lK h0)).symm
   .intro n;rw[iP,lD n (lK h0)];rfl
   .intro r' els nx ns ss;rw[A0];show _=dk t st.us.tail _;rw[hu];rfl
 .unfold eI at h;rw[if_neg hb]at h;exact absurd h (by simp)
theorem oD {t:ByteArray}{st:aD}{s most:Int}(hs:s=3\/s=4\/s=5)(h:(eI t st most).2.1=false):
  ∀ r els nx ns ss,dk t st.us ⟨s::r,els,nx,ns,ss⟩=.inl (bz t (eI t st most).2.2.us):=by
 intro r els nx ns ss;by_cases hb:nB (bS t st)=true
 .unfold eI at h;rw[if_pos hb]at h;exact absurd h (by simp)
 .have hE:eI t st most=(0,false,st):=by unfold eI;rw[if_neg hb]
  rw[hE];cases hu:st.us with
  | nil=>rw[mR,if_pos (Or.inr (by simp;omega))];rfl
  | cons p q=>
   have h0:¬ 0<=bm (ao t p):=by rw[<- jA hu];unfold nB at hb;simpa using hb
   rw[ic,qu _ _ hs,if_neg (by simpa using h0)];rfl
theorem tl {t:ByteArray}{st:aD}{k:Int}(hk:k=1\/k=4\/k=5)(h:(db t st k).2.1=true):
  ∃ p,bl t st (db t st k).2.2 [p] [] [] Gh.nil/\0<=cA (ao t p)/\(db t st k).1=cA (ao t p)/\(db t st k).2.2.fl=st.fl /\
   ∀ r els nx ns ss,dk t st.us ⟨2::r,els,nx,ns,ss⟩=dk t (db t st k).2.2.us ⟨r,els,nx,ns,ss⟩:=by
 have hE:db t st k=(kV (bS t st),kB (bS t st),if kB (bS t st) then aL st else st):=by unfold db;rw[if_pos hk]
 rw[hE]at h ⊢;have hb:kB (bS t st)=true:=h;have h0:0<=cA (bS t st):=by unfold kB at hb;exact of_decide_eq_true hb
 obtain⟨p,r,hu⟩:=mU (t:=t) (st:=st) (by intro e;rw[e]at h0;exact absurd h0 (by decide));have A0:=jA (t:=t) hu;have hv:kV (bS t st)=cA (ao t p):=by unfold kV;rw[if_pos h0,A0]
 rw[A0]at h0;simp only[hb,if_true];refine⟨p,bl.word hu (pT h0),h0,hv,rfl,?_⟩;intro r' els nx ns ss;rw[hu,ic,qt,if_pos (decide_eq_true h0)];show _=dk t st.us.tail _;rw[hu];rfl
theorem tk {t:ByteArray}{st:aD}{k:Int}(hk:k=1\/k=4\/k=5)(h:(db t st k).2.1=false):
  ∀ r els nx ns ss,dk t st.us ⟨2::r,els,nx,ns,ss⟩=.inl (bz t (db t st k).2.2.us):=by
 intro r els nx ns ss;have hE:db t st k=(kV (bS t st),kB (bS t st),if kB (bS t st) then aL st else st):=by unfold db;rw[if_pos hk]
 rw[hE]at h ⊢;have hb:kB (bS t st)=false:=h;simp only[hb];show _=Sum.inl (bz t st.us);cases hu:st.us with
 | nil=>rw[mR,if_pos (Or.inr (by simp))];rfl
 | cons p q=>
  have h0:¬ 0<=cA (ao t p):=by rw[<- jA hu];unfold kB at hb;simpa using hb
  rw[ic,qt,if_neg (by simpa using h0)];rfl
def iQ (t:ByteArray){T:Type}(sub:T->Int->Option Int)(x:Hd×T×T)(n:Int):Option Int:=
 if ao t x.1.p=ch then
  (if 64<n*x.1.n then some (x.1.p.1:Int) else (sub x.2.1 (n*x.1.n)).or (sub x.2.2 (n*x.1.n)))
 else (sub x.2.1 n).or (sub x.2.2 n)
def od (t:ByteArray){T:Type}(sub:T->Int->Option Int):List (Hd×T×T)->Int->Option Int
 | [],_=>none
 | x::r,n=>(iQ t sub x n).or (od t sub r n)
def ji (t:ByteArray):(d:Nat)->af d->Int->Option Int
 | 0,_,_=>none
 | d+1,l,n=>od t (ji t d) l n
theorem xL {a b:Int}{x y:Option Int}{c:Int}{z:Option Int}(h1:a=x.getD (-1))(p1:∀ p,x=some p->0<=p)(h2:b=y.getD (-1))(p2:∀ p,y=some p->0<=p)(h3:c=z.getD (-1)):
  (if 0<=a then a else if 0<=b then b else c)=((x.or y).or z).getD (-1):=by
 subst h1 h2 h3;cases x with
 | some p=>have:=p1 p rfl;simp[this]
 | none=>
  cases y with
  | some p=>have:=p2 p rfl;simp[this]
  | none=>simp
theorem xe (t:ByteArray):∀ (d:Nat) (tr:af d) (n:Int),fI t d tr n=(ji t d tr n).getD (-1)/\∀ p,ji t d tr n=some p->0<=p:=by
 intro d;induction d with
 | zero=>intro tr n;exact⟨rfl,fun p h=>by cases h⟩
 | succ d ih=>
  intro tr n;have key:∀ (l:List (Hd×af d×af d)) (n:Int),kj t (fI t d) l n=(od t (ji t d) l n).getD (-1)/\∀ p,od t (ji t d) l n=some p->0<=p:=by
   intro l;induction l with
   | nil=>intro n;exact⟨rfl,fun p h=>by cases h⟩
   | cons x r ihr=>
    intro n;rw[kj,od,iQ];by_cases hr:ao t x.1.p=ch
    .rw[if_pos hr,if_pos hr];by_cases h6:64<n*x.1.n
     .rw[if_pos h6,if_pos h6];exact⟨rfl,fun p h=>by simp at h;omega⟩
     .rw[if_neg h6,if_neg h6];obtain⟨a1,a2⟩:=ih x.2.1 (n*x.1.n);obtain⟨b1,b2⟩:=ih x.2.2 (n*x.1.n);obtain⟨c1,c2⟩:=ihr n;refine⟨xL a1 a2 b1 b2 c1,fun p h=>?_⟩;rw[Option.or_eq_some_iff,Option.or_eq_some_iff]at h;rcases h with (h|h)|h
      .exact a2 p h
      .exact b2 p h.2
      .exact c2 p h.2
    .rw[if_neg hr,if_neg hr];obtain⟨a1,a2⟩:=ih x.2.1 n;obtain⟨b1,b2⟩:=ih x.2.2 n;obtain⟨c1,c2⟩:=ihr n;refine⟨xL a1 a2 b1 b2 c1,fun p h=>?_⟩;rw[Option.or_eq_some_iff,Option.or_eq_some_iff]at h;rcases h with (h|h)|h
     .exact a2 p h
     .exact b2 p h.2
     .exact c2 p h.2
  exact key tr n
def yi (t:ByteArray)(st st':aD)(behind:List UInt8):Prop:=
 ∃ ws a b e,bl t st st' ws a b e/\bS t st'=behind /\
  (∀ els nx ns ss,∃ nx',dk t st.us ⟨[0],els,nx,ns,ss⟩=dk t st'.us ⟨[0],els,nx',ns++a,ss++b⟩) /\
  (e.f4=none->∀ d:Nat,(d:Int)+1+st.deep=5->∃ tr:af (d+1),GT t (d+1) ws tr/\st'.fl=st.fl++cE t (d+1) tr /\
   (e.f3=none->aF t (d+1) tr/\(st.heavy<=64->e.f5=ji t (d+1) tr st.heavy)))
def kM (t:ByteArray)(blk:aD->Bool×aD)(n:Nat):Prop:=∀ st,st.us.length<n ->
 ((blk st).1=true->yi t st (blk st).2 dh) /\
 ((blk st).1=false->∀ els nx ns ss,els≠[]->dk t st.us ⟨[0],els,nx,ns,ss⟩=.inl (bz t (blk st).2.us))
def BL (t:ByteArray)(st st':aD)(cnt:Nat):Prop:=
 ∃ o wa c a b e,bl t st st' (o::(wa++[c])) a b e/\ao t o=dK/\ao t c=dh /\
  (∀ els nx ns ss,∃ nx',dk t st.us ⟨[6],els,nx,ns,ss⟩=dk t st'.us ⟨if nx then [1] else [0],els,nx',ns++a,ss++b⟩) /\
  (e.f4=none->∀ d:Nat,(d:Int)+1+st.deep=5->∃ tr:af d,GT t d wa tr/\st'.fl=st.fl++cE t d tr/\cnt=(cE t d tr).length /\
   (e.f3=none->aF t d tr/\(st.heavy<=64->e.f5=ji t d tr st.heavy)))
theorem om (w:List UInt8)(p:Nat×Nat)(els:List Bool)(nx:Bool)(ns:List (Nat×Nat))(ss:List Int):
  fW w p ⟨[6],els,nx,ns,ss⟩=(⟨[0],nx::els,nx,ns,ss⟩,w==dK):=rfl
theorem CU (p:Nat×Nat)(els:List Bool)(e nx:Bool)(ns:List (Nat×Nat))(ss:List Int):
  fW dh p ⟨[0],e::els,nx,ns,ss⟩=(⟨if e then [1] else [0],els,nx,ns,ss⟩,true):=rfl
theorem wi (p:Nat×Nat)(els:List Bool)(nx:Bool)(ns:List (Nat×Nat))(ss:List Int):
  fW fE p ⟨[1],els,nx,ns,ss⟩=(⟨[6],els,false,ns,ss⟩,true):=rfl
theorem ux (t:ByteArray)(st:aD):∃ st1 e0,st1=(if 4<=st.deep then cz st 4 (bz t st.us:Nat) else st)/\Ev st st1 e0/\e0.f3=none/\e0.f5=none/\e0.f4=(if 4<=st.deep then some (bz t st.us:Int) else none) /\
  st1.us=st.us/\st1.fl=st.fl/\st1.deep=st.deep/\st1.heavy=st.heavy:=by
 by_cases h:4<=st.deep
 .obtain⟨k1,k2,k3,k4⟩:=nA st 4 (bz t st.us:Nat);refine⟨cz st 4 (bz t st.us:Nat),qV (bz t st.us:Nat),(if_pos h).symm,fun g hg=>hg.note4 _,rfl,rfl,?_,k4,k3,k1,k2⟩;rw[if_pos h];rfl
 .refine⟨st,Gh.nil,(if_neg h).symm,Ev.same rfl rfl,rfl,rfl,?_,rfl,rfl,rfl,rfl⟩;rw[if_neg h];rfl
theorem uy {t:ByteArray}{blk:aD->Bool×aD}{st:aD}(h:bS t st=dK){st1:aD}(h1:st1=(if 4<=st.deep then cz st 4 (bz t st.us:Nat) else st)):
  cJ t blk st=if (blk (aL {st1 with deep:=st1.deep+1})).1 then ((blk (aL {st1 with deep:=st1.deep+1})).2.fl.length - st.fl.length,true,aL {(blk (aL {st1 with deep:=st1.deep+1})).2 with deep:=(blk (aL {st1 with deep:=st1.deep+1})).2.deep - 1}) else (0,false,(blk (aL {st1 with deep:=st1.deep+1})).2):=by
 unfold cJ;rw[if_neg (by rw[h];simp),h1]
theorem qg {t:ByteArray}{blk:aD->Bool×aD}{n:Nat}(hblk:kM t blk n){st:aD}(hn:st.us.length<=n)(h:(cJ t blk st).2.1=true):
  BL t st (cJ t blk st).2.2 (cJ t blk st).1:=by
 by_cases ho:bS t st=dK
 .obtain⟨A3,e0,h1,B3,z3,z5,z4,k1,k2,k3,k4⟩:=ux t st;rw[uy ho h1]at h ⊢;obtain⟨o,r,hu⟩:=mU (t:=t) (st:=st) (by rw[ho];decide);have A4:ao t o=dK:=by rw[<- jA hu];exact ho
  have B0:(bz t st.us:Int)=(o.1:Int):=by rw[hu];rfl
  obtain⟨sb,A0⟩:∃ sb,sb=aL {A3 with deep:=A3.deep+1}:=⟨_,rfl⟩;rw[<- A0]at h ⊢;have u1:sb.us=r:=by rw[A0];show A3.us.tail=r;rw[k1,hu];rfl
  have u2:sb.deep=st.deep+1:=by rw[A0];show A3.deep+1=_;rw[k3]
  have u3:sb.heavy=st.heavy:=by rw[A0];exact k4
  have u4:sb.fl=st.fl:=by rw[A0];exact k2
  have u5:Ev st sb e0:=by
   have:=B3.trans (Ev.same (a:=A3) (b:=sb) (by rw[A0];rfl) (by rw[A0];rfl));rwa [Gh.add_nil]at this
  cases hr:(blk sb).1 with
  | false=>rw[hr]at h;exact absurd h (by simp)
  | true=>
   rw[if_pos rfl];obtain⟨ws,a,b,e,hp,A1,A6,A2⟩:=(hblk sb (by rw[u1];rw[hu]at hn;simp at hn;omega)).1 hr;obtain⟨c,q,hc⟩:=mU (t:=t) (st:=(blk sb).2) (by rw[A1];decide);have A5:ao t c=dh:=by rw[<- jA hc];exact A1
   have B2:∀ m,gf t [c] m=none:=fun m=>by rw[gf,A5];rfl
   refine⟨o,ws,c,a,b,e0.add e,⟨?_,hp.len,?_,?_,?_,?_,?_,?_⟩,A4,A5,?_,?_⟩
   .show st.us=o::(ws++[c])++(blk sb).2.us.tail;rw[hu,hc,<- u1,hp.us,hc];simp
   .have:=(u5.trans hp.ev).trans (Ev.same (a:=(blk sb).2) (b:=aL {(blk sb).2 with deep:=(blk sb).2.deep - 1}) rfl rfl);rwa [Gh.add_nil]at this
   .show e0.f3.or e.f3=_;rw[z3,hp.e3];rfl
   .show e0.f4.or e.f4=_;have B1:gf t (o::(ws++[c])) st.deep=if 4<st.deep+1 then some (o.1:Int) else gf t (ws++[c]) (st.deep+1):=by rw[gf];exact if_pos A4
    rw[z4,B1,up,B2,hp.e4,u2,B0];by_cases h4:4<=st.deep
    .rw[if_pos h4,if_pos (by omega)];rfl
    .rw[if_neg h4,if_neg (by omega)];simp
   .intro m;rw[iP,kA m A4,uW,hp.dp,iP,kC _ A5,iP];omega
   .show(blk sb).2.deep - 1=_;rw[hp.deep,u2];omega
   .show(blk sb).2.heavy=_;rw[hp.heavy,u3]
   .intro els nx ns ss;obtain⟨B4,hx⟩:=A6 (nx::els) nx ns ss;refine⟨B4,?_⟩;rw[hu,ic,om,if_pos (by rw[A4];rfl),<- u1,hx,hc,ic,A5,CU,if_pos rfl];show _=dk t (blk sb).2.us.tail _;rw[hc];rfl
   .intro h4 d hd;have A7:¬ 4<=st.deep:=by
     intro hh;have:(e0.add e).f4=some (bz t st.us:Int):=by show e0.f4.or e.f4=_;rw[z4,if_pos hh];rfl
     rw[this]at h4;cases h4
    have A9:e.f4=none:=by
     have:(e0.add e).f4=e.f4:=by show e0.f4.or e.f4=_;rw[z4,if_neg A7];rfl
     rw[<- this];exact h4
    cases d with
    | zero=>exfalso;apply A7;omega
    | succ d=>
     obtain⟨tr,g1,g2,g3⟩:=A2 A9 d (by rw[u2];push_cast at hd;omega);refine⟨tr,g1,?_,?_,?_⟩
     .show(blk sb).2.fl=_;rw[g2,u4]
     .show(blk sb).2.fl.length - st.fl.length=_;rw[g2,u4,List.length_append];omega
     .intro h3;have A8:e.f3=none:=by
       have:(e0.add e).f3=e.f3:=by show e0.f3.or e.f3=_;rw[z3];rfl
       rw[<- this];exact h3
      obtain⟨g4,g5⟩:=g3 A8;refine⟨g4,fun hh=>?_⟩;show e0.f5.or e.f5=_;rw[z5,g5 (by rw[u3];exact hh),u3];rfl
 .unfold cJ at h;rw[if_pos ho]at h;exact absurd h (by simp)
theorem rI {t:ByteArray}{blk:aD->Bool×aD}{n:Nat}(hblk:kM t blk n){st:aD}(hn:st.us.length<=n)(h:(cJ t blk st).2.1=false):
  ∀ els nx ns ss,dk t st.us ⟨[6],els,nx,ns,ss⟩=.inl (bz t (cJ t blk st).2.2.us):=by
 intro els nx ns ss;by_cases ho:bS t st=dK
 .obtain⟨A1,e0,h1,_,_,_,_,k1,_,_,_⟩:=ux t st;rw[uy ho h1]at h ⊢;obtain⟨o,r,hu⟩:=mU (t:=t) (st:=st) (by rw[ho];decide);have A0:ao t o=dK:=by rw[<- jA hu];exact ho
  obtain⟨sb,A2⟩:∃ sb,sb=aL {A1 with deep:=A1.deep+1}:=⟨_,rfl⟩;rw[<- A2]at h ⊢;have u1:sb.us=r:=by rw[A2];show A1.us.tail=r;rw[k1,hu];rfl
  cases hr:(blk sb).1 with
  | true=>rw[hr]at h;exact absurd h (by simp)
  | false=>
   rw[if_neg (by simp)];have:=(hblk sb (by rw[u1];rw[hu]at hn;simp at hn;omega)).2 hr (nx::els) nx ns ss (by simp);rw[hu,ic,om,if_pos (by rw[A0];rfl),<- u1,this]
 .have hE:cJ t blk st=(0,false,st):=by unfold cJ;rw[if_pos ho]
  rw[hE];cases hu:st.us with
  | nil=>rw[mR,if_pos (Or.inr (by simp))];rfl
  | cons p q=>
   have A0:¬ ao t p=dK:=by rw[<- jA hu];exact ho
   rw[ic,om,if_neg (by simpa using A0)];rfl
theorem Ez {s:List UInt8}(h:¬ s=fE)(els:List Bool)(nx:Bool)(ns:List (Nat×Nat))(ss:List Int):
  (fU s 1 ⟨[1],els,nx,ns,ss⟩).2=(fU s 0 ⟨[0],els,nx,ns,ss⟩).2 /\
   ((fU s 0 ⟨[0],els,nx,ns,ss⟩).2=true->(fU s 1 ⟨[1],els,nx,ns,ss⟩).1=(fU s 0 ⟨[0],els,nx,ns,ss⟩).1):=by
 by_cases h1:s=eA
 .subst h1;exact⟨rfl,fun _=>rfl⟩
 by_cases h2:s=eJ
 .subst h2;exact⟨rfl,fun _=>rfl⟩
 by_cases h3:s=eX
 .subst h3;exact⟨rfl,fun _=>rfl⟩
 by_cases h4:s=dV
 .subst h4;exact⟨rfl,fun _=>rfl⟩
 by_cases h5:s=dL
 .subst h5;exact⟨rfl,fun _=>rfl⟩
 by_cases h6:s=ch
 .subst h6;exact⟨rfl,fun _=>rfl⟩
 by_cases h7:s=dh
 .subst h7;cases els with
  | nil=>exact⟨rfl,fun h=>by cases h⟩
  | cons e r=>exact⟨rfl,fun _=>rfl⟩
 .have e:∀ m st,fU s m st=(st,false):=by
   intro m st;unfold fU;rw[if_neg h1,if_neg h2,if_neg h3,if_neg h4,if_neg h5,if_neg h6,if_neg h,if_neg h7]
  rw[e,e];exact⟨rfl,fun h=>by cases h⟩
theorem GX {t:ByteArray}{st:aD}(h:¬ bS t st=fE)(els:List Bool)(nx:Bool)(ns:List (Nat×Nat))(ss:List Int):
  dk t st.us ⟨[1],els,nx,ns,ss⟩=dk t st.us ⟨[0],els,nx,ns,ss⟩:=by
 cases hu:st.us with
 | nil=>
  rw[mR,mR];by_cases h0:0<els.length
  .rw[if_pos (Or.inl h0),if_pos (Or.inl h0)]
  .rw[if_neg (fun h=>h.elim h0 (fun h=>absurd h (by show ¬ ((1:Int)<1);omega))),if_neg (fun h=>h.elim h0 (fun h=>absurd h (by show ¬ ((1:Int)<0);omega)))]
 | cons p q=>
  rw[jA hu]at h;obtain⟨h1,h2⟩:=Ez h els nx ns ss;rw[ic,ic];have e1:fW (ao t p) p ⟨[1],els,nx,ns,ss⟩=fU (ao t p) 1 ⟨[1],els,nx,ns,ss⟩:=rfl;have e0:fW (ao t p) p ⟨[0],els,nx,ns,ss⟩=fU (ao t p) 0 ⟨[0],els,nx,ns,ss⟩:=rfl;rw[e1,e0,h1];by_cases hb:(fU (ao t p) 0 ⟨[0],els,nx,ns,ss⟩).2=true
  .rw[if_pos hb,if_pos hb,h2 hb]
  .rw[if_neg hb,if_neg hb]
theorem pU {α:Type}(f:α->α):∀ (a:List α) (x:α) (b:List α),(a++x::b).modify a.length f=a++f x::b:=by
 intro a;induction a with
 | nil=>intro x b;rfl
 | cons y r ih=>intro x b;rw[List.cons_append,List.length_cons,List.modify_succ_cons,ih];rfl
theorem sl (t:ByteArray)(d:Nat):cE t d (cm d)=[]:=by cases d <;> rfl
theorem lJ (t:ByteArray)(d:Nat):aF t d (cm d):=by
 cases d with
 | zero=>trivial
 | succ d=>intro x hx;exact absurd hx (by simp[af.list,cm])
theorem tg (t:ByteArray)(d:Nat)(n:Int):ji t d (cm d) n=none:=by cases d <;> rfl
def BR (t:ByteArray)(d:Nat)(wb:List (Nat×Nat))(x y:af d):Prop:=
 (∃ o wa c,wb=o::(wa++[c])/\ao t o=dK/\ao t c=dh/\GT t d wa x/\y=cm d) \/
 (∃ o wa c e o2 wa2 c2,wb=o::(wa++c::e::o2::(wa2++[c2]))/\ao t o=dK/\ao t c=dh/\ao t e=fE/\ao t o2=dK/\ao t c2=dh/\GT t d wa x/\GT t d wa2 y)
theorem gO {a b:Option Int}(h:a.or b=none):a=none/\b=none:=by
 cases a with
 | some p=>cases h
 | none=>exact⟨rfl,by simpa using h⟩
theorem ug {t:ByteArray}{blk:aD->Bool×aD}{n:Nat}(hblk:kM t blk n){st:aD}{fl0:List Nd}{nd:Nd}(hfl:st.fl=fl0++[nd])(hel:nd.els=0)(hn:st.us.length<=n)(h:(fY t blk st fl0.length).1=true):
  ∃ wb a b e,bl t st (fY t blk st fl0.length).2 wb a b e/\(∀ els ns ss,∃ nx',dk t st.us ⟨[6],els,true,ns,ss⟩=dk t (fY t blk st fl0.length).2.us ⟨[0],els,nx',ns++a,ss++b⟩) /\
   (e.f4=none->∀ d:Nat,(d:Int)+1+st.deep=5->∃ x y:af d,BR t d wb x y/\(fY t blk st fl0.length).2.fl=fl0++{nd with body:=(cE t d x).length,els:=(cE t d y).length}::(cE t d x++cE t d y) /\
    (e.f3=none->aF t d x/\aF t d y/\(st.heavy<=64->e.f5=(ji t d x st.heavy).or (ji t d y st.heavy)))):=by
 obtain⟨A,hA⟩:∃ A,A=cJ t blk st:=⟨_,rfl⟩;have hE:fY t blk st fl0.length=if A.2.1 then (if bS t {A.2.2 with fl:=cH A.2.2.fl fl0.length A.1}=fE then ((cJ t blk (aL {A.2.2 with fl:=cH A.2.2.fl fl0.length A.1})).2.1,{(cJ t blk (aL {A.2.2 with fl:=cH A.2.2.fl fl0.length A.1})).2.2 with fl:=gQ (cJ t blk (aL {A.2.2 with fl:=cH A.2.2.fl fl0.length A.1})).2.2.fl fl0.length (cJ t blk (aL {A.2.2 with fl:=cH A.2.2.fl fl0.length A.1})).1}) else (true,{A.2.2 with fl:=cH A.2.2.fl fl0.length A.1})) else (false,A.2.2):=by
  rw[hA];rfl
 rw[hE]at h ⊢;cases hA1:A.2.1 with
 | false=>rw[hA1]at h;exact absurd h (by simp)
 | true=>
  rw[hA1]at h;simp only[if_true]at h ⊢;have hb:=qg hblk hn (by rw[<- hA];exact hA1);rw[<- hA]at hb;obtain⟨o,wa,c,a,b,e,hp,B1,B2,A2,A0⟩:=hb;obtain⟨s1,hs1⟩:∃ s1,s1={A.2.2 with fl:=cH A.2.2.fl fl0.length A.1}:=⟨_,rfl⟩;rw[<- hs1]at h ⊢;have B4:bl t st s1 (o::(wa++[c])) a b e:=by rw[hs1];exact hp.fl st.fl _
  have B5:s1.us=A.2.2.us:=by rw[hs1]
  by_cases he:bS t s1=fE
  .rw[if_pos he]at h ⊢;obtain⟨w,q,hw⟩:=mU (t:=t) (st:=s1) (by rw[he];decide);have B0:ao t w=fE:=by rw[<- jA hw];exact he
   have A4:=B4.trans (bl.word hw (rT B0));have A9:(aL s1).us.length<=n:=by
    have:=A4.us;have h2:=congrArg List.length this;rw[List.length_append]at h2;omega
   have C1:=qg hblk A9 h;obtain⟨o2,C6,c2,a2,b2,e2,hq,A7,A8,A3,A1⟩:=C1;have C3:=A4.trans hq;refine⟨_,_,_,_,(C3.fl st.fl _),?_,?_⟩
   .intro els ns ss;obtain⟨B6,x1⟩:=A2 els true ns ss;obtain⟨C5,x2⟩:=A3 els false (ns++a) (ss++b);refine⟨C5,?_⟩;rw[x1,<- B5,hw,if_pos rfl,ic,B0,wi,if_pos rfl];have C4:(aL s1).us=q:=by show s1.us.tail=q;rw[hw];rfl
    rw[<- C4,x2];simp
   .intro h4 d hd;have B9:(e.f4.or none).or e2.f4=none:=h4;obtain⟨A6,C0⟩:=gO B9;obtain⟨A6,_⟩:=gO A6;obtain⟨x,g1,g2,g3,g4⟩:=A0 A6 d hd;have C2:(aL s1).deep=st.deep:=A4.deep;have B3:(aL s1).heavy=st.heavy:=A4.heavy;obtain⟨y,k1,k2,k3,k4⟩:=A1 C0 d (by rw[C2];exact hd);refine⟨x,y,Or.inr ⟨o,wa,c,w,o2,C6,c2,by simp,B1,B2,B0,A7,A8,g1,k1⟩,?_,?_⟩
    .show gQ _ fl0.length _=_;rw[k2,k3];have f1:(aL s1).fl=fl0++{nd with body:=(cE t d x).length}::cE t d x:=by
      show s1.fl=_;rw[hs1];show cH A.2.2.fl fl0.length A.1=_;rw[g2,hfl,g3,List.append_assoc];exact pU _ fl0 nd _
     rw[f1,List.append_assoc];exact pU _ fl0 _ _
    .intro h3;have B7:(e.f3.or none).or e2.f3=none:=h3;obtain⟨A5,B8⟩:=gO B7;obtain⟨A5,_⟩:=gO A5;obtain⟨g5,g6⟩:=g4 A5;obtain⟨k5,k6⟩:=k4 B8;refine⟨g5,k5,fun hh=>?_⟩;show(e.f5.or none).or e2.f5=_;rw[g6 hh,k6 (by rw[B3];exact hh),B3];simp
  .rw[if_neg he]at h ⊢;refine⟨_,_,_,_,B4,?_,?_⟩
   .intro els ns ss;obtain⟨B6,x1⟩:=A2 els true ns ss;refine⟨B6,?_⟩;rw[x1,<- B5,if_pos rfl];exact GX he _ _ _ _
   .intro h4 d hd;obtain⟨x,g1,g2,g3,g4⟩:=A0 h4 d hd;refine⟨x,cm d,Or.inl ⟨o,wa,c,rfl,B1,B2,g1,rfl⟩,?_,?_⟩
    .show s1.fl=_;rw[hs1,sl];show cH A.2.2.fl fl0.length A.1=_;rw[g2,hfl,g3,List.append_assoc,List.append_nil];refine(pU _ fl0 nd _).trans ?_;simp[hel]
    .intro h3;obtain⟨g5,g6⟩:=g4 h3;refine⟨g5,lJ t d,fun hh=>?_⟩;rw[g6 hh,tg];simp
theorem uf {t:ByteArray}{blk:aD->Bool×aD}{n:Nat}(hblk:kM t blk n){st:aD}{i:Nat}(hn:st.us.length<=n)(h:(fY t blk st i).1=false):
  ∀ els ns ss,dk t st.us ⟨[6],els,true,ns,ss⟩=.inl (bz t (fY t blk st i).2.us):=by
 intro els ns ss;obtain⟨A,hA⟩:∃ A,A=cJ t blk st:=⟨_,rfl⟩;have hE:fY t blk st i=if A.2.1 then (if bS t {A.2.2 with fl:=cH A.2.2.fl i A.1}=fE then ((cJ t blk (aL {A.2.2 with fl:=cH A.2.2.fl i A.1})).2.1,{(cJ t blk (aL {A.2.2 with fl:=cH A.2.2.fl i A.1})).2.2 with fl:=gQ (cJ t blk (aL {A.2.2 with fl:=cH A.2.2.fl i A.1})).2.2.fl i (cJ t blk (aL {A.2.2 with fl:=cH A.2.2.fl i A.1})).1}) else (true,{A.2.2 with fl:=cH A.2.2.fl i A.1})) else (false,A.2.2):=by
  rw[hA];rfl
 rw[hE]at h ⊢;cases hA1:A.2.1 with
 | false=>
  rw[if_neg (by simp)];have:=rI hblk hn (by rw[<- hA];exact hA1) els true ns ss;rw[<- hA]at this;exact this
 | true=>
  rw[hA1]at h;simp only[if_true]at h ⊢;have hb:=qg hblk hn (by rw[<- hA];exact hA1);rw[<- hA]at hb;obtain⟨o,wa,c,a,b,e,hp,A9,B0,A0,A2⟩:=hb;obtain⟨s1,hs1⟩:∃ s1,s1={A.2.2 with fl:=cH A.2.2.fl i A.1}:=⟨_,rfl⟩;rw[<- hs1]at h ⊢;have A5:bl t st s1 (o::(wa++[c])) a b e:=by rw[hs1];exact hp.fl st.fl _
  have A8:s1.us=A.2.2.us:=by rw[hs1]
  by_cases he:bS t s1=fE
  .rw[if_pos he]at h ⊢;obtain⟨w,q,hw⟩:=mU (t:=t) (st:=s1) (by rw[he];decide);have A3:ao t w=fE:=by rw[<- jA hw];exact he
   have A6:=A5.trans (bl.word hw (rT A3));have A1:(aL s1).us.length<=n:=by
    have:=A6.us;have h2:=congrArg List.length this;rw[List.length_append]at h2;omega
   have A4:=rI hblk A1 h els false (ns++a) (ss++b);obtain⟨B1,x1⟩:=A0 els true ns ss;rw[x1,<- A8,hw,if_pos rfl,ic,A3,wi,if_pos rfl];have A7:(aL s1).us=q:=by show s1.us.tail=q;rw[hw];rfl
   rw[<- A7,A4]
  .rw[if_neg he]at h;exact absurd h (by simp)
theorem tS (st:aD)(times p:Int):∃ st2 e0,st2=(if 64<ir st.heavy times then cz {st with heavy:=ir st.heavy times} 5 p else {st with heavy:=ir st.heavy times})/\Ev st st2 e0/\e0.f3=none/\e0.f4=none/\e0.f5=(if 64<ir st.heavy times then some p else none) /\
  st2.us=st.us/\st2.fl=st.fl/\st2.deep=st.deep/\st2.heavy=ir st.heavy times:=by
 by_cases h:64<ir st.heavy times
 .obtain⟨k1,k2,k3,k4⟩:=nA {st with heavy:=ir st.heavy times} 5 p;refine⟨_,qW p,(if_pos h).symm,fun g hg=>?_,rfl,rfl,?_,k4,k3,k1,k2⟩
  .exact iO.note5 (st:={st with heavy:=ir st.heavy times}) hg p
  .rw[if_pos h];rfl
 .refine⟨_,Gh.nil,(if_neg h).symm,Ev.same rfl rfl,rfl,rfl,?_,rfl,rfl,rfl,rfl⟩;rw[if_neg h];rfl
theorem ut {t:ByteArray}{blk:aD->Bool×aD}{st:aD}{i:Nat}{times p:Int}{st2:aD}(h2:st2=(if 64<ir st.heavy times then cz {st with heavy:=ir st.heavy times} 5 p else {st with heavy:=ir st.heavy times})):
  gC t blk st i times p=((cJ t blk st2).2.1,{(cJ t blk st2).2.2 with fl:=cH (cJ t blk st2).2.2.fl i (cJ t blk st2).1,heavy:=st.heavy}):=by
 rw[h2];rfl
theorem AI {t:ByteArray}{blk:aD->Bool×aD}{n:Nat}(hblk:kM t blk n){st:aD}{fl0:List Nd}{nd:Nd}{times p:Int}(hfl:st.fl=fl0++[nd])(hn:st.us.length<=n)(h:(gC t blk st fl0.length times p).1=true):
  ∃ wb a b e,bl t st (gC t blk st fl0.length times p).2 wb a b e/\(∀ els ns ss,∃ nx',dk t st.us ⟨[6],els,false,ns,ss⟩=dk t (gC t blk st fl0.length times p).2.us ⟨[0],els,nx',ns++a,ss++b⟩) /\
   (e.f4=none->∀ d:Nat,(d:Int)+1+st.deep=5->∃ x:af d,(∃ o wa c,wb=o::(wa++[c])/\ao t o=dK/\ao t c=dh/\GT t d wa x)/\(gC t blk st fl0.length times p).2.fl=fl0++{nd with body:=(cE t d x).length}::cE t d x /\
    (e.f3=none->aF t d x/\e.f5=if 64<st.heavy*times then some p else ji t d x (st.heavy*times))):=by
 obtain⟨A0,e0,h2,A7,z3,z4,z5,k1,k2,k3,k4⟩:=tS st times p;rw[ut h2]at h ⊢;obtain⟨o,wa,c,a,b,e,hp,A5,A6,A2,A1⟩:=qg hblk (st:=A0) (by rw[k1];exact hn) h;refine⟨o::(wa++[c]),a,b,e0.add e,⟨?_,hp.len,?_,?_,?_,hp.dp,?_,rfl⟩,?_,?_⟩
 .rw[<- k1];exact hp.us
 .have:=(A7.trans hp.ev).trans (Ev.same (a:=(cJ t blk A0).2.2) (b:={(cJ t blk A0).2.2 with fl:=cH (cJ t blk A0).2.2.fl fl0.length (cJ t blk A0).1,heavy:=st.heavy}) rfl rfl);rwa [Gh.add_nil]at this
 .show e0.f3.or e.f3=_;rw[z3,hp.e3];rfl
 .show e0.f4.or e.f4=_;rw[z4,hp.e4,k3];rfl
 .show(cJ t blk A0).2.2.deep=_;rw[hp.deep,k3]
 .intro els ns ss;obtain⟨nx',hx⟩:=A2 els false ns ss;refine⟨nx',?_⟩;rw[<- k1,hx];rfl
 .intro h4 d hd;have A4:e0.f4.or e.f4=none:=h4;obtain⟨x,g1,g2,g3,g4⟩:=A1 (gO A4).2 d (by rw[k3];exact hd);refine⟨x,⟨o,wa,c,rfl,A5,A6,g1⟩,?_,?_⟩
  .show cH _ fl0.length _=_;rw[g2,k2,hfl,g3,List.append_assoc];exact pU _ fl0 nd _
  .intro h3;have A3:e0.f3.or e.f3=none:=h3;obtain⟨g5,g6⟩:=g4 (gO A3).2;refine⟨g5,?_⟩;show e0.f5.or e.f5=_;rw[z5];unfold ir;by_cases h6:64<st.heavy*times
   .rw[if_pos h6,if_pos h6,if_pos (by omega)];rfl
   .have hh:A0.heavy=st.heavy*times:=by rw[k4];unfold ir;rw[if_neg h6]
    rw[if_neg h6,if_neg h6,if_neg h6,g6 (by rw[hh];omega),hh];rfl
theorem AH {t:ByteArray}{blk:aD->Bool×aD}{n:Nat}(hblk:kM t blk n){st:aD}{i:Nat}{times p:Int}(hn:st.us.length<=n)(h:(gC t blk st i times p).1=false):
  ∀ els ns ss,dk t st.us ⟨[6],els,false,ns,ss⟩=.inl (bz t (gC t blk st i times p).2.us):=by
 intro els ns ss;obtain⟨A0,e0,h2,_,_,_,_,k1,_,_,_⟩:=tS st times p;rw[ut h2]at h ⊢;have:=rI hblk (st:=A0) (by rw[k1];exact hn) h els false ns ss;rw[<- k1];exact this
def lk (t:ByteArray)(d:Nat)(x:Hd×af d×af d):List Nd:=
 ei t x.1 (cE t d x.2.1).length (cE t d x.2.2).length::(cE t d x.2.1++cE t d x.2.2)
def qT (t:ByteArray)(d:Nat)(ws:List (Nat×Nat))(x:Hd×af d×af d):Prop:=
 ∃ wo wb f,ws=wo++wb/\gv t wo x.1 f/\qM t wo /\
  ((f=0/\wb=[]/\x.2.1=cm d/\x.2.2=cm d)\/(f=2/\BR t d wb x.2.1 x.2.2) \/
   (f=1/\(∃ o wa c,wb=o::(wa++[c])/\ao t o=dK/\ao t c=dh/\GT t d wa x.2.1)/\x.2.2=cm d))
def Gr (t:ByteArray)(st st':aD):Prop:=
 ∃ ws a b e,bl t st st' ws a b e/\ws≠[] /\
  (∀ els nx ns ss,∃ nx',dk t st.us ⟨[0],els,nx,ns,ss⟩=dk t st'.us ⟨[0],els,nx',ns++a,ss++b⟩) /\
  (e.f4=none->∀ d:Nat,(d:Int)+1+st.deep=5->∃ x:Hd×af d×af d,qT t d ws x/\st'.fl=st.fl++lk t d x /\
   (e.f3=none->(bt t x.1/\aF t d x.2.1/\aF t d x.2.2)/\(st.heavy<=64->e.f5=iQ t (ji t d) x st.heavy)))
def Gi (t:ByteArray)(st st':aD):Prop:=
 ∀ els nx ns ss,(bS t st=dh->els=[])->(st.us=[]->els≠[])->dk t st.us ⟨[0],els,nx,ns,ss⟩=.inl (bz t st'.us)
def lR (t:ByteArray)(st:aD)(r:Bool×aD):Prop:=(r.1=true->Gr t st r.2)/\(r.1=false->Gi t st r.2)
def js (t:ByteArray)(blk:aD->Bool×aD)(st:aD)(kind:Int):Bool×aD:=
 if kind=0 then (false,st)
 else
  let a:=dD t (aL st) kind
  if a.2.1 then
   let b:=db t a.2.2 kind
   if b.2.1 then
    let c:=ft t b.2.2 kind
    if c.2.1 then
     let st5:={c.2.2 with fl:=c.2.2.fl++[{kind:=kind,key:=b.1,times:=a.1,ticks:=c.1,body:=0,els:=0}]}
     if kind=4\/kind=5 then fY t blk st5 c.2.2.fl.length
     else if kind=6 then gC t blk st5 c.2.2.fl.length a.1 (bz t st.us:Nat)
     else (true,st5)
    else (false,c.2.2)
   else (false,b.2.2)
  else (false,a.2.2)
theorem Aj (t:ByteArray)(blk:aD->Bool×aD)(st:aD):fD t blk st=js t blk st (cN (bS t st)):=rfl
theorem Cd (s:List UInt8):(s=eA/\cN s=1)\/(s=eJ/\cN s=2)\/(s=eX/\cN s=3)\/(s=dV/\cN s=4)\/(s=dL/\cN s=5)\/(s=ch/\cN s=6) \/
  (cN s=0/\¬ s=eA/\¬ s=eJ/\¬ s=eX/\¬ s=dV/\¬ s=dL/\¬ s=ch):=by
 by_cases h1:s=eA
 .exact Or.inl ⟨h1,by rw[h1];rfl⟩
 by_cases h2:s=eJ
 .exact Or.inr (Or.inl ⟨h2,by rw[h2];rfl⟩)
 by_cases h3:s=eX
 .exact Or.inr (Or.inr (Or.inl ⟨h3,by rw[h3];rfl⟩))
 by_cases h4:s=dV
 .exact Or.inr (Or.inr (Or.inr (Or.inl ⟨h4,by rw[h4];rfl⟩)))
 by_cases h5:s=dL
 .exact Or.inr (Or.inr (Or.inr (Or.inr (Or.inl ⟨h5,by rw[h5];rfl⟩))))
 by_cases h6:s=ch
 .exact Or.inr (Or.inr (Or.inr (Or.inr (Or.inr (Or.inl ⟨h6,by rw[h6];rfl⟩)))))
 .refine Or.inr (Or.inr (Or.inr (Or.inr (Or.inr (Or.inr ⟨?_,h1,h2,h3,h4,h5,h6⟩)))));unfold cN;rw[if_neg h1,if_neg h2,if_neg h3,if_neg h4,if_neg h5,if_neg h6]
theorem rP (t:ByteArray)(d:Nat)(h:Hd):lk t d (h,cm d,cm d)=[ei t h 0 0]:=by
 unfold lk;simp only[sl];rfl
theorem sH (t:ByteArray)(d:Nat)(h:Hd)(n:Int)(hk:¬ ao t h.p=ch):iQ t (ji t d) (h,cm d,cm d) n=none:=by
 unfold iQ;rw[if_neg hk];simp only[tg];rfl
theorem nK {st:aD}{p:Nat×Nat}{r:List (Nat×Nat)}(hu:st.us=p::r):(aL st).us=r:=by show st.us.tail=r;rw[hu];rfl
theorem Ed {t:ByteArray}{blk:aD->Bool×aD}{st:aD}{p:Nat×Nat}{r:List (Nat×Nat)}(hu:st.us=p::r)(hb:ao t p=eA):lR t st (js t blk st 1):=by
 obtain⟨K,hK⟩:∃ K,K=db t (aL st) 1:=⟨_,rfl⟩;have hE:js t blk st 1=if K.2.1 then (true,{K.2.2 with fl:=K.2.2.fl++[{kind:=1,key:=K.1,times:=0,ticks:=0,body:=0,els:=0}]}) else (false,K.2.2):=by rw[hK];rfl
 have A0:∀ els nx ns ss,dk t st.us ⟨[0],els,nx,ns,ss⟩=dk t (aL st).us ⟨[2,0],els,nx,ns,ss⟩:=by
  intro els nx ns ss;rw[nK hu,hu,ic,hb];rfl
 rw[hE];cases h:K.2.1 with
 | true=>
  refine⟨fun _=>?_,fun hh=>absurd hh (by simp)⟩;rw[if_pos rfl];have hk:=tl (t:=t) (st:=aL st) (k:=1) (Or.inl rfl) (by rw[<- hK];exact h);rw[<- hK]at hk;obtain⟨q,hp,h0,hv,hf,ha⟩:=hk;have hw:=(bl.word hu (ny (s:=ao t p) (by rw[hb];decide)).1).trans hp;simp only[Gh.nil_add,List.nil_append,List.cons_append]at hw;refine⟨_,_,_,_,hw.fl st.fl _,by simp,?_,?_⟩
  .intro els nx ns ss;refine⟨nx,?_⟩;rw[A0,ha];simp
  .intro _ d _;refine⟨({p:=p,key:=cA (ao t q),n:=0,m:=0},cm d,cm d),⟨[p,q],[],0,by simp,Or.inl ⟨p,q,rfl,rfl,hb,rfl⟩,?_,Or.inl ⟨rfl,rfl,rfl,rfl⟩⟩,?_,?_⟩
   .intro x hx;simp at hx;rcases hx with rfl|rfl
    .rw[hb];decide
    .exact pT h0
   .show K.2.2.fl++_=_;rw[hf,rP,si (h:=⟨p,cA (ao t q),0,0⟩) 0 0 hb,hv];rfl
   .intro _;refine⟨⟨Or.inl ⟨hb,rfl,rfl⟩,lJ t d,lJ t d⟩,fun _=>?_⟩;rw[sH t d _ _ (by rw[show(Hd.mk p _ _ _).p=p from rfl,hb];decide)];rfl
 | false=>
  refine⟨fun hh=>absurd hh (by simp),fun _ els nx ns ss _ _=>?_⟩;rw[if_neg (by simp)];have:=tk (t:=t) (st:=aL st) (k:=1) (Or.inl rfl) (by rw[<- hK];exact h) [0] els nx ns ss;rw[<- hK]at this;rw[A0];exact this
theorem Ef {t:ByteArray}{blk:aD->Bool×aD}{st:aD}{p:Nat×Nat}{r:List (Nat×Nat)}(hu:st.us=p::r)(hb:ao t p=eJ):lR t st (js t blk st 2):=by
 obtain⟨K,hK⟩:∃ K,K=eI t (aL st) 999:=⟨_,rfl⟩;have hE:js t blk st 2=if K.2.1 then (true,{K.2.2 with fl:=K.2.2.fl++[{kind:=2,key:=0,times:=0,ticks:=K.1,body:=0,els:=0}]}) else (false,K.2.2):=by rw[hK];rfl
 have A0:∀ els nx ns ss,dk t st.us ⟨[0],els,nx,ns,ss⟩=dk t (aL st).us ⟨[3,0],els,nx,ns,ss⟩:=by
  intro els nx ns ss;rw[nK hu,hu,ic,hb];rfl
 rw[hE];cases h:K.2.1 with
 | true=>
  refine⟨fun _=>?_,fun hh=>absurd hh (by simp)⟩;rw[if_pos rfl];have hk:=oE (t:=t) (st:=aL st) (s:=3) (most:=999) rfl (Or.inl rfl) (by rw[<- hK];exact h);rw[<- hK]at hk;obtain⟨q,e,hp,h0,hv,hf,h5,h3,ha⟩:=hk;have hw:=(bl.word hu (ny (s:=ao t p) (by rw[hb];decide)).1).trans hp;simp only[Gh.nil_add,List.nil_append,List.cons_append]at hw;refine⟨_,_,_,_,hw.fl st.fl _,by simp,?_,?_⟩
  .intro els nx ns ss;refine⟨nx,?_⟩;rw[A0,ha]
  .intro _ d _;refine⟨({p:=p,key:=0,n:=bm (ao t q),m:=0},cm d,cm d),⟨[p,q],[],0,by simp,Or.inr (Or.inl ⟨p,q,rfl,rfl,hb,rfl⟩),?_,Or.inl ⟨rfl,rfl,rfl,rfl⟩⟩,?_,?_⟩
   .intro x hx;simp at hx;rcases hx with rfl|rfl
    .rw[hb];decide
    .exact lK h0
   .show K.2.2.fl++_=_;rw[hf,rP,sk (h:=⟨p,0,bm (ao t q),0⟩) 0 0 hb,hv];rfl
   .intro he;obtain⟨l1,l2⟩:=h3 he;refine⟨⟨Or.inr (Or.inl ⟨hb,l1,l2,rfl,rfl⟩),lJ t d,lJ t d⟩,fun _=>?_⟩;rw[sH t d _ _ (by rw[show(Hd.mk p _ _ _).p=p from rfl,hb];decide)];exact h5
 | false=>
  refine⟨fun hh=>absurd hh (by simp),fun _ els nx ns ss _ _=>?_⟩;rw[if_neg (by simp)];have:=oD (t:=t) (st:=aL st) (s:=3) (most:=999) (Or.inl rfl) (by rw[<- hK];exact h) [0] els nx ns ss;rw[<- hK]at this;rw[A0];exact this
theorem Ee {t:ByteArray}{blk:aD->Bool×aD}{st:aD}{p:Nat×Nat}{r:List (Nat×Nat)}(hu:st.us=p::r)(hb:ao t p=eX):lR t st (js t blk st 3):=by
 have hE:js t blk st 3=(true,{aL st with fl:=st.fl++[{kind:=3,key:=0,times:=0,ticks:=0,body:=0,els:=0}]}):=rfl;have A0:∀ els nx ns ss,dk t st.us ⟨[0],els,nx,ns,ss⟩=dk t (aL st).us ⟨[0],els,nx,ns,ss⟩:=by
  intro els nx ns ss;rw[nK hu,hu,ic,hb];rfl
 rw[hE];refine⟨fun _=>?_,fun hh=>absurd hh (by simp)⟩;have hw:=bl.word hu (ny (s:=ao t p) (by rw[hb];decide)).1;refine⟨_,_,_,_,hw.fl st.fl _,by simp,?_,?_⟩
 .intro els nx ns ss;refine⟨nx,?_⟩;rw[A0];simp
 .intro _ d _;refine⟨({p:=p,key:=0,n:=0,m:=0},cm d,cm d),⟨[p],[],0,by simp,Or.inr (Or.inr (Or.inl ⟨p,rfl,rfl,hb,rfl⟩)),?_,Or.inl ⟨rfl,rfl,rfl,rfl⟩⟩,?_,?_⟩
  .intro x hx;simp at hx;subst hx;rw[hb];decide
  .show st.fl++_=_;rw[rP,sj (h:=⟨p,0,0,0⟩) 0 0 hb]
  .intro _;refine⟨⟨Or.inr (Or.inr (Or.inl ⟨hb,rfl,rfl,rfl⟩)),lJ t d,lJ t d⟩,fun _=>?_⟩;rw[sH t d _ _ (by rw[show(Hd.mk p _ _ _).p=p from rfl,hb];decide)];rfl
theorem EY {t:ByteArray}{blk:aD->Bool×aD}{st:aD}{p:Nat×Nat}{r:List (Nat×Nat)}(hu:st.us=p::r){n:Nat}(hblk:kM t blk n)(hn:st.us.length<=n+1)(hb:ao t p=dV):lR t st (js t blk st 4):=by
 obtain⟨K,hK⟩:∃ K,K=db t (aL st) 4:=⟨_,rfl⟩;obtain⟨N,hN⟩:∃ N,N=eI t K.2.2 999:=⟨_,rfl⟩;obtain⟨s5,A3⟩:∃ s5:aD,s5={N.2.2 with fl:=N.2.2.fl++[Nd.mk 4 K.1 0 N.1 0 0]}:=⟨_,rfl⟩;have hE:js t blk st 4=if K.2.1 then (if N.2.1 then fY t blk s5 N.2.2.fl.length else (false,N.2.2)) else (false,K.2.2):=by rw[A3,hN,hK];rfl
 have A0:∀ els nx ns ss,dk t st.us ⟨[0],els,nx,ns,ss⟩=dk t (aL st).us ⟨[2,3,6],els,true,ns,ss⟩:=by
  intro els nx ns ss;rw[nK hu,hu,ic,hb];rfl
 rw[hE];cases h:K.2.1 with
 | false=>
  refine⟨fun hh=>absurd hh (by simp),fun _ els nx ns ss _ _=>?_⟩;rw[if_neg (by simp)];have:=tk (t:=t) (st:=aL st) (k:=4) (Or.inr (Or.inl rfl)) (by rw[<- hK];exact h) [3,6] els true ns ss;rw[<- hK]at this;rw[A0];exact this
 | true=>
  rw[if_pos rfl];have hk:=tl (t:=t) (st:=aL st) (k:=4) (Or.inr (Or.inl rfl)) (by rw[<- hK];exact h);rw[<- hK]at hk;obtain⟨q,hp,h0,hv,hf,ha⟩:=hk;cases h2:N.2.1 with
  | false=>
   refine⟨fun hh=>absurd hh (by simp),fun _ els nx ns ss _ _=>?_⟩;rw[if_neg (by simp)];have:=oD (t:=t) (st:=K.2.2) (s:=3) (most:=999) (Or.inl rfl) (by rw[<- hN];exact h2) [6] els true ns ss;rw[<- hN]at this;rw[A0,ha];exact this
  | true=>
   rw[if_pos rfl];have A6:=oE (t:=t) (st:=K.2.2) (s:=3) (most:=999) rfl (Or.inl rfl) (by rw[<- hN];exact h2);rw[<- hN]at A6;obtain⟨z,e,B3,A8,B6,B1,h5,h3,A4⟩:=A6;have hw:=((bl.word hu (ny (s:=ao t p) (by rw[hb];decide)).1).trans hp).trans B3;simp only[Gh.nil_add,List.nil_append,List.cons_append]at hw;have A2:bl t st s5 [p,q,z] [z] [3] e:=by rw[A3];exact hw.fl st.fl _
   have A1:s5.us.length<=n:=by have:=congrArg List.length A2.us;simp at this;omega
   have A7:s5.us=N.2.2.us:=by rw[A3]
   have B2:N.2.2.fl=st.fl:=by rw[B1,hf];rfl
   refine⟨fun hh=>?_,fun hh els nx ns ss _ _=>?_⟩
   .obtain⟨wb,a,b,e2,B4,B0,B5⟩:=ug hblk (st:=s5) (fl0:=N.2.2.fl) (nd:=Nd.mk 4 K.1 0 N.1 0 0) (by rw[A3]) rfl A1 hh;refine⟨_,_,_,_,A2.trans B4,by simp,?_,?_⟩
    .intro els nx ns ss;obtain⟨B7,hx⟩:=B0 els (ns++[z]) (ss++[3]);refine⟨B7,?_⟩;rw[A0,ha,A4,<- A7,hx];simp
    .intro h4 d hd;have A9:e.f4.or e2.f4=none:=h4;obtain⟨x,y,g1,g2,g3⟩:=B5 (gO A9).2 d (by rw[A2.deep];exact hd);refine⟨({p:=p,key:=cA (ao t q),n:=bm (ao t z),m:=0},x,y),⟨[p,q,z],wb,2,rfl,Or.inr (Or.inr (Or.inr (Or.inl ⟨p,q,z,rfl,rfl,hb,rfl⟩))),?_,Or.inr (Or.inl ⟨rfl,g1⟩)⟩,?_,?_⟩
     .intro w hw;simp at hw;rcases hw with rfl|rfl|rfl
      .rw[hb];decide
      .exact pT h0
      .exact lK A8
     .rw[g2,B2];unfold lk;rw[oK (h:=⟨p,cA (ao t q),bm (ao t z),0⟩) _ _ hb,hv,B6]
     .intro he;have A5:e.f3.or e2.f3=none:=he;obtain⟨l1,l2⟩:=h3 (gO A5).1;obtain⟨g4,g5,g6⟩:=g3 (gO A5).2;refine⟨⟨Or.inr (Or.inr (Or.inr (Or.inl ⟨hb,l1,l2,rfl⟩))),g4,g5⟩,fun hh=>?_⟩;show e.f5.or e2.f5=_;rw[h5,g6 (by rw[A2.heavy];exact hh),A2.heavy];unfold iQ;rw[if_neg (by show ¬ ao t p=ch;rw[hb];decide)];rfl
   .have:=uf hblk (st:=s5) (i:=N.2.2.fl.length) A1 hh els (ns++[z]) (ss++[3]);rw[A0,ha,A4,<- A7];exact this
theorem BA {t:ByteArray}{blk:aD->Bool×aD}{st:aD}{p:Nat×Nat}{r:List (Nat×Nat)}(hu:st.us=p::r){n:Nat}(hblk:kM t blk n)(hn:st.us.length<=n+1)(hb:ao t p=dL):lR t st (js t blk st 5):=by
 obtain⟨M,hM⟩:∃ M,M=eI t (aL st) 6:=⟨_,rfl⟩;obtain⟨K,hK⟩:∃ K,K=db t M.2.2 5:=⟨_,rfl⟩;obtain⟨N,hN⟩:∃ N,N=eI t K.2.2 999:=⟨_,rfl⟩;obtain⟨s5,A4⟩:∃ s5:aD,s5={N.2.2 with fl:=N.2.2.fl++[Nd.mk 5 K.1 M.1 N.1 0 0]}:=⟨_,rfl⟩;have hE:js t blk st 5=if M.2.1 then (if K.2.1 then (if N.2.1 then fY t blk s5 N.2.2.fl.length else (false,N.2.2)) else (false,K.2.2)) else (false,M.2.2):=by rw[A4,hN,hK,hM];rfl
 have A0:∀ els nx ns ss,dk t st.us ⟨[0],els,nx,ns,ss⟩=dk t (aL st).us ⟨[4,2,3,6],els,true,ns,ss⟩:=by
  intro els nx ns ss;rw[nK hu,hu,ic,hb];rfl
 rw[hE];cases h1:M.2.1 with
 | false=>
  refine⟨fun hh=>absurd hh (by simp),fun _ els nx ns ss _ _=>?_⟩;rw[if_neg (by simp)];have:=oD (t:=t) (st:=aL st) (s:=4) (most:=6) (Or.inr (Or.inl rfl)) (by rw[<- hM];exact h1) [2,3,6] els true ns ss;rw[<- hM]at this;rw[A0];exact this
 | true=>
  rw[if_pos rfl];have A7:=oE (t:=t) (st:=aL st) (s:=4) (most:=6) rfl (Or.inr (Or.inl rfl)) (by rw[<- hM];exact h1);rw[<- hM]at A7;obtain⟨y1,e1,C1,B0,iQ,B8,B4,B2,A3⟩:=A7;cases h:K.2.1 with
  | false=>
   refine⟨fun hh=>absurd hh (by simp),fun _ els nx ns ss _ _=>?_⟩;rw[if_neg (by simp)];have:=tk (t:=t) (st:=M.2.2) (k:=5) (Or.inr (Or.inr rfl)) (by rw[<- hK];exact h) [3,6] els true (ns++[y1]) (ss++[4]);rw[<- hK]at this;rw[A0,A3];exact this
  | true=>
   rw[if_pos rfl];have hk:=tl (t:=t) (st:=M.2.2) (k:=5) (Or.inr (Or.inr rfl)) (by rw[<- hK];exact h);rw[<- hK]at hk;obtain⟨q,hp,h0,hv,hf,ha⟩:=hk;cases h2:N.2.1 with
   | false=>
    refine⟨fun hh=>absurd hh (by simp),fun _ els nx ns ss _ _=>?_⟩;rw[if_neg (by simp)];have:=oD (t:=t) (st:=K.2.2) (s:=3) (most:=999) (Or.inl rfl) (by rw[<- hN];exact h2) [6] els true (ns++[y1]) (ss++[4]);rw[<- hN]at this;rw[A0,A3,ha];exact this
   | true=>
    rw[if_pos rfl];have A8:=oE (t:=t) (st:=K.2.2) (s:=3) (most:=999) rfl (Or.inl rfl) (by rw[<- hN];exact h2);rw[<- hN]at A8;obtain⟨z,e,C2,B1,C5,B9,h5,h3,A5⟩:=A8;have hw:=(((bl.word hu (ny (s:=ao t p) (by rw[hb];decide)).1).trans C1).trans hp).trans C2;simp only[Gh.nil_add,Gh.add_nil,List.nil_append,List.append_nil,List.cons_append]at hw;have A2:bl t st s5 [p,y1,q,z] [y1,z] [4,3] (e1.add e):=by rw[A4];exact hw.fl st.fl _
    have A1:s5.us.length<=n:=by have:=congrArg List.length A2.us;simp at this;omega
    have A9:s5.us=N.2.2.us:=by rw[A4]
    have C0:N.2.2.fl=st.fl:=by rw[B9,hf,B8];rfl
    refine⟨fun hh=>?_,fun hh els nx ns ss _ _=>?_⟩
    .obtain⟨wb,a,b,e2,C3,B5,C4⟩:=ug hblk (st:=s5) (fl0:=N.2.2.fl) (nd:=Nd.mk 5 K.1 M.1 N.1 0 0) (by rw[A4]) rfl A1 hh;refine⟨_,_,_,_,A2.trans C3,by simp,?_,?_⟩
     .intro els nx ns ss;obtain⟨C6,hx⟩:=B5 els (ns++[y1]++[z]) (ss++[4]++[3]);refine⟨C6,?_⟩;rw[A0,A3,ha,A5,<- A9,hx];simp
     .intro h4 d hd;have B3:(e1.add e).f4.or e2.f4=none:=h4;obtain⟨x,y,g1,g2,g3⟩:=C4 (gO B3).2 d (by rw[A2.deep];exact hd);refine⟨({p:=p,key:=cA (ao t q),n:=bm (ao t z),m:=bm (ao t y1)},x,y),⟨[p,y1,q,z],wb,2,rfl,Or.inr (Or.inr (Or.inr (Or.inr (Or.inl ⟨p,y1,q,z,rfl,rfl,hb,rfl⟩)))),?_,Or.inr (Or.inl ⟨rfl,g1⟩)⟩,?_,?_⟩
      .intro w hw;simp at hw;rcases hw with rfl|rfl|rfl|rfl
       .rw[hb];decide
       .exact lK B0
       .exact pT h0
       .exact lK B1
      .rw[g2,C0];unfold lk;rw[ol (h:=⟨p,cA (ao t q),bm (ao t z),bm (ao t y1)⟩) _ _ hb,hv,C5,iQ]
      .intro he;have B6:(e1.f3.or e.f3).or e2.f3=none:=he;obtain⟨A6,B7⟩:=gO B6;obtain⟨l1,l2⟩:=h3 (gO A6).2;obtain⟨l3,l4⟩:=B2 (gO A6).1;obtain⟨g4,g5,g6⟩:=g3 B7;refine⟨⟨Or.inr (Or.inr (Or.inr (Or.inr (Or.inl ⟨hb,l1,l2,l3,l4⟩)))),g4,g5⟩,fun hh=>?_⟩;show(e1.f5.or e.f5).or e2.f5=_;rw[B4,h5,g6 (by rw[A2.heavy];exact hh),A2.heavy];unfold Herald.iQ;rw[if_neg (by show ¬ ao t p=ch;rw[hb];decide)];rfl
    .have:=uf hblk (st:=s5) (i:=N.2.2.fl.length) A1 hh els (ns++[y1]++[z]) (ss++[4]++[3]);rw[A0,A3,ha,A5,<- A9];exact this
theorem Ar {t:ByteArray}{blk:aD->Bool×aD}{st:aD}{p:Nat×Nat}{r:List (Nat×Nat)}(hu:st.us=p::r){n:Nat}(hblk:kM t blk n)(hn:st.us.length<=n+1)(hb:ao t p=ch):lR t st (js t blk st 6):=by
 obtain⟨N,hN⟩:∃ N,N=eI t (aL st) 9:=⟨_,rfl⟩;obtain⟨s5,A2⟩:∃ s5:aD,s5={N.2.2 with fl:=N.2.2.fl++[Nd.mk 6 0 N.1 0 0 0]}:=⟨_,rfl⟩;have hE:js t blk st 6=if N.2.1 then gC t blk s5 N.2.2.fl.length N.1 (bz t st.us:Nat) else (false,N.2.2):=by rw[A2,hN];rfl
 have A0:∀ els nx ns ss,dk t st.us ⟨[0],els,nx,ns,ss⟩=dk t (aL st).us ⟨[5,6],els,false,ns,ss⟩:=by
  intro els nx ns ss;rw[nK hu,hu,ic,hb];rfl
 have B2:(bz t st.us:Nat)=p.1:=by rw[hu];rfl
 rw[hE];cases h2:N.2.1 with
 | false=>
  refine⟨fun hh=>absurd hh (by simp),fun _ els nx ns ss _ _=>?_⟩;rw[if_neg (by simp)];have:=oD (t:=t) (st:=aL st) (s:=5) (most:=9) (Or.inr (Or.inr rfl)) (by rw[<- hN];exact h2) [6] els false ns ss;rw[<- hN]at this;rw[A0];exact this
 | true=>
  rw[if_pos rfl];have A6:=oE (t:=t) (st:=aL st) (s:=5) (most:=9) rfl (Or.inr (Or.inr rfl)) (by rw[<- hN];exact h2);rw[<- hN]at A6;obtain⟨z,e,B5,A9,A8,B3,h5,h3,A4⟩:=A6;have hw:=(bl.word hu (ny (s:=ao t p) (by rw[hb];decide)).1).trans B5;simp only[Gh.nil_add,List.nil_append,List.cons_append]at hw;have A3:bl t st s5 [p,z] [z] [5] e:=by rw[A2];exact hw.fl st.fl _
  have A1:s5.us.length<=n:=by have:=congrArg List.length A3.us;simp at this;omega
  have A7:s5.us=N.2.2.us:=by rw[A2]
  have B4:N.2.2.fl=st.fl:=by rw[B3];rfl
  refine⟨fun hh=>?_,fun hh els nx ns ss _ _=>?_⟩
  .obtain⟨wb,a,b,e2,B6,B1,B7⟩:=AI hblk (st:=s5) (fl0:=N.2.2.fl) (nd:=Nd.mk 6 0 N.1 0 0 0) (by rw[A2]) A1 hh;refine⟨_,_,_,_,A3.trans B6,by simp,?_,?_⟩
   .intro els nx ns ss;obtain⟨B8,hx⟩:=B1 els (ns++[z]) (ss++[5]);refine⟨B8,?_⟩;rw[A0,A4,<- A7,hx];simp
   .intro h4 d hd;have B0:e.f4.or e2.f4=none:=h4;obtain⟨x,g1,g2,g3⟩:=B7 (gO B0).2 d (by rw[A3.deep];exact hd);refine⟨({p:=p,key:=0,n:=bm (ao t z),m:=0},x,cm d),⟨[p,z],wb,1,rfl,Or.inr (Or.inr (Or.inr (Or.inr (Or.inr ⟨p,z,rfl,rfl,hb,rfl⟩)))),?_,Or.inr (Or.inr ⟨rfl,g1,rfl⟩)⟩,?_,?_⟩
    .intro w hw;simp at hw;rcases hw with rfl|rfl
     .rw[hb];decide
     .exact lK A9
    .rw[g2,B4];unfold lk;rw[ou (h:=⟨p,0,bm (ao t z),0⟩) _ _ hb,A8];simp only[sl,List.append_nil];rfl
    .intro he;have A5:e.f3.or e2.f3=none:=he;obtain⟨l1,l2⟩:=h3 (gO A5).1;obtain⟨g4,g5⟩:=g3 (gO A5).2;refine⟨⟨Or.inr (Or.inr (Or.inr (Or.inr (Or.inr ⟨hb,l1,l2,rfl,rfl⟩)))),g4,lJ t d⟩,fun _=>?_⟩;show e.f5.or e2.f5=_;rw[h5,g5,A3.heavy,A8,B2];unfold iQ;rw[if_pos (show ao t p=ch from hb)];simp only[tg,Option.or_none,Option.none_or]
  .have:=AH hblk (st:=s5) (i:=N.2.2.fl.length) (times:=N.1) (p:=(bz t st.us:Nat)) A1 hh els (ns++[z]) (ss++[5]);rw[A0,A4,<- A7];exact this
theorem rO {s:List UInt8}(hk:¬ s=eA/\¬ s=eJ/\¬ s=eX/\¬ s=dV/\¬ s=dL/\¬ s=ch)(p:Nat×Nat)(els:List Bool)(nx:Bool)(ns:List (Nat×Nat))(ss:List Int)(hs:s=dh->els=[]):
  (fW s p ⟨[0],els,nx,ns,ss⟩).2=false:=by
 obtain⟨h1,h2,h3,h4,h5,h6⟩:=hk;have e0:fW s p ⟨[0],els,nx,ns,ss⟩=fU s 0 ⟨[0],els,nx,ns,ss⟩:=rfl;rw[e0];unfold fU;rw[if_neg h1,if_neg h2,if_neg h3,if_neg h4,if_neg h5,if_neg h6];by_cases h7:s=fE
 .rw[if_pos h7];rfl
 rw[if_neg h7];by_cases h8:s=dh
 .rw[if_pos h8,hs h8]
 .rw[if_neg h8]
theorem rk {t:ByteArray}{blk:aD->Bool×aD}{n:Nat}(hblk:kM t blk n)(st:aD)(hn:st.us.length<=n+1):lR t st (fD t blk st):=by
 rw[Aj];have hz:cN (bS t st)=0->(∀ p r,st.us=p::r->¬ ao t p=eA/\¬ ao t p=eJ/\¬ ao t p=eX/\¬ ao t p=dV/\¬ ao t p=dL/\¬ ao t p=ch)->lR t st (js t blk st (cN (bS t st))):=by
  intro h0 hno;rw[h0];have hE:js t blk st 0=(false,st):=rfl;rw[hE];refine⟨fun hh=>absurd hh (by simp),fun _ els nx ns ss h1 h2=>?_⟩;cases hu:st.us with
  | nil=>
   have:=h2 hu;rw[mR,if_pos (Or.inl ?_)]
   .rfl
   .cases els with
    | nil=>exact absurd rfl this
    | cons a b=>simp
  | cons p r=>
   rw[ic,if_neg]
   .rfl
   .rw[rO (hno p r hu) p els nx ns ss (by rw[<- jA hu];exact h1)];simp
 cases hu:st.us with
 | nil=>exact hz (by rw[ru hu];rfl) (fun p r h=>by rw[hu]at h;cases h)
 | cons p r=>
  have A0:=jA (t:=t) hu;rcases Cd (ao t p) with ⟨h,k⟩|⟨h,k⟩|⟨h,k⟩|⟨h,k⟩|⟨h,k⟩|⟨h,k⟩|⟨k,h⟩
  .rw[A0,k];exact Ed hu h
  .rw[A0,k];exact Ef hu h
  .rw[A0,k];exact Ee hu h
  .rw[A0,k];exact EY hu hblk hn h
  .rw[A0,k];exact BA hu hblk hn h
  .rw[A0,k];exact Ar hu hblk hn h
  .exact hz (by rw[A0,k]) (fun p' r' h'=>by rw[hu]at h';cases h';exact h)
theorem gv.head {t:ByteArray}{wo:List (Nat×Nat)}{h:Hd}{f:Nat}(hh:gv t wo h f):∃ p q,wo=p::q/\¬ ao t p=dK/\¬ ao t p=fE:=by
 rcases hh with ⟨p,q,rfl,_,hb,_⟩|⟨p,q,rfl,_,hb,_⟩|⟨p,rfl,_,hb,_⟩|⟨p,q,r,rfl,_,hb,_⟩|⟨p,q,r,s,rfl,_,hb,_⟩|⟨p,q,rfl,_,hb,_⟩;all_goals exact⟨_,_,rfl,by rw[hb];decide,by rw[hb];decide⟩
theorem GL.head {t:ByteArray}{T:Type}{sub:List (Nat×Nat)->T->Prop}{nil:T}{ws:List (Nat×Nat)}{l:List (Hd×T×T)}(h:GL t sub nil ws l):lE t ws dK/\lE t ws fE:=by
 cases l with
 | nil=>rw[GL]at h;subst h;exact⟨fun p hp=>(by cases hp),fun p hp=>(by cases hp)⟩
 | cons x r=>
  rw[GL]at h;obtain⟨wo,wb,wr,f,rfl,hh,_⟩:=h;obtain⟨p,q,rfl,h1,h2⟩:=hh.head;refine⟨fun z hz=>?_,fun z hz=>?_⟩
  .simp at hz;subst hz;exact h1
  .simp at hz;subst hz;exact h2
def tu {d:Nat}(x:Hd×af d×af d)(l:af (d+1)):af (d+1):=(x::l.list:List (Hd×af d×af d))
theorem qT.cons {t:ByteArray}{d:Nat}{ws wr:List (Nat×Nat)}{x:Hd×af d×af d}{l:af (d+1)}(h:qT t d ws x)(hl:GT t (d+1) wr l):GT t (d+1) (ws++wr) (tu x l):=by
 have hl:GL t (GT t d) (cm d) wr l.list:=hl;show GL t (GT t d) (cm d) (ws++wr) (x::l.list);rw[GL];have hd:=hl.head;obtain⟨wo,wb,f,rfl,h1,h2,h3⟩:=h;refine⟨wo,wb,wr,f,by simp,h1,h2,hl,?_⟩;rcases h3 with ⟨rfl,rfl,h4,h5⟩|⟨rfl,h4|h4⟩|⟨rfl,⟨o,wa,c,rfl,h5,h6,h7⟩,h8⟩
 .exact Or.inl ⟨rfl,rfl,h4,h5,hd.1⟩
 .obtain⟨o,wa,c,rfl,h5,h6,h7,h8⟩:=h4;exact Or.inr (Or.inl ⟨o,wa,c,by omega,rfl,h5,h6,h7,h8,hd.2⟩)
 .obtain⟨o,wa,c,e,o2,A2,c2,rfl,h5,h6,h7,h8,h9,A0,A1⟩:=h4;exact Or.inr (Or.inr ⟨o,wa,c,e,o2,A2,c2,rfl,rfl,h5,h6,h7,h8,h9,A0,A1⟩)
 .exact Or.inr (Or.inl ⟨o,wa,c,by omega,rfl,h5,h6,h7,h8,hd.2⟩)
theorem AR (t:ByteArray)(d:Nat)(x:Hd×af d×af d)(l:af (d+1)):cE t (d+1) (tu x l)=lk t d x++cE t (d+1) l:=by
 show(x::l.list).flatMap (fun x=>lk t d x)=lk t d x++l.list.flatMap (fun x=>lk t d x);rw[List.flatMap_cons]
theorem td {t:ByteArray}{stm:aD->Bool×aD}{n:Nat}(hst:∀ st:aD,st.us.length<=n->lR t st (stm st))(behind:List UInt8)(hbeh:behind=dh\/behind=[]):∀ (f:Nat) (st:aD),st.us.length<f->st.us.length<=n ->
  ((ix t stm behind f st).1=true->yi t st (ix t stm behind f st).2 behind) /\
  ((ix t stm behind f st).1=false->∀ els nx ns ss,(behind=dh->els≠[])->(behind=[]->els=[])->dk t st.us ⟨[0],els,nx,ns,ss⟩=.inl (bz t (ix t stm behind f st).2.us)):=by
 intro f;induction f with
 | zero=>intro st h;omega
 | succ f ih=>
  intro st hf hn;rw[ix];by_cases hb:bS t st=behind
  .rw[if_pos hb];refine⟨fun _=>⟨[],[],[],Gh.nil,bl.refl t st,hb,fun els nx ns ss=>⟨nx,by simp⟩,fun _ d _=>⟨cm (d+1),?_,?_,fun _=>⟨lJ t (d+1),fun _=>rfl⟩⟩⟩,fun hh=>absurd hh (by simp)⟩
   .show GL t (GT t d) (cm d) [] ([]:List (Hd×af d×af d));rw[GL]
   .show st.fl=st.fl++[];simp
  .rw[if_neg hb];obtain⟨hy,B1⟩:=hst st hn;cases hs:(stm st).1 with
   | false=>
    rw[if_neg (by simp)];refine⟨fun hh=>absurd hh (by simp),fun _ els nx ns ss h1 h2=>B1 hs els nx ns ss ?_ ?_⟩
    .intro hk;rcases hbeh with h|h
     .rw[h]at hb;exact absurd hk hb
     .exact h2 h
    .intro hu;rcases hbeh with h|h
     .exact h1 h
     .rw[h]at hb;exact absurd (ru hu) hb
   | true=>
    rw[if_pos rfl];obtain⟨ws,a,b,e,hp,B0,A1,A3⟩:=hy hs;have A9:(stm st).2.us.length<st.us.length:=by
     have:=congrArg List.length hp.us;rw[List.length_append]at this;have:0<ws.length:=List.length_pos_iff.mpr B0;omega
    obtain⟨iy,B3⟩:=ih (stm st).2 (by omega) (by omega);refine⟨fun hh=>?_,fun hh els nx ns ss h1 h2=>?_⟩
    .obtain⟨B5,a2,b2,e2,B2,A8,A2,A0⟩:=iy hh;refine⟨ws++B5,a++a2,b++b2,e.add e2,hp.trans B2,A8,?_,?_⟩
     .intro els nx ns ss;obtain⟨A5,x1⟩:=A1 els nx ns ss;obtain⟨B4,x2⟩:=A2 els A5 (ns++a) (ss++b);exact⟨B4,by rw[x1,x2];simp⟩
     .intro h4 d hd;have A7:e.f4.or e2.f4=none:=h4;obtain⟨x,g1,g2,g3⟩:=A3 (gO A7).1 d hd;obtain⟨tr,k1,k2,k3⟩:=A0 (gO A7).2 d (by rw[hp.deep];exact hd);refine⟨tu x tr,g1.cons k1,?_,?_⟩
      .rw[k2,g2,AR,List.append_assoc]
      .intro h3;have A6:e.f3.or e2.f3=none:=h3;obtain⟨⟨m1,m2,m3⟩,m4⟩:=g3 (gO A6).1;obtain⟨m5,m6⟩:=k3 (gO A6).2;refine⟨?_,fun hh=>?_⟩
       .intro y hy;have A4:y∈(x::tr.list):=hy;rcases List.mem_cons.mp A4 with rfl|A4
        .exact⟨m1,m2,m3⟩
        .exact m5 y A4
       .show e.f5.or e2.f5=_;rw[m4 hh,m6 (by rw[hp.heavy];exact hh),hp.heavy];rfl
    .obtain⟨A5,x1⟩:=A1 els nx ns ss;rw[x1];exact B3 hh els A5 (ns++a) (ss++b) h1 h2
theorem wT (t:ByteArray):∀ n:Nat,kM t (kK t n dh) n:=by
 intro n;induction n with
 | zero=>intro st h;omega
 | succ n ih=>
  intro st h;obtain⟨h1,h2⟩:=td (t:=t) (stm:=fD t (kK t n dh)) (n:=n+1) (fun st hn=>rk ih st hn) dh (Or.inl rfl) (st.us.length+1) st (by omega) (by omega);exact⟨h1,fun hh els nx ns ss he=>h2 hh els nx ns ss (fun _=>he) (fun h=>absurd h (by decide))⟩
def ja (t:ByteArray):aD:={us:=dC t.data.toList,fl:=[],deep:=0,heavy:=1,fault:=0,place:=0}
def dZ (t:ByteArray):Bool×aD:=ix t (fD t (kK t 401 dh)) [] ((ja t).us.length+1) (ja t)
theorem Bc {t:ByteArray}{p:Nat×Nat}(h1:p.1<p.2)(h2:p.2<=t.size):¬ ao t p=[]:=by
 intro h;have:=congrArg List.length h;unfold ao at this;simp at this;omega
theorem yf (t:ByteArray)(ht:t.size<=400)(h:(dZ t).1=false):iW t=(2,(bz t (dZ t).2.us:Int)):=by
 have hw:=ky t.data.toList;have A0:t.data.toList.length=t.size:=by simp
 have:=(td (t:=t) (stm:=fD t (kK t 401 dh)) (n:=401+1) (fun st hn=>rk (wT t 401) st hn) [] (Or.inr rfl) ((ja t).us.length+1) (ja t) (by omega) (by show(dC t.data.toList).length<=_;omega)).2 h [] false [] [] (fun h=>absurd h (by decide)) (fun _=>rfl);rw[uL];have e:dk t (dC t.data.toList) ik=.inl (bz t (dZ t).2.us):=this;rw[e]
theorem xM (t:ByteArray)(ht:t.size<=400)(h:(dZ t).1=true):∃ e:Gh,((dZ t).2.fault,(dZ t).2.place)=lS e /\
  (iW t=match e.f3 with
   | some p=>(3,p)
   | none=>(0,0))/\fQ t (dC t.data.toList) 0=e.f4.getD (-1)/\(∀ p,e.f4=some p->0<=p) /\
  (e.f4=none->∃ tr:af 5,GT t 5 (dC t.data.toList) tr/\(dZ t).2.fl=cE t 5 tr/\(e.f3=none->aF t 5 tr/\fI t 5 tr 1=e.f5.getD (-1)/\(∀ p,e.f5=some p->0<=p))):=by
 have hw:=ky t.data.toList;have A8:t.data.toList.length=t.size:=by simp
 obtain⟨ws,a,b,e,hp,hb,A3,A2⟩:=(td (t:=t) (stm:=fD t (kK t 401 dh)) (n:=401+1) (fun st hn=>rk (wT t 401) st hn) [] (Or.inr rfl) ((ja t).us.length+1) (ja t) (by omega) (by show(dC t.data.toList).length<=_;omega)).1 h;have A0:bl t (ja t) (dZ t).2 ws a b e:=hp;have A1:(dZ t).2.us=[]:=by
  cases hu:(dZ t).2.us with
  | nil=>rfl
  | cons p q=>
   exfalso;have A4:bS t (dZ t).2=[]:=hb;rw[jA hu]at A4;have A7:p∈dC t.data.toList:=by
    have:dC t.data.toList=ws++(dZ t).2.us:=A0.us;rw[this,hu];simp
   have A6:=tV t.data.toList p A7;exact Bc A6.1 (by omega) A4
 have A5:dC t.data.toList=ws:=by
  have:dC t.data.toList=ws++(dZ t).2.us:=A0.us;rw[this,A1];simp
 refine⟨e,?_,?_,?_,?_,?_⟩
 .have:=A0.ev Gh.nil rfl;rw[Gh.nil_add]at this;exact this
 .obtain⟨nx,hx⟩:=A3 [] false [] [];rw[uL];have e1:dk t (dC t.data.toList) ik=dk t (dZ t).2.us ⟨[0],[],nx,[]++a,[]++b⟩:=hx;rw[e1,A1,mR,if_neg (by simp)];show jE t ([]++a) ([]++b)=_
  (rw[List.nil_append,List.nil_append,FSa,A0.e3]) <;> (cases jW t a b <;> rfl)
 .rw[Eu,A5,A0.e4];rfl
 .intro p hpp;rw[A0.e4]at hpp;exact Dd t _ _ p hpp
 .intro h4;obtain⟨tr,g1,g2,g3⟩:=A2 h4 4 rfl;refine⟨tr,by rw[A5];exact g1,?_,?_⟩
  .have:(dZ t).2.fl=[]++cE t 5 tr:=g2;rw[this];simp
  .intro h3;obtain⟨k1,k2⟩:=g3 h3;have k3:e.f5=ji t 5 tr 1:=k2 (show(1:Int)<=64 by omega);have:=xe t 5 tr 1;rw[k3];exact⟨k1,this.1,this.2⟩
theorem GL.size {t:ByteArray}{d:Nat}(hs:∀ ws x,GT t d ws x->bv d x<=ws.length):∀ (l:List (Hd×af d×af d)) (ws:List (Nat×Nat)),GL t (GT t d) (cm d) ws l->(l.map fun x=>1+bv d x.2.1+bv d x.2.2).sum<=ws.length:=by
 have A0:bv d (cm d)=0:=by cases d <;> rfl
 intro l;induction l with
 | nil=>intro ws h;simp
 | cons x r ih=>
  intro ws h;rw[GL]at h;obtain⟨wo,wb,wr,f,rfl,hh,_,hr,hb⟩:=h;obtain⟨p,q,rfl,_⟩:=hh.head;have h1:=ih wr hr;rw[List.map_cons,List.sum_cons];have h2:bv d x.2.1+bv d x.2.2<=wb.length:=by
   rcases hb with ⟨_,rfl,e1,e2,_⟩|⟨o,wa,c,_,rfl,_,_,ha,e2,_⟩|⟨o,wa,c,e,o2,wa2,c2,_,rfl,_,_,_,_,_,ha,ha2⟩
   .rw[e1,e2,A0];simp
   .have:=hs _ _ ha;rw[e2,A0];simp;omega
   .have:=hs _ _ ha;have:=hs _ _ ha2;simp;omega
  simp only[List.length_append,List.length_cons];omega
theorem GT.size {t:ByteArray}:∀ (d:Nat) (ws:List (Nat×Nat)) (x:af d),GT t d ws x->bv d x<=ws.length:=by
 intro d;induction d with
 | zero=>intro ws x _;exact Nat.zero_le _
 | succ d ih=>intro ws x h;exact GL.size ih x.list ws h
def ti (t:ByteArray)(r:Int×Int×Int):Prop:=
 (∃ f p,iW t=(f,p)/\f≠0/\r=(0,f,p)) \/
 (∃ p,iW t=(0,0)/\fQ t (dC t.data.toList) 0=p/\0<=p/\r=(0,4,p)) \/
 (∃ tr:af 5,iW t=(0,0)/\fQ t (dC t.data.toList) 0=-1/\GT t 5 (dC t.data.toList) tr/\aF t 5 tr/\bv 5 tr<=400 /\
  ((∃ p,fI t 5 tr 1=p/\0<=p/\r=(0,5,p))\/(fI t 5 tr 1=-1/\100000<cu (bE t 5 tr).1 (bE t 5 tr).2/\r=(0,6,0)) \/
   (fI t 5 tr 1=-1/\¬ 100000<cu (bE t 5 tr).1 (bE t 5 tr).2/\r=(cu (bE t 5 tr).1 (bE t 5 tr).2,0,0))))
def qE (t:ByteArray)(r:Int×Int×Int):Prop:=
 ((dZ t).1=false/\r=(0,2,(bz t (dZ t).2.us:Int))) \/
 ((dZ t).1=true/\(dZ t).2.fault≠0/\r=(0,(dZ t).2.fault,(dZ t).2.place)) \/
 ((dZ t).1=true/\(dZ t).2.fault=0/\∃ tr:af 5,(dZ t).2.fl=cE t 5 tr/\aF t 5 tr/\bv 5 tr<=400 /\
  ((100000<cu (bE t 5 tr).1 (bE t 5 tr).2/\r=(0,6,0))\/(¬ 100000<cu (bE t 5 tr).1 (bE t 5 tr).2/\r=(cu (bE t 5 tr).1 (bE t 5 tr).2,0,0))))
theorem Hl (t:ByteArray)(ht:t.size<=400):∃ r,ti t r/\qE t r:=by
 cases h:(dZ t).1 with
 | false=>
  exact⟨(0,2,(bz t (dZ t).2.us:Int)),Or.inl ⟨2,_,yf t ht h,by decide,rfl⟩,Or.inl ⟨h,rfl⟩⟩
 | true=>
  obtain⟨e,he,hf,hd,A4,A3⟩:=xM t ht h;have A0:(dZ t).2.fault=(lS e).1:=congrArg Prod.fst he;have A1:(dZ t).2.place=(lS e).2:=congrArg Prod.snd he;obtain⟨f3,f4,f5⟩:=e;cases f3 with
  | some p=>
   refine⟨(0,3,p),Or.inl ⟨3,p,hf,by decide,rfl⟩,Or.inr (Or.inl ⟨h,by rw[A0];show(3:Int)≠0;decide,?_⟩)⟩;rw[A0,A1];rfl
  | none=>
   cases f4 with
   | some p=>
    refine⟨(0,4,p),Or.inr (Or.inl ⟨p,hf,hd,A4 p rfl,rfl⟩),Or.inr (Or.inl ⟨h,by rw[A0];show(4:Int)≠0;decide,?_⟩)⟩;rw[A0,A1];rfl
   | none=>
    obtain⟨tr,g1,g2,g3⟩:=A3 rfl;obtain⟨g4,g5,g6⟩:=g3 rfl;have A2:bv 5 tr<=400:=by
     have h1:=GT.size 5 _ tr g1;have h2:=ky t.data.toList;have h3:t.data.toList.length=t.size:=by simp
     omega
    cases f5 with
    | some p=>
     refine⟨(0,5,p),Or.inr (Or.inr ⟨tr,hf,hd,g1,g4,A2,Or.inl ⟨p,g5,g6 p rfl,rfl⟩⟩),Or.inr (Or.inl ⟨h,by rw[A0];show(5:Int)≠0;decide,?_⟩)⟩;rw[A0,A1];rfl
    | none=>
     have h0:(dZ t).2.fault=0:=by rw[A0];rfl
     by_cases hl:100000<cu (bE t 5 tr).1 (bE t 5 tr).2
     .exact⟨(0,6,0),Or.inr (Or.inr ⟨tr,hf,hd,g1,g4,A2,Or.inr (Or.inl ⟨g5,hl,rfl⟩)⟩),Or.inr (Or.inr ⟨h,h0,tr,g2,g4,A2,Or.inl ⟨hl,rfl⟩⟩)⟩
     .exact⟨_,Or.inr (Or.inr ⟨tr,hf,hd,g1,g4,A2,Or.inr (Or.inr ⟨g5,hl,rfl⟩)⟩),Or.inr (Or.inr ⟨h,h0,tr,g2,g4,A2,Or.inr ⟨hl,rfl⟩⟩)⟩
end Go.Proofs.Herald
