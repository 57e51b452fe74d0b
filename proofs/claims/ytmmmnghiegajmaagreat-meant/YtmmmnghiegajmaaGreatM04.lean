namespace Go.Proofs.Herald
def zf7:Int->List UInt8->Option Int
 | n,[]=>some n
 | n,c::r=>if 48<=c.toNat/\c.toNat<=57 then zf7 (10*n+(c.toNat - 48)) r else none
def zbx (l:List UInt8):Int:=
 if l.length=0\/4<l.length then -1 else (zf7 0 l).getD (-1)
def zcx (l:List UInt8):Int:=
 match l with
 | [c]=>if 97<=c.toNat/\c.toNat<105 then (c.toNat:Int) - 97 else -1
 | _=>-1
def zcy (a b:Int):Int:=if b<a then a else b
def zat (a b:Int):Int:=if a<0\/b<0 then -1 else a+b
def zkE (s:Int):Int:=if s=4 then 6 else if s=5 then 9 else 999
theorem zhV:∀ (l:List UInt8)(n v:Int),0<=n->zf7 n l=some v->n*10 ^ l.length<=v/\v<(n+1)*10 ^ l.length:=by
 intro l
 induction l with
 | nil=>intro n v h e;simp [zf7] at e;subst e;simp;omega
 | cons c r ih=>
  intro n v h e
  simp only [zf7] at e
  split at e
  .rename_i hc
   have:=ih (10*n+(c.toNat - 48)) v (by omega) e
   have hp:(0:Int)<10 ^ r.length:=Int.pow_pos (by omega)
   have e1:(10:Int) ^ (c::r).length=10 ^ r.length*10:=by simp [Int.pow_succ]
   rw [e1]
   generalize (10:Int) ^ r.length=P at *
   have hd0:(0:Int)<=c.toNat - 48:=by omega
   have hd9:(c.toNat:Int) - 48<=9:=by omega
   generalize (c.toNat:Int) - 48=d at *
   constructor
   .have h1:n*(P*10)<=(10*n+d)*P:=by
     have:(10*n+d)*P=n*(P*10)+d*P:=by
      rw [Int.add_mul,Int.mul_comm 10 n,Int.mul_assoc,Int.mul_comm 10 P]
     rw [this]
     have:=Int.mul_nonneg hd0 (Int.le_of_lt hp)
     omega
    omega
   .have h1:(10*n+d+1)*P<=(n+1)*(P*10):=by
     have e2:(n+1)*(P*10)=(10*n+10)*P:=by
      rw [Int.mul_comm P 10,<- Int.mul_assoc,Int.add_mul n 1 10,Int.mul_comm n 10];simp
     rw [e2]
     exact Int.mul_le_mul_of_nonneg_right (by omega) (Int.le_of_lt hp)
    omega
  .simp at e
theorem zml (l:List UInt8):-1<=zbx l/\zbx l<=9999:=by
 unfold zbx
 split
 .omega
 .rename_i h
  cases e:zf7 0 l with
  | none=>simp
  | some v=>
   have:=zhV l 0 v (by omega) e
   have h4:l.length=1\/l.length=2\/l.length=3\/l.length=4:=by omega
   rcases h4 with h4|h4|h4|h4 <;> rw [h4] at this <;> simp at this ⊢ <;> omega
theorem zmg (l:List UInt8):-1<=zcx l/\zcx l<=7:=by
 unfold zcx
 split
 .split <;> omega
 .omega
theorem zlm (s:ByteArray)(h:s.size=1)(hp:0<s.size):
  zcx s.data.toList=if (97:Int)<=((s[0]'hp).toNat:Int)/\((s[0]'hp).toNat:Int)<105 then ((s[0]'hp).toNat:Int) - 97 else -1:=by
 obtain ⟨⟨l⟩⟩:=s
 match l,h with
 | [c],_=>
  have e:(ByteArray.mk ⟨[c]⟩)[0]'hp=c:=rfl
  rw [e]
  simp only [zcx]
  by_cases h:97<=c.toNat/\c.toNat<105
  .rw [if_pos h,if_pos (by omega)]
  .rw [if_neg h,if_neg (by omega)]
theorem zll (s:ByteArray)(h:s.size≠1):zcx s.data.toList=-1:=by
 obtain ⟨⟨l⟩⟩:=s
 unfold zcx
 split
 .rename_i e;simp at e;subst e;exact absurd rfl h
 .rfl
theorem zfS (s:ByteArray)(h:s.size=0\/4<s.size):zbx s.data.toList=-1:=by
 have e:s.data.toList.length=s.size:=by simp
 unfold zbx
 rw [if_pos (by rw [e];exact h)]
theorem zic (s:ByteArray)(h0:s.size≠0)(h:s.size<=4):zbx s.data.toList=(zf7 0 s.data.toList).getD (-1):=by
 have e:s.data.toList.length=s.size:=by simp
 unfold zbx
 rw [if_neg (by rw [e];omega)]
theorem zg8:∀ (a b:List UInt8)(n:Int),zf7 n (a++b)=(zf7 n a).bind fun m=>zf7 m b:=by
 intro a
 induction a with
 | nil=>intro b n;simp [zf7]
 | cons c r ih=>
  intro b n
  simp only [List.cons_append,zf7]
  split
  .exact ih b _
  .rfl
theorem zn6 (s:ByteArray)(k:Nat)(h:k<s.size):s.data.toList.take (k+1)=s.data.toList.take k++[s[k]]:=by
 rw [List.take_succ_eq_append_getElem (by simpa using h)];rfl
theorem zcJ (s:ByteArray)(k:Nat)(h:k<s.size):s.data.toList.drop k=s[k]::s.data.toList.drop (k+1):=by
 rw [List.drop_eq_getElem_cons (by simpa using h)];rfl
theorem zna (s:ByteArray)(k:Nat)(h:k<s.size)(m:Int)(hm:zf7 0 (s.data.toList.take k)=some m)(hc:((s[k]).toNat:Int)<48\/57<((s[k]).toNat:Int)):
  zf7 0 s.data.toList=none:=by
 rw [<- List.take_append_drop k s.data.toList,zg8,hm,zcJ s k h]
 simp only [Option.bind_some,zf7]
 rw [if_neg (by omega)]
theorem zlb (s:ByteArray)(k:Nat)(h:k<s.size)(m:Int)(hm:zf7 0 (s.data.toList.take k)=some m)(h1:(48:Int)<=((s[k]).toNat:Int))(h2:((s[k]).toNat:Int)<=57):
  zf7 0 (s.data.toList.take (k+1))=some (10*m+(((s[k]).toNat:Int) - 48)):=by
 rw [zn6 s k h,zg8,hm]
 simp only [Option.bind_some,zf7]
 rw [if_pos (by omega)]
theorem zeK (s:ByteArray)(k:Nat)(hk:k<=4)(m:Int)(hm:zf7 0 (s.data.toList.take k)=some m):0<=m/\m<=9999:=by
 have:=zhV _ 0 m (by omega) hm
 have hl:(s.data.toList.take k).length<=4:=by simp;omega
 generalize (s.data.toList.take k).length=n at *
 have h4:n=0\/n=1\/n=2\/n=3\/n=4:=by omega
 rcases h4 with h4|h4|h4|h4|h4 <;> rw [h4] at this <;> simp at this ⊢ <;> omega
def zlj (c:UInt8):Bool:=c.toNat==123 || c.toNat==125
def zlk (c:UInt8):Bool:=c.toNat==32 || c.toNat==10
def zcH (f:Option Nat)(i:Nat):List (Nat×Nat):=
 match f with
 | some b=>[(b,i)]
 | none=>[]
def zbE:Nat->Option Nat->List UInt8->List (Nat×Nat)
 | i,f,[]=>zcH f i
 | i,f,c::r=>
  if zlj c then zcH f i++(i,i+1)::zbE (i+1) none r
  else if zlk c then zcH f i++zbE (i+1) none r
  else zbE (i+1) (some (f.getD i)) r
def za2 (t:List UInt8):List (Nat×Nat):=zbE 0 none t
def zpG (f:Option Nat):Int:=
 match f with
 | some b=>(b:Int)
 | none=>-1
theorem zfa:zpG none=-1:=rfl
theorem zfb (b:Nat):zpG (some b)=(b:Int):=rfl
theorem zjJ:∀ (t:List UInt8)(i:Nat)(f:Option Nat),(zbE i f t).length<=t.length+(if f.isSome then 1 else 0):=by
 intro t
 induction t with
 | nil=>intro i f;cases f <;> simp [zbE,zcH]
 | cons c r ih=>
  intro i f
  simp only [zbE]
  split
  .have:=ih (i+1) none
   cases f <;> simp [zcH] at * <;> omega
  .split
   .have:=ih (i+1) none
    cases f <;> simp [zcH] at * <;> omega
   .have:=ih (i+1) (some (f.getD i))
    cases f <;> simp at * <;> omega
theorem zbr (t:List UInt8):(za2 t).length<=t.length:=by
 have:=zjJ t 0 none
 simpa [za2] using this
theorem zjI:∀ (t:List UInt8)(i:Nat)(f:Option Nat),(∀ b,f=some b->b<i) ->
  ∀ p∈zbE i f t,p.1<p.2/\p.2<=i+t.length:=by
 intro t
 induction t with
 | nil=>
  intro i f hf p hp
  cases f with
  | none=>simp [zbE,zcH] at hp
  | some b=>simp [zbE,zcH] at hp;subst hp;exact ⟨hf b rfl,by simp⟩
 | cons c r ih=>
  intro i f hf p hp
  simp only [zbE] at hp
  split at hp
  .simp only [List.mem_append,List.mem_cons] at hp
   rcases hp with hp|hp|hp
   .cases f with
    | none=>simp [zcH] at hp
    | some b=>simp [zcH] at hp;subst hp;exact ⟨hf b rfl,by simp⟩
   .subst hp;exact ⟨by simp,by simp⟩
   .have:=ih (i+1) none (by simp) p hp
    simp;omega
  .split at hp
   .simp only [List.mem_append] at hp
    rcases hp with hp|hp
    .cases f with
     | none=>simp [zcH] at hp
     | some b=>simp [zcH] at hp;subst hp;exact ⟨hf b rfl,by simp⟩
    .have:=ih (i+1) none (by simp) p hp
     simp;omega
   .have:=ih (i+1) (some (f.getD i)) (by intro b hb;simp at hb;subst hb;cases f with|none=>simp|some b=>have:=hf b rfl;simp;omega) p hp
    simp;omega
theorem zf5 (t:List UInt8):∀ p∈za2 t,p.1<p.2/\p.2<=t.length:=by
 intro p hp
 have:=zjI t 0 none (by simp) p hp
 simpa using this
theorem zkT (t:ByteArray)(k:Nat)(h:k<t.size)(f:Option Nat)(hc:((t[k]).toNat:Int)=123\/((t[k]).toNat:Int)=125):
  zbE k f (t.data.toList.drop k)=zcH f k++(k,k+1)::zbE (k+1) none (t.data.toList.drop (k+1)):=by
 rw [zcJ t k h,zbE,if_pos]
 simp only [zlj,Bool.or_eq_true,beq_iff_eq];omega
theorem znT (t:ByteArray)(k:Nat)(h:k<t.size)(f:Option Nat)(hc:((t[k]).toNat:Int)=32\/((t[k]).toNat:Int)=10):
  zbE k f (t.data.toList.drop k)=zcH f k++zbE (k+1) none (t.data.toList.drop (k+1)):=by
 rw [zcJ t k h,zbE,if_neg,if_pos]
 .simp only [zlk,Bool.or_eq_true,beq_iff_eq];omega
 .simp only [zlj,Bool.or_eq_true,beq_iff_eq];omega
theorem zkU (t:ByteArray)(k:Nat)(h:k<t.size)(f:Option Nat)(h1:¬ ((t[k]).toNat:Int)=123)(h2:¬ ((t[k]).toNat:Int)=125)(h3:¬ ((t[k]).toNat:Int)=32)(h4:¬ ((t[k]).toNat:Int)=10):
  zbE k f (t.data.toList.drop k)=zbE (k+1) (some (f.getD k)) (t.data.toList.drop (k+1)):=by
 rw [zcJ t k h,zbE,if_neg,if_neg]
 .simp only [zlk,Bool.or_eq_true,beq_iff_eq];omega
 .simp only [zlj,Bool.or_eq_true,beq_iff_eq];omega
theorem znS (t:ByteArray)(k:Nat)(h:t.size<=k)(f:Option Nat):zbE k f (t.data.toList.drop k)=zcH f k:=by
 rw [List.drop_of_length_le (by simpa using h)];rfl
def zaf (t:ByteArray)(p:Nat×Nat):List UInt8:=(t.extract p.1 p.2).data.toList
def zdp (t:ByteArray):List (Nat×Nat)->Int->Int
 | [],_=>-1
 | p::r,n=>
  if zaf t p=[123] then (if 4<n+1 then (p.1:Int) else zdp t r (n+1))
  else if zaf t p=[125] then zdp t r (n - 1)
  else zdp t r n
def zdT (t:ByteArray)(p:Nat×Nat)(n:Int):Int:=
 if zaf t p=[123] then n+1 else if zaf t p=[125] then n - 1 else n
def zdV (t:ByteArray):List (Nat×Nat)->Int->Option Nat
 | [],_=>none
 | p::r,n=>if zdT t p n=0 then some 0 else (zdV t r (zdT t p n)).map (·+1)
theorem zbT {α:Type}(l:List α)(k:Nat)(h:k<l.length):l.drop k=l[k]::l.drop (k+1):=List.drop_eq_getElem_cons h
theorem zo3 (t:ByteArray):∀ (l:List (Nat×Nat)) (n:Int) (j:Nat),zdV t l n=some j->j<l.length:=by
 intro l
 induction l with
 | nil=>intro n j h;simp [zdV] at h
 | cons p r ih=>
  intro n j h
  simp only [zdV] at h
  split at h
  .simp at h;subst h;simp
  .cases e:zdV t r (zdT t p n) with
   | none=>rw [e] at h;simp at h
   | some i=>rw [e] at h;simp at h;have:=ih _ _ e;simp;omega
def zci:List UInt8:=[115,101,110,100]
def zcB:List UInt8:=[119,97,105,116]
def zcN:List UInt8:=[115,116,111,112]
def zec:List UInt8:=[97,115,107]
def zbd:List UInt8:=[114,101,116,114,121]
def zax:List UInt8:=[114,101,112,101,97,116]
def zdq:List UInt8:=[101,108,115,101]
def zbV:List UInt8:=[123]
def zbG:List UInt8:=[125]
structure FSt where
 want:List Int
 elses:List Bool
 next:Bool
 nums:List (Nat×Nat)
 sorts:List Int
def zcp (s:List UInt8)(mode:Int)(st:FSt):FSt×Bool:=
 if s=zci then ({st with want:=[2,0]},true)
 else if s=zcB then ({st with want:=[3,0]},true)
 else if s=zcN then ({st with want:=[0]},true)
 else if s=zec then ({st with want:=[2,3,6],next:=true},true)
 else if s=zbd then ({st with want:=[4,2,3,6],next:=true},true)
 else if s=zax then ({st with want:=[5,6],next:=false},true)
 else if s=zdq then ({st with want:=[6],next:=false},mode==1)
 else if s=zbG then
  match st.elses with
  | []=>(st,false)
  | e::r=>({st with want:=if e then [1] else [0],elses:=r},true)
 else (st,false)
def zds (s:List UInt8)(p:Nat×Nat)(st:FSt):FSt×Bool:=
 match st.want with
 | []=>(st,false)
 | m::r=>
  if m=0\/m=1 then zcp s m st
  else if m=6 then ({st with elses:=st.next::st.elses,want:=[0]},s==zbV)
  else if m=2 then ({st with want:=r},decide (0<=zcx s))
  else ({st with want:=r,nums:=st.nums++[p],sorts:=st.sorts++[m]},decide (0<=zbx s))
def zlA (t:ByteArray):List (Nat×Nat)->FSt->FSt ⊕ Nat
 | [],st=>.inl st
 | p::r,st=>if (zds (zaf t p) p st).2=true then zlA t r (zds (zaf t p) p st).1 else .inr p.1
def zeb:FSt:={want:=[0],elses:=[],next:=false,nums:=[],sorts:=[]}
def zfT (t:ByteArray):List (Nat×Nat)->List Int->Int×Int
 | p::r,s::q=>if zbx (zaf t p)<1\/zkE s<zbx (zaf t p) then (3,(p.1:Int)) else zfT t r q
 | _,_=>(0,0)
def zqg (t:ByteArray)(st:FSt):Int×Int:=
 if 0<st.elses.length\/1<st.want.headD 0 then (2,(t.size:Int)) else zfT t st.nums st.sorts
def zcF (t:ByteArray):Int×Int:=
 match zlA t (za2 t.data.toList) zeb with
 | .inr a=>(2,(a:Int))
 | .inl st=>zqg t st
def OkW (l:List Int):Prop:=∃ a l',l=l'++[a]/\(a=0\/a=1\/a=6)
structure OkF (st:FSt)(k:Nat):Prop where
 want:OkW st.want
 short:st.want.length<=10
 elses:st.elses.length<=k
 nums:st.nums.length<=k
 same:st.sorts.length=st.nums.length
theorem OkW.ne {l:List Int}(h:OkW l):l≠[]:=by obtain ⟨a,l',rfl,_⟩:=h;simp
theorem OkW.tail {m:Int}{r:List Int}(h:OkW (m::r))(h0:¬ (m=0\/m=1))(h6:¬ m=6):OkW r:=by
 obtain ⟨a,l',e,ha⟩:=h
 cases l' with
 | nil=>simp at e;omega
 | cons b l''=>simp at e;exact ⟨a,l'',e.2,ha⟩
theorem okw (l:List Int)(a:Int)(ha:a=0\/a=1\/a=6):OkW (l++[a]):=⟨a,l,rfl,ha⟩
theorem OkF.init:OkF zeb 0:=⟨okw [] 0 (by omega),by simp [zeb],by simp [zeb],by simp [zeb],by simp [zeb]⟩
theorem OkF.first {s:List UInt8}{m:Int}{st:FSt}{k:Nat}(h:OkF st k):OkF (zcp s m st).1 (k+1):=by
 have he:=h.elses
 have hn:=h.nums
 have hs:=h.same
 unfold zcp
 split
 .exact ⟨okw [2] 0 (by omega),by simp,by simp;omega,by simp;omega,hs⟩
 split
 .exact ⟨okw [3] 0 (by omega),by simp,by simp;omega,by simp;omega,hs⟩
 split
 .exact ⟨okw [] 0 (by omega),by simp,by simp;omega,by simp;omega,hs⟩
 split
 .exact ⟨okw [2,3] 6 (by omega),by simp,by simp;omega,by simp;omega,hs⟩
 split
 .exact ⟨okw [4,2,3] 6 (by omega),by simp,by simp;omega,by simp;omega,hs⟩
 split
 .exact ⟨okw [5] 6 (by omega),by simp,by simp;omega,by simp;omega,hs⟩
 split
 .exact ⟨okw [] 6 (by omega),by simp,by simp;omega,by simp;omega,hs⟩
 split
 .split
  .exact ⟨h.want,h.short,by simp;omega,by simp;omega,hs⟩
  .rename_i e r hr
   rw [hr] at he
   simp at he
   refine ⟨?_,?_,by simp;omega,by simp;omega,hs⟩
   .cases e
    .exact okw [] 0 (by omega)
    .exact okw [] 1 (by omega)
   .cases e <;> simp
 .exact ⟨h.want,h.short,by simp;omega,by simp;omega,hs⟩
theorem OkF.read {s:List UInt8}{p:Nat×Nat}{st:FSt}{k:Nat}(h:OkF st k):OkF (zds s p st).1 (k+1):=by
 have he:=h.elses
 have hn:=h.nums
 have hs:=h.same
 have hw:=h.want
 have hsh:=h.short
 unfold zds
 split
 .rename_i e;rw [e] at hw;exact absurd rfl hw.ne
 .rename_i m r e
  rw [e] at hw hsh
  simp at hsh
  split
  .exact h.first
  .rename_i h01
   split
   .exact ⟨okw [] 0 (by omega),by simp,by simp;omega,by simp;omega,hs⟩
   .rename_i h6
    have ht:=hw.tail h01 h6
    split
    .exact ⟨ht,by simp;omega,by simp;omega,by simp;omega,hs⟩
    .exact ⟨ht,by simp;omega,by simp;omega,by simp;omega,by simp;omega⟩
structure Hd where
 p:Nat×Nat
 key:Int
 n:Int
 m:Int
def Tree:Nat->Type
 | 0=>Unit
 | d+1=>List (Hd×Tree d×Tree d)
def zcn:(d:Nat)->Tree d
 | 0=>()
 | _+1=>[]
def HdOk (t:ByteArray)(wo:List (Nat×Nat))(h:Hd)(f:Nat):Prop:=
 (∃ p q,wo=[p,q]/\f=0/\zaf t p=zci/\h={p:=p,key:=zcx (zaf t q),n:=0,m:=0}) \/
 (∃ p q,wo=[p,q]/\f=0/\zaf t p=zcB/\h={p:=p,key:=0,n:=zbx (zaf t q),m:=0}) \/
 (∃ p,wo=[p]/\f=0/\zaf t p=zcN/\h={p:=p,key:=0,n:=0,m:=0}) \/
 (∃ p q r,wo=[p,q,r]/\f=2/\zaf t p=zec/\h={p:=p,key:=zcx (zaf t q),n:=zbx (zaf t r),m:=0}) \/
 (∃ p q r s,wo=[p,q,r,s]/\f=2/\zaf t p=zbd/\h={p:=p,key:=zcx (zaf t r),n:=zbx (zaf t s),m:=zbx (zaf t q)}) \/
 (∃ p q,wo=[p,q]/\f=1/\zaf t p=zax/\h={p:=p,key:=0,n:=zbx (zaf t q),m:=0})
def zlv (t:ByteArray)(l:List (Nat×Nat)):Prop:=∀ p∈l,¬ zaf t p=zbV/\¬ zaf t p=zbG
def zdE (t:ByteArray)(l:List (Nat×Nat))(s:List UInt8):Prop:=∀ p,l.head?=some p->¬ zaf t p=s
def GL (t:ByteArray){T:Type}(sub:List (Nat×Nat)->T->Prop)(nil:T):List (Nat×Nat)->List (Hd×T×T)->Prop
 | ws,[]=>ws=[]
 | ws,x::r=>∃ wo wb wr f,ws=wo++(wb++wr)/\HdOk t wo x.1 f/\zlv t wo/\GL t sub nil wr r /\
   ((f=0/\wb=[]/\x.2.1=nil/\x.2.2=nil/\zdE t wr zbV) \/
    (∃ o wa c,¬ f=0/\wb=o::(wa++[c])/\zaf t o=zbV/\zaf t c=zbG/\sub wa x.2.1/\x.2.2=nil/\zdE t wr zdq) \/
    (∃ o wa c e o2 wa2 c2,f=2/\wb=o::(wa++c::e::o2::(wa2++[c2]))/\zaf t o=zbV/\zaf t c=zbG/\zaf t e=zdq/\zaf t o2=zbV/\zaf t c2=zbG/\sub wa x.2.1/\sub wa2 x.2.2))
def GT (t:ByteArray):(d:Nat)->List (Nat×Nat)->Tree d->Prop
 | 0,ws,_=>ws=[]
 | d+1,ws,l=>GL t (GT t d) (zcn d) ws l
theorem zff (t:ByteArray)(p:Nat×Nat)(r:List (Nat×Nat))(n:Int)(h:¬ zdT t p n=0):zdV t (p::r) n=(zdV t r (zdT t p n)).map (·+1):=by
 rw [zdV,if_neg h]
theorem zb4 {t:ByteArray}{p:Nat×Nat}(n:Int)(h:zaf t p=zbV):zdT t p n=n+1:=by unfold zdT;exact if_pos h
theorem zb5 {t:ByteArray}{p:Nat×Nat}(n:Int)(h:zaf t p=zbG):zdT t p n=n - 1:=by unfold zdT;exact (if_neg (by rw [h];decide)).trans (if_pos h)
theorem zcb {t:ByteArray}{p:Nat×Nat}(n:Int)(h:¬ zaf t p=zbV/\¬ zaf t p=zbG):zdT t p n=n:=by unfold zdT;exact (if_neg h.1).trans (if_neg h.2)
def Passes (t:ByteArray)(ws:List (Nat×Nat)):Prop:=∀ (u:List (Nat×Nat)) (n:Int),1<=n->zdV t (ws++u) n=(zdV t u n).map (·+ws.length)
theorem Passes.nil (t:ByteArray):Passes t []:=fun u n _=>by simp
theorem Passes.append {t:ByteArray}{a b:List (Nat×Nat)}(ha:Passes t a)(hb:Passes t b):Passes t (a++b):=fun u n hn=>by
 rw [List.append_assoc,ha _ n hn,hb u n hn,Option.map_map]
 congr 1
 funext i
 simp;omega
theorem Passes.plain {t:ByteArray}:∀ {l:List (Nat×Nat)},zlv t l->Passes t l:=by
 intro l
 induction l with
 | nil=>intro _;exact Passes.nil t
 | cons p r ih=>
  intro h u n hn
  have hp:=h p (by simp)
  rw [List.cons_append,zff _ _ _ _ (by rw [zcb n hp];omega),zcb n hp,ih (fun q hq=>h q (by simp [hq])) u n hn,Option.map_map]
  congr 1
theorem Passes.one {t:ByteArray}{p:Nat×Nat}(h:¬ zaf t p=zbV/\¬ zaf t p=zbG):Passes t [p]:=Passes.plain (fun q hq=>by simp at hq;subst hq;exact h)
theorem Passes.brace {t:ByteArray}{o c:Nat×Nat}{wa:List (Nat×Nat)}(ho:zaf t o=zbV)(hc:zaf t c=zbG)(ha:Passes t wa):Passes t (o::(wa++[c])):=fun u n hn=>by
 rw [List.cons_append,zff _ _ _ _ (by rw [zb4 n ho];omega),zb4 n ho,List.append_assoc,ha _ (n+1) (by omega),List.cons_append,List.nil_append,
  zff _ _ _ _ (by rw [zb5 (n+1) hc];omega),zb5 (n+1) hc,show n+1 - 1=n from by omega,Option.map_map,Option.map_map]
 congr 1
 funext i
 simp;omega
theorem zgp {t:ByteArray}{e:Nat×Nat}(h:zaf t e=zdq):¬ zaf t e=zbV/\¬ zaf t e=zbG:=by rw [h];decide
theorem GL.passes {t:ByteArray}{T:Type}{sub:List (Nat×Nat)->T->Prop}{nil:T}(hs:∀ ws x,sub ws x->Passes t ws):∀ (l:List (Hd×T×T)) (ws:List (Nat×Nat)),GL t sub nil ws l->Passes t ws:=by
 intro l
 induction l with
 | nil=>intro ws h;rw [GL] at h;subst h;exact Passes.nil t
 | cons x r ih=>
  intro ws h
  rw [GL] at h
  obtain ⟨wo,wb,wr,f,rfl,_,hp,hr,hb⟩:=h
  refine (Passes.plain hp).append (Passes.append ?_ (ih wr hr))
  rcases hb with ⟨_,rfl,_⟩|⟨o,wa,c,_,rfl,ho,hc,ha,_⟩|⟨o,wa,c,e,o2,wa2,c2,_,rfl,ho,hc,he,ho2,hc2,ha,ha2⟩
  .exact Passes.nil t
  .exact Passes.brace ho hc (hs _ _ ha)
  .have h1:=Passes.brace ho hc (hs _ _ ha)
   have h2:=Passes.brace ho2 hc2 (hs _ _ ha2)
   have:=h1.append ((Passes.one (zgp he)).append h2)
   simpa using this
theorem GT.passes {t:ByteArray}:∀ (d:Nat) (ws:List (Nat×Nat)) (x:Tree d),GT t d ws x->Passes t ws:=by
 intro d
 induction d with
 | zero=>intro ws x h;rw [GT] at h;subst h;exact Passes.nil t
 | succ d ih=>intro ws x h;rw [GT] at h;exact GL.passes ih x ws h
theorem zcO {t:ByteArray}{o c:Nat×Nat}{wa u:List (Nat×Nat)}(ho:zaf t o=zbV)(hc:zaf t c=zbG)(ha:Passes t wa):
  zdV t (o::(wa++c::u)) 0=some (wa.length+1):=by
 rw [zff _ _ _ _ (by rw [zb4 0 ho];omega),zb4 0 ho,ha _ (0+1) (by omega),zdV,zb5 (0+1) hc,if_pos (by omega)]
 simp
def zew (t:ByteArray){T:Type}(sub:T->Int->Int):List (Hd×T×T)->Int->Int
 | [],_=>-1
 | x::r,n=>
  if zaf t x.1.p=zax then
   (if 64<n*x.1.n then (x.1.p.1:Int)
    else if 0<=sub x.2.1 (n*x.1.n) then sub x.2.1 (n*x.1.n)
    else if 0<=sub x.2.2 (n*x.1.n) then sub x.2.2 (n*x.1.n)
    else zew t sub r n)
  else
   (if 0<=sub x.2.1 n then sub x.2.1 n
    else if 0<=sub x.2.2 n then sub x.2.2 n
    else zew t sub r n)
def zce (t:ByteArray):(d:Nat)->Tree d->Int->Int
 | 0,_,_=>-1
 | d+1,l,n=>zew t (zce t d) l n
def zcU:Nat->Int×Int->Int×Int->Int×Int
 | 0,acc,_=>acc
 | k+1,acc,a=>zcU k (zat acc.1 a.1,zcy acc.2 (zat acc.1 a.2)) a
def zcl (n:Int):Nat->Int
 | 0=>n
 | k+1=>2*zcl n k+n
def zeC (t:ByteArray)(h:Hd)(a b:Int×Int):Int×Int:=
 if zaf t h.p=zcB then (h.n,-1)
 else if zaf t h.p=zcN then (-1,0)
 else if zaf t h.p=zci then (0,-1)
 else if zaf t h.p=zax then zcU h.n.toNat (0,-1) a
 else (zcy (zat (zcl h.n (h.m - 1).toNat - 1) a.1) (zat (zcl h.n (h.m - 1).toNat) b.1),
    zcy (zat (zcl h.n (h.m - 1).toNat - 1) a.2) (zat (zcl h.n (h.m - 1).toNat) b.2))
def zdv:Int×Int->List (Int×Int)->Int×Int
 | acc,[]=>acc
 | acc,a::r=>zdv (zat acc.1 a.1,zcy acc.2 (zat acc.1 a.2)) r
def zay (t:ByteArray):(d:Nat)->Tree d->Int×Int
 | 0,_=>(0,-1)
 | d+1,l=>zdv (0,-1) (l.map fun x=>zeC t x.1 (zay t d x.2.1) (zay t d x.2.2))
def zaQ:(d:Nat)->Tree d->Nat
 | 0,_=>0
 | d+1,l=>(l.map fun x=>1+zaQ d x.2.1+zaQ d x.2.2).sum
def Tree.list {d:Nat}(l:Tree (d+1)):List (Hd×Tree d×Tree d):=l
def OkT (t:ByteArray):(d:Nat)->Tree d->Prop
 | 0,_=>True
 | d+1,l=>∀ x:Hd×Tree d×Tree d,x∈l.list->0<=x.1.n/\x.1.n<=999/\0<=x.1.m/\x.1.m<=6/\(zaf t x.1.p=zax->1<=x.1.n/\x.1.n<=9)/\OkT t d x.2.1/\OkT t d x.2.2
def zm4 (d:Nat):Int:=62937*9 ^ d
theorem zd7 (d:Nat):zm4 (d+1)=9*zm4 d:=by unfold zm4;rw [Int.pow_succ];omega
theorem zdD (d:Nat):62937<=zm4 d:=by
 induction d with
 | zero=>decide
 | succ d ih=>rw [zd7];omega
theorem zdH {a b x y:Int}(ha:a<=x)(hb:b<=y)(hx:0<=x)(hy:0<=y):-1<=zat a b/\zat a b<=x+y:=by
 unfold zat;split <;> omega
theorem zkC {a b x:Int}(ha:a<=x)(hb:b<=x):zcy a b<=x:=by unfold zcy;split <;> omega
theorem zkB {a b:Int}(ha:-1<=a):-1<=zcy a b:=by unfold zcy;split <;> omega
def AtMost (a:Int×Int)(c:Int):Prop:=-1<=a.1/\a.1<=c/\-1<=a.2/\a.2<=c
theorem AtMost.step {acc a:Int×Int}{c e:Int}(h1:AtMost acc c)(h2:AtMost a e)(hc:0<=c)(he:0<=e):AtMost (zat acc.1 a.1,zcy acc.2 (zat acc.1 a.2)) (c+e):=by
 obtain ⟨a1,a2,a3,a4⟩:=h1
 obtain ⟨b1,b2,b3,b4⟩:=h2
 have h3:=zdH a2 b2 hc he
 have h4:=zdH a2 b4 hc he
 exact ⟨h3.1,h3.2,zkB a3,zkC (by omega) h4.2⟩
theorem ziF {a:Int×Int}{e:Int}(h2:AtMost a e)(he:0<=e):∀ (k:Nat) (acc:Int×Int) (c:Int),AtMost acc c->0<=c->AtMost (zcU k acc a) (c+k*e):=by
 intro k
 induction k with
 | zero=>intro acc c h hc;simpa [zcU] using h
 | succ k ih=>
  intro acc c h hc
  have:=ih _ _ (h.step h2 hc he) (by omega)
  rw [zcU]
  have e1:c+((k+1:Nat):Int)*e=c+e+k*e:=by push_cast;rw [Int.add_mul];omega
  rw [e1];exact this
theorem zd1 (n:Int)(h0:0<=n)(hn:n<=999):∀ (k:Nat),k<=5->0<=zcl n k/\zcl n k<=62937:=by
 intro k hk
 have h:k=0\/k=1\/k=2\/k=3\/k=4\/k=5:=by omega
 rcases h with rfl|rfl|rfl|rfl|rfl|rfl <;> simp only [zcl] <;> omega
theorem zdO (t:ByteArray)(h:Hd)(a b:Int×Int)(sa sb:Nat)(C:Int)(hC:62937<=C)(ha:AtMost a (sa*C))(hb:AtMost b (sb*C))(h1:0<=h.n)(h2:h.n<=999)(h4:h.m<=6)
  (h5:zaf t h.p=zax->1<=h.n/\h.n<=9):AtMost (zeC t h a b) ((1+sa+sb:Nat)*(9*C)):=by
 have pa:(0:Int)<=sa*C:=Int.mul_nonneg (by omega) (by omega)
 have pb:(0:Int)<=sb*C:=Int.mul_nonneg (by omega) (by omega)
 have e0:((1+sa+sb:Nat):Int)*(9*C)=9*C+9*(sa*C)+9*(sb*C):=by
  push_cast
  rw [Int.add_mul,Int.add_mul,Int.one_mul,Int.mul_left_comm,Int.mul_left_comm (sb:Int)]
 rw [e0]
 unfold zeC
 split
 .exact ⟨by simp;omega,by simp;omega,by simp,by simp;omega⟩
 split
 .exact ⟨by simp,by simp;omega,by simp,by simp;omega⟩
 split
 .exact ⟨by simp,by simp;omega,by simp,by simp;omega⟩
 split
 .rename_i hr
  have:=h5 hr
  have hk:=ziF ha pa h.n.toNat (0,-1) 0 ⟨by simp,by simp,by simp,by simp⟩ (by omega)
  have e1:((h.n.toNat:Nat):Int)=h.n:=by omega
  rw [e1] at hk
  have hm:h.n*(sa*C)<=9*(sa*C):=Int.mul_le_mul_of_nonneg_right (by omega) pa
  obtain ⟨k1,k2,k3,k4⟩:=hk
  exact ⟨k1,by omega,k3,by omega⟩
 .obtain ⟨a1,a2,a3,a4⟩:=ha
  obtain ⟨b1,b2,b3,b4⟩:=hb
  have ht:=zd1 h.n h1 h2 (h.m - 1).toNat (by omega)
  generalize zcl h.n (h.m - 1).toNat=T at *
  have q1:=zdH (show T - 1<=62937 by omega) a2 (by omega) pa
  have q2:=zdH (show T<=62937 by omega) b2 (by omega) pb
  have q3:=zdH (show T - 1<=62937 by omega) a4 (by omega) pa
  have q4:=zdH (show T<=62937 by omega) b4 (by omega) pb
  exact ⟨zkB q1.1,zkC (by omega) (by omega),zkB q3.1,zkC (by omega) (by omega)⟩
theorem zeM (D:Int)(hD:0<=D){α:Type}(f:α->Int×Int)(s:α->Nat):∀ (l:List α) (acc:Int×Int) (c:Int),(∀ x∈l,AtMost (f x) (s x*D))->AtMost acc c->0<=c->AtMost (zdv acc (l.map f)) (c+(l.map s).sum*D):=by
 intro l
 induction l with
 | nil=>intro acc c _ h _;simpa [zdv] using h
 | cons x r ih=>
  intro acc c hx h hc
  have hp:(0:Int)<=s x*D:=Int.mul_nonneg (by omega) hD
  have:=ih _ _ (fun y hy=>hx y (by simp [hy])) (h.step (hx x (by simp)) hc hp) (by omega)
  rw [List.map_cons,zdv]
  have e1:c+(((x::r).map s).sum:Nat)*D=c+s x*D+((r.map s).sum:Nat)*D:=by
   simp only [List.map_cons,List.sum_cons];push_cast;rw [Int.add_mul];omega
  rw [e1];exact this
theorem zbC (t:ByteArray):∀ (d:Nat) (tr:Tree d),OkT t d tr->AtMost (zay t d tr) (zaQ d tr*zm4 d):=by
 intro d
 induction d with
 | zero=>intro tr _;exact ⟨by simp [zay],by simp [zay,zaQ],by simp [zay],by simp [zay,zaQ]⟩
 | succ d ih=>
  intro tr hok
  have hp:=zdD d
  have:=zeM (zm4 (d+1)) (by have:=zdD (d+1);omega) (fun x:Hd×Tree d×Tree d=>zeC t x.1 (zay t d x.2.1) (zay t d x.2.2)) (fun x=>1+zaQ d x.2.1+zaQ d x.2.2) tr.list (0,-1) 0
   (fun x hx=>by
    have h:=hok x hx
    rw [zd7]
    exact zdO t x.1 _ _ _ _ _ hp (ih _ h.2.2.2.2.2.1) (ih _ h.2.2.2.2.2.2) h.1 h.2.1 h.2.2.2.1 h.2.2.2.2.1) ⟨by simp,by simp,by simp,by simp⟩ (by omega)
  rw [Int.zero_add] at this
  exact this
theorem zh1:∀ (l:List (Int×Int))(acc a:Int×Int),zdv acc (l++[a])=(zat (zdv acc l).1 a.1,zcy (zdv acc l).2 (zat (zdv acc l).1 a.2)):=by
 intro l
 induction l with
 | nil=>intro acc a;rfl
 | cons x r ih=>intro acc a;rw [List.cons_append,zdv,ih,zdv]
theorem zhB {α:Type}(f:α->Nat):∀ (l:List α) (k:Nat),((l.take k).map f).sum<=(l.map f).sum:=by
 intro l
 induction l with
 | nil=>intro k;simp
 | cons x r ih=>
  intro k
  cases k with
  | zero=>simp
  | succ k=>
   have:=ih k
   simp only [List.take_succ_cons,List.map_cons,List.sum_cons]
   omega
theorem zcR {a:Int×Int}{n d:Nat}(h:AtMost a (n*zm4 d))(hn:n<=400)(hd:d<=5):AtMost a 10000000000000:=by
 have hc:zm4 d<=3716366913:=by
  have:d=0\/d=1\/d=2\/d=3\/d=4\/d=5:=by omega
  rcases this with rfl|rfl|rfl|rfl|rfl|rfl <;> decide
 have h0:=zdD d
 have:(n:Int)*zm4 d<=400*3716366913:=Int.mul_le_mul (by omega) hc (by omega) (by omega)
 obtain ⟨a1,a2,a3,a4⟩:=h
 exact ⟨a1,by omega,a3,by omega⟩
def za6:List UInt8->Nat->Nat
 | [],i=>i
 | c::r,i=>if zlk c then za6 r (i+1) else i
def zcD:List UInt8->Nat->Nat
 | [],i=>i
 | c::r,i=>if zlk c || zlj c then i else zcD r (i+1)
def zgD (l:List UInt8)(i:Nat):Nat:=
 match l with
 | []=>i
 | c::_=>if zlj c then i+1 else zcD l i
def zbu (s:List UInt8):Int:=
 if s=zci then 1 else if s=zcB then 2 else if s=zcN then 3 else if s=zec then 4 else if s=zbd then 5 else if s=zax then 6 else 0
def zbh (t:ByteArray)(i:Nat):List (Nat×Nat):=zbE i none (t.data.toList.drop i)
theorem zf0:∀ (l:List UInt8)(i:Nat),i<=za6 l i/\za6 l i<=i+l.length:=by
 intro l
 induction l with
 | nil=>intro i;simp [za6]
 | cons c r ih=>
  intro i
  have:=ih (i+1)
  simp only [za6,List.length_cons]
  split <;> omega
theorem ziO:∀ (l:List UInt8)(i:Nat),i<=zcD l i/\zcD l i<=i+l.length:=by
 intro l
 induction l with
 | nil=>intro i;simp [zcD]
 | cons c r ih=>
  intro i
  have:=ih (i+1)
  simp only [zcD,List.length_cons]
  split <;> omega
theorem zmu:∀ (l:List UInt8)(i:Nat),zbE i none l=zbE (za6 l i) none (l.drop (za6 l i - i)):=by
 intro l
 induction l with
 | nil=>intro i;simp [za6]
 | cons c r ih=>
  intro i
  by_cases hg:zlk c=true
  .have hb:zlj c=false:=by
    simp only [zlk,zlj,Bool.or_eq_true,beq_iff_eq,Bool.or_eq_false_iff,beq_eq_false_iff_ne] at *;omega
   have h1:za6 (c::r) i=za6 r (i+1):=by rw [za6,if_pos hg]
   have h2:=(zf0 r (i+1)).1
   rw [h1,show za6 r (i+1) - i=(za6 r (i+1) - (i+1))+1 from by omega,List.drop_succ_cons,<- ih (i+1)]
   rw [zbE,if_neg (by rw [hb];decide),if_pos hg]
   rfl
  .have h1:za6 (c::r) i=i:=by rw [za6,if_neg hg]
   rw [h1];simp
theorem znV:∀ (l:List UInt8)(i b:Nat),zbE i (some b) l=(b,zcD l i)::zbE (zcD l i) none (l.drop (zcD l i - i)):=by
 intro l
 induction l with
 | nil=>intro i b;simp [zbE,zcD,zcH]
 | cons c r ih=>
  intro i b
  by_cases hb:zlj c=true
  .have h1:zcD (c::r) i=i:=by rw [zcD,if_pos (by rw [hb];simp)]
   rw [h1,Nat.sub_self,List.drop_zero,zbE,if_pos hb,zbE,if_pos hb]
   rfl
  .by_cases hg:zlk c=true
   .have h1:zcD (c::r) i=i:=by rw [zcD,if_pos (by rw [hg];simp)]
    rw [h1,Nat.sub_self,List.drop_zero,zbE,if_neg hb,if_pos hg,zbE,if_neg hb,if_pos hg]
    rfl
   .have h1:zcD (c::r) i=zcD r (i+1):=by rw [zcD,if_neg (by simp [hb,hg])]
    have h2:=(ziO r (i+1)).1
    rw [h1,show zcD r (i+1) - i=(zcD r (i+1) - (i+1))+1 from by omega,List.drop_succ_cons,<- ih (i+1) b]
    rw [zbE,if_neg hb,if_neg hg]
    rfl
theorem znW (l:List UInt8)(i:Nat)(h:za6 l i=i)(hl:l≠[]):i<zgD l i/\zbE i none l=(i,zgD l i)::zbE (zgD l i) none (l.drop (zgD l i - i)):=by
 cases l with
 | nil=>exact absurd rfl hl
 | cons c r=>
  have hg:¬ zlk c=true:=fun hg=>by
   rw [za6,if_pos hg] at h
   have:=(zf0 r (i+1)).1
   omega
  by_cases hb:zlj c=true
  .have h1:zgD (c::r) i=i+1:=by simp only [zgD];rw [if_pos hb]
   rw [h1]
   refine ⟨by omega,?_⟩
   rw [show i+1 - i=1 from by omega,List.drop_succ_cons,List.drop_zero,zbE,if_pos hb]
   rfl
  .have h1:zgD (c::r) i=zcD r (i+1):=by simp only [zgD];rw [if_neg hb,zcD,if_neg (by simp [hb,hg])]
   have h2:=(ziO r (i+1)).1
   rw [h1]
   refine ⟨by omega,?_⟩
   rw [show zcD r (i+1) - i=(zcD r (i+1) - (i+1))+1 from by omega,List.drop_succ_cons,<- znV r (i+1) i,zbE,if_neg hb,if_neg hg]
   rfl
theorem zfo (t:ByteArray)(i:Nat)(hi:i<=t.size):
  (zbh t i=[]/\za6 (t.data.toList.drop i) i=t.size) \/
  (∃ a b,za6 (t.data.toList.drop i) i=a/\zgD (t.data.toList.drop a) a=b/\a<b/\b<=t.size/\i<=a/\zbh t i=(a,b)::zbh t b):=by
 have hb:=zf0 (t.data.toList.drop i) i
 have hlen:(t.data.toList.drop i).length=t.size - i:=by simp
 rw [hlen] at hb
 have h1:=zmu (t.data.toList.drop i) i
 rw [List.drop_drop,show i+(za6 (t.data.toList.drop i) i - i)=za6 (t.data.toList.drop i) i from by omega] at h1
 obtain ⟨a,ha⟩:∃ a,a=za6 (t.data.toList.drop i) i:=⟨_,rfl⟩
 rw [<- ha] at h1 hb
 by_cases hend:a=t.size
 .left
  refine ⟨?_,by rw [<- ha,hend]⟩
  unfold zbh
  rw [h1,List.drop_of_length_le (by simp;omega)];rfl
 .right
  have hs:za6 (t.data.toList.drop a) a=a:=by
   have:∀ (l:List UInt8) (j:Nat),za6 (l.drop (za6 l j - j)) (za6 l j)=za6 l j:=by
    intro l
    induction l with
    | nil=>intro j;simp [za6]
    | cons c r ih=>
     intro j
     by_cases hg:zlk c=true
     .have e:za6 (c::r) j=za6 r (j+1):=by rw [za6,if_pos hg]
      have h2:=(zf0 r (j+1)).1
      rw [e,show za6 r (j+1) - j=(za6 r (j+1) - (j+1))+1 from by omega,List.drop_succ_cons]
      exact ih (j+1)
     .have e:za6 (c::r) j=j:=by rw [za6,if_neg hg]
      rw [e,Nat.sub_self,List.drop_zero,e]
   have h3:=this (t.data.toList.drop i) i
   rw [List.drop_drop,<- ha,show i+(a - i)=a from by omega] at h3
   exact h3
  have hw:=znW (t.data.toList.drop a) a hs (by intro h;have:=congrArg List.length h;simp at this;omega)
  have hle:zgD (t.data.toList.drop a) a<=t.size:=by
   have hl2:(t.data.toList.drop a).length=t.size - a:=by simp
   cases hc:t.data.toList.drop a with
   | nil=>simp only [zgD];omega
   | cons c r=>
    rw [hc] at hl2
    simp only [zgD]
    split
    .simp at hl2;omega
    .have:=(ziO (c::r) a).2;omega
  refine ⟨a,_,ha.symm,rfl,hw.1,hle,by omega,?_⟩
  unfold zbh
  rw [h1,hw.2,List.drop_drop,show a+(zgD (t.data.toList.drop a) a - a)=zgD (t.data.toList.drop a) a from by omega]
theorem zkY (t:ByteArray)(k:Nat)(h:k<t.size)(hg:((t[k]).toNat:Int)=32\/((t[k]).toNat:Int)=10):za6 (t.data.toList.drop k) k=za6 (t.data.toList.drop (k+1)) (k+1):=by
 rw [zcJ t k h,za6,if_pos];simp only [zlk,Bool.or_eq_true,beq_iff_eq];omega
theorem zkX (t:ByteArray)(k:Nat)(h:k<t.size)(h1:¬ ((t[k]).toNat:Int)=32)(h2:¬ ((t[k]).toNat:Int)=10):za6 (t.data.toList.drop k) k=k:=by
 rw [zcJ t k h,za6,if_neg];simp only [zlk,Bool.or_eq_true,beq_iff_eq];omega
theorem zii (t:ByteArray)(k:Nat)(h:t.size<=k):za6 (t.data.toList.drop k) k=k:=by
 rw [List.drop_of_length_le (by simpa using h)];rfl
theorem zmA (t:ByteArray)(k:Nat)(h:k<t.size)(h1:¬ ((t[k]).toNat:Int)=32)(h2:¬ ((t[k]).toNat:Int)=10)(h3:¬ ((t[k]).toNat:Int)=123)(h4:¬ ((t[k]).toNat:Int)=125):zcD (t.data.toList.drop k) k=zcD (t.data.toList.drop (k+1)) (k+1):=by
 rw [zcJ t k h,zcD,if_neg];simp only [zlk,zlj,Bool.or_eq_true,beq_iff_eq];omega
theorem zij (t:ByteArray)(k:Nat)(h:k<t.size)(h1:((t[k]).toNat:Int)=32\/((t[k]).toNat:Int)=10\/((t[k]).toNat:Int)=123\/((t[k]).toNat:Int)=125):zcD (t.data.toList.drop k) k=k:=by
 rw [zcJ t k h,zcD,if_pos];simp only [zlk,zlj,Bool.or_eq_true,beq_iff_eq];omega
theorem zhA (t:ByteArray)(k:Nat)(h:t.size<=k):zcD (t.data.toList.drop k) k=k:=by
 rw [List.drop_of_length_le (by simpa using h)];rfl
theorem zlY (t:ByteArray)(k:Nat)(h:k<t.size)(h1:((t[k]).toNat:Int)=123\/((t[k]).toNat:Int)=125):zgD (t.data.toList.drop k) k=k+1:=by
 rw [zcJ t k h];simp only [zgD];rw [if_pos];simp only [zlj,Bool.or_eq_true,beq_iff_eq];omega
theorem zlZ (t:ByteArray)(k:Nat)(h:k<t.size)(h1:¬ ((t[k]).toNat:Int)=123)(h2:¬ ((t[k]).toNat:Int)=125):zgD (t.data.toList.drop k) k=zcD (t.data.toList.drop k) k:=by
 rw [zcJ t k h];simp only [zgD];rw [if_neg];simp only [zlj,Bool.or_eq_true,beq_iff_eq];omega
theorem zlg (t:ByteArray)(k:Nat)(h:t.size<=k):zgD (t.data.toList.drop k) k=zcD (t.data.toList.drop k) k:=by
 rw [List.drop_of_length_le (by simpa using h)];rfl
structure Nd where
 kind:Int
 key:Int
 times:Int
 ticks:Int
 body:Nat
 els:Nat
def GoodHd (t:ByteArray)(h:Hd):Prop:=
 (zaf t h.p=zci/\h.n=0/\h.m=0) \/
 (zaf t h.p=zcB/\1<=h.n/\h.n<=999/\h.m=0/\h.key=0) \/
 (zaf t h.p=zcN/\h.n=0/\h.m=0/\h.key=0) \/
 (zaf t h.p=zec/\1<=h.n/\h.n<=999/\h.m=0) \/
 (zaf t h.p=zbd/\1<=h.n/\h.n<=999/\1<=h.m/\h.m<=6) \/
 (zaf t h.p=zax/\1<=h.n/\h.n<=9/\h.m=0/\h.key=0)
def zen (t:ByteArray)(h:Hd)(b e:Nat):Nd:=
 {kind:=zbu (zaf t h.p),key:=h.key,
  times:=if zaf t h.p=zbd then h.m else if zaf t h.p=zax then h.n else 0,
  ticks:=if zaf t h.p=zcB\/zaf t h.p=zec\/zaf t h.p=zbd then h.n else 0,
  body:=b,els:=e}
def zbi (t:ByteArray):(d:Nat)->Tree d->List Nd
 | 0,_=>[]
 | d+1,l=>l.flatMap fun x:Hd×Tree d×Tree d=>zen t x.1 (zbi t d x.2.1).length (zbi t d x.2.2).length::(zbi t d x.2.1++zbi t d x.2.2)
def GoodT (t:ByteArray):(d:Nat)->Tree d->Prop
 | 0,_=>True
 | d+1,l=>∀ x:Hd×Tree d×Tree d,x∈l.list->GoodHd t x.1/\GoodT t d x.2.1/\GoodT t d x.2.2
theorem GoodT.ok {t:ByteArray}:∀ (d:Nat) (tr:Tree d),GoodT t d tr->OkT t d tr:=by
 intro d
 induction d with
 | zero=>intro tr _;trivial
 | succ d ih=>
  intro tr h x hx
  obtain ⟨h1,h2,h3⟩:=h x hx
  have key:0<=x.1.n/\x.1.n<=999/\0<=x.1.m/\x.1.m<=6/\(zaf t x.1.p=zax->1<=x.1.n/\x.1.n<=9):=by
   rcases h1 with ⟨hk,h⟩|⟨hk,h⟩|⟨hk,h⟩|⟨hk,h⟩|⟨hk,h⟩|⟨hk,h⟩
   all_goals
    refine ⟨by omega,by omega,by omega,by omega,fun hr=>?_⟩
    first|omega|(rw [hk] at hr;exact absurd hr (by decide))
  exact ⟨key.1,key.2.1,key.2.2.1,key.2.2.2.1,key.2.2.2.2,ih _ h2,ih _ h3⟩
theorem zhZ (t:ByteArray):∀ (d:Nat) (tr:Tree d),(zbi t d tr).length=zaQ d tr:=by
 intro d
 induction d with
 | zero=>intro tr;rfl
 | succ d ih=>
  intro tr
  have:∀ l:List (Hd×Tree d×Tree d),(l.flatMap fun x:Hd×Tree d×Tree d=>zen t x.1 (zbi t d x.2.1).length (zbi t d x.2.2).length::(zbi t d x.2.1++zbi t d x.2.2)).length =
    (l.map fun x=>1+zaQ d x.2.1+zaQ d x.2.2).sum:=by
   intro l
   induction l with
   | nil=>rfl
   | cons x r ihr=>
    rw [List.flatMap_cons,List.length_append,ihr,List.map_cons,List.sum_cons,List.length_cons,List.length_append,ih,ih]
    omega
  exact this tr
theorem zhk {t:ByteArray}{h:Hd}(b e:Nat)(hk:zaf t h.p=zci):zen t h b e={kind:=1,key:=h.key,times:=0,ticks:=0,body:=b,els:=e}:=by unfold zen;rw [hk];rfl
theorem zhm {t:ByteArray}{h:Hd}(b e:Nat)(hk:zaf t h.p=zcB):zen t h b e={kind:=2,key:=h.key,times:=0,ticks:=h.n,body:=b,els:=e}:=by unfold zen;rw [hk];rfl
theorem zhl {t:ByteArray}{h:Hd}(b e:Nat)(hk:zaf t h.p=zcN):zen t h b e={kind:=3,key:=h.key,times:=0,ticks:=0,body:=b,els:=e}:=by unfold zen;rw [hk];rfl
theorem zfP {t:ByteArray}{h:Hd}(b e:Nat)(hk:zaf t h.p=zec):zen t h b e={kind:=4,key:=h.key,times:=0,ticks:=h.n,body:=b,els:=e}:=by unfold zen;rw [hk];rfl
theorem zee {t:ByteArray}{h:Hd}(b e:Nat)(hk:zaf t h.p=zbd):zen t h b e={kind:=5,key:=h.key,times:=h.m,ticks:=h.n,body:=b,els:=e}:=by unfold zen;rw [hk];rfl
theorem zdN {t:ByteArray}{h:Hd}(b e:Nat)(hk:zaf t h.p=zax):zen t h b e={kind:=6,key:=h.key,times:=h.n,ticks:=0,body:=b,els:=e}:=by unfold zen;rw [hk];rfl
theorem znA {t:ByteArray}{h:Hd}(x y:Int×Int)(hk:zaf t h.p=zci):zeC t h x y=(0,-1):=by unfold zeC;rw [hk];rfl
theorem znC {t:ByteArray}{h:Hd}(x y:Int×Int)(hk:zaf t h.p=zcB):zeC t h x y=(h.n,-1):=by unfold zeC;rw [hk];rfl
theorem znB {t:ByteArray}{h:Hd}(x y:Int×Int)(hk:zaf t h.p=zcN):zeC t h x y=(-1,0):=by unfold zeC;rw [hk];rfl
theorem zkG {t:ByteArray}{h:Hd}(x y:Int×Int)(hk:zaf t h.p=zax):zeC t h x y=zcU h.n.toNat (0,-1) x:=by unfold zeC;rw [hk];rfl
theorem zoP {t:ByteArray}{h:Hd}(x y:Int×Int)(hk:zaf t h.p=zec)(hm:h.m=0):zeC t h x y=(zcy (zat (h.n - 1) x.1) (zat h.n y.1),zcy (zat (h.n - 1) x.2) (zat h.n y.2)):=by unfold zeC;rw [hk,hm];rfl
theorem zmm {t:ByteArray}{h:Hd}(x y:Int×Int)(hk:zaf t h.p=zbd):zeC t h x y=(zcy (zat (zcl h.n (h.m - 1).toNat - 1) x.1) (zat (zcl h.n (h.m - 1).toNat) y.1),zcy (zat (zcl h.n (h.m - 1).toNat - 1) x.2) (zat (zcl h.n (h.m - 1).toNat) y.2)):=by unfold zeC;rw [hk];rfl
structure RSt where
 us:List (Nat×Nat)
 fl:List Nd
 deep:Int
 heavy:Int
 fault:Int
 place:Int
def atR (t:ByteArray)(us:List (Nat×Nat)):Nat:=
 match us with
 | []=>t.size
 | p::_=>p.1
def zcf (t:ByteArray)(us:List (Nat×Nat)):ByteArray:=
 match us with
 | []=>ByteArray.empty
 | p::_=>t.extract p.1 p.2
def SufR (t:ByteArray)(us:List (Nat×Nat)):Prop:=∀ p r,us=p::r->r=zbh t p.2/\p.1<=p.2/\p.2<=t.size
theorem SufR.of_from (t:ByteArray)(i:Nat)(hi:i<=t.size):SufR t (zbh t i):=by
 intro p r h
 rcases zfo t i hi with ⟨h1,_⟩|⟨a,b,_,_,h3,h4,_,h6⟩
 .rw [h1] at h;cases h
 .rw [h6] at h
  simp at h
  obtain ⟨rfl,rfl⟩:=h
  exact ⟨rfl,Nat.le_of_lt h3,h4⟩
theorem SufR.tail {t:ByteArray}{us:List (Nat×Nat)}(h:SufR t us):SufR t us.tail:=by
 cases us with
 | nil=>exact h
 | cons p r=>
  obtain ⟨h1,_,h3⟩:=h p r rfl
  rw [List.tail_cons,h1]
  exact SufR.of_from t p.2 h3
theorem SufR.next {t:ByteArray}{us:List (Nat×Nat)}(h:SufR t us):
  za6 (t.data.toList.drop (atR t us+(zcf t us).size)) (atR t us+(zcf t us).size)=atR t us.tail/\zgD (t.data.toList.drop (atR t us.tail)) (atR t us.tail)=atR t us.tail+(zcf t us.tail).size /\
   atR t us+(zcf t us).size<=t.size/\atR t us.tail<=t.size/\atR t us.tail+(zcf t us.tail).size<=t.size/\t.extract (atR t us.tail) (atR t us.tail+(zcf t us.tail).size)=zcf t us.tail:=by
 have hend:zgD (t.data.toList.drop t.size) t.size=t.size:=by
  rw [zlg t t.size (Nat.le_refl _),zhA t t.size (Nat.le_refl _)]
 have hext:t.extract t.size (t.size+0)=ByteArray.empty:=by
  apply ByteArray.ext;simp
 have key:∀ i,i<=t.size->za6 (t.data.toList.drop i) i=atR t (zbh t i)/\zgD (t.data.toList.drop (atR t (zbh t i))) (atR t (zbh t i))=atR t (zbh t i)+(zcf t (zbh t i)).size /\
   atR t (zbh t i)<=t.size/\atR t (zbh t i)+(zcf t (zbh t i)).size<=t.size/\t.extract (atR t (zbh t i)) (atR t (zbh t i)+(zcf t (zbh t i)).size)=zcf t (zbh t i):=by
  intro i hi
  rcases zfo t i hi with ⟨h1,h2⟩|⟨a,b,h1,h2,h3,h4,h5,h6⟩
  .rw [h1]
   refine ⟨h2,?_,Nat.le_refl _,Nat.le_refl _,hext⟩
   exact hend
  .rw [h6]
   have hsz:(t.extract a b).size=b - a:=by simp;omega
   refine ⟨h1,?_,by show a<=_;omega,?_,?_⟩
   .show zgD (t.data.toList.drop a) a=a+(t.extract a b).size
    rw [h2,hsz];omega
   .show a+(t.extract a b).size<=_
    rw [hsz];omega
   .show t.extract a (a+(t.extract a b).size)=t.extract a b
    rw [hsz,show a+(b - a)=b from by omega]
 cases us with
 | nil=>
  have e:atR t []+(zcf t []).size=t.size:=rfl
  have hs:za6 (t.data.toList.drop t.size) t.size=t.size:=zii t t.size (Nat.le_refl _)
  refine ⟨?_,hend,Nat.le_refl _,Nat.le_refl _,Nat.le_refl _,hext⟩
  rw [e];exact hs
 | cons p r=>
  obtain ⟨h1,h2,h3⟩:=h p r rfl
  have hsz:(t.extract p.1 p.2).size=p.2 - p.1:=by simp;omega
  have e:atR t (p::r)+(zcf t (p::r)).size=p.2:=by show p.1+(t.extract p.1 p.2).size=_;rw [hsz];omega
  rw [e,List.tail_cons,h1]
  have:=key p.2 h3
  exact ⟨this.1,this.2.1,h3,this.2.2.1,this.2.2.2.1,this.2.2.2.2⟩
def zbc (st:RSt)(f p:Int):RSt:=if st.fault=0\/f<st.fault then {st with fault:=f,place:=p} else st
def za4 (st:RSt):RSt:={st with us:=st.us.tail}
def nV (l:List UInt8):Int:=if 0<=zbx l then zbx l else 0
def nB (l:List UInt8):Bool:=decide (0<=zbx l)
def kV (l:List UInt8):Int:=if 0<=zcx l then zcx l else 0
def kB (l:List UInt8):Bool:=decide (0<=zcx l)
def zaD (t:ByteArray)(st:RSt):List UInt8:=(zcf t st.us).data.toList
def za5 (t:ByteArray)(st:RSt)(most:Int):Int×Bool×RSt:=
 if nB (zaD t st) then
  (nV (zaD t st),true,za4 (if nV (zaD t st)<1\/most<nV (zaD t st) then zbc st 3 (atR t st.us:Nat) else st))
 else (0,false,st)
def za8 (t:ByteArray)(st:RSt)(kind:Int):Int×Bool×RSt:=
 if kind=5 then za5 t st 6 else if kind=6 then za5 t st 9 else (0,true,st)
def zdt (t:ByteArray)(st:RSt)(kind:Int):Int×Bool×RSt:=
 if kind=1\/kind=4\/kind=5 then (kV (zaD t st),kB (zaD t st),if kB (zaD t st) then za4 st else st) else (0,true,st)
def zb1 (t:ByteArray)(st:RSt)(kind:Int):Int×Bool×RSt:=
 if kind=2\/kind=4\/kind=5 then za5 t st 999 else (0,true,st)
theorem zmF {t:ByteArray}(us:List (Nat×Nat)):(zcf t us).size<=t.size:=by
 cases us with
 | nil=>simp [zcf]
 | cons p r=>show (t.extract p.1 p.2).size<=_;simp;omega
def zbF (a b:Int):Int:=if 64<a*b then 65 else a*b
def zaC (t:ByteArray)(blk:RSt->Bool×RSt)(st:RSt):Nat×Bool×RSt:=
 if ¬ zaD t st=zbV then (0,false,st)
 else
  let st1:=if 4<=st.deep then zbc st 4 (atR t st.us:Nat) else st
  let r:=blk (za4 {st1 with deep:=st1.deep+1})
  if r.1 then (r.2.fl.length - st.fl.length,true,za4 {r.2 with deep:=r.2.deep - 1}) else (0,false,r.2)
def zaB (l:List Nd)(i n:Nat):List Nd:=l.modify i fun x=>{x with body:=n}
def zbR (l:List Nd)(i n:Nat):List Nd:=l.modify i fun x=>{x with els:=n}
def zba (t:ByteArray)(blk:RSt->Bool×RSt)(st:RSt)(i:Nat):Bool×RSt:=
 let a:=zaC t blk st
 if a.2.1 then
  let st1:={a.2.2 with fl:=zaB a.2.2.fl i a.1}
  if zaD t st1=zdq then
   let b:=zaC t blk (za4 st1)
   (b.2.1,{b.2.2 with fl:=zbR b.2.2.fl i b.1})
  else (true,st1)
 else (false,a.2.2)
def zbg (t:ByteArray)(blk:RSt->Bool×RSt)(st:RSt)(i:Nat)(times p:Int):Bool×RSt:=
 let st1:={st with heavy:=zbF st.heavy times}
 let st2:=if 64<st1.heavy then zbc st1 5 p else st1
 let a:=zaC t blk st2
 (a.2.1,{a.2.2 with fl:=zaB a.2.2.fl i a.1,heavy:=st.heavy})
def zaL (t:ByteArray)(blk:RSt->Bool×RSt)(st:RSt):Bool×RSt:=
 let kind:=zbu (zaD t st)
 if kind=0 then (false,st)
 else
  let a:=za8 t (za4 st) kind
  if a.2.1 then
   let b:=zdt t a.2.2 kind
   if b.2.1 then
    let c:=zb1 t b.2.2 kind
    if c.2.1 then
     let st5:={c.2.2 with fl:=c.2.2.fl++[{kind:=kind,key:=b.1,times:=a.1,ticks:=c.1,body:=0,els:=0}]}
     if kind=4\/kind=5 then zba t blk st5 c.2.2.fl.length
     else if kind=6 then zbg t blk st5 c.2.2.fl.length a.1 (atR t st.us:Nat)
     else (true,st5)
    else (false,c.2.2)
   else (false,b.2.2)
  else (false,a.2.2)
def zed (t:ByteArray)(stm:RSt->Bool×RSt)(behind:List UInt8):Nat->RSt->Bool×RSt
 | 0,st=>(false,st)
 | f+1,st=>if zaD t st=behind then (true,st) else if (stm st).1 then zed t stm behind f (stm st).2 else (false,(stm st).2)
def zeH (t:ByteArray):Nat->List UInt8->RSt->Bool×RSt
 | 0,_,st=>(false,st)
 | n+1,behind,st=>zed t (zaL t (zeH t n zbG)) behind (st.us.length+1) st
structure Keeps (a b:RSt):Prop where
 deep:b.deep=a.deep
 heavy:b.heavy=a.heavy
 grows:a.fl.length<=b.fl.length
 mass:b.fl.length+b.us.length<=a.fl.length+a.us.length
 less:b.us.length<=a.us.length
def Grows (a b:RSt):Prop:=a.fl.length<=b.fl.length/\b.fl.length+b.us.length<=a.fl.length+a.us.length
theorem Grows.refl (a:RSt):Grows a a:=⟨Nat.le_refl _,Nat.le_refl _⟩
theorem Grows.trans {a b c:RSt}(h:Grows a b)(k:Grows b c):Grows a c:=⟨Nat.le_trans h.1 k.1,Nat.le_trans k.2 h.2⟩
theorem Keeps.grown {a b:RSt}(h:Keeps a b):Grows a b:=⟨h.grows,h.mass⟩
theorem Keeps.trans {a b c:RSt}(h:Keeps a b)(k:Keeps b c):Keeps a c:=
 ⟨k.deep.trans h.deep,k.heavy.trans h.heavy,Nat.le_trans h.grows k.grows,Nat.le_trans k.mass h.mass,Nat.le_trans k.less h.less⟩
theorem zdg (st:RSt)(f p:Int):(zbc st f p).deep=st.deep/\(zbc st f p).heavy=st.heavy/\(zbc st f p).fl=st.fl/\(zbc st f p).us=st.us:=by
 unfold zbc;split <;> exact ⟨rfl,rfl,rfl,rfl⟩
structure Same4 (a b:RSt):Prop where
 fl:b.fl=a.fl
 deep:b.deep=a.deep
 heavy:b.heavy=a.heavy
 less:b.us.length<=a.us.length
theorem Same4.refl (a:RSt):Same4 a a:=⟨rfl,rfl,rfl,Nat.le_refl _⟩
theorem Same4.trans {a b c:RSt}(h:Same4 a b)(k:Same4 b c):Same4 a c:=⟨k.fl.trans h.fl,k.deep.trans h.deep,k.heavy.trans h.heavy,Nat.le_trans k.less h.less⟩
theorem Same4.adv (a:RSt):Same4 a (za4 a):=⟨rfl,rfl,rfl,by show a.us.tail.length<=_;rw [List.length_tail];omega⟩
theorem Same4.note (a:RSt)(f p:Int):Same4 a (zbc a f p):=by
 obtain ⟨h1,h2,h3,h4⟩:=zdg a f p
 exact ⟨h3,h1,h2,by rw [h4];exact Nat.le_refl _⟩
theorem zoK (l:List UInt8):0<=nV l/\nV l<=9999:=by
 have:=zml l
 unfold nV;split <;> omega
theorem zeR (t:ByteArray)(st:RSt)(m:Int):Same4 st (za5 t st m).2.2/\0<=(za5 t st m).1/\(za5 t st m).1<=9999:=by
 have hb:=zoK (zaD t st)
 unfold za5
 split
 .refine ⟨?_,hb.1,hb.2⟩
  show Same4 st (za4 _)
  split
  .exact (Same4.note st 3 _).trans (Same4.adv _)
  .exact Same4.adv _
 .exact ⟨Same4.refl _,by simp,by simp⟩
theorem zhD (t:ByteArray)(st:RSt)(k:Int):Same4 st (za8 t st k).2.2/\0<=(za8 t st k).1/\(za8 t st k).1<=9999:=by
 unfold za8
 split
 .exact zeR t st 6
 .split
  .exact zeR t st 9
  .exact ⟨Same4.refl _,by simp,by simp⟩
theorem zhC (t:ByteArray)(st:RSt)(k:Int):Same4 st (zb1 t st k).2.2:=by
 unfold zb1
 split
 .exact (zeR t st 999).1
 .exact Same4.refl _
theorem zjm (t:ByteArray)(st:RSt)(k:Int):Same4 st (zdt t st k).2.2:=by
 unfold zdt
 split
 .show Same4 st (if _ then _ else _)
  split
  .exact Same4.adv _
  .exact Same4.refl _
 .exact Same4.refl _
theorem zku (s:List UInt8):zbu s=0\/zbu s=1\/zbu s=2\/zbu s=3\/zbu s=4\/zbu s=5\/zbu s=6:=by
 unfold zbu
 repeat (first|split|omega)
def zdz (t:ByteArray)(us:List (Nat×Nat))(st:FSt):Nat ⊕ (List (Nat×Nat)×List Int):=
 match zlA t us st with
 | .inr a=>.inl a
 | .inl s=>if 0<s.elses.length\/1<s.want.headD 0 then .inl t.size else .inr (s.nums,s.sorts)
theorem zbm (t:ByteArray)(p:Nat×Nat)(r:List (Nat×Nat))(st:FSt):
  zdz t (p::r) st=if (zds (zaf t p) p st).2=true then zdz t r (zds (zaf t p) p st).1 else .inl p.1:=by
 unfold zdz
 rw [zlA]
 by_cases h:(zds (zaf t p) p st).2=true
 .rw [if_pos h,if_pos h]
 .rw [if_neg h,if_neg h]
theorem zeo (t:ByteArray)(s:FSt):zdz t [] s=if 0<s.elses.length\/1<s.want.headD 0 then .inl t.size else .inr (s.nums,s.sorts):=rfl
theorem zhc (t:ByteArray):zcF t=match zdz t (za2 t.data.toList) zeb with
  | .inl a=>(2,(a:Int))
  | .inr x=>zfT t x.1 x.2:=by
 unfold zcF zdz
 cases zlA t (za2 t.data.toList) zeb with
 | inr a=>rfl
 | inl s=>
  simp only
  unfold zqg
  split <;> rfl
structure Gh where
 f3:Option Int
 f4:Option Int
 f5:Option Int
def Gh.nil:Gh:=⟨none,none,none⟩
def Gh.add (a b:Gh):Gh:=⟨a.f3.or b.f3,a.f4.or b.f4,a.f5.or b.f5⟩
def ev3 (p:Int):Gh:=⟨some p,none,none⟩
def ev4 (p:Int):Gh:=⟨none,some p,none⟩
def ev5 (p:Int):Gh:=⟨none,none,some p⟩
theorem Gh.add_assoc (a b c:Gh):(a.add b).add c=a.add (b.add c):=by simp [Gh.add,Option.or_assoc]
theorem Gh.add_nil (a:Gh):a.add Gh.nil=a:=by simp [Gh.add,Gh.nil]
theorem Gh.nil_add (a:Gh):Gh.nil.add a=a:=by simp [Gh.add,Gh.nil]
def zov (g:Gh):Int×Int:=
 match g.f3 with
 | some p=>(3,p)
 | none=>match g.f4 with
  | some p=>(4,p)
  | none=>match g.f5 with
   | some p=>(5,p)
   | none=>(0,0)
def Rel (st:RSt)(g:Gh):Prop:=(st.fault,st.place)=zov g
theorem Rel.note3 {st:RSt}{g:Gh}(h:Rel st g)(p:Int):Rel (zbc st 3 p) (g.add (ev3 p)):=by
 obtain ⟨a,b,c⟩:=g
 unfold Rel at *
 cases a <;> cases b <;> cases c <;> simp [zov,Gh.add,ev3] at * <;> simp [zbc,h]
theorem Rel.note4 {st:RSt}{g:Gh}(h:Rel st g)(p:Int):Rel (zbc st 4 p) (g.add (ev4 p)):=by
 obtain ⟨a,b,c⟩:=g
 unfold Rel at *
 cases a <;> cases b <;> cases c <;> simp [zov,Gh.add,ev4] at * <;> simp [zbc,h]
theorem Rel.note5 {st:RSt}{g:Gh}(h:Rel st g)(p:Int):Rel (zbc st 5 p) (g.add (ev5 p)):=by
 obtain ⟨a,b,c⟩:=g
 unfold Rel at *
 cases a <;> cases b <;> cases c <;> simp [zov,Gh.add,ev5] at * <;> simp [zbc,h]
def Ev (a b:RSt)(e:Gh):Prop:=∀ g,Rel a g->Rel b (g.add e)
theorem Ev.same {a b:RSt}(hf:b.fault=a.fault)(hp:b.place=a.place):Ev a b Gh.nil:=fun g h=>by
 rw [Gh.add_nil];unfold Rel at *;rw [hf,hp];exact h
theorem Ev.trans {a b c:RSt}{e f:Gh}(h:Ev a b e)(k:Ev b c f):Ev a c (e.add f):=fun g hg=>by
 rw [<- Gh.add_assoc];exact k _ (h g hg)
def zqe (t:ByteArray)(p:Nat×Nat)(s:Int):Option Int:=if zbx (zaf t p)<1\/zkE s<zbx (zaf t p) then some (p.1:Int) else none
def zgo (t:ByteArray):List (Nat×Nat)->List Int->Option Int
 | p::r,s::q=>(zqe t p s).or (zgo t r q)
 | _,_=>none
theorem zpQ (t:ByteArray):∀ (a:List (Nat×Nat)) (b:List Int),zfT t a b=match zgo t a b with
  | some p=>(3,p)
  | none=>(0,0):=by
 intro a
 induction a with
 | nil=>intro b;rfl
 | cons p r ih=>
  intro b
  cases b with
  | nil=>rfl
  | cons s q=>
   rw [zfT,zgo,zqe]
   split
   .rfl
   .rw [ih q];rfl
theorem zjw (t:ByteArray):∀ (a:List (Nat×Nat)) (b:List Int) (a':List (Nat×Nat)) (b':List Int),a.length=b.length->zgo t (a++a') (b++b')=(zgo t a b).or (zgo t a' b'):=by
 intro a
 induction a with
 | nil=>intro b a' b' h;cases b with|nil=>simp [zgo]|cons s q=>simp at h
 | cons p r ih=>
  intro b a' b' h
  cases b with
  | nil=>simp at h
  | cons s q=>simp at h;rw [List.cons_append,List.cons_append,zgo,zgo,ih q a' b' h,Option.or_assoc]
def zdS (t:ByteArray):List (Nat×Nat)->Int->Option Int
 | [],_=>none
 | p::r,n=>
  if zaf t p=[123] then (if 4<n+1 then some (p.1:Int) else zdS t r (n+1))
  else if zaf t p=[125] then zdS t r (n - 1)
  else zdS t r n
theorem zpx (t:ByteArray):∀ (l:List (Nat×Nat)) (n:Int),zdp t l n=(zdS t l n).getD (-1):=by
 intro l
 induction l with
 | nil=>intro n;rfl
 | cons p r ih=>
  intro n
  rw [zdp,zdS]
  split
  .split
   .rfl
   .exact ih _
  .split <;> exact ih _
theorem zm8 (t:ByteArray):∀ (l:List (Nat×Nat)) (n p:Int),zdS t l n=some p->0<=p:=by
 intro l
 induction l with
 | nil=>intro n p h;simp [zdS] at h
 | cons q r ih=>
  intro n p h
  rw [zdS] at h
  split at h
  .split at h
   .simp at h;omega
   .exact ih _ _ h
  .split at h <;> exact ih _ _ h
def dpt (t:ByteArray):List (Nat×Nat)->Int->Int
 | [],n=>n
 | p::r,n=>dpt t r (zdT t p n)
theorem zhX (t:ByteArray):∀ (a b:List (Nat×Nat)) (n:Int),dpt t (a++b) n=dpt t b (dpt t a n):=by
 intro a
 induction a with
 | nil=>intro b n;rfl
 | cons p r ih=>intro b n;rw [List.cons_append,dpt,dpt,ih]
theorem zgw (t:ByteArray):∀ (a b:List (Nat×Nat)) (n:Int),zdS t (a++b) n=(zdS t a n).or (zdS t b (dpt t a n)):=by
 intro a
 induction a with
 | nil=>intro b n;simp [zdS,dpt]
 | cons p r ih=>
  intro b n
  rw [List.cons_append,zdS,zdS,dpt,zdT]
  split
  .split
   .rfl
   .exact ih _ _
  .split <;> exact ih _ _
structure Piece (t:ByteArray)(st st':RSt)(ws a:List (Nat×Nat))(b:List Int)(e:Gh):Prop where
 us:st.us=ws++st'.us
 len:a.length=b.length
 ev:Ev st st' e
 e3:e.f3=zgo t a b
 e4:e.f4=zdS t ws st.deep
 dp:∀ n,dpt t ws n=n
 deep:st'.deep=st.deep
 heavy:st'.heavy=st.heavy
theorem Piece.trans {t:ByteArray}{x y z:RSt}{w1 w2 a1 a2:List (Nat×Nat)}{b1 b2:List Int}{e1 e2:Gh}(h:Piece t x y w1 a1 b1 e1)(k:Piece t y z w2 a2 b2 e2):
  Piece t x z (w1++w2) (a1++a2) (b1++b2) (e1.add e2) where
 us:=by rw [h.us,k.us,List.append_assoc]
 len:=by rw [List.length_append,List.length_append,h.len,k.len]
 ev:=h.ev.trans k.ev
 e3:=by rw [zjw t _ _ _ _ h.len,<- h.e3,<- k.e3];rfl
 e4:=by rw [zgw,h.dp,<- h.e4,<- h.deep,<- k.e4];rfl
 dp:=fun n=>by rw [zhX,h.dp,k.dp]
 deep:=k.deep.trans h.deep
 heavy:=k.heavy.trans h.heavy
theorem zfr {t:ByteArray}{p:Nat×Nat}(n:Int)(h:¬ zaf t p=zbV/\¬ zaf t p=zbG):zdS t [p] n=none:=by
 rw [zdS];exact (if_neg h.1).trans ((if_neg h.2).trans rfl)
theorem zgO (w:List UInt8)(p:Nat×Nat){s:Int}(hs:s=3\/s=4\/s=5)(r:List Int)(els:List Bool)(nx:Bool)(ns:List (Nat×Nat))(ss:List Int):
  zds w p ⟨s::r,els,nx,ns,ss⟩=(⟨r,els,nx,ns++[p],ss++[s]⟩,decide (0<=zbx w)):=by
 rcases hs with rfl|rfl|rfl <;> rfl
theorem zgN (w:List UInt8)(p:Nat×Nat)(r:List Int)(els:List Bool)(nx:Bool)(ns:List (Nat×Nat))(ss:List Int):
  zds w p ⟨2::r,els,nx,ns,ss⟩=(⟨r,els,nx,ns,ss⟩,decide (0<=zcx w)):=rfl
theorem Piece.refl (t:ByteArray)(x:RSt):Piece t x x [] [] [] Gh.nil:=
 ⟨rfl,rfl,Ev.same rfl rfl,rfl,rfl,fun _=>rfl,rfl,rfl⟩
theorem Piece.fl {t:ByteArray}{x y:RSt}{w a:List (Nat×Nat)}{b:List Int}{e:Gh}(h:Piece t x y w a b e)(l l':List Nd):Piece t {x with fl:=l} {y with fl:=l'} w a b e:=
 ⟨h.us,h.len,h.ev,h.e3,h.e4,h.dp,h.deep,h.heavy⟩
theorem Piece.word {t:ByteArray}{x:RSt}{p:Nat×Nat}{r:List (Nat×Nat)}(h:x.us=p::r)(hp:¬ zaf t p=zbV/\¬ zaf t p=zbG):Piece t x (za4 x) [p] [] [] Gh.nil where
 us:=by show x.us=[p]++x.us.tail;rw [h];rfl
 len:=rfl
 ev:=Ev.same rfl rfl
 e3:=rfl
 e4:=(zfr _ hp).symm
 dp:=fun n=>by rw [dpt,zcb n hp];rfl
 deep:=rfl
 heavy:=rfl
theorem zc7 {s:List UInt8}(h:0<=zbx s):¬ s=zbV/\¬ s=zbG:=by
 constructor <;> (intro e;rw [e] at h;exact absurd h (by decide))
theorem zfK {s:List UInt8}(h:0<=zcx s):¬ s=zbV/\¬ s=zbG:=by
 constructor <;> (intro e;rw [e] at h;exact absurd h (by decide))
theorem zdJ {s:List UInt8}(h:¬ zbu s=0):(¬ s=zbV/\¬ s=zbG)/\¬ s=zdq:=by
 refine ⟨⟨?_,?_⟩,?_⟩ <;> (intro e;rw [e] at h;exact absurd (by decide) h)
theorem zbk {t:ByteArray}{st:RSt}{p:Nat×Nat}{r:List (Nat×Nat)}(h:st.us=p::r):zaD t st=zaf t p:=by
 unfold zaD;rw [h];rfl
theorem zgd {t:ByteArray}{st:RSt}(h:st.us=[]):zaD t st=[]:=by
 unfold zaD;rw [h];rfl
theorem zfw {t:ByteArray}{st:RSt}(h:¬ zaD t st=[]):∃ p r,st.us=p::r:=by
 cases hu:st.us with
 | nil=>exact absurd (zgd hu) h
 | cons p r=>exact ⟨p,r,rfl⟩
theorem zeT {t:ByteArray}{st:RSt}{s most:Int}(hm:zkE s=most)(hs:s=3\/s=4\/s=5)(h:(za5 t st most).2.1=true):
  ∃ p e,Piece t st (za5 t st most).2.2 [p] [p] [s] e/\0<=zbx (zaf t p)/\(za5 t st most).1=zbx (zaf t p)/\(za5 t st most).2.2.fl=st.fl/\e.f5=none/\(e.f3=none->1<=zbx (zaf t p)/\zbx (zaf t p)<=most) /\
   ∀ r els nx ns ss,zdz t st.us ⟨s::r,els,nx,ns,ss⟩=zdz t (za5 t st most).2.2.us ⟨r,els,nx,ns++[p],ss++[s]⟩:=by
 by_cases hb:nB (zaD t st)=true
 .have h0:0<=zbx (zaD t st):=by unfold nB at hb;exact of_decide_eq_true hb
  obtain ⟨p,r,hu⟩:=zfw (t:=t) (st:=st) (by intro e;rw [e] at h0;exact absurd h0 (by decide))
  have hby:=zbk (t:=t) hu
  have hv:nV (zaD t st)=zbx (zaf t p):=by unfold nV;rw [if_pos h0,hby]
  rw [hby] at h0
  have hE:za5 t st most=(zbx (zaf t p),true,za4 (if zbx (zaf t p)<1\/most<zbx (zaf t p) then zbc st 3 (atR t st.us:Nat) else st)):=by
   unfold za5;rw [if_pos hb,hv]
  have hat:(atR t st.us:Nat)=p.1:=by rw [hu];rfl
  rw [hE,hat]
  have hacc:∀ r' els nx ns ss,zdz t st.us ⟨s::r',els,nx,ns,ss⟩=zdz t r ⟨r',els,nx,ns++[p],ss++[s]⟩:=by
   intro r' els nx ns ss
   rw [hu,zbm,zgO _ _ hs,if_pos (decide_eq_true h0)]
  by_cases hbad:zbx (zaf t p)<1\/most<zbx (zaf t p)
  .rw [if_pos hbad]
   obtain ⟨k1,k2,k3,k4⟩:=zdg st 3 (p.1:Nat)
   refine ⟨p,ev3 p.1,⟨?_,rfl,?_,?_,?_,?_,k1,k2⟩,h0,rfl,k3,rfl,?_,?_⟩
   .show st.us=[p]++(zbc st 3 (p.1:Nat)).us.tail;rw [k4,hu];rfl
   .exact fun g hg=>hg.note3 _
   .show some (p.1:Int)=((zqe t p s).or (zgo t [] []));rw [zqe,hm,if_pos hbad];rfl
   .exact (zfr _ (zc7 h0)).symm
   .intro n;rw [dpt,zcb n (zc7 h0)];rfl
   .intro e;cases e
   .intro r' els nx ns ss;rw [hacc];show _=zdz t (zbc st 3 (p.1:Nat)).us.tail _;rw [k4,hu];rfl
  .rw [if_neg hbad]
   refine ⟨p,Gh.nil,⟨?_,rfl,Ev.same rfl rfl,?_,?_,?_,rfl,rfl⟩,h0,rfl,rfl,rfl,fun _=>by omega,?_⟩
   .show st.us=[p]++st.us.tail;rw [hu];rfl
   .show none=((zqe t p s).or (zgo t [] []));rw [zqe,hm,if_neg hbad];rfl
   .exact (zfr _ (zc7 h0)).symm
   .intro n;rw [dpt,zcb n (zc7 h0)];rfl
   .intro r' els nx ns ss;rw [hacc];show _=zdz t st.us.tail _;rw [hu];rfl
 .unfold za5 at h;rw [if_neg hb] at h;exact absurd h (by simp)
theorem zeS {t:ByteArray}{st:RSt}{s most:Int}(hs:s=3\/s=4\/s=5)(h:(za5 t st most).2.1=false):
  ∀ r els nx ns ss,zdz t st.us ⟨s::r,els,nx,ns,ss⟩=.inl (atR t (za5 t st most).2.2.us):=by
 intro r els nx ns ss
 by_cases hb:nB (zaD t st)=true
 .unfold za5 at h;rw [if_pos hb] at h;exact absurd h (by simp)
 .have hE:za5 t st most=(0,false,st):=by unfold za5;rw [if_neg hb]
  rw [hE]
  cases hu:st.us with
  | nil=>rw [zeo,if_pos (Or.inr (by simp;omega))];rfl
  | cons p q=>
   have h0:¬ 0<=zbx (zaf t p):=by rw [<- zbk hu];unfold nB at hb;simpa using hb
   rw [zbm,zgO _ _ hs,if_neg (by simpa using h0)];rfl
theorem znr {t:ByteArray}{st:RSt}{k:Int}(hk:k=1\/k=4\/k=5)(h:(zdt t st k).2.1=true):
  ∃ p,Piece t st (zdt t st k).2.2 [p] [] [] Gh.nil/\0<=zcx (zaf t p)/\(zdt t st k).1=zcx (zaf t p)/\(zdt t st k).2.2.fl=st.fl /\
   ∀ r els nx ns ss,zdz t st.us ⟨2::r,els,nx,ns,ss⟩=zdz t (zdt t st k).2.2.us ⟨r,els,nx,ns,ss⟩:=by
 have hE:zdt t st k=(kV (zaD t st),kB (zaD t st),if kB (zaD t st) then za4 st else st):=by unfold zdt;rw [if_pos hk]
 rw [hE] at h ⊢
 have hb:kB (zaD t st)=true:=h
 have h0:0<=zcx (zaD t st):=by unfold kB at hb;exact of_decide_eq_true hb
 obtain ⟨p,r,hu⟩:=zfw (t:=t) (st:=st) (by intro e;rw [e] at h0;exact absurd h0 (by decide))
 have hby:=zbk (t:=t) hu
 have hv:kV (zaD t st)=zcx (zaf t p):=by unfold kV;rw [if_pos h0,hby]
 rw [hby] at h0
 simp only [hb,if_true]
 refine ⟨p,Piece.word hu (zfK h0),h0,hv,rfl,?_⟩
 intro r' els nx ns ss
 rw [hu,zbm,zgN,if_pos (decide_eq_true h0)];show _=zdz t st.us.tail _;rw [hu];rfl
theorem znq {t:ByteArray}{st:RSt}{k:Int}(hk:k=1\/k=4\/k=5)(h:(zdt t st k).2.1=false):
  ∀ r els nx ns ss,zdz t st.us ⟨2::r,els,nx,ns,ss⟩=.inl (atR t (zdt t st k).2.2.us):=by
 intro r els nx ns ss
 have hE:zdt t st k=(kV (zaD t st),kB (zaD t st),if kB (zaD t st) then za4 st else st):=by unfold zdt;rw [if_pos hk]
 rw [hE] at h ⊢
 have hb:kB (zaD t st)=false:=h
 simp only [hb]
 show _=Sum.inl (atR t st.us)
 cases hu:st.us with
 | nil=>rw [zeo,if_pos (Or.inr (by simp))];rfl
 | cons p q=>
  have h0:¬ 0<=zcx (zaf t p):=by rw [<- zbk hu];unfold kB at hb;simpa using hb
  rw [zbm,zgN,if_neg (by simpa using h0)];rfl
def hv1 (t:ByteArray){T:Type}(sub:T->Int->Option Int)(x:Hd×T×T)(n:Int):Option Int:=
 if zaf t x.1.p=zax then
  (if 64<n*x.1.n then some (x.1.p.1:Int) else (sub x.2.1 (n*x.1.n)).or (sub x.2.2 (n*x.1.n)))
 else (sub x.2.1 n).or (sub x.2.2 n)
def hvL (t:ByteArray){T:Type}(sub:T->Int->Option Int):List (Hd×T×T)->Int->Option Int
 | [],_=>none
 | x::r,n=>(hv1 t sub x n).or (hvL t sub r n)
def hvT (t:ByteArray):(d:Nat)->Tree d->Int->Option Int
 | 0,_,_=>none
 | d+1,l,n=>hvL t (hvT t d) l n
theorem znn {a b:Int}{x y:Option Int}{c:Int}{z:Option Int}(h1:a=x.getD (-1))(p1:∀ p,x=some p->0<=p)(h2:b=y.getD (-1))(p2:∀ p,y=some p->0<=p)(h3:c=z.getD (-1)):
  (if 0<=a then a else if 0<=b then b else c)=((x.or y).or z).getD (-1):=by
 subst h1 h2 h3
 cases x with
 | some p=>have:=p1 p rfl;simp [this]
 | none=>
  cases y with
  | some p=>have:=p2 p rfl;simp [this]
  | none=>simp
theorem zli (t:ByteArray):∀ (d:Nat) (tr:Tree d) (n:Int),zce t d tr n=(hvT t d tr n).getD (-1)/\∀ p,hvT t d tr n=some p->0<=p:=by
 intro d
 induction d with
 | zero=>intro tr n;exact ⟨rfl,fun p h=>by cases h⟩
 | succ d ih=>
  intro tr n
  have key:∀ (l:List (Hd×Tree d×Tree d)) (n:Int),zew t (zce t d) l n=(hvL t (hvT t d) l n).getD (-1)/\∀ p,hvL t (hvT t d) l n=some p->0<=p:=by
   intro l
   induction l with
   | nil=>intro n;exact ⟨rfl,fun p h=>by cases h⟩
   | cons x r ihr=>
    intro n
    rw [zew,hvL,hv1]
    by_cases hr:zaf t x.1.p=zax
    .rw [if_pos hr,if_pos hr]
     by_cases h6:64<n*x.1.n
     .rw [if_pos h6,if_pos h6]
      exact ⟨rfl,fun p h=>by simp at h;omega⟩
     .rw [if_neg h6,if_neg h6]
      obtain ⟨a1,a2⟩:=ih x.2.1 (n*x.1.n)
      obtain ⟨b1,b2⟩:=ih x.2.2 (n*x.1.n)
      obtain ⟨c1,c2⟩:=ihr n
      refine ⟨znn a1 a2 b1 b2 c1,fun p h=>?_⟩
      rw [Option.or_eq_some_iff,Option.or_eq_some_iff] at h
      rcases h with (h|h)|h
      .exact a2 p h
      .exact b2 p h.2
      .exact c2 p h.2
    .rw [if_neg hr,if_neg hr]
     obtain ⟨a1,a2⟩:=ih x.2.1 n
     obtain ⟨b1,b2⟩:=ih x.2.2 n
     obtain ⟨c1,c2⟩:=ihr n
     refine ⟨znn a1 a2 b1 b2 c1,fun p h=>?_⟩
     rw [Option.or_eq_some_iff,Option.or_eq_some_iff] at h
     rcases h with (h|h)|h
     .exact a2 p h
     .exact b2 p h.2
     .exact c2 p h.2
  exact key tr n
def zpa (t:ByteArray)(st st':RSt)(behind:List UInt8):Prop:=
 ∃ ws a b e,Piece t st st' ws a b e/\zaD t st'=behind /\
  (∀ els nx ns ss,∃ nx',zdz t st.us ⟨[0],els,nx,ns,ss⟩=zdz t st'.us ⟨[0],els,nx',ns++a,ss++b⟩) /\
  (e.f4=none->∀ d:Nat,(d:Int)+1+st.deep=5->∃ tr:Tree (d+1),GT t (d+1) ws tr/\st'.fl=st.fl++zbi t (d+1) tr /\
   (e.f3=none->GoodT t (d+1) tr/\(st.heavy<=64->e.f5=hvT t (d+1) tr st.heavy)))
def zgW (t:ByteArray)(blk:RSt->Bool×RSt)(n:Nat):Prop:=∀ st,st.us.length<n ->
 ((blk st).1=true->zpa t st (blk st).2 zbG) /\
 ((blk st).1=false->∀ els nx ns ss,els≠[]->zdz t st.us ⟨[0],els,nx,ns,ss⟩=.inl (atR t (blk st).2.us))
def zmG (t:ByteArray)(st st':RSt)(cnt:Nat):Prop:=
 ∃ o wa c a b e,Piece t st st' (o::(wa++[c])) a b e/\zaf t o=zbV/\zaf t c=zbG /\
  (∀ els nx ns ss,∃ nx',zdz t st.us ⟨[6],els,nx,ns,ss⟩=zdz t st'.us ⟨if nx then [1] else [0],els,nx',ns++a,ss++b⟩) /\
  (e.f4=none->∀ d:Nat,(d:Int)+1+st.deep=5->∃ tr:Tree d,GT t d wa tr/\st'.fl=st.fl++zbi t d tr/\cnt=(zbi t d tr).length /\
   (e.f3=none->GoodT t d tr/\(st.heavy<=64->e.f5=hvT t d tr st.heavy)))
theorem zeh (w:List UInt8)(p:Nat×Nat)(els:List Bool)(nx:Bool)(ns:List (Nat×Nat))(ss:List Int):
  zds w p ⟨[6],els,nx,ns,ss⟩=(⟨[0],nx::els,nx,ns,ss⟩,w==zbV):=rfl
theorem znM (p:Nat×Nat)(els:List Bool)(e nx:Bool)(ns:List (Nat×Nat))(ss:List Int):
  zds zbG p ⟨[0],e::els,nx,ns,ss⟩=(⟨if e then [1] else [0],els,nx,ns,ss⟩,true):=rfl
theorem zjC (p:Nat×Nat)(els:List Bool)(nx:Bool)(ns:List (Nat×Nat))(ss:List Int):
  zds zdq p ⟨[1],els,nx,ns,ss⟩=(⟨[6],els,false,ns,ss⟩,true):=rfl
theorem zhR (t:ByteArray)(st:RSt):∃ st1 e0,st1=(if 4<=st.deep then zbc st 4 (atR t st.us:Nat) else st)/\Ev st st1 e0/\e0.f3=none/\e0.f5=none/\e0.f4=(if 4<=st.deep then some (atR t st.us:Int) else none) /\
  st1.us=st.us/\st1.fl=st.fl/\st1.deep=st.deep/\st1.heavy=st.heavy:=by
 by_cases h:4<=st.deep
 .obtain ⟨k1,k2,k3,k4⟩:=zdg st 4 (atR t st.us:Nat)
  refine ⟨zbc st 4 (atR t st.us:Nat),ev4 (atR t st.us:Nat),(if_pos h).symm,fun g hg=>hg.note4 _,rfl,rfl,?_,k4,k3,k1,k2⟩
  rw [if_pos h];rfl
 .refine ⟨st,Gh.nil,(if_neg h).symm,Ev.same rfl rfl,rfl,rfl,?_,rfl,rfl,rfl,rfl⟩
  rw [if_neg h];rfl
theorem zhS {t:ByteArray}{blk:RSt->Bool×RSt}{st:RSt}(h:zaD t st=zbV){st1:RSt}(h1:st1=(if 4<=st.deep then zbc st 4 (atR t st.us:Nat) else st)):
  zaC t blk st=if (blk (za4 {st1 with deep:=st1.deep+1})).1 then ((blk (za4 {st1 with deep:=st1.deep+1})).2.fl.length - st.fl.length,true,za4 {(blk (za4 {st1 with deep:=st1.deep+1})).2 with deep:=(blk (za4 {st1 with deep:=st1.deep+1})).2.deep - 1}) else (0,false,(blk (za4 {st1 with deep:=st1.deep+1})).2):=by
 unfold zaC
 rw [if_neg (by rw [h];simp),h1]
theorem zfA {t:ByteArray}{blk:RSt->Bool×RSt}{n:Nat}(hblk:zgW t blk n){st:RSt}(hn:st.us.length<=n)(h:(zaC t blk st).2.1=true):
  zmG t st (zaC t blk st).2.2 (zaC t blk st).1:=by
 by_cases ho:zaD t st=zbV
 .obtain ⟨st1,e0,h1,hev,z3,z5,z4,k1,k2,k3,k4⟩:=zhR t st
  rw [zhS ho h1] at h ⊢
  obtain ⟨o,r,hu⟩:=zfw (t:=t) (st:=st) (by rw [ho];decide)
  have hby:zaf t o=zbV:=by rw [<- zbk hu];exact ho
  have hat:(atR t st.us:Int)=(o.1:Int):=by rw [hu];rfl
  obtain ⟨sb,hsb⟩:∃ sb,sb=za4 {st1 with deep:=st1.deep+1}:=⟨_,rfl⟩
  rw [<- hsb] at h ⊢
  have u1:sb.us=r:=by rw [hsb];show st1.us.tail=r;rw [k1,hu];rfl
  have u2:sb.deep=st.deep+1:=by rw [hsb];show st1.deep+1=_;rw [k3]
  have u3:sb.heavy=st.heavy:=by rw [hsb];exact k4
  have u4:sb.fl=st.fl:=by rw [hsb];exact k2
  have u5:Ev st sb e0:=by
   have:=hev.trans (Ev.same (a:=st1) (b:=sb) (by rw [hsb];rfl) (by rw [hsb];rfl))
   rwa [Gh.add_nil] at this
  cases hr:(blk sb).1 with
  | false=>rw [hr] at h;exact absurd h (by simp)
  | true=>
   rw [if_pos rfl]
   obtain ⟨ws,a,b,e,hp,hbeh,hacc,htree⟩:=(hblk sb (by rw [u1];rw [hu] at hn;simp at hn;omega)).1 hr
   obtain ⟨c,q,hc⟩:=zfw (t:=t) (st:=(blk sb).2) (by rw [hbeh];decide)
   have hcb:zaf t c=zbG:=by rw [<- zbk hc];exact hbeh
   have hdc:∀ m,zdS t [c] m=none:=fun m=>by rw [zdS,hcb];rfl
   refine ⟨o,ws,c,a,b,e0.add e,⟨?_,hp.len,?_,?_,?_,?_,?_,?_⟩,hby,hcb,?_,?_⟩
   .show st.us=o::(ws++[c])++(blk sb).2.us.tail
    rw [hu,hc,<- u1,hp.us,hc];simp
   .have:=(u5.trans hp.ev).trans (Ev.same (a:=(blk sb).2) (b:=za4 {(blk sb).2 with deep:=(blk sb).2.deep - 1}) rfl rfl)
    rwa [Gh.add_nil] at this
   .show e0.f3.or e.f3=_;rw [z3,hp.e3];rfl
   .show e0.f4.or e.f4=_
    have hd1:zdS t (o::(ws++[c])) st.deep=if 4<st.deep+1 then some (o.1:Int) else zdS t (ws++[c]) (st.deep+1):=by rw [zdS];exact if_pos hby
    rw [z4,hd1,zgw,hdc,hp.e4,u2,hat]
    by_cases h4:4<=st.deep
    .rw [if_pos h4,if_pos (by omega)];rfl
    .rw [if_neg h4,if_neg (by omega)];simp
   .intro m
    rw [dpt,zb4 m hby,zhX,hp.dp,dpt,zb5 _ hcb,dpt];omega
   .show (blk sb).2.deep - 1=_;rw [hp.deep,u2];omega
   .show (blk sb).2.heavy=_;rw [hp.heavy,u3]
   .intro els nx ns ss
    obtain ⟨nx',hx⟩:=hacc (nx::els) nx ns ss
    refine ⟨nx',?_⟩
    rw [hu,zbm,zeh,if_pos (by rw [hby];rfl),<- u1,hx,hc,zbm,hcb,znM,if_pos rfl]
    show _=zdz t (blk sb).2.us.tail _
    rw [hc];rfl
   .intro h4 d hd
    have h40:¬ 4<=st.deep:=by
     intro hh
     have:(e0.add e).f4=some (atR t st.us:Int):=by show e0.f4.or e.f4=_;rw [z4,if_pos hh];rfl
     rw [this] at h4;cases h4
    have h41:e.f4=none:=by
     have:(e0.add e).f4=e.f4:=by show e0.f4.or e.f4=_;rw [z4,if_neg h40];rfl
     rw [<- this];exact h4
    cases d with
    | zero=>exfalso;apply h40;omega
    | succ d=>
     obtain ⟨tr,g1,g2,g3⟩:=htree h41 d (by rw [u2];push_cast at hd;omega)
     refine ⟨tr,g1,?_,?_,?_⟩
     .show (blk sb).2.fl=_;rw [g2,u4]
     .show (blk sb).2.fl.length - st.fl.length=_;rw [g2,u4,List.length_append];omega
     .intro h3
      have h31:e.f3=none:=by
       have:(e0.add e).f3=e.f3:=by show e0.f3.or e.f3=_;rw [z3];rfl
       rw [<- this];exact h3
      obtain ⟨g4,g5⟩:=g3 h31
      refine ⟨g4,fun hh=>?_⟩
      show e0.f5.or e.f5=_
      rw [z5,g5 (by rw [u3];exact hh),u3];rfl
 .unfold zaC at h;rw [if_pos ho] at h;exact absurd h (by simp)
theorem zg2 {t:ByteArray}{blk:RSt->Bool×RSt}{n:Nat}(hblk:zgW t blk n){st:RSt}(hn:st.us.length<=n)(h:(zaC t blk st).2.1=false):
  ∀ els nx ns ss,zdz t st.us ⟨[6],els,nx,ns,ss⟩=.inl (atR t (zaC t blk st).2.2.us):=by
 intro els nx ns ss
 by_cases ho:zaD t st=zbV
 .obtain ⟨st1,e0,h1,_,_,_,_,k1,_,_,_⟩:=zhR t st
  rw [zhS ho h1] at h ⊢
  obtain ⟨o,r,hu⟩:=zfw (t:=t) (st:=st) (by rw [ho];decide)
  have hby:zaf t o=zbV:=by rw [<- zbk hu];exact ho
  obtain ⟨sb,hsb⟩:∃ sb,sb=za4 {st1 with deep:=st1.deep+1}:=⟨_,rfl⟩
  rw [<- hsb] at h ⊢
  have u1:sb.us=r:=by rw [hsb];show st1.us.tail=r;rw [k1,hu];rfl
  cases hr:(blk sb).1 with
  | true=>rw [hr] at h;exact absurd h (by simp)
  | false=>
   rw [if_neg (by simp)]
   have:=(hblk sb (by rw [u1];rw [hu] at hn;simp at hn;omega)).2 hr (nx::els) nx ns ss (by simp)
   rw [hu,zbm,zeh,if_pos (by rw [hby];rfl),<- u1,this]
 .have hE:zaC t blk st=(0,false,st):=by unfold zaC;rw [if_pos ho]
  rw [hE]
  cases hu:st.us with
  | nil=>rw [zeo,if_pos (Or.inr (by simp))];rfl
  | cons p q=>
   have hby:¬ zaf t p=zbV:=by rw [<- zbk hu];exact ho
   rw [zbm,zeh,if_neg (by simpa using hby)];rfl
theorem zpE {s:List UInt8}(h:¬ s=zdq)(els:List Bool)(nx:Bool)(ns:List (Nat×Nat))(ss:List Int):
  (zcp s 1 ⟨[1],els,nx,ns,ss⟩).2=(zcp s 0 ⟨[0],els,nx,ns,ss⟩).2 /\
   ((zcp s 0 ⟨[0],els,nx,ns,ss⟩).2=true->(zcp s 1 ⟨[1],els,nx,ns,ss⟩).1=(zcp s 0 ⟨[0],els,nx,ns,ss⟩).1):=by
 by_cases h1:s=zci
 .subst h1;exact ⟨rfl,fun _=>rfl⟩
 by_cases h2:s=zcB
 .subst h2;exact ⟨rfl,fun _=>rfl⟩
 by_cases h3:s=zcN
 .subst h3;exact ⟨rfl,fun _=>rfl⟩
 by_cases h4:s=zec
 .subst h4;exact ⟨rfl,fun _=>rfl⟩
 by_cases h5:s=zbd
 .subst h5;exact ⟨rfl,fun _=>rfl⟩
 by_cases h6:s=zax
 .subst h6;exact ⟨rfl,fun _=>rfl⟩
 by_cases h7:s=zbG
 .subst h7
  cases els with
  | nil=>exact ⟨rfl,fun h=>by cases h⟩
  | cons e r=>exact ⟨rfl,fun _=>rfl⟩
 .have e:∀ m st,zcp s m st=(st,false):=by
   intro m st;unfold zcp;rw [if_neg h1,if_neg h2,if_neg h3,if_neg h4,if_neg h5,if_neg h6,if_neg h,if_neg h7]
  rw [e,e];exact ⟨rfl,fun h=>by cases h⟩
theorem zqy {t:ByteArray}{st:RSt}(h:¬ zaD t st=zdq)(els:List Bool)(nx:Bool)(ns:List (Nat×Nat))(ss:List Int):
  zdz t st.us ⟨[1],els,nx,ns,ss⟩=zdz t st.us ⟨[0],els,nx,ns,ss⟩:=by
 cases hu:st.us with
 | nil=>
  rw [zeo,zeo]
  by_cases h0:0<els.length
  .rw [if_pos (Or.inl h0),if_pos (Or.inl h0)]
  .rw [if_neg (fun h=>h.elim h0 (fun h=>absurd h (by show ¬ ((1:Int)<1);omega))),if_neg (fun h=>h.elim h0 (fun h=>absurd h (by show ¬ ((1:Int)<0);omega)))]
 | cons p q=>
  rw [zbk hu] at h
  obtain ⟨h1,h2⟩:=zpE h els nx ns ss
  rw [zbm,zbm]
  have e1:zds (zaf t p) p ⟨[1],els,nx,ns,ss⟩=zcp (zaf t p) 1 ⟨[1],els,nx,ns,ss⟩:=rfl
  have e0:zds (zaf t p) p ⟨[0],els,nx,ns,ss⟩=zcp (zaf t p) 0 ⟨[0],els,nx,ns,ss⟩:=rfl
  rw [e1,e0,h1]
  by_cases hb:(zcp (zaf t p) 0 ⟨[0],els,nx,ns,ss⟩).2=true
  .rw [if_pos hb,if_pos hb,h2 hb]
  .rw [if_neg hb,if_neg hb]
theorem zfN {α:Type}(f:α->α):∀ (a:List α) (x:α) (b:List α),(a++x::b).modify a.length f=a++f x::b:=by
 intro a
 induction a with
 | nil=>intro x b;rfl
 | cons y r ih=>intro x b;rw [List.cons_append,List.length_cons,List.modify_succ_cons,ih];rfl
theorem zho (t:ByteArray)(d:Nat):zbi t d (zcn d)=[]:=by cases d <;> rfl
theorem zc6 (t:ByteArray)(d:Nat):GoodT t d (zcn d):=by
 cases d with
 | zero=>trivial
 | succ d=>intro x hx;exact absurd hx (by simp [Tree.list,zcn])
theorem zkF (t:ByteArray)(d:Nat)(n:Int):hvT t d (zcn d) n=none:=by cases d <;> rfl
def BR (t:ByteArray)(d:Nat)(wb:List (Nat×Nat))(x y:Tree d):Prop:=
 (∃ o wa c,wb=o::(wa++[c])/\zaf t o=zbV/\zaf t c=zbG/\GT t d wa x/\y=zcn d) \/
 (∃ o wa c e o2 wa2 c2,wb=o::(wa++c::e::o2::(wa2++[c2]))/\zaf t o=zbV/\zaf t c=zbG/\zaf t e=zdq/\zaf t o2=zbV/\zaf t c2=zbG/\GT t d wa x/\GT t d wa2 y)
theorem zbY {a b:Option Int}(h:a.or b=none):a=none/\b=none:=by
 cases a with
 | some p=>cases h
 | none=>exact ⟨rfl,by simpa using h⟩
theorem zg4 {t:ByteArray}{blk:RSt->Bool×RSt}{n:Nat}(hblk:zgW t blk n){st:RSt}{fl0:List Nd}{nd:Nd}(hfl:st.fl=fl0++[nd])(hel:nd.els=0)(hn:st.us.length<=n)(h:(zba t blk st fl0.length).1=true):
  ∃ wb a b e,Piece t st (zba t blk st fl0.length).2 wb a b e/\(∀ els ns ss,∃ nx',zdz t st.us ⟨[6],els,true,ns,ss⟩=zdz t (zba t blk st fl0.length).2.us ⟨[0],els,nx',ns++a,ss++b⟩) /\
   (e.f4=none->∀ d:Nat,(d:Int)+1+st.deep=5->∃ x y:Tree d,BR t d wb x y/\(zba t blk st fl0.length).2.fl=fl0++{nd with body:=(zbi t d x).length,els:=(zbi t d y).length}::(zbi t d x++zbi t d y) /\
    (e.f3=none->GoodT t d x/\GoodT t d y/\(st.heavy<=64->e.f5=(hvT t d x st.heavy).or (hvT t d y st.heavy)))):=by
 obtain ⟨A,hA⟩:∃ A,A=zaC t blk st:=⟨_,rfl⟩
 have hE:zba t blk st fl0.length=if A.2.1 then (if zaD t {A.2.2 with fl:=zaB A.2.2.fl fl0.length A.1}=zdq then ((zaC t blk (za4 {A.2.2 with fl:=zaB A.2.2.fl fl0.length A.1})).2.1,{(zaC t blk (za4 {A.2.2 with fl:=zaB A.2.2.fl fl0.length A.1})).2.2 with fl:=zbR (zaC t blk (za4 {A.2.2 with fl:=zaB A.2.2.fl fl0.length A.1})).2.2.fl fl0.length (zaC t blk (za4 {A.2.2 with fl:=zaB A.2.2.fl fl0.length A.1})).1}) else (true,{A.2.2 with fl:=zaB A.2.2.fl fl0.length A.1})) else (false,A.2.2):=by
  rw [hA];rfl
 rw [hE] at h ⊢
 cases hA1:A.2.1 with
 | false=>rw [hA1] at h;exact absurd h (by simp)
 | true=>
  rw [hA1] at h
  simp only [if_true] at h ⊢
  have hb:=zfA hblk hn (by rw [<- hA];exact hA1)
  rw [<- hA] at hb
  obtain ⟨o,wa,c,a,b,e,hp,hby,hcb,hacc,htree⟩:=hb
  obtain ⟨s1,hs1⟩:∃ s1,s1={A.2.2 with fl:=zaB A.2.2.fl fl0.length A.1}:=⟨_,rfl⟩
  rw [<- hs1] at h ⊢
  have hp1:Piece t st s1 (o::(wa++[c])) a b e:=by rw [hs1];exact hp.fl st.fl _
  have hus:s1.us=A.2.2.us:=by rw [hs1]
  by_cases he:zaD t s1=zdq
  .rw [if_pos he] at h ⊢
   obtain ⟨w,q,hw⟩:=zfw (t:=t) (st:=s1) (by rw [he];decide)
   have hwb:zaf t w=zdq:=by rw [<- zbk hw];exact he
   have hp2:=hp1.trans (Piece.word hw (zgp hwb))
   have hlen:(za4 s1).us.length<=n:=by
    have:=hp2.us
    have h2:=congrArg List.length this
    rw [List.length_append] at h2
    omega
   have hb2:=zfA hblk hlen h
   obtain ⟨o2,wa2,c2,a2,b2,e2,hq,hby2,hcb2,hacc2,htree2⟩:=hb2
   have hp3:=hp2.trans hq
   refine ⟨_,_,_,_,(hp3.fl st.fl _),?_,?_⟩
   .intro els ns ss
    obtain ⟨nx1,x1⟩:=hacc els true ns ss
    obtain ⟨nx2,x2⟩:=hacc2 els false (ns++a) (ss++b)
    refine ⟨nx2,?_⟩
    rw [x1,<- hus,hw,if_pos rfl,zbm,hwb,zjC,if_pos rfl]
    have hq2:(za4 s1).us=q:=by show s1.us.tail=q;rw [hw];rfl
    rw [<- hq2,x2]
    simp
   .intro h4 d hd
    have h4':(e.f4.or none).or e2.f4=none:=h4
    obtain ⟨h41,h42⟩:=zbY h4'
    obtain ⟨h41,_⟩:=zbY h41
    obtain ⟨x,g1,g2,g3,g4⟩:=htree h41 d hd
    have hd2:(za4 s1).deep=st.deep:=hp2.deep
    have hh2:(za4 s1).heavy=st.heavy:=hp2.heavy
    obtain ⟨y,k1,k2,k3,k4⟩:=htree2 h42 d (by rw [hd2];exact hd)
    refine ⟨x,y,Or.inr ⟨o,wa,c,w,o2,wa2,c2,by simp,hby,hcb,hwb,hby2,hcb2,g1,k1⟩,?_,?_⟩
    .show zbR _ fl0.length _=_
     rw [k2,k3]
     have f1:(za4 s1).fl=fl0++{nd with body:=(zbi t d x).length}::zbi t d x:=by
      show s1.fl=_
      rw [hs1]
      show zaB A.2.2.fl fl0.length A.1=_
      rw [g2,hfl,g3,List.append_assoc]
      exact zfN _ fl0 nd _
     rw [f1,List.append_assoc]
     exact zfN _ fl0 _ _
    .intro h3
     have h3':(e.f3.or none).or e2.f3=none:=h3
     obtain ⟨h31,h32⟩:=zbY h3'
     obtain ⟨h31,_⟩:=zbY h31
     obtain ⟨g5,g6⟩:=g4 h31
     obtain ⟨k5,k6⟩:=k4 h32
     refine ⟨g5,k5,fun hh=>?_⟩
     show (e.f5.or none).or e2.f5=_
     rw [g6 hh,k6 (by rw [hh2];exact hh),hh2];simp
  .rw [if_neg he] at h ⊢
   refine ⟨_,_,_,_,hp1,?_,?_⟩
   .intro els ns ss
    obtain ⟨nx1,x1⟩:=hacc els true ns ss
    refine ⟨nx1,?_⟩
    rw [x1,<- hus,if_pos rfl]
    exact zqy he _ _ _ _
   .intro h4 d hd
    obtain ⟨x,g1,g2,g3,g4⟩:=htree h4 d hd
    refine ⟨x,zcn d,Or.inl ⟨o,wa,c,rfl,hby,hcb,g1,rfl⟩,?_,?_⟩
    .show s1.fl=_
     rw [hs1,zho]
     show zaB A.2.2.fl fl0.length A.1=_
     rw [g2,hfl,g3,List.append_assoc,List.append_nil]
     refine (zfN _ fl0 nd _).trans ?_
     simp [hel]
    .intro h3
     obtain ⟨g5,g6⟩:=g4 h3
     refine ⟨g5,zc6 t d,fun hh=>?_⟩
     rw [g6 hh,zkF];simp
theorem zg3 {t:ByteArray}{blk:RSt->Bool×RSt}{n:Nat}(hblk:zgW t blk n){st:RSt}{i:Nat}(hn:st.us.length<=n)(h:(zba t blk st i).1=false):
  ∀ els ns ss,zdz t st.us ⟨[6],els,true,ns,ss⟩=.inl (atR t (zba t blk st i).2.us):=by
 intro els ns ss
 obtain ⟨A,hA⟩:∃ A,A=zaC t blk st:=⟨_,rfl⟩
 have hE:zba t blk st i=if A.2.1 then (if zaD t {A.2.2 with fl:=zaB A.2.2.fl i A.1}=zdq then ((zaC t blk (za4 {A.2.2 with fl:=zaB A.2.2.fl i A.1})).2.1,{(zaC t blk (za4 {A.2.2 with fl:=zaB A.2.2.fl i A.1})).2.2 with fl:=zbR (zaC t blk (za4 {A.2.2 with fl:=zaB A.2.2.fl i A.1})).2.2.fl i (zaC t blk (za4 {A.2.2 with fl:=zaB A.2.2.fl i A.1})).1}) else (true,{A.2.2 with fl:=zaB A.2.2.fl i A.1})) else (false,A.2.2):=by
  rw [hA];rfl
 rw [hE] at h ⊢
 cases hA1:A.2.1 with
 | false=>
  rw [if_neg (by simp)]
  have:=zg2 hblk hn (by rw [<- hA];exact hA1) els true ns ss
  rw [<- hA] at this
  exact this
 | true=>
  rw [hA1] at h
  simp only [if_true] at h ⊢
  have hb:=zfA hblk hn (by rw [<- hA];exact hA1)
  rw [<- hA] at hb
  obtain ⟨o,wa,c,a,b,e,hp,hby,hcb,hacc,htree⟩:=hb
  obtain ⟨s1,hs1⟩:∃ s1,s1={A.2.2 with fl:=zaB A.2.2.fl i A.1}:=⟨_,rfl⟩
  rw [<- hs1] at h ⊢
  have hp1:Piece t st s1 (o::(wa++[c])) a b e:=by rw [hs1];exact hp.fl st.fl _
  have hus:s1.us=A.2.2.us:=by rw [hs1]
  by_cases he:zaD t s1=zdq
  .rw [if_pos he] at h ⊢
   obtain ⟨w,q,hw⟩:=zfw (t:=t) (st:=s1) (by rw [he];decide)
   have hwb:zaf t w=zdq:=by rw [<- zbk hw];exact he
   have hp2:=hp1.trans (Piece.word hw (zgp hwb))
   have hlen:(za4 s1).us.length<=n:=by
    have:=hp2.us
    have h2:=congrArg List.length this
    rw [List.length_append] at h2
    omega
   have hb2:=zg2 hblk hlen h els false (ns++a) (ss++b)
   obtain ⟨nx1,x1⟩:=hacc els true ns ss
   rw [x1,<- hus,hw,if_pos rfl,zbm,hwb,zjC,if_pos rfl]
   have hq2:(za4 s1).us=q:=by show s1.us.tail=q;rw [hw];rfl
   rw [<- hq2,hb2]
  .rw [if_neg he] at h;exact absurd h (by simp)
theorem zfW (st:RSt)(times p:Int):∃ st2 e0,st2=(if 64<zbF st.heavy times then zbc {st with heavy:=zbF st.heavy times} 5 p else {st with heavy:=zbF st.heavy times})/\Ev st st2 e0/\e0.f3=none/\e0.f4=none/\e0.f5=(if 64<zbF st.heavy times then some p else none) /\
  st2.us=st.us/\st2.fl=st.fl/\st2.deep=st.deep/\st2.heavy=zbF st.heavy times:=by
 by_cases h:64<zbF st.heavy times
 .obtain ⟨k1,k2,k3,k4⟩:=zdg {st with heavy:=zbF st.heavy times} 5 p
  refine ⟨_,ev5 p,(if_pos h).symm,fun g hg=>?_,rfl,rfl,?_,k4,k3,k1,k2⟩
  .exact Rel.note5 (st:={st with heavy:=zbF st.heavy times}) hg p
  .rw [if_pos h];rfl
 .refine ⟨_,Gh.nil,(if_neg h).symm,Ev.same rfl rfl,rfl,rfl,?_,rfl,rfl,rfl,rfl⟩
  rw [if_neg h];rfl
theorem zgy {t:ByteArray}{blk:RSt->Bool×RSt}{st:RSt}{i:Nat}{times p:Int}{st2:RSt}(h2:st2=(if 64<zbF st.heavy times then zbc {st with heavy:=zbF st.heavy times} 5 p else {st with heavy:=zbF st.heavy times})):
  zbg t blk st i times p=((zaC t blk st2).2.1,{(zaC t blk st2).2.2 with fl:=zaB (zaC t blk st2).2.2.fl i (zaC t blk st2).1,heavy:=st.heavy}):=by
 rw [h2];rfl
theorem zkO {t:ByteArray}{blk:RSt->Bool×RSt}{n:Nat}(hblk:zgW t blk n){st:RSt}{fl0:List Nd}{nd:Nd}{times p:Int}(hfl:st.fl=fl0++[nd])(hn:st.us.length<=n)(h:(zbg t blk st fl0.length times p).1=true):
  ∃ wb a b e,Piece t st (zbg t blk st fl0.length times p).2 wb a b e/\(∀ els ns ss,∃ nx',zdz t st.us ⟨[6],els,false,ns,ss⟩=zdz t (zbg t blk st fl0.length times p).2.us ⟨[0],els,nx',ns++a,ss++b⟩) /\
   (e.f4=none->∀ d:Nat,(d:Int)+1+st.deep=5->∃ x:Tree d,(∃ o wa c,wb=o::(wa++[c])/\zaf t o=zbV/\zaf t c=zbG/\GT t d wa x)/\(zbg t blk st fl0.length times p).2.fl=fl0++{nd with body:=(zbi t d x).length}::zbi t d x /\
    (e.f3=none->GoodT t d x/\e.f5=if 64<st.heavy*times then some p else hvT t d x (st.heavy*times))):=by
 obtain ⟨st2,e0,h2,hev,z3,z4,z5,k1,k2,k3,k4⟩:=zfW st times p
 rw [zgy h2] at h ⊢
 obtain ⟨o,wa,c,a,b,e,hp,hby,hcb,hacc,htree⟩:=zfA hblk (st:=st2) (by rw [k1];exact hn) h
 refine ⟨o::(wa++[c]),a,b,e0.add e,⟨?_,hp.len,?_,?_,?_,hp.dp,?_,rfl⟩,?_,?_⟩
 .rw [<- k1];exact hp.us
 .have:=(hev.trans hp.ev).trans (Ev.same (a:=(zaC t blk st2).2.2) (b:={(zaC t blk st2).2.2 with fl:=zaB (zaC t blk st2).2.2.fl fl0.length (zaC t blk st2).1,heavy:=st.heavy}) rfl rfl)
  rwa [Gh.add_nil] at this
 .show e0.f3.or e.f3=_;rw [z3,hp.e3];rfl
 .show e0.f4.or e.f4=_;rw [z4,hp.e4,k3];rfl
 .show (zaC t blk st2).2.2.deep=_;rw [hp.deep,k3]
 .intro els ns ss
  obtain ⟨nx',hx⟩:=hacc els false ns ss
  refine ⟨nx',?_⟩
  rw [<- k1,hx];rfl
 .intro h4 d hd
  have h4':e0.f4.or e.f4=none:=h4
  obtain ⟨x,g1,g2,g3,g4⟩:=htree (zbY h4').2 d (by rw [k3];exact hd)
  refine ⟨x,⟨o,wa,c,rfl,hby,hcb,g1⟩,?_,?_⟩
  .show zaB _ fl0.length _=_
   rw [g2,k2,hfl,g3,List.append_assoc]
   exact zfN _ fl0 nd _
  .intro h3
   have h3':e0.f3.or e.f3=none:=h3
   obtain ⟨g5,g6⟩:=g4 (zbY h3').2
   refine ⟨g5,?_⟩
   show e0.f5.or e.f5=_
   rw [z5]
   unfold zbF
   by_cases h6:64<st.heavy*times
   .rw [if_pos h6,if_pos h6,if_pos (by omega)];rfl
   .have hh:st2.heavy=st.heavy*times:=by rw [k4];unfold zbF;rw [if_neg h6]
    rw [if_neg h6,if_neg h6,if_neg h6,g6 (by rw [hh];omega),hh];rfl
theorem zkN {t:ByteArray}{blk:RSt->Bool×RSt}{n:Nat}(hblk:zgW t blk n){st:RSt}{i:Nat}{times p:Int}(hn:st.us.length<=n)(h:(zbg t blk st i times p).1=false):
  ∀ els ns ss,zdz t st.us ⟨[6],els,false,ns,ss⟩=.inl (atR t (zbg t blk st i times p).2.us):=by
 intro els ns ss
 obtain ⟨st2,e0,h2,_,_,_,_,k1,_,_,_⟩:=zfW st times p
 rw [zgy h2] at h ⊢
 have:=zg2 hblk (st:=st2) (by rw [k1];exact hn) h els false ns ss
 rw [<- k1];exact this
def zhJ (t:ByteArray)(d:Nat)(x:Hd×Tree d×Tree d):List Nd:=
 zen t x.1 (zbi t d x.2.1).length (zbi t d x.2.2).length::(zbi t d x.2.1++zbi t d x.2.2)
def St1 (t:ByteArray)(d:Nat)(ws:List (Nat×Nat))(x:Hd×Tree d×Tree d):Prop:=
 ∃ wo wb f,ws=wo++wb/\HdOk t wo x.1 f/\zlv t wo /\
  ((f=0/\wb=[]/\x.2.1=zcn d/\x.2.2=zcn d)\/(f=2/\BR t d wb x.2.1 x.2.2) \/
   (f=1/\(∃ o wa c,wb=o::(wa++[c])/\zaf t o=zbV/\zaf t c=zbG/\GT t d wa x.2.1)/\x.2.2=zcn d))
def zqT (t:ByteArray)(st st':RSt):Prop:=
 ∃ ws a b e,Piece t st st' ws a b e/\ws≠[] /\
  (∀ els nx ns ss,∃ nx',zdz t st.us ⟨[0],els,nx,ns,ss⟩=zdz t st'.us ⟨[0],els,nx',ns++a,ss++b⟩) /\
  (e.f4=none->∀ d:Nat,(d:Int)+1+st.deep=5->∃ x:Hd×Tree d×Tree d,St1 t d ws x/\st'.fl=st.fl++zhJ t d x /\
   (e.f3=none->(GoodHd t x.1/\GoodT t d x.2.1/\GoodT t d x.2.2)/\(st.heavy<=64->e.f5=hv1 t (hvT t d) x st.heavy)))
def zrm (t:ByteArray)(st st':RSt):Prop:=
 ∀ els nx ns ss,(zaD t st=zbG->els=[])->(st.us=[]->els≠[])->zdz t st.us ⟨[0],els,nx,ns,ss⟩=.inl (atR t st'.us)
def zog (t:ByteArray)(st:RSt)(r:Bool×RSt):Prop:=(r.1=true->zqT t st r.2)/\(r.1=false->zrm t st r.2)
def zfv (t:ByteArray)(blk:RSt->Bool×RSt)(st:RSt)(kind:Int):Bool×RSt:=
 if kind=0 then (false,st)
 else
  let a:=za8 t (za4 st) kind
  if a.2.1 then
   let b:=zdt t a.2.2 kind
   if b.2.1 then
    let c:=zb1 t b.2.2 kind
    if c.2.1 then
     let st5:={c.2.2 with fl:=c.2.2.fl++[{kind:=kind,key:=b.1,times:=a.1,ticks:=c.1,body:=0,els:=0}]}
     if kind=4\/kind=5 then zba t blk st5 c.2.2.fl.length
     else if kind=6 then zbg t blk st5 c.2.2.fl.length a.1 (atR t st.us:Nat)
     else (true,st5)
    else (false,c.2.2)
   else (false,b.2.2)
  else (false,a.2.2)
theorem zjS (t:ByteArray)(blk:RSt->Bool×RSt)(st:RSt):zaL t blk st=zfv t blk st (zbu (zaD t st)):=rfl
theorem zmi (s:List UInt8):(s=zci/\zbu s=1)\/(s=zcB/\zbu s=2)\/(s=zcN/\zbu s=3)\/(s=zec/\zbu s=4)\/(s=zbd/\zbu s=5)\/(s=zax/\zbu s=6) \/
  (zbu s=0/\¬ s=zci/\¬ s=zcB/\¬ s=zcN/\¬ s=zec/\¬ s=zbd/\¬ s=zax):=by
 by_cases h1:s=zci
 .exact Or.inl ⟨h1,by rw [h1];rfl⟩
 by_cases h2:s=zcB
 .exact Or.inr (Or.inl ⟨h2,by rw [h2];rfl⟩)
 by_cases h3:s=zcN
 .exact Or.inr (Or.inr (Or.inl ⟨h3,by rw [h3];rfl⟩))
 by_cases h4:s=zec
 .exact Or.inr (Or.inr (Or.inr (Or.inl ⟨h4,by rw [h4];rfl⟩)))
 by_cases h5:s=zbd
 .exact Or.inr (Or.inr (Or.inr (Or.inr (Or.inl ⟨h5,by rw [h5];rfl⟩))))
 by_cases h6:s=zax
 .exact Or.inr (Or.inr (Or.inr (Or.inr (Or.inr (Or.inl ⟨h6,by rw [h6];rfl⟩)))))
 .refine Or.inr (Or.inr (Or.inr (Or.inr (Or.inr (Or.inr ⟨?_,h1,h2,h3,h4,h5,h6⟩)))))
  unfold zbu;rw [if_neg h1,if_neg h2,if_neg h3,if_neg h4,if_neg h5,if_neg h6]
theorem zgk (t:ByteArray)(d:Nat)(h:Hd):zhJ t d (h,zcn d,zcn d)=[zen t h 0 0]:=by
 unfold zhJ;simp only [zho];rfl
theorem ziv (t:ByteArray)(d:Nat)(h:Hd)(n:Int)(hk:¬ zaf t h.p=zax):hv1 t (hvT t d) (h,zcn d,zcn d) n=none:=by
 unfold hv1;rw [if_neg hk];simp only [zkF];rfl
theorem zhQ {st:RSt}{p:Nat×Nat}{r:List (Nat×Nat)}(hu:st.us=p::r):(za4 st).us=r:=by show st.us.tail=r;rw [hu];rfl
theorem zn2 {t:ByteArray}{blk:RSt->Bool×RSt}{st:RSt}{p:Nat×Nat}{r:List (Nat×Nat)}(hu:st.us=p::r)(hb:zaf t p=zci):zog t st (zfv t blk st 1):=by
 obtain ⟨K,hK⟩:∃ K,K=zdt t (za4 st) 1:=⟨_,rfl⟩
 have hE:zfv t blk st 1=if K.2.1 then (true,{K.2.2 with fl:=K.2.2.fl++[{kind:=1,key:=K.1,times:=0,ticks:=0,body:=0,els:=0}]}) else (false,K.2.2):=by rw [hK];rfl
 have hfirst:∀ els nx ns ss,zdz t st.us ⟨[0],els,nx,ns,ss⟩=zdz t (za4 st).us ⟨[2,0],els,nx,ns,ss⟩:=by
  intro els nx ns ss;rw [zhQ hu,hu,zbm,hb];rfl
 rw [hE]
 cases h:K.2.1 with
 | true=>
  refine ⟨fun _=>?_,fun hh=>absurd hh (by simp)⟩
  rw [if_pos rfl]
  have hk:=znr (t:=t) (st:=za4 st) (k:=1) (Or.inl rfl) (by rw [<- hK];exact h)
  rw [<- hK] at hk
  obtain ⟨q,hp,h0,hv,hf,ha⟩:=hk
  have hw:=(Piece.word hu (zdJ (s:=zaf t p) (by rw [hb];decide)).1).trans hp
  simp only [Gh.nil_add,List.nil_append,List.cons_append] at hw
  refine ⟨_,_,_,_,hw.fl st.fl _,by simp,?_,?_⟩
  .intro els nx ns ss
   refine ⟨nx,?_⟩
   rw [hfirst,ha];simp
  .intro _ d _
   refine ⟨({p:=p,key:=zcx (zaf t q),n:=0,m:=0},zcn d,zcn d),⟨[p,q],[],0,by simp,Or.inl ⟨p,q,rfl,rfl,hb,rfl⟩,?_,Or.inl ⟨rfl,rfl,rfl,rfl⟩⟩,?_,?_⟩
   .intro x hx;simp at hx;rcases hx with rfl|rfl
    .rw [hb];decide
    .exact zfK h0
   .show K.2.2.fl++_=_
    rw [hf,zgk,zhk (h:=⟨p,zcx (zaf t q),0,0⟩) 0 0 hb,hv];rfl
   .intro _
    refine ⟨⟨Or.inl ⟨hb,rfl,rfl⟩,zc6 t d,zc6 t d⟩,fun _=>?_⟩
    rw [ziv t d _ _ (by rw [show (Hd.mk p _ _ _).p=p from rfl,hb];decide)];rfl
 | false=>
  refine ⟨fun hh=>absurd hh (by simp),fun _ els nx ns ss _ _=>?_⟩
  rw [if_neg (by simp)]
  have:=znq (t:=t) (st:=za4 st) (k:=1) (Or.inl rfl) (by rw [<- hK];exact h) [0] els nx ns ss
  rw [<- hK] at this
  rw [hfirst];exact this
theorem zn4 {t:ByteArray}{blk:RSt->Bool×RSt}{st:RSt}{p:Nat×Nat}{r:List (Nat×Nat)}(hu:st.us=p::r)(hb:zaf t p=zcB):zog t st (zfv t blk st 2):=by
 obtain ⟨K,hK⟩:∃ K,K=za5 t (za4 st) 999:=⟨_,rfl⟩
 have hE:zfv t blk st 2=if K.2.1 then (true,{K.2.2 with fl:=K.2.2.fl++[{kind:=2,key:=0,times:=0,ticks:=K.1,body:=0,els:=0}]}) else (false,K.2.2):=by rw [hK];rfl
 have hfirst:∀ els nx ns ss,zdz t st.us ⟨[0],els,nx,ns,ss⟩=zdz t (za4 st).us ⟨[3,0],els,nx,ns,ss⟩:=by
  intro els nx ns ss;rw [zhQ hu,hu,zbm,hb];rfl
 rw [hE]
 cases h:K.2.1 with
 | true=>
  refine ⟨fun _=>?_,fun hh=>absurd hh (by simp)⟩
  rw [if_pos rfl]
  have hk:=zeT (t:=t) (st:=za4 st) (s:=3) (most:=999) rfl (Or.inl rfl) (by rw [<- hK];exact h)
  rw [<- hK] at hk
  obtain ⟨q,e,hp,h0,hv,hf,h5,h3,ha⟩:=hk
  have hw:=(Piece.word hu (zdJ (s:=zaf t p) (by rw [hb];decide)).1).trans hp
  simp only [Gh.nil_add,List.nil_append,List.cons_append] at hw
  refine ⟨_,_,_,_,hw.fl st.fl _,by simp,?_,?_⟩
  .intro els nx ns ss
   refine ⟨nx,?_⟩
   rw [hfirst,ha]
  .intro _ d _
   refine ⟨({p:=p,key:=0,n:=zbx (zaf t q),m:=0},zcn d,zcn d),⟨[p,q],[],0,by simp,Or.inr (Or.inl ⟨p,q,rfl,rfl,hb,rfl⟩),?_,Or.inl ⟨rfl,rfl,rfl,rfl⟩⟩,?_,?_⟩
   .intro x hx;simp at hx;rcases hx with rfl|rfl
    .rw [hb];decide
    .exact zc7 h0
   .show K.2.2.fl++_=_
    rw [hf,zgk,zhm (h:=⟨p,0,zbx (zaf t q),0⟩) 0 0 hb,hv];rfl
   .intro he
    obtain ⟨l1,l2⟩:=h3 he
    refine ⟨⟨Or.inr (Or.inl ⟨hb,l1,l2,rfl,rfl⟩),zc6 t d,zc6 t d⟩,fun _=>?_⟩
    rw [ziv t d _ _ (by rw [show (Hd.mk p _ _ _).p=p from rfl,hb];decide)];exact h5
 | false=>
  refine ⟨fun hh=>absurd hh (by simp),fun _ els nx ns ss _ _=>?_⟩
  rw [if_neg (by simp)]
  have:=zeS (t:=t) (st:=za4 st) (s:=3) (most:=999) (Or.inl rfl) (by rw [<- hK];exact h) [0] els nx ns ss
  rw [<- hK] at this
  rw [hfirst];exact this
theorem zn3 {t:ByteArray}{blk:RSt->Bool×RSt}{st:RSt}{p:Nat×Nat}{r:List (Nat×Nat)}(hu:st.us=p::r)(hb:zaf t p=zcN):zog t st (zfv t blk st 3):=by
 have hE:zfv t blk st 3=(true,{za4 st with fl:=st.fl++[{kind:=3,key:=0,times:=0,ticks:=0,body:=0,els:=0}]}):=rfl
 have hfirst:∀ els nx ns ss,zdz t st.us ⟨[0],els,nx,ns,ss⟩=zdz t (za4 st).us ⟨[0],els,nx,ns,ss⟩:=by
  intro els nx ns ss;rw [zhQ hu,hu,zbm,hb];rfl
 rw [hE]
 refine ⟨fun _=>?_,fun hh=>absurd hh (by simp)⟩
 have hw:=Piece.word hu (zdJ (s:=zaf t p) (by rw [hb];decide)).1
 refine ⟨_,_,_,_,hw.fl st.fl _,by simp,?_,?_⟩
 .intro els nx ns ss
  refine ⟨nx,?_⟩
  rw [hfirst];simp
 .intro _ d _
  refine ⟨({p:=p,key:=0,n:=0,m:=0},zcn d,zcn d),⟨[p],[],0,by simp,Or.inr (Or.inr (Or.inl ⟨p,rfl,rfl,hb,rfl⟩)),?_,Or.inl ⟨rfl,rfl,rfl,rfl⟩⟩,?_,?_⟩
  .intro x hx;simp at hx;subst hx
   rw [hb];decide
  .show st.fl++_=_
   rw [zgk,zhl (h:=⟨p,0,0,0⟩) 0 0 hb]
  .intro _
   refine ⟨⟨Or.inr (Or.inr (Or.inl ⟨hb,rfl,rfl,rfl⟩)),zc6 t d,zc6 t d⟩,fun _=>?_⟩
   rw [ziv t d _ _ (by rw [show (Hd.mk p _ _ _).p=p from rfl,hb];decide)];rfl
theorem zo6 {t:ByteArray}{blk:RSt->Bool×RSt}{st:RSt}{p:Nat×Nat}{r:List (Nat×Nat)}(hu:st.us=p::r){n:Nat}(hblk:zgW t blk n)(hn:st.us.length<=n+1)(hb:zaf t p=zec):zog t st (zfv t blk st 4):=by
 obtain ⟨K,hK⟩:∃ K,K=zdt t (za4 st) 4:=⟨_,rfl⟩
 obtain ⟨N,hN⟩:∃ N,N=za5 t K.2.2 999:=⟨_,rfl⟩
 obtain ⟨s5,hs5⟩:∃ s5:RSt,s5={N.2.2 with fl:=N.2.2.fl++[Nd.mk 4 K.1 0 N.1 0 0]}:=⟨_,rfl⟩
 have hE:zfv t blk st 4=if K.2.1 then (if N.2.1 then zba t blk s5 N.2.2.fl.length else (false,N.2.2)) else (false,K.2.2):=by rw [hs5,hN,hK];rfl
 have hfirst:∀ els nx ns ss,zdz t st.us ⟨[0],els,nx,ns,ss⟩=zdz t (za4 st).us ⟨[2,3,6],els,true,ns,ss⟩:=by
  intro els nx ns ss;rw [zhQ hu,hu,zbm,hb];rfl
 rw [hE]
 cases h:K.2.1 with
 | false=>
  refine ⟨fun hh=>absurd hh (by simp),fun _ els nx ns ss _ _=>?_⟩
  rw [if_neg (by simp)]
  have:=znq (t:=t) (st:=za4 st) (k:=4) (Or.inr (Or.inl rfl)) (by rw [<- hK];exact h) [3,6] els true ns ss
  rw [<- hK] at this
  rw [hfirst];exact this
 | true=>
  rw [if_pos rfl]
  have hk:=znr (t:=t) (st:=za4 st) (k:=4) (Or.inr (Or.inl rfl)) (by rw [<- hK];exact h)
  rw [<- hK] at hk
  obtain ⟨q,hp,h0,hv,hf,ha⟩:=hk
  cases h2:N.2.1 with
  | false=>
   refine ⟨fun hh=>absurd hh (by simp),fun _ els nx ns ss _ _=>?_⟩
   rw [if_neg (by simp)]
   have:=zeS (t:=t) (st:=K.2.2) (s:=3) (most:=999) (Or.inl rfl) (by rw [<- hN];exact h2) [6] els true ns ss
   rw [<- hN] at this
   rw [hfirst,ha];exact this
  | true=>
   rw [if_pos rfl]
   have hk2:=zeT (t:=t) (st:=K.2.2) (s:=3) (most:=999) rfl (Or.inl rfl) (by rw [<- hN];exact h2)
   rw [<- hN] at hk2
   obtain ⟨z,e,hp2,h02,hv2,hf2,h5,h3,ha2⟩:=hk2
   have hw:=((Piece.word hu (zdJ (s:=zaf t p) (by rw [hb];decide)).1).trans hp).trans hp2
   simp only [Gh.nil_add,List.nil_append,List.cons_append] at hw
   have hw5:Piece t st s5 [p,q,z] [z] [3] e:=by rw [hs5];exact hw.fl st.fl _
   have hlen:s5.us.length<=n:=by have:=congrArg List.length hw5.us;simp at this;omega
   have hus:s5.us=N.2.2.us:=by rw [hs5]
   have hfl:N.2.2.fl=st.fl:=by rw [hf2,hf];rfl
   refine ⟨fun hh=>?_,fun hh els nx ns ss _ _=>?_⟩
   .obtain ⟨wb,a,b,e2,hp3,ha3,ht3⟩:=zg4 hblk (st:=s5) (fl0:=N.2.2.fl) (nd:=Nd.mk 4 K.1 0 N.1 0 0) (by rw [hs5]) rfl hlen hh
    refine ⟨_,_,_,_,hw5.trans hp3,by simp,?_,?_⟩
    .intro els nx ns ss
     obtain ⟨nx',hx⟩:=ha3 els (ns++[z]) (ss++[3])
     refine ⟨nx',?_⟩
     rw [hfirst,ha,ha2,<- hus,hx];simp
    .intro h4 d hd
     have h4':e.f4.or e2.f4=none:=h4
     obtain ⟨x,y,g1,g2,g3⟩:=ht3 (zbY h4').2 d (by rw [hw5.deep];exact hd)
     refine ⟨({p:=p,key:=zcx (zaf t q),n:=zbx (zaf t z),m:=0},x,y),⟨[p,q,z],wb,2,rfl,Or.inr (Or.inr (Or.inr (Or.inl ⟨p,q,z,rfl,rfl,hb,rfl⟩))),?_,Or.inr (Or.inl ⟨rfl,g1⟩)⟩,?_,?_⟩
     .intro w hw;simp at hw;rcases hw with rfl|rfl|rfl
      .rw [hb];decide
      .exact zfK h0
      .exact zc7 h02
     .rw [g2,hfl];unfold zhJ;rw [zfP (h:=⟨p,zcx (zaf t q),zbx (zaf t z),0⟩) _ _ hb,hv,hv2]
     .intro he
      have he':e.f3.or e2.f3=none:=he
      obtain ⟨l1,l2⟩:=h3 (zbY he').1
      obtain ⟨g4,g5,g6⟩:=g3 (zbY he').2
      refine ⟨⟨Or.inr (Or.inr (Or.inr (Or.inl ⟨hb,l1,l2,rfl⟩))),g4,g5⟩,fun hh=>?_⟩
      show e.f5.or e2.f5=_
      rw [h5,g6 (by rw [hw5.heavy];exact hh),hw5.heavy]
      unfold hv1
      rw [if_neg (by show ¬ zaf t p=zax;rw [hb];decide)];rfl
   .have:=zg3 hblk (st:=s5) (i:=N.2.2.fl.length) hlen hh els (ns++[z]) (ss++[3])
    rw [hfirst,ha,ha2,<- hus];exact this
theorem zmz {t:ByteArray}{blk:RSt->Bool×RSt}{st:RSt}{p:Nat×Nat}{r:List (Nat×Nat)}(hu:st.us=p::r){n:Nat}(hblk:zgW t blk n)(hn:st.us.length<=n+1)(hb:zaf t p=zbd):zog t st (zfv t blk st 5):=by
 obtain ⟨M,hM⟩:∃ M,M=za5 t (za4 st) 6:=⟨_,rfl⟩
 obtain ⟨K,hK⟩:∃ K,K=zdt t M.2.2 5:=⟨_,rfl⟩
 obtain ⟨N,hN⟩:∃ N,N=za5 t K.2.2 999:=⟨_,rfl⟩
 obtain ⟨s5,hs5⟩:∃ s5:RSt,s5={N.2.2 with fl:=N.2.2.fl++[Nd.mk 5 K.1 M.1 N.1 0 0]}:=⟨_,rfl⟩
 have hE:zfv t blk st 5=if M.2.1 then (if K.2.1 then (if N.2.1 then zba t blk s5 N.2.2.fl.length else (false,N.2.2)) else (false,K.2.2)) else (false,M.2.2):=by rw [hs5,hN,hK,hM];rfl
 have hfirst:∀ els nx ns ss,zdz t st.us ⟨[0],els,nx,ns,ss⟩=zdz t (za4 st).us ⟨[4,2,3,6],els,true,ns,ss⟩:=by
  intro els nx ns ss;rw [zhQ hu,hu,zbm,hb];rfl
 rw [hE]
 cases h1:M.2.1 with
 | false=>
  refine ⟨fun hh=>absurd hh (by simp),fun _ els nx ns ss _ _=>?_⟩
  rw [if_neg (by simp)]
  have:=zeS (t:=t) (st:=za4 st) (s:=4) (most:=6) (Or.inr (Or.inl rfl)) (by rw [<- hM];exact h1) [2,3,6] els true ns ss
  rw [<- hM] at this
  rw [hfirst];exact this
 | true=>
  rw [if_pos rfl]
  have hk1:=zeT (t:=t) (st:=za4 st) (s:=4) (most:=6) rfl (Or.inr (Or.inl rfl)) (by rw [<- hM];exact h1)
  rw [<- hM] at hk1
  obtain ⟨y1,e1,hp1,h01,hv1,hf1,h51,h31,ha1⟩:=hk1
  cases h:K.2.1 with
  | false=>
   refine ⟨fun hh=>absurd hh (by simp),fun _ els nx ns ss _ _=>?_⟩
   rw [if_neg (by simp)]
   have:=znq (t:=t) (st:=M.2.2) (k:=5) (Or.inr (Or.inr rfl)) (by rw [<- hK];exact h) [3,6] els true (ns++[y1]) (ss++[4])
   rw [<- hK] at this
   rw [hfirst,ha1];exact this
  | true=>
   rw [if_pos rfl]
   have hk:=znr (t:=t) (st:=M.2.2) (k:=5) (Or.inr (Or.inr rfl)) (by rw [<- hK];exact h)
   rw [<- hK] at hk
   obtain ⟨q,hp,h0,hv,hf,ha⟩:=hk
   cases h2:N.2.1 with
   | false=>
    refine ⟨fun hh=>absurd hh (by simp),fun _ els nx ns ss _ _=>?_⟩
    rw [if_neg (by simp)]
    have:=zeS (t:=t) (st:=K.2.2) (s:=3) (most:=999) (Or.inl rfl) (by rw [<- hN];exact h2) [6] els true (ns++[y1]) (ss++[4])
    rw [<- hN] at this
    rw [hfirst,ha1,ha];exact this
   | true=>
    rw [if_pos rfl]
    have hk2:=zeT (t:=t) (st:=K.2.2) (s:=3) (most:=999) rfl (Or.inl rfl) (by rw [<- hN];exact h2)
    rw [<- hN] at hk2
    obtain ⟨z,e,hp2,h02,hv2,hf2,h5,h3,ha2⟩:=hk2
    have hw:=(((Piece.word hu (zdJ (s:=zaf t p) (by rw [hb];decide)).1).trans hp1).trans hp).trans hp2
    simp only [Gh.nil_add,Gh.add_nil,List.nil_append,List.append_nil,List.cons_append] at hw
    have hw5:Piece t st s5 [p,y1,q,z] [y1,z] [4,3] (e1.add e):=by rw [hs5];exact hw.fl st.fl _
    have hlen:s5.us.length<=n:=by have:=congrArg List.length hw5.us;simp at this;omega
    have hus:s5.us=N.2.2.us:=by rw [hs5]
    have hfl:N.2.2.fl=st.fl:=by rw [hf2,hf,hf1];rfl
    refine ⟨fun hh=>?_,fun hh els nx ns ss _ _=>?_⟩
    .obtain ⟨wb,a,b,e2,hp3,ha3,ht3⟩:=zg4 hblk (st:=s5) (fl0:=N.2.2.fl) (nd:=Nd.mk 5 K.1 M.1 N.1 0 0) (by rw [hs5]) rfl hlen hh
     refine ⟨_,_,_,_,hw5.trans hp3,by simp,?_,?_⟩
     .intro els nx ns ss
      obtain ⟨nx',hx⟩:=ha3 els (ns++[y1]++[z]) (ss++[4]++[3])
      refine ⟨nx',?_⟩
      rw [hfirst,ha1,ha,ha2,<- hus,hx];simp
     .intro h4 d hd
      have h4':(e1.add e).f4.or e2.f4=none:=h4
      obtain ⟨x,y,g1,g2,g3⟩:=ht3 (zbY h4').2 d (by rw [hw5.deep];exact hd)
      refine ⟨({p:=p,key:=zcx (zaf t q),n:=zbx (zaf t z),m:=zbx (zaf t y1)},x,y),⟨[p,y1,q,z],wb,2,rfl,Or.inr (Or.inr (Or.inr (Or.inr (Or.inl ⟨p,y1,q,z,rfl,rfl,hb,rfl⟩)))),?_,Or.inr (Or.inl ⟨rfl,g1⟩)⟩,?_,?_⟩
      .intro w hw;simp at hw;rcases hw with rfl|rfl|rfl|rfl
       .rw [hb];decide
       .exact zc7 h01
       .exact zfK h0
       .exact zc7 h02
      .rw [g2,hfl];unfold zhJ;rw [zee (h:=⟨p,zcx (zaf t q),zbx (zaf t z),zbx (zaf t y1)⟩) _ _ hb,hv,hv2,hv1]
      .intro he
       have he':(e1.f3.or e.f3).or e2.f3=none:=he
       obtain ⟨he1,he2⟩:=zbY he'
       obtain ⟨l1,l2⟩:=h3 (zbY he1).2
       obtain ⟨l3,l4⟩:=h31 (zbY he1).1
       obtain ⟨g4,g5,g6⟩:=g3 he2
       refine ⟨⟨Or.inr (Or.inr (Or.inr (Or.inr (Or.inl ⟨hb,l1,l2,l3,l4⟩)))),g4,g5⟩,fun hh=>?_⟩
       show (e1.f5.or e.f5).or e2.f5=_
       rw [h51,h5,g6 (by rw [hw5.heavy];exact hh),hw5.heavy]
       unfold Herald.hv1
       rw [if_neg (by show ¬ zaf t p=zax;rw [hb];decide)];rfl
    .have:=zg3 hblk (st:=s5) (i:=N.2.2.fl.length) hlen hh els (ns++[y1]++[z]) (ss++[4]++[3])
     rw [hfirst,ha1,ha,ha2,<- hus];exact this
theorem zk0 {t:ByteArray}{blk:RSt->Bool×RSt}{st:RSt}{p:Nat×Nat}{r:List (Nat×Nat)}(hu:st.us=p::r){n:Nat}(hblk:zgW t blk n)(hn:st.us.length<=n+1)(hb:zaf t p=zax):zog t st (zfv t blk st 6):=by
 obtain ⟨N,hN⟩:∃ N,N=za5 t (za4 st) 9:=⟨_,rfl⟩
 obtain ⟨s5,hs5⟩:∃ s5:RSt,s5={N.2.2 with fl:=N.2.2.fl++[Nd.mk 6 0 N.1 0 0 0]}:=⟨_,rfl⟩
 have hE:zfv t blk st 6=if N.2.1 then zbg t blk s5 N.2.2.fl.length N.1 (atR t st.us:Nat) else (false,N.2.2):=by rw [hs5,hN];rfl
 have hfirst:∀ els nx ns ss,zdz t st.us ⟨[0],els,nx,ns,ss⟩=zdz t (za4 st).us ⟨[5,6],els,false,ns,ss⟩:=by
  intro els nx ns ss;rw [zhQ hu,hu,zbm,hb];rfl
 have hat:(atR t st.us:Nat)=p.1:=by rw [hu];rfl
 rw [hE]
 cases h2:N.2.1 with
 | false=>
  refine ⟨fun hh=>absurd hh (by simp),fun _ els nx ns ss _ _=>?_⟩
  rw [if_neg (by simp)]
  have:=zeS (t:=t) (st:=za4 st) (s:=5) (most:=9) (Or.inr (Or.inr rfl)) (by rw [<- hN];exact h2) [6] els false ns ss
  rw [<- hN] at this
  rw [hfirst];exact this
 | true=>
  rw [if_pos rfl]
  have hk2:=zeT (t:=t) (st:=za4 st) (s:=5) (most:=9) rfl (Or.inr (Or.inr rfl)) (by rw [<- hN];exact h2)
  rw [<- hN] at hk2
  obtain ⟨z,e,hp2,h02,hv2,hf2,h5,h3,ha2⟩:=hk2
  have hw:=(Piece.word hu (zdJ (s:=zaf t p) (by rw [hb];decide)).1).trans hp2
  simp only [Gh.nil_add,List.nil_append,List.cons_append] at hw
  have hw5:Piece t st s5 [p,z] [z] [5] e:=by rw [hs5];exact hw.fl st.fl _
  have hlen:s5.us.length<=n:=by have:=congrArg List.length hw5.us;simp at this;omega
  have hus:s5.us=N.2.2.us:=by rw [hs5]
  have hfl:N.2.2.fl=st.fl:=by rw [hf2];rfl
  refine ⟨fun hh=>?_,fun hh els nx ns ss _ _=>?_⟩
  .obtain ⟨wb,a,b,e2,hp3,ha3,ht3⟩:=zkO hblk (st:=s5) (fl0:=N.2.2.fl) (nd:=Nd.mk 6 0 N.1 0 0 0) (by rw [hs5]) hlen hh
   refine ⟨_,_,_,_,hw5.trans hp3,by simp,?_,?_⟩
   .intro els nx ns ss
    obtain ⟨nx',hx⟩:=ha3 els (ns++[z]) (ss++[5])
    refine ⟨nx',?_⟩
    rw [hfirst,ha2,<- hus,hx];simp
   .intro h4 d hd
    have h4':e.f4.or e2.f4=none:=h4
    obtain ⟨x,g1,g2,g3⟩:=ht3 (zbY h4').2 d (by rw [hw5.deep];exact hd)
    refine ⟨({p:=p,key:=0,n:=zbx (zaf t z),m:=0},x,zcn d),⟨[p,z],wb,1,rfl,Or.inr (Or.inr (Or.inr (Or.inr (Or.inr ⟨p,z,rfl,rfl,hb,rfl⟩)))),?_,Or.inr (Or.inr ⟨rfl,g1,rfl⟩)⟩,?_,?_⟩
    .intro w hw;simp at hw;rcases hw with rfl|rfl
     .rw [hb];decide
     .exact zc7 h02
    .rw [g2,hfl];unfold zhJ;rw [zdN (h:=⟨p,0,zbx (zaf t z),0⟩) _ _ hb,hv2];simp only [zho,List.append_nil];rfl
    .intro he
     have he':e.f3.or e2.f3=none:=he
     obtain ⟨l1,l2⟩:=h3 (zbY he').1
     obtain ⟨g4,g5⟩:=g3 (zbY he').2
     refine ⟨⟨Or.inr (Or.inr (Or.inr (Or.inr (Or.inr ⟨hb,l1,l2,rfl,rfl⟩)))),g4,zc6 t d⟩,fun _=>?_⟩
     show e.f5.or e2.f5=_
     rw [h5,g5,hw5.heavy,hv2,hat]
     unfold hv1
     rw [if_pos (show zaf t p=zax from hb)]
     simp only [zkF,Option.or_none,Option.none_or]
  .have:=zkN hblk (st:=s5) (i:=N.2.2.fl.length) (times:=N.1) (p:=(atR t st.us:Nat)) hlen hh els (ns++[z]) (ss++[5])
   rw [hfirst,ha2,<- hus];exact this
theorem zgj {s:List UInt8}(hk:¬ s=zci/\¬ s=zcB/\¬ s=zcN/\¬ s=zec/\¬ s=zbd/\¬ s=zax)(p:Nat×Nat)(els:List Bool)(nx:Bool)(ns:List (Nat×Nat))(ss:List Int)(hs:s=zbG->els=[]):
  (zds s p ⟨[0],els,nx,ns,ss⟩).2=false:=by
 obtain ⟨h1,h2,h3,h4,h5,h6⟩:=hk
 have e0:zds s p ⟨[0],els,nx,ns,ss⟩=zcp s 0 ⟨[0],els,nx,ns,ss⟩:=rfl
 rw [e0]
 unfold zcp
 rw [if_neg h1,if_neg h2,if_neg h3,if_neg h4,if_neg h5,if_neg h6]
 by_cases h7:s=zdq
 .rw [if_pos h7];rfl
 rw [if_neg h7]
 by_cases h8:s=zbG
 .rw [if_pos h8,hs h8]
 .rw [if_neg h8]
theorem ze1 {t:ByteArray}{blk:RSt->Bool×RSt}{n:Nat}(hblk:zgW t blk n)(st:RSt)(hn:st.us.length<=n+1):zog t st (zaL t blk st):=by
 rw [zjS]
 have hz:zbu (zaD t st)=0->(∀ p r,st.us=p::r->¬ zaf t p=zci/\¬ zaf t p=zcB/\¬ zaf t p=zcN/\¬ zaf t p=zec/\¬ zaf t p=zbd/\¬ zaf t p=zax)->zog t st (zfv t blk st (zbu (zaD t st))):=by
  intro h0 hno
  rw [h0]
  have hE:zfv t blk st 0=(false,st):=rfl
  rw [hE]
  refine ⟨fun hh=>absurd hh (by simp),fun _ els nx ns ss h1 h2=>?_⟩
  cases hu:st.us with
  | nil=>
   have:=h2 hu
   rw [zeo,if_pos (Or.inl ?_)]
   .rfl
   .cases els with
    | nil=>exact absurd rfl this
    | cons a b=>simp
  | cons p r=>
   rw [zbm,if_neg]
   .rfl
   .rw [zgj (hno p r hu) p els nx ns ss (by rw [<- zbk hu];exact h1)];simp
 cases hu:st.us with
 | nil=>exact hz (by rw [zgd hu];rfl) (fun p r h=>by rw [hu] at h;cases h)
 | cons p r=>
  have hby:=zbk (t:=t) hu
  rcases zmi (zaf t p) with ⟨h,k⟩|⟨h,k⟩|⟨h,k⟩|⟨h,k⟩|⟨h,k⟩|⟨h,k⟩|⟨k,h⟩
  .rw [hby,k];exact zn2 hu h
  .rw [hby,k];exact zn4 hu h
  .rw [hby,k];exact zn3 hu h
  .rw [hby,k];exact zo6 hu hblk hn h
  .rw [hby,k];exact zmz hu hblk hn h
  .rw [hby,k];exact zk0 hu hblk hn h
  .exact hz (by rw [hby,k]) (fun p' r' h'=>by rw [hu] at h';cases h';exact h)
theorem HdOk.head {t:ByteArray}{wo:List (Nat×Nat)}{h:Hd}{f:Nat}(hh:HdOk t wo h f):∃ p q,wo=p::q/\¬ zaf t p=zbV/\¬ zaf t p=zdq:=by
 rcases hh with ⟨p,q,rfl,_,hb,_⟩|⟨p,q,rfl,_,hb,_⟩|⟨p,rfl,_,hb,_⟩|⟨p,q,r,rfl,_,hb,_⟩|⟨p,q,r,s,rfl,_,hb,_⟩|⟨p,q,rfl,_,hb,_⟩
 all_goals exact ⟨_,_,rfl,by rw [hb];decide,by rw [hb];decide⟩
theorem GL.head {t:ByteArray}{T:Type}{sub:List (Nat×Nat)->T->Prop}{nil:T}{ws:List (Nat×Nat)}{l:List (Hd×T×T)}(h:GL t sub nil ws l):zdE t ws zbV/\zdE t ws zdq:=by
 cases l with
 | nil=>rw [GL] at h;subst h;exact ⟨fun p hp=>(by cases hp),fun p hp=>(by cases hp)⟩
 | cons x r=>
  rw [GL] at h
  obtain ⟨wo,wb,wr,f,rfl,hh,_⟩:=h
  obtain ⟨p,q,rfl,h1,h2⟩:=hh.head
  refine ⟨fun z hz=>?_,fun z hz=>?_⟩
  .simp at hz;subst hz;exact h1
  .simp at hz;subst hz;exact h2
def zpw {d:Nat}(x:Hd×Tree d×Tree d)(l:Tree (d+1)):Tree (d+1):=(x::l.list:List (Hd×Tree d×Tree d))
theorem St1.cons {t:ByteArray}{d:Nat}{ws wr:List (Nat×Nat)}{x:Hd×Tree d×Tree d}{l:Tree (d+1)}(h:St1 t d ws x)(hl:GT t (d+1) wr l):GT t (d+1) (ws++wr) (zpw x l):=by
 have hl:GL t (GT t d) (zcn d) wr l.list:=hl
 show GL t (GT t d) (zcn d) (ws++wr) (x::l.list)
 rw [GL]
 have hd:=hl.head
 obtain ⟨wo,wb,f,rfl,h1,h2,h3⟩:=h
 refine ⟨wo,wb,wr,f,by simp,h1,h2,hl,?_⟩
 rcases h3 with ⟨rfl,rfl,h4,h5⟩|⟨rfl,h4|h4⟩|⟨rfl,⟨o,wa,c,rfl,h5,h6,h7⟩,h8⟩
 .exact Or.inl ⟨rfl,rfl,h4,h5,hd.1⟩
 .obtain ⟨o,wa,c,rfl,h5,h6,h7,h8⟩:=h4
  exact Or.inr (Or.inl ⟨o,wa,c,by omega,rfl,h5,h6,h7,h8,hd.2⟩)
 .obtain ⟨o,wa,c,e,o2,wa2,c2,rfl,h5,h6,h7,h8,h9,h10,h11⟩:=h4
  exact Or.inr (Or.inr ⟨o,wa,c,e,o2,wa2,c2,rfl,rfl,h5,h6,h7,h8,h9,h10,h11⟩)
 .exact Or.inr (Or.inl ⟨o,wa,c,by omega,rfl,h5,h6,h7,h8,hd.2⟩)
theorem zl6 (t:ByteArray)(d:Nat)(x:Hd×Tree d×Tree d)(l:Tree (d+1)):zbi t (d+1) (zpw x l)=zhJ t d x++zbi t (d+1) l:=by
 show (x::l.list).flatMap (fun x=>zhJ t d x)=zhJ t d x++l.list.flatMap (fun x=>zhJ t d x)
 rw [List.flatMap_cons]
theorem zkw {t:ByteArray}{stm:RSt->Bool×RSt}{n:Nat}(hst:∀ st:RSt,st.us.length<=n->zog t st (stm st))(behind:List UInt8)(hbeh:behind=zbG\/behind=[]):∀ (f:Nat) (st:RSt),st.us.length<f->st.us.length<=n ->
  ((zed t stm behind f st).1=true->zpa t st (zed t stm behind f st).2 behind) /\
  ((zed t stm behind f st).1=false->∀ els nx ns ss,(behind=zbG->els≠[])->(behind=[]->els=[])->zdz t st.us ⟨[0],els,nx,ns,ss⟩=.inl (atR t (zed t stm behind f st).2.us)):=by
 intro f
 induction f with
 | zero=>intro st h;omega
 | succ f ih=>
  intro st hf hn
  rw [zed]
  by_cases hb:zaD t st=behind
  .rw [if_pos hb]
   refine ⟨fun _=>⟨[],[],[],Gh.nil,Piece.refl t st,hb,fun els nx ns ss=>⟨nx,by simp⟩,fun _ d _=>⟨zcn (d+1),?_,?_,fun _=>⟨zc6 t (d+1),fun _=>rfl⟩⟩⟩,fun hh=>absurd hh (by simp)⟩
   .show GL t (GT t d) (zcn d) [] ([]:List (Hd×Tree d×Tree d));rw [GL]
   .show st.fl=st.fl++[];simp
  .rw [if_neg hb]
   obtain ⟨hy,hno⟩:=hst st hn
   cases hs:(stm st).1 with
   | false=>
    rw [if_neg (by simp)]
    refine ⟨fun hh=>absurd hh (by simp),fun _ els nx ns ss h1 h2=>hno hs els nx ns ss ?_ ?_⟩
    .intro hk
     rcases hbeh with h|h
     .rw [h] at hb;exact absurd hk hb
     .exact h2 h
    .intro hu
     rcases hbeh with h|h
     .exact h1 h
     .rw [h] at hb;exact absurd (zgd hu) hb
   | true=>
    rw [if_pos rfl]
    obtain ⟨ws,a,b,e,hp,hne,hacc,htree⟩:=hy hs
    have hlen:(stm st).2.us.length<st.us.length:=by
     have:=congrArg List.length hp.us
     rw [List.length_append] at this
     have:0<ws.length:=List.length_pos_iff.mpr hne
     omega
    obtain ⟨iy,ino⟩:=ih (stm st).2 (by omega) (by omega)
    refine ⟨fun hh=>?_,fun hh els nx ns ss h1 h2=>?_⟩
    .obtain ⟨ws2,a2,b2,e2,hp2,hb2,hacc2,htree2⟩:=iy hh
     refine ⟨ws++ws2,a++a2,b++b2,e.add e2,hp.trans hp2,hb2,?_,?_⟩
     .intro els nx ns ss
      obtain ⟨nx1,x1⟩:=hacc els nx ns ss
      obtain ⟨nx2,x2⟩:=hacc2 els nx1 (ns++a) (ss++b)
      exact ⟨nx2,by rw [x1,x2];simp⟩
     .intro h4 d hd
      have h4':e.f4.or e2.f4=none:=h4
      obtain ⟨x,g1,g2,g3⟩:=htree (zbY h4').1 d hd
      obtain ⟨tr,k1,k2,k3⟩:=htree2 (zbY h4').2 d (by rw [hp.deep];exact hd)
      refine ⟨zpw x tr,g1.cons k1,?_,?_⟩
      .rw [k2,g2,zl6,List.append_assoc]
      .intro h3
       have h3':e.f3.or e2.f3=none:=h3
       obtain ⟨⟨m1,m2,m3⟩,m4⟩:=g3 (zbY h3').1
       obtain ⟨m5,m6⟩:=k3 (zbY h3').2
       refine ⟨?_,fun hh=>?_⟩
       .intro y hy
        have hy':y∈(x::tr.list):=hy
        rcases List.mem_cons.mp hy' with rfl|hy'
        .exact ⟨m1,m2,m3⟩
        .exact m5 y hy'
       .show e.f5.or e2.f5=_
        rw [m4 hh,m6 (by rw [hp.heavy];exact hh),hp.heavy];rfl
    .obtain ⟨nx1,x1⟩:=hacc els nx ns ss
     rw [x1]
     exact ino hh els nx1 (ns++a) (ss++b) h1 h2
theorem zk6 (t:ByteArray):∀ n:Nat,zgW t (zeH t n zbG) n:=by
 intro n
 induction n with
 | zero=>intro st h;omega
 | succ n ih=>
  intro st h
  obtain ⟨h1,h2⟩:=zkw (t:=t) (stm:=zaL t (zeH t n zbG)) (n:=n+1) (fun st hn=>ze1 ih st hn) zbG (Or.inl rfl) (st.us.length+1) st (by omega) (by omega)
  exact ⟨h1,fun hh els nx ns ss he=>h2 hh els nx ns ss (fun _=>he) (fun h=>absurd h (by decide))⟩
def zdd (t:ByteArray):RSt:={us:=za2 t.data.toList,fl:=[],deep:=0,heavy:=1,fault:=0,place:=0}
def zd9 (t:ByteArray):Bool×RSt:=zed t (zaL t (zeH t 401 zbG)) [] ((zdd t).us.length+1) (zdd t)
theorem zlQ {t:ByteArray}{p:Nat×Nat}(h1:p.1<p.2)(h2:p.2<=t.size):¬ zaf t p=[]:=by
 intro h
 have:=congrArg List.length h
 unfold zaf at this
 simp at this
 omega
theorem zpp (t:ByteArray)(ht:t.size<=400)(h:(zd9 t).1=false):zcF t=(2,(atR t (zd9 t).2.us:Int)):=by
 have hw:=zbr t.data.toList
 have hsz:t.data.toList.length=t.size:=by simp
 have:=(zkw (t:=t) (stm:=zaL t (zeH t 401 zbG)) (n:=401+1) (fun st hn=>ze1 (zk6 t 401) st hn) [] (Or.inr rfl) ((zdd t).us.length+1) (zdd t) (by omega) (by show (za2 t.data.toList).length<=_;omega)).2 h [] false [] [] (fun h=>absurd h (by decide)) (fun _=>rfl)
 rw [zhc]
 have e:zdz t (za2 t.data.toList) zeb=.inl (atR t (zd9 t).2.us):=this
 rw [e]
theorem zn8 (t:ByteArray)(ht:t.size<=400)(h:(zd9 t).1=true):∃ e:Gh,((zd9 t).2.fault,(zd9 t).2.place)=zov e /\
  (zcF t=match e.f3 with
   | some p=>(3,p)
   | none=>(0,0))/\zdp t (za2 t.data.toList) 0=e.f4.getD (-1)/\(∀ p,e.f4=some p->0<=p) /\
  (e.f4=none->∃ tr:Tree 5,GT t 5 (za2 t.data.toList) tr/\(zd9 t).2.fl=zbi t 5 tr/\(e.f3=none->GoodT t 5 tr/\zce t 5 tr 1=e.f5.getD (-1)/\(∀ p,e.f5=some p->0<=p))):=by
 have hw:=zbr t.data.toList
 have hsz:t.data.toList.length=t.size:=by simp
 obtain ⟨ws,a,b,e,hp,hb,hacc,htree⟩:=(zkw (t:=t) (stm:=zaL t (zeH t 401 zbG)) (n:=401+1) (fun st hn=>ze1 (zk6 t 401) st hn) [] (Or.inr rfl) ((zdd t).us.length+1) (zdd t) (by omega) (by show (za2 t.data.toList).length<=_;omega)).1 h
 have hp':Piece t (zdd t) (zd9 t).2 ws a b e:=hp
 have hend:(zd9 t).2.us=[]:=by
  cases hu:(zd9 t).2.us with
  | nil=>rfl
  | cons p q=>
   exfalso
   have hb':zaD t (zd9 t).2=[]:=hb
   rw [zbk hu] at hb'
   have hin:p∈za2 t.data.toList:=by
    have:za2 t.data.toList=ws++(zd9 t).2.us:=hp'.us
    rw [this,hu];simp
   have hbd:=zf5 t.data.toList p hin
   exact zlQ hbd.1 (by omega) hb'
 have hws:za2 t.data.toList=ws:=by
  have:za2 t.data.toList=ws++(zd9 t).2.us:=hp'.us
  rw [this,hend];simp
 refine ⟨e,?_,?_,?_,?_,?_⟩
 .have:=hp'.ev Gh.nil rfl
  rw [Gh.nil_add] at this
  exact this
 .obtain ⟨nx,hx⟩:=hacc [] false [] []
  rw [zhc]
  have e1:zdz t (za2 t.data.toList) zeb=zdz t (zd9 t).2.us ⟨[0],[],nx,[]++a,[]++b⟩:=hx
  rw [e1,hend,zeo,if_neg (by simp)]
  show zfT t ([]++a) ([]++b)=_
  (rw [List.nil_append,List.nil_append,zpQ,hp'.e3]) <;> (cases zgo t a b <;> rfl)
 .rw [zpx,hws,hp'.e4];rfl
 .intro p hpp
  rw [hp'.e4] at hpp
  exact zm8 t _ _ p hpp
 .intro h4
  obtain ⟨tr,g1,g2,g3⟩:=htree h4 4 rfl
  refine ⟨tr,by rw [hws];exact g1,?_,?_⟩
  .have:(zd9 t).2.fl=[]++zbi t 5 tr:=g2
   rw [this];simp
  .intro h3
   obtain ⟨k1,k2⟩:=g3 h3
   have k3:e.f5=hvT t 5 tr 1:=k2 (show (1:Int)<=64 by omega)
   have:=zli t 5 tr 1
   rw [k3]
   exact ⟨k1,this.1,this.2⟩
theorem GL.size {t:ByteArray}{d:Nat}(hs:∀ ws x,GT t d ws x->zaQ d x<=ws.length):∀ (l:List (Hd×Tree d×Tree d)) (ws:List (Nat×Nat)),GL t (GT t d) (zcn d) ws l->(l.map fun x=>1+zaQ d x.2.1+zaQ d x.2.2).sum<=ws.length:=by
 have hnil:zaQ d (zcn d)=0:=by cases d <;> rfl
 intro l
 induction l with
 | nil=>intro ws h;simp
 | cons x r ih=>
  intro ws h
  rw [GL] at h
  obtain ⟨wo,wb,wr,f,rfl,hh,_,hr,hb⟩:=h
  obtain ⟨p,q,rfl,_⟩:=hh.head
  have h1:=ih wr hr
  rw [List.map_cons,List.sum_cons]
  have h2:zaQ d x.2.1+zaQ d x.2.2<=wb.length:=by
   rcases hb with ⟨_,rfl,e1,e2,_⟩|⟨o,wa,c,_,rfl,_,_,ha,e2,_⟩|⟨o,wa,c,e,o2,wa2,c2,_,rfl,_,_,_,_,_,ha,ha2⟩
   .rw [e1,e2,hnil];simp
   .have:=hs _ _ ha
    rw [e2,hnil];simp;omega
   .have:=hs _ _ ha
    have:=hs _ _ ha2
    simp;omega
  simp only [List.length_append,List.length_cons]
  omega
theorem GT.size {t:ByteArray}:∀ (d:Nat) (ws:List (Nat×Nat)) (x:Tree d),GT t d ws x->zaQ d x<=ws.length:=by
 intro d
 induction d with
 | zero=>intro ws x _;exact Nat.zero_le _
 | succ d ih=>intro ws x h;exact GL.size ih x.list ws h
def zmM (t:ByteArray)(r:Int×Int×Int):Prop:=
 (∃ f p,zcF t=(f,p)/\f≠0/\r=(0,f,p)) \/
 (∃ p,zcF t=(0,0)/\zdp t (za2 t.data.toList) 0=p/\0<=p/\r=(0,4,p)) \/
 (∃ tr:Tree 5,zcF t=(0,0)/\zdp t (za2 t.data.toList) 0=-1/\GT t 5 (za2 t.data.toList) tr/\GoodT t 5 tr/\zaQ 5 tr<=400 /\
  ((∃ p,zce t 5 tr 1=p/\0<=p/\r=(0,5,p))\/(zce t 5 tr 1=-1/\100000<zcy (zay t 5 tr).1 (zay t 5 tr).2/\r=(0,6,0)) \/
   (zce t 5 tr 1=-1/\¬ 100000<zcy (zay t 5 tr).1 (zay t 5 tr).2/\r=(zcy (zay t 5 tr).1 (zay t 5 tr).2,0,0))))
def zgX (t:ByteArray)(r:Int×Int×Int):Prop:=
 ((zd9 t).1=false/\r=(0,2,(atR t (zd9 t).2.us:Int))) \/
 ((zd9 t).1=true/\(zd9 t).2.fault≠0/\r=(0,(zd9 t).2.fault,(zd9 t).2.place)) \/
 ((zd9 t).1=true/\(zd9 t).2.fault=0/\∃ tr:Tree 5,(zd9 t).2.fl=zbi t 5 tr/\GoodT t 5 tr/\zaQ 5 tr<=400 /\
  ((100000<zcy (zay t 5 tr).1 (zay t 5 tr).2/\r=(0,6,0))\/(¬ 100000<zcy (zay t 5 tr).1 (zay t 5 tr).2/\r=(zcy (zay t 5 tr).1 (zay t 5 tr).2,0,0))))
theorem zqU (t:ByteArray)(ht:t.size<=400):∃ r,zmM t r/\zgX t r:=by
 cases h:(zd9 t).1 with
 | false=>
  exact ⟨(0,2,(atR t (zd9 t).2.us:Int)),Or.inl ⟨2,_,zpp t ht h,by decide,rfl⟩,Or.inl ⟨h,rfl⟩⟩
 | true=>
  obtain ⟨e,he,hf,hd,hdp,htree⟩:=zn8 t ht h
  have hfst:(zd9 t).2.fault=(zov e).1:=congrArg Prod.fst he
  have hsnd:(zd9 t).2.place=(zov e).2:=congrArg Prod.snd he
  obtain ⟨f3,f4,f5⟩:=e
  cases f3 with
  | some p=>
   refine ⟨(0,3,p),Or.inl ⟨3,p,hf,by decide,rfl⟩,Or.inr (Or.inl ⟨h,by rw [hfst];show (3:Int)≠0;decide,?_⟩)⟩
   rw [hfst,hsnd];rfl
  | none=>
   cases f4 with
   | some p=>
    refine ⟨(0,4,p),Or.inr (Or.inl ⟨p,hf,hd,hdp p rfl,rfl⟩),Or.inr (Or.inl ⟨h,by rw [hfst];show (4:Int)≠0;decide,?_⟩)⟩
    rw [hfst,hsnd];rfl
   | none=>
    obtain ⟨tr,g1,g2,g3⟩:=htree rfl
    obtain ⟨g4,g5,g6⟩:=g3 rfl
    have hsz:zaQ 5 tr<=400:=by
     have h1:=GT.size 5 _ tr g1
     have h2:=zbr t.data.toList
     have h3:t.data.toList.length=t.size:=by simp
     omega
    cases f5 with
    | some p=>
     refine ⟨(0,5,p),Or.inr (Or.inr ⟨tr,hf,hd,g1,g4,hsz,Or.inl ⟨p,g5,g6 p rfl,rfl⟩⟩),Or.inr (Or.inl ⟨h,by rw [hfst];show (5:Int)≠0;decide,?_⟩)⟩
     rw [hfst,hsnd];rfl
    | none=>
     have h0:(zd9 t).2.fault=0:=by rw [hfst];rfl
     by_cases hl:100000<zcy (zay t 5 tr).1 (zay t 5 tr).2
     .exact ⟨(0,6,0),Or.inr (Or.inr ⟨tr,hf,hd,g1,g4,hsz,Or.inr (Or.inl ⟨g5,hl,rfl⟩)⟩),Or.inr (Or.inr ⟨h,h0,tr,g2,g4,hsz,Or.inl ⟨hl,rfl⟩⟩)⟩
     .exact ⟨_,Or.inr (Or.inr ⟨tr,hf,hd,g1,g4,hsz,Or.inr (Or.inr ⟨g5,hl,rfl⟩)⟩),Or.inr (Or.inr ⟨h,h0,tr,g2,g4,hsz,Or.inr ⟨hl,rfl⟩⟩)⟩
end Go.Proofs.Herald
