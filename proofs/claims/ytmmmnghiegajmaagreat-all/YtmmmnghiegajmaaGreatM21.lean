import Derived.Test.YtmmmnghiegajmaaGreatM09
set_option maxHeartbeats 1000000
open Go.Proofs.Herald
namespace Go.Proofs.Herald
theorem kI {now:Int}{cs:List am}{f pc:Nat}{x:am}(h:cs[pc]?=some x)(q:List aj)(p:Pr):
  df now cs (f+1) (pc:Nat) q p=if (dA now x (pc:Nat) q p).2.2.1<0 then ((dA now x (pc:Nat) q p).1,(dA now x (pc:Nat) q p).2.1,(dA now x (pc:Nat) q p).2.2.2) else df now cs f (dA now x (pc:Nat) q p).2.2.1 (dA now x (pc:Nat) q p).1 (dA now x (pc:Nat) q p).2.1:=by
 obtain⟨A0,hx⟩:=List.getElem?_eq_some_iff.mp h;rw[df];have h1:((pc:Nat):Int).toNat<cs.length:=by simpa using A0
 rw[dif_pos h1];have h2:cs[((pc:Nat):Int).toNat]=x:=by simpa using hx
 rw[h2]
theorem wk {now:Int}{cs:List am}{f pc:Nat}(h:cs.length<=pc)(q:List aj)(p:Pr):df now cs (f+1) (pc:Nat) q p=(q,p,true):=ER (by simp;omega)
theorem xu {now:Int}{cs:List am}{f pc c:Nat}(h:cs[pc]?=some ⟨8,0,0,(c:Nat)⟩)(q:List aj)(p:Pr):df now cs (f+1) (pc:Nat) q p=df now cs f (c:Nat) q p:=by
 rw[kI h];have e:dA now ⟨8,0,0,(c:Nat)⟩ (pc:Nat) q p=(q,p,((c:Nat):Int),false):=by simp[dA]
 rw[e,if_neg (by first|omega|(simp;done)|(simp;omega))]
theorem ES {now:Int}{cs:List am}{f pc:Nat}{k:Int}(h:cs[pc]?=some ⟨1,k,0,0⟩)(q:List aj)(p:Pr):df now cs (f+1) (pc:Nat) q p=df now cs f ((pc+1:Nat):Int) (aB q p k).1 (aB q p k).2.1:=by
 rw[kI h];have e:dA now ⟨1,k,0,0⟩ (pc:Nat) q p=((aB q p k).1,(aB q p k).2.1,((pc+1:Nat):Int),false):=by simp[dA]
 rw[e,if_neg (by first|omega|(simp;done)|(simp;omega))]
theorem sY {now:Int}{cs:List am}{f pc a:Nat}{b:Int}(h:cs[pc]?=some ⟨4,(a:Nat),b,0⟩)(q:List aj)(p:Pr):df now cs (f+1) (pc:Nat) q p=df now cs f ((pc+1:Nat):Int) q {p with regs:=p.regs.set a b}:=by
 rw[kI h];have e:dA now ⟨4,(a:Nat),b,0⟩ (pc:Nat) q p=(q,{p with regs:=p.regs.set a b},((pc+1:Nat):Int),false):=by simp[dA,eP]
 rw[e,if_neg (by first|omega|(simp;done)|(simp;omega))]
theorem Cv {now:Int}{cs:List am}{f pc a:Nat}(h:cs[pc]?=some ⟨5,(a:Nat),0,0⟩)(q:List aj)(p:Pr)(hr:2*p.regs.getD a 0<=1000000):df now cs (f+1) (pc:Nat) q p=df now cs f ((pc+1:Nat):Int) q {p with regs:=p.regs.set a (2*p.regs.getD a 0)}:=by
 rw[kI h];have e:dA now ⟨5,(a:Nat),0,0⟩ (pc:Nat) q p=(q,{p with regs:=p.regs.set a (2*p.regs.getD a 0)},((pc+1:Nat):Int),false):=by
  have h1:cw p ((a:Nat):Int)=p.regs.getD a 0:=rfl;simp only[dA];rw[h1,if_neg (show ¬ 1000000<2*p.regs.getD a 0 by omega)];simp[eP]
 rw[e,if_neg (by first|omega|(simp;done)|(simp;omega))]
theorem uC {now:Int}{cs:List am}{f pc a c:Nat}(h:cs[pc]?=some ⟨7,(a:Nat),0,(c:Nat)⟩)(q:List aj)(p:Pr)(hr:1<p.regs.getD a 0):df now cs (f+1) (pc:Nat) q p=df now cs f (c:Nat) q {p with regs:=p.regs.set a (p.regs.getD a 0 - 1)}:=by
 rw[kI h];have e:dA now ⟨7,(a:Nat),0,(c:Nat)⟩ (pc:Nat) q p=(q,{p with regs:=p.regs.set a (p.regs.getD a 0 - 1)},((c:Nat):Int),false):=by
  have h1:cw p ((a:Nat):Int)=p.regs.getD a 0:=rfl;simp only[dA];rw[h1,if_pos (show 0<p.regs.getD a 0 by omega),if_pos (show 0<p.regs.getD a 0 - 1 by omega)];simp[eP]
 rw[e,if_neg (by first|omega|(simp;done)|(simp;omega))]
theorem uu {now:Int}{cs:List am}{f pc a c:Nat}(h:cs[pc]?=some ⟨7,(a:Nat),0,(c:Nat)⟩)(q:List aj)(p:Pr)(hr:p.regs.getD a 0=1):df now cs (f+1) (pc:Nat) q p=df now cs f ((pc+1:Nat):Int) q {p with regs:=p.regs.set a 0}:=by
 rw[kI h];have e:dA now ⟨7,(a:Nat),0,(c:Nat)⟩ (pc:Nat) q p=(q,{p with regs:=p.regs.set a 0},((pc+1:Nat):Int),false):=by
  have h1:cw p ((a:Nat):Int)=1:=hr;simp only[dA];rw[h1];simp[eP]
 rw[e,if_neg (by first|omega|(simp;done)|(simp;omega))]
theorem ET {now:Int}{cs:List am}{f pc:Nat}{n:Int}(h:cs[pc]?=some ⟨2,n,0,0⟩)(q:List aj)(p:Pr):df now cs (f+1) (pc:Nat) q p=(q,{dY p now n 0 with els:=((pc+1:Nat):Int)},false):=by
 rw[kI h];simp[dA]
theorem Ge {now:Int}{cs:List am}{f pc:Nat}(h:cs[pc]?=some ⟨0,0,0,0⟩)(q:List aj)(p:Pr):df now cs (f+1) (pc:Nat) q p=(q,p,true):=by
 rw[kI h];simp[dA]
theorem Cp {now:Int}{cs:List am}{f pc c:Nat}{k n:Int}(h:cs[pc]?=some ⟨3,k,n,(c:Nat)⟩)(q:List aj)(p:Pr)(h0:(aB q p k).2.2=0):df now cs (f+1) (pc:Nat) q p=df now cs f (c:Nat) (aB q p k).1 (aB q p k).2.1:=by
 rw[kI h];have e:dA now ⟨3,k,n,(c:Nat)⟩ (pc:Nat) q p=((aB q p k).1,(aB q p k).2.1,((c:Nat):Int),false):=by simp[dA,h0]
 rw[e,if_neg (by first|omega|(simp;done)|(simp;omega))]
theorem AJ {now:Int}{cs:List am}{f pc c:Nat}{k n:Int}(h:cs[pc]?=some ⟨3,k,n,(c:Nat)⟩)(q:List aj)(p:Pr)(h0:¬ (aB q p k).2.2=0):
  df now cs (f+1) (pc:Nat) q p=((aB q p k).1,{dY (aB q p k).2.1 now n (aB q p k).2.2 with tow:=((pc+1:Nat):Int),els:=((c:Nat):Int)},false):=by
 rw[kI h];simp[dA,h0]
theorem xt {now:Int}{cs:List am}{f pc c b:Nat}{k:Int}(h:cs[pc]?=some ⟨6,k,(b:Nat),(c:Nat)⟩)(q:List aj)(p:Pr)(hr:1<=p.regs.getD b 0):
  df now cs (f+1) (pc:Nat) q p=((aB q p k).1,{dY (aB q p k).2.1 now (p.regs.getD b 0) (aB q p k).2.2 with tow:=((c:Nat):Int),els:=((pc+1:Nat):Int)},false):=by
 rw[kI h];have h1:cw p ((b:Nat):Int)=p.regs.getD b 0:=rfl;have h2:cu 1 (p.regs.getD b 0)=p.regs.getD b 0:=by unfold cu;split <;> omega
 have e:dA now ⟨6,k,(b:Nat),(c:Nat)⟩ (pc:Nat) q p=((aB q p k).1,{dY (aB q p k).2.1 now (p.regs.getD b 0) (aB q p k).2.2 with tow:=((c:Nat):Int),els:=((pc+1:Nat):Int)},-1,false):=by
  simp only[dA];rw[h1,h2];simp
 rw[e,if_pos (by simp)]
theorem np {l:List Int}{k:Nat}{v:Int}(h:k<l.length):(l.set k v).getD k 0=v:=by simp[List.getD,h]
theorem kw {l:List Int}{k j:Nat}{v:Int}(h:j≠k):(l.set k v).getD j 0=l.getD j 0:=by
 simp only[List.getD];rw[List.getElem?_set_ne (fun e=>h e.symm)]
theorem Rp.block {t:ByteArray}{cs:List am}{g:List Int}{d n j lv pc:Nat}{x:af d}{l:List It}(hs:ip cs pc (bh t d x lv pc))(ho:kP t d x lv)(h:Rp t cs g n j lv (pc+(bh t d x lv pc).length) l):∃ m,Rp t cs g m j lv pc (bB d x++l):=by
 cases d with
 | zero=>exact⟨n,h⟩
 | succ d=>exact⟨n+1,Or.inr (Or.inr (Or.inl ⟨d,x,l,hs,ho,rfl,h⟩))⟩
theorem Rp.jump {t:ByteArray}{cs:List am}{g:List Int}{n j lv pc c:Nat}{l:List It}(hc:cs[pc]?=some ⟨8,0,0,(c:Nat)⟩)(h:Rp t cs g n j lv c l):Rp t cs g (n+1) (j+1) lv pc l:=Or.inr (Or.inl ⟨j,c,rfl,hc,h⟩)
structure mD (t:ByteArray)(cs:List am)(B:Nat)(c:List aj×Pr×Bool)(d:List aj×TR×Bool):Prop where
 q:c.1=d.1
 done:c.2.2=d.2.2
 id:c.2.1.id=d.2.1.p.id
 tied:c.2.2=false->jh t cs B c.2.1 d.2.1
theorem bt.kind {t:ByteArray}{h:Hd}(g:bt t h):ao t h.p=eA\/ao t h.p=eJ\/ao t h.p=eX\/ao t h.p=dV\/ao t h.p=dL\/ao t h.p=ch:=by
 rcases g with ⟨h,_⟩|⟨h,_⟩|⟨h,_⟩|⟨h,_⟩|⟨h,_⟩|⟨h,_⟩
 .exact Or.inl h
 .exact Or.inr (Or.inl h)
 .exact Or.inr (Or.inr (Or.inl h))
 .exact Or.inr (Or.inr (Or.inr (Or.inl h)))
 .exact Or.inr (Or.inr (Or.inr (Or.inr (Or.inl h))))
 .exact Or.inr (Or.inr (Or.inr (Or.inr (Or.inr h))))
theorem sW (t:ByteArray)(now:Int)(g:Nat)(q:List aj)(r:TR):cD t now (g+1) [] q r=(q,r,true):=rfl
theorem wG {t:ByteArray}{now:Int}{g:Nat}{x:It}{l:List It}{q:List aj}{r:TR}(h:ao t x.s.1.p=eA):cD t now (g+1) (x::l) q r=cD t now g l (aB q r.p x.s.1.key).1 {r with p:=(aB q r.p x.s.1.key).2.1}:=by
 rw[cD,if_pos h]
theorem wI {t:ByteArray}{now:Int}{g:Nat}{x:It}{l:List It}{q:List aj}{r:TR}(h:ao t x.s.1.p=eJ):cD t now (g+1) (x::l) q r=(q,{r with p:=dY r.p now x.s.1.n 0,no:=l},false):=by
 rw[cD,h];rfl
theorem wH {t:ByteArray}{now:Int}{g:Nat}{x:It}{l:List It}{q:List aj}{r:TR}(h:ao t x.s.1.p=eX):cD t now (g+1) (x::l) q r=(q,r,true):=by
 rw[cD,h];rfl
theorem uV {t:ByteArray}{now:Int}{g:Nat}{x:It}{l:List It}{q:List aj}{r:TR}(h:ao t x.s.1.p=dV)(h0:(aB q r.p x.s.1.key).2.2=0):cD t now (g+1) (x::l) q r=cD t now g (bB x.d x.s.2.2++l) (aB q r.p x.s.1.key).1 {r with p:=(aB q r.p x.s.1.key).2.1}:=by
 rw[cD,h];simp only[h0];rfl
theorem uJ {t:ByteArray}{now:Int}{g:Nat}{x:It}{l:List It}{q:List aj}{r:TR}(h:ao t x.s.1.p=dV)(h0:¬ (aB q r.p x.s.1.key).2.2=0):
  cD t now (g+1) (x::l) q r=((aB q r.p x.s.1.key).1,⟨dY (aB q r.p x.s.1.key).2.1 now x.s.1.n (aB q r.p x.s.1.key).2.2,bB x.d x.s.2.1++l,bB x.d x.s.2.2++l⟩,false):=by
 rw[cD,h];simp only[if_neg h0];rfl
theorem ud {t:ByteArray}{now:Int}{g:Nat}{x:It}{l:List It}{q:List aj}{r:TR}(h:ao t x.s.1.p=dL)(h0:(x.i:Int)=x.s.1.m):cD t now (g+1) (x::l) q r=cD t now g (bB x.d x.s.2.2++l) q r:=by
 rw[cD,h];simp only[if_pos h0];rfl
theorem ro {t:ByteArray}{now:Int}{g:Nat}{x:It}{l:List It}{q:List aj}{r:TR}(h:ao t x.s.1.p=dL)(h0:¬ (x.i:Int)=x.s.1.m):
  cD t now (g+1) (x::l) q r=((aB q r.p x.s.1.key).1,⟨dY (aB q r.p x.s.1.key).2.1 now (x.s.1.n*2 ^ x.i) (aB q r.p x.s.1.key).2.2,bB x.d x.s.2.1++l,⟨x.d,x.s,x.i+1⟩::l⟩,false):=by
 rw[cD,h];simp only[if_neg h0];rfl
theorem re {t:ByteArray}{now:Int}{g:Nat}{x:It}{l:List It}{q:List aj}{r:TR}(h:ao t x.s.1.p=ch)(h0:(x.i:Int)<x.s.1.n):cD t now (g+1) (x::l) q r=cD t now g (bB x.d x.s.2.1++⟨x.d,x.s,x.i+1⟩::l) q r:=by
 rw[cD,h];simp only[if_pos h0];rfl
theorem tD {t:ByteArray}{now:Int}{g:Nat}{x:It}{l:List It}{q:List aj}{r:TR}(h:ao t x.s.1.p=ch)(h0:¬ (x.i:Int)<x.s.1.n):cD t now (g+1) (x::l) q r=cD t now g l q r:=by
 rw[cD,h];simp only[if_neg h0];rfl
theorem tc {t:ByteArray}{x:It}(h:ao t x.s.1.p=dV):ia t x=1+max (cK t x.d x.s.2.1) (cK t x.d x.s.2.2):=by
 unfold ia gM;rw[h];rfl
theorem kY {t:ByteArray}{x:It}(h:ao t x.s.1.p=dL):ia t x=1+max (cK t x.d x.s.2.1) (cK t x.d x.s.2.2):=by
 unfold ia gM;rw[h];rfl
theorem mh {t:ByteArray}{x:It}(h:ao t x.s.1.p=ch):ia t x=1+(x.s.1.n.toNat - x.i)*(cK t x.d x.s.2.1+1):=by
 unfold ia gM;rw[h];rfl
theorem Fd {t:ByteArray}{x:It}(h:ao t x.s.1.p=eA):ia t x=1:=by
 unfold ia gM;rw[h];rfl
theorem oJ {t:ByteArray}{x:It}(h:¬ ao t x.s.1.p=ch):kt t x=1+fN t x.d x.s.2.2:=by
 unfold kt lq;rw[if_neg h]
theorem lZ {t:ByteArray}{x:It}(h:ao t x.s.1.p=ch):kt t x=1+(x.s.1.n.toNat - x.i)*(fN t x.d x.s.2.1+1):=by
 unfold kt lq;rw[if_pos h]
theorem yD:¬ eA=ch:=by decide
theorem tz:¬ dV=ch:=by decide
theorem qX:¬ dL=ch:=by decide
theorem pQ {n i W:Nat}(h:i<n):(n - i)*(W+1)=W+1+(n - (i+1))*(W+1):=by
 obtain⟨k,rfl⟩:∃ k,n=i+1+k:=⟨n - i - 1,by omega⟩;rw[show i+1+k - i=k+1 from by omega,show i+1+k - (i+1)=k from by omega,Nat.succ_mul,Nat.add_comm]
theorem sim {t:ByteArray}{cs:List am}{now:Int}{B:Nat}:∀ (M n:Nat) {j lv pc f g:Nat} {l:List It} {q:List aj} {p:Pr} {r:TR},Rp t cs p.regs n j lv pc l->eN t l+j<=B->eN t l+j+3<f->dF t l<=M->dF t l<g->p.regs.length=12->dJ p r.p ->
  mD t cs B (df now cs f (pc:Nat) q p) (cD t now g l q r):=by
 intro M;induction M with
 | zero=>
  intro n;induction n with
  | zero=>intro j lv pc f g l q p r h;exact h.elim
  | succ n ihn=>
   intro j lv pc f g l q p r h hB hf hM hg hlen hp;obtain⟨f,rfl⟩:∃ k,f=k+1:=⟨f - 1,by omega⟩;obtain⟨g,rfl⟩:∃ k,g=k+1:=⟨g - 1,by omega⟩;have C9:l=[]:=by
    cases l with
    | nil=>rfl
    | cons x l=>
     exfalso;rw[kF]at hM;have:1<=kt t x:=by unfold kt lq;split <;> omega
     omega
   subst C9;rw[sW];rcases h with ⟨_,h2,_⟩|⟨j',tgt,rfl,h2,h⟩|⟨d,r',l',h1,h2,h3,h⟩|⟨d,x,i,rep,base,l',h1,h2,h3,h4,h5,h6,h7,h8,h9,h⟩
   .rw[wk h2];exact⟨rfl,rfl,hp.id,fun hh=>by cases hh⟩
   .rw[xu h2];have:=ihn (f:=f) (g:=g+1) (q:=q) (r:=r) h (by omega) (by omega) hM (by omega) hlen hp;rw[sW]at this;exact this
   .have D3:r'=[]/\l'=[]:=by
     have h4:bB (d+1) r'=[]/\l'=[]:=by simpa using h3.symm
     refine⟨?_,h4.2⟩;have h5:List.map (fun x=>(⟨d,x,0⟩:It)) r'=[]:=h4.1;simpa using h5
    obtain⟨rfl,rfl⟩:=D3;have:=ihn (f:=f+1) (g:=g+1) (q:=q) (r:=r) h hB hf hM (by omega) hlen hp;rw[sW]at this;exact this
   .cases h9
 | succ M ihM=>
  intro n;induction n with
  | zero=>intro j lv pc f g l q p r h;exact h.elim
  | succ n ihn=>
   intro j lv pc f g l q p r h hB hf hM hg hlen hp;obtain⟨f,rfl⟩:∃ k,f=k+1:=⟨f - 1,by omega⟩;obtain⟨g,rfl⟩:∃ k,g=k+1:=⟨g - 1,by omega⟩;have E0:=Rp.lv4 h;rcases h with ⟨rfl,h2,_⟩|⟨j',tgt,rfl,h2,h⟩|⟨d,r',l',h1,h2,h3,h⟩|⟨d,x,i,rep,base,l',hk,h2,h3,h4,h5,h6,h7,h8,h9,h⟩
   .rw[wk h2];exact⟨rfl,rfl,hp.id,fun hh=>by cases hh⟩
   .rw[xu h2];exact ihn h (by omega) (by omega) hM hg hlen hp
   .cases r' with
    | nil=>
     subst h3;exact ihn h hB hf hM hg hlen hp
    | cons x r'=>
     obtain⟨A9,D2⟩:qS t d x lv/\kP t (d+1) r' lv:=⟨h2 x (List.mem_cons_self ..),fun y hy=>h2 y (Qf _ hy)⟩;have A6:ez t (bh t d) (x::r') lv pc=cT t (bh t d) x lv pc++ez t (bh t d) r' lv (pc+(cT t (bh t d) x lv pc).length):=rfl;rw[A6]at h1 h;obtain⟨hx,A8⟩:=ip.append h1;obtain⟨l1,B8⟩:∃ l1,l1=bB (d+1) r'++l':=⟨_,rfl⟩;have hl:l=⟨d,x,0⟩::l1:=by rw[h3,B8];rfl
     obtain⟨A3,A0⟩:∃ A3,A3=pc+(cT t (bh t d) x lv pc).length:=⟨_,rfl⟩;have hR:Rp t cs p.regs (n+1) j lv A3 l1:=by
      refine Or.inr (Or.inr (Or.inl ⟨d,r',l',?_,D2,B8,?_⟩))
      .rw[A0];exact A8
      .rw[A0,Nat.add_assoc,<- List.length_append];exact h
     clear h h1 h3 A8 A6 B8 h2 ihn;subst hl;rw[iu]at hB hf;rw[kF]at hM hg;have A7:=A9.1;rcases A9.1.kind with hk|hk|hk|hk|hk|hk
     .
      rw[pX _ _ _ _ hk]at hx A0;rw[Fd (x:=(⟨d,x,0⟩:It)) hk]at hB hf;rw[oJ (x:=(⟨d,x,0⟩:It)) (by rw[hk];exact yD)]at hM hg;rw[ES (hx.cons).1,wG (x:=(⟨d,x,0⟩:It)) hk];obtain⟨s1,s2,s3⟩:=hp.send q x.1.key;have A1:=(kD q p x.1.key).1;obtain rfl:A3=pc+1:=by rw[A0];rfl
      show mD t cs B _ (cD t now g l1 (aB q r.p x.1.key).1 _);rw[<- s1];refine ihM (n+1) (by rw[A1];exact hR) (by omega) (by omega) (by omega) (by omega) (by rw[A1];exact hlen) s3
     .
      rw[pZ _ _ _ _ hk]at hx A0;rw[ET (hx.cons).1,wI (x:=(⟨d,x,0⟩:It)) hk];obtain rfl:A3=pc+1:=by rw[A0];rfl
      exact⟨rfl,rfl,hp.id,fun _=>⟨⟨hp.id,hp.dev,hp.sent,rfl,rfl⟩,hlen,⟨pc+1,rfl,Or.inl ⟨lv,n+1,j,hR,by show eN t l1+j<=B;omega⟩⟩,fun hh=>absurd rfl hh⟩⟩
     .
      rw[pY _ _ _ _ hk]at hx;rw[Ge (hx.cons).1,wH (x:=(⟨d,x,0⟩:It)) hk];exact⟨rfl,rfl,hp.id,fun hh=>by cases hh⟩
     .
      rw[qz _ _ _ _ hk]at hx A0;have B7:¬ ao t x.1.p=ch:=by rw[hk];exact tz
      have A5:=A9.2.2 B7;rw[tc (x:=(⟨d,x,0⟩:It)) hk]at hB hf;rw[oJ (x:=(⟨d,x,0⟩:It)) B7]at hM hg;simp only at hB hf hM hg;have D0:=Nat.le_max_left (cK t d x.2.1) (cK t d x.2.2);have E1:=Nat.le_max_right (cK t d x.2.1) (cK t d x.2.2);obtain⟨s1,s2,s3⟩:=hp.send q x.1.key;have A1:=(kD q p x.1.key).1;obtain⟨c0,B3⟩:=hx.cons;obtain⟨hA,B4⟩:=ip.append B3;obtain⟨c1,B5⟩:=B4.cons;obtain⟨a,ha⟩:∃ a,a=(bh t d x.2.1 lv (pc+1)).length:=⟨_,rfl⟩;rw[<- ha]at c0 B4 c1 B5 A0;rw[show pc+1+a+1=pc+2+a from by omega]at B5;have C5:pc+2+a+(bh t d x.2.2 lv (pc+2+a)).length=A3:=by rw[A0];simp[<- ha];omega
      have B6:∃ m,Rp t cs p.regs m j lv (pc+2+a) (bB d x.2.2++l1):=Rp.block B5 A5.2 (by rw[C5];exact hR);have A4:∃ m,Rp t cs p.regs m (j+1) lv (pc+1) (bB d x.2.1++l1):=by
       refine Rp.block hA A5.1 (n:=n+1+1) ?_;rw[<- ha];refine Rp.jump (c:=A3) ?_ hR;rw[c1,<- C5]
      obtain⟨mB,B6⟩:=B6;obtain⟨mA,A4⟩:=A4;by_cases h0:(aB q p x.1.key).2.2=0
      .rw[Cp c0 q p h0,uV (x:=(⟨d,x,0⟩:It)) hk (by rw[<- s2];exact h0)];show mD t cs B _ (cD t now g (bB d x.2.2++l1) (aB q r.p x.1.key).1 _);rw[<- s1];refine ihM mB (by rw[A1];exact B6) ?_ ?_ ?_ ?_ (by rw[A1];exact hlen) s3;iterate 2
        .rw[jY,jD];omega
       iterate 2
        .rw[lz,kH];omega
      .rw[AJ c0 q p h0,uJ (x:=(⟨d,x,0⟩:It)) hk (by rw[<- s2];exact h0)];refine⟨s1,rfl,s3.id,fun _=>⟨⟨s3.id,s3.dev,s3.sent,rfl,s2⟩,?_,?_,fun _=>?_⟩⟩
       .show(aB q p x.1.key).2.1.regs.length=12;rw[A1];exact hlen
       .refine⟨pc+2+a,rfl,Or.inl ⟨lv,mB,j,?_,?_⟩⟩
        .show Rp t cs (aB q p x.1.key).2.1.regs mB j lv (pc+2+a) (bB d x.2.2++l1);rw[A1];exact B6
        .show eN t (bB d x.2.2++l1)+j<=B;rw[jY,jD];omega
       .refine⟨pc+1,lv,rfl,mA,j+1,?_,?_⟩
        .show Rp t cs (aB q p x.1.key).2.1.regs mA (j+1) lv (pc+1) (bB d x.2.1++l1);rw[A1];exact A4
        .show eN t (bB d x.2.1++l1)+(j+1)<=B;rw[jY,jD];omega
     .
      rw[mO _ _ _ _ hk]at A0;have C4:=hx;rw[mO _ _ _ _ hk]at hx;have B7:¬ ao t x.1.p=ch:=by rw[hk];exact qX
      have A5:=A9.2.2 B7;have E2:1<=x.1.n/\x.1.n<=999/\1<=x.1.m/\x.1.m<=6:=by
       rcases A7 with ⟨h,_⟩|⟨h,_⟩|⟨h,_⟩|⟨h,_⟩|⟨_,h1,h2,h3,h4⟩|⟨h,_⟩
       .rw[hk]at h;cases h
       .rw[hk]at h;cases h
       .rw[hk]at h;cases h
       .rw[hk]at h;cases h
       .exact⟨h1,h2,h3,h4⟩
       .rw[hk]at h;cases h
      have D5:ia t (⟨d,x,1⟩:It)=ia t (⟨d,x,0⟩:It):=by rw[kY (x:=(⟨d,x,0⟩:It)) hk,kY (x:=(⟨d,x,1⟩:It)) hk]
      have C3:=kY (x:=(⟨d,x,0⟩:It)) hk;simp only at C3;have D0:=Nat.le_max_left (cK t d x.2.1) (cK t d x.2.2);obtain⟨c0,B3⟩:=hx.cons;obtain⟨c1,B4⟩:=B3.cons;obtain⟨c2,D6⟩:=B4.cons;obtain⟨c3,D7⟩:=D6.cons;obtain⟨c4,D8⟩:=D7.cons;obtain⟨B5,D9⟩:=ip.append D8;obtain⟨c5,hA⟩:=D9.cons;obtain⟨b,hb⟩:∃ b,b=(bh t d x.2.2 lv (pc+5)).length:=⟨_,rfl⟩;rw[<- hb]at c2 c5 hA A0;obtain⟨f,rfl⟩:∃ k,f=k+1:=⟨f - 1,by omega⟩;obtain⟨f,rfl⟩:∃ k,f=k+1:=⟨f - 1,by omega⟩;rw[sY (a:=4) c0,sY (a:=5) c1];obtain⟨p2,A2⟩:∃ p2:Pr,p2={p with regs:=(p.regs.set 4 x.1.m).set 5 x.1.n}:=⟨_,rfl⟩;have C1:p2.regs.getD 5 0=x.1.n:=by rw[A2];exact np (by simp;omega)
      have D4:p2.regs.getD 4 0=x.1.m:=by
       rw[A2];show((p.regs.set 4 x.1.m).set 5 x.1.n).getD 4 0=x.1.m;rw[kw (by decide)];exact np (by omega)
      have B1:p2.regs.length=12:=by rw[A2];simpa using hlen
      have B2:∀ k,k<lv->p2.regs.getD k 0=p.regs.getD k 0:=fun k hk=>by
       rw[A2];show((p.regs.set 4 x.1.m).set 5 x.1.n).getD k 0=_;rw[kw (by omega),kw (by omega)]
      have B0:dJ p2 r.p:=by rw[A2];exact⟨hp.id,hp.dev,hp.sent,hp.til,hp.num⟩
      show mD t cs B (df now cs (f+1) ((pc+1+1:Nat):Int) q {p with regs:=(p.regs.set 4 x.1.m).set 5 x.1.n}) _;rw[<- A2,xt (b:=5) c2 q p2 (by rw[C1];omega),ro (x:=(⟨d,x,0⟩:It)) hk (by simp;omega),C1];obtain⟨s1,s2,s3⟩:=B0.send q x.1.key;have A1:=(kD q p2 x.1.key).1;have C6:=Rp.regs B2 hR;have C8:pc+6+b+(bh t d x.2.1 lv (pc+6+b)).length=A3:=by rw[A0];simp[<- hb];omega
      rw[show pc+1+1+1+1+1+b+1=pc+6+b from by omega]at hA;obtain⟨mA,A4⟩:=Rp.block hA A5.1 (by rw[C8];exact C6);refine⟨s1,rfl,s3.id,fun _=>⟨⟨s3.id,s3.dev,s3.sent,?_,s2⟩,?_,?_,fun _=>?_⟩⟩
      .show now+x.1.n=now+x.1.n*2 ^ 0;simp
      .show(aB q p2 x.1.key).2.1.regs.length=12;rw[A1];exact B1
      .refine⟨pc+3,rfl,Or.inr ⟨d,x,1,lv,pc,n+1,j,l1,hk,C4,A9,rfl,by omega,by omega,?_,?_,rfl,?_,?_⟩⟩
       .show(aB q p2 x.1.key).2.1.regs.getD 4 0=_;rw[A1,D4];omega
       .show(aB q p2 x.1.key).2.1.regs.getD 5 0=_;rw[A1,C1];simp
       .show Rp t cs (aB q p2 x.1.key).2.1.regs _ _ _ _ _;rw[A1];have e:pc+(cT t (bh t d) x lv pc).length=A3:=by rw[A0,mO _ _ _ _ hk,<- hb]
        rw[e];exact C6
       .show eN t (⟨d,x,1⟩::l1)+j<=B;rw[iu,D5];exact hB
      .refine⟨pc+6+b,lv,rfl,mA,j,?_,?_⟩
       .show Rp t cs (aB q p2 x.1.key).2.1.regs _ _ _ _ _;rw[A1];exact A4
       .show eN t (bB d x.2.1++l1)+j<=B;rw[jY,jD];omega
     .
      have C4:=hx;rw[oA _ _ _ _ hk]at hx A0;obtain⟨B9,C0⟩:=A9.2.1 hk;have D1:1<=x.1.n/\x.1.n<=9:=by
       rcases A7 with ⟨h,_⟩|⟨h,_⟩|⟨h,_⟩|⟨h,_⟩|⟨h,_⟩|⟨_,h1,h2,_⟩
       .rw[hk]at h;cases h
       .rw[hk]at h;cases h
       .rw[hk]at h;cases h
       .rw[hk]at h;cases h
       .rw[hk]at h;cases h
       .exact⟨h1,h2⟩
      rw[mh (x:=(⟨d,x,0⟩:It)) hk]at hB hf;rw[lZ (x:=(⟨d,x,0⟩:It)) hk]at hM hg;simp only at hB hf hM hg;rw[pQ (show 0<x.1.n.toNat by omega)]at hB hf hM hg;obtain⟨c0,B3⟩:=hx.cons;obtain⟨hA,B4⟩:=ip.append B3;rw[sY c0,re (x:=(⟨d,x,0⟩:It)) hk (by show((0:Nat):Int)<x.1.n;omega)];obtain⟨p2,A2⟩:∃ p2:Pr,p2={p with regs:=p.regs.set lv x.1.n}:=⟨_,rfl⟩;rw[<- A2];have C2:p2.regs.getD lv 0=x.1.n:=by rw[A2];exact np (by omega)
      have B1:p2.regs.length=12:=by rw[A2];simpa using hlen
      have B2:∀ k,k<lv->p2.regs.getD k 0=p.regs.getD k 0:=fun k hk=>by rw[A2];exact kw (by omega)
      have B0:dJ p2 r.p:=by rw[A2];exact⟨hp.id,hp.dev,hp.sent,hp.til,hp.num⟩
      have hL:Rp t cs p2.regs (n+1+1) j (lv+1) (pc+1+(bh t d x.2.1 (lv+1) (pc+1)).length) (⟨d,x,1⟩::l1):=by
       refine Or.inr (Or.inr (Or.inr ⟨d,x,1,lv,pc,l1,hk,rfl,C4,A9,rfl,by omega,by omega,?_,rfl,?_⟩))
       .rw[C2];omega
       .have e:pc+1+(bh t d x.2.1 (lv+1) (pc+1)).length+1=A3:=by rw[A0];simp;omega
        rw[e];exact Rp.regs B2 hR
      obtain⟨mA,A4⟩:=Rp.block hA C0 hL;refine ihM mA A4 ?_ ?_ ?_ ?_ B1 B0
      .show eN t (bB d x.2.1++⟨d,x,0+1⟩::l1)+j<=B;rw[jY,jD,iu,mh (x:=(⟨d,x,0+1⟩:It)) hk];simp only;omega
      .show eN t (bB d x.2.1++⟨d,x,0+1⟩::l1)+j+3<f;rw[jY,jD,iu,mh (x:=(⟨d,x,0+1⟩:It)) hk];simp only;omega
      .show dF t (bB d x.2.1++⟨d,x,0+1⟩::l1)<=M;rw[lz,kH,kF,lZ (x:=(⟨d,x,0+1⟩:It)) hk];simp only;omega
      .show dF t (bB d x.2.1++⟨d,x,0+1⟩::l1)<g;rw[lz,kH,kF,lZ (x:=(⟨d,x,0+1⟩:It)) hk];simp only;omega
   .
    subst h9 h2;have C7:=h3;rw[oA _ _ _ _ hk]at h3;obtain⟨_,B3⟩:=h3.cons;obtain⟨hA,B4⟩:=ip.append B3;obtain⟨c1,_⟩:=B4.cons;rw[<- h5]at c1;obtain⟨B9,C0⟩:=h4.2.1 hk;have D1:1<=x.1.n/\x.1.n<=9:=by
     rcases h4.1 with ⟨h,_⟩|⟨h,_⟩|⟨h,_⟩|⟨h,_⟩|⟨h,_⟩|⟨_,h1,h2,_⟩
     .rw[hk]at h;cases h
     .rw[hk]at h;cases h
     .rw[hk]at h;cases h
     .rw[hk]at h;cases h
     .rw[hk]at h;cases h
     .exact⟨h1,h2⟩
    rw[iu,mh (x:=(⟨d,x,i⟩:It)) hk]at hB hf;rw[kF,lZ (x:=(⟨d,x,i⟩:It)) hk]at hM hg;simp only at hB hf hM hg;by_cases hi:(i:Int)<x.1.n
    .rw[pQ (show i<x.1.n.toNat by omega)]at hB hf hM hg;rw[uC c1 q p (by rw[h8];omega),re (x:=(⟨d,x,i⟩:It)) hk hi];obtain⟨p2,A2⟩:∃ p2:Pr,p2={p with regs:=p.regs.set rep (p.regs.getD rep 0 - 1)}:=⟨_,rfl⟩;rw[<- A2];have C2:p2.regs.getD rep 0=x.1.n - i:=by rw[A2];show(p.regs.set rep _).getD rep 0=_;rw[np (by omega),h8];omega
     have B1:p2.regs.length=12:=by rw[A2];simpa using hlen
     have B2:∀ k,k<rep->p2.regs.getD k 0=p.regs.getD k 0:=fun k hk=>by rw[A2];exact kw (by omega)
     have B0:dJ p2 r.p:=by rw[A2];exact⟨hp.id,hp.dev,hp.sent,hp.til,hp.num⟩
     have hL:Rp t cs p2.regs (n+1) j (rep+1) (base+1+(bh t d x.2.1 (rep+1) (base+1)).length) (⟨d,x,i+1⟩::l'):=by
      refine Or.inr (Or.inr (Or.inr ⟨d,x,i+1,rep,base,l',hk,rfl,C7,h4,rfl,by omega,by omega,?_,rfl,?_⟩))
      .rw[C2];omega
      .rw[<- h5];exact Rp.regs B2 h
     obtain⟨mA,A4⟩:=Rp.block hA C0 hL;refine ihM mA A4 ?_ ?_ ?_ ?_ B1 B0
     .show eN t (bB d x.2.1++⟨d,x,i+1⟩::l')+j<=B;rw[jY,jD,iu,mh (x:=(⟨d,x,i+1⟩:It)) hk];simp only;omega
     .show eN t (bB d x.2.1++⟨d,x,i+1⟩::l')+j+3<f;rw[jY,jD,iu,mh (x:=(⟨d,x,i+1⟩:It)) hk];simp only;omega
     .show dF t (bB d x.2.1++⟨d,x,i+1⟩::l')<=M;rw[lz,kH,kF,lZ (x:=(⟨d,x,i+1⟩:It)) hk];simp only;omega
     .show dF t (bB d x.2.1++⟨d,x,i+1⟩::l')<g;rw[lz,kH,kF,lZ (x:=(⟨d,x,i+1⟩:It)) hk];simp only;omega
    .rw[uu c1 q p (by rw[h8];omega),tD (x:=(⟨d,x,i⟩:It)) hk hi];obtain⟨p2,A2⟩:∃ p2:Pr,p2={p with regs:=p.regs.set rep 0}:=⟨_,rfl⟩;rw[<- A2];have B1:p2.regs.length=12:=by rw[A2];simpa using hlen
     have B2:∀ k,k<rep->p2.regs.getD k 0=p.regs.getD k 0:=fun k hk=>by rw[A2];exact kw (by omega)
     have B0:dJ p2 r.p:=by rw[A2];exact⟨hp.id,hp.dev,hp.sent,hp.til,hp.num⟩
     exact ihM n (Rp.regs B2 h) (by omega) (by omega) (by omega) (by omega) B1 B0
theorem vD {i:Nat}(h:i<=6):(2:Int) ^ i<=64:=by
 have h1:2 ^ i<=2 ^ 6:=Nat.pow_le_pow_right (by decide) h;have h2:((2 ^ i:Nat):Int)<=((2 ^ 6:Nat):Int):=Int.ofNat_le.mpr h1;simpa using h2
theorem uU {i:Nat}:(1:Int)<=2 ^ i:=by
 have h1:1<=2 ^ i:=Nat.one_le_two_pow;have h2:((1:Nat):Int)<=((2 ^ i:Nat):Int):=Int.ofNat_le.mpr h1;simpa using h2
theorem Hg {t:ByteArray}{cs:List am}{now:Int}{B f e g:Nat}{l:List It}{q:List aj}{p:Pr}{r:TR}(h:yx t cs p.regs B e l)(hf:B+6<f)(hg:dF t l<g)(hlen:p.regs.length=12)(hp:dJ p r.p):
  mD t cs B (df now cs f (e:Nat) q p) (cD t now g l q r):=by
 rcases h with ⟨lv,n,j,h,hB⟩|⟨d,x,i,lv,base,n,j,l',hk,hx,hok,rfl,hi1,him,hr4,hr5,rfl,hR,hB⟩
 .exact sim (dF t l) n h hB (by omega) (v9 _) hg hlen hp
 .have D0:=hx;obtain⟨A8,A2⟩:∃ A8,A8=base+(cT t (bh t d) x lv base).length:=⟨_,rfl⟩;have C6:=hR;rw[<- A2]at hR;rw[mO _ _ _ _ hk]at hx A2;have C1:¬ ao t x.1.p=ch:=by rw[hk];exact qX
  have A6:=hok.2.2 C1;have D7:=Rp.lv4 hR;have C0:1<=x.1.n/\x.1.n<=999/\1<=x.1.m/\x.1.m<=6:=by
   rcases hok.1 with ⟨h,_⟩|⟨h,_⟩|⟨h,_⟩|⟨h,_⟩|⟨_,h1,h2,h3,h4⟩|⟨h,_⟩
   .rw[hk]at h;cases h
   .rw[hk]at h;cases h
   .rw[hk]at h;cases h
   .rw[hk]at h;cases h
   .exact⟨h1,h2,h3,h4⟩
   .rw[hk]at h;cases h
  rw[iu]at hB;have B6:=kY (x:=(⟨d,x,i⟩:It)) hk;have B7:ia t (⟨d,x,i+1⟩:It)=ia t (⟨d,x,i⟩:It):=by rw[kY (x:=(⟨d,x,i+1⟩:It)) hk,kY (x:=(⟨d,x,i⟩:It)) hk]
  simp only at B6;rw[B6]at hB;have D8:=Nat.le_max_left (cK t d x.2.1) (cK t d x.2.2);have D9:=Nat.le_max_right (cK t d x.2.1) (cK t d x.2.2);rw[kF,oJ (x:=(⟨d,x,i⟩:It)) C1]at hg;simp only at hg;obtain⟨_,D1⟩:=hx.cons;obtain⟨_,D2⟩:=D1.cons;obtain⟨c2,D3⟩:=D2.cons;obtain⟨c3,D4⟩:=D3.cons;obtain⟨c4,D5⟩:=D4.cons;obtain⟨C5,D6⟩:=ip.append D5;obtain⟨c5,hA⟩:=D6.cons;obtain⟨b,hb⟩:∃ b,b=(bh t d x.2.2 lv (base+5)).length:=⟨_,rfl⟩;rw[<- hb]at c2 c5 hA A2;obtain⟨f,rfl⟩:∃ k,f=k+1:=⟨f - 1,by omega⟩;obtain⟨f,rfl⟩:∃ k,f=k+1:=⟨f - 1,by omega⟩;obtain⟨f,rfl⟩:∃ k,f=k+1:=⟨f - 1,by omega⟩;obtain⟨g,rfl⟩:∃ k,g=k+1:=⟨g - 1,by omega⟩;obtain⟨ii,rfl⟩:∃ ii,i=ii+1:=⟨i - 1,by omega⟩;rw[Nat.add_sub_cancel]at hr5;have C9:=vD (i:=ii) (by omega);have E0:=uU (i:=ii);have C8:x.1.n*2 ^ ii<=999*64:=Int.mul_le_mul C0.2.1 C9 (by omega) (by omega);have A5:1<=x.1.n*2 ^ (ii+1):=by
   have h1:1*1<=x.1.n*2 ^ (ii+1):=Int.mul_le_mul C0.1 (uU (i:=ii+1)) (by omega) (by omega);omega
  have B5:2*(x.1.n*2 ^ ii)=x.1.n*2 ^ (ii+1):=by rw[Int.pow_succ];generalize (2:Int) ^ ii=z;rw[Int.mul_comm z 2,<- Int.mul_assoc,<- Int.mul_assoc,Int.mul_comm 2 x.1.n]
  rw[Cv (a:=5) c3 q p (by rw[hr5];omega),hr5,B5];obtain⟨p2,A1⟩:∃ p2:Pr,p2={p with regs:=p.regs.set 5 (x.1.n*2 ^ (ii+1))}:=⟨_,rfl⟩;rw[<- A1];have A9:p2.regs.getD 4 0=x.1.m - (ii+1:Nat)+1:=by
   rw[A1];show(p.regs.set 5 _).getD 4 0=_;rw[kw (by decide)];exact hr4
  have C2:p2.regs.getD 5 0=x.1.n*2 ^ (ii+1):=by rw[A1];exact np (by omega)
  have B8:p2.regs.length=12:=by rw[A1];simpa using hlen
  have B9:∀ k,k<lv->p2.regs.getD k 0=p.regs.getD k 0:=fun k hk=>by
   rw[A1];exact kw (by omega)
  have A4:dJ p2 r.p:=by rw[A1];exact⟨hp.id,hp.dev,hp.sent,hp.til,hp.num⟩
  by_cases him2:((ii+1:Nat):Int)=x.1.m
  .rw[show base+3+1=base+1+1+1+1 from by omega,uu (a:=4) (c:=base+2) c4 q p2 (by rw[A9];omega),ud (x:=(⟨d,x,ii+1⟩:It)) hk him2];obtain⟨p3,A0⟩:∃ p3:Pr,p3={p2 with regs:=p2.regs.set 4 0}:=⟨_,rfl⟩;rw[<- A0];have B1:p3.regs.length=12:=by rw[A0];simpa using B8
   have A7:∀ k,k<lv->p3.regs.getD k 0=p.regs.getD k 0:=fun k hk=>by
    rw[A0];show(p2.regs.set 4 0).getD k 0=_;rw[kw (by omega)];exact B9 k hk
   have B2:dJ p3 r.p:=by rw[A0];exact⟨A4.id,A4.dev,A4.sent,A4.til,A4.num⟩
   have B4:=Rp.regs A7 hR;have B3:∃ m,Rp t cs p3.regs m (j+1) lv (base+5) (bB d x.2.2++l'):=by
    refine Rp.block C5 A6.2 (n:=n+1) (Rp.jump (c:=A8) ?_ B4);rw[<- hb];rw[show base+1+1+1+1+1+b=base+5+b from by omega]at c5;rw[c5,A2];simp[<- hb];omega
   obtain⟨m,B3⟩:=B3;refine sim (dF t (bB d x.2.2++l')) m B3 ?_ ?_ (v9 _) ?_ B1 B2
   .show eN t (bB d x.2.2++l')+(j+1)<=B;rw[jY,jD];omega
   .show eN t (bB d x.2.2++l')+(j+1)+3<f+1;rw[jY,jD];omega
   .show dF t (bB d x.2.2++l')<g;rw[lz,kH];omega
  .rw[show base+3+1=base+1+1+1+1 from by omega,uC (a:=4) (c:=base+2) c4 q p2 (by rw[A9];omega),ro (x:=(⟨d,x,ii+1⟩:It)) hk him2];obtain⟨p3,A0⟩:∃ p3:Pr,p3={p2 with regs:=p2.regs.set 4 (p2.regs.getD 4 0 - 1)}:=⟨_,rfl⟩;rw[<- A0];have C3:p3.regs.getD 4 0=x.1.m - (ii+1:Nat):=by
    rw[A0];show(p2.regs.set 4 _).getD 4 0=_;rw[np (by omega),A9];omega
   have B0:p3.regs.getD 5 0=x.1.n*2 ^ (ii+1):=by
    rw[A0];show(p2.regs.set 4 _).getD 5 0=_;rw[kw (by decide)];exact C2
   have B1:p3.regs.length=12:=by rw[A0];simpa using B8
   have A7:∀ k,k<lv->p3.regs.getD k 0=p.regs.getD k 0:=fun k hk=>by
    rw[A0];show(p2.regs.set 4 _).getD k 0=_;rw[kw (by omega)];exact B9 k hk
   have B2:dJ p3 r.p:=by rw[A0];exact⟨A4.id,A4.dev,A4.sent,A4.til,A4.num⟩
   have B4:=Rp.regs A7 hR;rw[xt (b:=5) c2 q p3 (by rw[B0];exact A5),B0];obtain⟨s1,s2,s3⟩:=B2.send q x.1.key;have A3:=(kD q p3 x.1.key).1;have C4:base+6+b+(bh t d x.2.1 lv (base+6+b)).length=A8:=by rw[A2];simp[<- hb];omega
   rw[show base+1+1+1+1+1+b+1=base+6+b from by omega]at hA;obtain⟨mA,C7⟩:=Rp.block hA A6.1 (by rw[C4];exact B4);refine⟨s1,rfl,s3.id,fun _=>⟨⟨s3.id,s3.dev,s3.sent,rfl,s2⟩,?_,?_,fun _=>?_⟩⟩
   .show(aB q p3 x.1.key).2.1.regs.length=12;rw[A3];exact B1
   .refine⟨base+3,rfl,Or.inr ⟨d,x,ii+1+1,lv,base,n,j,l',hk,D0,hok,rfl,by omega,by omega,?_,?_,rfl,?_,?_⟩⟩
    .show(aB q p3 x.1.key).2.1.regs.getD 4 0=_;rw[A3,C3];omega
    .show(aB q p3 x.1.key).2.1.regs.getD 5 0=_;rw[A3,B0];rfl
    .show Rp t cs (aB q p3 x.1.key).2.1.regs _ _ _ _ _;rw[A3];exact Rp.regs A7 C6
    .show eN t (⟨d,x,ii+1+1⟩::l')+j<=B;rw[iu,B7,B6];exact hB
   .refine⟨base+6+b,lv,rfl,mA,j,?_,?_⟩
    .show Rp t cs (aB q p3 x.1.key).2.1.regs _ _ _ _ _;rw[A3];exact C7
    .show eN t (bB d x.2.1++l')+j<=B;rw[jY,jD];omega
theorem FV (now:Int)(cs:List am)(q:List aj)(p:Pr):iR now cs true q p=df now cs 10000 p.tow q {p with num:=0}:=rfl
theorem GY (now:Int)(cs:List am)(q:List aj)(p:Pr):iR now cs false q p=df now cs 10000 p.els (if 0<p.num then dr q p.id p.num else q) {p with num:=0}:=by
 unfold iR;rw[if_neg (by simp)];split <;> rfl
theorem xD (t:ByteArray)(now:Int)(q:List aj)(r:TR):lU t now true q r=cD t now (dF t r.yes+1) r.yes q {r with p:={r.p with num:=0}}:=rfl
theorem xW (t:ByteArray)(now:Int)(q:List aj)(r:TR):lU t now false q r=cD t now (dF t r.no+1) r.no (if 0<r.p.num then dr q r.p.id r.p.num else q) {r with p:={r.p with num:=0}}:=by
 unfold lU;rw[if_neg (by simp)];split <;> rfl
theorem xG {now:Int}{cs:List am}{F:Nat}{a b:Int}(h:a=b)(q:List aj)(p:Pr):df now cs F a q p=df now cs F b q p:=by rw[h]
theorem jh.on {t:ByteArray}{cs:List am}{B:Nat}{p:Pr}{r:TR}(h:jh t cs B p r)(hB:B+6<10000)(now:Int)(yes:Bool)(q:List aj)(hy:yes=true->p.num≠0):mD t cs B (iR now cs yes q p) (lU t now yes q r):=by
 obtain⟨F,hF⟩:∃ F,F=10000:=⟨_,rfl⟩;have A0:dJ {p with num:=0} {r.p with num:=0}:=⟨h.pub.id,h.pub.dev,h.pub.sent,h.pub.til,rfl⟩;cases yes with
 | true=>
  obtain⟨e,lv,he,n,j,hR,hw⟩:=h.yes (hy rfl);rw[FV,xD,<- hF,xG he];exact sim (r:={r with p:={r.p with num:=0}}) (dF t r.yes) n hR hw (by omega) (v9 _) (Nat.lt_succ_self _) h.len A0
 | false=>
  obtain⟨e,he,hR⟩:=h.no;have eq:(if 0<p.num then dr q p.id p.num else q)=(if 0<r.p.num then dr q r.p.id r.p.num else q):=by rw[h.pub.num,h.pub.id]
  rw[GY,xW,<- hF,eq,xG he];exact Hg (p:={p with num:=0}) (r:={r with p:={r.p with num:=0}}) hR (by omega) (Nat.lt_succ_self _) h.len A0
theorem qy (q:List aj)(p:Pr)(key:Int):(aB q p key).2.1.id=p.id:=by
 unfold aB;split <;> rfl
theorem oW {t:ByteArray}{now:Int}:∀ (g:Nat) (l:List It) (q:List aj) (r:TR),(cD t now g l q r).2.1.p.id=r.p.id:=by
 intro g;induction g with
 | zero=>intro l q r;rfl
 | succ g ih=>
  intro l q r;cases l with
  | nil=>rfl
  | cons x l=>
   rw[cD];split
   .rw[ih];exact qy _ _ _
   .split
    .rfl
    .split
     .rfl
     .split
      .split
       .rw[ih];exact qy _ _ _
       .exact qy _ _ _
      .split
       .split
        .rw[ih]
        .exact qy _ _ _
       .split
        .split
         .rw[ih]
         .rw[ih]
        .rfl
theorem xV {t:ByteArray}{now:Int}(yes:Bool)(q:List aj)(r:TR):(lU t now yes q r).2.1.p.id=r.p.id:=by
 unfold lU;split
 .rw[oW]
 .split
  .rw[oW]
  .rw[oW]
theorem Gf {t:ByteArray}{tr:af 5}{B:Nat}(hB:B+6<10000)(hw:cK t 5 tr<=B)(ho:kP t 5 tr 0):bq (mt (cL t tr)) (lO t tr) (jh t (cL t tr) B):=by
 have A1:ip (cL t tr) 0 (bh t 5 tr 0 0):=fun i x hx=>by rw[Nat.zero_add];exact hx
 have A2:∀ now q id dev,mD t (cL t tr) B (df now (cL t tr) 10000 ((0:Nat):Int) q (dg id dev)) (cD t now (fN t 5 tr+1) (bB 5 tr) q ⟨dg id dev,[],[]⟩):=by
  intro now q id dev;obtain⟨m,hm⟩:∃ m,Rp t (cL t tr) (dg id dev).regs m 0 0 0 (bB 5 tr++[]):=Rp.block A1 ho (n:=1) (Or.inl ⟨rfl,by unfold cL;simp,by omega⟩);rw[List.append_nil]at hm;have h1:eN t (bB 5 tr)=cK t 5 tr:=jD t 5 tr;have h2:dF t (bB 5 tr)=fN t 5 tr:=kH t 5 tr;exact sim (fN t 5 tr) m hm (by omega) (by omega) (by omega) (by omega) (by simp[dg]) ⟨rfl,rfl,rfl,rfl,rfl⟩
 refine⟨fun a b h=>?_,fun now q id dev=>?_,fun id dev=>⟨rfl,rfl⟩,fun a b h now yes q hy=>?_⟩
 .show cF a=cF b.p;unfold cF;rw[h.pub.id,h.pub.dev,h.pub.sent,h.pub.til,h.pub.num]
 .have h:=A2 now q id dev;have A0:=oW (t:=t) (now:=now) (fN t 5 tr+1) (bB 5 tr) q ⟨dg id dev,[],[]⟩;exact⟨h.q,h.done,h.id.trans A0,A0,h.tied⟩
 .have ho:=h.on hB now yes q hy;have A0:=xV (t:=t) (now:=now) yes q b;exact⟨ho.q,ho.done,(ho.id.trans A0).trans h.pub.id.symm,A0,ho.tied⟩
def jw (l:List (Nat×Nat)):Nat:=(l.map fun p=>p.2 - p.1).sum
def eZ (t:ByteArray)(l:List (Nat×Nat)):Nat:=(l.map fun p=>(ao t p).length).sum
theorem FE (t:ByteArray):∀ l,eZ t l<=jw l:=by
 intro l;induction l with
 | nil=>simp[eZ,jw]
 | cons p r ih=>
  have h1:(ao t p).length<=p.2 - p.1:=by
   unfold ao;simp;omega
  simp only[eZ,jw,List.map_cons,List.sum_cons]at ih ⊢;omega
theorem mQ (t:ByteArray)(a b:List (Nat×Nat)):eZ t (a++b)=eZ t a+eZ t b:=by simp[eZ]
theorem kE (t:ByteArray)(p:Nat×Nat)(b:List (Nat×Nat)):eZ t (p::b)=(ao t p).length+eZ t b:=by simp[eZ]
theorem uO (a b:List (Nat×Nat)):jw (a++b)=jw a+jw b:=by simp[jw]
theorem Cy:∀ (s:List UInt8)(i:Nat)(f:Option Nat),(∀ b,f=some b->b<=i)->jw (cZ i f s)<=s.length+(i - f.getD i):=by
 intro s;induction s with
 | nil=>
  intro i f hf;cases f with
  | none=>simp[cZ,eO,jw]
  | some b=>simp[cZ,eO,jw]
 | cons c r ih=>
  intro i f hf;have hs:jw (eO f i)=i - f.getD i:=by cases f <;> simp[eO,jw]
  rw[cZ];split
  .have h:=ih (i+1) none (fun b hb=>by cases hb);rw[uO];have e:jw ((i,i+1)::cZ (i+1) none r)=1+jw (cZ (i+1) none r):=by simp[jw]
   simp at h;rw[e,hs,List.length_cons];omega
  .split
   .have h:=ih (i+1) none (fun b hb=>by cases hb);simp at h;rw[uO,hs,List.length_cons];omega
   .cases f with
    | none=>
     have h:=ih (i+1) (some i) (fun b hb=>by cases hb;omega);simp at h ⊢;omega
    | some b=>
     have hb:=hf b rfl;have h:=ih (i+1) (some b) (fun b' hb'=>by cases hb';omega);simp at h ⊢;omega
theorem vZ (t:ByteArray):eZ t (dC t.data.toList)<=t.size:=by
 have h1:=FE t (dC t.data.toList);have h2:=Cy t.data.toList 0 none (fun b hb=>by cases hb);have h3:t.data.toList.length=t.size:=by simp
 simp at h2;unfold dC at h1 ⊢;omega
def fL (t:ByteArray):List (Nat×Nat)->Int->Int
 | [],n=>n
 | p::r,n=>fL t r (gi t p n)
theorem ma (t:ByteArray):∀ (a b:List (Nat×Nat)) (n:Int),fL t (a++b) n=fL t b (fL t a n):=by
 intro a;induction a with
 | nil=>intro b n;rfl
 | cons p r ih=>intro b n;exact ih b _
theorem nk (t:ByteArray):∀ (a b:List (Nat×Nat)) (n:Int),fQ t (a++b) n=-1->fQ t a n=-1/\fQ t b (fL t a n)=-1:=by
 intro a;induction a with
 | nil=>intro b n h;exact⟨rfl,h⟩
 | cons p r ih=>
  intro b n h;rw[List.cons_append,fQ]at h;rw[fQ,fL,gi];split at h
  .rename_i h1;rw[if_pos h1,if_pos h1];split at h
   .omega
   .rename_i h2;rw[if_neg h2];exact ih b _ h
  .rename_i h1;rw[if_neg h1,if_neg h1];split at h
   .rename_i h2;rw[if_pos h2,if_pos h2];exact ih b _ h
   .rename_i h2;rw[if_neg h2,if_neg h2];exact ih b _ h
theorem vq {t:ByteArray}:∀ {l:List (Nat×Nat)} (n:Int),qM t l->fL t l n=n:=by
 intro l;induction l with
 | nil=>intro n _;rfl
 | cons p r ih=>
  intro n h;rw[fL,lD n (h p (List.mem_cons_self ..))];exact ih n fun q hq=>h q (Qf _ hq)
theorem qp {t:ByteArray}{p:Nat×Nat}(n:Int):fL t [p] n=gi t p n:=rfl
theorem rC {t:ByteArray}{p:Nat×Nat}(h:ao t p=fE):¬ ao t p=dK/\¬ ao t p=dh:=by rw[h];decide
theorem GT.net {t:ByteArray}:∀ (d:Nat) (ws:List (Nat×Nat)) (tr:af d) (n:Int),GT t d ws tr->fL t ws n=n:=by
 intro d;induction d with
 | zero=>intro ws tr n h;rw[show ws=[] from h];rfl
 | succ d ih=>
  intro ws tr n h;have key:∀ (l:List (Hd×af d×af d)) (ws:List (Nat×Nat)) (n:Int),GL t (GT t d) (cm d) ws l->fL t ws n=n:=by
   intro l;induction l with
   | nil=>intro ws n h;rw[show ws=[] from h];rfl
   | cons x r ihl=>
    intro ws n h;rw[GL]at h;obtain⟨wo,wb,wr,f,rfl,hh,hp,hr,hb⟩:=h;rw[ma,vq n hp,ma];rcases hb with ⟨_,rfl,_⟩|⟨o,wa,c,_,rfl,h1,h2,h3,_⟩|⟨o,wa,c,e,o2,wa2,c2,_,rfl,h1,h2,h3,h4,h5,h6,h7⟩
    .exact ihl wr n hr
    .rw[fL,kA n h1,ma,ih _ _ _ h3,qp,kC _ h2,show n+1 - 1=n from by omega];exact ihl wr n hr
    .rw[fL,kA n h1,ma,ih _ _ _ h6,fL,kC _ h2,fL,lD _ (rC h3),fL,kA _ h4,ma,ih _ _ _ h7,qp,kC _ h5,
      show n+1 - 1+1 - 1=n from by omega]
     exact ihl wr n hr
  exact key tr ws n h
def eQ (t:ByteArray):(d:Nat)->af d->Nat->Prop
 | 0,_,_=>True
 | d+1,l,k=>∀ x:Hd×af d×af d,x∈l.list->(ao t x.1.p=ch->k<4)/\eQ t d x.2.1 (k+1)/\eQ t d x.2.2 (k+1)
theorem eQ.nil (t:ByteArray)(d k:Nat):eQ t d (cm d) k:=by
 cases d with
 | zero=>trivial
 | succ d=>intro x hx;exact absurd hx (by simp[cm,af.list])
theorem gv.repeat {t:ByteArray}{wo:List (Nat×Nat)}{h:Hd}{f:Nat}(hh:gv t wo h f)(hk:ao t h.p=ch):¬ f=0:=by
 rcases hh with ⟨p,q,_,_,h1,rfl⟩|⟨p,q,_,_,h1,rfl⟩|⟨p,_,_,h1,rfl⟩|⟨p,q,r,_,_,h1,rfl⟩|⟨p,q,r,s,_,_,h1,rfl⟩|⟨p,q,_,rfl,_⟩;iterate 5
  .rw[h1]at hk;exact absurd hk (by decide)
 .decide
theorem rM {t:ByteArray}{p:Nat×Nat}{r:List (Nat×Nat)}{n:Int}(h:ao t p=dK)(hd:fQ t (p::r) n=-1):n<4/\fQ t r (n+1)=-1:=by
 have h':ao t p=[123]:=h;rw[fQ,if_pos h']at hd;split at hd
 .omega
 .exact⟨by omega,hd⟩
theorem GT.nest {t:ByteArray}:∀ (d:Nat) (ws:List (Nat×Nat)) (tr:af d) (k:Nat),GT t d ws tr->fQ t ws (k:Nat)=-1->eQ t d tr k:=by
 intro d;induction d with
 | zero=>intro ws tr k _ _;trivial
 | succ d ih=>
  intro ws tr k h hd;have key:∀ (l:List (Hd×af d×af d)) (ws:List (Nat×Nat)),GL t (GT t d) (cm d) ws l->fQ t ws (k:Nat)=-1->eQ t (d+1) l k:=by
   intro l;induction l with
   | nil=>intro ws _ _ x hx;exact absurd hx (by simp[af.list])
   | cons x r ihl=>
    intro ws h hd;rw[GL]at h;obtain⟨wo,wb,wr,f,rfl,hh,hp,hr,hb⟩:=h;obtain⟨_,A4⟩:=nk t _ _ _ hd;rw[vq _ hp]at A4;obtain⟨A7,A5⟩:=nk t _ _ _ A4;have A3:fL t wb (k:Nat)=(k:Nat):=by
     rcases hb with ⟨_,rfl,_⟩|⟨o,wa,c,_,rfl,h1,h2,h3,_⟩|⟨o,wa,c,e,o2,wa2,c2,_,rfl,h1,h2,h3,h4,h5,h6,h7⟩
     .rfl
     .rw[fL,kA _ h1,ma,GT.net _ _ _ _ h3,qp,kC _ h2];omega
     .rw[fL,kA _ h1,ma,GT.net _ _ _ _ h6,fL,kC _ h2,fL,lD _ (rC h3),fL,kA _ h4,ma,GT.net _ _ _ _ h7,qp,kC _ h5];omega
    rw[A3]at A5;have B0:=ihl wr hr A5;intro y hy;rcases List.mem_cons.mp (show y∈x::r from hy) with rfl|hy
    .rcases hb with ⟨hf,_,h1,h2,_⟩|⟨o,wa,c,hf,rfl,h1,h2,h3,h4,_⟩|⟨o,wa,c,e,o2,wa2,c2,hf,rfl,h1,h2,h3,h4,h5,h6,h7⟩
     .rw[h1,h2];exact⟨fun hk=>absurd hf (hh.repeat hk),eQ.nil _ _ _,eQ.nil _ _ _⟩
     .obtain⟨A9,A1⟩:=rM h1 A7;rw[h4];exact⟨fun _=>by omega,ih _ _ (k+1) h3 (nk t _ _ _ A1).1,eQ.nil _ _ _⟩
     .obtain⟨A9,A1⟩:=rM h1 A7;obtain⟨A8,A0⟩:=nk t _ _ _ A1;rw[GT.net _ _ _ _ h6]at A0;have A6:=(nk t [c,e] _ _ A0).2;have e1:fL t [c,e] ((k:Nat)+1:Int)=(k:Nat):=by rw[fL,kC _ h2,fL,lD _ (rC h3)];show((k:Nat)+1 - 1:Int)=_;omega
      rw[e1]at A6;obtain⟨_,A2⟩:=rM h4 A6;exact⟨fun _=>by omega,ih _ _ (k+1) h6 A8,ih _ _ (k+1) h7 (nk t _ _ _ A2).1⟩
    .exact B0 y hy
  exact key tr ws h hd
theorem FT {t:ByteArray}:∀ (d:Nat) (tr:af d) (k lv:Nat),aF t d tr->eQ t d tr k->lv<=k->kP t d tr lv:=by
 intro d;induction d with
 | zero=>intro tr k lv _ _ _;trivial
 | succ d ih=>
  intro tr k lv hg hn hl x hx;obtain⟨g1,g2,g3⟩:=hg x hx;obtain⟨n1,n2,n3⟩:=hn x hx;exact⟨g1,fun hk=>⟨by have:=n1 hk;omega,ih _ (k+1) _ g2 n2 (by omega)⟩,fun _=>⟨ih _ (k+1) _ g2 n2 (by omega),ih _ (k+1) _ g3 n3 (by omega)⟩⟩
theorem pS (t:ByteArray)(d:Nat)(tr:af d)(n:Int):fI t d tr n=-1\/0<=fI t d tr n:=by
 obtain⟨h1,h2⟩:=xe t d tr n;cases h:ji t d tr n with
 | none=>left;rw[h1,h];rfl
 | some p=>right;rw[h1,h];exact h2 p h
theorem Fu (t:ByteArray)(d:Nat):cK t d (cm d)=0:=by cases d <;> rfl
theorem gv.by {t:ByteArray}{wo:List (Nat×Nat)}{h:Hd}{f:Nat}(hh:gv t wo h f):(ao t h.p).length<=eZ t wo:=by
 rcases hh with ⟨p,q,rfl,_,_,rfl⟩|⟨p,q,rfl,_,_,rfl⟩|⟨p,rfl,_,_,rfl⟩|⟨p,q,r,rfl,_,_,rfl⟩|⟨p,q,r,s,rfl,_,_,rfl⟩|⟨p,q,rfl,_,_,rfl⟩ <;> (rw[kE];exact Nat.le_add_right _ _)
theorem gv.plain {t:ByteArray}{wo:List (Nat×Nat)}{h:Hd}{f:Nat}(hh:gv t wo h f)(hf:f=0):¬ (ao t h.p=dV\/ao t h.p=dL)/\¬ ao t h.p=ch:=by
 rcases hh with ⟨p,q,_,_,h1,rfl⟩|⟨p,q,_,_,h1,rfl⟩|⟨p,_,_,h1,rfl⟩|⟨p,q,r,_,h2,_⟩|⟨p,q,r,s,_,h2,_⟩|⟨p,q,_,h2,_⟩
 .rw[show(⟨p,cA (ao t q),0,0⟩:Hd).p=p from rfl,h1];decide
 .rw[show(⟨p,0,bm (ao t q),0⟩:Hd).p=p from rfl,h1];decide
 .rw[show(⟨p,0,0,0⟩:Hd).p=p from rfl,h1];decide
 .omega
 .omega
 .omega
theorem GT.wt {t:ByteArray}:∀ (d:Nat) (ws:List (Nat×Nat)) (tr:af d) (w:Nat),GT t d ws tr->aF t d tr->fI t d tr (w:Nat)=-1->w<=64->w*cK t d tr<=16*eZ t ws:=by
 intro d;induction d with
 | zero=>intro ws tr w _ _ _ _;show w*0<=_;omega
 | succ d ih=>
  intro ws tr w h hg hv hw;have key:∀ (l:List (Hd×af d×af d)) (ws:List (Nat×Nat)),GL t (GT t d) (cm d) ws l->aF t (d+1) l->kj t (fI t d) l (w:Nat)=-1->w*(l.map fun x=>gM t (cK t d) x 0).sum<=16*eZ t ws:=by
   intro l;induction l with
   | nil=>intro ws _ _ _;simp
   | cons x r ihl=>
    intro ws h hg hv;rw[GL]at h;obtain⟨wo,wb,wr,f,rfl,hh,hp,hr,hb⟩:=h;obtain⟨g1,g2,g3⟩:=hg x (List.mem_cons_self ..);have A7:aF t (d+1) r:=fun y hy=>hg y (Qf _ hy);rw[List.map_cons,List.sum_cons,Nat.mul_add,mQ,mQ];have A0:=hh.by
    have A1:w*gM t (cK t d) x 0<=16*(eZ t wo+eZ t wb)/\kj t (fI t d) r (w:Nat)=-1:=by
     rw[kj]at hv;by_cases hk:ao t x.1.p=ch
     .rw[if_pos hk]at hv;split at hv
      .omega
      .rename_i hle;rcases pS t d x.2.1 ((w:Nat)*x.1.n) with hA|hA
       .rw[if_neg (by omega)]at hv;rcases pS t d x.2.2 ((w:Nat)*x.1.n) with hB|hB
        .rw[if_neg (by omega)]at hv;refine⟨?_,hv⟩;have A8:1<=x.1.n/\x.1.n<=9:=by
          rcases g1 with ⟨h,_⟩|⟨h,_⟩|⟨h,_⟩|⟨h,_⟩|⟨h,_⟩|⟨_,h1,h2,_⟩;iterate 5
           .rw[hk]at h;cases h
          .exact⟨h1,h2⟩
         obtain⟨n,hn⟩:∃ n:Nat,x.1.n=(n:Nat):=⟨x.1.n.toNat,by omega⟩;rw[hn]at hA hle;rw[<- Int.natCast_mul]at hA hle;have A4:w*n<=64:=by omega
         have A6:6<=eZ t wo:=by rw[hk]at A0;exact A0
         have e:gM t (cK t d) x 0=1+n*(cK t d x.2.1+1):=by unfold gM;rw[hk,hn];simp;rfl
         rw[e];have A2:w*n*cK t d x.2.1+16*2<=16*eZ t wb:=by
          rcases hb with ⟨hf,_⟩|⟨o,wa,c,hf,rfl,h1,h2,h3,h4,_⟩|⟨o,wa,c,e,o2,wa2,c2,hf,rfl,h1,h2,h3,h4,h5,h6,h7⟩
          .exact absurd hf (hh.repeat hk)
          .have:=ih wa x.2.1 (w*n) h3 g2 hA A4;rw[kE,mQ,kE,h1,h2];show _<=16*(1+(eZ t wa+(1+eZ t [])));omega
          .have:=ih wa x.2.1 (w*n) h6 g2 hA A4;rw[kE,mQ,kE,h1,h2];show _<=16*(1+(eZ t wa+(1+_)));omega
         have e2:w*(1+n*(cK t d x.2.1+1))=w+w*n*cK t d x.2.1+w*n:=by
          rw[Nat.mul_add,Nat.mul_one,<- Nat.mul_assoc,Nat.mul_add,Nat.mul_one];omega
         rw[e2];omega
        .rw[if_pos hB]at hv;omega
       .rw[if_pos hA]at hv;omega
     .rw[if_neg hk]at hv;rcases pS t d x.2.1 (w:Nat) with hA|hA
      .rw[if_neg (by omega)]at hv;rcases pS t d x.2.2 (w:Nat) with hB|hB
       .rw[if_neg (by omega)]at hv;refine⟨?_,hv⟩;by_cases hs:ao t x.1.p=eA
        .have e:gM t (cK t d) x 0=1:=by unfold gM;rw[if_pos hs]
         have A3:4<=eZ t wo:=by rw[hs]at A0;exact A0
         rw[e];omega
        .by_cases ha:ao t x.1.p=dV\/ao t x.1.p=dL
         .have e:gM t (cK t d) x 0=1+max (cK t d x.2.1) (cK t d x.2.2):=by unfold gM;rw[if_neg hs,if_pos ha]
          have A5:3<=eZ t wo:=by
           rcases ha with ha|ha
           .rw[ha]at A0;exact A0
           .rw[ha]at A0;exact Qc (by decide) A0
          have A2:w*max (cK t d x.2.1) (cK t d x.2.2)+16*2<=16*eZ t wb:=by
           rcases hb with ⟨hf,_⟩|⟨o,wa,c,hf,rfl,h1,h2,h3,h4,_⟩|⟨o,wa,c,e,o2,wa2,c2,hf,rfl,h1,h2,h3,h4,h5,h6,h7⟩
           .exact absurd ha (hh.plain hf).1
           .have:=ih wa x.2.1 w h3 g2 hA hw;rw[h4,Fu,Nat.max_zero,kE,mQ,kE,h1,h2];show _<=16*(1+(eZ t wa+(1+eZ t [])));omega
           .have i1:=ih wa x.2.1 w h6 g2 hA hw;have i2:=ih wa2 x.2.2 w h7 g3 hB hw;have hm:w*max (cK t d x.2.1) (cK t d x.2.2)<=16*eZ t wa+16*eZ t wa2:=by
             rcases Nat.le_total (cK t d x.2.1) (cK t d x.2.2) with hle|hle
             .rw[Nat.max_eq_right hle];omega
             .rw[Nat.max_eq_left hle];omega
            rw[kE,mQ,kE,kE,kE,mQ,h1,h2];show _<=16*(1+(eZ t wa+(1+_)));omega
          rw[e,Nat.mul_add,Nat.mul_one];omega
         .have e:gM t (cK t d) x 0=1:=by unfold gM;rw[if_neg hs,if_neg ha,if_neg hk]
          have A3:4<=eZ t wo:=by
           rcases g1.kind with h|h|h|h|h|h
           .exact absurd h hs
           iterate 2
            .rw[h]at A0;exact A0
           .exact absurd (.inl h) ha
           .exact absurd (.inr h) ha
           .exact absurd h hk
          rw[e];omega
       .rw[if_pos hB]at hv;omega
      .rw[if_pos hA]at hv;omega
    have h2:=ihl wr hr A7 A1.2;have h1:=A1.1;omega
  exact key tr ws h hg hv
theorem bu.same {t:ByteArray}{tr:af 5}(h:bu t tr)(ht:t.size<=400):bq (mt (cL t tr)) (lO t tr) (jh t (cL t tr) 6400):=by
 refine Gf (by omega) ?_ (FT 5 tr 0 0 h.good (GT.nest 5 _ tr 0 h.words h.deep) (v9 _));have h1:=GT.wt 5 _ tr 1 h.words h.good h.heavy (by omega);have h2:=vZ t;omega
def cX (t:ByteArray):(d:Nat)->af d->Prop
 | 0,_=>True
 | d+1,l=>∀ x:Hd×af d×af d,x∈l.list->bt t x.1/\(ao t x.1.p=dV\/ao t x.1.p=dL\/ao t x.1.p=ch\/x.2.2=cm d)/\cX t d x.2.1/\cX t d x.2.2
theorem cX.nil (t:ByteArray)(d:Nat):cX t d (cm d):=by
 cases d with
 | zero=>trivial
 | succ d=>intro x hx;cases hx
structure je (t:ByteArray)(x:It):Prop where
 hd:bt t x.s.1
 leaf:ao t x.s.1.p=dV\/ao t x.s.1.p=dL\/ao t x.s.1.p=ch\/x.s.2.2=cm x.d
 a:cX t x.d x.s.2.1
 b:cX t x.d x.s.2.2
 retry:ao t x.s.1.p=dL->(x.i:Int)<=x.s.1.m
 repeat':ao t x.s.1.p=ch->(x.i:Int)<=x.s.1.n
structure aK (t:ByteArray)(l:List It):Prop where
 all:∀ x∈l,je t x
 wt:eN t l<=6400
theorem bt.retry_m {t:ByteArray}{h:Hd}(g:bt t h)(hk:ao t h.p=dL):1<=h.n/\h.n<=999/\1<=h.m/\h.m<=6:=by
 rcases g with ⟨h1,_⟩|⟨h1,_⟩|⟨h1,_⟩|⟨h1,_⟩|⟨_,h2,h3,h4,h5⟩|⟨h1,_⟩
 .rw[hk]at h1;cases h1
 .rw[hk]at h1;cases h1
 .rw[hk]at h1;cases h1
 .rw[hk]at h1;cases h1
 .exact⟨h2,h3,h4,h5⟩
 .rw[hk]at h1;cases h1
theorem bt.repeat_n {t:ByteArray}{h:Hd}(g:bt t h)(hk:ao t h.p=ch):1<=h.n/\h.n<=9:=by
 rcases g with ⟨h1,_⟩|⟨h1,_⟩|⟨h1,_⟩|⟨h1,_⟩|⟨h1,_⟩|⟨_,h2,h3,_⟩
 .rw[hk]at h1;cases h1
 .rw[hk]at h1;cases h1
 .rw[hk]at h1;cases h1
 .rw[hk]at h1;cases h1
 .rw[hk]at h1;cases h1
 .exact⟨h2,h3⟩
theorem bt.ask_n {t:ByteArray}{h:Hd}(g:bt t h)(hk:ao t h.p=dV):1<=h.n/\h.n<=999:=by
 rcases g with ⟨h1,_⟩|⟨h1,_⟩|⟨h1,_⟩|⟨_,h2,h3,_⟩|⟨h1,_⟩|⟨h1,_⟩
 .rw[hk]at h1;cases h1
 .rw[hk]at h1;cases h1
 .rw[hk]at h1;cases h1
 .exact⟨h2,h3⟩
 .rw[hk]at h1;cases h1
 .rw[hk]at h1;cases h1
theorem bt.wait_n {t:ByteArray}{h:Hd}(g:bt t h)(hk:ao t h.p=eJ):1<=h.n/\h.n<=999:=by
 rcases g with ⟨h1,_⟩|⟨_,h2,h3,_⟩|⟨h1,_⟩|⟨h1,_⟩|⟨h1,_⟩|⟨h1,_⟩
 .rw[hk]at h1;cases h1
 .exact⟨h2,h3⟩
 .rw[hk]at h1;cases h1
 .rw[hk]at h1;cases h1
 .rw[hk]at h1;cases h1
 .rw[hk]at h1;cases h1
theorem xR {t:ByteArray}{d:Nat}{tr:af d}(h:cX t d tr):∀ x∈bB d tr,je t x:=by
 cases d with
 | zero=>intro x hx;cases hx
 | succ d=>
  intro x hx;obtain⟨y,hy,rfl⟩:=List.mem_map.mp hx;obtain⟨h1,h2,h3,h4⟩:=h y hy;refine⟨h1,h2,h3,h4,fun hk=>?_,fun hk=>?_⟩
  .have:=h1.retry_m hk;show((0:Nat):Int)<=y.1.m;omega
  .have:=h1.repeat_n hk;show((0:Nat):Int)<=y.1.n;omega
theorem Fs (t:ByteArray)(x:It):1<=ia t x:=by
 unfold ia gM;split
 .exact v9 _
 .split
  .omega
  .split
   .omega
   .exact v9 _
theorem Ft (t:ByteArray):∀ l:List It,l.length<=eN t l:=by
 intro l;induction l with
 | nil=>exact Qa _
 | cons x l ih=>rw[iu,List.length_cons];have:=Fs t x;omega
theorem aK.len {t:ByteArray}{l:List It}(h:aK t l):l.length<=6400:=Qc (Ft t l) h.wt
theorem aK.nil (t:ByteArray):aK t []:=⟨fun x hx=>(by cases hx),Qa _⟩
theorem aK.tail {t:ByteArray}{x:It}{l:List It}(h:aK t (x::l)):aK t l:=
 ⟨fun y hy=>h.all y (Qf _ hy),by have:=h.wt;rw[iu]at this;omega⟩
theorem vR {t:ByteArray}{d:Nat}(ih:∀ tr:af d,cX t d tr->fN t d tr<=cK t d tr)(x:Hd×af d×af d)(i:Nat)(h:bt t x.1/\(ao t x.1.p=dV\/ao t x.1.p=dL\/ao t x.1.p=ch\/x.2.2=cm d)/\cX t d x.2.1/\cX t d x.2.2):lq t (fN t d) x i<=gM t (cK t d) x i:=by
 obtain⟨h1,h2,h3,h4⟩:=h;have i1:=ih _ h3;have i2:=ih _ h4;have hn:fN t d (cm d)=0:=by cases d <;> rfl
 unfold lq gM;rcases h1.kind with hk|hk|hk|hk|hk|hk
 .have h5:x.2.2=cm d:=by
   rcases h2 with h|h|h|h
   .rw[hk]at h;cases h
   .rw[hk]at h;cases h
   .rw[hk]at h;cases h
   .exact h
  rw[h5,hn,hk,if_neg (by decide),if_pos rfl];exact v9 _
 iterate 2
  .have h5:x.2.2=cm d:=by
    rcases h2 with h|h|h|h
    .rw[hk]at h;cases h
    .rw[hk]at h;cases h
    .rw[hk]at h;cases h
    .exact h
   rw[h5,hn,hk,if_neg (by decide),if_neg (by decide),if_neg (by decide),if_neg (by decide)];exact v9 _
 iterate 2
  .rw[hk,if_neg (by decide),if_neg (by decide),if_pos (by decide)];have:=Nat.le_max_right (cK t d x.2.1) (cK t d x.2.2);omega
 .rw[hk,if_pos rfl,if_neg (by decide),if_neg (by decide),if_pos rfl];have:=Nat.mul_le_mul_left (x.1.n.toNat - i) (Nat.add_le_add_right i1 1);omega
theorem FP (t:ByteArray):∀ (d:Nat) (tr:af d),cX t d tr->fN t d tr<=cK t d tr:=by
 intro d;induction d with
 | zero=>intro tr _;exact v9 _
 | succ d ih=>
  intro tr h;have:∀ l:List (Hd×af d×af d),cX t (d+1) l->(l.map fun x=>lq t (fN t d) x 0).sum<=(l.map fun x=>gM t (cK t d) x 0).sum:=by
   intro l;induction l with
   | nil=>intro _;exact v9 _
   | cons x l ihl=>
    intro h;rw[List.map_cons,List.map_cons,List.sum_cons,List.sum_cons];have h1:=vR ih x 0 (h x (List.mem_cons_self ..));have h2:=ihl fun y hy=>h y (Qf _ hy);omega
  exact this tr h
theorem je.ms {t:ByteArray}{x:It}(h:je t x):kt t x<=ia t x:=vR (fun tr=>FP t x.d tr) x.s x.i ⟨h.hd,h.leaf,h.a,h.b⟩
theorem aK.ms {t:ByteArray}:∀ {l:List It},(∀ x∈l,je t x)->dF t l<=eN t l:=by
 intro l;induction l with
 | nil=>intro _;exact v9 _
 | cons x l ih=>
  intro h;rw[kF,iu];have h1:=(h x (List.mem_cons_self ..)).ms;have h2:=ih fun y hy=>h y (Qf _ hy);omega
theorem aK.msb {t:ByteArray}{l:List It}(h:aK t l):dF t l<=6400:=Qc (aK.ms h.all) h.wt
theorem aK.before {t:ByteArray}{d:Nat}{tr:af d}{l:List It}(hf:cX t d tr)(hl:∀ x∈l,je t x)(hw:cK t d tr+eN t l<=6400):aK t (bB d tr++l):=by
 refine⟨fun x hx=>?_,by rw[jY,jD];exact hw⟩;rcases List.mem_append.mp hx with hx|hx
 .exact xR hf x hx
 .exact hl x hx
theorem aK.yes {t:ByteArray}{x:It}{l:List It}(h:aK t (x::l))(hk:ao t x.s.1.p=dV\/ao t x.s.1.p=dL):aK t (bB x.d x.s.2.1++l):=by
 have h1:=h.wt;have h2:=h.all x (List.mem_cons_self ..);have e:ia t x=1+max (cK t x.d x.s.2.1) (cK t x.d x.s.2.2):=by
  rcases hk with hk|hk
  .exact tc hk
  .exact kY hk
 rw[iu,e]at h1;have h3:=Nat.le_max_left (cK t x.d x.s.2.1) (cK t x.d x.s.2.2);exact .before h2.a h.tail.all (by omega)
theorem aK.no {t:ByteArray}{x:It}{l:List It}(h:aK t (x::l))(hk:ao t x.s.1.p=dV\/ao t x.s.1.p=dL):aK t (bB x.d x.s.2.2++l):=by
 have h1:=h.wt;have h2:=h.all x (List.mem_cons_self ..);have e:ia t x=1+max (cK t x.d x.s.2.1) (cK t x.d x.s.2.2):=by
  rcases hk with hk|hk
  .exact tc hk
  .exact kY hk
 rw[iu,e]at h1;have h3:=Nat.le_max_right (cK t x.d x.s.2.1) (cK t x.d x.s.2.2);exact .before h2.b h.tail.all (by omega)
theorem aK.again {t:ByteArray}{x:It}{l:List It}(h:aK t (x::l))(hk:ao t x.s.1.p=dL)(hi:¬ (x.i:Int)=x.s.1.m):aK t ((⟨x.d,x.s,x.i+1⟩:It)::l):=by
 have h1:=h.wt;have h2:=h.all x (List.mem_cons_self ..);have h3:=h2.retry hk;refine⟨fun y hy=>?_,?_⟩
 .rcases List.mem_cons.mp hy with rfl|hy
  .exact⟨h2.hd,h2.leaf,h2.a,h2.b,fun _=>by show((x.i+1:Nat):Int)<=x.s.1.m;omega,fun hh=>(by rw[show ao t (⟨x.d,x.s,x.i+1⟩:It).s.1.p=ao t x.s.1.p from rfl,hk]at hh;cases hh)⟩
  .exact h.all y (Qf _ hy)
 .rw[iu,kY hk]at h1;rw[iu,kY (x:=(⟨x.d,x.s,x.i+1⟩:It)) hk];exact h1
theorem aK.more {t:ByteArray}{x:It}{l:List It}(h:aK t (x::l))(hk:ao t x.s.1.p=ch)(hi:(x.i:Int)<x.s.1.n):aK t ((⟨x.d,x.s,x.i+1⟩:It)::l)/\aK t (bB x.d x.s.2.1++(⟨x.d,x.s,x.i+1⟩:It)::l):=by
 have h1:=h.wt;have h2:=h.all x (List.mem_cons_self ..);have e:=pQ (n:=x.s.1.n.toNat) (i:=x.i) (W:=cK t x.d x.s.2.1) (by omega);rw[iu,mh hk,e]at h1;have A0:∀ y∈((⟨x.d,x.s,x.i+1⟩:It)::l),je t y:=fun y hy=>by
  rcases List.mem_cons.mp hy with rfl|hy
  .exact⟨h2.hd,h2.leaf,h2.a,h2.b,fun hh=>(by rw[show ao t (⟨x.d,x.s,x.i+1⟩:It).s.1.p=ao t x.s.1.p from rfl,hk]at hh;cases hh),fun _=>by show((x.i+1:Nat):Int)<=x.s.1.n;omega⟩
  .exact h.all y (Qf _ hy)
 have hw:eN t ((⟨x.d,x.s,x.i+1⟩:It)::l)=1+(x.s.1.n.toNat - (x.i+1))*(cK t x.d x.s.2.1+1)+eN t l:=by
  rw[iu,mh (x:=(⟨x.d,x.s,x.i+1⟩:It)) hk]
 exact⟨⟨A0,by rw[hw];omega⟩,.before h2.a A0 (by rw[hw];omega)⟩
theorem GT.fine {t:ByteArray}:∀ (d:Nat) (ws:List (Nat×Nat)) (tr:af d),GT t d ws tr->aF t d tr->cX t d tr:=by
 intro d;induction d with
 | zero=>intro ws tr _ _;trivial
 | succ d ih=>
  intro ws tr h hg;have key:∀ (l:List (Hd×af d×af d)) (ws:List (Nat×Nat)),GL t (GT t d) (cm d) ws l->aF t (d+1) l->cX t (d+1) l:=by
   intro l;induction l with
   | nil=>intro ws _ _ x hx;cases hx
   | cons y r ihl=>
    intro ws h hg x hx;rw[GL]at h;obtain⟨wo,wb,wr,f,rfl,hh,hp,hr,hb⟩:=h;rcases List.mem_cons.mp hx with rfl|hx
    .obtain⟨g1,g2,g3⟩:=hg x (List.mem_cons_self ..);refine⟨g1,?_,?_,?_⟩
     .rcases hb with ⟨_,_,_,h,_⟩|⟨o,wa,c,_,_,_,_,_,h,_⟩|⟨o,wa,c,e,o2,wa2,c2,hf,_⟩
      .exact .inr (.inr (.inr h))
      .exact .inr (.inr (.inr h))
      .rcases hh with ⟨_,_,_,h,_⟩|⟨_,_,_,h,_⟩|⟨_,_,h,_⟩|⟨p,q,r,_,_,h,e⟩|⟨p,q,r,s,_,_,h,e⟩|⟨_,_,_,h,_⟩
       .omega
       .omega
       .omega
       .rw[e];exact .inl h
       .rw[e];exact .inr (.inl h)
       .omega
     .rcases hb with ⟨_,_,h,_,_⟩|⟨o,wa,c,_,_,_,_,h,_,_⟩|⟨o,wa,c,e,o2,wa2,c2,hf,_,_,_,_,_,_,h,_⟩
      .rw[h];exact cX.nil t d
      .exact ih _ _ h g2
      .exact ih _ _ h g2
     .rcases hb with ⟨_,_,_,h,_⟩|⟨o,wa,c,_,_,_,_,_,h,_⟩|⟨o,wa,c,e,o2,wa2,c2,hf,_,_,_,_,_,_,_,h⟩;iterate 2
       .rw[h];exact cX.nil t d
      .exact ih _ _ h g3
    .exact ihl wr hr (fun z hz=>hg z (Qf _ hz)) x hx
  exact key tr ws h hg
theorem bu.its {t:ByteArray}{tr:af 5}(h:bu t tr)(ht:t.size<=400):aK t (bB 5 tr):=by
 have h1:=GT.wt 5 _ tr 1 h.words h.good h.heavy (by omega);have h2:=vZ t;exact⟨xR (GT.fine 5 _ tr h.words h.good),by rw[jD];omega⟩
end Go.Proofs.Herald
