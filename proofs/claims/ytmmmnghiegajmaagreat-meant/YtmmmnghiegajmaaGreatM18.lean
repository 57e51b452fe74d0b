import Derived.Test.YtmmmnghiegajmaaGreatM14
set_option maxHeartbeats 1000000
namespace Go.Proofs.Herald
theorem zjA {i:Nat}(h:i<=6):(2:Int) ^ i<=64:=by
 have h1:2 ^ i<=2 ^ 6:=Nat.pow_le_pow_right (by decide) h
 have h2:((2 ^ i:Nat):Int)<=((2 ^ 6:Nat):Int):=Int.ofNat_le.mpr h1
 simpa using h2
theorem ziA {i:Nat}:(1:Int)<=2 ^ i:=by
 have h1:1<=2 ^ i:=Nat.one_le_two_pow
 have h2:((1:Nat):Int)<=((2 ^ i:Nat):Int):=Int.ofNat_le.mpr h1
 simpa using h2
theorem zqK {t:ByteArray}{cs:List Ins}{now:Int}{B f e g:Nat}{l:List It}{q:List Msg}{p:Pr}{r:TR}(h:zrh t cs p.regs B e l)(hf:B+6<f)(hg:msL t l<g)(hlen:p.regs.length=12)(hp:SameP p r.p):
  Out t cs B (zdu now cs f (e:Nat) q p) (doT t now g l q r):=by
 rcases h with ⟨lv,n,j,h,hB⟩|⟨d,x,i,lv,base,n,j,l',hk,hx,hok,rfl,hi1,him,hr4,hr5,rfl,hR,hB⟩
 .exact sim (msL t l) n h hB (by omega) (Nat.le_refl _) hg hlen hp
 .have hx':=hx
  obtain ⟨pc1,hpc1⟩:∃ pc1,pc1=base+(zdi t (zaI t d) x lv base).length:=⟨_,rfl⟩
  have hR':=hR
  rw [<- hpc1] at hR
  rw [zdj _ _ _ _ hk] at hx hpc1
  have hnr:¬ zaf t x.1.p=zax:=by rw [hk];exact nTR
  have hoAB:=hok.2.2 hnr
  have hlv:=Rp.lv4 hR
  have hmn:1<=x.1.n/\x.1.n<=999/\1<=x.1.m/\x.1.m<=6:=by
   rcases hok.1 with ⟨h,_⟩|⟨h,_⟩|⟨h,_⟩|⟨h,_⟩|⟨_,h1,h2,h3,h4⟩|⟨h,_⟩
   .rw [hk] at h;cases h
   .rw [hk] at h;cases h
   .rw [hk] at h;cases h
   .rw [hk] at h;cases h
   .exact ⟨h1,h2,h3,h4⟩
   .rw [hk] at h;cases h
  rw [zbQ] at hB
  have hwI:=zcL (x:=(⟨d,x,i⟩:It)) hk
  have hwI2:wtI t (⟨d,x,i+1⟩:It)=wtI t (⟨d,x,i⟩:It):=by rw [zcL (x:=(⟨d,x,i+1⟩:It)) hk,zcL (x:=(⟨d,x,i⟩:It)) hk]
  simp only at hwI
  rw [hwI] at hB
  have hmA:=Nat.le_max_left (wtT t d x.2.1) (wtT t d x.2.2)
  have hmB:=Nat.le_max_right (wtT t d x.2.1) (wtT t d x.2.2)
  rw [zc5,zeO (x:=(⟨d,x,i⟩:It)) hnr] at hg
  simp only at hg
  obtain ⟨_,hx1⟩:=hx.cons
  obtain ⟨_,hx2⟩:=hx1.cons
  obtain ⟨c2,hx3⟩:=hx2.cons
  obtain ⟨c3,hx4⟩:=hx3.cons
  obtain ⟨c4,hx5⟩:=hx4.cons
  obtain ⟨hBs,hx6⟩:=Seg.append hx5
  obtain ⟨c5,hA⟩:=hx6.cons
  obtain ⟨b,hb⟩:∃ b,b=(zaI t d x.2.2 lv (base+5)).length:=⟨_,rfl⟩
  rw [<- hb] at c2 c5 hA hpc1
  obtain ⟨f,rfl⟩:∃ k,f=k+1:=⟨f - 1,by omega⟩
  obtain ⟨f,rfl⟩:∃ k,f=k+1:=⟨f - 1,by omega⟩
  obtain ⟨f,rfl⟩:∃ k,f=k+1:=⟨f - 1,by omega⟩
  obtain ⟨g,rfl⟩:∃ k,g=k+1:=⟨g - 1,by omega⟩
  obtain ⟨ii,rfl⟩:∃ ii,i=ii+1:=⟨i - 1,by omega⟩
  rw [Nat.add_sub_cancel] at hr5
  have hp2:=zjA (i:=ii) (by omega)
  have hp1:=ziA (i:=ii)
  have hmul:x.1.n*2 ^ ii<=999*64:=Int.mul_le_mul hmn.2.1 hp2 (by omega) (by omega)
  have hmul1:1<=x.1.n*2 ^ (ii+1):=by
   have h1:1*1<=x.1.n*2 ^ (ii+1):=Int.mul_le_mul hmn.1 (ziA (i:=ii+1)) (by omega) (by omega)
   omega
  have hdbl:2*(x.1.n*2 ^ ii)=x.1.n*2 ^ (ii+1):=by rw [Int.pow_succ];generalize (2:Int) ^ ii=z;rw [Int.mul_comm z 2,<- Int.mul_assoc,<- Int.mul_assoc,Int.mul_comm 2 x.1.n]
  rw [znQ (a:=5) c3 q p (by rw [hr5];omega),hr5,hdbl]
  obtain ⟨p2,hp2e⟩:∃ p2:Pr,p2={p with regs:=p.regs.set 5 (x.1.n*2 ^ (ii+1))}:=⟨_,rfl⟩
  rw [<- hp2e]
  have h24:p2.regs.getD 4 0=x.1.m - (ii+1:Nat)+1:=by
   rw [hp2e]
   show (p.regs.set 5 _).getD 4 0=_
   rw [zbf (by decide)];exact hr4
  have h25:p2.regs.getD 5 0=x.1.n*2 ^ (ii+1):=by rw [hp2e];exact zcA (by omega)
  have h2l:p2.regs.length=12:=by rw [hp2e];simpa using hlen
  have h2o:∀ k,k<lv->p2.regs.getD k 0=p.regs.getD k 0:=fun k hk=>by
   rw [hp2e];exact zbf (by omega)
  have h2p:SameP p2 r.p:=by rw [hp2e];exact ⟨hp.id,hp.dev,hp.sent,hp.til,hp.num⟩
  by_cases him2:((ii+1:Nat):Int)=x.1.m
  .rw [show base+3+1=base+1+1+1+1 from by omega,zgz (a:=4) (c:=base+2) c4 q p2 (by rw [h24];omega),zfF (x:=(⟨d,x,ii+1⟩:It)) hk him2]
   obtain ⟨p3,hp3e⟩:∃ p3:Pr,p3={p2 with regs:=p2.regs.set 4 0}:=⟨_,rfl⟩
   rw [<- hp3e]
   have h3l:p3.regs.length=12:=by rw [hp3e];simpa using h2l
   have h3o:∀ k,k<lv->p3.regs.getD k 0=p.regs.getD k 0:=fun k hk=>by
    rw [hp3e]
    show (p2.regs.set 4 0).getD k 0=_
    rw [zbf (by omega)];exact h2o k hk
   have h3p:SameP p3 r.p:=by rw [hp3e];exact ⟨h2p.id,h2p.dev,h2p.sent,h2p.til,h2p.num⟩
   have hR3:=Rp.regs h3o hR
   have hBj:∃ m,Rp t cs p3.regs m (j+1) lv (base+5) (zaT d x.2.2++l'):=by
    refine Rp.block hBs hoAB.2 (n:=n+1) (Rp.jump (c:=pc1) ?_ hR3)
    rw [<- hb]
    rw [show base+1+1+1+1+1+b=base+5+b from by omega] at c5
    rw [c5,hpc1]
    simp [<- hb]
    omega
   obtain ⟨m,hBj⟩:=hBj
   refine sim (msL t (zaT d x.2.2++l')) m hBj ?_ ?_ (Nat.le_refl _) ?_ h3l h3p
   .show wtL t (zaT d x.2.2++l')+(j+1)<=B
    rw [zbM,zcP];omega
   .show wtL t (zaT d x.2.2++l')+(j+1)+3<f+1
    rw [zbM,zcP];omega
   .show msL t (zaT d x.2.2++l')<g
    rw [zcg,zdw];omega
  .rw [show base+3+1=base+1+1+1+1 from by omega,zhw (a:=4) (c:=base+2) c4 q p2 (by rw [h24];omega),zeL (x:=(⟨d,x,ii+1⟩:It)) hk him2]
   obtain ⟨p3,hp3e⟩:∃ p3:Pr,p3={p2 with regs:=p2.regs.set 4 (p2.regs.getD 4 0 - 1)}:=⟨_,rfl⟩
   rw [<- hp3e]
   have h34:p3.regs.getD 4 0=x.1.m - (ii+1:Nat):=by
    rw [hp3e]
    show (p2.regs.set 4 _).getD 4 0=_
    rw [zcA (by omega),h24];omega
   have h35:p3.regs.getD 5 0=x.1.n*2 ^ (ii+1):=by
    rw [hp3e]
    show (p2.regs.set 4 _).getD 5 0=_
    rw [zbf (by decide)];exact h25
   have h3l:p3.regs.length=12:=by rw [hp3e];simpa using h2l
   have h3o:∀ k,k<lv->p3.regs.getD k 0=p.regs.getD k 0:=fun k hk=>by
    rw [hp3e]
    show (p2.regs.set 4 _).getD k 0=_
    rw [zbf (by omega)];exact h2o k hk
   have h3p:SameP p3 r.p:=by rw [hp3e];exact ⟨h2p.id,h2p.dev,h2p.sent,h2p.til,h2p.num⟩
   have hR3:=Rp.regs h3o hR
   rw [zlC (b:=5) c2 q p3 (by rw [h35];exact hmul1),h35]
   obtain ⟨s1,s2,s3⟩:=h3p.send q x.1.key
   have hreg:=(zb6 q p3 x.1.key).1
   have hAl:base+6+b+(zaI t d x.2.1 lv (base+6+b)).length=pc1:=by rw [hpc1];simp [<- hb];omega
   rw [show base+1+1+1+1+1+b+1=base+6+b from by omega] at hA
   obtain ⟨mA,hRA⟩:=Rp.block hA hoAB.1 (by rw [hAl];exact hR3)
   refine ⟨s1,rfl,s3.id,fun _=>⟨⟨s3.id,s3.dev,s3.sent,rfl,s2⟩,?_,?_,fun _=>?_⟩⟩
   .show (zan q p3 x.1.key).2.1.regs.length=12
    rw [hreg];exact h3l
   .refine ⟨base+3,rfl,Or.inr ⟨d,x,ii+1+1,lv,base,n,j,l',hk,hx',hok,rfl,by omega,by omega,?_,?_,rfl,?_,?_⟩⟩
    .show (zan q p3 x.1.key).2.1.regs.getD 4 0=_
     rw [hreg,h34];omega
    .show (zan q p3 x.1.key).2.1.regs.getD 5 0=_
     rw [hreg,h35];rfl
    .show Rp t cs (zan q p3 x.1.key).2.1.regs _ _ _ _ _
     rw [hreg];exact Rp.regs h3o hR'
    .show wtL t (⟨d,x,ii+1+1⟩::l')+j<=B
     rw [zbQ,hwI2,hwI];exact hB
   .refine ⟨base+6+b,lv,rfl,mA,j,?_,?_⟩
    .show Rp t cs (zan q p3 x.1.key).2.1.regs _ _ _ _ _
     rw [hreg];exact hRA
    .show wtL t (zaT d x.2.1++l')+j<=B
     rw [zbM,zcP];omega
theorem zpT (now:Int)(cs:List Ins)(q:List Msg)(p:Pr):onP now cs true q p=zdu now cs 10000 p.tow q {p with num:=0}:=rfl
theorem zqD (now:Int)(cs:List Ins)(q:List Msg)(p:Pr):onP now cs false q p=zdu now cs 10000 p.els (if 0<p.num then zbK q p.id p.num else q) {p with num:=0}:=by
 unfold onP
 rw [if_neg (by simp)]
 split <;> rfl
theorem znz (t:ByteArray)(now:Int)(q:List Msg)(r:TR):onT t now true q r=doT t now (msL t r.yes+1) r.yes q {r with p:={r.p with num:=0}}:=rfl
theorem zpk (t:ByteArray)(now:Int)(q:List Msg)(r:TR):onT t now false q r=doT t now (msL t r.no+1) r.no (if 0<r.p.num then zbK q r.p.id r.p.num else q) {r with p:={r.p with num:=0}}:=by
 unfold onT
 rw [if_neg (by simp)]
 split <;> rfl
theorem znP {now:Int}{cs:List Ins}{F:Nat}{a b:Int}(h:a=b)(q:List Msg)(p:Pr):zdu now cs F a q p=zdu now cs F b q p:=by rw [h]
theorem Tied.on {t:ByteArray}{cs:List Ins}{B:Nat}{p:Pr}{r:TR}(h:Tied t cs B p r)(hB:B+6<10000)(now:Int)(yes:Bool)(q:List Msg)(hy:yes=true->p.num≠0):Out t cs B (onP now cs yes q p) (onT t now yes q r):=by
 obtain ⟨F,hF⟩:∃ F,F=10000:=⟨_,rfl⟩
 have hp0:SameP {p with num:=0} {r.p with num:=0}:=⟨h.pub.id,h.pub.dev,h.pub.sent,h.pub.til,rfl⟩
 cases yes with
 | true=>
  obtain ⟨e,lv,he,n,j,hR,hw⟩:=h.yes (hy rfl)
  rw [zpT,znz,<- hF,znP he]
  exact sim (r:={r with p:={r.p with num:=0}}) (msL t r.yes) n hR hw (by omega) (Nat.le_refl _) (Nat.lt_succ_self _) h.len hp0
 | false=>
  obtain ⟨e,he,hR⟩:=h.no
  have eq:(if 0<p.num then zbK q p.id p.num else q)=(if 0<r.p.num then zbK q r.p.id r.p.num else q):=by rw [h.pub.num,h.pub.id]
  rw [zqD,zpk,<- hF,eq,znP he]
  exact zqK (p:={p with num:=0}) (r:={r with p:={r.p with num:=0}}) hR (by omega) (Nat.lt_succ_self _) h.len hp0
theorem zgR (q:List Msg)(p:Pr)(key:Int):(zan q p key).2.1.id=p.id:=by
 unfold zan;split <;> rfl
theorem zja {t:ByteArray}{now:Int}:∀ (g:Nat) (l:List It) (q:List Msg) (r:TR),(doT t now g l q r).2.1.p.id=r.p.id:=by
 intro g
 induction g with
 | zero=>intro l q r;rfl
 | succ g ih=>
  intro l q r
  cases l with
  | nil=>rfl
  | cons x l=>
   rw [doT]
   split
   .rw [ih];exact zgR _ _ _
   .split
    .rfl
    .split
     .rfl
     .split
      .split
       .rw [ih];exact zgR _ _ _
       .exact zgR _ _ _
      .split
       .split
        .rw [ih]
        .exact zgR _ _ _
       .split
        .split
         .rw [ih]
         .rw [ih]
        .rfl
theorem zpj {t:ByteArray}{now:Int}(yes:Bool)(q:List Msg)(r:TR):(onT t now yes q r).2.1.p.id=r.p.id:=by
 unfold onT
 split
 .rw [zja]
 .split
  .rw [zja]
  .rw [zja]
theorem zp2 {t:ByteArray}{tr:Tree 5}{B:Nat}(hB:B+6<10000)(hw:wtT t 5 tr<=B)(ho:zmK t 5 tr 0):SameEng (zi8 (zbj t tr)) (zhO t tr) (Tied t (zbj t tr) B):=by
 have hseg:Seg (zbj t tr) 0 (zaI t 5 tr 0 0):=fun i x hx=>by rw [Nat.zero_add];exact hx
 have hst:∀ now q id dev,Out t (zbj t tr) B (zdu now (zbj t tr) 10000 ((0:Nat):Int) q (zaZ id dev)) (doT t now (msT t 5 tr+1) (zaT 5 tr) q ⟨zaZ id dev,[],[]⟩):=by
  intro now q id dev
  obtain ⟨m,hm⟩:∃ m,Rp t (zbj t tr) (zaZ id dev).regs m 0 0 0 (zaT 5 tr++[]):=Rp.block hseg ho (n:=1) (Or.inl ⟨rfl,by unfold zbj;simp,by omega⟩)
  rw [List.append_nil] at hm
  have h1:wtL t (zaT 5 tr)=wtT t 5 tr:=zcP t 5 tr
  have h2:msL t (zaT 5 tr)=msT t 5 tr:=zdw t 5 tr
  exact sim (msT t 5 tr) m hm (by omega) (by omega) (by omega) (by omega) (by simp [zaZ]) ⟨rfl,rfl,rfl,rfl,rfl⟩
 refine ⟨fun a b h=>?_,fun now q id dev=>?_,fun id dev=>⟨rfl,rfl⟩,fun a b h now yes q hy=>?_⟩
 .show zcE a=zcE b.p
  unfold zcE
  rw [h.pub.id,h.pub.dev,h.pub.sent,h.pub.til,h.pub.num]
 .have h:=hst now q id dev
  have hid:=zja (t:=t) (now:=now) (msT t 5 tr+1) (zaT 5 tr) q ⟨zaZ id dev,[],[]⟩
  exact ⟨h.q,h.done,h.id.trans hid,hid,h.tied⟩
 .have ho:=h.on hB now yes q hy
  have hid:=zpj (t:=t) (now:=now) yes q b
  exact ⟨ho.q,ho.done,(ho.id.trans hid).trans h.pub.id.symm,hid,ho.tied⟩
end Go.Proofs.Herald
set_option maxHeartbeats 1000000
namespace Go.Proofs.Herald
def zkv (l:List (Nat×Nat)):Nat:=(l.map fun p=>p.2 - p.1).sum
def byW (t:ByteArray)(l:List (Nat×Nat)):Nat:=(l.map fun p=>(zaf t p).length).sum
theorem zqk (t:ByteArray):∀ l,byW t l<=zkv l:=by
 intro l
 induction l with
 | nil=>simp [byW,zkv]
 | cons p r ih=>
  have h1:(zaf t p).length<=p.2 - p.1:=by
   unfold zaf
   simp
   omega
  simp only [byW,zkv,List.map_cons,List.sum_cons] at ih ⊢
  omega
theorem zdf (t:ByteArray)(a b:List (Nat×Nat)):byW t (a++b)=byW t a+byW t b:=by simp [byW]
theorem zc0 (t:ByteArray)(p:Nat×Nat)(b:List (Nat×Nat)):byW t (p::b)=(zaf t p).length+byW t b:=by simp [byW]
theorem zhg (a b:List (Nat×Nat)):zkv (a++b)=zkv a+zkv b:=by simp [zkv]
theorem znU:∀ (s:List UInt8)(i:Nat)(f:Option Nat),(∀ b,f=some b->b<=i)->zkv (zbE i f s)<=s.length+(i - f.getD i):=by
 intro s
 induction s with
 | nil=>
  intro i f hf
  cases f with
  | none=>simp [zbE,zcH,zkv]
  | some b=>simp [zbE,zcH,zkv]
 | cons c r ih=>
  intro i f hf
  have hs:zkv (zcH f i)=i - f.getD i:=by cases f <;> simp [zcH,zkv]
  rw [zbE]
  split
  .have h:=ih (i+1) none (fun b hb=>by cases hb)
   rw [zhg]
   have e:zkv ((i,i+1)::zbE (i+1) none r)=1+zkv (zbE (i+1) none r):=by simp [zkv]
   simp at h
   rw [e,hs,List.length_cons]
   omega
  .split
   .have h:=ih (i+1) none (fun b hb=>by cases hb)
    simp at h
    rw [zhg,hs,List.length_cons]
    omega
   .cases f with
    | none=>
     have h:=ih (i+1) (some i) (fun b hb=>by cases hb;omega)
     simp at h ⊢
     omega
    | some b=>
     have hb:=hf b rfl
     have h:=ih (i+1) (some b) (fun b' hb'=>by cases hb';omega)
     simp at h ⊢
     omega
theorem zi3 (t:ByteArray):byW t (za2 t.data.toList)<=t.size:=by
 have h1:=zqk t (za2 t.data.toList)
 have h2:=znU t.data.toList 0 none (fun b hb=>by cases hb)
 have h3:t.data.toList.length=t.size:=by simp
 simp at h2
 unfold za2 at h1 ⊢
 omega
def zgE (t:ByteArray):List (Nat×Nat)->Int->Int
 | [],n=>n
 | p::r,n=>zgE t r (zdT t p n)
theorem zcq (t:ByteArray):∀ (a b:List (Nat×Nat)) (n:Int),zgE t (a++b) n=zgE t b (zgE t a n):=by
 intro a
 induction a with
 | nil=>intro b n;rfl
 | cons p r ih=>intro b n;exact ih b _
theorem zcS (t:ByteArray):∀ (a b:List (Nat×Nat)) (n:Int),zdp t (a++b) n=-1->zdp t a n=-1/\zdp t b (zgE t a n)=-1:=by
 intro a
 induction a with
 | nil=>intro b n h;exact ⟨rfl,h⟩
 | cons p r ih=>
  intro b n h
  rw [List.cons_append,zdp] at h
  rw [zdp,zgE,zdT]
  split at h
  .rename_i h1
   rw [if_pos h1,if_pos h1]
   split at h
   .omega
   .rename_i h2
    rw [if_neg h2]
    exact ih b _ h
  .rename_i h1
   rw [if_neg h1,if_neg h1]
   split at h
   .rename_i h2
    rw [if_pos h2,if_pos h2]
    exact ih b _ h
   .rename_i h2
    rw [if_neg h2,if_neg h2]
    exact ih b _ h
theorem zia {t:ByteArray}:∀ {l:List (Nat×Nat)} (n:Int),zlv t l->zgE t l n=n:=by
 intro l
 induction l with
 | nil=>intro n _;rfl
 | cons p r ih=>
  intro n h
  rw [zgE,zcb n (h p (List.mem_cons_self ..))]
  exact ih n fun q hq=>h q (List.mem_cons_of_mem _ hq)
theorem zgK {t:ByteArray}{p:Nat×Nat}(n:Int):zgE t [p] n=zdT t p n:=rfl
theorem zft {t:ByteArray}{p:Nat×Nat}(h:zaf t p=zdq):¬ zaf t p=zbV/\¬ zaf t p=zbG:=by rw [h];decide
theorem GT.net {t:ByteArray}:∀ (d:Nat) (ws:List (Nat×Nat)) (tr:Tree d) (n:Int),GT t d ws tr->zgE t ws n=n:=by
 intro d
 induction d with
 | zero=>intro ws tr n h;rw [show ws=[] from h];rfl
 | succ d ih=>
  intro ws tr n h
  have key:∀ (l:List (Hd×Tree d×Tree d)) (ws:List (Nat×Nat)) (n:Int),GL t (GT t d) (zcn d) ws l->zgE t ws n=n:=by
   intro l
   induction l with
   | nil=>intro ws n h;rw [show ws=[] from h];rfl
   | cons x r ihl=>
    intro ws n h
    rw [GL] at h
    obtain ⟨wo,wb,wr,f,rfl,hh,hp,hr,hb⟩:=h
    rw [zcq,zia n hp,zcq]
    rcases hb with ⟨_,rfl,_⟩|⟨o,wa,c,_,rfl,h1,h2,h3,_⟩|⟨o,wa,c,e,o2,wa2,c2,_,rfl,h1,h2,h3,h4,h5,h6,h7⟩
    .exact ihl wr n hr
    .rw [zgE,zb4 n h1,zcq,ih _ _ _ h3,zgK,zb5 _ h2,show n+1 - 1=n from by omega]
     exact ihl wr n hr
    .rw [zgE,zb4 n h1,zcq,ih _ _ _ h6,zgE,zb5 _ h2,zgE,zcb _ (zft h3),zgE,zb4 _ h4,zcq,ih _ _ _ h7,zgK,zb5 _ h5,
      show n+1 - 1+1 - 1=n from by omega]
     exact ihl wr n hr
  exact key tr ws n h
def NestT (t:ByteArray):(d:Nat)->Tree d->Nat->Prop
 | 0,_,_=>True
 | d+1,l,k=>∀ x:Hd×Tree d×Tree d,x∈l.list->(zaf t x.1.p=zax->k<4)/\NestT t d x.2.1 (k+1)/\NestT t d x.2.2 (k+1)
theorem NestT.nil (t:ByteArray)(d k:Nat):NestT t d (zcn d) k:=by
 cases d with
 | zero=>trivial
 | succ d=>intro x hx;exact absurd hx (by simp [zcn,Tree.list])
theorem HdOk.repeat {t:ByteArray}{wo:List (Nat×Nat)}{h:Hd}{f:Nat}(hh:HdOk t wo h f)(hk:zaf t h.p=zax):¬ f=0:=by
 rcases hh with ⟨p,q,_,_,h1,rfl⟩|⟨p,q,_,_,h1,rfl⟩|⟨p,_,_,h1,rfl⟩|⟨p,q,r,_,_,h1,rfl⟩|⟨p,q,r,s,_,_,h1,rfl⟩|⟨p,q,_,rfl,_⟩
 .rw [h1] at hk;exact absurd hk (by decide)
 .rw [h1] at hk;exact absurd hk (by decide)
 .rw [h1] at hk;exact absurd hk (by decide)
 .rw [h1] at hk;exact absurd hk (by decide)
 .rw [h1] at hk;exact absurd hk (by decide)
 .decide
theorem zgh {t:ByteArray}{p:Nat×Nat}{r:List (Nat×Nat)}{n:Int}(h:zaf t p=zbV)(hd:zdp t (p::r) n=-1):n<4/\zdp t r (n+1)=-1:=by
 have h':zaf t p=[123]:=h
 rw [zdp,if_pos h'] at hd
 split at hd
 .omega
 .exact ⟨by omega,hd⟩
theorem GT.nest {t:ByteArray}:∀ (d:Nat) (ws:List (Nat×Nat)) (tr:Tree d) (k:Nat),GT t d ws tr->zdp t ws (k:Nat)=-1->NestT t d tr k:=by
 intro d
 induction d with
 | zero=>intro ws tr k _ _;trivial
 | succ d ih=>
  intro ws tr k h hd
  have key:∀ (l:List (Hd×Tree d×Tree d)) (ws:List (Nat×Nat)),GL t (GT t d) (zcn d) ws l->zdp t ws (k:Nat)=-1->NestT t (d+1) l k:=by
   intro l
   induction l with
   | nil=>intro ws _ _ x hx;exact absurd hx (by simp [Tree.list])
   | cons x r ihl=>
    intro ws h hd
    rw [GL] at h
    obtain ⟨wo,wb,wr,f,rfl,hh,hp,hr,hb⟩:=h
    obtain ⟨_,hd1⟩:=zcS t _ _ _ hd
    rw [zia _ hp] at hd1
    obtain ⟨hdb,hd2⟩:=zcS t _ _ _ hd1
    have hnet:zgE t wb (k:Nat)=(k:Nat):=by
     rcases hb with ⟨_,rfl,_⟩|⟨o,wa,c,_,rfl,h1,h2,h3,_⟩|⟨o,wa,c,e,o2,wa2,c2,_,rfl,h1,h2,h3,h4,h5,h6,h7⟩
     .rfl
     .rw [zgE,zb4 _ h1,zcq,GT.net _ _ _ _ h3,zgK,zb5 _ h2];omega
     .rw [zgE,zb4 _ h1,zcq,GT.net _ _ _ _ h6,zgE,zb5 _ h2,zgE,zcb _ (zft h3),zgE,zb4 _ h4,zcq,GT.net _ _ _ _ h7,zgK,zb5 _ h5];omega
    rw [hnet] at hd2
    have ih2:=ihl wr hr hd2
    intro y hy
    rcases List.mem_cons.mp (show y∈x::r from hy) with rfl|hy
    .rcases hb with ⟨hf,_,h1,h2,_⟩|⟨o,wa,c,hf,rfl,h1,h2,h3,h4,_⟩|⟨o,wa,c,e,o2,wa2,c2,hf,rfl,h1,h2,h3,h4,h5,h6,h7⟩
     .rw [h1,h2]
      exact ⟨fun hk=>absurd hf (hh.repeat hk),NestT.nil _ _ _,NestT.nil _ _ _⟩
     .obtain ⟨hlt,hdo⟩:=zgh h1 hdb
      rw [h4]
      exact ⟨fun _=>by omega,ih _ _ (k+1) h3 (zcS t _ _ _ hdo).1,NestT.nil _ _ _⟩
     .obtain ⟨hlt,hdo⟩:=zgh h1 hdb
      obtain ⟨hda,hdo2⟩:=zcS t _ _ _ hdo
      rw [GT.net _ _ _ _ h6] at hdo2
      have hd3:=(zcS t [c,e] _ _ hdo2).2
      have e1:zgE t [c,e] ((k:Nat)+1:Int)=(k:Nat):=by rw [zgE,zb5 _ h2,zgE,zcb _ (zft h3)];show ((k:Nat)+1 - 1:Int)=_;omega
      rw [e1] at hd3
      obtain ⟨_,hdo3⟩:=zgh h4 hd3
      exact ⟨fun _=>by omega,ih _ _ (k+1) h6 hda,ih _ _ (k+1) h7 (zcS t _ _ _ hdo3).1⟩
    .exact ih2 y hy
  exact key tr ws h hd
theorem zpR {t:ByteArray}:∀ (d:Nat) (tr:Tree d) (k lv:Nat),GoodT t d tr->NestT t d tr k->lv<=k->zmK t d tr lv:=by
 intro d
 induction d with
 | zero=>intro tr k lv _ _ _;trivial
 | succ d ih=>
  intro tr k lv hg hn hl x hx
  obtain ⟨g1,g2,g3⟩:=hg x hx
  obtain ⟨n1,n2,n3⟩:=hn x hx
  exact ⟨g1,fun hk=>⟨by have:=n1 hk;omega,ih _ (k+1) _ g2 n2 (by omega)⟩,fun _=>⟨ih _ (k+1) _ g2 n2 (by omega),ih _ (k+1) _ g3 n3 (by omega)⟩⟩
theorem zfJ (t:ByteArray)(d:Nat)(tr:Tree d)(n:Int):zce t d tr n=-1\/0<=zce t d tr n:=by
 obtain ⟨h1,h2⟩:=zli t d tr n
 cases h:hvT t d tr n with
 | none=>left;rw [h1,h];rfl
 | some p=>right;rw [h1,h];exact h2 p h
theorem zqd (t:ByteArray)(d:Nat):wtT t d (zcn d)=0:=by cases d <;> rfl
theorem HdOk.by {t:ByteArray}{wo:List (Nat×Nat)}{h:Hd}{f:Nat}(hh:HdOk t wo h f):(zaf t h.p).length<=byW t wo:=by
 rcases hh with ⟨p,q,rfl,_,_,rfl⟩|⟨p,q,rfl,_,_,rfl⟩|⟨p,rfl,_,_,rfl⟩|⟨p,q,r,rfl,_,_,rfl⟩|⟨p,q,r,s,rfl,_,_,rfl⟩|⟨p,q,rfl,_,_,rfl⟩ <;> (rw [zc0];exact Nat.le_add_right _ _)
theorem HdOk.plain {t:ByteArray}{wo:List (Nat×Nat)}{h:Hd}{f:Nat}(hh:HdOk t wo h f)(hf:f=0):¬ (zaf t h.p=zec\/zaf t h.p=zbd)/\¬ zaf t h.p=zax:=by
 rcases hh with ⟨p,q,_,_,h1,rfl⟩|⟨p,q,_,_,h1,rfl⟩|⟨p,_,_,h1,rfl⟩|⟨p,q,r,_,h2,_⟩|⟨p,q,r,s,_,h2,_⟩|⟨p,q,_,h2,_⟩
 .rw [show (⟨p,zcx (zaf t q),0,0⟩:Hd).p=p from rfl,h1];decide
 .rw [show (⟨p,0,zbx (zaf t q),0⟩:Hd).p=p from rfl,h1];decide
 .rw [show (⟨p,0,0,0⟩:Hd).p=p from rfl,h1];decide
 .omega
 .omega
 .omega
theorem GT.wt {t:ByteArray}:∀ (d:Nat) (ws:List (Nat×Nat)) (tr:Tree d) (w:Nat),GT t d ws tr->GoodT t d tr->zce t d tr (w:Nat)=-1->w<=64->w*wtT t d tr<=16*byW t ws:=by
 intro d
 induction d with
 | zero=>intro ws tr w _ _ _ _;show w*0<=_;omega
 | succ d ih=>
  intro ws tr w h hg hv hw
  have key:∀ (l:List (Hd×Tree d×Tree d)) (ws:List (Nat×Nat)),GL t (GT t d) (zcn d) ws l->GoodT t (d+1) l->zew t (zce t d) l (w:Nat)=-1->w*(l.map fun x=>wtS t (wtT t d) x 0).sum<=16*byW t ws:=by
   intro l
   induction l with
   | nil=>intro ws _ _ _;simp
   | cons x r ihl=>
    intro ws h hg hv
    rw [GL] at h
    obtain ⟨wo,wb,wr,f,rfl,hh,hp,hr,hb⟩:=h
    obtain ⟨g1,g2,g3⟩:=hg x (List.mem_cons_self ..)
    have hgr:GoodT t (d+1) r:=fun y hy=>hg y (List.mem_cons_of_mem _ hy)
    rw [List.map_cons,List.sum_cons,Nat.mul_add,zdf,zdf]
    have hby:=hh.by
    have main:w*wtS t (wtT t d) x 0<=16*(byW t wo+byW t wb)/\zew t (zce t d) r (w:Nat)=-1:=by
     rw [zew] at hv
     by_cases hk:zaf t x.1.p=zax
     .rw [if_pos hk] at hv
      split at hv
      .omega
      .rename_i hle
       rcases zfJ t d x.2.1 ((w:Nat)*x.1.n) with hA|hA
       .rw [if_neg (by omega)] at hv
        rcases zfJ t d x.2.2 ((w:Nat)*x.1.n) with hB|hB
        .rw [if_neg (by omega)] at hv
         refine ⟨?_,hv⟩
         have hn9:1<=x.1.n/\x.1.n<=9:=by
          rcases g1 with ⟨h,_⟩|⟨h,_⟩|⟨h,_⟩|⟨h,_⟩|⟨h,_⟩|⟨_,h1,h2,_⟩
          .rw [hk] at h;cases h
          .rw [hk] at h;cases h
          .rw [hk] at h;cases h
          .rw [hk] at h;cases h
          .rw [hk] at h;cases h
          .exact ⟨h1,h2⟩
         obtain ⟨n,hn⟩:∃ n:Nat,x.1.n=(n:Nat):=⟨x.1.n.toNat,by omega⟩
         rw [hn] at hA hle
         rw [<- Int.natCast_mul] at hA hle
         have hwn:w*n<=64:=by omega
         have hby6:6<=byW t wo:=by rw [hk] at hby;exact hby
         have e:wtS t (wtT t d) x 0=1+n*(wtT t d x.2.1+1):=by unfold wtS;rw [hk,hn];simp;rfl
         rw [e]
         have hblk:w*n*wtT t d x.2.1+16*2<=16*byW t wb:=by
          rcases hb with ⟨hf,_⟩|⟨o,wa,c,hf,rfl,h1,h2,h3,h4,_⟩|⟨o,wa,c,e,o2,wa2,c2,hf,rfl,h1,h2,h3,h4,h5,h6,h7⟩
          .exact absurd hf (hh.repeat hk)
          .have:=ih wa x.2.1 (w*n) h3 g2 hA hwn
           rw [zc0,zdf,zc0,h1,h2]
           show _<=16*(1+(byW t wa+(1+byW t [])))
           omega
          .have:=ih wa x.2.1 (w*n) h6 g2 hA hwn
           rw [zc0,zdf,zc0,h1,h2]
           show _<=16*(1+(byW t wa+(1+_)))
           omega
         have e2:w*(1+n*(wtT t d x.2.1+1))=w+w*n*wtT t d x.2.1+w*n:=by
          rw [Nat.mul_add,Nat.mul_one,<- Nat.mul_assoc,Nat.mul_add,Nat.mul_one];omega
         rw [e2]
         omega
        .rw [if_pos hB] at hv;omega
       .rw [if_pos hA] at hv;omega
     .rw [if_neg hk] at hv
      rcases zfJ t d x.2.1 (w:Nat) with hA|hA
      .rw [if_neg (by omega)] at hv
       rcases zfJ t d x.2.2 (w:Nat) with hB|hB
       .rw [if_neg (by omega)] at hv
        refine ⟨?_,hv⟩
        by_cases hs:zaf t x.1.p=zci
        .have e:wtS t (wtT t d) x 0=1:=by unfold wtS;rw [if_pos hs]
         have hby4:4<=byW t wo:=by rw [hs] at hby;exact hby
         rw [e];omega
        .by_cases ha:zaf t x.1.p=zec\/zaf t x.1.p=zbd
         .have e:wtS t (wtT t d) x 0=1+max (wtT t d x.2.1) (wtT t d x.2.2):=by unfold wtS;rw [if_neg hs,if_pos ha]
          have hby3:3<=byW t wo:=by
           rcases ha with ha|ha
           .rw [ha] at hby;exact hby
           .rw [ha] at hby;exact Nat.le_trans (by decide) hby
          have hblk:w*max (wtT t d x.2.1) (wtT t d x.2.2)+16*2<=16*byW t wb:=by
           rcases hb with ⟨hf,_⟩|⟨o,wa,c,hf,rfl,h1,h2,h3,h4,_⟩|⟨o,wa,c,e,o2,wa2,c2,hf,rfl,h1,h2,h3,h4,h5,h6,h7⟩
           .exact absurd ha (hh.plain hf).1
           .have:=ih wa x.2.1 w h3 g2 hA hw
            rw [h4,zqd,Nat.max_zero,zc0,zdf,zc0,h1,h2]
            show _<=16*(1+(byW t wa+(1+byW t [])))
            omega
           .have i1:=ih wa x.2.1 w h6 g2 hA hw
            have i2:=ih wa2 x.2.2 w h7 g3 hB hw
            have hm:w*max (wtT t d x.2.1) (wtT t d x.2.2)<=16*byW t wa+16*byW t wa2:=by
             rcases Nat.le_total (wtT t d x.2.1) (wtT t d x.2.2) with hle|hle
             .rw [Nat.max_eq_right hle];omega
             .rw [Nat.max_eq_left hle];omega
            rw [zc0,zdf,zc0,zc0,zc0,zdf,h1,h2]
            show _<=16*(1+(byW t wa+(1+_)))
            omega
          rw [e,Nat.mul_add,Nat.mul_one]
          omega
         .have e:wtS t (wtT t d) x 0=1:=by unfold wtS;rw [if_neg hs,if_neg ha,if_neg hk]
          have hby4:4<=byW t wo:=by
           rcases g1.kind with h|h|h|h|h|h
           .exact absurd h hs
           .rw [h] at hby;exact hby
           .rw [h] at hby;exact hby
           .exact absurd (.inl h) ha
           .exact absurd (.inr h) ha
           .exact absurd h hk
          rw [e];omega
       .rw [if_pos hB] at hv;omega
      .rw [if_pos hA] at hv;omega
    have h2:=ihl wr hr hgr main.2
    have h1:=main.1
    omega
  exact key tr ws h hg hv
theorem TextOk.same {t:ByteArray}{tr:Tree 5}(h:TextOk t tr)(ht:t.size<=400):SameEng (zi8 (zbj t tr)) (zhO t tr) (Tied t (zbj t tr) 6400):=by
 refine zp2 (by omega) ?_ (zpR 5 tr 0 0 h.good (GT.nest 5 _ tr 0 h.words h.deep) (Nat.le_refl _))
 have h1:=GT.wt 5 _ tr 1 h.words h.good h.heavy (by omega)
 have h2:=zi3 t
 omega
def FineT (t:ByteArray):(d:Nat)->Tree d->Prop
 | 0,_=>True
 | d+1,l=>∀ x:Hd×Tree d×Tree d,x∈l.list->GoodHd t x.1/\(zaf t x.1.p=zec\/zaf t x.1.p=zbd\/zaf t x.1.p=zax\/x.2.2=zcn d)/\FineT t d x.2.1/\FineT t d x.2.2
theorem FineT.nil (t:ByteArray)(d:Nat):FineT t d (zcn d):=by
 cases d with
 | zero=>trivial
 | succ d=>intro x hx;cases hx
structure ItOk (t:ByteArray)(x:It):Prop where
 hd:GoodHd t x.s.1
 leaf:zaf t x.s.1.p=zec\/zaf t x.s.1.p=zbd\/zaf t x.s.1.p=zax\/x.s.2.2=zcn x.d
 a:FineT t x.d x.s.2.1
 b:FineT t x.d x.s.2.2
 retry:zaf t x.s.1.p=zbd->(x.i:Int)<=x.s.1.m
 repeat':zaf t x.s.1.p=zax->(x.i:Int)<=x.s.1.n
structure ItsOk (t:ByteArray)(l:List It):Prop where
 all:∀ x∈l,ItOk t x
 wt:wtL t l<=6400
theorem GoodHd.retry_m {t:ByteArray}{h:Hd}(g:GoodHd t h)(hk:zaf t h.p=zbd):1<=h.n/\h.n<=999/\1<=h.m/\h.m<=6:=by
 rcases g with ⟨h1,_⟩|⟨h1,_⟩|⟨h1,_⟩|⟨h1,_⟩|⟨_,h2,h3,h4,h5⟩|⟨h1,_⟩
 .rw [hk] at h1;cases h1
 .rw [hk] at h1;cases h1
 .rw [hk] at h1;cases h1
 .rw [hk] at h1;cases h1
 .exact ⟨h2,h3,h4,h5⟩
 .rw [hk] at h1;cases h1
theorem GoodHd.repeat_n {t:ByteArray}{h:Hd}(g:GoodHd t h)(hk:zaf t h.p=zax):1<=h.n/\h.n<=9:=by
 rcases g with ⟨h1,_⟩|⟨h1,_⟩|⟨h1,_⟩|⟨h1,_⟩|⟨h1,_⟩|⟨_,h2,h3,_⟩
 .rw [hk] at h1;cases h1
 .rw [hk] at h1;cases h1
 .rw [hk] at h1;cases h1
 .rw [hk] at h1;cases h1
 .rw [hk] at h1;cases h1
 .exact ⟨h2,h3⟩
theorem GoodHd.ask_n {t:ByteArray}{h:Hd}(g:GoodHd t h)(hk:zaf t h.p=zec):1<=h.n/\h.n<=999:=by
 rcases g with ⟨h1,_⟩|⟨h1,_⟩|⟨h1,_⟩|⟨_,h2,h3,_⟩|⟨h1,_⟩|⟨h1,_⟩
 .rw [hk] at h1;cases h1
 .rw [hk] at h1;cases h1
 .rw [hk] at h1;cases h1
 .exact ⟨h2,h3⟩
 .rw [hk] at h1;cases h1
 .rw [hk] at h1;cases h1
theorem GoodHd.wait_n {t:ByteArray}{h:Hd}(g:GoodHd t h)(hk:zaf t h.p=zcB):1<=h.n/\h.n<=999:=by
 rcases g with ⟨h1,_⟩|⟨_,h2,h3,_⟩|⟨h1,_⟩|⟨h1,_⟩|⟨h1,_⟩|⟨h1,_⟩
 .rw [hk] at h1;cases h1
 .exact ⟨h2,h3⟩
 .rw [hk] at h1;cases h1
 .rw [hk] at h1;cases h1
 .rw [hk] at h1;cases h1
 .rw [hk] at h1;cases h1
theorem zpf {t:ByteArray}{d:Nat}{tr:Tree d}(h:FineT t d tr):∀ x∈zaT d tr,ItOk t x:=by
 cases d with
 | zero=>intro x hx;cases hx
 | succ d=>
  intro x hx
  obtain ⟨y,hy,rfl⟩:=List.mem_map.mp hx
  obtain ⟨h1,h2,h3,h4⟩:=h y hy
  refine ⟨h1,h2,h3,h4,fun hk=>?_,fun hk=>?_⟩
  .have:=h1.retry_m hk;show ((0:Nat):Int)<=y.1.m;omega
  .have:=h1.repeat_n hk;show ((0:Nat):Int)<=y.1.n;omega
theorem zqb (t:ByteArray)(x:It):1<=wtI t x:=by
 unfold wtI wtS
 split
 .exact Nat.le_refl _
 .split
  .omega
  .split
   .omega
   .exact Nat.le_refl _
theorem zqc (t:ByteArray):∀ l:List It,l.length<=wtL t l:=by
 intro l
 induction l with
 | nil=>exact Nat.zero_le _
 | cons x l ih=>rw [zbQ,List.length_cons];have:=zqb t x;omega
theorem ItsOk.len {t:ByteArray}{l:List It}(h:ItsOk t l):l.length<=6400:=Nat.le_trans (zqc t l) h.wt
theorem ItsOk.nil (t:ByteArray):ItsOk t []:=⟨fun x hx=>(by cases hx),Nat.zero_le _⟩
theorem ItsOk.tail {t:ByteArray}{x:It}{l:List It}(h:ItsOk t (x::l)):ItsOk t l:=
 ⟨fun y hy=>h.all y (List.mem_cons_of_mem _ hy),by have:=h.wt;rw [zbQ] at this;omega⟩
theorem zjt {t:ByteArray}{d:Nat}(ih:∀ tr:Tree d,FineT t d tr->msT t d tr<=wtT t d tr)(x:Hd×Tree d×Tree d)(i:Nat)(h:GoodHd t x.1/\(zaf t x.1.p=zec\/zaf t x.1.p=zbd\/zaf t x.1.p=zax\/x.2.2=zcn d)/\FineT t d x.2.1/\FineT t d x.2.2):msS t (msT t d) x i<=wtS t (wtT t d) x i:=by
 obtain ⟨h1,h2,h3,h4⟩:=h
 have i1:=ih _ h3
 have i2:=ih _ h4
 have hn:msT t d (zcn d)=0:=by cases d <;> rfl
 unfold msS wtS
 rcases h1.kind with hk|hk|hk|hk|hk|hk
 .have h5:x.2.2=zcn d:=by
   rcases h2 with h|h|h|h
   .rw [hk] at h;cases h
   .rw [hk] at h;cases h
   .rw [hk] at h;cases h
   .exact h
  rw [h5,hn,hk,if_neg (by decide),if_pos rfl];exact Nat.le_refl _
 .have h5:x.2.2=zcn d:=by
   rcases h2 with h|h|h|h
   .rw [hk] at h;cases h
   .rw [hk] at h;cases h
   .rw [hk] at h;cases h
   .exact h
  rw [h5,hn,hk,if_neg (by decide),if_neg (by decide),if_neg (by decide),if_neg (by decide)];exact Nat.le_refl _
 .have h5:x.2.2=zcn d:=by
   rcases h2 with h|h|h|h
   .rw [hk] at h;cases h
   .rw [hk] at h;cases h
   .rw [hk] at h;cases h
   .exact h
  rw [h5,hn,hk,if_neg (by decide),if_neg (by decide),if_neg (by decide),if_neg (by decide)];exact Nat.le_refl _
 .rw [hk,if_neg (by decide),if_neg (by decide),if_pos (by decide)]
  have:=Nat.le_max_right (wtT t d x.2.1) (wtT t d x.2.2)
  omega
 .rw [hk,if_neg (by decide),if_neg (by decide),if_pos (by decide)]
  have:=Nat.le_max_right (wtT t d x.2.1) (wtT t d x.2.2)
  omega
 .rw [hk,if_pos rfl,if_neg (by decide),if_neg (by decide),if_pos rfl]
  have:=Nat.mul_le_mul_left (x.1.n.toNat - i) (Nat.add_le_add_right i1 1)
  omega
theorem zpN (t:ByteArray):∀ (d:Nat) (tr:Tree d),FineT t d tr->msT t d tr<=wtT t d tr:=by
 intro d
 induction d with
 | zero=>intro tr _;exact Nat.le_refl _
 | succ d ih=>
  intro tr h
  have:∀ l:List (Hd×Tree d×Tree d),FineT t (d+1) l->(l.map fun x=>msS t (msT t d) x 0).sum<=(l.map fun x=>wtS t (wtT t d) x 0).sum:=by
   intro l
   induction l with
   | nil=>intro _;exact Nat.le_refl _
   | cons x l ihl=>
    intro h
    rw [List.map_cons,List.map_cons,List.sum_cons,List.sum_cons]
    have h1:=zjt ih x 0 (h x (List.mem_cons_self ..))
    have h2:=ihl fun y hy=>h y (List.mem_cons_of_mem _ hy)
    omega
  exact this tr h
theorem ItOk.ms {t:ByteArray}{x:It}(h:ItOk t x):msI t x<=wtI t x:=zjt (fun tr=>zpN t x.d tr) x.s x.i ⟨h.hd,h.leaf,h.a,h.b⟩
theorem ItsOk.ms {t:ByteArray}:∀ {l:List It},(∀ x∈l,ItOk t x)->msL t l<=wtL t l:=by
 intro l
 induction l with
 | nil=>intro _;exact Nat.le_refl _
 | cons x l ih=>
  intro h
  rw [zc5,zbQ]
  have h1:=(h x (List.mem_cons_self ..)).ms
  have h2:=ih fun y hy=>h y (List.mem_cons_of_mem _ hy)
  omega
theorem ItsOk.msb {t:ByteArray}{l:List It}(h:ItsOk t l):msL t l<=6400:=Nat.le_trans (ItsOk.ms h.all) h.wt
theorem ItsOk.before {t:ByteArray}{d:Nat}{tr:Tree d}{l:List It}(hf:FineT t d tr)(hl:∀ x∈l,ItOk t x)(hw:wtT t d tr+wtL t l<=6400):ItsOk t (zaT d tr++l):=by
 refine ⟨fun x hx=>?_,by rw [zbM,zcP];exact hw⟩
 rcases List.mem_append.mp hx with hx|hx
 .exact zpf hf x hx
 .exact hl x hx
theorem ItsOk.yes {t:ByteArray}{x:It}{l:List It}(h:ItsOk t (x::l))(hk:zaf t x.s.1.p=zec\/zaf t x.s.1.p=zbd):ItsOk t (zaT x.d x.s.2.1++l):=by
 have h1:=h.wt
 have h2:=h.all x (List.mem_cons_self ..)
 have e:wtI t x=1+max (wtT t x.d x.s.2.1) (wtT t x.d x.s.2.2):=by
  rcases hk with hk|hk
  .exact zk3 hk
  .exact zcL hk
 rw [zbQ,e] at h1
 have h3:=Nat.le_max_left (wtT t x.d x.s.2.1) (wtT t x.d x.s.2.2)
 exact .before h2.a h.tail.all (by omega)
theorem ItsOk.no {t:ByteArray}{x:It}{l:List It}(h:ItsOk t (x::l))(hk:zaf t x.s.1.p=zec\/zaf t x.s.1.p=zbd):ItsOk t (zaT x.d x.s.2.2++l):=by
 have h1:=h.wt
 have h2:=h.all x (List.mem_cons_self ..)
 have e:wtI t x=1+max (wtT t x.d x.s.2.1) (wtT t x.d x.s.2.2):=by
  rcases hk with hk|hk
  .exact zk3 hk
  .exact zcL hk
 rw [zbQ,e] at h1
 have h3:=Nat.le_max_right (wtT t x.d x.s.2.1) (wtT t x.d x.s.2.2)
 exact .before h2.b h.tail.all (by omega)
theorem ItsOk.again {t:ByteArray}{x:It}{l:List It}(h:ItsOk t (x::l))(hk:zaf t x.s.1.p=zbd)(hi:¬ (x.i:Int)=x.s.1.m):ItsOk t ((⟨x.d,x.s,x.i+1⟩:It)::l):=by
 have h1:=h.wt
 have h2:=h.all x (List.mem_cons_self ..)
 have h3:=h2.retry hk
 refine ⟨fun y hy=>?_,?_⟩
 .rcases List.mem_cons.mp hy with rfl|hy
  .exact ⟨h2.hd,h2.leaf,h2.a,h2.b,fun _=>by show ((x.i+1:Nat):Int)<=x.s.1.m;omega,fun hh=>(by rw [show zaf t (⟨x.d,x.s,x.i+1⟩:It).s.1.p=zaf t x.s.1.p from rfl,hk] at hh;cases hh)⟩
  .exact h.all y (List.mem_cons_of_mem _ hy)
 .rw [zbQ,zcL hk] at h1
  rw [zbQ,zcL (x:=(⟨x.d,x.s,x.i+1⟩:It)) hk]
  exact h1
theorem ItsOk.more {t:ByteArray}{x:It}{l:List It}(h:ItsOk t (x::l))(hk:zaf t x.s.1.p=zax)(hi:(x.i:Int)<x.s.1.n):ItsOk t ((⟨x.d,x.s,x.i+1⟩:It)::l)/\ItsOk t (zaT x.d x.s.2.1++(⟨x.d,x.s,x.i+1⟩:It)::l):=by
 have h1:=h.wt
 have h2:=h.all x (List.mem_cons_self ..)
 have e:=zfd (n:=x.s.1.n.toNat) (i:=x.i) (W:=wtT t x.d x.s.2.1) (by omega)
 rw [zbQ,zcX hk,e] at h1
 have hall:∀ y∈((⟨x.d,x.s,x.i+1⟩:It)::l),ItOk t y:=fun y hy=>by
  rcases List.mem_cons.mp hy with rfl|hy
  .exact ⟨h2.hd,h2.leaf,h2.a,h2.b,fun hh=>(by rw [show zaf t (⟨x.d,x.s,x.i+1⟩:It).s.1.p=zaf t x.s.1.p from rfl,hk] at hh;cases hh),fun _=>by show ((x.i+1:Nat):Int)<=x.s.1.n;omega⟩
  .exact h.all y (List.mem_cons_of_mem _ hy)
 have hw:wtL t ((⟨x.d,x.s,x.i+1⟩:It)::l)=1+(x.s.1.n.toNat - (x.i+1))*(wtT t x.d x.s.2.1+1)+wtL t l:=by
  rw [zbQ,zcX (x:=(⟨x.d,x.s,x.i+1⟩:It)) hk]
 exact ⟨⟨hall,by rw [hw];omega⟩,.before h2.a hall (by rw [hw];omega)⟩
theorem GT.fine {t:ByteArray}:∀ (d:Nat) (ws:List (Nat×Nat)) (tr:Tree d),GT t d ws tr->GoodT t d tr->FineT t d tr:=by
 intro d
 induction d with
 | zero=>intro ws tr _ _;trivial
 | succ d ih=>
  intro ws tr h hg
  have key:∀ (l:List (Hd×Tree d×Tree d)) (ws:List (Nat×Nat)),GL t (GT t d) (zcn d) ws l->GoodT t (d+1) l->FineT t (d+1) l:=by
   intro l
   induction l with
   | nil=>intro ws _ _ x hx;cases hx
   | cons y r ihl=>
    intro ws h hg x hx
    rw [GL] at h
    obtain ⟨wo,wb,wr,f,rfl,hh,hp,hr,hb⟩:=h
    rcases List.mem_cons.mp hx with rfl|hx
    .obtain ⟨g1,g2,g3⟩:=hg x (List.mem_cons_self ..)
     refine ⟨g1,?_,?_,?_⟩
     .rcases hb with ⟨_,_,_,h,_⟩|⟨o,wa,c,_,_,_,_,_,h,_⟩|⟨o,wa,c,e,o2,wa2,c2,hf,_⟩
      .exact .inr (.inr (.inr h))
      .exact .inr (.inr (.inr h))
      .rcases hh with ⟨_,_,_,h,_⟩|⟨_,_,_,h,_⟩|⟨_,_,h,_⟩|⟨p,q,r,_,_,h,e⟩|⟨p,q,r,s,_,_,h,e⟩|⟨_,_,_,h,_⟩
       .omega
       .omega
       .omega
       .rw [e];exact .inl h
       .rw [e];exact .inr (.inl h)
       .omega
     .rcases hb with ⟨_,_,h,_,_⟩|⟨o,wa,c,_,_,_,_,h,_,_⟩|⟨o,wa,c,e,o2,wa2,c2,hf,_,_,_,_,_,_,h,_⟩
      .rw [h];exact FineT.nil t d
      .exact ih _ _ h g2
      .exact ih _ _ h g2
     .rcases hb with ⟨_,_,_,h,_⟩|⟨o,wa,c,_,_,_,_,_,h,_⟩|⟨o,wa,c,e,o2,wa2,c2,hf,_,_,_,_,_,_,_,h⟩
      .rw [h];exact FineT.nil t d
      .rw [h];exact FineT.nil t d
      .exact ih _ _ h g3
    .exact ihl wr hr (fun z hz=>hg z (List.mem_cons_of_mem _ hz)) x hx
  exact key tr ws h hg
theorem TextOk.its {t:ByteArray}{tr:Tree 5}(h:TextOk t tr)(ht:t.size<=400):ItsOk t (zaT 5 tr):=by
 have h1:=GT.wt 5 _ tr 1 h.words h.good h.heavy (by omega)
 have h2:=zi3 t
 exact ⟨zpf (GT.fine 5 _ tr h.words h.good),by rw [zcP];omega⟩
end Go.Proofs.Herald
