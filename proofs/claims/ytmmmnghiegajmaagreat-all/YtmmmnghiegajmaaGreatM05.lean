import Derived.Test.YtmmmnghiegajmaaGreatProg
import Derived.Test.YtmmmnghiegajmaaGreatM04
import Derived.WalkSpells
import Derived.WalkLawsBesides
import Derived.Test.YtmmmnghiegajmaaGreatM01
set_option maxHeartbeats 8000000
set_option maxRecDepth 100000
open Go.RowKit Go.Proofs.Herald Go.Proofs.Tryz
namespace Go.Proofs.YtmmmnghiegajmaaGreat
theorem dO {k:IntKind}{a b:Int}(h:a=b):Ending.returned (.int k a)=.returned (.int k b):=by rw[h]
theorem pE (a b:Int)(w:World):
  Calls prog 27 #[.int .i64 a,.int .i64 b] w fun e w'=>e=.returned (.int .i64 (cu a b))/\w'=w:=by
 by_cases h:b<a
 .go_enter func27,ntmps27
  go_wp2
  go_ret;exact⟨dO (by simp[cu,h]),rfl⟩
 .have h':a<=b:=by omega
  go_enter func27,ntmps27
  go_wp2
  go_ret;exact⟨dO (by rw[cu,if_neg (by omega)]),rfl⟩
theorem sJ (s:Int)(w:World):
  Calls prog 53 #[.int .i64 s] w fun e w'=>e=.returned (.int .i64 (mZ s))/\w'=w:=by
 by_cases h:s=4
 .subst h;go_enter func53,ntmps53
  go_wp2
  go_ret;exact⟨rfl,rfl⟩
 .by_cases h2:s=5
  .subst h2;go_enter func53,ntmps53
   go_wp2
   go_ret;exact⟨rfl,rfl⟩
  .have hb:(s==4)=false:=by simp[h]
   have A0:(s==5)=false:=by simp[h2]
   go_enter func53,ntmps53
   go_wp2
   go_ret;exact⟨dO (by simp[mZ,h,h2]),rfl⟩
theorem lM (s:ByteArray)(w:World):
  Calls prog 54 #[.string s] w fun e w'=>e=.returned (.int .i64 (cA s.data.toList))/\w'=w:=by
 by_cases h1:s.size=1
 .have hp:0<s.size:=by omega
  have hk:=xh s h1 hp;have HK:=ah hk;clear hk;go_enter func54,ntmps54
  go_wp2
  all_goals
   go_ret;exact⟨dO (by have:=(s[0]'hp).toNat_lt;rw[HK];split <;> omega),rfl⟩
 .have hk:=xg s h1;have HK:=ah hk;clear hk;go_enter func54,ntmps54
  go_wp2
  go_ret;exact⟨dO HK.symm,rfl⟩
theorem Aw (s:ByteArray)(h:s.size=0):s.toList.isEmpty=true:=by
 rw[ByteArray.toList_eq,List.isEmpty_iff,<- List.length_eq_zero_iff];simpa using h
theorem BZ (s:ByteArray)(h:¬ s.size=0):s.toList.isEmpty=false:=by
 rw[ByteArray.toList_eq,List.isEmpty_eq_false_iff,ne_eq,<- List.length_eq_zero_iff];simpa using h
theorem ke (s:ByteArray)(w:World)(hs:s.size<=maxLen):
  Calls prog 52 #[.string s] w fun e w'=>e=.returned (.int .i64 (bm s.data.toList))/\w'=w:=by
 unfold maxLen at hs;by_cases h0:s.size=0
 .have HK:Hid (bm s.data.toList=-1):=pV s (.inl h0);have he:s.toList.isEmpty=true:=Aw s h0;go_enter func52,ntmps52
  go_wp2
  go_ret;exact⟨dO HK.symm,rfl⟩
 .have he:s.toList.isEmpty=false:=BZ s h0;by_cases h4:4<s.size
  .have HK:Hid (bm s.data.toList=-1):=pV s (.inr h4);go_enter func52,ntmps52
   go_wp2
   go_ret;exact⟨dO HK.symm,rfl⟩
  .have HK:Hid (bm s.data.toList=(fF 0 s.data.toList).getD (-1)):=vt s h0 (by omega);have A0:s.size<=4:=by omega
   clear h4;go_enter func52,ntmps52
   go_wp2
   go_loop [3,4] (fun n i=>∃ (k:Nat) (m:Int),k<=s.size/\i=.int .i64 k/\n=.int .i64 m/\fF 0 (s.data.toList.take k)=some m) (fun _ i=>s.size - (intOf i).toNat)
   case atStart=>exact⟨0,0,Qa _,rfl,rfl,rfl⟩
   case round=>
    obtain⟨k,m,hk,rfl,rfl,hm⟩:=hrel;have HM:=ah hm;have A1:=tL s k (by omega) m hm;clear hm;by_cases hlt:k<s.size
    .by_cases hc:((s[k]).toNat:Int)<48\/57<((s[k]).toNat:Int)
     .have HN:Hid (fF 0 s.data.toList=none):=xH s k hlt m HM hc;rcases hc with hc|hc;all_goals
       go_wp2
       go_ret;exact⟨dO (by rw[HK,HN];rfl),rfl⟩
     .have h1:(48:Int)<=((s[k]).toNat:Int):=by omega
      have h2:((s[k]).toNat:Int)<=57:=by omega
      have HY:Hid (fF 0 (s.data.toList.take (k+1))=some (10*m+(((s[k]).toNat:Int) - 48))):=wF s k hlt m HM h1 h2;clear hc;go_wp2
      go_round;case rel=>exact⟨k+1,10*m+(((s[k]).toNat:Int) - 48),by omega,by go_num,by go_num,HY.out⟩
      case measure=>simp[intOf];omega
    .have HE:Hid (s.data.toList.take k=s.data.toList):=Qe (by simp;omega);go_wp2
     go_ret;exact⟨dO (by rw[HK,<- HE,HM];rfl),rfl⟩
def qe (t:ByteArray)(p:Nat×Nat):List Value:=[.string (t.extract p.1 p.2),.int .i64 p.1]
def jl (t:ByteArray)(l:List (Nat×Nat)):List Value:=l.flatMap (qe t)
theorem Tryz.infoWord:(prog.info? 129).map (fun i=>(i.zero,i.size,i.bytes))=some (some (.agg #[.string ByteArray.empty,.int .i64 0]),2,24):=by kernel_rfl
theorem px (t:ByteArray)(l:List (Nat×Nat))(p:Nat×Nat):jl t (l++[p])=jl t l++[.string (t.extract p.1 p.2),.int .i64 p.1]:=by
 simp[jl,qe]
theorem lb (a:ByteArray)(b:Int):∀ u∈[Value.string a,Value.int .i64 b],u.oneCell'=true:=by
 intro u hu;simp at hu;rcases hu with rfl|rfl <;> rfl
def cf (t:ByteArray)(w:World)(k:Nat)(l:List (Nat×Nat))(g:Option Nat)(v:Value)(wr:World):Prop:=
 k<=t.size+1/\(∀ b,g=some b->b<k/\k<=t.size)/\(k<=t.size->l++cZ k g (t.data.toList.drop k)=dC t.data.toList)/\(k=t.size+1->l=dC t.data.toList) /\
   wr.ownsRow w.heap.size 129 2 v l.length (jl t l)/\Below w.heap.size w wr
theorem cf.push {t:ByteArray}{w:World}{l:List (Nat×Nat)}{v:Value}{wr:World}(p:Nat×Nat)
  (h:wr.ownsRow w.heap.size 129 2 v (l.length+1) (jl t l++[.string (t.extract p.1 p.2),.int .i64 p.1])):
  wr.ownsRow w.heap.size 129 2 v (l++[p]).length (jl t (l++[p])):=by
 rw[px];simpa using h
theorem cf.short {t:ByteArray}{k:Nat}{l:List (Nat×Nat)}{g:Option Nat}(h:l++cZ k g (t.data.toList.drop k)=dC t.data.toList):l.length<=t.size:=by
 have h1:=ky t.data.toList;rw[<- h]at h1;simp at h1;omega
theorem BN (t:ByteArray)(w:World)(ht:t.size<=400):
  Calls prog 22 #[.string t] w fun e w'=>∃ v,e=.returned v /\
   w'.ownsRow w.heap.size 129 2 v (dC t.data.toList).length (jl t (dC t.data.toList))/\Below w.heap.size w w':=by
 go_enter func22,ntmps22
 go_wp2
 go_loopw [3,4,5] (fun v f i wr=>∃ (k:Nat) (l:List (Nat×Nat)) (g:Option Nat),i=.int .i64 k/\f=.int .i64 (tp g)/\cf t w k l g v wr)
  (fun _ _ i _=>t.size+1 - (intOf i).toNat)
 case atStart=>exact⟨0,[],none,rfl,rfl,by omega,by simp,fun _=>rfl,by omega,Qg _ _ _ _,v7 _ _⟩
 case round=>
  obtain⟨k,l,g,rfl,rfl,hk,hg,hl,A2,A1,A0⟩:=hrel;by_cases hle:k<=t.size
  .have HL:Hid (l++cZ k g (t.data.toList.drop k)=dC t.data.toList):=hl hle;have A6:l.length<=t.size:=cf.short (hl hle);have A5:w.heap.size<=wr.heap.size:=A0.size;clear hl A2;by_cases hlt:k<t.size
   .by_cases h1:((t[k]).toNat:Int)=123\/((t[k]).toNat:Int)=125
    .have HS:Hid (cZ k g (t.data.toList.drop k)=eO g k++(k,k+1)::cZ (k+1) none (t.data.toList.drop (k+1))):=Am t k hlt g h1;cases g with
     | none=>
      simp only[pN];clear hg;rcases h1 with h1|h1
      .have a1:(((t[k]).toNat:Int)==123)=true:=by simp[h1]
       clear h1;go_wp2_with (at_builtin;refine jX wr w rfl (.tmp 48) (.tmp 56) 69 rfl 129 _ 2 24 underlying69 Tryz.infoWord rfl (by decide) (by decide) w.heap.size _ _ _ (by rfl) A1 [.string (t.extract k (k+1)),.int .i64 k] (by rfl) rfl (lb _ _) (by omega) A0 (by omega) ?_)
       intro v1 w1 hown1 hb1 hs1 hg1;go_wp2
       go_roundw;case rel=>exact⟨k+1,l++[(k,k+1)],none,by go_num,rfl,by omega,by simp,fun _=>by have:=HL.out;rw[HS.out]at this;simpa[eO] using this,fun h=>by omega,cf.push (k,k+1) hown1,hb1⟩
       case measure=>simp[intOf];omega
      .have a1:(((t[k]).toNat:Int)==123)=false:=by simp[h1]
       have a2:(((t[k]).toNat:Int)==125)=true:=by simp[h1]
       clear h1;go_wp2_with (at_builtin;refine jX wr w rfl (.tmp 48) (.tmp 56) 69 rfl 129 _ 2 24 underlying69 Tryz.infoWord rfl (by decide) (by decide) w.heap.size _ _ _ (by rfl) A1 [.string (t.extract k (k+1)),.int .i64 k] (by rfl) rfl (lb _ _) (by omega) A0 (by omega) ?_)
       intro v1 w1 hown1 hb1 hs1 hg1;go_wp2
       go_roundw;case rel=>exact⟨k+1,l++[(k,k+1)],none,by go_num,rfl,by omega,by simp,fun _=>by have:=HL.out;rw[HS.out]at this;simpa[eO] using this,fun h=>by omega,cf.push (k,k+1) hown1,hb1⟩
       case measure=>simp[intOf];omega
     | some b=>
      simp only[pO];obtain⟨A3,A4⟩:=hg b rfl;clear hg;rcases h1 with h1|h1
      .have a1:(((t[k]).toNat:Int)==123)=true:=by simp[h1]
       clear h1;go_wp2_with (at_builtin;refine jX wr w rfl (.tmp 38) (.tmp 45) 69 rfl 129 _ 2 24 underlying69 Tryz.infoWord rfl (by decide) (by decide) w.heap.size _ _ _ (by rfl) A1 [.string (t.extract b k),.int .i64 b] (by rfl) rfl (lb _ _) (by omega) A0 (by omega) ?_)
       intro v1 w1 hown1 hb1 hs1 hg1;go_wp2_with (at_builtin;refine jX w1 w rfl (.tmp 48) (.tmp 56) 69 rfl 129 _ 2 24 underlying69 Tryz.infoWord rfl (by decide) (by decide) w.heap.size _ _ _ (by rfl) hown1 [.string (t.extract k (k+1)),.int .i64 k] (by rfl) rfl (lb _ _) (by omega) hb1 (by omega) ?_)
       intro v2 w2 hown2 hb2 hs2 hg2;go_wp2
       go_roundw;case rel=>exact⟨k+1,(l++[(b,k)])++[(k,k+1)],none,by go_num,rfl,by omega,by simp,fun _=>by have:=HL.out;rw[HS.out]at this;simpa[eO] using this,fun h=>by omega,cf.push (k,k+1) (by rw[List.length_append,px,List.append_assoc];exact hown2),hb2⟩
       case measure=>simp[intOf];omega
      .have a1:(((t[k]).toNat:Int)==123)=false:=by simp[h1]
       have a2:(((t[k]).toNat:Int)==125)=true:=by simp[h1]
       clear h1;go_wp2_with (at_builtin;refine jX wr w rfl (.tmp 38) (.tmp 45) 69 rfl 129 _ 2 24 underlying69 Tryz.infoWord rfl (by decide) (by decide) w.heap.size _ _ _ (by rfl) A1 [.string (t.extract b k),.int .i64 b] (by rfl) rfl (lb _ _) (by omega) A0 (by omega) ?_)
       intro v1 w1 hown1 hb1 hs1 hg1;go_wp2_with (at_builtin;refine jX w1 w rfl (.tmp 48) (.tmp 56) 69 rfl 129 _ 2 24 underlying69 Tryz.infoWord rfl (by decide) (by decide) w.heap.size _ _ _ (by rfl) hown1 [.string (t.extract k (k+1)),.int .i64 k] (by rfl) rfl (lb _ _) (by omega) hb1 (by omega) ?_)
       intro v2 w2 hown2 hb2 hs2 hg2;go_wp2
       go_roundw;case rel=>exact⟨k+1,(l++[(b,k)])++[(k,k+1)],none,by go_num,rfl,by omega,by simp,fun _=>by have:=HL.out;rw[HS.out]at this;simpa[eO] using this,fun h=>by omega,cf.push (k,k+1) (by rw[List.length_append,px,List.append_assoc];exact hown2),hb2⟩
       case measure=>simp[intOf];omega
    .by_cases h2:((t[k]).toNat:Int)=32\/((t[k]).toNat:Int)=10
     .have HS:Hid (cZ k g (t.data.toList.drop k)=eO g k++cZ (k+1) none (t.data.toList.drop (k+1))):=Cx t k hlt g h2;cases g with
      | none=>
       simp only[pN];clear hg;rcases h2 with h2|h2
       .have a1:(((t[k]).toNat:Int)==123)=false:=by simp[h2]
        have a2:(((t[k]).toNat:Int)==125)=false:=by simp[h2]
        have a3:(((t[k]).toNat:Int)==32)=true:=by simp[h2]
        clear h1 h2;go_wp2
        go_roundw;case rel=>exact⟨k+1,l,none,by go_num,rfl,by omega,by simp,fun _=>by have:=HL.out;rw[HS.out]at this;simpa[eO] using this,fun h=>by omega,A1,A0⟩
        case measure=>simp[intOf];omega
       .have a1:(((t[k]).toNat:Int)==123)=false:=by simp[h2]
        have a2:(((t[k]).toNat:Int)==125)=false:=by simp[h2]
        have a3:(((t[k]).toNat:Int)==32)=false:=by simp[h2]
        have a4:(((t[k]).toNat:Int)==10)=true:=by simp[h2]
        clear h1 h2;go_wp2
        go_roundw;case rel=>exact⟨k+1,l,none,by go_num,rfl,by omega,by simp,fun _=>by have:=HL.out;rw[HS.out]at this;simpa[eO] using this,fun h=>by omega,A1,A0⟩
        case measure=>simp[intOf];omega
      | some b=>
       simp only[pO];obtain⟨A3,A4⟩:=hg b rfl;clear hg;rcases h2 with h2|h2
       .have a1:(((t[k]).toNat:Int)==123)=false:=by simp[h2]
        have a2:(((t[k]).toNat:Int)==125)=false:=by simp[h2]
        have a3:(((t[k]).toNat:Int)==32)=true:=by simp[h2]
        clear h1 h2;go_wp2_with (at_builtin;refine jX wr w rfl (.tmp 38) (.tmp 45) 69 rfl 129 _ 2 24 underlying69 Tryz.infoWord rfl (by decide) (by decide) w.heap.size _ _ _ (by rfl) A1 [.string (t.extract b k),.int .i64 b] (by rfl) rfl (lb _ _) (by omega) A0 (by omega) ?_)
        intro v1 w1 hown1 hb1 hs1 hg1;go_wp2
        go_roundw;case rel=>exact⟨k+1,l++[(b,k)],none,by go_num,rfl,by omega,by simp,fun _=>by have:=HL.out;rw[HS.out]at this;simpa[eO] using this,fun h=>by omega,cf.push (b,k) hown1,hb1⟩
        case measure=>simp[intOf];omega
       .have a1:(((t[k]).toNat:Int)==123)=false:=by simp[h2]
        have a2:(((t[k]).toNat:Int)==125)=false:=by simp[h2]
        have a3:(((t[k]).toNat:Int)==32)=false:=by simp[h2]
        have a4:(((t[k]).toNat:Int)==10)=true:=by simp[h2]
        clear h1 h2;go_wp2_with (at_builtin;refine jX wr w rfl (.tmp 38) (.tmp 45) 69 rfl 129 _ 2 24 underlying69 Tryz.infoWord rfl (by decide) (by decide) w.heap.size _ _ _ (by rfl) A1 [.string (t.extract b k),.int .i64 b] (by rfl) rfl (lb _ _) (by omega) A0 (by omega) ?_)
        intro v1 w1 hown1 hb1 hs1 hg1;go_wp2
        go_roundw;case rel=>exact⟨k+1,l++[(b,k)],none,by go_num,rfl,by omega,by simp,fun _=>by have:=HL.out;rw[HS.out]at this;simpa[eO] using this,fun h=>by omega,cf.push (b,k) hown1,hb1⟩
        case measure=>simp[intOf];omega
     .have HS:Hid (cZ k g (t.data.toList.drop k)=cZ (k+1) (some (g.getD k)) (t.data.toList.drop (k+1))):=An t k hlt g (by omega) (by omega) (by omega) (by omega);cases g with
      | none=>
       simp only[pN];clear hg;have a1:(((t[k]).toNat:Int)==123)=false:=by simp;omega
       have a2:(((t[k]).toNat:Int)==125)=false:=by simp;omega
       have a3:(((t[k]).toNat:Int)==32)=false:=by simp;omega
       have a4:(((t[k]).toNat:Int)==10)=false:=by simp;omega
       clear h1 h2;go_wp2
       go_roundw;case rel=>exact⟨k+1,l,some k,by go_num,by go_num,by omega,by intro b hb;simp at hb;omega,fun _=>by have:=HL.out;rw[HS.out]at this;simpa using this,fun h=>by omega,A1,A0⟩
       case measure=>simp[intOf];omega
      | some b=>
       simp only[pO];obtain⟨A3,A4⟩:=hg b rfl;clear hg;have a1:(((t[k]).toNat:Int)==123)=false:=by simp;omega
       have a2:(((t[k]).toNat:Int)==125)=false:=by simp;omega
       have a3:(((t[k]).toNat:Int)==32)=false:=by simp;omega
       have a4:(((t[k]).toNat:Int)==10)=false:=by simp;omega
       clear h1 h2;go_wp2
       go_roundw;case rel=>exact⟨k+1,l,some b,by go_num,by go_num,by omega,by intro c hb;simp at hb;omega,fun _=>by have:=HL.out;rw[HS.out]at this;simpa using this,fun h=>by omega,A1,A0⟩
       case measure=>simp[intOf];omega
   .have HS:Hid (cZ k g (t.data.toList.drop k)=eO g k):=Cw t k (by omega) g;cases g with
    | none=>
     simp only[pN];clear hg;go_wp2
     go_roundw;case rel=>exact⟨k+1,l,none,by go_num,rfl,by omega,by simp,fun h=>by omega,fun _=>by have:=HL.out;rw[HS.out]at this;simpa[eO] using this,A1,A0⟩
     case measure=>simp[intOf];omega
    | some b=>
     simp only[pO];obtain⟨A3,A4⟩:=hg b rfl;clear hg;go_wp2_with (at_builtin;refine jX wr w rfl (.tmp 38) (.tmp 45) 69 rfl 129 _ 2 24 underlying69 Tryz.infoWord rfl (by decide) (by decide) w.heap.size _ _ _ (by rfl) A1 [.string (t.extract b k),.int .i64 b] (by rfl) rfl (lb _ _) (by omega) A0 (by omega) ?_)
     intro v1 w1 hown1 hb1 hs1 hg1;go_wp2
     go_roundw;case rel=>exact⟨k+1,l++[(b,k)],none,by go_num,rfl,by omega,by simp,fun h=>by omega,fun _=>by have:=HL.out;rw[HS.out]at this;simpa[eO] using this,cf.push (b,k) hown1,hb1⟩
     case measure=>simp[intOf];omega
  .have HE:Hid (l=dC t.data.toList):=A2 (by omega);clear hl A2 hg;go_wp2
   go_ret;exact⟨_,rfl,by rw[<- HE];exact A1,A0⟩
def aP (t:ByteArray)(w:World)(b off:Nat)(ws:List (Nat×Nat)):Prop:=
 ∀ (i:Nat) (h:i<ws.length),w.cell? ⟨b,off+i*2,none⟩=some (.string (t.extract ws[i].1 ws[i].2))/\w.cell? ⟨b,off+i*2+1,none⟩=some (.int .i64 ws[i].1)
theorem du {s:ByteArray}{l:List UInt8}(h:s.data.toList=l):(s.toList==l)=true:=by rw[ByteArray.toList_eq,h];simp
theorem bg {s:ByteArray}{l:List UInt8}(h:¬ s.data.toList=l):(s.toList==l)=false:=by rw[ByteArray.toList_eq];simpa using h
theorem DL (t:ByteArray)(b off cap:Nat)(ws:List (Nat×Nat))(w:World)(hlen:ws.length<=400)(hw:aP t w b off ws):
  Calls prog 23 #[.slice (some ⟨b,off,none⟩) ws.length cap] w fun e w'=>e=.returned (.int .i64 (fQ t ws 0))/\w'=w:=by
 go_enter func23,ntmps23
 go_wp2
 go_loop [3,4] (fun n i=>∃ (k:Nat) (m:Int),k<=ws.length/\i=.int .i64 k/\n=.int .i64 m/\-k<=m/\m<=k/\fQ t (ws.drop k) m=fQ t ws 0) (fun _ i=>ws.length - (intOf i).toNat)
 case atStart=>exact⟨0,0,Qa _,rfl,rfl,by omega,by omega,rfl⟩
 case round=>
  obtain⟨k,m,hk,rfl,rfl,A2,A3,hd⟩:=hrel;by_cases hlt:k<ws.length
  .obtain⟨A0,A1⟩:=hw k hlt;rw[lu ws k hlt,fQ]at hd;by_cases h1:ao t ws[k]=[123]
   .rw[if_pos h1]at hd;have e1:=du h1;have e2:((t.extract ws[k].1 ws[k].2).toList==[125])=false:=bg (by unfold ao at h1;rw[h1];decide);by_cases h4:4<m+1
    .rw[if_pos h4]at hd;have HD:=ah hd;clear hd h1;go_wp2
     go_ret;exact⟨dO HD,rfl⟩
    .rw[if_neg h4]at hd;have HD:=ah hd;clear hd h1;go_wp2
     go_round;case rel=>exact⟨k+1,m+1,by omega,by go_num,by go_num,by omega,by omega,HD.out⟩
     case measure=>simp[intOf];omega
   .rw[if_neg h1]at hd;have e1:=bg h1;by_cases h2:ao t ws[k]=[125]
    .rw[if_pos h2]at hd;have e2:=du h2;have HD:=ah hd;clear hd h1 h2;go_wp2
     go_round;case rel=>exact⟨k+1,m - 1,by omega,by go_num,by go_num,by omega,by omega,HD.out⟩
     case measure=>simp[intOf];omega
    .rw[if_neg h2]at hd;have e2:=bg h2;have HD:=ah hd;clear hd h1 h2;go_wp2
     go_round;case rel=>exact⟨k+1,m,by omega,by go_num,by go_num,by omega,by omega,HD.out⟩
     case measure=>simp[intOf];omega
  .rw[List.drop_of_length_le (by omega)]at hd;have HD:=ah hd;clear hd;go_wp2
   go_ret;exact⟨dO HD,rfl⟩
theorem mS (t:ByteArray)(b off cap:Nat)(ws:List (Nat×Nat))(w:World)(i:Int)(i0 j:Nat)(hi0:i=i0)(hlen:ws.length<=400)(hw:aP t w b off ws)
  (hj:gq t (ws.drop i0) 0=some j):
  Calls prog 55 #[.slice (some ⟨b,off,none⟩) ws.length cap,.int .i64 i] w fun e w'=>e=.returned (.int .i64 ((i0+j:Nat):Int))/\w'=w:=by
 subst hi0;have A0:=EV _ _ _ _ hj;simp at A0;go_enter func55,ntmps55
 go_wp2
 go_loop [1,5] (fun x n=>∃ (k q:Nat) (m:Int),k+q=i0+j/\x=.int .i64 k/\n=.int .i64 m/\i0<=k/\-k<=m/\m<=k/\gq t (ws.drop k) m=some q) (fun x _=>ws.length - (intOf x).toNat)
 case atStart=>exact⟨i0,j,0,rfl,rfl,rfl,v9 _,by omega,by omega,hj⟩
 case round=>
  obtain⟨k,q,m,A1,rfl,rfl,A6,A7,A8,hd⟩:=hrel;have A2:k<ws.length:=by omega
  obtain⟨A5,A4⟩:=hw k A2;rw[lu ws k A2,gq]at hd;have HQ:=ah A1;clear A1 hj A4;by_cases h1:ao t ws[k]=[123]
  .have e1:=du h1;have e2:((t.extract ws[k].1 ws[k].2).toList==[125])=false:=bg (by unfold ao at h1;rw[h1];decide);rw[show gi t ws[k] m=m+1 from by simp[gi,h1]]at hd;clear h1;by_cases h0:m+1=0
   .rw[if_pos h0]at hd;have hb:(m+1==0)=true:=by simp[h0]
    have HD:=ah hd;clear hd h0;go_wp2
    go_ret;exact⟨dO (by have:=HD.out;have:=HQ.out;simp at *;omega),rfl⟩
   .rw[if_neg h0]at hd;have hb:(m+1==0)=false:=by simp[h0]
    have HD:=ah hd;clear hd h0;go_wp2
    go_round;case rel=>
     obtain⟨q',hq,A3⟩:=Option.map_eq_some_iff.1 HD;exact⟨k+1,q',m+1,by have:=HQ.out;omega,by go_num,by go_num,by omega,by omega,by omega,hq⟩
    case measure=>simp[intOf];omega
  .have e1:=bg h1;by_cases h2:ao t ws[k]=[125]
   .have e2:=du h2;rw[show gi t ws[k] m=m - 1 from by simp[gi,h2]]at hd;clear h1 h2;by_cases h0:m - 1=0
    .rw[if_pos h0]at hd;have hb:(m - 1==0)=true:=by simp[h0]
     have HD:=ah hd;clear hd h0;go_wp2
     go_ret;exact⟨dO (by have:=HD.out;have:=HQ.out;simp at *;omega),rfl⟩
    .rw[if_neg h0]at hd;have hb:(m - 1==0)=false:=by simp[h0]
     have HD:=ah hd;clear hd h0;go_wp2
     go_round;case rel=>
      obtain⟨q',hq,A3⟩:=Option.map_eq_some_iff.1 HD;exact⟨k+1,q',m - 1,by have:=HQ.out;omega,by go_num,by go_num,by omega,by omega,by omega,hq⟩
     case measure=>simp[intOf];omega
   .have e2:=bg h2;rw[show gi t ws[k] m=m from by simp[gi,h1,h2]]at hd;clear h1 h2;by_cases h0:m=0
    .rw[if_pos h0]at hd;have hb:(m==0)=true:=by simp[h0]
     have HD:=ah hd;clear hd h0;go_wp2
     go_ret;exact⟨dO (by have:=HD.out;have:=HQ.out;simp at *;omega),rfl⟩
    .rw[if_neg h0]at hd;have hb:(m==0)=false:=by simp[h0]
     have HD:=ah hd;clear hd h0;go_wp2
     go_round;case rel=>
      obtain⟨q',hq,A3⟩:=Option.map_eq_some_iff.1 HD;exact⟨k+1,q',m,by have:=HQ.out;omega,by go_num,by go_num,by omega,by omega,by omega,hq⟩
     case measure=>simp[intOf];omega
end Go.Proofs.YtmmmnghiegajmaaGreat
namespace Go.Proofs.Herald
structure am where
 op:Int
 a:Int
 b:Int
 c:Int
def bd (n lo hi:Int):Bool:=decide (lo<=n) && decide (n<=hi)
def ct (n:Int)(x:am):Bool:=
 if x.op=0 then (x.a==0) && (x.b==0) && (x.c==0)
 else if x.op=1 then bd x.a 0 7 && (x.b==0) && (x.c==0)
 else if x.op=2 then bd x.a 1 999 && (x.b==0) && (x.c==0)
 else if x.op=3 then bd x.a 0 7 && bd x.b 1 999 && bd x.c 0 n
 else if x.op=4 then bd x.a 0 11 && bd x.b 0 999 && (x.c==0)
 else if x.op=5 then bd x.a 0 11 && (x.b==0) && (x.c==0)
 else if x.op=6 then bd x.a 0 7 && bd x.b 0 11 && bd x.c 0 n
 else if x.op=7 then bd x.a 0 11 && (x.b==0) && bd x.c 0 n
 else if x.op=8 then (x.a==0) && (x.b==0) && bd x.c 0 n
 else false
def em (cs:List am):Bool:=decide (cs.length<=1000) && cs.all (ct cs.length)
end Go.Proofs.Herald
namespace Go.Proofs.YtmmmnghiegajmaaGreat
theorem kS {n lo hi:Int}(h1:lo<=n)(h2:n<=hi):bd n lo hi=true:=by unfold bd;rw[decide_eq_true h1,decide_eq_true h2];rfl
theorem mg {n lo hi:Int}(h1:¬ lo<=n):bd n lo hi=false:=by unfold bd;rw[decide_eq_false h1];rfl
theorem mf {n lo hi:Int}(h1:¬ n<=hi):bd n lo hi=false:=by unfold bd;rw[decide_eq_false h1];exact Bool.and_false _
theorem dX {a b:Bool}(h:a=b):Ending.returned (.bool a)=.returned (.bool b):=by rw[h]
theorem fp (v lo hi:Int)(w:World):Calls prog 50 #[.int .i64 v,.int .i64 lo,.int .i64 hi] w fun e w'=>e=.returned (.bool (bd v lo hi))/\w'=w:=by
 by_cases h1:lo<=v
 .by_cases h2:v<=hi
  .have e:=kS h1 h2;have HE:Hid (bd v lo hi=true):=e;clear e;go_enter func50,ntmps50
   go_wp2
   go_ret;exact⟨dX HE.symm,rfl⟩
  .have HE:Hid (bd v lo hi=false):=mf h2;go_enter func50,ntmps50
   go_wp2
   go_ret;exact⟨dX HE.symm,rfl⟩
 .have HE:Hid (bd v lo hi=false):=mg h1;go_enter func50,ntmps50
  go_wp2
  go_ret;exact⟨dX HE.symm,rfl⟩
theorem lI (v:Int)(w:World):Calls prog 136 #[.int .i64 v] w fun e w'=>e=.returned (.bool (bd v 0 7))/\w'=w:=by
 by_cases h1:0<=v
 .by_cases h2:v<8
  .have e:=kS h1 (show v<=7 by omega);have HE:Hid (bd v 0 7=true):=e;clear e;go_enter func136,ntmps136
   go_wp2
   go_ret;exact⟨dX HE.symm,rfl⟩
  .have HE:Hid (bd v 0 7=false):=mf (show ¬ v<=7 by omega);go_enter func136,ntmps136
   go_wp2
   go_ret;exact⟨dX HE.symm,rfl⟩
 .have HE:Hid (bd v 0 7=false):=mg h1;go_enter func136,ntmps136
  go_wp2
  go_ret;exact⟨dX HE.symm,rfl⟩
theorem lA (v:Int)(w:World):Calls prog 137 #[.int .i64 v] w fun e w'=>e=.returned (.bool (bd v 1 999))/\w'=w:=by
 by_cases h1:1<=v
 .by_cases h2:v<=999
  .have e:=kS h1 h2;have HE:Hid (bd v 1 999=true):=e;clear e;go_enter func137,ntmps137
   go_wp2
   go_ret;exact⟨dX HE.symm,rfl⟩
  .have HE:Hid (bd v 1 999=false):=mf h2;go_enter func137,ntmps137
   go_wp2
   go_ret;exact⟨dX HE.symm,rfl⟩
 .have HE:Hid (bd v 1 999=false):=mg h1;go_enter func137,ntmps137
  go_wp2
  go_ret;exact⟨dX HE.symm,rfl⟩
theorem lr (v:Int)(w:World):Calls prog 139 #[.int .i64 v] w fun e w'=>e=.returned (.bool (bd v 0 11))/\w'=w:=by
 by_cases h1:0<=v
 .by_cases h2:v<12
  .have e:=kS h1 (show v<=11 by omega);have HE:Hid (bd v 0 11=true):=e;clear e;go_enter func139,ntmps139
   go_wp2
   go_ret;exact⟨dX HE.symm,rfl⟩
  .have HE:Hid (bd v 0 11=false):=mf (show ¬ v<=11 by omega);go_enter func139,ntmps139
   go_wp2
   go_ret;exact⟨dX HE.symm,rfl⟩
 .have HE:Hid (bd v 0 11=false):=mg h1;go_enter func139,ntmps139
  go_wp2
  go_ret;exact⟨dX HE.symm,rfl⟩
theorem lw (v:Int)(w:World):Calls prog 140 #[.int .i64 v] w fun e w'=>e=.returned (.bool (bd v 0 999))/\w'=w:=by
 by_cases h1:0<=v
 .by_cases h2:v<=999
  .have e:=kS h1 h2;have HE:Hid (bd v 0 999=true):=e;clear e;go_enter func140,ntmps140
   go_wp2
   go_ret;exact⟨dX HE.symm,rfl⟩
  .have HE:Hid (bd v 0 999=false):=mf h2;go_enter func140,ntmps140
   go_wp2
   go_ret;exact⟨dX HE.symm,rfl⟩
 .have HE:Hid (bd v 0 999=false):=mg h1;go_enter func140,ntmps140
  go_wp2
  go_ret;exact⟨dX HE.symm,rfl⟩
theorem lC (v n:Int)(w:World):Calls prog 138 #[.int .i64 v,.int .i64 n] w fun e w'=>e=.returned (.bool (bd v 0 n))/\w'=w:=by
 by_cases h1:0<=v
 .by_cases h2:v<=n
  .have e:=kS h1 h2;have HE:Hid (bd v 0 n=true):=e;clear e;go_enter func138,ntmps138
   go_wp2
   go_ret;exact⟨dX HE.symm,rfl⟩
  .have HE:Hid (bd v 0 n=false):=mf h2;go_enter func138,ntmps138
   go_wp2
   go_ret;exact⟨dX HE.symm,rfl⟩
 .have HE:Hid (bd v 0 n=false):=mg h1;go_enter func138,ntmps138
  go_wp2
  go_ret;exact⟨dX HE.symm,rfl⟩
def fo (x:am):List Value:=[.int .i64 x.op,.int .i64 x.a,.int .i64 x.b,.int .i64 x.c]
def eF (w:World)(b off:Nat)(l:List am):Prop:=∀ (i:Nat) (hi:i<l.length) (j:Nat) (u:Value),(fo l[i])[j]?=some u->w.cell? ⟨b,off+i*4+j,none⟩=some u
theorem eF.keep {w w':World}{b off:Nat}{l:List am}(h:eF w b off l)(hk:w'.heap[b]?=w.heap[b]?):eF w' b off l:=fun i hi j u hj=>
 (World.cell?_of_block hk).trans (h i hi j u hj)
theorem eF.get {w:World}{b off:Nat}{l:List am}(h:eF w b off l)(i:Nat)(hi:i<l.length):
  w.cell? ⟨b,off+i*4,none⟩=some (.int .i64 l[i].op)/\w.cell? ⟨b,off+i*4+1,none⟩=some (.int .i64 l[i].a)/\w.cell? ⟨b,off+i*4+2,none⟩=some (.int .i64 l[i].b)/\w.cell? ⟨b,off+i*4+3,none⟩=some (.int .i64 l[i].c):=
 ⟨h i hi 0 _ rfl,h i hi 1 _ rfl,h i hi 2 _ rfl,h i hi 3 _ rfl⟩
theorem iB (P Q R:Bool):((P && Q && R)=false/\P=false)\/((P && Q && R)=false/\P=true/\Q=false)\/((P && Q && R)=false/\P=true/\Q=true/\R=false)\/((P && Q && R)=true/\P=true/\Q=true/\R=true):=by
 cases P <;> cases Q <;> cases R <;> simp
theorem zw (x:am)(n:Int)(w:World):Calls prog 113 #[.agg (fo x).toArray,.int .i64 n] w fun e w'=>e=.returned (.bool (ct n x))/\Below w.heap.size w w':=by
 obtain⟨op,a,b,c⟩:=x;have A1:fo ⟨op,a,b,c⟩=[.int .i64 op,.int .i64 a,.int .i64 b,.int .i64 c]:=rfl;rw[A1];clear A1;have A0:Hid (∀ o,Below w.heap.size w (w.alloc o)):=fun o=>(v7 _ _).alloc (v9 _) _;by_cases h0:op=0
 .subst h0;have hs:ct n ⟨0,a,b,c⟩=((a==0) && (b==0) && (c==0)):=rfl;rw[hs];rcases iB (a==0) (b==0) (c==0) with ⟨hr,g1⟩|⟨hr,g1,g2⟩|⟨hr,g1,g2,g3⟩|⟨hr,g1,g2,g3⟩ <;> rw[hr];all_goals
   clear hr hs;go_enter func113,ntmps113
   go_wp2_with (first|(go_at_call 136;refine(lI _ _).mono ?_;rintro e w' ⟨rfl,rfl⟩)|(go_at_call 137;refine(lA _ _).mono ?_;rintro e w' ⟨rfl,rfl⟩)|(go_at_call 139;refine(lr _ _).mono ?_;rintro e w' ⟨rfl,rfl⟩)|(go_at_call 140;refine(lw _ _).mono ?_;rintro e w' ⟨rfl,rfl⟩)|(go_at_call 138;refine(lC _ _ _).mono ?_;rintro e w' ⟨rfl,rfl⟩))
   go_ret;exact⟨rfl,A0 _⟩
 by_cases h1:op=1
 .subst h1;have hs:ct n ⟨1,a,b,c⟩=((bd a 0 7) && (b==0) && (c==0)):=rfl;rw[hs];rcases iB (bd a 0 7) (b==0) (c==0) with ⟨hr,g1⟩|⟨hr,g1,g2⟩|⟨hr,g1,g2,g3⟩|⟨hr,g1,g2,g3⟩ <;> rw[hr];all_goals
   clear hr hs;go_enter func113,ntmps113
   go_wp2_with (first|(go_at_call 136;refine(lI _ _).mono ?_;rintro e w' ⟨rfl,rfl⟩)|(go_at_call 137;refine(lA _ _).mono ?_;rintro e w' ⟨rfl,rfl⟩)|(go_at_call 139;refine(lr _ _).mono ?_;rintro e w' ⟨rfl,rfl⟩)|(go_at_call 140;refine(lw _ _).mono ?_;rintro e w' ⟨rfl,rfl⟩)|(go_at_call 138;refine(lC _ _ _).mono ?_;rintro e w' ⟨rfl,rfl⟩))
   go_ret;exact⟨rfl,A0 _⟩
 by_cases h2:op=2
 .subst h2;have hs:ct n ⟨2,a,b,c⟩=((bd a 1 999) && (b==0) && (c==0)):=rfl;rw[hs];rcases iB (bd a 1 999) (b==0) (c==0) with ⟨hr,g1⟩|⟨hr,g1,g2⟩|⟨hr,g1,g2,g3⟩|⟨hr,g1,g2,g3⟩ <;> rw[hr];all_goals
   clear hr hs;go_enter func113,ntmps113
   go_wp2_with (first|(go_at_call 136;refine(lI _ _).mono ?_;rintro e w' ⟨rfl,rfl⟩)|(go_at_call 137;refine(lA _ _).mono ?_;rintro e w' ⟨rfl,rfl⟩)|(go_at_call 139;refine(lr _ _).mono ?_;rintro e w' ⟨rfl,rfl⟩)|(go_at_call 140;refine(lw _ _).mono ?_;rintro e w' ⟨rfl,rfl⟩)|(go_at_call 138;refine(lC _ _ _).mono ?_;rintro e w' ⟨rfl,rfl⟩))
   go_ret;exact⟨rfl,A0 _⟩
 by_cases h3:op=3
 .subst h3;have hs:ct n ⟨3,a,b,c⟩=((bd a 0 7) && (bd b 1 999) && (bd c 0 n)):=rfl;rw[hs];rcases iB (bd a 0 7) (bd b 1 999) (bd c 0 n) with ⟨hr,g1⟩|⟨hr,g1,g2⟩|⟨hr,g1,g2,g3⟩|⟨hr,g1,g2,g3⟩ <;> rw[hr];all_goals
   clear hr hs;go_enter func113,ntmps113
   go_wp2_with (first|(go_at_call 136;refine(lI _ _).mono ?_;rintro e w' ⟨rfl,rfl⟩)|(go_at_call 137;refine(lA _ _).mono ?_;rintro e w' ⟨rfl,rfl⟩)|(go_at_call 139;refine(lr _ _).mono ?_;rintro e w' ⟨rfl,rfl⟩)|(go_at_call 140;refine(lw _ _).mono ?_;rintro e w' ⟨rfl,rfl⟩)|(go_at_call 138;refine(lC _ _ _).mono ?_;rintro e w' ⟨rfl,rfl⟩))
   go_ret;exact⟨rfl,A0 _⟩
 by_cases h4:op=4
 .subst h4;have hs:ct n ⟨4,a,b,c⟩=((bd a 0 11) && (bd b 0 999) && (c==0)):=rfl;rw[hs];rcases iB (bd a 0 11) (bd b 0 999) (c==0) with ⟨hr,g1⟩|⟨hr,g1,g2⟩|⟨hr,g1,g2,g3⟩|⟨hr,g1,g2,g3⟩ <;> rw[hr];all_goals
   clear hr hs;go_enter func113,ntmps113
   go_wp2_with (first|(go_at_call 136;refine(lI _ _).mono ?_;rintro e w' ⟨rfl,rfl⟩)|(go_at_call 137;refine(lA _ _).mono ?_;rintro e w' ⟨rfl,rfl⟩)|(go_at_call 139;refine(lr _ _).mono ?_;rintro e w' ⟨rfl,rfl⟩)|(go_at_call 140;refine(lw _ _).mono ?_;rintro e w' ⟨rfl,rfl⟩)|(go_at_call 138;refine(lC _ _ _).mono ?_;rintro e w' ⟨rfl,rfl⟩))
   go_ret;exact⟨rfl,A0 _⟩
 by_cases h5:op=5
 .subst h5;have hs:ct n ⟨5,a,b,c⟩=((bd a 0 11) && (b==0) && (c==0)):=rfl;rw[hs];rcases iB (bd a 0 11) (b==0) (c==0) with ⟨hr,g1⟩|⟨hr,g1,g2⟩|⟨hr,g1,g2,g3⟩|⟨hr,g1,g2,g3⟩ <;> rw[hr];all_goals
   clear hr hs;go_enter func113,ntmps113
   go_wp2_with (first|(go_at_call 136;refine(lI _ _).mono ?_;rintro e w' ⟨rfl,rfl⟩)|(go_at_call 137;refine(lA _ _).mono ?_;rintro e w' ⟨rfl,rfl⟩)|(go_at_call 139;refine(lr _ _).mono ?_;rintro e w' ⟨rfl,rfl⟩)|(go_at_call 140;refine(lw _ _).mono ?_;rintro e w' ⟨rfl,rfl⟩)|(go_at_call 138;refine(lC _ _ _).mono ?_;rintro e w' ⟨rfl,rfl⟩))
   go_ret;exact⟨rfl,A0 _⟩
 by_cases h6:op=6
 .subst h6;have hs:ct n ⟨6,a,b,c⟩=((bd a 0 7) && (bd b 0 11) && (bd c 0 n)):=rfl;rw[hs];rcases iB (bd a 0 7) (bd b 0 11) (bd c 0 n) with ⟨hr,g1⟩|⟨hr,g1,g2⟩|⟨hr,g1,g2,g3⟩|⟨hr,g1,g2,g3⟩ <;> rw[hr];all_goals
   clear hr hs;go_enter func113,ntmps113
   go_wp2_with (first|(go_at_call 136;refine(lI _ _).mono ?_;rintro e w' ⟨rfl,rfl⟩)|(go_at_call 137;refine(lA _ _).mono ?_;rintro e w' ⟨rfl,rfl⟩)|(go_at_call 139;refine(lr _ _).mono ?_;rintro e w' ⟨rfl,rfl⟩)|(go_at_call 140;refine(lw _ _).mono ?_;rintro e w' ⟨rfl,rfl⟩)|(go_at_call 138;refine(lC _ _ _).mono ?_;rintro e w' ⟨rfl,rfl⟩))
   go_ret;exact⟨rfl,A0 _⟩
 by_cases h7:op=7
 .subst h7;have hs:ct n ⟨7,a,b,c⟩=((bd a 0 11) && (b==0) && (bd c 0 n)):=rfl;rw[hs];rcases iB (bd a 0 11) (b==0) (bd c 0 n) with ⟨hr,g1⟩|⟨hr,g1,g2⟩|⟨hr,g1,g2,g3⟩|⟨hr,g1,g2,g3⟩ <;> rw[hr];all_goals
   clear hr hs;go_enter func113,ntmps113
   go_wp2_with (first|(go_at_call 136;refine(lI _ _).mono ?_;rintro e w' ⟨rfl,rfl⟩)|(go_at_call 137;refine(lA _ _).mono ?_;rintro e w' ⟨rfl,rfl⟩)|(go_at_call 139;refine(lr _ _).mono ?_;rintro e w' ⟨rfl,rfl⟩)|(go_at_call 140;refine(lw _ _).mono ?_;rintro e w' ⟨rfl,rfl⟩)|(go_at_call 138;refine(lC _ _ _).mono ?_;rintro e w' ⟨rfl,rfl⟩))
   go_ret;exact⟨rfl,A0 _⟩
 by_cases h8:op=8
 .subst h8;have hs:ct n ⟨8,a,b,c⟩=((a==0) && (b==0) && (bd c 0 n)):=rfl;rw[hs];rcases iB (a==0) (b==0) (bd c 0 n) with ⟨hr,g1⟩|⟨hr,g1,g2⟩|⟨hr,g1,g2,g3⟩|⟨hr,g1,g2,g3⟩ <;> rw[hr];all_goals
   clear hr hs;go_enter func113,ntmps113
   go_wp2_with (first|(go_at_call 136;refine(lI _ _).mono ?_;rintro e w' ⟨rfl,rfl⟩)|(go_at_call 137;refine(lA _ _).mono ?_;rintro e w' ⟨rfl,rfl⟩)|(go_at_call 139;refine(lr _ _).mono ?_;rintro e w' ⟨rfl,rfl⟩)|(go_at_call 140;refine(lw _ _).mono ?_;rintro e w' ⟨rfl,rfl⟩)|(go_at_call 138;refine(lC _ _ _).mono ?_;rintro e w' ⟨rfl,rfl⟩))
   go_ret;exact⟨rfl,A0 _⟩
 have hs:ct n ⟨op,a,b,c⟩=false:=by unfold ct;simp only[h0,h1,h2,h3,h4,h5,h6,h7,h8,if_false]
 rw[hs];have e0:(op==0)=false:=by simpa using h0
 have e1:(op==1)=false:=by simpa using h1
 have e2:(op==2)=false:=by simpa using h2
 have e3:(op==3)=false:=by simpa using h3
 have e4:(op==4)=false:=by simpa using h4
 have e5:(op==5)=false:=by simpa using h5
 have e6:(op==6)=false:=by simpa using h6
 have e7:(op==7)=false:=by simpa using h7
 have e8:(op==8)=false:=by simpa using h8
 clear h0 h1 h2 h3 h4 h5 h6 h7 h8 hs;go_enter func113,ntmps113
 go_wp2_with fail
 go_ret;exact⟨rfl,A0 _⟩
theorem tZ {α:Type}(p:α->Bool)(l:List α)(k:Nat)(h:k<l.length)(h1:(l.take k).all p=true)(h2:p l[k]=true):(l.take (k+1)).all p=true:=by
 rw[Qd h,List.all_append,h1];simp[h2]
theorem xB {α:Type}(p:α->Bool)(l:List α)(k:Nat)(h:k<l.length)(h2:p l[k]=false):l.all p=false:=by
 rw[List.all_eq_false];exact⟨l[k],Qb h,by rw[h2];simp⟩
theorem nz {cs:List am}(h:1000<cs.length):em cs=false:=by unfold em;rw[decide_eq_false (by omega)];rfl
theorem rj {cs:List am}(h:cs.length<=1000):em cs=cs.all (ct cs.length):=by unfold em;rw[decide_eq_true h];rfl
def aH (w:World)(a:Option Addr)(b off:Nat)(cs:List am):Prop:=0<cs.length->a=some ⟨b,off,none⟩/\b<w.heap.size/\eF w b off cs
theorem aH.keep {w w':World}{a:Option Addr}{b off:Nat}{cs:List am}(h:aH w a b off cs)(hb:Below w.heap.size w w'):aH w' a b off cs:=fun hp=>
 ⟨(h hp).1,Qh (h hp).2.1 hb.size,(h hp).2.2.keep (hb.block _ (h hp).2.1)⟩
theorem EG (a:Option Addr)(b off cap:Nat)(cs:List am)(w:World)(hc:aH w a b off cs):
  Calls prog 89 #[.slice a cs.length cap] w fun e w'=>e=.returned (.bool (em cs))/\Below w.heap.size w w':=by
 rcases Nat.lt_or_ge 1000 cs.length with hl|hl
 .have HS:Hid (em cs=false):=nz hl;go_enter func89,ntmps89
  go_wp2_with fail
  go_ret;exact⟨dX HS.out.symm,v7 _ _⟩
 .have HS:Hid (em cs=cs.all (ct cs.length)):=rj hl;have HC:=ah hc;clear hc;go_enter func89,ntmps89
  go_wp2_with fail
  go_loopw [10] (fun i wr=>∃ k:Nat,k<=cs.length/\i=.int .i64 k/\Hid (Below w.heap.size w wr)/\Hid ((cs.take k).all (ct cs.length)=true)) (fun i _=>cs.length - (intOf i).toNat)
  case atStart=>exact⟨0,Qa _,rfl,v7 _ _,by show _=_;simp⟩
  case round=>
   obtain⟨k,hk,rfl,HB,HT⟩:=hrel;by_cases hlt:k<cs.length
   .obtain⟨rfl,A0,A3⟩:=HC (by omega);obtain⟨c0,c1,c2,c3⟩:=(A3.keep (HB.block b A0)).get k hlt;have HI:Hid (∀ W:World,Calls prog 113 #[.agg #[.int .i64 cs[k].op,.int .i64 cs[k].a,.int .i64 cs[k].b,.int .i64 cs[k].c],.int .i64 cs.length] W fun e w'=>e=.returned (.bool (ct cs.length cs[k]))/\Below W.heap.size W w'):=fun W=>zw cs[k] cs.length W;have A5:Hid (ct cs.length cs[k]=true->(cs.take (k+1)).all (ct cs.length)=true):=fun h=>tZ _ cs k hlt HT h;have A4:Hid (ct cs.length cs[k]=false->cs.all (ct cs.length)=false):=fun h=>xB _ cs k hlt h;generalize cs[k].op=op at *;generalize cs[k].a=xa at *;generalize cs[k].b=xb at *;generalize cs[k].c=xc at *;generalize ct cs.length cs[k]=S at *;clear A3;go_wp2_with fail
    refine(HI _).mono ?_;rintro e w1 ⟨rfl,A2⟩;have A1:Hid (Below w.heap.size w w1):=(HB.alloc HB.size _).trans (A2.mono (by have:=HB.size;simp;omega));clear A2;cases S with
    | true=>
     go_wp2_with fail
     go_roundw;case rel=>exact⟨k+1,by omega,by go_num,A1,A5.out trivial⟩
     case measure=>simp[intOf];omega
    | false=>
     go_wp2_with fail
     go_ret;exact⟨dX (by rw[HS.out];exact(A4 trivial).symm),A1⟩
   .have HE:Hid (cs.take k=cs):=Qe (by omega);go_wp2_with fail
    go_ret;exact⟨dX (by rw[HS.out];have h:=HT.out;rw[HE]at h;exact h.symm),HB⟩
end Go.Proofs.YtmmmnghiegajmaaGreat
namespace Go.Proofs.Herald
structure aj where
 dev:Int
 run:Int
 num:Int
 key:Int
structure Pr where
 id:Int
 dev:Int
 sent:Int
 til:Int
 num:Int
 regs:List Int
 tow:Int
 els:Int
def jq:List aj->aj->Option (List aj)
 | [],_=>none
 | x::r,m=>if x.run=m.run/\x.key=m.key then some (m::r) else (jq r m).map (x::·)
def fR (q:List aj)(m:aj):Option (List aj):=
 match jq q m with
 | some q'=>some q'
 | none=>if 4<=q.length then none else some (q++[m])
def aB (q:List aj)(p:Pr)(key:Int):List aj×Pr×Int:=
 match fR q ⟨p.dev,p.id,p.sent+1,key⟩ with
 | some q'=>(q',{p with sent:=p.sent+1},p.sent+1)
 | none=>(q,p,0)
def cQ (id num:Int)(m:aj):Bool:=(m.run != id) || ((num != 0) && (m.num != num))
def dr (q:List aj)(id num:Int):List aj:=q.filter (cQ id num)
def jt (q:List aj)(id num:Int):Bool:=q.any fun m=>m.run==id && m.num==num
def dY (p:Pr)(now n num:Int):Pr:={p with til:=now+n,num:=num}
def cw (p:Pr)(r:Int):Int:=p.regs.getD r.toNat 0
def eP (p:Pr)(r v:Int):Pr:={p with regs:=p.regs.set r.toNat v}
def dA (now:Int)(x:am)(pc:Int)(q:List aj)(p:Pr):List aj×Pr×Int×Bool:=
 if x.op=1 then ((aB q p x.a).1,(aB q p x.a).2.1,pc+1,false)
 else if x.op=2 then (q,{dY p now x.a 0 with els:=pc+1},-1,false)
 else if x.op=3 then
  (if (aB q p x.a).2.2=0 then ((aB q p x.a).1,(aB q p x.a).2.1,x.c,false)
   else ((aB q p x.a).1,{dY (aB q p x.a).2.1 now x.b (aB q p x.a).2.2 with tow:=pc+1,els:=x.c},-1,false))
 else if x.op=4 then (q,eP p x.a x.b,pc+1,false)
 else if x.op=5 then (q,eP p x.a (if 1000000<2*cw p x.a then 1000000 else 2*cw p x.a),pc+1,false)
 else if x.op=6 then ((aB q p x.a).1,{dY (aB q p x.a).2.1 now (cu 1 (cw p x.b)) (aB q p x.a).2.2 with tow:=x.c,els:=pc+1},-1,false)
 else if x.op=7 then
  (if 0<cw p x.a then (q,eP p x.a (cw p x.a - 1),if 0<cw p x.a - 1 then x.c else pc+1,false) else (q,p,pc+1,false))
 else if x.op=8 then (q,p,x.c,false)
 else (q,p,-1,true)
def df (now:Int)(cs:List am):Nat->Int->List aj->Pr->List aj×Pr×Bool
 | 0,_,q,p=>(q,p,true)
 | f+1,pc,q,p=>
  if h:pc.toNat<cs.length then
   (if (dA now cs[pc.toNat] pc q p).2.2.1<0 then ((dA now cs[pc.toNat] pc q p).1,(dA now cs[pc.toNat] pc q p).2.1,(dA now cs[pc.toNat] pc q p).2.2.2)
    else df now cs f (dA now cs[pc.toNat] pc q p).2.2.1 (dA now cs[pc.toNat] pc q p).1 (dA now cs[pc.toNat] pc q p).2.1)
  else (q,p,true)
def iJ (m x:aj):Prop:=x.run=m.run/\x.key=m.key
theorem pP:∀ (q:List aj)(m:aj),(∀ x∈q,¬ iJ m x)->jq q m=none:=by
 intro q;induction q with
 | nil=>intro m _;rfl
 | cons x r ih=>
  intro m h;have hx:¬ (x.run=m.run/\x.key=m.key):=h x (by simp);rw[jq,if_neg hx,ih m (fun y hy=>h y (by simp[hy]))];rfl
theorem xo:∀ (q:List aj)(m:aj)(k:Nat)(hk:k<q.length),(∀ x∈q.take k,¬ iJ m x)->iJ m q[k]->jq q m=some (q.set k m):=by
 intro q;induction q with
 | nil=>intro m k hk;simp at hk
 | cons x r ih=>
  intro m k hk h hm;cases k with
  | zero=>
   have hx:x.run=m.run/\x.key=m.key:=hm;rw[jq,if_pos hx];rfl
  | succ k=>
   have hx:¬ (x.run=m.run/\x.key=m.key):=h x (by simp);rw[jq,if_neg hx,ih m k (by simpa using hk) (fun y hy=>h y (by simp[hy])) (by simpa using hm)];rfl
theorem EU {q:List aj}{p:Pr}{key:Int}{k:Nat}(hk:k<q.length)(h:∀ x∈q.take k,¬ iJ ⟨p.dev,p.id,p.sent+1,key⟩ x)(hm:iJ ⟨p.dev,p.id,p.sent+1,key⟩ q[k]):
  aB q p key=(q.set k ⟨p.dev,p.id,p.sent+1,key⟩,{p with sent:=p.sent+1},p.sent+1):=by
 unfold aB fR;rw[xo q _ k hk h hm]
theorem Ct {q:List aj}{p:Pr}{key:Int}(h:∀ x∈q,¬ iJ ⟨p.dev,p.id,p.sent+1,key⟩ x)(hl:4<=q.length):aB q p key=(q,p,0):=by
 unfold aB fR;rw[pP q _ h];simp only[if_pos hl]
theorem CC {q:List aj}{p:Pr}{key:Int}(h:∀ x∈q,¬ iJ ⟨p.dev,p.id,p.sent+1,key⟩ x)(hl:¬ 4<=q.length):
  aB q p key=(q++[⟨p.dev,p.id,p.sent+1,key⟩],{p with sent:=p.sent+1},p.sent+1):=by
 unfold aB fR;rw[pP q _ h];simp only[if_neg hl]
theorem rW (q:List aj)(p:Pr)(key:Int)(h:q.length<=4):(aB q p key).1.length<=4:=by
 have A0:∀ (q:List aj) (m:aj) (q':List aj),jq q m=some q'->q'.length=q.length:=by
  intro q;induction q with
  | nil=>intro m q' h;cases h
  | cons x r ih=>
   intro m q' h;rw[jq]at h;split at h
   .cases h;rfl
   .cases hr:jq r m with
    | none=>rw[hr]at h;cases h
    | some r'=>rw[hr]at h;cases h;simp[ih m r' hr]
 unfold aB fR;cases hp:jq q ⟨p.dev,p.id,p.sent+1,key⟩ with
 | some q'=>simp only;rw[A0 _ _ _ hp];exact h
 | none=>
  simp only;by_cases hl:4<=q.length
  .rw[if_pos hl];exact h
  .rw[if_neg hl];simp;omega
theorem kD (q:List aj)(p:Pr)(key:Int):(aB q p key).2.1.regs=p.regs/\(aB q p key).2.1.id=p.id/\(aB q p key).2.1.dev=p.dev/\p.sent<=(aB q p key).2.1.sent/\(aB q p key).2.1.sent<=p.sent+1:=by
 unfold aB;split
 .exact⟨rfl,rfl,rfl,by simp only;omega,Int.le_refl _⟩
 .exact⟨rfl,rfl,rfl,by simp only;omega,by simp only;omega⟩
def bI (p:Pr):Prop:=∀ z∈p.regs,0<=z/\z<=1000000
theorem bI.get {p:Pr}(h:bI p)(j:Int):0<=cw p j/\cw p j<=1000000:=by
 unfold cw;by_cases hj:j.toNat<p.regs.length
 .have e:p.regs.getD j.toNat 0=p.regs[j.toNat]:=by simp[hj]
  rw[e];exact h _ (Qb hj)
 .have e:p.regs.getD j.toNat 0=0:=by simp[hj]
  rw[e];decide
theorem bI.set {p:Pr}(h:bI p)(j v:Int)(h0:0<=v)(h1:v<=1000000):bI (eP p j v):=fun z hz=>by
 rcases List.mem_or_eq_of_mem_set hz with hz|hz
 .exact h z hz
 .rw[hz];exact⟨h0,h1⟩
theorem gz {n lo hi:Int}(h:bd n lo hi=true):lo<=n/\n<=hi:=by
 unfold bd at h;simpa using h
structure jf (n:Int)(q:List aj)(p:Pr)(r:List aj×Pr×Int×Bool):Prop where
 regs:bI r.2.1
 id:r.2.1.id=p.id
 dev:r.2.1.dev=p.dev
 sent0:p.sent<=r.2.1.sent
 sent1:r.2.1.sent<=p.sent+1
 len:r.1.length<=4
 pc:r.2.2.1=-1\/(0<=r.2.2.1/\r.2.2.1<=n)
 done:r.2.2.2=true->r.2.2.1=-1
theorem mL {n:Int}{q:List aj}{p p':Pr}{pc:Int}{f:Bool}(hq:q.length<=4)(hr:bI p')(hi:p'.id=p.id)(hd:p'.dev=p.dev)(hs:p'.sent=p.sent)(hpc:pc=-1\/(0<=pc/\pc<=n))(hf:f=true->pc=-1):jf n q p (q,p',pc,f):=
 ⟨hr,hi,hd,by simp only;omega,by simp only;omega,hq,hpc,hf⟩
theorem pA {n:Int}{q:List aj}{p p':Pr}{key pc:Int}(hq:q.length<=4)(hr:bI p)(hp1:p'.regs=(aB q p key).2.1.regs)(hp2:p'.id=(aB q p key).2.1.id)(hp3:p'.dev=(aB q p key).2.1.dev)(hp4:p'.sent=(aB q p key).2.1.sent)(hpc:pc=-1\/(0<=pc/\pc<=n)):
  jf n q p ((aB q p key).1,p',pc,false):=by
 obtain⟨h1,h2,h3,h4,h5⟩:=kD q p key;refine⟨fun z hz=>hr z ?_,by rw[hp2];exact h2,by rw[hp3];exact h3,by rw[hp4];exact h4,by rw[hp4];exact h5,rW q p key hq,hpc,fun h=>by cases h⟩;have:p'.regs=p.regs:=hp1.trans h1;rwa [<- this]
theorem xy {n:Int}{now:Int}{x:am}{pc:Int}{q:List aj}{p:Pr}(hx:ct n x=true)(h0:0<=pc)(h1:pc<n)(hr:bI p)(hq:q.length<=4):jf n q p (dA now x pc q p):=by
 have A0:pc+1=-1\/(0<=pc+1/\pc+1<=n):=.inr ⟨by omega,by omega⟩;unfold ct at hx;unfold dA;by_cases g0:x.op=0
 .rw[if_neg (by omega),if_neg (by omega),if_neg (by omega),if_neg (by omega),if_neg (by omega),if_neg (by omega),if_neg (by omega),if_neg (by omega)];exact mL hq hr rfl rfl rfl (.inl rfl) (fun _=>rfl)
 rw[if_neg g0]at hx;by_cases g1:x.op=1
 .rw[if_pos g1];exact pA hq hr rfl rfl rfl rfl A0
 rw[if_neg g1]at hx ⊢;by_cases g2:x.op=2
 .rw[if_pos g2];exact mL hq hr rfl rfl rfl (.inl rfl) (fun h=>by cases h)
 rw[if_neg g2]at hx ⊢;by_cases g3:x.op=3
 .rw[if_pos g3]at hx ⊢;simp only[Bool.and_eq_true]at hx;have hc:=gz hx.2;split
  .exact pA hq hr rfl rfl rfl rfl (.inr hc)
  .exact pA hq hr rfl rfl rfl rfl (.inl rfl)
 rw[if_neg g3]at hx ⊢;by_cases g4:x.op=4
 .rw[if_pos g4]at hx ⊢;simp only[Bool.and_eq_true]at hx;have hb:=gz hx.1.2;exact mL hq (hr.set _ _ hb.1 (by omega)) rfl rfl rfl A0 (fun h=>by cases h)
 rw[if_neg g4]at hx ⊢;by_cases g5:x.op=5
 .rw[if_pos g5];have hg:=hr.get x.a;exact mL hq (hr.set _ _ (by split <;> omega) (by split <;> omega)) rfl rfl rfl A0 (fun h=>by cases h)
 rw[if_neg g5]at hx ⊢;by_cases g6:x.op=6
 .rw[if_pos g6];exact pA hq hr rfl rfl rfl rfl (.inl rfl)
 rw[if_neg g6]at hx ⊢;by_cases g7:x.op=7
 .rw[if_pos g7]at hx ⊢;simp only[Bool.and_eq_true]at hx;have hc:=gz hx.2;have hg:=hr.get x.a;split
  .refine mL hq (hr.set _ _ (by omega) (by omega)) rfl rfl rfl ?_ (fun h=>by cases h);split
   .exact .inr hc
   .exact A0
  .exact mL hq hr rfl rfl rfl A0 (fun h=>by cases h)
 rw[if_neg g7]at hx ⊢;by_cases g8:x.op=8
 .rw[if_pos g8]at hx ⊢;simp only[Bool.and_eq_true]at hx;have hc:=gz hx.2;exact mL hq hr rfl rfl rfl (.inr hc) (fun h=>by cases h)
 rw[if_neg g8]at hx;cases hx
def iR (now:Int)(cs:List am)(yes:Bool)(q:List aj)(p:Pr):List aj×Pr×Bool:=
 if yes then df now cs 10000 p.tow q {p with num:=0}
 else if 0<p.num then df now cs 10000 p.els (dr q p.id p.num) {p with num:=0}
 else df now cs 10000 p.els q {p with num:=0}
theorem Ey:∀ (L:List (Nat×Int))(id:Int)(k:Nat)(hk:k<L.length),(∀ x∈L.take k,¬ x.2=id)->L[k].2=id->L.find? (fun x=>x.2==id)=some L[k]:=by
 intro L;induction L with
 | nil=>intro id k hk;simp at hk
 | cons y r ih=>
  intro id k hk h hm;cases k with
  | zero=>
   have hy:y.2=id:=hm;rw[List.find?_cons_of_pos (by simpa using hy)];rfl
  | succ k=>
   have hy:¬ y.2=id:=h y (by simp);rw[List.find?_cons_of_neg (by simpa using hy)];exact ih id k (by simpa using hk) (fun x hx=>h x (by simp[hx])) (by simpa using hm)
def lf (en:Int)(o:Option (Nat×Int))(x:Nat×Int):Option (Nat×Int):=
 if x.2<=en then (match o with|none=>some x|some b=>if x.2<b.2 then some x else some b) else o
def ju (en:Int)(L:List (Nat×Int)):Option (Nat×Int):=L.foldl (lf en) none
theorem Df {en:Int}{L:List (Nat×Int)}{k:Nat}(hk:k<L.length):ju en (L.take (k+1))=lf en (ju en (L.take k)) L[k]:=by
 unfold ju;rw[Qd hk,List.foldl_append];rfl
def lj (n:Int)(p:Pr):Prop:=0<=p.tow/\p.tow<=n/\0<=p.els/\p.els<=n
structure lp (n now:Int)(r:List aj×Pr×Int×Bool):Prop where
 pcs:lj n r.2.1
 stop:r.2.2.1=-1->r.2.2.2=false->now<r.2.1.til/\r.2.1.til<=now+1000000
theorem wl (q:List aj)(p:Pr)(key n:Int)(h:lj n p):lj n (aB q p key).2.1:=by
 unfold aB;split
 .exact h
 .exact h
theorem Ec {n:Int}{now:Int}{x:am}{pc:Int}{q:List aj}{p:Pr}(hx:ct n x=true)(h0:0<=pc)(h1:pc<n)(hr:bI p)(hp:lj n p):lp n now (dA now x pc q p):=by
 unfold ct at hx;unfold dA;by_cases g0:x.op=0
 .rw[if_neg (by omega),if_neg (by omega),if_neg (by omega),if_neg (by omega),if_neg (by omega),if_neg (by omega),if_neg (by omega),if_neg (by omega)];exact⟨hp,fun _ h=>by cases h⟩
 rw[if_neg g0]at hx;by_cases g1:x.op=1
 .rw[if_pos g1];exact⟨wl _ _ _ _ hp,fun h=>by simp only at h;omega⟩
 rw[if_neg g1]at hx ⊢;by_cases g2:x.op=2
 .rw[if_pos g2]at hx ⊢;simp only[Bool.and_eq_true]at hx;have ha:=gz hx.1.1;exact⟨⟨hp.1,hp.2.1,by simp only;omega,by simp only;omega⟩,fun _ _=>⟨by simp only[dY];omega,by simp only[dY];omega⟩⟩
 rw[if_neg g2]at hx ⊢;by_cases g3:x.op=3
 .rw[if_pos g3]at hx ⊢;simp only[Bool.and_eq_true]at hx;have hb:=gz hx.1.2;have hc:=gz hx.2;split
  .exact⟨wl _ _ _ _ hp,fun h=>by simp only at h;omega⟩
  .exact⟨⟨by simp only;omega,by simp only;omega,hc.1,hc.2⟩,fun _ _=>⟨by simp only[dY];omega,by simp only[dY];omega⟩⟩
 rw[if_neg g3]at hx ⊢;by_cases g4:x.op=4
 .rw[if_pos g4];exact⟨hp,fun h=>by simp only at h;omega⟩
 rw[if_neg g4]at hx ⊢;by_cases g5:x.op=5
 .rw[if_pos g5];exact⟨hp,fun h=>by simp only at h;omega⟩
 rw[if_neg g5]at hx ⊢;by_cases g6:x.op=6
 .rw[if_pos g6]at hx ⊢;simp only[Bool.and_eq_true]at hx;have hc:=gz hx.2;have hg:=hr.get x.b;have hm:1<=cu 1 (cw p x.b)/\cu 1 (cw p x.b)<=1000000:=by
   unfold cu;split
   .omega
   .omega
  exact⟨⟨hc.1,hc.2,by simp only;omega,by simp only;omega⟩,fun _ _=>⟨by simp only[dY];omega,by simp only[dY];omega⟩⟩
 rw[if_neg g6]at hx ⊢;by_cases g7:x.op=7
 .rw[if_pos g7]at hx ⊢;simp only[Bool.and_eq_true]at hx;have hc:=gz hx.2;split
  .refine⟨hp,fun h=>?_⟩;simp only at h;split at h
   .omega
   .omega
  .exact⟨hp,fun h=>by simp only at h;omega⟩
 rw[if_neg g7]at hx ⊢;by_cases g8:x.op=8
 .rw[if_pos g8]at hx ⊢;simp only[Bool.and_eq_true]at hx;have hc:=gz hx.2;exact⟨hp,fun h=>by simp only at h;omega⟩
 rw[if_neg g8]at hx;cases hx
structure jz (n now:Int)(f:Nat)(p:Pr)(r:List aj×Pr×Bool):Prop where
 regs:bI r.2.1
 pcs:lj n r.2.1
 id:r.2.1.id=p.id
 dev:r.2.1.dev=p.dev
 sent0:p.sent<=r.2.1.sent
 sent1:r.2.1.sent<=p.sent+f
 len:r.1.length<=4
 stop:r.2.2=false->now<r.2.1.til/\r.2.1.til<=now+1000000
theorem xF {now:Int}{cs:List am}(hall:∀ x∈cs,ct cs.length x=true):∀ (f:Nat) (pc:Int) (q:List aj) (p:Pr),0<=pc->bI p->lj cs.length p->q.length<=4->jz cs.length now f p (df now cs f pc q p):=by
 intro f;induction f with
 | zero=>
  intro pc q p _ hr hp hq;rw[df];exact⟨hr,hp,rfl,rfl,Int.le_refl _,by simp only;omega,hq,fun h=>by cases h⟩
 | succ f ih=>
  intro pc q p h0 hr hp hq;rw[df];split
  .next hlt=>
   have k1:=xy (now:=now) (hall _ (Qb hlt)) h0 (by omega) hr hq;have k2:=Ec (now:=now) (q:=q) (hall _ (Qb hlt)) h0 (by omega) hr hp;have s0:=k1.sent0;have s1:=k1.sent1;split
   .next hneg=>
    refine⟨k1.regs,k2.pcs,k1.id,k1.dev,s0,by simp only;omega,k1.len,fun hd=>?_⟩;rcases k1.pc with h|h
    .exact k2.stop h hd
    .omega
   .next hneg=>
    have A0:0<=(dA now cs[pc.toNat] pc q p).2.2.1:=by omega
    have k3:=ih _ (dA now cs[pc.toNat] pc q p).1 (dA now cs[pc.toNat] pc q p).2.1 A0 k1.regs k2.pcs k1.len;have t0:=k3.sent0;have t1:=k3.sent1;exact⟨k3.regs,k3.pcs,k3.id.trans k1.id,k3.dev.trans k1.dev,by omega,by omega,k3.len,k3.stop⟩
  .exact⟨hr,hp,rfl,rfl,Int.le_refl _,by simp only;omega,hq,fun h=>by cases h⟩
theorem GZ {now:Int}{cs:List am}(hall:∀ x∈cs,ct cs.length x=true)(yes:Bool)(q:List aj)(p:Pr)(hr:bI p)(hp:lj cs.length p)(hq:q.length<=4):jz cs.length now 10000 p (iR now cs yes q p):=by
 have key:∀ (pc:Int) (q':List aj),0<=pc->q'.length<=4->jz cs.length now 10000 p (df now cs 10000 pc q' {p with num:=0}):=fun pc q' h0 hq'=>by
  have k:=xF (now:=now) hall 10000 pc q' {p with num:=0} h0 hr hp hq';exact⟨k.regs,k.pcs,k.id,k.dev,k.sent0,k.sent1,k.len,k.stop⟩
 unfold iR;split
 .exact key _ _ hp.1 hq
 .split
  .exact key _ _ hp.2.2.1 (Qc (List.length_filter_le _ _) hq)
  .exact key _ _ hp.2.2.1 hq
theorem ER {now:Int}{cs:List am}{f:Nat}{pc:Int}{q:List aj}{p:Pr}(h:¬ pc.toNat<cs.length):df now cs (f+1) pc q p=(q,p,true):=by rw[df,dif_neg h]
theorem Eg (q:List aj)(id num:Int):(dr q id num).length<=q.length:=List.length_filter_le _ _
end Go.Proofs.Herald
namespace Go.Proofs.YtmmmnghiegajmaaGreat
theorem rG (a:Option Addr)(b off cap:Nat)(cs:List am)(w:World)(hc:aH w a b off cs):
  Calls prog 18 #[.slice a cs.length cap] w fun e w'=>e=.returned (.bool (em cs))/\Below w.heap.size w w':=by
 rcases Nat.lt_or_ge 1000 cs.length with hl|hl
 .have HS:Hid (em cs=false):=nz hl;go_enter func18,ntmps18
  go_wp2_with fail
  go_ret;exact⟨dX HS.out.symm,v7 _ _⟩
 .have HS:Hid (em cs=cs.all (ct cs.length)):=rj hl;have HC:=ah hc;clear hc;go_enter func18,ntmps18
  go_wp2_with fail
  go_loopw [3] (fun i wr=>∃ k:Nat,k<=cs.length/\i=.int .i64 k/\Hid (Below w.heap.size w wr)/\Hid ((cs.take k).all (ct cs.length)=true)) (fun i _=>cs.length - (intOf i).toNat)
  case atStart=>exact⟨0,Qa _,rfl,v7 _ _,by show _=_;simp⟩
  case round=>
   obtain⟨k,hk,rfl,HB,HT⟩:=hrel;by_cases hlt:k<cs.length
   .obtain⟨rfl,A3,A4⟩:=HC (by omega);obtain⟨c0,c1,c2,c3⟩:=(A4.keep (HB.block b A3)).get k hlt;have A1:Hid (ct cs.length cs[k]=true->(cs.take (k+1)).all (ct cs.length)=true):=fun h=>tZ _ cs k hlt HT h;have A0:Hid (ct cs.length cs[k]=false->cs.all (ct cs.length)=false):=fun h=>xB _ cs k hlt h;have A2:Hid (∀ o,Below w.heap.size w (wr.alloc o)):=fun o=>HB.alloc HB.size o;obtain⟨x,hx⟩:∃ x,x=cs[k]:=⟨_,rfl⟩;rw[<- hx]at c0 c1 c2 c3 A1 A0;clear hx A4 HC HB;obtain⟨op,xa,xb,xc⟩:=x;simp only[]at c0 c1 c2 c3;by_cases h0:op=0
    .subst h0;have hs:ct cs.length ⟨0,xa,xb,xc⟩=((xa==0) && (xb==0) && (xc==0)):=rfl;rw[hs]at A1 A0;clear hs;rcases iB (xa==0) (xb==0) (xc==0) with ⟨hr,g1⟩|⟨hr,g1,g2⟩|⟨hr,g1,g2,g3⟩|⟨hr,g1,g2,g3⟩;iterate 3
      .have HF:Hid (_=_):=A0 hr;clear hr A1 A0;go_wp2_with (go_at_call 50;refine(fp _ _ _ _).mono ?_;rintro e w' ⟨rfl,rfl⟩)
       go_ret;exact⟨dX (by rw[HS.out];exact HF.symm),A2 _⟩
     .have HF:Hid (_=_):=A1 hr;clear hr A1 A0;go_wp2_with (go_at_call 50;refine(fp _ _ _ _).mono ?_;rintro e w' ⟨rfl,rfl⟩)
      go_roundw;case rel=>exact⟨k+1,by omega,by go_num,A2.out _,HF⟩
      case measure=>simp[intOf];omega
    by_cases h1:op=1
    .subst h1;have hs:ct cs.length ⟨1,xa,xb,xc⟩=((bd xa 0 7) && (xb==0) && (xc==0)):=rfl;rw[hs]at A1 A0;clear hs;rcases iB (bd xa 0 7) (xb==0) (xc==0) with ⟨hr,g1⟩|⟨hr,g1,g2⟩|⟨hr,g1,g2,g3⟩|⟨hr,g1,g2,g3⟩;iterate 3
      .have HF:Hid (_=_):=A0 hr;clear hr A1 A0;go_wp2_with (go_at_call 50;refine(fp _ _ _ _).mono ?_;rintro e w' ⟨rfl,rfl⟩)
       go_ret;exact⟨dX (by rw[HS.out];exact HF.symm),A2 _⟩
     .have HF:Hid (_=_):=A1 hr;clear hr A1 A0;go_wp2_with (go_at_call 50;refine(fp _ _ _ _).mono ?_;rintro e w' ⟨rfl,rfl⟩)
      go_roundw;case rel=>exact⟨k+1,by omega,by go_num,A2.out _,HF⟩
      case measure=>simp[intOf];omega
    by_cases h2:op=2
    .subst h2;have hs:ct cs.length ⟨2,xa,xb,xc⟩=((bd xa 1 999) && (xb==0) && (xc==0)):=rfl;rw[hs]at A1 A0;clear hs;rcases iB (bd xa 1 999) (xb==0) (xc==0) with ⟨hr,g1⟩|⟨hr,g1,g2⟩|⟨hr,g1,g2,g3⟩|⟨hr,g1,g2,g3⟩;iterate 3
      .have HF:Hid (_=_):=A0 hr;clear hr A1 A0;go_wp2_with (go_at_call 50;refine(fp _ _ _ _).mono ?_;rintro e w' ⟨rfl,rfl⟩)
       go_ret;exact⟨dX (by rw[HS.out];exact HF.symm),A2 _⟩
     .have HF:Hid (_=_):=A1 hr;clear hr A1 A0;go_wp2_with (go_at_call 50;refine(fp _ _ _ _).mono ?_;rintro e w' ⟨rfl,rfl⟩)
      go_roundw;case rel=>exact⟨k+1,by omega,by go_num,A2.out _,HF⟩
      case measure=>simp[intOf];omega
    by_cases h3:op=3
    .subst h3;have hs:ct cs.length ⟨3,xa,xb,xc⟩=((bd xa 0 7) && (bd xb 1 999) && (bd xc 0 cs.length)):=rfl;rw[hs]at A1 A0;clear hs;rcases iB (bd xa 0 7) (bd xb 1 999) (bd xc 0 cs.length) with ⟨hr,g1⟩|⟨hr,g1,g2⟩|⟨hr,g1,g2,g3⟩|⟨hr,g1,g2,g3⟩;iterate 3
      .have HF:Hid (_=_):=A0 hr;clear hr A1 A0;go_wp2_with (go_at_call 50;refine(fp _ _ _ _).mono ?_;rintro e w' ⟨rfl,rfl⟩)
       go_ret;exact⟨dX (by rw[HS.out];exact HF.symm),A2 _⟩
     .have HF:Hid (_=_):=A1 hr;clear hr A1 A0;go_wp2_with (go_at_call 50;refine(fp _ _ _ _).mono ?_;rintro e w' ⟨rfl,rfl⟩)
      go_roundw;case rel=>exact⟨k+1,by omega,by go_num,A2.out _,HF⟩
      case measure=>simp[intOf];omega
    by_cases h4:op=4
    .subst h4;have hs:ct cs.length ⟨4,xa,xb,xc⟩=((bd xa 0 11) && (bd xb 0 999) && (xc==0)):=rfl;rw[hs]at A1 A0;clear hs;rcases iB (bd xa 0 11) (bd xb 0 999) (xc==0) with ⟨hr,g1⟩|⟨hr,g1,g2⟩|⟨hr,g1,g2,g3⟩|⟨hr,g1,g2,g3⟩;iterate 3
      .have HF:Hid (_=_):=A0 hr;clear hr A1 A0;go_wp2_with (go_at_call 50;refine(fp _ _ _ _).mono ?_;rintro e w' ⟨rfl,rfl⟩)
       go_ret;exact⟨dX (by rw[HS.out];exact HF.symm),A2 _⟩
     .have HF:Hid (_=_):=A1 hr;clear hr A1 A0;go_wp2_with (go_at_call 50;refine(fp _ _ _ _).mono ?_;rintro e w' ⟨rfl,rfl⟩)
      go_roundw;case rel=>exact⟨k+1,by omega,by go_num,A2.out _,HF⟩
      case measure=>simp[intOf];omega
    by_cases h5:op=5
    .subst h5;have hs:ct cs.length ⟨5,xa,xb,xc⟩=((bd xa 0 11) && (xb==0) && (xc==0)):=rfl;rw[hs]at A1 A0;clear hs;rcases iB (bd xa 0 11) (xb==0) (xc==0) with ⟨hr,g1⟩|⟨hr,g1,g2⟩|⟨hr,g1,g2,g3⟩|⟨hr,g1,g2,g3⟩;iterate 3
      .have HF:Hid (_=_):=A0 hr;clear hr A1 A0;go_wp2_with (go_at_call 50;refine(fp _ _ _ _).mono ?_;rintro e w' ⟨rfl,rfl⟩)
       go_ret;exact⟨dX (by rw[HS.out];exact HF.symm),A2 _⟩
     .have HF:Hid (_=_):=A1 hr;clear hr A1 A0;go_wp2_with (go_at_call 50;refine(fp _ _ _ _).mono ?_;rintro e w' ⟨rfl,rfl⟩)
      go_roundw;case rel=>exact⟨k+1,by omega,by go_num,A2.out _,HF⟩
      case measure=>simp[intOf];omega
    by_cases h6:op=6
    .subst h6;have hs:ct cs.length ⟨6,xa,xb,xc⟩=((bd xa 0 7) && (bd xb 0 11) && (bd xc 0 cs.length)):=rfl;rw[hs]at A1 A0;clear hs;rcases iB (bd xa 0 7) (bd xb 0 11) (bd xc 0 cs.length) with ⟨hr,g1⟩|⟨hr,g1,g2⟩|⟨hr,g1,g2,g3⟩|⟨hr,g1,g2,g3⟩;iterate 3
      .have HF:Hid (_=_):=A0 hr;clear hr A1 A0;go_wp2_with (go_at_call 50;refine(fp _ _ _ _).mono ?_;rintro e w' ⟨rfl,rfl⟩)
       go_ret;exact⟨dX (by rw[HS.out];exact HF.symm),A2 _⟩
     .have HF:Hid (_=_):=A1 hr;clear hr A1 A0;go_wp2_with (go_at_call 50;refine(fp _ _ _ _).mono ?_;rintro e w' ⟨rfl,rfl⟩)
      go_roundw;case rel=>exact⟨k+1,by omega,by go_num,A2.out _,HF⟩
      case measure=>simp[intOf];omega
    by_cases h7:op=7
    .subst h7;have hs:ct cs.length ⟨7,xa,xb,xc⟩=((bd xa 0 11) && (xb==0) && (bd xc 0 cs.length)):=rfl;rw[hs]at A1 A0;clear hs;rcases iB (bd xa 0 11) (xb==0) (bd xc 0 cs.length) with ⟨hr,g1⟩|⟨hr,g1,g2⟩|⟨hr,g1,g2,g3⟩|⟨hr,g1,g2,g3⟩;iterate 3
      .have HF:Hid (_=_):=A0 hr;clear hr A1 A0;go_wp2_with (go_at_call 50;refine(fp _ _ _ _).mono ?_;rintro e w' ⟨rfl,rfl⟩)
       go_ret;exact⟨dX (by rw[HS.out];exact HF.symm),A2 _⟩
     .have HF:Hid (_=_):=A1 hr;clear hr A1 A0;go_wp2_with (go_at_call 50;refine(fp _ _ _ _).mono ?_;rintro e w' ⟨rfl,rfl⟩)
      go_roundw;case rel=>exact⟨k+1,by omega,by go_num,A2.out _,HF⟩
      case measure=>simp[intOf];omega
    by_cases h8:op=8
    .subst h8;have hs:ct cs.length ⟨8,xa,xb,xc⟩=((xa==0) && (xb==0) && (bd xc 0 cs.length)):=rfl;rw[hs]at A1 A0;clear hs;rcases iB (xa==0) (xb==0) (bd xc 0 cs.length) with ⟨hr,g1⟩|⟨hr,g1,g2⟩|⟨hr,g1,g2,g3⟩|⟨hr,g1,g2,g3⟩;iterate 3
      .have HF:Hid (_=_):=A0 hr;clear hr A1 A0;go_wp2_with (go_at_call 50;refine(fp _ _ _ _).mono ?_;rintro e w' ⟨rfl,rfl⟩)
       go_ret;exact⟨dX (by rw[HS.out];exact HF.symm),A2 _⟩
     .have HF:Hid (_=_):=A1 hr;clear hr A1 A0;go_wp2_with (go_at_call 50;refine(fp _ _ _ _).mono ?_;rintro e w' ⟨rfl,rfl⟩)
      go_roundw;case rel=>exact⟨k+1,by omega,by go_num,A2.out _,HF⟩
      case measure=>simp[intOf];omega
    have hs:ct cs.length ⟨op,xa,xb,xc⟩=false:=by unfold ct;simp only[h0,h1,h2,h3,h4,h5,h6,h7,h8,if_false]
    have HF:Hid (_=_):=A0 hs;have e0:(op==0)=false:=by simpa using h0
    have e1:(op==1)=false:=by simpa using h1
    have e2:(op==2)=false:=by simpa using h2
    have e3:(op==3)=false:=by simpa using h3
    have e4:(op==4)=false:=by simpa using h4
    have e5:(op==5)=false:=by simpa using h5
    have e6:(op==6)=false:=by simpa using h6
    have e7:(op==7)=false:=by simpa using h7
    have e8:(op==8)=false:=by simpa using h8
    clear h0 h1 h2 h3 h4 h5 h6 h7 h8 hs A1 A0;go_wp2_with (go_at_call 50;refine(fp _ _ _ _).mono ?_;rintro e w' ⟨rfl,rfl⟩)
    go_ret;exact⟨dX (by rw[HS.out];exact HF.symm),A2 _⟩
   .have HE:Hid (cs.take k=cs):=Qe (by omega);go_wp2_with fail
    go_ret;exact⟨dX (by rw[HS.out];have h:=HT.out;rw[HE]at h;exact h.symm),HB⟩
end Go.Proofs.YtmmmnghiegajmaaGreat
