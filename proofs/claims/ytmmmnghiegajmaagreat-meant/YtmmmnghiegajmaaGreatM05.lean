import Derived.Test.YtmmmnghiegajmaaGreatProg
import Derived.Test.YtmmmnghiegajmaaGreatM04
import Derived.WalkKit
import Derived.WalkSpells
import Derived.WalkLawsBesides
import Derived.Test.YtmmmnghiegajmaaGreatM01
set_option maxHeartbeats 2000000
namespace Go.Proofs.YtmmmnghiegajmaaGreat
open Go.RowKit Go.Proofs.Herald
theorem zaV {k:IntKind}{a b:Int}(h:a=b):Ending.returned (.int k a)=.returned (.int k b):=by rw [h]
theorem zdK (a b:Int)(w:World):
  Calls Tryz.prog 27 #[.int .i64 a,.int .i64 b] w fun e w'=>e=.returned (.int .i64 (zcy a b))/\w'=w:=by
 by_cases h:b<a
 .go_enter Tryz.func27,Tryz.ntmps27
  go_wp2
  go_ret
  exact ⟨zaV (by simp [zcy,h]),rfl⟩
 .have h':a<=b:=by omega
  go_enter Tryz.func27,Tryz.ntmps27
  go_wp2
  go_ret
  exact ⟨zaV (by rw [zcy,if_neg (by omega)]),rfl⟩
theorem zix (s:Int)(w:World):
  Calls Tryz.prog 53 #[.int .i64 s] w fun e w'=>e=.returned (.int .i64 (zkE s))/\w'=w:=by
 by_cases h:s=4
 .subst h
  go_enter Tryz.func53,Tryz.ntmps53
  go_wp2
  go_ret
  exact ⟨rfl,rfl⟩
 .by_cases h2:s=5
  .subst h2
   go_enter Tryz.func53,Tryz.ntmps53
   go_wp2
   go_ret
   exact ⟨rfl,rfl⟩
  .have hb:(s==4)=false:=by simp [h]
   have hb2:(s==5)=false:=by simp [h2]
   go_enter Tryz.func53,Tryz.ntmps53
   go_wp2
   go_ret
   exact ⟨zaV (by simp [zkE,h,h2]),rfl⟩
theorem zem (s:ByteArray)(w:World):
  Calls Tryz.prog 54 #[.string s] w fun e w'=>e=.returned (.int .i64 (zcx s.data.toList))/\w'=w:=by
 by_cases h1:s.size=1
 .have hp:0<s.size:=by omega
  have hk:=zlm s h1 hp
  have HK:=zHd hk
  clear hk
  go_enter Tryz.func54,Tryz.ntmps54
  go_wp2
  all_goals
   go_ret
   exact ⟨zaV (by have:=(s[0]'hp).toNat_lt;rw [HK.out];split <;> omega),rfl⟩
 .have hk:=zll s h1
  have HK:=zHd hk
  clear hk
  go_enter Tryz.func54,Tryz.ntmps54
  go_wp2
  go_ret
  exact ⟨zaV HK.out.symm,rfl⟩
theorem zks (s:ByteArray)(h:s.size=0):s.toList.isEmpty=true:=by
 rw [ByteArray.toList_eq,List.isEmpty_iff,<- List.length_eq_zero_iff];simpa using h
theorem zme (s:ByteArray)(h:¬ s.size=0):s.toList.isEmpty=false:=by
 rw [ByteArray.toList_eq,List.isEmpty_eq_false_iff,ne_eq,<- List.length_eq_zero_iff];simpa using h
theorem zdy (s:ByteArray)(w:World)(hs:s.size<=maxLen):
  Calls Tryz.prog 52 #[.string s] w fun e w'=>e=.returned (.int .i64 (zbx s.data.toList))/\w'=w:=by
 unfold maxLen at hs
 by_cases h0:s.size=0
 .have HK:Hid (zbx s.data.toList=-1):=zfS s (.inl h0)
  have he:s.toList.isEmpty=true:=zks s h0
  go_enter Tryz.func52,Tryz.ntmps52
  go_wp2
  go_ret
  exact ⟨zaV HK.out.symm,rfl⟩
 .have he:s.toList.isEmpty=false:=zme s h0
  by_cases h4:4<s.size
  .have HK:Hid (zbx s.data.toList=-1):=zfS s (.inr h4)
   go_enter Tryz.func52,Tryz.ntmps52
   go_wp2
   go_ret
   exact ⟨zaV HK.out.symm,rfl⟩
  .have HK:Hid (zbx s.data.toList=(zf7 0 s.data.toList).getD (-1)):=zic s h0 (by omega)
   have h4':s.size<=4:=by omega
   clear h4
   go_enter Tryz.func52,Tryz.ntmps52
   go_wp2
   go_loop [3,4] (fun n i=>∃ (k:Nat) (m:Int),k<=s.size/\i=.int .i64 k/\n=.int .i64 m/\zf7 0 (s.data.toList.take k)=some m) (fun _ i=>s.size - (intOf i).toNat)
   case atStart=>exact ⟨0,0,Nat.zero_le _,rfl,rfl,rfl⟩
   case round=>
    obtain ⟨k,m,hk,rfl,rfl,hm⟩:=hrel
    have HM:=zHd hm
    have hmb:=zeK s k (by omega) m hm
    clear hm
    by_cases hlt:k<s.size
    .by_cases hc:((s[k]).toNat:Int)<48\/57<((s[k]).toNat:Int)
     .have HN:Hid (zf7 0 s.data.toList=none):=zna s k hlt m HM.out hc
      rcases hc with hc|hc
      all_goals
       go_wp2
       go_ret
       exact ⟨zaV (by rw [HK.out,HN.out];rfl),rfl⟩
     .have h1:(48:Int)<=((s[k]).toNat:Int):=by omega
      have h2:((s[k]).toNat:Int)<=57:=by omega
      have HY:Hid (zf7 0 (s.data.toList.take (k+1))=some (10*m+(((s[k]).toNat:Int) - 48))):=zlb s k hlt m HM.out h1 h2
      clear hc
      go_wp2
      go_round
      case rel=>exact ⟨k+1,10*m+(((s[k]).toNat:Int) - 48),by omega,by go_num,by go_num,HY.out⟩
      case measure=>simp [intOf];omega
    .have HE:Hid (s.data.toList.take k=s.data.toList):=List.take_of_length_le (by simp;omega)
     go_wp2
     go_ret
     exact ⟨zaV (by rw [HK.out,<- HE.out,HM.out];rfl),rfl⟩
open Go.RowKit Go.Proofs.Herald
def zf4 (t:ByteArray)(p:Nat×Nat):List Value:=[.string (t.extract p.1 p.2),.int .i64 p.1]
def zbz (t:ByteArray)(l:List (Nat×Nat)):List Value:=l.flatMap (zf4 t)
theorem Tryz.infoWord:(Tryz.prog.info? 129).map (fun i=>(i.zero,i.size,i.bytes))=some (some (.agg #[.string ByteArray.empty,.int .i64 0]),2,24):=by kernel_rfl
theorem zdb (t:ByteArray)(l:List (Nat×Nat))(p:Nat×Nat):zbz t (l++[p])=zbz t l++[.string (t.extract p.1 p.2),.int .i64 p.1]:=by
 simp [zbz,zf4]
theorem zdm (a:ByteArray)(b:Int):∀ u∈[Value.string a,Value.int .i64 b],u.oneCell'=true:=by
 intro u hu;simp at hu;rcases hu with rfl|rfl <;> rfl
def WordsInv (t:ByteArray)(w:World)(k:Nat)(l:List (Nat×Nat))(g:Option Nat)(v:Value)(wr:World):Prop:=
 k<=t.size+1/\(∀ b,g=some b->b<k/\k<=t.size)/\(k<=t.size->l++zbE k g (t.data.toList.drop k)=za2 t.data.toList)/\(k=t.size+1->l=za2 t.data.toList) /\
   wr.ownsRow w.heap.size 129 2 v l.length (zbz t l)/\Below w.heap.size w wr
theorem WordsInv.push {t:ByteArray}{w:World}{l:List (Nat×Nat)}{v:Value}{wr:World}(p:Nat×Nat)
  (h:wr.ownsRow w.heap.size 129 2 v (l.length+1) (zbz t l++[.string (t.extract p.1 p.2),.int .i64 p.1])):
  wr.ownsRow w.heap.size 129 2 v (l++[p]).length (zbz t (l++[p])):=by
 rw [zdb];simpa using h
theorem WordsInv.short {t:ByteArray}{k:Nat}{l:List (Nat×Nat)}{g:Option Nat}(h:l++zbE k g (t.data.toList.drop k)=za2 t.data.toList):l.length<=t.size:=by
 have h1:=zbr t.data.toList
 rw [<- h] at h1
 simp at h1
 omega
theorem zmP (t:ByteArray)(w:World)(ht:t.size<=400):
  Calls Tryz.prog 22 #[.string t] w fun e w'=>∃ v,e=.returned v /\
   w'.ownsRow w.heap.size 129 2 v (za2 t.data.toList).length (zbz t (za2 t.data.toList))/\Below w.heap.size w w':=by
 go_enter Tryz.func22,Tryz.ntmps22
 go_wp2
 go_loopw [3,4,5] (fun v f i wr=>∃ (k:Nat) (l:List (Nat×Nat)) (g:Option Nat),i=.int .i64 k/\f=.int .i64 (zpG g)/\WordsInv t w k l g v wr)
  (fun _ _ i _=>t.size+1 - (intOf i).toNat)
 case atStart=>exact ⟨0,[],none,rfl,rfl,by omega,by simp,fun _=>rfl,by omega,World.ownsRow_nil _ _ _ _,Below.refl _ _⟩
 case round=>
  obtain ⟨k,l,g,rfl,rfl,hk,hg,hl,hend,hown,hbel⟩:=hrel
  by_cases hle:k<=t.size
  .have HL:Hid (l++zbE k g (t.data.toList.drop k)=za2 t.data.toList):=hl hle
   have hll:l.length<=t.size:=WordsInv.short (hl hle)
   have hbs:w.heap.size<=wr.heap.size:=hbel.size
   clear hl hend
   by_cases hlt:k<t.size
   .by_cases h1:((t[k]).toNat:Int)=123\/((t[k]).toNat:Int)=125
    .have HS:Hid (zbE k g (t.data.toList.drop k)=zcH g k++(k,k+1)::zbE (k+1) none (t.data.toList.drop (k+1))):=zkT t k hlt g h1
     cases g with
     | none=>
      simp only [zfa]
      clear hg
      rcases h1 with h1|h1
      .have a1:(((t[k]).toNat:Int)==123)=true:=by simp [h1]
       clear h1
       go_wp2_with (at_builtin;refine zbI wr w rfl (.tmp 48) (.tmp 56) 69 rfl 129 _ 2 24 Tryz.underlying69 Tryz.infoWord rfl (by decide) (by decide) w.heap.size _ _ _ (by rfl) hown [.string (t.extract k (k+1)),.int .i64 k] (by rfl) rfl (zdm _ _) (by omega) hbel (by omega) ?_)
       intro v1 w1 hown1 hb1 hs1 hg1
       go_wp2
       go_roundw
       case rel=>exact ⟨k+1,l++[(k,k+1)],none,by go_num,rfl,by omega,by simp,fun _=>by have:=HL.out;rw [HS.out] at this;simpa [zcH] using this,fun h=>by omega,WordsInv.push (k,k+1) hown1,hb1⟩
       case measure=>simp [intOf];omega
      .have a1:(((t[k]).toNat:Int)==123)=false:=by simp [h1]
       have a2:(((t[k]).toNat:Int)==125)=true:=by simp [h1]
       clear h1
       go_wp2_with (at_builtin;refine zbI wr w rfl (.tmp 48) (.tmp 56) 69 rfl 129 _ 2 24 Tryz.underlying69 Tryz.infoWord rfl (by decide) (by decide) w.heap.size _ _ _ (by rfl) hown [.string (t.extract k (k+1)),.int .i64 k] (by rfl) rfl (zdm _ _) (by omega) hbel (by omega) ?_)
       intro v1 w1 hown1 hb1 hs1 hg1
       go_wp2
       go_roundw
       case rel=>exact ⟨k+1,l++[(k,k+1)],none,by go_num,rfl,by omega,by simp,fun _=>by have:=HL.out;rw [HS.out] at this;simpa [zcH] using this,fun h=>by omega,WordsInv.push (k,k+1) hown1,hb1⟩
       case measure=>simp [intOf];omega
     | some b=>
      simp only [zfb]
      obtain ⟨hgb,hgk⟩:=hg b rfl
      clear hg
      rcases h1 with h1|h1
      .have a1:(((t[k]).toNat:Int)==123)=true:=by simp [h1]
       clear h1
       go_wp2_with (at_builtin;refine zbI wr w rfl (.tmp 38) (.tmp 45) 69 rfl 129 _ 2 24 Tryz.underlying69 Tryz.infoWord rfl (by decide) (by decide) w.heap.size _ _ _ (by rfl) hown [.string (t.extract b k),.int .i64 b] (by rfl) rfl (zdm _ _) (by omega) hbel (by omega) ?_)
       intro v1 w1 hown1 hb1 hs1 hg1
       go_wp2_with (at_builtin;refine zbI w1 w rfl (.tmp 48) (.tmp 56) 69 rfl 129 _ 2 24 Tryz.underlying69 Tryz.infoWord rfl (by decide) (by decide) w.heap.size _ _ _ (by rfl) hown1 [.string (t.extract k (k+1)),.int .i64 k] (by rfl) rfl (zdm _ _) (by omega) hb1 (by omega) ?_)
       intro v2 w2 hown2 hb2 hs2 hg2
       go_wp2
       go_roundw
       case rel=>exact ⟨k+1,(l++[(b,k)])++[(k,k+1)],none,by go_num,rfl,by omega,by simp,fun _=>by have:=HL.out;rw [HS.out] at this;simpa [zcH] using this,fun h=>by omega,WordsInv.push (k,k+1) (by rw [List.length_append,zdb,List.append_assoc];exact hown2),hb2⟩
       case measure=>simp [intOf];omega
      .have a1:(((t[k]).toNat:Int)==123)=false:=by simp [h1]
       have a2:(((t[k]).toNat:Int)==125)=true:=by simp [h1]
       clear h1
       go_wp2_with (at_builtin;refine zbI wr w rfl (.tmp 38) (.tmp 45) 69 rfl 129 _ 2 24 Tryz.underlying69 Tryz.infoWord rfl (by decide) (by decide) w.heap.size _ _ _ (by rfl) hown [.string (t.extract b k),.int .i64 b] (by rfl) rfl (zdm _ _) (by omega) hbel (by omega) ?_)
       intro v1 w1 hown1 hb1 hs1 hg1
       go_wp2_with (at_builtin;refine zbI w1 w rfl (.tmp 48) (.tmp 56) 69 rfl 129 _ 2 24 Tryz.underlying69 Tryz.infoWord rfl (by decide) (by decide) w.heap.size _ _ _ (by rfl) hown1 [.string (t.extract k (k+1)),.int .i64 k] (by rfl) rfl (zdm _ _) (by omega) hb1 (by omega) ?_)
       intro v2 w2 hown2 hb2 hs2 hg2
       go_wp2
       go_roundw
       case rel=>exact ⟨k+1,(l++[(b,k)])++[(k,k+1)],none,by go_num,rfl,by omega,by simp,fun _=>by have:=HL.out;rw [HS.out] at this;simpa [zcH] using this,fun h=>by omega,WordsInv.push (k,k+1) (by rw [List.length_append,zdb,List.append_assoc];exact hown2),hb2⟩
       case measure=>simp [intOf];omega
    .by_cases h2:((t[k]).toNat:Int)=32\/((t[k]).toNat:Int)=10
     .have HS:Hid (zbE k g (t.data.toList.drop k)=zcH g k++zbE (k+1) none (t.data.toList.drop (k+1))):=znT t k hlt g h2
      cases g with
      | none=>
       simp only [zfa]
       clear hg
       rcases h2 with h2|h2
       .have a1:(((t[k]).toNat:Int)==123)=false:=by simp [h2]
        have a2:(((t[k]).toNat:Int)==125)=false:=by simp [h2]
        have a3:(((t[k]).toNat:Int)==32)=true:=by simp [h2]
        clear h1 h2
        go_wp2
        go_roundw
        case rel=>exact ⟨k+1,l,none,by go_num,rfl,by omega,by simp,fun _=>by have:=HL.out;rw [HS.out] at this;simpa [zcH] using this,fun h=>by omega,hown,hbel⟩
        case measure=>simp [intOf];omega
       .have a1:(((t[k]).toNat:Int)==123)=false:=by simp [h2]
        have a2:(((t[k]).toNat:Int)==125)=false:=by simp [h2]
        have a3:(((t[k]).toNat:Int)==32)=false:=by simp [h2]
        have a4:(((t[k]).toNat:Int)==10)=true:=by simp [h2]
        clear h1 h2
        go_wp2
        go_roundw
        case rel=>exact ⟨k+1,l,none,by go_num,rfl,by omega,by simp,fun _=>by have:=HL.out;rw [HS.out] at this;simpa [zcH] using this,fun h=>by omega,hown,hbel⟩
        case measure=>simp [intOf];omega
      | some b=>
       simp only [zfb]
       obtain ⟨hgb,hgk⟩:=hg b rfl
       clear hg
       rcases h2 with h2|h2
       .have a1:(((t[k]).toNat:Int)==123)=false:=by simp [h2]
        have a2:(((t[k]).toNat:Int)==125)=false:=by simp [h2]
        have a3:(((t[k]).toNat:Int)==32)=true:=by simp [h2]
        clear h1 h2
        go_wp2_with (at_builtin;refine zbI wr w rfl (.tmp 38) (.tmp 45) 69 rfl 129 _ 2 24 Tryz.underlying69 Tryz.infoWord rfl (by decide) (by decide) w.heap.size _ _ _ (by rfl) hown [.string (t.extract b k),.int .i64 b] (by rfl) rfl (zdm _ _) (by omega) hbel (by omega) ?_)
        intro v1 w1 hown1 hb1 hs1 hg1
        go_wp2
        go_roundw
        case rel=>exact ⟨k+1,l++[(b,k)],none,by go_num,rfl,by omega,by simp,fun _=>by have:=HL.out;rw [HS.out] at this;simpa [zcH] using this,fun h=>by omega,WordsInv.push (b,k) hown1,hb1⟩
        case measure=>simp [intOf];omega
       .have a1:(((t[k]).toNat:Int)==123)=false:=by simp [h2]
        have a2:(((t[k]).toNat:Int)==125)=false:=by simp [h2]
        have a3:(((t[k]).toNat:Int)==32)=false:=by simp [h2]
        have a4:(((t[k]).toNat:Int)==10)=true:=by simp [h2]
        clear h1 h2
        go_wp2_with (at_builtin;refine zbI wr w rfl (.tmp 38) (.tmp 45) 69 rfl 129 _ 2 24 Tryz.underlying69 Tryz.infoWord rfl (by decide) (by decide) w.heap.size _ _ _ (by rfl) hown [.string (t.extract b k),.int .i64 b] (by rfl) rfl (zdm _ _) (by omega) hbel (by omega) ?_)
        intro v1 w1 hown1 hb1 hs1 hg1
        go_wp2
        go_roundw
        case rel=>exact ⟨k+1,l++[(b,k)],none,by go_num,rfl,by omega,by simp,fun _=>by have:=HL.out;rw [HS.out] at this;simpa [zcH] using this,fun h=>by omega,WordsInv.push (b,k) hown1,hb1⟩
        case measure=>simp [intOf];omega
     .have HS:Hid (zbE k g (t.data.toList.drop k)=zbE (k+1) (some (g.getD k)) (t.data.toList.drop (k+1))):=zkU t k hlt g (by omega) (by omega) (by omega) (by omega)
      cases g with
      | none=>
       simp only [zfa]
       clear hg
       have a1:(((t[k]).toNat:Int)==123)=false:=by simp;omega
       have a2:(((t[k]).toNat:Int)==125)=false:=by simp;omega
       have a3:(((t[k]).toNat:Int)==32)=false:=by simp;omega
       have a4:(((t[k]).toNat:Int)==10)=false:=by simp;omega
       clear h1 h2
       go_wp2
       go_roundw
       case rel=>exact ⟨k+1,l,some k,by go_num,by go_num,by omega,by intro b hb;simp at hb;omega,fun _=>by have:=HL.out;rw [HS.out] at this;simpa using this,fun h=>by omega,hown,hbel⟩
       case measure=>simp [intOf];omega
      | some b=>
       simp only [zfb]
       obtain ⟨hgb,hgk⟩:=hg b rfl
       clear hg
       have a1:(((t[k]).toNat:Int)==123)=false:=by simp;omega
       have a2:(((t[k]).toNat:Int)==125)=false:=by simp;omega
       have a3:(((t[k]).toNat:Int)==32)=false:=by simp;omega
       have a4:(((t[k]).toNat:Int)==10)=false:=by simp;omega
       clear h1 h2
       go_wp2
       go_roundw
       case rel=>exact ⟨k+1,l,some b,by go_num,by go_num,by omega,by intro c hb;simp at hb;omega,fun _=>by have:=HL.out;rw [HS.out] at this;simpa using this,fun h=>by omega,hown,hbel⟩
       case measure=>simp [intOf];omega
   .have HS:Hid (zbE k g (t.data.toList.drop k)=zcH g k):=znS t k (by omega) g
    cases g with
    | none=>
     simp only [zfa]
     clear hg
     go_wp2
     go_roundw
     case rel=>exact ⟨k+1,l,none,by go_num,rfl,by omega,by simp,fun h=>by omega,fun _=>by have:=HL.out;rw [HS.out] at this;simpa [zcH] using this,hown,hbel⟩
     case measure=>simp [intOf];omega
    | some b=>
     simp only [zfb]
     obtain ⟨hgb,hgk⟩:=hg b rfl
     clear hg
     go_wp2_with (at_builtin;refine zbI wr w rfl (.tmp 38) (.tmp 45) 69 rfl 129 _ 2 24 Tryz.underlying69 Tryz.infoWord rfl (by decide) (by decide) w.heap.size _ _ _ (by rfl) hown [.string (t.extract b k),.int .i64 b] (by rfl) rfl (zdm _ _) (by omega) hbel (by omega) ?_)
     intro v1 w1 hown1 hb1 hs1 hg1
     go_wp2
     go_roundw
     case rel=>exact ⟨k+1,l++[(b,k)],none,by go_num,rfl,by omega,by simp,fun h=>by omega,fun _=>by have:=HL.out;rw [HS.out] at this;simpa [zcH] using this,WordsInv.push (b,k) hown1,hb1⟩
     case measure=>simp [intOf];omega
  .have HE:Hid (l=za2 t.data.toList):=hend (by omega)
   clear hl hend hg
   go_wp2
   go_ret
   exact ⟨_,rfl,by rw [<- HE.out];exact hown,hbel⟩
open Go.RowKit Go.Proofs.Herald
def WordsAt (t:ByteArray)(w:World)(b off:Nat)(ws:List (Nat×Nat)):Prop:=
 ∀ (i:Nat) (h:i<ws.length),w.cell? ⟨b,off+i*2,none⟩=some (.string (t.extract ws[i].1 ws[i].2))/\w.cell? ⟨b,off+i*2+1,none⟩=some (.int .i64 ws[i].1)
theorem zaO {s:ByteArray}{l:List UInt8}(h:s.data.toList=l):(s.toList==l)=true:=by rw [ByteArray.toList_eq,h];simp
theorem zas {s:ByteArray}{l:List UInt8}(h:¬ s.data.toList=l):(s.toList==l)=false:=by rw [ByteArray.toList_eq];simpa using h
theorem zor (t:ByteArray)(b off cap:Nat)(ws:List (Nat×Nat))(w:World)(hlen:ws.length<=400)(hw:WordsAt t w b off ws):
  Calls Tryz.prog 23 #[.slice (some ⟨b,off,none⟩) ws.length cap] w fun e w'=>e=.returned (.int .i64 (zdp t ws 0))/\w'=w:=by
 go_enter Tryz.func23,Tryz.ntmps23
 go_wp2
 go_loop [3,4] (fun n i=>∃ (k:Nat) (m:Int),k<=ws.length/\i=.int .i64 k/\n=.int .i64 m/\-k<=m/\m<=k/\zdp t (ws.drop k) m=zdp t ws 0) (fun _ i=>ws.length - (intOf i).toNat)
 case atStart=>exact ⟨0,0,Nat.zero_le _,rfl,rfl,by omega,by omega,rfl⟩
 case round=>
  obtain ⟨k,m,hk,rfl,rfl,hm1,hm2,hd⟩:=hrel
  by_cases hlt:k<ws.length
  .obtain ⟨hc1,hc2⟩:=hw k hlt
   rw [zbT ws k hlt,zdp] at hd
   by_cases h1:zaf t ws[k]=[123]
   .rw [if_pos h1] at hd
    have e1:=zaO h1
    have e2:((t.extract ws[k].1 ws[k].2).toList==[125])=false:=zas (by unfold zaf at h1;rw [h1];decide)
    by_cases h4:4<m+1
    .rw [if_pos h4] at hd
     have HD:=zHd hd
     clear hd h1
     go_wp2
     go_ret
     exact ⟨zaV HD.out,rfl⟩
    .rw [if_neg h4] at hd
     have HD:=zHd hd
     clear hd h1
     go_wp2
     go_round
     case rel=>exact ⟨k+1,m+1,by omega,by go_num,by go_num,by omega,by omega,HD.out⟩
     case measure=>simp [intOf];omega
   .rw [if_neg h1] at hd
    have e1:=zas h1
    by_cases h2:zaf t ws[k]=[125]
    .rw [if_pos h2] at hd
     have e2:=zaO h2
     have HD:=zHd hd
     clear hd h1 h2
     go_wp2
     go_round
     case rel=>exact ⟨k+1,m - 1,by omega,by go_num,by go_num,by omega,by omega,HD.out⟩
     case measure=>simp [intOf];omega
    .rw [if_neg h2] at hd
     have e2:=zas h2
     have HD:=zHd hd
     clear hd h1 h2
     go_wp2
     go_round
     case rel=>exact ⟨k+1,m,by omega,by go_num,by go_num,by omega,by omega,HD.out⟩
     case measure=>simp [intOf];omega
  .rw [List.drop_of_length_le (by omega)] at hd
   have HD:=zHd hd
   clear hd
   go_wp2
   go_ret
   exact ⟨zaV HD.out,rfl⟩
theorem zes (t:ByteArray)(b off cap:Nat)(ws:List (Nat×Nat))(w:World)(i:Int)(i0 j:Nat)(hi0:i=i0)(hlen:ws.length<=400)(hw:WordsAt t w b off ws)
  (hj:zdV t (ws.drop i0) 0=some j):
  Calls Tryz.prog 55 #[.slice (some ⟨b,off,none⟩) ws.length cap,.int .i64 i] w fun e w'=>e=.returned (.int .i64 ((i0+j:Nat):Int))/\w'=w:=by
 subst hi0
 have hlt0:=zo3 _ _ _ _ hj
 simp at hlt0
 go_enter Tryz.func55,Tryz.ntmps55
 go_wp2
 go_loop [1,5] (fun x n=>∃ (k q:Nat) (m:Int),k+q=i0+j/\x=.int .i64 k/\n=.int .i64 m/\i0<=k/\-k<=m/\m<=k/\zdV t (ws.drop k) m=some q) (fun x _=>ws.length - (intOf x).toNat)
 case atStart=>exact ⟨i0,j,0,rfl,rfl,rfl,Nat.le_refl _,by omega,by omega,hj⟩
 case round=>
  obtain ⟨k,q,m,hkq,rfl,rfl,hik,hm1,hm2,hd⟩:=hrel
  have hlt:k<ws.length:=by omega
  obtain ⟨hc1,hc2⟩:=hw k hlt
  rw [zbT ws k hlt,zdV] at hd
  have HQ:=zHd hkq
  clear hkq hj hc2
  by_cases h1:zaf t ws[k]=[123]
  .have e1:=zaO h1
   have e2:((t.extract ws[k].1 ws[k].2).toList==[125])=false:=zas (by unfold zaf at h1;rw [h1];decide)
   rw [show zdT t ws[k] m=m+1 from by simp [zdT,h1]] at hd
   clear h1
   by_cases h0:m+1=0
   .rw [if_pos h0] at hd
    have hb:(m+1==0)=true:=by simp [h0]
    have HD:=zHd hd
    clear hd h0
    go_wp2
    go_ret
    exact ⟨zaV (by have:=HD.out;have:=HQ.out;simp at *;omega),rfl⟩
   .rw [if_neg h0] at hd
    have hb:(m+1==0)=false:=by simp [h0]
    have HD:=zHd hd
    clear hd h0
    go_wp2
    go_round
    case rel=>
     obtain ⟨q',hq,hqq⟩:=Option.map_eq_some_iff.1 HD.out
     exact ⟨k+1,q',m+1,by have:=HQ.out;omega,by go_num,by go_num,by omega,by omega,by omega,hq⟩
    case measure=>simp [intOf];omega
  .have e1:=zas h1
   by_cases h2:zaf t ws[k]=[125]
   .have e2:=zaO h2
    rw [show zdT t ws[k] m=m - 1 from by simp [zdT,h2]] at hd
    clear h1 h2
    by_cases h0:m - 1=0
    .rw [if_pos h0] at hd
     have hb:(m - 1==0)=true:=by simp [h0]
     have HD:=zHd hd
     clear hd h0
     go_wp2
     go_ret
     exact ⟨zaV (by have:=HD.out;have:=HQ.out;simp at *;omega),rfl⟩
    .rw [if_neg h0] at hd
     have hb:(m - 1==0)=false:=by simp [h0]
     have HD:=zHd hd
     clear hd h0
     go_wp2
     go_round
     case rel=>
      obtain ⟨q',hq,hqq⟩:=Option.map_eq_some_iff.1 HD.out
      exact ⟨k+1,q',m - 1,by have:=HQ.out;omega,by go_num,by go_num,by omega,by omega,by omega,hq⟩
     case measure=>simp [intOf];omega
   .have e2:=zas h2
    rw [show zdT t ws[k] m=m from by simp [zdT,h1,h2]] at hd
    clear h1 h2
    by_cases h0:m=0
    .rw [if_pos h0] at hd
     have hb:(m==0)=true:=by simp [h0]
     have HD:=zHd hd
     clear hd h0
     go_wp2
     go_ret
     exact ⟨zaV (by have:=HD.out;have:=HQ.out;simp at *;omega),rfl⟩
    .rw [if_neg h0] at hd
     have hb:(m==0)=false:=by simp [h0]
     have HD:=zHd hd
     clear hd h0
     go_wp2
     go_round
     case rel=>
      obtain ⟨q',hq,hqq⟩:=Option.map_eq_some_iff.1 HD.out
      exact ⟨k+1,q',m,by have:=HQ.out;omega,by go_num,by go_num,by omega,by omega,by omega,hq⟩
     case measure=>simp [intOf];omega
end Go.Proofs.YtmmmnghiegajmaaGreat
set_option maxHeartbeats 4000000
namespace Go.Proofs.Herald
structure Ins where
 op:Int
 a:Int
 b:Int
 c:Int
def zam (n lo hi:Int):Bool:=decide (lo<=n) && decide (n<=hi)
def zaK (n:Int)(x:Ins):Bool:=
 if x.op=0 then (x.a==0) && (x.b==0) && (x.c==0)
 else if x.op=1 then zam x.a 0 7 && (x.b==0) && (x.c==0)
 else if x.op=2 then zam x.a 1 999 && (x.b==0) && (x.c==0)
 else if x.op=3 then zam x.a 0 7 && zam x.b 1 999 && zam x.c 0 n
 else if x.op=4 then zam x.a 0 11 && zam x.b 0 999 && (x.c==0)
 else if x.op=5 then zam x.a 0 11 && (x.b==0) && (x.c==0)
 else if x.op=6 then zam x.a 0 7 && zam x.b 0 11 && zam x.c 0 n
 else if x.op=7 then zam x.a 0 11 && (x.b==0) && zam x.c 0 n
 else if x.op=8 then (x.a==0) && (x.b==0) && zam x.c 0 n
 else false
def zbq (cs:List Ins):Bool:=decide (cs.length<=1000) && cs.all (zaK cs.length)
end Go.Proofs.Herald
namespace Go.Proofs.YtmmmnghiegajmaaGreat
open Go.RowKit Go.Proofs.Herald
theorem zb0 {n lo hi:Int}(h1:lo<=n)(h2:n<=hi):zam n lo hi=true:=by unfold zam;rw [decide_eq_true h1,decide_eq_true h2];rfl
theorem zcW {n lo hi:Int}(h1:¬ lo<=n):zam n lo hi=false:=by unfold zam;rw [decide_eq_false h1];rfl
theorem zcV {n lo hi:Int}(h1:¬ n<=hi):zam n lo hi=false:=by unfold zam;rw [decide_eq_false h1];exact Bool.and_false _
theorem zau {a b:Bool}(h:a=b):Ending.returned (.bool a)=.returned (.bool b):=by rw [h]
theorem zar (v lo hi:Int)(w:World):Calls Tryz.prog 50 #[.int .i64 v,.int .i64 lo,.int .i64 hi] w fun e w'=>e=.returned (.bool (zam v lo hi))/\w'=w:=by
 by_cases h1:lo<=v
 .by_cases h2:v<=hi
  .have e:=zb0 h1 h2
   have HE:Hid (zam v lo hi=true):=e
   clear e
   go_enter Tryz.func50,Tryz.ntmps50
   go_wp2
   go_ret
   exact ⟨zau HE.out.symm,rfl⟩
  .have HE:Hid (zam v lo hi=false):=zcV h2
   go_enter Tryz.func50,Tryz.ntmps50
   go_wp2
   go_ret
   exact ⟨zau HE.out.symm,rfl⟩
 .have HE:Hid (zam v lo hi=false):=zcW h1
  go_enter Tryz.func50,Tryz.ntmps50
  go_wp2
  go_ret
  exact ⟨zau HE.out.symm,rfl⟩
theorem zc4 (v:Int)(w:World):Calls Tryz.prog 136 #[.int .i64 v] w fun e w'=>e=.returned (.bool (zam v 0 7))/\w'=w:=by
 by_cases h1:0<=v
 .by_cases h2:v<8
  .have e:=zb0 h1 (show v<=7 by omega)
   have HE:Hid (zam v 0 7=true):=e
   clear e
   go_enter Tryz.func136,Tryz.ntmps136
   go_wp2
   go_ret
   exact ⟨zau HE.out.symm,rfl⟩
  .have HE:Hid (zam v 0 7=false):=zcV (show ¬ v<=7 by omega)
   go_enter Tryz.func136,Tryz.ntmps136
   go_wp2
   go_ret
   exact ⟨zau HE.out.symm,rfl⟩
 .have HE:Hid (zam v 0 7=false):=zcW h1
  go_enter Tryz.func136,Tryz.ntmps136
  go_wp2
  go_ret
  exact ⟨zau HE.out.symm,rfl⟩
theorem zb9 (v:Int)(w:World):Calls Tryz.prog 137 #[.int .i64 v] w fun e w'=>e=.returned (.bool (zam v 1 999))/\w'=w:=by
 by_cases h1:1<=v
 .by_cases h2:v<=999
  .have e:=zb0 h1 h2
   have HE:Hid (zam v 1 999=true):=e
   clear e
   go_enter Tryz.func137,Tryz.ntmps137
   go_wp2
   go_ret
   exact ⟨zau HE.out.symm,rfl⟩
  .have HE:Hid (zam v 1 999=false):=zcV h2
   go_enter Tryz.func137,Tryz.ntmps137
   go_wp2
   go_ret
   exact ⟨zau HE.out.symm,rfl⟩
 .have HE:Hid (zam v 1 999=false):=zcW h1
  go_enter Tryz.func137,Tryz.ntmps137
  go_wp2
  go_ret
  exact ⟨zau HE.out.symm,rfl⟩
theorem zbB (v:Int)(w:World):Calls Tryz.prog 139 #[.int .i64 v] w fun e w'=>e=.returned (.bool (zam v 0 11))/\w'=w:=by
 by_cases h1:0<=v
 .by_cases h2:v<12
  .have e:=zb0 h1 (show v<=11 by omega)
   have HE:Hid (zam v 0 11=true):=e
   clear e
   go_enter Tryz.func139,Tryz.ntmps139
   go_wp2
   go_ret
   exact ⟨zau HE.out.symm,rfl⟩
  .have HE:Hid (zam v 0 11=false):=zcV (show ¬ v<=11 by omega)
   go_enter Tryz.func139,Tryz.ntmps139
   go_wp2
   go_ret
   exact ⟨zau HE.out.symm,rfl⟩
 .have HE:Hid (zam v 0 11=false):=zcW h1
  go_enter Tryz.func139,Tryz.ntmps139
  go_wp2
  go_ret
  exact ⟨zau HE.out.symm,rfl⟩
theorem zbU (v:Int)(w:World):Calls Tryz.prog 140 #[.int .i64 v] w fun e w'=>e=.returned (.bool (zam v 0 999))/\w'=w:=by
 by_cases h1:0<=v
 .by_cases h2:v<=999
  .have e:=zb0 h1 h2
   have HE:Hid (zam v 0 999=true):=e
   clear e
   go_enter Tryz.func140,Tryz.ntmps140
   go_wp2
   go_ret
   exact ⟨zau HE.out.symm,rfl⟩
  .have HE:Hid (zam v 0 999=false):=zcV h2
   go_enter Tryz.func140,Tryz.ntmps140
   go_wp2
   go_ret
   exact ⟨zau HE.out.symm,rfl⟩
 .have HE:Hid (zam v 0 999=false):=zcW h1
  go_enter Tryz.func140,Tryz.ntmps140
  go_wp2
  go_ret
  exact ⟨zau HE.out.symm,rfl⟩
theorem zca (v n:Int)(w:World):Calls Tryz.prog 138 #[.int .i64 v,.int .i64 n] w fun e w'=>e=.returned (.bool (zam v 0 n))/\w'=w:=by
 by_cases h1:0<=v
 .by_cases h2:v<=n
  .have e:=zb0 h1 h2
   have HE:Hid (zam v 0 n=true):=e
   clear e
   go_enter Tryz.func138,Tryz.ntmps138
   go_wp2
   go_ret
   exact ⟨zau HE.out.symm,rfl⟩
  .have HE:Hid (zam v 0 n=false):=zcV h2
   go_enter Tryz.func138,Tryz.ntmps138
   go_wp2
   go_ret
   exact ⟨zau HE.out.symm,rfl⟩
 .have HE:Hid (zam v 0 n=false):=zcW h1
  go_enter Tryz.func138,Tryz.ntmps138
  go_wp2
  go_ret
  exact ⟨zau HE.out.symm,rfl⟩
def za1 (x:Ins):List Value:=[.int .i64 x.op,.int .i64 x.a,.int .i64 x.b,.int .i64 x.c]
def CodeAt (w:World)(b off:Nat)(l:List Ins):Prop:=∀ (i:Nat) (hi:i<l.length) (j:Nat) (u:Value),(za1 l[i])[j]?=some u->w.cell? ⟨b,off+i*4+j,none⟩=some u
theorem CodeAt.keep {w w':World}{b off:Nat}{l:List Ins}(h:CodeAt w b off l)(hk:w'.heap[b]?=w.heap[b]?):CodeAt w' b off l:=fun i hi j u hj=>
 (World.cell?_of_block hk).trans (h i hi j u hj)
theorem CodeAt.get {w:World}{b off:Nat}{l:List Ins}(h:CodeAt w b off l)(i:Nat)(hi:i<l.length):
  w.cell? ⟨b,off+i*4,none⟩=some (.int .i64 l[i].op)/\w.cell? ⟨b,off+i*4+1,none⟩=some (.int .i64 l[i].a)/\w.cell? ⟨b,off+i*4+2,none⟩=some (.int .i64 l[i].b)/\w.cell? ⟨b,off+i*4+3,none⟩=some (.int .i64 l[i].c):=
 ⟨h i hi 0 _ rfl,h i hi 1 _ rfl,h i hi 2 _ rfl,h i hi 3 _ rfl⟩
theorem ziT (P Q R:Bool):((P && Q && R)=false/\P=false)\/((P && Q && R)=false/\P=true/\Q=false)\/((P && Q && R)=false/\P=true/\Q=true/\R=false)\/((P && Q && R)=true/\P=true/\Q=true/\R=true):=by
 cases P <;> cases Q <;> cases R <;> simp
theorem zi6 (x:Ins)(n:Int)(w:World):Calls Tryz.prog 113 #[.agg (za1 x).toArray,.int .i64 n] w fun e w'=>e=.returned (.bool (zaK n x))/\Below w.heap.size w w':=by
 obtain ⟨op,a,b,c⟩:=x
 have hcell:za1 ⟨op,a,b,c⟩=[.int .i64 op,.int .i64 a,.int .i64 b,.int .i64 c]:=rfl
 rw [hcell]
 clear hcell
 have HB0:Hid (∀ o,Below w.heap.size w (w.alloc o)):=fun o=>(Below.refl _ _).alloc (Nat.le_refl _) _
 by_cases h0:op=0
 .subst h0
  have hs:zaK n ⟨0,a,b,c⟩=((a==0) && (b==0) && (c==0)):=rfl
  rw [hs]
  rcases ziT (a==0) (b==0) (c==0) with ⟨hr,g1⟩|⟨hr,g1,g2⟩|⟨hr,g1,g2,g3⟩|⟨hr,g1,g2,g3⟩ <;> rw [hr]
  all_goals
   clear hr hs
   go_enter Tryz.func113,Tryz.ntmps113
   go_wp2_with (first|(go_at_call 136;refine (zc4 _ _).mono ?_;rintro e w' ⟨rfl,rfl⟩)|(go_at_call 137;refine (zb9 _ _).mono ?_;rintro e w' ⟨rfl,rfl⟩)|(go_at_call 139;refine (zbB _ _).mono ?_;rintro e w' ⟨rfl,rfl⟩)|(go_at_call 140;refine (zbU _ _).mono ?_;rintro e w' ⟨rfl,rfl⟩)|(go_at_call 138;refine (zca _ _ _).mono ?_;rintro e w' ⟨rfl,rfl⟩))
   go_ret
   exact ⟨rfl,HB0.out _⟩
 by_cases h1:op=1
 .subst h1
  have hs:zaK n ⟨1,a,b,c⟩=((zam a 0 7) && (b==0) && (c==0)):=rfl
  rw [hs]
  rcases ziT (zam a 0 7) (b==0) (c==0) with ⟨hr,g1⟩|⟨hr,g1,g2⟩|⟨hr,g1,g2,g3⟩|⟨hr,g1,g2,g3⟩ <;> rw [hr]
  all_goals
   clear hr hs
   go_enter Tryz.func113,Tryz.ntmps113
   go_wp2_with (first|(go_at_call 136;refine (zc4 _ _).mono ?_;rintro e w' ⟨rfl,rfl⟩)|(go_at_call 137;refine (zb9 _ _).mono ?_;rintro e w' ⟨rfl,rfl⟩)|(go_at_call 139;refine (zbB _ _).mono ?_;rintro e w' ⟨rfl,rfl⟩)|(go_at_call 140;refine (zbU _ _).mono ?_;rintro e w' ⟨rfl,rfl⟩)|(go_at_call 138;refine (zca _ _ _).mono ?_;rintro e w' ⟨rfl,rfl⟩))
   go_ret
   exact ⟨rfl,HB0.out _⟩
 by_cases h2:op=2
 .subst h2
  have hs:zaK n ⟨2,a,b,c⟩=((zam a 1 999) && (b==0) && (c==0)):=rfl
  rw [hs]
  rcases ziT (zam a 1 999) (b==0) (c==0) with ⟨hr,g1⟩|⟨hr,g1,g2⟩|⟨hr,g1,g2,g3⟩|⟨hr,g1,g2,g3⟩ <;> rw [hr]
  all_goals
   clear hr hs
   go_enter Tryz.func113,Tryz.ntmps113
   go_wp2_with (first|(go_at_call 136;refine (zc4 _ _).mono ?_;rintro e w' ⟨rfl,rfl⟩)|(go_at_call 137;refine (zb9 _ _).mono ?_;rintro e w' ⟨rfl,rfl⟩)|(go_at_call 139;refine (zbB _ _).mono ?_;rintro e w' ⟨rfl,rfl⟩)|(go_at_call 140;refine (zbU _ _).mono ?_;rintro e w' ⟨rfl,rfl⟩)|(go_at_call 138;refine (zca _ _ _).mono ?_;rintro e w' ⟨rfl,rfl⟩))
   go_ret
   exact ⟨rfl,HB0.out _⟩
 by_cases h3:op=3
 .subst h3
  have hs:zaK n ⟨3,a,b,c⟩=((zam a 0 7) && (zam b 1 999) && (zam c 0 n)):=rfl
  rw [hs]
  rcases ziT (zam a 0 7) (zam b 1 999) (zam c 0 n) with ⟨hr,g1⟩|⟨hr,g1,g2⟩|⟨hr,g1,g2,g3⟩|⟨hr,g1,g2,g3⟩ <;> rw [hr]
  all_goals
   clear hr hs
   go_enter Tryz.func113,Tryz.ntmps113
   go_wp2_with (first|(go_at_call 136;refine (zc4 _ _).mono ?_;rintro e w' ⟨rfl,rfl⟩)|(go_at_call 137;refine (zb9 _ _).mono ?_;rintro e w' ⟨rfl,rfl⟩)|(go_at_call 139;refine (zbB _ _).mono ?_;rintro e w' ⟨rfl,rfl⟩)|(go_at_call 140;refine (zbU _ _).mono ?_;rintro e w' ⟨rfl,rfl⟩)|(go_at_call 138;refine (zca _ _ _).mono ?_;rintro e w' ⟨rfl,rfl⟩))
   go_ret
   exact ⟨rfl,HB0.out _⟩
 by_cases h4:op=4
 .subst h4
  have hs:zaK n ⟨4,a,b,c⟩=((zam a 0 11) && (zam b 0 999) && (c==0)):=rfl
  rw [hs]
  rcases ziT (zam a 0 11) (zam b 0 999) (c==0) with ⟨hr,g1⟩|⟨hr,g1,g2⟩|⟨hr,g1,g2,g3⟩|⟨hr,g1,g2,g3⟩ <;> rw [hr]
  all_goals
   clear hr hs
   go_enter Tryz.func113,Tryz.ntmps113
   go_wp2_with (first|(go_at_call 136;refine (zc4 _ _).mono ?_;rintro e w' ⟨rfl,rfl⟩)|(go_at_call 137;refine (zb9 _ _).mono ?_;rintro e w' ⟨rfl,rfl⟩)|(go_at_call 139;refine (zbB _ _).mono ?_;rintro e w' ⟨rfl,rfl⟩)|(go_at_call 140;refine (zbU _ _).mono ?_;rintro e w' ⟨rfl,rfl⟩)|(go_at_call 138;refine (zca _ _ _).mono ?_;rintro e w' ⟨rfl,rfl⟩))
   go_ret
   exact ⟨rfl,HB0.out _⟩
 by_cases h5:op=5
 .subst h5
  have hs:zaK n ⟨5,a,b,c⟩=((zam a 0 11) && (b==0) && (c==0)):=rfl
  rw [hs]
  rcases ziT (zam a 0 11) (b==0) (c==0) with ⟨hr,g1⟩|⟨hr,g1,g2⟩|⟨hr,g1,g2,g3⟩|⟨hr,g1,g2,g3⟩ <;> rw [hr]
  all_goals
   clear hr hs
   go_enter Tryz.func113,Tryz.ntmps113
   go_wp2_with (first|(go_at_call 136;refine (zc4 _ _).mono ?_;rintro e w' ⟨rfl,rfl⟩)|(go_at_call 137;refine (zb9 _ _).mono ?_;rintro e w' ⟨rfl,rfl⟩)|(go_at_call 139;refine (zbB _ _).mono ?_;rintro e w' ⟨rfl,rfl⟩)|(go_at_call 140;refine (zbU _ _).mono ?_;rintro e w' ⟨rfl,rfl⟩)|(go_at_call 138;refine (zca _ _ _).mono ?_;rintro e w' ⟨rfl,rfl⟩))
   go_ret
   exact ⟨rfl,HB0.out _⟩
 by_cases h6:op=6
 .subst h6
  have hs:zaK n ⟨6,a,b,c⟩=((zam a 0 7) && (zam b 0 11) && (zam c 0 n)):=rfl
  rw [hs]
  rcases ziT (zam a 0 7) (zam b 0 11) (zam c 0 n) with ⟨hr,g1⟩|⟨hr,g1,g2⟩|⟨hr,g1,g2,g3⟩|⟨hr,g1,g2,g3⟩ <;> rw [hr]
  all_goals
   clear hr hs
   go_enter Tryz.func113,Tryz.ntmps113
   go_wp2_with (first|(go_at_call 136;refine (zc4 _ _).mono ?_;rintro e w' ⟨rfl,rfl⟩)|(go_at_call 137;refine (zb9 _ _).mono ?_;rintro e w' ⟨rfl,rfl⟩)|(go_at_call 139;refine (zbB _ _).mono ?_;rintro e w' ⟨rfl,rfl⟩)|(go_at_call 140;refine (zbU _ _).mono ?_;rintro e w' ⟨rfl,rfl⟩)|(go_at_call 138;refine (zca _ _ _).mono ?_;rintro e w' ⟨rfl,rfl⟩))
   go_ret
   exact ⟨rfl,HB0.out _⟩
 by_cases h7:op=7
 .subst h7
  have hs:zaK n ⟨7,a,b,c⟩=((zam a 0 11) && (b==0) && (zam c 0 n)):=rfl
  rw [hs]
  rcases ziT (zam a 0 11) (b==0) (zam c 0 n) with ⟨hr,g1⟩|⟨hr,g1,g2⟩|⟨hr,g1,g2,g3⟩|⟨hr,g1,g2,g3⟩ <;> rw [hr]
  all_goals
   clear hr hs
   go_enter Tryz.func113,Tryz.ntmps113
   go_wp2_with (first|(go_at_call 136;refine (zc4 _ _).mono ?_;rintro e w' ⟨rfl,rfl⟩)|(go_at_call 137;refine (zb9 _ _).mono ?_;rintro e w' ⟨rfl,rfl⟩)|(go_at_call 139;refine (zbB _ _).mono ?_;rintro e w' ⟨rfl,rfl⟩)|(go_at_call 140;refine (zbU _ _).mono ?_;rintro e w' ⟨rfl,rfl⟩)|(go_at_call 138;refine (zca _ _ _).mono ?_;rintro e w' ⟨rfl,rfl⟩))
   go_ret
   exact ⟨rfl,HB0.out _⟩
 by_cases h8:op=8
 .subst h8
  have hs:zaK n ⟨8,a,b,c⟩=((a==0) && (b==0) && (zam c 0 n)):=rfl
  rw [hs]
  rcases ziT (a==0) (b==0) (zam c 0 n) with ⟨hr,g1⟩|⟨hr,g1,g2⟩|⟨hr,g1,g2,g3⟩|⟨hr,g1,g2,g3⟩ <;> rw [hr]
  all_goals
   clear hr hs
   go_enter Tryz.func113,Tryz.ntmps113
   go_wp2_with (first|(go_at_call 136;refine (zc4 _ _).mono ?_;rintro e w' ⟨rfl,rfl⟩)|(go_at_call 137;refine (zb9 _ _).mono ?_;rintro e w' ⟨rfl,rfl⟩)|(go_at_call 139;refine (zbB _ _).mono ?_;rintro e w' ⟨rfl,rfl⟩)|(go_at_call 140;refine (zbU _ _).mono ?_;rintro e w' ⟨rfl,rfl⟩)|(go_at_call 138;refine (zca _ _ _).mono ?_;rintro e w' ⟨rfl,rfl⟩))
   go_ret
   exact ⟨rfl,HB0.out _⟩
 have hs:zaK n ⟨op,a,b,c⟩=false:=by unfold zaK;simp only [h0,h1,h2,h3,h4,h5,h6,h7,h8,if_false]
 rw [hs]
 have e0:(op==0)=false:=by simpa using h0
 have e1:(op==1)=false:=by simpa using h1
 have e2:(op==2)=false:=by simpa using h2
 have e3:(op==3)=false:=by simpa using h3
 have e4:(op==4)=false:=by simpa using h4
 have e5:(op==5)=false:=by simpa using h5
 have e6:(op==6)=false:=by simpa using h6
 have e7:(op==7)=false:=by simpa using h7
 have e8:(op==8)=false:=by simpa using h8
 clear h0 h1 h2 h3 h4 h5 h6 h7 h8 hs
 go_enter Tryz.func113,Tryz.ntmps113
 go_wp2_with fail
 go_ret
 exact ⟨rfl,HB0.out _⟩
open Go.RowKit Go.Proofs.Herald
theorem zfz {α:Type}(p:α->Bool)(l:List α)(k:Nat)(h:k<l.length)(h1:(l.take k).all p=true)(h2:p l[k]=true):(l.take (k+1)).all p=true:=by
 rw [List.take_succ_eq_append_getElem h,List.all_append,h1];simp [h2]
theorem zmQ {α:Type}(p:α->Bool)(l:List α)(k:Nat)(h:k<l.length)(h2:p l[k]=false):l.all p=false:=by
 rw [List.all_eq_false];exact ⟨l[k],List.getElem_mem h,by rw [h2];simp⟩
theorem zdQ {cs:List Ins}(h:1000<cs.length):zbq cs=false:=by unfold zbq;rw [decide_eq_false (by omega)];rfl
theorem ze0 {cs:List Ins}(h:cs.length<=1000):zbq cs=cs.all (zaK cs.length):=by unfold zbq;rw [decide_eq_true h];rfl
def CodeIn (w:World)(a:Option Addr)(b off:Nat)(cs:List Ins):Prop:=0<cs.length->a=some ⟨b,off,none⟩/\b<w.heap.size/\CodeAt w b off cs
theorem CodeIn.keep {w w':World}{a:Option Addr}{b off:Nat}{cs:List Ins}(h:CodeIn w a b off cs)(hb:Below w.heap.size w w'):CodeIn w' a b off cs:=fun hp=>
 ⟨(h hp).1,Nat.lt_of_lt_of_le (h hp).2.1 hb.size,(h hp).2.2.keep (hb.block _ (h hp).2.1)⟩
theorem zm2 (a:Option Addr)(b off cap:Nat)(cs:List Ins)(w:World)(hc:CodeIn w a b off cs):
  Calls Tryz.prog 89 #[.slice a cs.length cap] w fun e w'=>e=.returned (.bool (zbq cs))/\Below w.heap.size w w':=by
 rcases Nat.lt_or_ge 1000 cs.length with hl|hl
 .have HS:Hid (zbq cs=false):=zdQ hl
  go_enter Tryz.func89,Tryz.ntmps89
  go_wp2_with fail
  go_ret
  exact ⟨zau HS.out.symm,Below.refl _ _⟩
 .have HS:Hid (zbq cs=cs.all (zaK cs.length)):=ze0 hl
  have HC:=zHd hc
  clear hc
  go_enter Tryz.func89,Tryz.ntmps89
  go_wp2_with fail
  go_loopw [10] (fun i wr=>∃ k:Nat,k<=cs.length/\i=.int .i64 k/\Hid (Below w.heap.size w wr)/\Hid ((cs.take k).all (zaK cs.length)=true)) (fun i _=>cs.length - (intOf i).toNat)
  case atStart=>exact ⟨0,Nat.zero_le _,rfl,Below.refl _ _,by show _=_;simp⟩
  case round=>
   obtain ⟨k,hk,rfl,HB,HT⟩:=hrel
   by_cases hlt:k<cs.length
   .obtain ⟨rfl,hblt,hca⟩:=HC.out (by omega)
    obtain ⟨c0,c1,c2,c3⟩:=(hca.keep (HB.out.block b hblt)).get k hlt
    have HI:Hid (∀ W:World,Calls Tryz.prog 113 #[.agg #[.int .i64 cs[k].op,.int .i64 cs[k].a,.int .i64 cs[k].b,.int .i64 cs[k].c],.int .i64 cs.length] W fun e w'=>e=.returned (.bool (zaK cs.length cs[k]))/\Below W.heap.size W w'):=fun W=>zi6 cs[k] cs.length W
    have HTT:Hid (zaK cs.length cs[k]=true->(cs.take (k+1)).all (zaK cs.length)=true):=fun h=>zfz _ cs k hlt HT.out h
    have HFF:Hid (zaK cs.length cs[k]=false->cs.all (zaK cs.length)=false):=fun h=>zmQ _ cs k hlt h
    generalize cs[k].op=op at *
    generalize cs[k].a=xa at *
    generalize cs[k].b=xb at *
    generalize cs[k].c=xc at *
    generalize zaK cs.length cs[k]=S at *
    clear hca
    go_wp2_with fail
    refine (HI.out _).mono ?_
    rintro e w1 ⟨rfl,hb1⟩
    have HB1:Hid (Below w.heap.size w w1):=(HB.out.alloc HB.out.size _).trans (hb1.mono (by have:=HB.out.size;simp;omega))
    clear hb1
    cases S with
    | true=>
     go_wp2_with fail
     go_roundw
     case rel=>exact ⟨k+1,by omega,by go_num,HB1,HTT.out trivial⟩
     case measure=>simp [intOf];omega
    | false=>
     go_wp2_with fail
     go_ret
     exact ⟨zau (by rw [HS.out];exact (HFF.out trivial).symm),HB1.out⟩
   .have HE:Hid (cs.take k=cs):=List.take_of_length_le (by omega)
    go_wp2_with fail
    go_ret
    exact ⟨zau (by rw [HS.out];have h:=HT.out;rw [HE.out] at h;exact h.symm),HB.out⟩
end Go.Proofs.YtmmmnghiegajmaaGreat
