import Derived.WalkKit
import Derived.Orders
namespace Go.Proofs.Herald
def left (listed:Array Bool):Nat->Nat
 | 0=>0
 | n+1=>left listed n+(if listed.getD n true then 0 else 1)
theorem DW {listed:Array Bool}:∀ {n i:Nat},i<n->listed.getD i true=false->0<left listed n:=by
 intro n;induction n with
 | zero=>intro i hi;omega
 | succ n ih=>
  intro i hi h;rw[left];by_cases hin:i=n
  .subst hin;rw[h];simp
  .have:=ih (show i<n by omega) h;omega
theorem DX {listed:Array Bool}{i:Nat}:∀ {n:Nat},left (listed.setIfInBounds i true) n+(if i<n/\listed.getD i true=false then 1 else 0)=left listed n:=by
 intro n;induction n with
 | zero=>simp[left]
 | succ n ih=>
  rw[left,left];by_cases hin:i=n
  .subst hin;have h1:left (listed.setIfInBounds i true) i=left listed i:=by
    have:=ih;rw[if_neg (by omega)]at this;omega
   rw[h1];by_cases hl:i<listed.size
   .have h2:(listed.setIfInBounds i true).getD i true=true:=by simp[hl]
    rw[h2];cases hb:listed.getD i true with
    | true=>simp
    | false=>simp
   .have h2:listed.getD i true=true:=by simp[Array.getElem?_eq_none (Nat.le_of_not_lt hl)]
    have h3:(listed.setIfInBounds i true).getD i true=true:=by simp[hl]
    rw[h2,h3];simp
  .have h2:(listed.setIfInBounds i true).getD n true=listed.getD n true:=by simp[Array.getElem?_setIfInBounds_ne hin]
   rw[h2];have h3:(i<n+1/\listed.getD i true=false) ↔ (i<n/\listed.getD i true=false):=⟨fun h=>⟨by omega,h.2⟩,fun h=>⟨by omega,h.2⟩⟩;simp only[h3];omega
theorem Ep {P:Program}{md:Region.Mode}{ops:Array Oper}{Q:Exit->Act->World->Prop}(Inv:Array Bool->Act->World->Prop)
  (step:∀ listed a w i,Inv listed a w->i∈Region.ready md ops listed->wpOp P ops Q i (fun a' w'=>Inv (listed.setIfInBounds i true) a' w') a w)
  (fin:∀ listed a w,Inv listed a w->Region.ready md ops listed=[]->Q .normal a w):
  ∀ (fuel:Nat) (listed:Array Bool) (a:Act) (w:World),Inv listed a w->left listed ops.size<=fuel->wpAny P md ops Q fuel listed a w:=by
 intro fuel;induction fuel with
 | zero=>
  intro listed a w h hl;have hr:Region.ready md ops listed=[]:=by
   cases hr:Region.ready md ops listed with
   | nil=>rfl
   | cons i r=>
    have hi:i∈Region.ready md ops listed:=by rw[hr];exact List.mem_cons_self ..
    obtain⟨h1,o,h2,_⟩:=mem_ready.1 hi;have:=DW (Array.getElem?_eq_some_iff.1 h2).1 h1;omega
  exact⟨hr,fin listed a w h hr⟩
 | succ fuel ih=>
  intro listed a w h hl;refine⟨fun hr=>fin listed a w h hr,fun i hi=>?_⟩;obtain⟨h1,o,h2,_⟩:=mem_ready.1 hi;refine wpOp_mono (fun a' w' h'=>ih _ _ _ h' ?_) (step listed a w i h hi);have:=DX (listed:=listed) (i:=i) (n:=ops.size);rw[if_pos ⟨(Array.getElem?_eq_some_iff.1 h2).1,h1⟩]at this;omega
theorem DV (n:Nat):left (Array.replicate n false) n<=n:=by
 have h:∀ (l:Array Bool) (m:Nat),left l m<=m:=by
  intro l m;induction m with
  | zero=>simp[left]
  | succ m ih=>rw[left];split <;> omega
 exact h _ _
theorem tN {P:Program}{id:Nat}{ops:Array Oper}{Q:Exit->Act->World->Prop}{a:Act}{w:World}(hm:P.follows .mixedOrders=true)(Inv:Array Bool->Act->World->Prop)
  (init:Inv (Array.replicate ops.size false) a w.drew)
  (step:∀ listed a w i,Inv listed a w->i∈Region.ready .any ops listed->wpOp P ops Q i (fun a' w'=>Inv (listed.setIfInBounds i true) a' w') a w)
  (fin:∀ listed a w,Inv listed a w->Region.ready .any ops listed=[]->Q .normal a w):(Code.region id ops true).wp P Q a w:=
 wp_region_any hm (Ep Inv step fin ops.size _ a _ init (DV _))
def Gk (ops:Array Oper):Bool:=(List.range ops.size).all fun i=>((ops[i]?).map fun o=>o.after.all fun e=>decide (e.on<i)).getD true
theorem wj {md:Region.Mode}{ops:Array Oper}{listed:Array Bool}(hsz:listed.size=ops.size)(hdag:Gk ops=true)(h:Region.ready md ops listed=[]):∀ k,k<ops.size->listed.getD k false=true:=by
 intro k;induction k using Nat.strongRecOn with
 | ind k ih=>
  intro hk;cases hb:listed.getD k false with
  | true=>rfl
  | false=>
   exfalso;have A1:listed.getD k true=false:=by
    have A0:k<listed.size:=by omega
    simp[A0]at hb ⊢;exact hb
   have hm:k∈Region.ready md ops listed:=by
    refine mem_ready.2 ⟨A1,ops[k],Array.getElem?_eq_getElem hk,fun e he _=>?_⟩;have h1:=(List.all_eq_true.mp hdag) k (List.mem_range.mpr hk);rw[Array.getElem?_eq_getElem hk]at h1;simp only[Option.map_some,Option.getD_some]at h1;have h2:=(Array.all_eq_true_iff_forall_mem.mp h1) e he;have h3:e.on<k:=by simpa using h2
    exact ih e.on h3 (by omega)
   rw[h]at hm;cases hm
end Go.Proofs.Herald
