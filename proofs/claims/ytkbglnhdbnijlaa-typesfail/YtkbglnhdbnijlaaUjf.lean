/-
  2 texts in one: what each proves stands at its head.
-/
import Derived.Test.YtkbglnhdbnijlaaUjc
import Derived.Test.YtkbglnhdbnijlaaUp
namespace Go.Proofs.Ytkbglnhdbnijlaa
set_option maxRecDepth 100000
mutual
def inE (y:Ex):Ex→Nat→Ex
 |.mk op a b t p q xs i,n=>if n=0∨xs.length=0 then y else .mk op a b t p q (inL y xs (n % xs.length) (n / 3)) i
def inL (y:Ex):List Ex→Nat→Nat→List Ex
 |[],_,_=>[]
 |x::xs,0,m=>inE y x m::xs
 |x::xs,k+1,m=>x::inL y xs k m
end
mutual
def plE (W:Int→List UInt8→Int→Nat→Int→Int):Ex→Int→Nat→Ex × Int
 |.mk op a b t p q xs i,u,n=>if n=0∨xs.length=0 then (.mk op a b t p q xs i,u) else plL W xs (W op a t (n % xs.length) u) (n % xs.length) (n / 3)
def plL (W:Int→List UInt8→Int→Nat→Int→Int):List Ex→Int→Nat→Nat→Ex × Int
 |[],u,_,_=>(ed,u)
 |x::_,u,0,m=>plE W x u m
 |_::xs,u,k+1,m=>plL W xs u k m
end
def flE (u:Int) (i:Nat):Ex:=.mk 5 [] [] u 0 0 [] i
section
variable {op:Int} {a b:List UInt8} {t p q:Int} {xs:List Ex} {i n:Nat} (y:Ex) (W:Int→List UInt8→Int→Nat→Int→Int)
theorem inE_stop (h:n=0∨xs.length=0):inE y (.mk op a b t p q xs i) n=y:=by rw[inE,if_pos h]
theorem inL_set:∀ (xs:List Ex) (k m:Nat),k<xs.length→inL y xs k m=xs.set k (inE y (xs.getD k ed) m)
 |[],_,_,h=>by simp at h
 |x::xs,0,m,_=>by rw[inL];simp
 |x::xs,k+1,m,h=>by rw[inL,inL_set xs k m (by simpa using h)];simp
theorem inE_go (h:¬ (n=0∨xs.length=0)):inE y (.mk op a b t p q xs i) n=.mk op a b t p q (xs.set (n % xs.length) (inE y (xs.getD (n % xs.length) ed) (n / 3))) i:=by
 rw[inE,if_neg h,inL_set y xs _ _ (Nat.mod_lt _ (by omega))]
theorem plE_stop (u:Int) (h:n=0∨xs.length=0):plE W (.mk op a b t p q xs i) u n=(.mk op a b t p q xs i,u):=by rw[plE,if_pos h]
theorem plL_at:∀ (xs:List Ex) (u:Int) (k m:Nat),k<xs.length→plL W xs u k m=plE W (xs.getD k ed) u m
 |[],_,_,_,h=>by simp at h
 |x::xs,u,0,m,_=>by rw[plL];simp
 |x::xs,u,k+1,m,h=>by rw[plL,plL_at xs u k m (by simpa using h)];simp
theorem plE_go (u:Int) (h:¬ (n=0∨xs.length=0)):plE W (.mk op a b t p q xs i) u n=plE W (xs.getD (n % xs.length) ed) (W op a t (n % xs.length) u) (n / 3):=by
 rw[plE,if_neg h,plL_at W xs _ _ _ (Nat.mod_lt _ (by omega))]
end
theorem set_self_ex (xs:List Ex) (k:Nat):xs.set k (xs.getD k ed)=xs:=by
 apply List.ext_getElem
 ·simp
 ·intro j h1 h2
  rw[List.getElem_set]
  split
  ·rename_i e
   subst e
   rw[List.getD_eq_getElem?_getD,List.getElem?_eq_getElem h2]
   rfl
  ·rfl
theorem in_self (W:Int→List UInt8→Int→Nat→Int→Int):∀ (n:Nat) (x:Ex) (u:Int),inE (plE W x u n).1 x n=x:=by
 intro n
 induction n using Nat.strongRecOn with
 |ind n ih=>
  intro x u
  obtain⟨op,a,b,t,p,q,xs,i⟩:=x
  by_cases h:n=0∨xs.length=0
  ·rw[plE_stop W u h,inE_stop _ h]
  ·rw[plE_go W u h,inE_go _ h,ih (n / 3) (by omega),set_self_ex]
section
variable {ff:List UInt8→Option Fn1}
mutual
theorem wt_id (tf:List UInt8→Int):∀ (x:Ex) (t:Int) (r:Int × Int),okE ff tf x t→wtE ff tf x t r=r
 |.mk op name tail ty p q xs i,t,r,h=>by
  rw[okE] at h
  rw[wtE_mk,wt_idL tf op name tail ty t xs 0 _ h.2]
  unfold seeT
  rw[if_neg h.1]
theorem wt_idL (tf:List UInt8→Int) (op:Int) (name tail:List UInt8) (ty t:Int):∀ (xs:List Ex) (i:Nat) (r:Int × Int),okL ff tf op name tail ty t i xs→wtL ff tf op name tail ty t i xs r=r
 |[],i,r,_=>by rw[wtL_nil]
 |x::xs,i,r,h=>by
  rw[okL] at h
  rw[wtL_cons,wt_id _ x _ r h.1]
  exact wt_idL tf op name tail ty t xs (i+1) r h.2
end
theorem okL_at (tf:List UInt8→Int) (op:Int) (name tail:List UInt8) (ty t:Int):∀ (xs:List Ex) (i k:Nat),k<xs.length→okL ff tf op name tail ty t i xs→okE ff (bindT tf (bnd7 op name tail ty (i+k))) (xs.getD k ed) (wntT ff op name ty (i+k) t)
 |[],_,_,h,_=>by simp at h
 |x::xs,i,0,_,h=>by rw[okL] at h;simpa using h.1
 |x::xs,i,k+1,h,ho=>by
  rw[okL] at ho
  have:=okL_at tf op name tail ty t xs (i+1) k (by simpa using h) ho.2
  rw[show i+1+k=i+(k+1) by omega] at this
  simpa using this
theorem wtL_set (tf:List UInt8→Int) (op:Int) (name tail:List UInt8) (ty t:Int) (z:Ex):∀ (xs:List Ex) (i k:Nat) (r:Int × Int),k<xs.length→okL ff tf op name tail ty t i xs→wtL ff tf op name tail ty t i (xs.set k z) r=wtE ff (bindT tf (bnd7 op name tail ty (i+k))) z (wntT ff op name ty (i+k) t) r
 |[],_,_,_,h,_=>by simp at h
 |x::xs,i,0,r,_,ho=>by
  rw[okL] at ho
  rw[List.set_cons_zero,wtL_cons,wt_idL _ _ _ _ _ _ xs _ _ ho.2]
  simp
 |x::xs,i,k+1,r,h,ho=>by
  rw[okL] at ho
  rw[List.set_cons_succ,wtL_cons,wt_id _ x _ r ho.1,wtL_set tf op name tail ty t z xs (i+1) k r (by simpa using h) ho.2,show i+1+k=i+(k+1) by omega]
theorem wt_in (u:Int) (i:Nat):∀ (n:Nat) (x:Ex) (tf:List UInt8→Int) (t:Int) (r:Int × Int),okE ff tf x t→wtE ff tf (inE (flE u i) x n) t r=if u=(plE (wntT ff) x t n).2 then r else tellT r i:=by
 intro n
 induction n using Nat.strongRecOn with
 |ind n ih=>
  intro x tf t r h
  obtain⟨op,a,b,ty,p,q,xs,j⟩:=x
  by_cases hs:n=0∨xs.length=0
  ·rw[plE_stop _ t hs,inE_stop _ hs]
   unfold flE
   rw[wtE_mk,wtL_nil]
   unfold seeT
   have e1:ownT ff tf 5 [] u ([]:List Ex).length=u:=rfl
   have e2:ownB 5=true:=rfl
   rw[e1,e2]
   dsimp only
   by_cases hu:u=t
   ·rw[if_pos hu,if_neg (fun k=>k.2 hu)]
   ·rw[if_neg hu,if_pos ⟨rfl,hu⟩]
  ·rw[okE] at h
   have hk:n % xs.length<xs.length:=Nat.mod_lt _ (by omega)
   have hp:=okL_at tf op a b ty t xs 0 _ hk h.2
   rw[plE_go _ t hs,inE_go _ hs,wtE_mk,List.length_set,wtL_set tf op a b ty t _ xs 0 _ _ hk h.2]
   rw[Nat.zero_add] at hp ⊢
   rw[ih (n / 3) (by omega) _ _ _ _ hp]
   unfold seeT
   rw[if_neg h.1]
end
theorem mem_set_ex {xs:List Ex} {k:Nat} {z x:Ex} (h:x∈xs.set k z):x∈xs∨x=z:=List.mem_or_eq_of_mem_set h
theorem wfL_mem {Nm:List UInt8→Prop} {Nu:Int→Int→Prop}:∀ {xs:List Ex},wfL Nm Nu xs↔∀ x∈xs,wfE Nm Nu x
 |[]=>by simp[wfL_nil]
 |x::xs=>by rw[wfL_cons,wfL_mem (xs:=xs)];simp
theorem wf_in {Nm:List UInt8→Prop} {Nu:Int→Int→Prop} {y:Ex} (hy:wfE Nm Nu y):∀ (n:Nat) (x:Ex),wfE Nm Nu x→wfE Nm Nu (inE y x n):=by
 intro n
 induction n using Nat.strongRecOn with
 |ind n ih=>
  intro x h
  obtain⟨op,a,b,ty,p,q,xs,j⟩:=x
  by_cases hs:n=0∨xs.length=0
  ·rw[inE_stop _ hs];exact hy
  ·rw[inE_go _ hs]
   rw[wfE_mk] at h ⊢
   rw[List.length_set]
   refine⟨h.1,wfL_mem.2 fun x hx=>?_⟩
   rcases mem_set_ex hx with hx|rfl
   ·exact wfL_mem.1 h.2 x hx
   ·exact ih (n / 3) (by omega) _ (wfL_at xs h.2 _ (Nat.mod_lt _ (by omega)))
theorem szL_set:∀ (xs:List Ex) (k:Nat) (z:Ex),k<xs.length→szE z≤szE (xs.getD k ed)→szL (xs.set k z)≤szL xs
 |[],_,_,h,_=>by simp at h
 |x::xs,0,z,_,h=>by rw[List.set_cons_zero,szL_cons,szL_cons];simp at h;omega
 |x::xs,k+1,z,hk,h=>by
  rw[List.set_cons_succ,szL_cons,szL_cons]
  have:=szL_set xs k z (by simpa using hk) (by simpa using h)
  omega
theorem sz_in {y:Ex} (hy:szE y=1):∀ (n:Nat) (x:Ex),szE (inE y x n)≤szE x:=by
 intro n
 induction n using Nat.strongRecOn with
 |ind n ih=>
  intro x
  have hx:=szE_pos x
  obtain⟨op,a,b,ty,p,q,xs,j⟩:=x
  by_cases hs:n=0∨xs.length=0
  ·rw[inE_stop _ hs];omega
  ·rw[inE_go _ hs,szE_mk,szE_mk]
   have:=szL_set xs (n % xs.length) _ (Nat.mod_lt _ (by omega)) (ih (n / 3) (by omega) (xs.getD (n % xs.length) ed))
   omega
theorem szL_mem_at {xs:List Ex} {k:Nat} (hk:k<xs.length):szE (xs.getD k ed)≤szL xs:=by
 refine szE_mem xs _ ?_
 rw[List.getD_eq_getElem?_getD,List.getElem?_eq_getElem hk]
 exact List.getElem_mem hk
theorem clL_at {gs:List Fn1}:∀ (xs:List Ex),clL gs xs→∀ k,k<xs.length→clE gs (xs.getD k ed)
 |[],_,k,h=>by simp at h
 |x::xs,hw,0,_=>by rw[clL_cons] at hw;rw[List.getD_cons_zero];exact hw.1
 |x::xs,hw,k+1,h=>by rw[clL_cons] at hw;rw[List.getD_cons_succ];exact clL_at xs hw.2 k (by simpa using h)
theorem pl_two {Nm:List UInt8→Prop} {Nu:Int→Int→Prop} {gs:List Fn1} (hg:∀ g∈gs,Ty3 g.ty∧∀ x∈g.pms,Ty3 x.ty):∀ (n:Nat) (x:Ex) (t:Int),wfE Nm Nu x→clE gs x→Ty3 t→plE (wntT (funF gs)) x t n=plE (wntR gs) x t n∧Ty3 (plE (wntR gs) x t n).2∧wfE Nm Nu (plE (wntR gs) x t n).1:=by
 intro n
 induction n using Nat.strongRecOn with
 |ind n ih=>
  intro x t hw hc ht
  obtain⟨op,a,b,ty,p,q,xs,j⟩:=x
  by_cases hs:n=0∨xs.length=0
  ·rw[plE_stop _ t hs,plE_stop _ t hs]
   exact⟨rfl,ht,hw⟩
  ·rw[wfE_mk] at hw
   rw[clE_mk] at hc
   have hk:n % xs.length<xs.length:=Nat.mod_lt _ (by omega)
   have hwn:=wnt_two hg hw.1 hc.1 hk ht
   rw[plE_go _ t hs,plE_go _ t hs,hwn.1]
   exact ih (n / 3) (by omega) _ _ (wfL_at xs hw.2 _ hk) (clL_at xs hc.2 _ hk) hwn.2
/-! Names. -/
theorem sn_in {gs:List Fn1} {y:Ex} (hy:∀ env,(snE env y).flatMap (snF gs)=[]):∀ (n:Nat) (x:Ex) (env:List (List UInt8)),(snE env x).flatMap (snF gs)=[]→(snE env (inE y x n)).flatMap (snF gs)=[]:=by
 intro n
 induction n using Nat.strongRecOn with
 |ind n ih=>
  intro x env h
  obtain⟨op,a,b,ty,p,q,xs,j⟩:=x
  by_cases hs:n=0∨xs.length=0
  ·rw[inE_stop _ hs];exact hy env
  ·rw[inE_go _ hs]
   rw[snE_mk,List.flatMap_append,List.append_eq_nil_iff] at h ⊢
   obtain⟨h1,h2⟩:=h
   constructor
   ·unfold snO at h1 ⊢
    split at h1
    ·rename_i hc
     rw[if_pos hc]
     simp only[List.flatMap_cons,List.flatMap_nil,List.append_nil] at h1 ⊢
     unfold snF at h1 ⊢
     dsimp only at h1 ⊢
     rw[List.length_set]
     exact h1
    ·rename_i hc
     rw[if_neg hc]
     rfl
   ·have gen:∀ (ys:List Ex) (i k:Nat),k<ys.length→(snL env op a b i ys).flatMap (snF gs)=[]→(snL env op a b i (ys.set k (inE y (ys.getD k ed) (n / 3)))).flatMap (snF gs)=[]:=by
     intro ys
     induction ys with
     |nil=>intro i k hk;simp at hk
     |cons z ys ih2=>
      intro i k hk hz
      rw[snL_cons,List.flatMap_append,List.append_eq_nil_iff] at hz
      cases k with
      |zero=>
       rw[List.set_cons_zero,snL_cons,List.flatMap_append,List.append_eq_nil_iff]
       exact⟨by simpa using ih (n / 3) (by omega) z _ hz.1,hz.2⟩
      |succ k=>
       rw[List.set_cons_succ,snL_cons,List.flatMap_append,List.append_eq_nil_iff]
       exact⟨hz.1,by simpa using ih2 (i+1) k (by simpa using hk) hz.2⟩
    exact gen xs 0 _ (Nat.mod_lt _ (by omega)) h2
/-! A program with another body. -/
def hdO (g:Fn1):List UInt8 × List Pm × Int × Nat:=(g.name,g.pms,g.ty,g.pos)
def bodS (gs:List Fn1) (k:Nat) (z:Ex):List Fn1:=gs.set k { gs.getD k fd with body:=z }
section
variable {gs:List Fn1} {k:Nat} {z:Ex}
theorem bodS_len:(bodS gs k z).length=gs.length:=by unfold bodS;simp
theorem bodS_at (hk:k<gs.length) (j:Nat):(bodS gs k z).getD j fd=if j=k then { gs.getD k fd with body:=z } else gs.getD j fd:=by
 unfold bodS
 rw[List.getD_eq_getElem?_getD,List.getElem?_set]
 by_cases h:k=j
 ·subst h
  rw[if_pos rfl,if_pos rfl,if_pos hk]
  rfl
 ·rw[if_neg h,if_neg (fun e=>h e.symm),List.getD_eq_getElem?_getD]
theorem bodS_hd (j:Nat):hdO ((bodS gs k z).getD j fd)=hdO (gs.getD j fd):=by
 by_cases hk:k<gs.length
 ·rw[bodS_at hk]
  split
  ·rename_i e
   subst e
   rfl
  ·rfl
 ·unfold bodS
  rw[List.set_eq_of_length_le (by omega)]
theorem bodS_map:(bodS gs k z).map hdO=gs.map hdO:=by
 apply List.ext_getElem
 ·simp[bodS_len]
 ·intro j h1 h2
  rw[List.length_map] at h1 h2
  have:=bodS_hd (gs:=gs) (k:=k) (z:=z) j
  rw[List.getD_eq_getElem?_getD,List.getElem?_eq_getElem h1,List.getD_eq_getElem?_getD,List.getElem?_eq_getElem h2] at this
  rw[List.getElem_map,List.getElem_map]
  exact this
theorem hdN_map (gs:List Fn1) (s:List UInt8):hdN gs s=match (gs.map hdO).findIdx? (fun h=>h.1==s) with|some i=>(i:Int)|none=>-1:=by
 unfold hdN
 rw[List.findIdx?_map]
 rfl
theorem bodS_hdN (s:List UInt8):hdN (bodS gs k z) s=hdN gs s:=by rw[hdN_map,hdN_map,bodS_map]
theorem bodS_pms (j:Nat):((bodS gs k z).getD j fd).pms=(gs.getD j fd).pms:=congrArg (fun h=>h.2.1) (bodS_hd j)
theorem bodS_name (j:Nat):((bodS gs k z).getD j fd).name=(gs.getD j fd).name:=congrArg (fun h=>h.1) (bodS_hd j)
theorem bodS_pos (j:Nat):((bodS gs k z).getD j fd).pos=(gs.getD j fd).pos:=congrArg (fun h=>h.2.2.2) (bodS_hd j)
theorem bodS_snF:snF (bodS gs k z)=snF gs:=by
 funext e
 obtain⟨⟨op,a,b,t,p,q,xs,i⟩,fr⟩:=e
 unfold snF calF
 dsimp only
 rw[bodS_hdN,bodS_pms]
theorem bodS_headF (j:Nat):headF (bodS gs k z) j=headF gs j:=by
 unfold headF
 rw[bodS_hdN,bodS_name,bodS_pos]
theorem ft_nil:ftP gs=[]↔∀ j,j<gs.length→headF gs j=[]∧prmK (gs.getD j fd).pms (gs.getD j fd).pms.length=[]∧bodF gs (gs.getD j fd)=[]:=by
 unfold ftP fnK
 rw[List.flatMap_eq_nil_iff]
 simp only[List.mem_range]
 unfold fnF
 simp only[List.append_eq_nil_iff]
theorem ft_body (h:ftP gs=[]) (hb:(snE ((gs.getD k fd).pms.map (·.name)) z).flatMap (snF gs)=[]):ftP (bodS gs k z)=[]:=by
 rw[ft_nil] at h ⊢
 intro j hj
 rw[bodS_len] at hj
 obtain⟨h1,h2,h3⟩:=h j hj
 rw[bodS_headF,bodS_pms]
 refine⟨h1,h2,?_⟩
 unfold bodF at h3 ⊢
 rw[bodS_pms,bodS_snF]
 by_cases hk:k<gs.length
 ·rw[bodS_at hk]
  split
  ·rename_i e
   subst e
   exact hb
  ·exact h3
 ·unfold bodS
  rw[List.set_eq_of_length_le (by omega)]
  exact h3
end
theorem sc_ft {gs:List Fn1} (h:(scP gs).1=0):ftP gs=[]:=by
 rw[scP_tl] at h
 obtain⟨L,hL⟩:∃ L,L=(List.range gs.length).flatMap (headF gs)++(List.range gs.length).flatMap (inF gs):=⟨_,rfl⟩
 rw[← hL] at h
 have hm:∀ f∈L,f∈ftP gs:=by
  intro f hf
  rw[hL,List.mem_append,List.mem_flatMap,List.mem_flatMap] at hf
  unfold ftP fnK
  rw[List.mem_flatMap]
  rcases hf with⟨j,hj,hf⟩|⟨j,hj,hf⟩
  ·exact⟨j,hj,List.mem_append.2 (.inl hf)⟩
  ·exact⟨j,hj,List.mem_append.2 (.inr hf)⟩
 by_cases he:L=[]
 ·rw[he] at hL
  have hL:=hL.symm
  rw[List.append_eq_nil_iff,List.flatMap_eq_nil_iff,List.flatMap_eq_nil_iff] at hL
  rw[ft_nil]
  intro j hj
  have h2:=hL.2 j (List.mem_range.2 hj)
  unfold inF at h2
  rw[List.append_eq_nil_iff] at h2
  exact⟨hL.1 j (List.mem_range.2 hj),h2.1,h2.2⟩
 ·have:=tlP_least (fs:=L) (fun f hf=>ftP_why gs f (hm f hf)) he
  exact absurd h (ftP_why gs _ (hm _ this.1))
theorem ft_sc {gs:List Fn1} (h:ftP gs=[]):(scP gs).1=0:=scP_no (by rw[h];rfl)
theorem ft_cl {gs:List Fn1} (h0:ftP gs=[]):∀ g∈gs,clE gs g.body:=by
 intro g hg
 obtain⟨k,hk,rfl⟩:=List.mem_iff_getElem.1 hg
 have h1:=(ft_nil.1 h0 k hk).2.2
 unfold bodF at h1
 rw[List.getD_eq_getElem?_getD,List.getElem?_eq_getElem hk] at h1
 exact cl_E gs _ _ h1
/-! Types. -/
theorem hdF_map (gs:List Fn1) (s:List UInt8):(hdF gs s).map hdO=(gs.map hdO).find? (fun h=>h.1==s):=by
 unfold hdF
 rw[List.find?_map]
 rfl
theorem fun_hdO {gs:List Fn1} {k:Nat} {z:Ex} (s:List UInt8):(funF (bodS gs k z) s).map hdO=(funF gs s).map hdO:=by
 rw[funF_hd,funF_hd,hdF_map,hdF_map,bodS_map]
theorem callT_map {ff ff':List UInt8→Option Fn1} (h:∀ s,(ff' s).map hdO=(ff s).map hdO) (s:List UInt8) (n:Nat):callT ff' s n=callT ff s n:=by
 unfold callT
 have:=h s
 cases e1:ff' s<;>cases e2:ff s
 ·rfl
 ·rw[e1,e2] at this;cases this
 ·rw[e1,e2] at this;cases this
 ·rw[e1,e2] at this
  have e:hdO _=hdO _:=Option.some.inj this
  unfold hdO at e
  simp only[Prod.mk.injEq] at e
  dsimp only
  rw[e.2.1,e.2.2.1]
theorem argT_map {ff ff':List UInt8→Option Fn1} (h:∀ s,(ff' s).map hdO=(ff s).map hdO) (s:List UInt8) (n:Nat):argT ff' s n=argT ff s n:=by
 unfold argT
 have:=h s
 cases e1:ff' s<;>cases e2:ff s
 ·rfl
 ·rw[e1,e2] at this;cases this
 ·rw[e1,e2] at this;cases this
 ·rw[e1,e2] at this
  have e:hdO _=hdO _:=Option.some.inj this
  unfold hdO at e
  simp only[Prod.mk.injEq] at e
  dsimp only
  rw[e.2.1]
mutual
theorem wt_ff {ff ff':List UInt8→Option Fn1} (h:∀ s,(ff' s).map hdO=(ff s).map hdO):∀ (x:Ex) (tf:List UInt8→Int) (t:Int) (r:Int × Int),wtE ff' tf x t r=wtE ff tf x t r
 |.mk op name tail ty p q xs i,tf,t,r=>by
  rw[wtE_mk,wtE_mk]
  have e:seeT ff' tf op name ty xs.length t i r=seeT ff tf op name ty xs.length t i r:=by
   unfold seeT ownT
   rw[callT_map h]
  rw[e]
  exact wt_ffL h tf op name tail ty t xs 0 _
theorem wt_ffL {ff ff':List UInt8→Option Fn1} (h:∀ s,(ff' s).map hdO=(ff s).map hdO) (tf:List UInt8→Int) (op:Int) (name tail:List UInt8) (ty t:Int):∀ (xs:List Ex) (i:Nat) (r:Int × Int),wtL ff' tf op name tail ty t i xs r=wtL ff tf op name tail ty t i xs r
 |[],i,r=>by rw[wtL_nil,wtL_nil]
 |x::xs,i,r=>by
  have e:wntT ff' op name ty i t=wntT ff op name ty i t:=by
   unfold wntT
   rw[argT_map h]
  rw[wtL_cons,wtL_cons,e,wt_ff h x,wt_ffL h tf op name tail ty t xs (i+1)]
end
theorem lkL_cons (ff:List UInt8→Option Fn1) (g:Fn1) (gs:List Fn1) (p:Int × Int):lkL ff (g::gs) p=lkL ff gs (lkT ff g.pms g.body g.ty p):=rfl
theorem lk_ff {ff ff':List UInt8→Option Fn1} (h:∀ s,(ff' s).map hdO=(ff s).map hdO):∀ (gs:List Fn1) (p:Int × Int),lkL ff' gs p=lkL ff gs p
 |[],_=>rfl
 |g::gs,p=>by
  rw[lkL_cons,lkL_cons]
  unfold lkT
  rw[wt_ff h]
  exact lk_ff h gs _
theorem lk_id {ff:List UInt8→Option Fn1}:∀ (gs:List Fn1) (p:Int × Int),(∀ g∈gs,okE ff (bindT (fun _=>0) g.pms) g.body g.ty)→lkL ff gs p=p
 |[],_,_=>rfl
 |g::gs,p,h=>by
  rw[lkL_cons]
  unfold lkT
  rw[wt_id _ _ _ _ (h g (by simp))]
  exact lk_id gs p fun x hx=>h x (by simp[hx])
theorem lk_set {ff:List UInt8→Option Fn1} (g':Fn1):∀ (gs:List Fn1) (k:Nat) (p:Int × Int),k<gs.length→(∀ g∈gs,okE ff (bindT (fun _=>0) g.pms) g.body g.ty)→lkL ff (gs.set k g') p=lkT ff g'.pms g'.body g'.ty p
 |[],_,_,h,_=>by simp at h
 |g::gs,0,p,_,h=>by
  rw[List.set_cons_zero,lkL_cons,lk_id gs _ fun x hx=>h x (by simp[hx])]
 |g::gs,k+1,p,hk,h=>by
  rw[List.set_cons_succ,lkL_cons]
  have e:lkT ff g.pms g.body g.ty p=p:=by unfold lkT;exact wt_id _ _ _ _ (h g (by simp))
  rw[e]
  exact lk_set g' gs k p (by simpa using hk) fun x hx=>h x (by simp[hx])
theorem ty_sound {gs:List Fn1} (h:(tyP gs).1=0):ftP gs=[]∧(∀ g∈gs,okE (funF gs) (bindT (fun _=>0) g.pms) g.body g.ty)∧tyP gs=(0,0):=by
 have hs:(scP gs).1=0:=by
  refine Classical.byContradiction fun k=>?_
  unfold tyP at h
  rw[if_neg k] at h
  exact k h
 have hk:=(tyP_ok gs hs).1 h
 refine⟨sc_ft hs,hk,?_⟩
 unfold tyP
 rw[if_pos hs,lk_id gs _ hk]
theorem fail_ty {Nm:List UInt8→Prop} {Nu:Int→Int→Prop} {gs:List Fn1} (hw:∀ g∈gs,WfF Nm Nu g) (h0:(tyP gs).1=0) {k:Nat} (hk:k<gs.length) (n:Nat) (u:Int) (i:Nat) :
  tyP (bodS gs k (inE (flE u i) (gs.getD k fd).body n))=if u=(plE (wntR gs) (gs.getD k fd).body (gs.getD k fd).ty n).2 then (0,0) else (34,(i:Int)):=by
 obtain⟨hf,hok,_⟩:=ty_sound h0
 have hg:∀ g∈gs,Ty3 g.ty∧∀ x∈g.pms,Ty3 x.ty:=fun g hg=>⟨(hw g hg).ty,fun x hx=>((hw g hg).pms x hx).2⟩
 have hm:gs.getD k fd∈gs:=by
  rw[List.getD_eq_getElem?_getD,List.getElem?_eq_getElem hk]
  exact List.getElem_mem hk
 have hf2:ftP (bodS gs k (inE (flE u i) (gs.getD k fd).body n))=[]:=by
  refine ft_body hf (sn_in ?_ n _ _ ?_)
  ·intro env
   unfold flE
   rw[snE_mk]
   rfl
  ·exact (ft_nil.1 hf k hk).2.2
 unfold tyP
 rw[if_pos (ft_sc hf2),lk_ff fun_hdO]
 unfold bodS
 rw[lk_set _ gs k _ hk hok]
 unfold lkT
 dsimp only
 rw[wt_in u i n _ _ _ _ (hok _ hm),(pl_two hg n _ _ (hw _ hm).body (ft_cl hf _ hm) (hw _ hm).ty).1]
 rfl
theorem bodS_self {gs:List Fn1} {k:Nat}:bodS gs k (gs.getD k fd).body=gs:=by
 by_cases hk:k<gs.length
 ·apply List.ext_getElem
  ·exact bodS_len
  ·intro j h1 h2
   have:=bodS_at (z:=(gs.getD k fd).body) hk j
   rw[List.getD_eq_getElem?_getD,List.getElem?_eq_getElem h1] at this
   have e:(bodS gs k (gs.getD k fd).body)[j]=_:=this
   rw[e]
   split
   ·rename_i e2
    subst e2
    rw[List.getD_eq_getElem?_getD,List.getElem?_eq_getElem h2]
    rfl
   ·rw[List.getD_eq_getElem?_getD,List.getElem?_eq_getElem h2]
    rfl
 ·unfold bodS
  rw[List.set_eq_of_length_le (by omega)]
end Go.Proofs.Ytkbglnhdbnijlaa
namespace Go.Proofs.Ytkbglnhdbnijlaa
open Go.RowKit Go.Maps
set_option maxRecDepth 100000
set_option maxHeartbeats 2000000 in
theorem place_any {w:World} {A:Nat→Prop} {ao:Option Addr} {gs:List Fn1} {c:Nat} (hF:FlW w A ao gs) (hA:∀ k,A k→k<w.heap.size) (hgs:gs.length≤1073741824) {x:Ex} {us:List Value} (hx:ExW w A x us) (hw:lnE x) (_hsz:szE x≤1048576) (t path:Int) (hp1:-9223372036854775808≤path) (hp2:path≤9223372036854775807) :
  Calls Try.prog 15 #[.agg #[.slice ao gs.length c],.agg us.toArray,.int .i64 t,.int .i64 path] w fun e w'=>(∃ vs,e=.returned (.tuple #[.agg vs.toArray,.int .i64 (plE (wntR gs) x t path.toNat).2])∧ExW w' A (plE (wntR gs) x t path.toNat).1 vs)∧Below w.heap.size w w':=by
 obtain⟨u0,u1,u2,u3,u4,u5,u6,rfl⟩:=list7 hx.len
 obtain⟨n0,hn0⟩:∃ n0,n0=path.toNat:=⟨_,rfl⟩
 obtain⟨Q,hQ⟩:∃ Q,Q=plE (wntR gs) x t n0:=⟨_,rfl⟩
 rw[← hn0,← hQ]
 have HQ0:Hid (plE (wntR gs) x t n0=Q):=hQ.symm
 clear hQ
 have hb0:=Below.thn (below_two w (.cells #[.slice ao gs.length c] 26) (.cells #[u0,u1,u2,u3,u4,u5,u6] 40)) (below_alloc _ (.cells #[.int .i64 0,.string ⟨#[]⟩,.string ⟨#[]⟩,.int .i64 0,.complex .f64 0 0,.slice none 0 0,.int .i64 0] 40))
 have hL0:=((Bk.new w 26 #[.slice ao gs.length c]).up (below_alloc _ (.cells #[u0,u1,u2,u3,u4,u5,u6] 40))).up (below_alloc _ (.cells #[.int .i64 0,.string ⟨#[]⟩,.string ⟨#[]⟩,.int .i64 0,.complex .f64 0 0,.slice none 0 0,.int .i64 0] 40))
 have hE0:=(Bk.newAt (w:=w.alloc (.cells #[.slice ao gs.length c] 26)) (n:=w.heap.size+1) 40 #[u0,u1,u2,u3,u4,u5,u6] (by simp)).up (below_alloc _ (.cells #[.int .i64 0,.string ⟨#[]⟩,.string ⟨#[]⟩,.int .i64 0,.complex .f64 0 0,.slice none 0 0,.int .i64 0] 40))
 have hR0:=Bk.newAt (w:=(w.alloc (.cells #[.slice ao gs.length c] 26)).alloc (.cells #[u0,u1,u2,u3,u4,u5,u6] 40)) (n:=w.heap.size+2) 40 #[.int .i64 0,.string ⟨#[]⟩,.string ⟨#[]⟩,.int .i64 0,.complex .f64 0 0,.slice none 0 0,.int .i64 0] (by simp)
 go_enter Try.func15,Try.ntmps15
 go_upto_region 1 with fail
 obtain⟨W,hW⟩:∃ W,W=((w.alloc (.cells #[.slice ao gs.length c] 26)).alloc (.cells #[u0,u1,u2,u3,u4,u5,u6] 40)).alloc (.cells #[.int .i64 0,.string ⟨#[]⟩,.string ⟨#[]⟩,.int .i64 0,.complex .f64 0 0,.slice none 0 0,.int .i64 0] 40):=⟨_,rfl⟩
 rw[← hW] at hb0 hL0 hE0 hR0 ⊢
 clear hW
 have hWs:w.heap.size+2<W.heap.size:=hR0.lt
 have hnb:n0≤9223372036854775807:=by omega
 have e0:max path 0=(n0:Int):=by omega
 have hxW:=hx.up hb0
 have hFW:=hF.up hb0
 obtain⟨bE,hbE⟩:∃ bE,bE=w.heap.size+1:=⟨_,rfl⟩
 obtain⟨bR,hbR⟩:∃ bR,bR=w.heap.size+1+1:=⟨_,rfl⟩
 have hE1:Bk W bE 40 [u0,u1,u2,u3,u4,u5,u6]:=by rw[hbE];exact hE0
 have hR1:Bk W bR 40 [.int .i64 0,.string ⟨#[]⟩,.string ⟨#[]⟩,.int .i64 0,.complex .f64 0 0,.slice none 0 0,.int .i64 0]:=by rw[hbR];exact hR0
 rw[← hbR,← hbE]
 have hbs:w.heap.size<bE∧bE<bR∧bR<W.heap.size:=by omega
 have HA:Hid (∀ k,A k→k<w.heap.size):=hA
 have HB0:Hid (Below w.heap.size w W):=hb0
 clear hbE hbR hE0 hR0 hn0 hA hF hx hWs hb0
 go_wp2_with fail
 clear e0
 go_loopw [2,10] (fun tv nv wr=>∃ (n:Nat) (u:Int) (z:Ex) (zs:List Value),tv=.int .i64 u∧nv=.int .i64 n∧n≤9223372036854775807∧Bk wr bE 40 zs∧ExW wr A z zs∧Hid (plE (wntR gs) z u n=Q)∧lnE z∧ButS (·=bE) W wr) (fun _ nv _=>(intOf nv).toNat)
 case atStart=>exact⟨n0,t,x,_,rfl,rfl,hnb,hE1,hxW,HQ0,hw,.refl _ _⟩
 case round=>
  obtain⟨n,u,z,zs,rfl,rfl,hn,hBk,hxz,HPL,hlz,hU⟩:=hrel
  have hwr:=hU.size
  have hLk:=hU.bk hL0 (by omega)
  have hRk:=hU.bk hR1 (by omega)
  have hFk:FlW wr A ao gs:=hFW.keep2 hU.size fun j h hl=>hU.block j hl (by have:=HA.out j h;omega)
  have p0:wr.cell? ⟨w.heap.size,0,none⟩=some (.slice ao gs.length c):=hLk.cell 0
  cases hxz with
  |mk hel=>
   rename_i op name tail ty p q xs i a5 c5
   unfold lnE at hlz
   rw[wfE_mk] at hlz
   obtain⟨v4,hv4⟩:∃ v4,v4=Value.complex .f64 (fl p) (fl q):=⟨_,rfl⟩
   rw[← hv4] at hBk
   have HV4:Hid (v4=Value.complex .f64 (fl p) (fl q)):=hv4
   clear hv4
   obtain⟨d0,d1,d2,d3,d4,d5,d6⟩:=Bk.seven hBk
   by_cases hs:n=0∨xs.length=0
   ·have HE:Hid (Q=(.mk op name tail ty p q xs i,u)):=by rw[← HPL.out];exact plE_stop _ u hs
    have HEL:Hid (ElW wr A a5 xs):=hel
    have HBw:Hid (Below w.heap.size w wr):=⟨hU.os.trans HB0.out.os,hU.tape.trans HB0.out.tape,hU.output.trans HB0.out.output,Nat.le_trans HB0.out.size hU.size,fun k hk=>(hU.block k (by have:=HB0.out.size;omega) (by omega)).trans (HB0.out.block k hk)⟩
    obtain⟨v6,hv6⟩:∃ v6,v6=Value.int .i64 (i:Int):=⟨_,rfl⟩
    rw[← hv6] at d6 hBk
    have HV6:Hid (v6=Value.int .i64 (i:Int)):=hv6
    clear hel hv6 hU
    go_upto_region 2 with fail
    go_cut [21] (fun v wx=>v=.bool false∧wx=wr)
    case first=>
     by_cases hn0:n=0
     ·subst hn0
      go_wp2_with fail
      go_meet
      case rel=>exact⟨rfl,rfl⟩
     ·have hx0:xs.length=0:=by omega
      have g1:(0:Int)<(n:Int):=by omega
      rw[hx0] at d5
      clear hx0 hn hs
      go_wp2_with fail
      go_meet
      case rel=>exact⟨rfl,rfl⟩
    case rest=>
     obtain⟨rfl,rfl⟩:=hcut
     have hk:=hRk
     go_wp2_with (refine wpList_storeN rfl 40 (.tmp 8) (.tmp 39) rfl bR 0 [.int .i64 op,.string (bs name),.string (bs tail),.int .i64 ty,v4,.slice a5 xs.length c5,v6] rfl rfl hk (Nat.le_refl 7) Try.infoE (by intro v hv;simp only[List.mem_cons,List.not_mem_nil,or_false] at hv;rcases hv with rfl|rfl|rfl|rfl|rfl|rfl|rfl<;>first|rfl|(rw[HV4.out];rfl)|(rw[HV6.out];rfl)) ?_;intro w9 hB9 hO9)
     have hB9':Bk w9 bR 40 [.int .i64 op,.string (bs name),.string (bs tail),.int .i64 ty,v4,.slice a5 xs.length c5,v6]:=hB9
     obtain⟨c0,c1,c2,c3,c4,c5',c6⟩:=Bk.seven hB9'
     have hbw:Below w.heap.size w w9:=HBw.out.trans (hO9.below (by omega))
     have hex:ExW w9 A (.mk op name tail ty p q xs i) [.int .i64 op,.string (bs name),.string (bs tail),.int .i64 ty,v4,.slice a5 xs.length c5,v6]:=by
      rw[HV4.out,HV6.out]
      exact .mk (HEL.out.keep fun b hb _=>hO9.block b (by have:=HA.out b hb;omega))
     exact bodyPost_ret (v:=.tuple #[.agg #[.int .i64 op,.string (bs name),.string (bs tail),.int .i64 ty,v4,.slice a5 xs.length c5,v6],.int .i64 u]) (by simp[results,Try.results15,go_sem,c0,c1,c2,c3,c4,c5',c6]) rfl ⟨⟨_,by rw[HE.out],by rw[HE.out];exact hex⟩,hbw⟩
   ·obtain⟨k,hk⟩:∃ k,k=n % xs.length:=⟨_,rfl⟩
    obtain⟨m,hm⟩:∃ m,m=n / 3:=⟨_,rfl⟩
    have hkl:k<xs.length:=by rw[hk];exact Nat.mod_lt _ (by omega)
    have HE:Hid (plE (wntR gs) (xs.getD k ed) (wntR gs op name ty k u) m=Q):=by rw[← HPL.out,hk,hm];exact (plE_go _ u hs).symm
    have g1:(0:Int)<(n:Int):=by omega
    have g2:(0:Int)<(xs.length:Int):=by omega
    have g3:¬ (xs.length:Int)=0:=by omega
    have r1:Int.tmod (n:Int) (xs.length:Int)=(k:Int):=by rw[hk];exact (Int.ofNat_tmod n xs.length).symm
    have r2:Int.tdiv (n:Int) 3=(m:Int):=by rw[hm];exact (Int.ofNat_tdiv n 3).symm
    have hmn:m<n:=by omega
    have hw1:=hlz.1
    have hop:=shp_ops hw1
    have hwp:=wfL_at xs hlz.2 k hkl
    clear hk hm hs HPL hlz
    obtain⟨v6,hv6⟩:∃ v6,v6=Value.int .i64 (i:Int):=⟨_,rfl⟩
    rw[← hv6] at d6 hBk
    clear hv6 HV4
    have m1:=wanted07_any (c:=c) hFk (fun j h=>by have:=HA.out j h;omega) hgs op name tail ty v4 (.slice a5 xs.length c5) v6 k u hop
    have HWP:Hid (lnE (xs.getD k ed)):=hwp
    clear hop hw1 hwp
    go_wp2_with fail
    refine m1.mono ?_
    rintro e w6 ⟨rfl,hb6⟩
    obtain⟨b5,o5,rfl,hA5⟩:∃ b o,a5=some ⟨b,o,none⟩∧A b:=by
     cases hel with
     |nil=>simp at hkl
     |cons h1 h2 h3 h4=>exact⟨_,_,rfl,h1⟩
    have hB6:=hBk.up hb6
    have hU6:=hU.trans (.below hb6)
    have hw6:=hb6.size
    obtain⟨vs,hr,hxv⟩:=(hel.up hb6).at k hkl
    obtain⟨y0,y1,y2,y3,y4,y5,y6,rfl⟩:=list7 hxv.len
    have r0:w6.cell? ⟨b5,o5+k*7,none⟩=some y0:=hr 0 _ rfl
    have r3:w6.cell? ⟨b5,o5+k*7+1,none⟩=some y1:=hr 1 _ rfl
    have r4:w6.cell? ⟨b5,o5+k*7+2,none⟩=some y2:=hr 2 _ rfl
    have r5:w6.cell? ⟨b5,o5+k*7+3,none⟩=some y3:=hr 3 _ rfl
    have r6:w6.cell? ⟨b5,o5+k*7+4,none⟩=some y4:=hr 4 _ rfl
    have r7:w6.cell? ⟨b5,o5+k*7+5,none⟩=some y5:=hr 5 _ rfl
    have r8:w6.cell? ⟨b5,o5+k*7+6,none⟩=some y6:=hr 6 _ rfl
    have e5:w6.cell? ⟨bE,5,none⟩=some (.slice (some ⟨b5,o5,none⟩) xs.length c5):=hB6.cell 5
    have hone:=hxv.one
    have h5w:=HA.out b5 hA5
    clear m1 p0 d0 d1 d2 d3 d4 d5 d6 hBk hU hr hb6 hel hFk hLk hRk
    go_wp2_with (refine wpList_storeN rfl 40 (.tmp 5) (.tmp 38) rfl bE 0 [y0,y1,y2,y3,y4,y5,y6] rfl rfl hB6 (Nat.le_refl 7) Try.infoE hone ?_;intro w9 hB9 hO9)
    have hB9':Bk w9 bE 40 [y0,y1,y2,y3,y4,y5,y6]:=hB9
    have hU9:=hU6.trans (.oth hO9)
    have hx9:ExW w9 A (xs.getD k ed) [y0,y1,y2,y3,y4,y5,y6]:=hxv.keep fun b hb _=>hO9.block b (by have:=HA.out b hb;omega)
    go_roundw
    case rel=>exact⟨m,_,_,_,rfl,by go_num,by omega,hB9',hx9,HE,HWP.out,hU9⟩
    case measure=>simp[intOf];omega
end Go.Proofs.Ytkbglnhdbnijlaa
