/-
  2 texts in one: what each proves stands at its head.
-/
import Derived.Test.YtkbglnhdbnijlaaUja
import Derived.Deep.RegionHeld3
import Derived.Deep.DeepCutAuto
import Derived.BigQuiet
import Derived.Test.YtkbglnhdbnijlaaUjb
import Derived.Test.YtkbglnhdbnijlaaUp
import Derived.Test.YtkbglnhdbnijlaaUr
namespace Go.Proofs.Ytkbglnhdbnijlaa
open Go.RowKit
set_option maxRecDepth 100000
def ivL (zs:List Int):List Value:=zs.map fun z=>Value.int .i64 z
def IvO (w:World) (B:Nat) (v:Value) (zs:List Int):Prop:=w.ownsRow B 3 1 v zs.length (ivL zs)
theorem IvO.nil (w:World) (B:Nat):IvO w B (.slice none 0 0) []:=World.ownsRow_nil _ _ _ _
theorem IvO.up {w w':World} {B:Nat} {v:Value} {zs:List Int} (h:IvO w B v zs) (hb:Below w.heap.size w w'):IvO w' B v zs:=owns_keep h fun b hk=>hb.block b (owns_has h b hk).2
theorem IvO.row {w:World} {B:Nat} {v:Value} {zs:List Int} (h:IvO w B v zs):∃ ao cap,v=.slice ao zs.length cap∧((ao=none∧cap=0∧zs=[])∨∃ g,ao=some ⟨g,0,none⟩∧B≤g∧g<w.heap.size∧∀ j u,(ivL zs)[j]?=some u→w.cell? ⟨g,j,none⟩=some u):=by
 rcases h.2 with⟨rfl,h0⟩|⟨g,c,cur,rfl,hb,hg,h1,h2,h3,h4⟩
 ·have e:=List.length_eq_zero_iff.1 h0
  subst e
  exact⟨none,0,rfl,.inl ⟨rfl,rfl,rfl⟩⟩
 ·refine⟨_,c,rfl,.inr ⟨g,rfl,hb,(Array.getElem?_eq_some_iff.1 hg).1,fun j u hj=>?_⟩⟩
  have hl:j<(ivL zs).length:=(List.getElem?_eq_some_iff.1 hj).1
  have h5:(cur.toList.take (zs.length*1))[j]?=some u:=by rw[h4];exact hj
  rw[List.getElem?_take_of_lt (by simpa [ivL] using hl)] at h5
  unfold World.cell?
  simp only[hg]
  simpa using h5
section
variable (gs:List Fn1) (l:List Pa) (op:Int) (name tail:List UInt8) (ty t:Int)
end
end Go.Proofs.Ytkbglnhdbnijlaa
namespace Go.Proofs.Ytkbglnhdbnijlaa
mutual
def clE (gs:List Fn1):Ex→Prop
 |.mk op name _ _ _ _ xs _=>(op=7→∃ g,hdF gs name=some g∧g.pms.length=xs.length)∧clL gs xs
def clL (gs:List Fn1):List Ex→Prop
 |[]=>True
 |x::xs=>clE gs x∧clL gs xs
end
theorem clE_mk (gs:List Fn1) (op:Int) (name tail:List UInt8) (ty p q:Int) (xs:List Ex) (i:Nat):clE gs (.mk op name tail ty p q xs i)↔(op=7→∃ g,hdF gs name=some g∧g.pms.length=xs.length)∧clL gs xs:=by rw[clE]
theorem clL_cons (gs:List Fn1) (x:Ex) (xs:List Ex):clL gs (x::xs)↔clE gs x∧clL gs xs:=by rw[clL]
theorem cal_no {gs:List Fn1} {name:List UInt8} {n i:Nat} (h:calF gs name n i=[]):∃ g,hdF gs name=some g∧g.pms.length=n:=by
 unfold calF at h
 have hh:=hdN_find gs name
 by_cases e:hdN gs name<0
 ·rw[if_pos e] at h
  cases h
 ·rw[if_neg e] at h
  have h2:=hh.2 e
  by_cases e2:(gs.getD (hdN gs name).toNat fd).pms.length≠n
  ·rw[if_pos e2] at h
   cases h
  ·have e2:(gs.getD (hdN gs name).toNat fd).pms.length=n:=by simpa using e2
   rw[e2] at h2
   unfold cntF at h2
   unfold hdF
   obtain⟨g,h3,h4⟩:=Option.map_eq_some_iff.1 h2
   exact⟨g,h3,h4⟩
mutual
theorem cl_E (gs:List Fn1):∀ (x:Ex) (env:List (List UInt8)),(snE env x).flatMap (snF gs)=[]→clE gs x
 |.mk op name tail ty p q xs i,env,h=>by
  rw[snE_mk,List.flatMap_append,List.append_eq_nil_iff] at h
  rw[clE_mk]
  refine⟨fun e=>?_,cl_L gs xs env op name tail 0 h.2⟩
  subst e
  have h1:=h.1
  unfold snO at h1
  rw[if_pos (.inr rfl)] at h1
  refine cal_no (i:=i) ?_
  simpa [snF] using h1
theorem cl_L (gs:List Fn1):∀ (xs:List Ex) (env:List (List UInt8)) (op:Int) (name tail:List UInt8) (j:Nat),(snL env op name tail j xs).flatMap (snF gs)=[]→clL gs xs
 |[],_,_,_,_,_,_=>by rw[clL];trivial
 |x::xs,env,op,name,tail,j,h=>by
  rw[snL_cons,List.flatMap_append,List.append_eq_nil_iff] at h
  rw[clL_cons]
  exact⟨cl_E gs x _ h.1,cl_L gs xs env op name tail (j+1) h.2⟩
end
theorem funF_gen:∀ (gs:List Fn1) (ff:List UInt8→Option Fn1) (s:List UInt8),gs.foldl addF ff s=match ff s with|some g=>some g|none=>hdF gs s
 |[],ff,s=>by
  show ff s=_
  cases ff s<;>rfl
 |g::gs,ff,s=>by
  rw[List.foldl_cons,funF_gen gs _ s]
  unfold addF
  cases hf:ff g.name with
  |some m=>
   dsimp only
   cases hs:ff s with
   |some k=>rfl
   |none=>
    have:¬ g.name=s:=by intro e;rw[e,hs] at hf;cases hf
    simp[hdF,this]
  |none=>
   dsimp only
   unfold setF
   by_cases e:s=g.name
   ·subst e
    rw[if_pos rfl,hf]
    simp[hdF]
   ·have e':¬ g.name=s:=fun h=>e h.symm
    rw[if_neg e]
    cases hs:ff s with
    |some m=>rfl
    |none=>simp[hdF,e']
theorem funF_hd (gs:List Fn1) (s:List UInt8):funF gs s=hdF gs s:=funF_gen gs _ s
theorem hdF_mem {gs:List Fn1} {s:List UInt8} {g:Fn1} (h:hdF gs s=some g):g∈gs:=List.mem_of_find?_eq_some h
def Ty3 (t:Int):Prop:=t=1∨t=2∨t=3
def EnvR (tf:List UInt8→Int) (l:List Pa):Prop:=∀ s,(tf s=0∧lookR l s=-1)∨(tf s=lookR l s∧Ty3 (tf s))
theorem lookR_snoc (l:List Pa) (q:Pa) (s:List UInt8):lookR (l++[q]) s=if q.name=s then q.ty else lookR l s:=by
 unfold lookR
 rw[List.reverse_append,List.reverse_singleton,List.singleton_append,List.find?_cons]
 by_cases e:q.name=s
 ·simp[e]
 ·have e2:(q.name==s)=false:=by simpa using e
  rw[e2,if_neg e]
def pmPa (p:Pm):Pa:=⟨p.name,p.ty,p.pos⟩
theorem EnvR.nil:EnvR (fun _=>0) []:=fun _=>.inl ⟨rfl,rfl⟩
theorem EnvR.bind:∀ (ps:List Pm) {tf:List UInt8→Int} {l:List Pa},EnvR tf l→(∀ p∈ps,Ty3 p.ty)→EnvR (bindT tf ps) (l++ps.map pmPa)
 |[],tf,l,h,_=>by simpa [bindT] using h
 |p::ps,tf,l,h,hp=>by
  have h1:EnvR (setT tf p.name p.ty) (l++[pmPa p]):=by
   intro s
   rw[lookR_snoc]
   unfold setT pmPa
   dsimp only
   by_cases e:s=p.name
   ·subst e
    rw[if_pos rfl,if_pos rfl]
    exact .inr ⟨rfl,hp p (by simp)⟩
   ·rw[if_neg e,if_neg fun e'=>e e'.symm]
    exact h s
  have h2:=EnvR.bind ps h1 fun q hq=>hp q (by simp[hq])
  rw[List.append_assoc,List.singleton_append] at h2
  exact h2
section
variable {Nm:List UInt8→Prop} {Nu:Int→Int→Prop} {op:Int} {name tail:List UInt8} {ty p q:Int} {n:Nat}
theorem shp_ty (h:Shp Nm Nu op name tail ty p q n) (ho:op=5∨op=21∨op=22):Ty3 ty:=by
 cases h<;>first|assumption|(exfalso;omega)
theorem shp_two18 (h:Shp Nm Nu op name tail ty p q n) (ho:op=18):n=2:=by
 cases h<;>first|rfl|(exfalso;omega)
theorem wnt_two {gs:List Fn1} (hg:∀ g∈gs,Ty3 g.ty∧∀ x∈g.pms,Ty3 x.ty) (h:Shp Nm Nu op name tail ty p q n) (hc:op=7→∃ g,hdF gs name=some g∧g.pms.length=n) {i:Nat} (hi:i<n) {t:Int} (ht:Ty3 t) :
  wntT (funF gs) op name ty i t=wntR gs op name ty i t∧Ty3 (wntR gs op name ty i t):=by
 have hop:=shp_ops h
 by_cases h7:op=7
 ·subst h7
  obtain⟨g,e,hl⟩:=hc rfl
  have e2:wntT (funF gs) 7 name ty i t=(g.pms.getD i pd).ty:=by
   show argT (funF gs) name i=_
   unfold argT
   rw[funF_hd,e]
   dsimp only
   rw[if_pos (by omega)]
  have e3:wntR gs 7 name ty i t=(g.pms.getD i pd).ty:=by
   show argR gs name i=_
   unfold argR
   rw[e]
   dsimp only
   rw[if_pos (by omega)]
  rw[e2,e3]
  refine⟨rfl,(hg g (hdF_mem e)).2 _ ?_⟩
  rw[List.getD_eq_getElem?_getD,List.getElem?_eq_getElem (by omega)]
  exact List.getElem_mem _
 ·by_cases h18:op=18
  ·have:=shp_two18 h h18
   subst h18
   have hi2:i=0∨i=1:=by omega
   rcases hi2 with rfl|rfl
   ·exact⟨rfl,.inl rfl⟩
   ·exact⟨rfl,.inr (.inr rfl)⟩
  ·have hty:op=21∨op=22→Ty3 ty:=fun e=>shp_ty h (by omega)
   have e:wntT (funF gs) op name ty i t=wntR gs op name ty i t:=by
    unfold wntT wntR frs
    simp only[h7,h18,if_false]
   refine⟨e,?_⟩
   unfold wntR
   simp only[h7,h18,if_false]
   repeat' split
   all_goals first|exact ht|exact .inl rfl|exact .inr (.inl rfl)|exact .inr (.inr rfl)|exact hty (by assumption)
end
end Go.Proofs.Ytkbglnhdbnijlaa
