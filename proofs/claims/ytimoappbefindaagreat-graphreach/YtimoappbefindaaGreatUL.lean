/-
  4 texts in one: what each proves stands at its head.
-/
import Derived.Test.YtimoappbefindaaGreatUI
import Derived.Deep.RegionHeld2
import Derived.Test.YtimoappbefindaaGreatUv
import Derived.Deep.RegionWith
import Derived.Test.YtimoappbefindaaGreatUK
import Derived.Deep.DeepCutAuto
namespace Go.Proofs.YtimoappbefindaaGreat
open Go.RowKit
set_option maxRecDepth 100000
def pmC (p:Pm):List Value:=[.string (bs p.name),.int .i64 p.ty,.int .i64 p.pos]
theorem nameOf_ne (M:Nat→Mk) (n:Nat) (m:Int) (k:Nat):au M n m k≠.out:=by
 unfold au aJ
 repeat' split
 all_goals simp
theorem type_ne2 (M:Nat→Mk) (k:Nat):aK M k≠.out:=by
 unfold aK
 repeat' split
 all_goals simp
theorem Tryz.infoP:(Tryz.prog.info? 125).map (fun i=>(i.zero,i.size,i.bytes))=some (some (.agg #[.string ⟨#[]⟩,.int .i64 0,.int .i64 0]),3,32):=by kernel_rfl
theorem Tryz.underPs:Tryz.prog.underlying 52=some (.slice 125):=by kernel_rfl
def pmsC (ps:List Pm):List Value:=ps.flatMap pmC
theorem pmsC_app (a b:List Pm):pmsC (a++b)=pmsC a++pmsC b:=by simp[pmsC]
def PlW (w:World) (A:Nat→Prop) (ao:Option Addr) (ps:List Pm):Prop:=ps=[]∨∃ g,ao=some ⟨g,0,none⟩∧A g∧g<w.heap.size∧w.rangeAt g 0 (pmsC ps)
def plV (B:Nat) (w:World) (ps:List Pm) (v:Value):Prop:=∃ ao c,v=.slice ao ps.length c∧PlW w (fun b=>B≤b) ao ps
theorem PlW.keep {w w':World} {A:Nat→Prop} {ao:Option Addr} {ps:List Pm} (h:PlW w A ao ps) (hs:w.heap.size≤w'.heap.size) (hk:∀ b,A b→b<w.heap.size→w'.heap[b]?=w.heap[b]?):PlW w' A ao ps:=by
 rcases h with h|⟨g,e,ha,hl,hr⟩
 ·exact .inl h
 ·refine .inr ⟨g,e,ha,by omega,fun j v hv=>?_⟩
  rw[show w'.cell? ⟨g,0+j,none⟩=w.cell? ⟨g,0+j,none⟩ from World.cell?_of_block (w:=w) (hk g ha hl)]
  exact hr j v hv
theorem PlW.imp {w:World} {A A':Nat→Prop} {ao:Option Addr} {ps:List Pm} (h:PlW w A ao ps) (hk:∀ b,A b→b<w.heap.size→A' b):PlW w A' ao ps:=by
 rcases h with h|⟨g,e,ha,hl,hr⟩
 ·exact .inl h
 ·exact .inr ⟨g,e,hk g ha hl,hl,hr⟩
theorem jW {w:World} {B:Nat} {v:Value} {ps:List Pm} (h:w.ownsRow B 125 3 v ps.length (pmsC ps)):plV B w ps v:=by
 rcases h.2 with⟨rfl,h0⟩|⟨g,cap,cur,rfl,h3,h4,_,_,h5,h6⟩
 ·exact⟨none,0,by rw[h0],.inl (List.length_eq_zero_iff.1 h0)⟩
 ·refine⟨some ⟨g,0,none⟩,cap,rfl,.inr ⟨g,rfl,h3,(aN h g rfl).2,fun j u hu=>?_⟩⟩
  rw[Nat.zero_add,cell_of_row w g j _ _ _ h4]
  have hj:=(List.getElem?_eq_some_iff.1 hu).1
  have hl:=h.1
  have e:cur[j]?=(cur.toList.take (ps.length*3))[j]?:=by rw[List.getElem?_take,if_pos (by omega)];simp
  rw[e,h6,hu]
theorem pmC_one (p:Pm):∀ u∈pmC p,u.oneCell'=true:=by
 intro u hu
 simp only[pmC,List.mem_cons,List.not_mem_nil,or_false] at hu
 rcases hu with rfl|rfl|rfl<;>rfl
theorem prow_app {w:World} {B:Nat} {v:Value} {ps:List Pm} (h:w.ownsRow B 125 3 v ps.length (pmsC ps)) (hB:B≤w.heap.size) (p:Pm) (hl:ps.length≤10000000) :
  ∃ v' w',(Builtin.append_ #[52,52] 52 #[v,.slice (some ⟨w.heap.size,0,none⟩) 1 1]).run Tryz.prog (w.alloc (.cells #[.string (bs p.name),.int .i64 p.ty,.int .i64 p.pos] 125))=.ok v' w'∧w'.ownsRow B 125 3 v' (ps++[p]).length (pmsC (ps++[p]))∧Below B w w':=by
 obtain⟨i0,hi,hz0,hz1,hz2⟩:=info_parts Tryz.infoP
 have hlow:=aN h
 have ho:=bu h (w':=w.alloc (.cells #[.string (bs p.name),.int .i64 p.ty,.int .i64 p.pos] 125)) fun b hb=>Below.heap_alloc _ _ _ (hlow b hb).2
 have hk:=Bk.new w 125 #[.string (bs p.name),.int .i64 p.ty,.int .i64 p.pos]
 have hBs:B≤(w.alloc (.cells #[.string (bs p.name),.int .i64 p.ty,.int .i64 p.pos] 125)).heap.size:=by simp;omega
 obtain⟨v',w',hr,ho',hgr,_⟩:=dD Tryz.underPs hi hz0 hz1 hz2 rfl (by decide) ho ⟨w.heap.size,0,none⟩ (pmC p) rfl (by
  intro j u hj
  rw[Addr.add_mid,Nat.zero_add,hk.cell]
  exact hj) (pmC_one p) hl (by decide) hBs
 refine⟨v',w',hr,?_,((ae w _).mono hB).trans ((Below.refl B _).grown hgr hBs fun k hk=>(hlow k hk).1)⟩
 rw[pmsC_app,List.length_append]
 simpa [pmsC] using ho'
theorem prow_but {w w':World} {B R:Nat} {v:Value} {ps:List Pm} (h:w.ownsRow B 125 3 v ps.length (pmsC ps)) (hU:But R w w') (hR:R<B):w'.ownsRow B 125 3 v ps.length (pmsC ps):=
 bu h fun b hb=>hU.block b (aN h b hb).2 (by have:=(aN h b hb).1;omega)
theorem prow_up {w w':World} {B:Nat} {v:Value} {ps:List Pm} (h:w.ownsRow B 125 3 v ps.length (pmsC ps)) (hb:Below w.heap.size w w'):w'.ownsRow B 125 3 v ps.length (pmsC ps):=
 bu h fun b hb'=>hb.block b (aN h b hb').2
abbrev fz:Array Value:=#[.string ⟨#[]⟩,.slice none 0 0,.int .i64 0,.int .i64 0,.string ⟨#[]⟩,.string ⟨#[]⟩,.int .i64 0,.complex .f64 0 0,.slice none 0 0,.int .i64 0,.int .i64 0]
theorem Tryz.infoFn:(Tryz.prog.info? 60).map (·.size)=some 11:=by kernel_rfl
theorem Tryz.underFn:Tryz.prog.underlying 60=some (.struct (Tryz.prog.underlying 60 |>.map (fun|.struct f=>f|_=>#[]) |>.getD #[])):=by kernel_rfl
def FnW (w:World) (A:Nat→Prop) (g:Fn1) (vs:List Value):Prop:=
 ∃ ao c es,vs=.string (bs g.name)::.slice ao g.pms.length c::.int .i64 g.ty::(es++[.int .i64 g.pos])∧PlW w A ao g.pms∧ExW w A g.body es
theorem Bk.eleven {w:World} {b:Nat} {t:TypeId} {x0 x1 x2 x3 x4 x5 x6 x7 x8 x9 x10:Value} (h:Bk w b t [x0,x1,x2,x3,x4,x5,x6,x7,x8,x9,x10]) :
  w.cell? ⟨b,0,none⟩=some x0∧w.cell? ⟨b,1,none⟩=some x1∧w.cell? ⟨b,2,none⟩=some x2∧w.cell? ⟨b,3,none⟩=some x3∧w.cell? ⟨b,4,none⟩=some x4∧w.cell? ⟨b,5,none⟩=some x5∧w.cell? ⟨b,6,none⟩=some x6∧w.cell? ⟨b,7,none⟩=some x7∧w.cell? ⟨b,8,none⟩=some x8∧w.cell? ⟨b,9,none⟩=some x9∧w.cell? ⟨b,10,none⟩=some x10:=
 ⟨h.cell 0,h.cell 1,h.cell 2,h.cell 3,h.cell 4,h.cell 5,h.cell 6,h.cell 7,h.cell 8,h.cell 9,h.cell 10⟩
end Go.Proofs.YtimoappbefindaaGreat
