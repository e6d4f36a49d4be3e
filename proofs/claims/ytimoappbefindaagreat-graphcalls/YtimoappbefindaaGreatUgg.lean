/-
  9 texts in one: what each proves stands at its head.
-/
import Derived.Test.YtimoappbefindaaGreatUgc
import Derived.Test.YtimoappbefindaaGreatUge
import Derived.Handy
namespace Go.Proofs.YtimoappbefindaaGreat
set_option maxHeartbeats 16000000
open Go.RowKit
set_option maxRecDepth 100000
namespace Gw
open Hq
def meth (name:String) (f:Nat) (W:World) (S:Nat) (v:Value):Prop:=Sem.run Tryz.prog (method (Tryz.prog.types.size+100) 113 (.pointer (some ⟨S,0,none⟩)) name) W=.ok (f,v) W
theorem og (W : World) (S : Nat) (v : Value) (h : W.cell? ⟨S, 0, none⟩ = some v) : meth "Len" 55 W S v := by
 have e : Sem.run Tryz.prog (method (Tryz.prog.types.size + 100) 113 (.pointer (some ⟨S, 0, none⟩)) "Len") W = Sem.run Tryz.prog (do let v ← loadVar 114 ⟨S, 0, none⟩; pure (55, v)) W := by kernel_rfl
 unfold meth
 rw[e]
 simp[loadVar,go_sem,h]
theorem bJ (W : World) (S : Nat) (v : Value) (h : W.cell? ⟨S, 0, none⟩ = some v) : meth "Less" 153 W S v := by
 have e : Sem.run Tryz.prog (method (Tryz.prog.types.size + 100) 113 (.pointer (some ⟨S, 0, none⟩)) "Less") W = Sem.run Tryz.prog (do let v ← loadVar 114 ⟨S, 0, none⟩; pure (153, v)) W := by kernel_rfl
 unfold meth
 rw[e]
 simp[loadVar,go_sem,h]
theorem bB (W : World) (S : Nat) (v : Value) (h : W.cell? ⟨S, 0, none⟩ = some v) : meth "Swap" 157 W S v := by
 have e : Sem.run Tryz.prog (method (Tryz.prog.types.size + 100) 113 (.pointer (some ⟨S, 0, none⟩)) "Swap") W = Sem.run Tryz.prog (do let v ← loadVar 114 ⟨S, 0, none⟩; pure (157, v)) W := by kernel_rfl
 unfold meth
 rw[e]
 simp[loadVar,go_sem,h]
theorem meth_push (W : World) (S : Nat) : meth "Push" 155 W S (.pointer (some ⟨S, 0, none⟩)) := by
 unfold meth
 kernel_rfl
theorem meth_pop (W : World) (S : Nat) : meth "Pop" 154 W S (.pointer (some ⟨S, 0, none⟩)) := by
 unfold meth
 kernel_rfl
structure Rq (w:World) (S Z:Nat) (v:Value) (L:List Int):Prop where
 blk:w.heap[S]?=some (.cells #[v] 116 (0,0))
 row:w.ownsRow Z 3 1 v L.length (L.map fun z=>.int .i64 z)
 zS:Z≤S
 od:v.ownBlock≠some S
structure Kb (w w':World) (S:Nat) (v v':Value):Prop where
 os:w'.os=w.os
 tape:w'.tape=w.tape
 output:w'.output=w.output
 size:w.heap.size≤w'.heap.size
 keep:∀ k,k<w.heap.size→k≠S→v.ownBlock≠some k→w'.heap[k]?=w.heap[k]?
 new:∀ g,v'.ownBlock=some g→v.ownBlock=some g∨w.heap.size≤g
theorem Kb.trans {w w1 w2:World} {S:Nat} {v v1 v2:Value} (h:Kb w w1 S v v1) (g:Kb w1 w2 S v1 v2):Kb w w2 S v v2 where
 os:=g.os.trans h.os
 tape:=g.tape.trans h.tape
 output:=g.output.trans h.output
 size:=Nat.le_trans h.size g.size
 keep:=fun k hk hS hv=>(g.keep k (Nat.lt_of_lt_of_le hk h.size) hS fun e=>by
  rcases h.new k e with e|e
  ·exact hv e
  ·omega).trans (h.keep k hk hS hv)
 new:=fun b hb=>by
  rcases g.new b hb with e|e
  ·exact h.new b e
  ·exact .inr (Nat.le_trans h.size e)
theorem Kb.of {w w':World} {S:Nat} {v v':Value} {Z:Nat} (h:Below Z w w') (hk:∀ k,k<w.heap.size→k≠S→v.ownBlock≠some k→w'.heap[k]?=w.heap[k]?) (hn:∀ g,v'.ownBlock=some g→v.ownBlock=some g∨w.heap.size≤g):Kb w w' S v v':=⟨h.os,h.tape,h.output,h.size,hk,hn⟩
theorem Kb.refl (w:World) (S:Nat) (v:Value):Kb w w S v v:=⟨rfl,rfl,rfl,Nat.le_refl _,fun _ _ _ _=>rfl,fun _ h=>.inl h⟩
theorem Kb.up {w w':World} (S:Nat) (v:Value) (h:Below w.heap.size w w'):Kb w w' S v v:=Kb.of h (fun k hk _ _=>h.block k hk) fun _ h=>.inl h
section
variable {w w':World} {S Z:Nat} {v v':Value} {L:List Int}
theorem Rq.lt (h:Rq w S Z v L):S<w.heap.size:=(Array.getElem?_eq_some_iff.1 h.blk).1
theorem Rq.le (h:Rq w S Z v L):Z≤w.heap.size:=Nat.le_trans h.zS (Nat.le_of_lt h.lt)
theorem Rq.cell (h:Rq w S Z v L):w.cell? ⟨S,0,none⟩=some v:=by rw[cell_of_row w S 0 _ _ _ h.blk];rfl
theorem Rq.free (h:Rq w S Z v L) (t:Nat):w.frozen? ⟨S,t,none⟩=false:=frozen_of_row w S t _ _ h.blk
theorem Rq.up (h:Rq w S Z v L) (hb:Below w.heap.size w w'):Rq w' S Z v L:=⟨by rw[hb.block S h.lt];exact h.blk,aX h.row hb,h.zS,h.od⟩
theorem Kb.below (h:Kb w w' S v v') (hR:Rq w S Z v L):Below Z w w':=⟨h.os,h.tape,h.output,h.size,fun k hk=>h.keep k (Nat.lt_of_lt_of_le hk hR.le) (by have:=hR.zS;omega) fun e=>by have:=(hR.row.lt k e).1;omega⟩
theorem Rq.set (h:Rq w S Z v L) {i:Nat} (hi:i<L.length) (x:Int):∃ g c,v=.slice (some ⟨g,0,none⟩) L.length c∧L.length≤c∧At w g 0 L∧w.frozen? ⟨g,i,none⟩=false∧Rq (w.setCell ⟨g,i,none⟩ (.int .i64 x)) S Z v (L.set i x)∧Kb w (w.setCell ⟨g,i,none⟩ (.int .i64 x)) S v v:=by
 obtain⟨g,c,rfl,hc,hA⟩:=cO h.row (by omega)
 have hgS:g≠S:=fun e=>h.od (by rw[e];rfl)
 have hz:=h.row.lt g rfl
 have hst:=(h.row.stored i (.int .i64 x)).1
 refine⟨g,c,rfl,hc,hA,h.row.frozenAt i,⟨by rw[Below.heap_setCell _ _ _ _ hgS.symm];exact h.blk,?_,h.zS,h.od⟩,Kb.of ((Below.refl Z w).setCell hz.1 _) (fun k hk _ hv=>Below.heap_setCell _ _ _ _ fun e=>hv (by rw[e];rfl)) fun _ h=>.inl h⟩
 rw[List.length_set,List.map_set]
 exact hst
end
theorem Tryz.underK:Tryz.prog.underlying 114=some (.slice 3):=by kernel_rfl
theorem Rq.app {w:World} {S Z:Nat} {v:Value} {L:List Int} (h:Rq w S Z v L) (x:Int) (hl:L.length≤100000000000) :
  ∃ g cq w2,(Builtin.append_ #[114,114] 114 #[v,.slice (some ⟨w.heap.size,0,none⟩) 1 1]).run Tryz.prog (w.alloc (.cells #[.int .i64 x] 3))=.ok (.slice (some ⟨g,0,none⟩) (L.length+1) cq) w2∧w2.cell? ⟨S,0,none⟩=some v∧w2.frozen? ⟨S,0,none⟩=false ∧
   Rq (w2.setCell ⟨S,0,none⟩ (.slice (some ⟨g,0,none⟩) (L.length+1) cq)) S Z (.slice (some ⟨g,0,none⟩) (L.length+1) cq) (L++[x])∧Kb w (w2.setCell ⟨S,0,none⟩ (.slice (some ⟨g,0,none⟩) (L.length+1) cq)) S v (.slice (some ⟨g,0,none⟩) (L.length+1) cq):=by
 obtain⟨i0,hi,hz0,hz1,hz2⟩:=info_parts Tryz.infoI
 have hb:=ae w (.cells #[.int .i64 x] 3)
 have hlt:=h.lt
 have hle:=h.le
 obtain⟨v',w2,hr,ho,hg,_,hloc⟩:=run_append_own_at (P:=Tryz.prog) (w.alloc (.cells #[.int .i64 x] 3)) Z 114 114 3 i0 (.int .i64 0) 1 8 Tryz.underK hi hz0 hz1 hz2 rfl (by decide) v L.length _ (aX h.row hb) ⟨w.heap.size,0,none⟩ 1 1 [.int .i64 x] rfl (cell_one_new w (.int .i64 x) 3) (by intro u hu;simp at hu;subst hu;rfl) (by unfold maxLen;omega) (by omega) (by simp;omega)
 have e1:(L++[x]).length=L.length+1:=by simp
 have e2:((L++[x]).map fun z=>Value.int .i64 z)=(L.map fun z=>Value.int .i64 z)++[.int .i64 x]:=by simp
 rcases ho.2 with⟨_,h0⟩|⟨g,cq,cur,rfl,_⟩
 ·omega
 ·have hsz1:(w.alloc (.cells #[.int .i64 x] 3)).heap.size=w.heap.size+1:=by simp
  have hgS:g≠S:=fun e=>by
   rcases hloc with k|k
   ·exact h.od (k.symm.trans (congrArg some e))
   ·have k2:g=_:=Option.some.inj k
    omega
  have hS2:w2.heap[S]?=w.heap[S]?:=(hg.block S (by omega) fun e=>h.od e.symm).trans (hb.block S hlt)
  have hblk:=h.blk
  rw[← hS2] at hblk
  refine⟨g,cq,w2,hr,by rw[cell_of_row w2 S 0 _ _ _ hblk];rfl,frozen_of_row w2 S 0 _ _ hblk,⟨by rw[heap_setCell_same w2 S 0 _ _ _ hblk];rfl,?_,h.zS,fun e=>hgS (Option.some.inj e)⟩,?_⟩
  ·rw[e1,e2]
   exact aD ho fun k hk=>Below.heap_setCell _ _ _ _ fun e=>hgS ((Option.some.inj hk).trans e)
  ·refine Kb.of ((((hb.mono hle)).grown hg (by omega) fun k e=>(h.row.lt k e).1).setCell (p:=⟨S,0,none⟩) h.zS _) (fun k hk hS hv=>?_) fun b hb2=>?_
   ·rw[Below.heap_setCell _ _ _ _ hS,hg.block k (by omega) fun e=>hv e.symm,hb.block k hk]
   ·rcases hloc with k|k
    ·left;rw[← k];exact hb2
    ·right
     have e3:=Option.some.inj (hb2.symm.trans k)
     omega
theorem step_append_runV {P:Program} {ops:Array Oper} {o:Oper} {a:Act} {w:World} {K:Act→World→Prop} {Q:Exit→Act→World→Prop} {E:Prop}
  (hg:o.guard=none) (s x:Operand) (t u:TypeId) (hop:o.op=Op.call { callee:=Callee.builtin Builtin.append,args:=#[s,x],argTypes:=#[t,u] }) (hty:o.type=t)
  (v y:Value) (hs:a.eval s=v) (hx:a.eval x=y) (v':Value) (w':World) (hrun:(Builtin.append_ #[t,u] t #[v,y]).run P w=.ok v' w') (hK:K (a.put o.dst v') w') :
  if Region.wanted o (yielded ops a.tmps)=true then Oper.wp P o a w K Q else E:=by
 have hw:Region.wanted o (yielded ops a.tmps)=true:=by simp[Region.wanted,hg]
 rw[if_pos hw]
 unfold Oper.wp
 rw[← hty] at hrun
 simp only[execOp,hop,resolve,invoke,builtin,Sem.run_bind,Sem.run_pure,Result.andThen_ok,List.map_toArray,List.map_cons,List.map_nil,hs,hx]
 rw[hty] at hrun ⊢
 rw[hrun]
 exact hK
theorem jF (x:Int) (W:World):(Instr.typeAssert (.iface 3 (.int .i64 x)) 20 3 false).run Tryz.prog W=.ok (.int .i64 x) W:=by
 first
 |kernel_rfl
 |simp[Instr.typeAssert,go_sem]
section
variable {w:World} {S Z:Nat} {v:Value} {L:List Int}
theorem push_leaf (h:Rq w S Z v L) (x:Int) (hl:L.length≤100000000000) :
  Calls Tryz.prog 155 #[.pointer (some ⟨S,0,none⟩),.iface 3 (.int .i64 x)] w fun e w'=>e=.returned (.tuple #[])∧∃ v',Rq w' S Z v' (L++[x])∧Kb w w' S v v':=by
 have hb0:Below w.heap.size w w.drew:=(Below.refl _ _).drew
 have h1:=h.up hb0
 obtain⟨g,cq,w2,hr,k1,k2,k3,k4⟩:=h1.app x hl
 have k5:=(Kb.up S v hb0).trans k4
 have c0:=h.cell
 have c1:(w.alloc (.cells #[.int .i64 x] 3)).cell? ⟨S,0,none⟩=some v:=by rw[(ae w _).cell h.lt];exact c0
 have HR:Hid (_=_):=hr
 have HK:Hid (Rq (w2.setCell ⟨S,0,none⟩ (.slice (some ⟨g,0,none⟩) (L.length+1) cq)) S Z (.slice (some ⟨g,0,none⟩) (L.length+1) cq) (L++[x])∧Kb w (w2.setCell ⟨S,0,none⟩ (.slice (some ⟨g,0,none⟩) (L.length+1) cq)) S v (.slice (some ⟨g,0,none⟩) (L.length+1) cq)):=⟨k3,k5⟩
 clear hr k3 k4 k5 h h1 hb0 hl
 have hta:=jF x
 go_enter Tryz.func155,Tryz.ntmps155
 go_region_law (refine step_append_runV rfl (.tmp 8) (.tmp 11) 114 114 rfl rfl _ _ (by simp[Act.eval]) (by simp[Act.eval]) _ _ (show _=_ from HR.out) ?_)
 all_goals
  go_wp2
  go_end0
  exact⟨rfl,_,HK.out.1,HK.out.2⟩
theorem fM {w:World} {B:Nat} {T:TypeId} {k n:Nat} {v:Value} {xs:List Value} (h:w.ownsRow B T k v n xs):∃ r c,v=.slice r n c:=by
 rcases h.2 with⟨e,e2⟩|⟨g,c,_,e,_⟩
 ·subst e2;exact⟨_,_,e⟩
 ·exact⟨_,_,e⟩
theorem kI (h:Rq w S Z v L):Calls Tryz.prog 55 #[v] w fun e w'=>e=.returned (.int .i64 L.length)∧w'=w:=by
 obtain⟨r,c,rfl⟩:=fM h.row
 clear h
 go_enter Tryz.func55,Tryz.ntmps55
 go_wp2
 go_ret
 exact⟨rfl,rfl⟩
theorem bI (h:Rq w S Z v L) (i j:Nat) (hi:i<L.length) (hj:j<L.length):Calls Tryz.prog 153 #[v,.int .i64 i,.int .i64 j] w fun e w'=>e=.returned (.bool (decide (at_ L i<at_ L j)))∧∃ q,w'=w.drewN q:=by
 obtain⟨g,c,rfl,hc,hA⟩:=cO h.row (by omega)
 have a1:=hA i hi
 have a2:=hA j hj
 rw[Nat.zero_add] at a1 a2
 unfold at_
 obtain⟨x,hx⟩:∃ x,x=L.getD i 0:=⟨_,rfl⟩
 obtain⟨y,hy⟩:∃ y,y=L.getD j 0:=⟨_,rfl⟩
 rw[← hx] at a1 ⊢
 rw[← hy] at a2 ⊢
 clear hA h hx hy
 go_enter Tryz.func153,Tryz.ntmps153
 go_wp2_with fail
 go_quiet (fail)
 go_wp2
 go_ret
 exact⟨rfl,_,rfl⟩
theorem eP (h:Rq w S Z v L) (i j:Nat) (hi:i<L.length) (hj:j<L.length):Calls Tryz.prog 157 #[v,.int .i64 i,.int .i64 j] w fun e w'=>e=.returned (.tuple #[])∧Rq w' S Z v (sw L i j)∧Kb w w' S v v:=by
 obtain⟨x,hx⟩:∃ x,x=at_ L i:=⟨_,rfl⟩
 obtain⟨y,hy⟩:∃ y,y=at_ L j:=⟨_,rfl⟩
 have e0:sw L i j=(L.set i y).set j x:=by rw[hx,hy];rfl
 obtain⟨g,c,rfl,hc,hA,f1,h2,k2⟩:=h.set hi y
 obtain⟨g',c',e,_,hA2,f2,h3,k3⟩:=h2.set (i:=j) (by rw[List.length_set];exact hj) x
 obtain⟨rfl,rfl⟩:g'=g∧c'=c:=by
  simp only[Value.slice.injEq,Option.some.injEq,Addr.mk.injEq] at e
  exact⟨e.1.1.symm,e.2.2.symm⟩
 have hb0:Below ((w.setCell ⟨g',i,none⟩ (.int .i64 y)).setCell ⟨g',j,none⟩ (.int .i64 x)).heap.size ((w.setCell ⟨g',i,none⟩ (.int .i64 y)).setCell ⟨g',j,none⟩ (.int .i64 x)) ((w.setCell ⟨g',i,none⟩ (.int .i64 y)).setCell ⟨g',j,none⟩ (.int .i64 x)).drew:=(Below.refl _ _).drew
 have k4:=(k2.trans k3).trans (Kb.up S (.slice (some ⟨g',0,none⟩) L.length c') hb0)
 have a1:=hA i hi
 have a2:=hA j hj
 have a3:=hA2 j (by rw[List.length_set];exact hj)
 obtain⟨z,hz⟩:∃ z,z=(L.set i y).getD j 0:=⟨_,rfl⟩
 rw[Nat.zero_add] at a1 a2 a3
 rw[← hz] at a3
 rw[show L.getD i 0=x from hx.symm] at a1
 rw[show L.getD j 0=y from hy.symm] at a2
 rw[← e0] at h3
 replace h3:=h3.up hb0
 have HE:Hid (Rq ((w.setCell ⟨g',i,none⟩ (.int .i64 y)).setCell ⟨g',j,none⟩ (.int .i64 x)).drew S Z (.slice (some ⟨g',0,none⟩) L.length c') (sw L i j)∧Kb w ((w.setCell ⟨g',i,none⟩ (.int .i64 y)).setCell ⟨g',j,none⟩ (.int .i64 x)).drew S (.slice (some ⟨g',0,none⟩) L.length c') (.slice (some ⟨g',0,none⟩) L.length c')):=⟨h3,k4⟩
 clear h2 h3 k2 k3 k4 h hb0 hA hA2 e e0 hx hy hz
 go_enter Tryz.func157,Tryz.ntmps157
 go_region
 all_goals
  go_wp2
  go_end0
  exact⟨rfl,HE.out.1,HE.out.2⟩
theorem pop_leaf (h:Rq w S Z v L) {m:Nat} (hm:L.length=m+1) (hl:L.length≤100000000000):Calls Tryz.prog 154 #[.pointer (some ⟨S,0,none⟩)] w fun e w'=>e=.returned (.iface 3 (.int .i64 (at_ L m)))∧∃ v',Rq w' S Z v' (L.take m)∧Kb w w' S v v':=by
 obtain⟨g,c,rfl,hc,hA⟩:=cO h.row (by omega)
 have hgS:g≠S:=fun e=>h.od (by rw[e];rfl)
 have ho:=kM (m:=m) h.row (by omega) (by simp)
 have hlm:(L.take m).length=m:=by rw[List.length_take];omega
 have h3:Rq (w.setCell ⟨S,0,none⟩ (.slice (some ⟨g,0,none⟩) m c)) S Z (.slice (some ⟨g,0,none⟩) m c) (L.take m):=⟨by rw[heap_setCell_same w S 0 _ _ _ h.blk];rfl,by
  rw[hlm]
  exact aD ho fun k hk=>Below.heap_setCell _ _ _ _ fun e=>hgS ((Option.some.inj hk).trans e),h.zS,fun e=>hgS (Option.some.inj e)⟩
 have k3:Kb w (w.setCell ⟨S,0,none⟩ (.slice (some ⟨g,0,none⟩) m c)) S (.slice (some ⟨g,0,none⟩) L.length c) (.slice (some ⟨g,0,none⟩) m c):=Kb.of ((Below.refl Z w).setCell h.zS _) (fun k _ hS _=>Below.heap_setCell _ _ _ _ hS) fun b hb=>.inl hb
 have a1:=hA m (by omega)
 rw[Nat.zero_add] at a1
 have c0:=h.cell
 have f0:=h.free 0
 rw[hm] at c0 k3
 unfold at_
 obtain⟨x,hx⟩:∃ x,x=L.getD m 0:=⟨_,rfl⟩
 rw[← hx] at a1 ⊢
 rw[hm] at hc hl
 rw[hm]
 have HE:Hid (Rq (w.setCell ⟨S,0,none⟩ (.slice (some ⟨g,0,none⟩) m c)) S Z (.slice (some ⟨g,0,none⟩) m c) (L.take m)∧Kb w (w.setCell ⟨S,0,none⟩ (.slice (some ⟨g,0,none⟩) m c)) S (.slice (some ⟨g,0,none⟩) (m+1) c) (.slice (some ⟨g,0,none⟩) m c)):=⟨h3,k3⟩
 clear h3 k3 h ho hA hx hlm
 go_enter Tryz.func154,Tryz.ntmps154
 go_wp2
 go_ret
 exact⟨rfl,_,HE.out.1,HE.out.2⟩
end
section
variable {w:World} {S Z:Nat} {v:Value} {L:List Int}
structure Same (L L':List Int) (n:Nat):Prop where
 len:L'.length=L.length
 mem:∀ x,In L' n x↔In L n x
 inj:Inj L n→Inj L' n
theorem Same.refl (L:List Int) (n:Nat):Same L L n:=⟨rfl,fun _=>Iff.rfl,id⟩
theorem Same.sw {L L':List Int} {n i j:Nat} (h:Same L L' n) (hi:i<n) (hj:j<n) (hn:n≤L.length):Same L (sw L' i j) n:=⟨by rw[sO];exact h.len,fun x=>(sw_in hi hj (by rw[h.len];exact hn) x).trans (h.mem x),fun g=>sH hi hj (by rw[h.len];exact hn) (h.inj g)⟩
theorem half (j:Nat) (h:0<j):((j:Int)-1).tdiv 2=(((j-1) / 2:Nat):Int):=by
 rw[show (j:Int)-1=((j-1:Nat):Int) by omega]
 exact Int.ofNat_tdiv _ 2 ▸ rfl
theorem up_any (h:Rq w S Z v L) {j:Nat} (hu:UpI L L.length j) (hj:j<L.length) (hl:L.length≤100000000000) :
  Calls Tryz.prog 78 #[.iface 113 (.pointer (some ⟨S,0,none⟩)),.int .i64 j] w fun e w'=>e=.returned (.tuple #[])∧∃ L',Rq w' S Z v L'∧Kb w w' S v v∧Hp L' L.length∧Same L L' L.length:=by
 go_enter Tryz.func78,Tryz.ntmps78
 go_wp2
 go_loopw [1] (fun jv wr=>∃ (j:Nat) (L':List Int),jv=.int .i64 j∧j<L.length∧UpI L' L.length j∧Rq wr S Z v L'∧Kb w wr S v v∧Same L L' L.length) (fun jv _=>(intOf jv).toNat)
 case atStart=>exact⟨j,L,rfl,hj,hu,h,Kb.refl _ _ _,Same.refl _ _⟩
 case round=>
  obtain⟨j,L',rfl,hj,hu,hR,hK,hS⟩:=hrel
  clear h
  have mL:=bJ wr S v hR.cell
  have mS:=bB wr S v hR.cell
  unfold meth at mL mS
  simp only[Tryz.types_size] at mL mS
  by_cases h0:j=0
  ·subst h0
   have hp:=hu.stop (.inl rfl)
   clear hu mL mS
   go_wp2
   go_end0
   exact⟨rfl,L',hR,hK,hp,hS⟩
  ·obtain⟨i,hi⟩:∃ i,i=(j-1) / 2:=⟨_,rfl⟩
   have hh:=half j (by omega)
   rw[← hi] at hh
   have hh2:((j-1:Nat):Int) / 2=(i:Int):=by omega
   have hij:((i:Int)==(j:Int))=false:=by rw[beq_eq_false_iff_ne];omega
   have hi2:i<j:=by omega
   have HI:Hid (i=(j-1) / 2):=hi
   clear hi
   have hin:i<L'.length:=by rw[hS.len];omega
   have hjn:j<L'.length:=by rw[hS.len];omega
   by_cases hl2:at_ L' j<at_ L' i
   ·have hd:decide (at_ L' j<at_ L' i)=true:=decide_eq_true hl2
    go_wp2_with fail
    refine (bI hR j i hjn hin).mono ?_
    rintro e w2 ⟨rfl,q,rfl⟩
    rw[hd]
    have hb:=below_drewN (Below.refl wr.heap.size wr) q
    have hR2:=hR.up hb
    have hK2:=hK.trans (Kb.up S v hb)
    clear mL mS hR hK hb hd
    generalize wr.drewN q=W1 at *
    have mS:=bB W1 S v hR2.cell
    unfold meth at mS
    simp only[Tryz.types_size] at mS
    go_wp2_with fail
    refine (eP hR2 i j hin hjn).mono ?_
    rintro e w2 ⟨rfl,hR3,hK3⟩
    replace hK3:=hK2.trans hK3
    have hS2:=hS.sw (i:=i) (j:=j) (by omega) hj (Nat.le_refl _)
    have hu2:=hu.step (by omega) hj (by rw[hS.len];exact Nat.le_refl _) (by rw[← HI.out];exact hl2)
    rw[← HI.out] at hu2
    clear mS hR2 hK2 hu hS hh hh2 hij
    go_wp2
    go_roundw
    case rel=>exact⟨i,sw L' i j,rfl,by omega,hu2,hR3,hK3,hS2⟩
    case measure=>simp[intOf];omega
   ·have hd:decide (at_ L' j<at_ L' i)=false:=decide_eq_false hl2
    have hp:=hu.stop (.inr (by rw[← HI.out];omega))
    go_wp2_with fail
    refine (bI hR j i hjn hin).mono ?_
    rintro e w2 ⟨rfl,q,rfl⟩
    rw[hd]
    have hb:=below_drewN (Below.refl wr.heap.size wr) q
    have hR2:=hR.up hb
    have hK2:=hK.trans (Kb.up S v hb)
    clear mL mS hR hK hb hd
    go_wp2
    go_end0
    exact⟨rfl,L',hR2,hK2,hp,hS⟩
end
section
variable {w:World} {S Z:Nat} {v:Value} {L:List Int}
theorem down_any (h:Rq w S Z v L) {m:Nat} (hu:DnI L m 0) (hm:m≤L.length) (hl:L.length≤100000000000) :
  Calls Tryz.prog 79 #[.iface 113 (.pointer (some ⟨S,0,none⟩)),.int .i64 0,.int .i64 m] w fun e w'=>∃ b:Value,e=.returned b∧∃ L',Rq w' S Z v L'∧Kb w w' S v v∧Hp L' m∧Same L L' m∧∀ k,m≤k→at_ L' k=at_ L k:=by
 go_enter Tryz.func79,Tryz.ntmps79
 go_wp2
 go_loopw [7] (fun jv wr=>∃ (i:Nat) (L':List Int),jv=.int .i64 i∧(i<m∨i=0)∧DnI L' m i∧Rq wr S Z v L'∧Kb w wr S v v∧Same L L' m∧Hid (∀ k,m≤k→at_ L' k=at_ L k)) (fun jv _=>m-(intOf jv).toNat)
 case atStart=>exact⟨0,L,rfl,.inr rfl,hu,h,Kb.refl _ _ _,Same.refl _ _,fun _ _=>rfl⟩
 case round=>
  rename World=>W0
  obtain⟨i,L',rfl,hi0,hu,hR,hK,hS,hF⟩:=hrel
  clear h
  have mL:=bJ W0 S v hR.cell
  unfold meth at mL
  simp only[Tryz.types_size] at mL
  obtain⟨j,hj⟩:∃ j,j=2*i+1:=⟨_,rfl⟩
  have hj1:(2:Int)*i+1=(j:Int):=by omega
  have hib:i<L.length∨i=0:=by omega
  have hw1:wrap64 (2*(i:Int))=2*i:=by unfold wrap64;omega
  have hw2:wrap64 (j:Int)=j:=by unfold wrap64;omega
  by_cases hjm:j<m
  ·have hij:i<j:=by omega
   have him:i<m:=by omega
   have hjL:j<L'.length:=by rw[hS.len];omega
   have hiL:i<L'.length:=by rw[hS.len];omega
   have hjp:(j-1) / 2=i:=by omega
   have hj0:0<j:=by omega
   obtain⟨p,hp1⟩:∃ p,p=j+1:=⟨_,rfl⟩
   have hp2:(j:Int)+1=(p:Int):=by omega
   have hw3:wrap64 (p:Int)=p:=by unfold wrap64;omega
   by_cases hpm:p<m
   ·have hpL:p<L'.length:=by rw[hS.len];omega
    have hip:i<p:=by omega
    have hch:∀ k,0<k→k<m→(k-1) / 2=i→k=j∨k=p:=fun k k1 k2 k3=>by omega
    have HCH:Hid (∀ k,0<k→k<m→(k-1) / 2=i→k=j∨k=p):=hch
    have hpp:(p-1) / 2=i:=by omega
    clear hch hj hp1 hi0
    by_cases hl1:at_ L' p<at_ L' j
    ·have hd1:decide (at_ L' p<at_ L' j)=true:=decide_eq_true hl1
     have hmin:∀ k,0<k→k<m→(k-1) / 2=i→at_ L' p≤at_ L' k:=fun k k1 k2 k3=>by
      rcases HCH.out k k1 k2 k3 with rfl|rfl<;>omega
     go_wp2_with fail
     refine (bI hR p j hpL hjL).mono ?_
     rintro e w0 ⟨rfl,q0,rfl⟩
     rw[hd1]
     have hb0:=below_drewN (Below.refl W0.heap.size W0) q0
     have hR0:=hR.up hb0
     have hK0:=hK.trans (Kb.up S v hb0)
     clear mL hR hK hb0 hd1
     generalize W0.drewN q0=W1 at *
     have mL:=bJ W1 S v hR0.cell
     have mS:=bB W1 S v hR0.cell
     unfold meth at mL mS
     simp only[Tryz.types_size] at mL mS
     by_cases hl2:at_ L' p<at_ L' i
     ·have hd2:decide (at_ L' p<at_ L' i)=true:=decide_eq_true hl2
      go_wp2_with fail
      refine (bI hR0 p i hpL hiL).mono ?_
      rintro e w1 ⟨rfl,q1,rfl⟩
      rw[hd2]
      have hb1:=below_drewN (Below.refl W1.heap.size W1) q1
      have hR1:=hR0.up hb1
      have hK1:=hK0.trans (Kb.up S v hb1)
      clear mL hR0 hK0 hb1 hd2
      generalize W1.drewN q1=W2 at *
      have mL:=bJ W2 S v hR1.cell
      have mS:=bB W2 S v hR1.cell
      unfold meth at mL mS
      simp only[Tryz.types_size] at mL mS
      go_wp2_with fail
      refine (eP hR1 i p hiL hpL).mono ?_
      rintro e wz ⟨rfl,hRz,hKz⟩
      replace hKz:=hK1.trans hKz
      have hSz:=hS.sw (i:=i) (j:=p) him hpm hm
      have huz:=hu.step hpm (by omega) (by omega) (by rw[hS.len];exact hm) hl2 hmin
      have hFz:∀ k,m≤k→at_ (sw L' i p) k=at_ L k:=fun k hk=>by
       rw[iw L' hiL hpL,show sg i p k=k from by unfold sg;rw[if_neg (by omega),if_neg (by omega)]]
       exact hF.out k hk
      have HF:Hid (∀ k,m≤k→at_ (sw L' i p) k=at_ L k):=hFz
      clear mL mS hR1 hK1 hu hS hF hFz
      go_wp2
      go_roundw
      case rel=>exact⟨p,sw L' i p,rfl,.inl hpm,huz,hRz,hKz,hSz,HF⟩
      case measure=>simp[intOf];omega
     ·have hd2:decide (at_ L' p<at_ L' i)=false:=decide_eq_false hl2
      have hp:=hu.stop fun k k1 k2 k3=>by
       have:=hmin k k1 k2 k3
       omega
      go_wp2_with fail
      refine (bI hR0 p i hpL hiL).mono ?_
      rintro e w1 ⟨rfl,q1,rfl⟩
      rw[hd2]
      have hb1:=below_drewN (Below.refl W1.heap.size W1) q1
      have hR1:=hR0.up hb1
      have hK1:=hK0.trans (Kb.up S v hb1)
      clear mL hR0 hK0 hb1 hd2
      generalize W1.drewN q1=W2 at *
      have mL:=bJ W2 S v hR1.cell
      have mS:=bB W2 S v hR1.cell
      unfold meth at mL mS
      simp only[Tryz.types_size] at mL mS
      clear mL mS hu
      go_wp2
      go_ret
      exact⟨_,rfl,L',hR1,hK1,hp,hS,hF.out⟩
    ·have hd1:decide (at_ L' p<at_ L' j)=false:=decide_eq_false hl1
     have hmin:∀ k,0<k→k<m→(k-1) / 2=i→at_ L' j≤at_ L' k:=fun k k1 k2 k3=>by
      rcases HCH.out k k1 k2 k3 with rfl|rfl<;>omega
     go_wp2_with fail
     refine (bI hR p j hpL hjL).mono ?_
     rintro e w0 ⟨rfl,q0,rfl⟩
     rw[hd1]
     have hb0:=below_drewN (Below.refl W0.heap.size W0) q0
     have hR0:=hR.up hb0
     have hK0:=hK.trans (Kb.up S v hb0)
     clear mL hR hK hb0 hd1
     generalize W0.drewN q0=W1 at *
     have mL:=bJ W1 S v hR0.cell
     have mS:=bB W1 S v hR0.cell
     unfold meth at mL mS
     simp only[Tryz.types_size] at mL mS
     by_cases hl2:at_ L' j<at_ L' i
     ·have hd2:decide (at_ L' j<at_ L' i)=true:=decide_eq_true hl2
      go_wp2_with fail
      refine (bI hR0 j i hjL hiL).mono ?_
      rintro e w1 ⟨rfl,q1,rfl⟩
      rw[hd2]
      have hb1:=below_drewN (Below.refl W1.heap.size W1) q1
      have hR1:=hR0.up hb1
      have hK1:=hK0.trans (Kb.up S v hb1)
      clear mL hR0 hK0 hb1 hd2
      generalize W1.drewN q1=W2 at *
      have mL:=bJ W2 S v hR1.cell
      have mS:=bB W2 S v hR1.cell
      unfold meth at mL mS
      simp only[Tryz.types_size] at mL mS
      go_wp2_with fail
      refine (eP hR1 i j hiL hjL).mono ?_
      rintro e wz ⟨rfl,hRz,hKz⟩
      replace hKz:=hK1.trans hKz
      have hSz:=hS.sw (i:=i) (j:=j) him hjm hm
      have huz:=hu.step hjm (by omega) (by omega) (by rw[hS.len];exact hm) hl2 hmin
      have hFz:∀ k,m≤k→at_ (sw L' i j) k=at_ L k:=fun k hk=>by
       rw[iw L' hiL hjL,show sg i j k=k from by unfold sg;rw[if_neg (by omega),if_neg (by omega)]]
       exact hF.out k hk
      have HF:Hid (∀ k,m≤k→at_ (sw L' i j) k=at_ L k):=hFz
      clear mL mS hR1 hK1 hu hS hF hFz
      go_wp2
      go_roundw
      case rel=>exact⟨j,sw L' i j,rfl,.inl hjm,huz,hRz,hKz,hSz,HF⟩
      case measure=>simp[intOf];omega
     ·have hd2:decide (at_ L' j<at_ L' i)=false:=decide_eq_false hl2
      have hp:=hu.stop fun k k1 k2 k3=>by
       have:=hmin k k1 k2 k3
       omega
      go_wp2_with fail
      refine (bI hR0 j i hjL hiL).mono ?_
      rintro e w1 ⟨rfl,q1,rfl⟩
      rw[hd2]
      have hb1:=below_drewN (Below.refl W1.heap.size W1) q1
      have hR1:=hR0.up hb1
      have hK1:=hK0.trans (Kb.up S v hb1)
      clear mL hR0 hK0 hb1 hd2
      generalize W1.drewN q1=W2 at *
      have mL:=bJ W2 S v hR1.cell
      have mS:=bB W2 S v hR1.cell
      unfold meth at mL mS
      simp only[Tryz.types_size] at mL mS
      clear mL mS hu
      go_wp2
      go_ret
      exact⟨_,rfl,L',hR1,hK1,hp,hS,hF.out⟩
   ·have hmin:∀ k,0<k→k<m→(k-1) / 2=i→at_ L' j≤at_ L' k:=fun k k1 k2 k3=>by
     obtain rfl:k=j:=by omega
     exact Int.le_refl _
    clear hj hp1 hi0
    by_cases hl2:at_ L' j<at_ L' i
    ·have hd2:decide (at_ L' j<at_ L' i)=true:=decide_eq_true hl2
     go_wp2_with fail
     refine (bI hR j i hjL hiL).mono ?_
     rintro e w0 ⟨rfl,q0,rfl⟩
     rw[hd2]
     have hb0:=below_drewN (Below.refl W0.heap.size W0) q0
     have hR0:=hR.up hb0
     have hK0:=hK.trans (Kb.up S v hb0)
     clear mL hR hK hb0 hd2
     generalize W0.drewN q0=W1 at *
     have mL:=bJ W1 S v hR0.cell
     have mS:=bB W1 S v hR0.cell
     unfold meth at mL mS
     simp only[Tryz.types_size] at mL mS
     go_wp2_with fail
     refine (eP hR0 i j hiL hjL).mono ?_
     rintro e wz ⟨rfl,hRz,hKz⟩
     replace hKz:=hK0.trans hKz
     have hSz:=hS.sw (i:=i) (j:=j) him hjm hm
     have huz:=hu.step hjm (by omega) (by omega) (by rw[hS.len];exact hm) hl2 hmin
     have hFz:∀ k,m≤k→at_ (sw L' i j) k=at_ L k:=fun k hk=>by
      rw[iw L' hiL hjL,show sg i j k=k from by unfold sg;rw[if_neg (by omega),if_neg (by omega)]]
      exact hF.out k hk
     have HF:Hid (∀ k,m≤k→at_ (sw L' i j) k=at_ L k):=hFz
     clear mL mS hR0 hK0 hu hS hF hFz
     go_wp2
     go_roundw
     case rel=>exact⟨j,sw L' i j,rfl,.inl hjm,huz,hRz,hKz,hSz,HF⟩
     case measure=>simp[intOf];omega
    ·have hd2:decide (at_ L' j<at_ L' i)=false:=decide_eq_false hl2
     have hp:=hu.stop fun k k1 k2 k3=>by
      have:=hmin k k1 k2 k3
      omega
     go_wp2_with fail
     refine (bI hR j i hjL hiL).mono ?_
     rintro e w0 ⟨rfl,q0,rfl⟩
     rw[hd2]
     have hb0:=below_drewN (Below.refl W0.heap.size W0) q0
     have hR0:=hR.up hb0
     have hK0:=hK.trans (Kb.up S v hb0)
     clear mL hR hK hb0 hd2
     generalize W0.drewN q0=W1 at *
     have mL:=bJ W1 S v hR0.cell
     have mS:=bB W1 S v hR0.cell
     unfold meth at mL mS
     simp only[Tryz.types_size] at mL mS
     clear mL mS hu
     go_wp2
     go_ret
     exact⟨_,rfl,L',hR0,hK0,hp,hS,hF.out⟩
  ·have hp:=hu.stop fun k k1 k2 k3=>by omega
   clear mL hu hj
   go_wp2
   go_ret
   exact⟨_,rfl,L',hR,hK,hp,hS,hF.out⟩
end
section
variable {L:List Int}
theorem jd (L:List Int) (x:Int) (k:Nat) (hk:k≤L.length):at_ (L++[x]) k=if k=L.length then x else at_ L k:=by
 unfold at_
 rw[List.getD_eq_getElem?_getD,List.getElem?_append]
 by_cases e:k=L.length
 ·subst e;simp
 ·rw[if_pos (by omega),if_neg e,List.getD_eq_getElem?_getD]
theorem in_app {x y:Int}:In (L++[x]) (L.length+1) y↔In L L.length y∨y=x:=by
 constructor
 ·rintro ⟨k,hk,e⟩
  rw[jd L x k (by omega)] at e
  by_cases h:k=L.length
  ·rw[if_pos h] at e;exact .inr e.symm
  ·rw[if_neg h] at e;exact .inl ⟨k,by omega,e⟩
 ·rintro (⟨k,hk,e⟩|e)
  ·exact⟨k,by omega,by rw[jd L x k (by omega),if_neg (by omega)];exact e⟩
  ·exact⟨L.length,by omega,by rw[jd L x _ (Nat.le_refl _),if_pos rfl,e]⟩
theorem inj_app {x:Int} (h:Inj L L.length) (hx:¬ In L L.length x):Inj (L++[x]) (L.length+1):=by
 intro a b ha hb e
 rw[jd L x a (by omega),jd L x b (by omega)] at e
 by_cases h1:a=L.length
 ·by_cases h2:b=L.length
  ·omega
  ·rw[if_pos h1,if_neg h2] at e
   exact absurd ⟨b,by omega,e.symm⟩ hx
 ·by_cases h2:b=L.length
  ·rw[if_neg h1,if_pos h2] at e
   exact absurd ⟨a,by omega,e⟩ hx
  ·rw[if_neg h1,if_neg h2] at e
   exact h a b (by omega) (by omega) e
theorem hp_app {x:Int} (h:Hp L L.length):Hp (L++[x]) L.length:=fun k k0 kn=>by
 rw[jd L x _ (by omega),jd L x k (by omega),if_neg (by omega),if_neg (by omega)]
 exact h k k0 kn
theorem at_take {m k:Nat} (hk:k<m):at_ (L.take m) k=at_ L k:=by
 unfold at_
 rw[List.getD_eq_getElem?_getD,List.getElem?_take,if_pos hk,List.getD_eq_getElem?_getD]
theorem in_sw {m:Nat} (hm:L.length=m+1) (h:Inj L (m+1)) (y:Int):In (sw L 0 m) m y↔In L (m+1) y∧y≠at_ L 0:=by
 have hs:=iw L (show 0<L.length by omega) (show m<L.length by omega)
 constructor
 ·rintro ⟨k,hk,e⟩
  rw[hs] at e
  have h1:sg 0 m k<m+1:=qB (by omega) (by omega) (by omega)
  refine⟨⟨_,h1,e⟩,fun e2=>?_⟩
  have h2:=h _ 0 h1 (by omega) (e.trans e2)
  unfold sg at h2
  by_cases e3:k=0
  ·rw[if_pos e3] at h2;omega
  ·rw[if_neg e3,if_neg (by omega)] at h2;omega
 ·rintro ⟨⟨k,hk,e⟩,hy⟩
  have hk0:k≠0:=fun e2=>hy (by rw[← e,e2])
  refine⟨sg 0 m k,?_,by rw[hs,rT];exact e⟩
  unfold sg
  rw[if_neg hk0]
  split<;>omega
section
variable {w:World} {S Z:Nat} {v:Value}
theorem pu (h:Rq w S Z v L) (hH:Hp L L.length) (hI:Inj L L.length) (x:Int) (hx:¬ In L L.length x) (hl:L.length≤10000000000) :
  Calls Tryz.prog 54 #[.iface 113 (.pointer (some ⟨S,0,none⟩)),.iface 3 (.int .i64 x)] w fun e w'=>e=.returned (.tuple #[])∧∃ v' L',Rq w' S Z v' L'∧Kb w w' S v v'∧Hp L' L'.length∧Inj L' L'.length∧L'.length=L.length+1∧∀ y,In L' L'.length y↔In L L.length y∨y=x:=by
 have mP:=meth_push w S
 unfold meth at mP
 simp only[Tryz.types_size] at mP
 have hlen:(L++[x]).length=L.length+1:=by simp
 have hin:∀ y,In (L++[x]) (L.length+1) y↔In L L.length y∨y=x:=fun y=>in_app
 have hij:=inj_app hI hx
 have hu:UpI (L++[x]) (L.length+1) L.length:=UpI.start (hp_app hH)
 go_enter Tryz.func54,Tryz.ntmps54
 go_wp2_with fail
 refine (push_leaf h x (by omega)).mono ?_
 rintro e w1 ⟨rfl,v',hR,hK⟩
 have mLn:=og w1 S v' hR.cell
 unfold meth at mLn
 simp only[Tryz.types_size] at mLn
 clear h mP
 generalize L++[x]=M at *
 go_wp2_with fail
 refine (kI hR).mono ?_
 rintro e w2 ⟨rfl,rfl⟩
 rw[hlen]
 clear mLn
 rw[← hlen] at hu
 go_wp2_with fail
 refine (up_any hR (j:=L.length) hu (by omega) (by omega)).mono ?_
 rintro e w3 ⟨rfl,L',hR3,hK3,hH3,hS3⟩
 rw[hlen] at hH3 hS3
 go_wp2
 go_end0
 have hl3:L'.length=L.length+1:=hS3.len.trans hlen
 refine⟨rfl,v',L',hR3,hK.trans hK3,by rw[hl3];exact hH3,by rw[hl3];exact hS3.inj hij,hl3,fun y=>?_⟩
 rw[hl3]
 exact (hS3.mem y).trans (hin y)
theorem pop_any (h:Rq w S Z v L) (hH:Hp L L.length) (hI:Inj L L.length) (h0:0<L.length) (hl:L.length≤10000000000) :
  Calls Tryz.prog 56 #[.iface 113 (.pointer (some ⟨S,0,none⟩))] w fun e w'=>e=.returned (.iface 3 (.int .i64 (at_ L 0)))∧∃ v' L',Rq w' S Z v' L'∧Kb w w' S v v'∧Hp L' L'.length∧Inj L' L'.length∧L'.length+1=L.length∧∀ y,In L' L'.length y↔In L L.length y∧y≠at_ L 0:=by
 obtain⟨m,hm⟩:∃ m,L.length=m+1:=⟨L.length-1,by omega⟩
 have mLn:=og w S v h.cell
 have mS:=bB w S v h.cell
 unfold meth at mLn mS
 simp only[Tryz.types_size] at mLn mS
 have hsl:=sO L 0 m
 have hsa:=iw L (show 0<L.length by omega) (show m<L.length by omega)
 have hmm:at_ (sw L 0 m) m=at_ L 0:=by
  rw[hsa]
  unfold sg
  split
  ·next e=>rw[e]
  ·rw[if_pos rfl]
 rw[hm] at hH hI
 have hin:=in_sw hm hI
 have hij:Inj (sw L 0 m) m:=fun a b ha hb e=>sH (n:=m+1) (by omega) (by omega) (by omega) hI a b (by omega) (by omega) e
 have hd:DnI (sw L 0 m) m 0:=DnI.start hH (by omega)
 have hlw:=kI h
 have hsw:=eP h 0 m (by omega) (by omega)
 rw[hm] at hlw
 rw[hm] at hsl
 rw[hm]
 have hl1:m≤10000000000:=by omega
 generalize sw L 0 m=L1 at *
 generalize at_ L 0=y0 at *
 have HIN:Hid (∀ y,In L1 m y↔In L (m+1) y∧y≠y0):=hin
 clear hin hsa hH hI hm h0 hl
 go_enter Tryz.func56,Tryz.ntmps56
 go_wp2_with fail
 refine hlw.mono ?_
 rintro e w1 ⟨rfl,rfl⟩
 have hc:((m+1:Nat):Int)-1=(m:Int):=by omega
 clear mLn hlw
 go_wp2_with fail
 refine hsw.mono ?_
 rintro e w2 ⟨rfl,hR,hK⟩
 clear mS hsw hc
 go_wp2_with fail
 refine (down_any hR hd (by omega) (by omega)).mono ?_
 rintro e w3 ⟨b,rfl,L2,hR2,hK2,hH2,hS2,hF2⟩
 replace hK2:=hK.trans hK2
 have mP:=meth_pop w3 S
 unfold meth at mP
 simp only[Tryz.types_size] at mP
 have hl2:L2.length=m+1:=hS2.len.trans hsl
 have hpl:=pop_leaf hR2 hl2 (by omega)
 rw[hF2 m (Nat.le_refl _),hmm] at hpl
 clear hR hK hd hR2
 go_wp2_with fail
 refine hpl.mono ?_
 rintro e w4 ⟨rfl,v',hR3,hK3⟩
 clear mP hpl
 go_wp2
 go_ret
 have hlt:(L2.take m).length=m:=by rw[List.length_take];omega
 have hat:∀ k,k<m→at_ (L2.take m) k=at_ L2 k:=fun k hk=>at_take hk
 refine⟨rfl,v',L2.take m,hR3,hK2.trans hK3,?_,?_,by rw[hlt],fun y=>?_⟩
 ·rw[hlt]
  intro k k0 kn
  rw[hat _ (by omega),hat _ kn]
  exact hH2 k k0 kn
 ·rw[hlt]
  intro a b ha hb e
  rw[hat _ ha,hat _ hb] at e
  exact hS2.inj hij a b ha hb e
 ·rw[hlt]
  refine Iff.trans ?_ ((hS2.mem y).trans (HIN.out y))
  constructor
  ·rintro ⟨k,hk,e⟩
   exact⟨k,hk,by rw[← hat k hk];exact e⟩
  ·rintro ⟨k,hk,e⟩
   exact⟨k,hk,by rw[hat k hk];exact e⟩
end
end
open Hq Od
theorem lQ:∀ (n m:Nat) (f:Nat→Nat),(∀ k,k<m→f k<n)→(∀ a b,a<m→b<m→f a=f b→a=b)→m≤n
 |0,m,f,h,_=>by
  rcases Nat.eq_zero_or_pos m with e|e
  ·omega
  ·exact absurd (h 0 e) (Nat.not_lt_zero _)
 |n+1,m,f,h,hi=>by
  by_cases hk:∃ k,k<m∧f k=n
  ·obtain⟨k,hk,e⟩:=hk
   have:=lQ n (m-1) (fun j=>if j=k then f (m-1) else f j) (fun j hj=>by
    show (if j=k then f (m-1) else f j)<n
    by_cases ej:j=k
    ·rw[if_pos ej]
     have h1:=h (m-1) (by omega)
     have:f (m-1)≠n:=fun e2=>by have:=hi (m-1) k (by omega) hk (by omega);omega
     omega
    ·rw[if_neg ej]
     have h1:=h j (by omega)
     have:f j≠n:=fun e2=>ej (hi j k (by omega) hk (by omega))
     omega) (fun a b ha hb e2=>by
    replace e2:(if a=k then f (m-1) else f a)=(if b=k then f (m-1) else f b):=e2
    by_cases ea:a=k
    ·by_cases eb:b=k
     ·omega
     ·rw[if_pos ea,if_neg eb] at e2
      have:=hi (m-1) b (by omega) (by omega) e2
      omega
    ·by_cases eb:b=k
     ·rw[if_neg ea,if_pos eb] at e2
      have:=hi a (m-1) (by omega) (by omega) e2
      omega
     ·rw[if_neg ea,if_neg eb] at e2
      exact hi a b (by omega) (by omega) e2)
   omega
  ·have:=lQ n m f (fun k hk2=>by
    have h1:=h k hk2
    have:f k≠n:=fun e=>hk ⟨k,hk2,e⟩
    omega) hi
   omega
structure Ready (L:List Int) (P:Nat→Prop):Prop where
 hp:Hp L L.length
 inj:Inj L L.length
 mem:∀ y,In L L.length y↔∃ x:Nat,y=(x:Int)∧P x
theorem Ready.len {L:List Int} {P:Nat→Prop} (h:Ready L P) {n:Nat} (hn:∀ x,P x→x<n):L.length≤n:=by
 refine lQ n L.length (fun k=>(at_ L k).toNat) (fun k hk=>?_) (fun a b ha hb e=>?_)
 ·obtain⟨x,hx,hp⟩:=(h.mem _).1 ⟨k,hk,rfl⟩
  have:=hn x hp
  show (at_ L k).toNat<n
  omega
 ·obtain⟨x,hx,_⟩:=(h.mem _).1 ⟨a,ha,rfl⟩
  obtain⟨y,hy,_⟩:=(h.mem _).1 ⟨b,hb,rfl⟩
  exact h.inj a b ha hb (by replace e:(at_ L a).toNat=(at_ L b).toNat:=e;omega)
theorem Ready.nil {P:Nat→Prop} (h:∀ x,¬ P x):Ready [] P:=⟨fun _ _ hk=>absurd hk (Nat.not_lt_zero _),fun _ _ ha=>absurd ha (Nat.not_lt_zero _),fun _=>⟨fun ⟨_,hk,_⟩=>absurd hk (Nat.not_lt_zero _),fun ⟨x,_,hp⟩=>absurd hp (h x)⟩⟩
theorem Ready.congr {L:List Int} {P Q:Nat→Prop} (h:Ready L P) (e:∀ x,P x↔Q x):Ready L Q:=⟨h.hp,h.inj,fun y=>(h.mem y).trans ⟨fun ⟨x,a,b⟩=>⟨x,a,(e x).1 b⟩,fun ⟨x,a,b⟩=>⟨x,a,(e x).2 b⟩⟩⟩
theorem Ready.push {L L':List Int} {P:Nat→Prop} (h:Ready L P) {x:Nat} (h1:Hp L' L'.length) (h2:Inj L' L'.length) (h3:∀ y,In L' L'.length y↔In L L.length y∨y=(x:Int)):Ready L' fun z=>P z∨z=x:=
 ⟨h1,h2,fun y=>(h3 y).trans ⟨fun k=>by
  rcases k with k|k
  ·obtain⟨z,a,b⟩:=(h.mem y).1 k
   exact⟨z,a,.inl b⟩
  ·exact⟨x,k,.inr rfl⟩,fun ⟨z,a,b⟩=>by
  rcases b with b|b
  ·exact .inl ((h.mem y).2 ⟨z,a,b⟩)
  ·exact .inr (by rw[a,b])⟩⟩
theorem Ready.pop {L L':List Int} {P:Nat→Prop} (h:Ready L P) {x:Nat} (hx:at_ L 0=(x:Int)) (h1:Hp L' L'.length) (h2:Inj L' L'.length) (h3:∀ y,In L' L'.length y↔In L L.length y∧y≠at_ L 0):Ready L' fun z=>P z∧z≠x:=
 ⟨h1,h2,fun y=>(h3 y).trans ⟨fun ⟨k,e⟩=>by
  obtain⟨z,a,b⟩:=(h.mem y).1 k
  exact⟨z,a,b,fun e2=>e (by rw[a,e2,hx])⟩,fun ⟨z,a,b,c⟩=>⟨(h.mem y).2 ⟨z,a,b⟩,fun e=>c (by rw[hx] at e;omega)⟩⟩⟩
theorem Ready.first {L:List Int} {P:Nat→Prop} (h:Ready L P) (h0:0<L.length):∃ x:Nat,at_ L 0=(x:Int)∧P x∧∀ y,P y→x≤y:=by
 obtain⟨x,hx,hp⟩:=(h.mem _).1 ⟨0,h0,rfl⟩
 refine⟨x,hx,hp,fun y hy=>?_⟩
 obtain⟨k,hk,e⟩:=(h.mem (y:Int)).2 ⟨y,rfl,hy⟩
 have:=h.hp.least k hk
 omega
theorem Ready.none {L:List Int} {P:Nat→Prop} (h:Ready L P) (h0:L.length=0) (x:Nat):¬ P x:=fun hp=>by
 obtain⟨k,hk,_⟩:=(h.mem (x:Int)).2 ⟨x,rfl,hp⟩
 omega
def wO (es:List (Nat × Nat)) (out l:List Nat) (n:Nat):List Int:=(List.range n).map fun h=>((waits es out h-l.count h:Nat):Int)
theorem rG (es:List (Nat × Nat)) (out l:List Nat) (n:Nat):(wO es out l n).length=n:=by simp[wO]
theorem qM (es:List (Nat × Nat)) (out l:List Nat) {n g:Nat} (hg:g<n):(wO es out l n).getD g 0=((waits es out g-l.count g:Nat):Int):=by
 unfold wO
 rw[List.getD_eq_getElem?_getD,List.getElem?_map,List.getElem?_range hg]
 rfl
theorem wI_wO (es:List (Nat × Nat)) (n:Nat):wI es n=wO es [] [] n:=rfl
theorem wO_more (es:List (Nat × Nat)) (out l:List Nat) {n y:Nat} (hw:l.count y<waits es out y):(wO es out l n).set y (((waits es out y-l.count y:Nat):Int)-1)=wO es out (l++[y]) n:=by
 apply List.ext_getElem
 ·simp[wO]
 ·intro i h1 h2
  unfold wO at h1 h2 ⊢
  rw[List.getElem_set]
  simp only[List.getElem_map,List.getElem_range,List.count_append]
  by_cases e:y=i
  ·subst e
   rw[if_pos rfl,List.count_singleton_self]
   omega
  ·rw[if_neg e,List.count_singleton]
   simp[e]
theorem wO_end (es:List (Nat × Nat)) (out:List Nat) (g n:Nat) (hg:g ∉ out):wO es out (leaning es g) n=wO es (out++[g]) [] n:=by
 unfold wO
 congr 1
 funext h
 have:=waits_more es out g h hg
 rw[List.count_nil]
 congr 1
 omega
section
variable {adj:Nat→List Nat} {lst:Nat→Nat} {n:Nat}
theorem oW (hid:∀ v,v<n→lst v<n∧lst (lst v)=lst v) {g:Nat} (hg:g<n):0<(grp lst n g).length↔lst g=g:=by
 unfold grp
 rw[List.length_pos_iff_exists_mem]
 constructor
 ·rintro ⟨v,hv⟩
  rw[List.mem_filter,List.mem_range] at hv
  have e:lst v=g:=by simpa using hv.2
  have:=(hid v hv.1).2
  rw[e] at this
  exact this
 ·intro e
  exact⟨g,by rw[List.mem_filter,List.mem_range];exact⟨hg,by simpa using e⟩⟩
theorem avail_nil (hid:∀ v,v<n→lst v<n∧lst (lst v)=lst v) {g:Nat}:Avail adj lst n [] g↔g<n∧0<(grp lst n g).length∧waits (edges adj lst n) [] g=0:=by
 rw[avail_iff]
 constructor
 ·rintro ⟨h1,h2,_,h4⟩
  exact⟨h1,(oW hid h1).2 h2,h4⟩
 ·rintro ⟨h1,h2,h4⟩
  exact⟨h1,(oW hid h1).1 h2,by simp,h4⟩
theorem hand_lt {out l:List Nat} {g x:Nat} (hl:∀ y,y∈l→y<n) (h:Hand adj lst n out g l x):x<n:=by
 rcases h with⟨h,_⟩|⟨h,_⟩
 ·exact h.1
 ·exact hl x h
theorem mi {out:List Nat} (h:Od.Steps adj lst n out):out.length≤n:=by
 refine lQ n out.length (fun k=>out.getD k 0) (fun k hk=>(h k hk).1.1) ?_
 have key:∀ a b,a<b→b<out.length→out.getD a 0=out.getD b 0→False:=fun a b hab hb e=>by
  refine (h b hb).1.2.2.1 ?_
  rw[← e,List.getD_eq_getElem?_getD,List.getElem?_eq_getElem (by omega)]
  exact List.mem_iff_getElem.2 ⟨a,by rw[List.length_take];omega,by rw[List.getElem_take];rfl⟩
 intro a b ha hb e
 rcases Nat.lt_trichotomy a b with k|k|k
 ·exact (key a b k hb e).elim
 ·exact k
 ·exact (key b a k ha e.symm).elim
theorem leaning_lt (hid:∀ v,v<n→lst v<n∧lst (lst v)=lst v) {g h:Nat} (hm:h∈leaning (edges adj lst n) g):h<n:=by
 obtain⟨v,hv,e,_⟩:=fI.1 hm
 rw[← e]
 exact (hid v hv).1
theorem cZ {l:List Nat} {k:Nat} (hk:k<l.length):(l.take k).count (l.getD k 0)<l.count (l.getD k 0):=by
 have h1:=take_more hk
 have h2:(l.take (k+1)).count (l.getD k 0)≤l.count (l.getD k 0):=(List.take_sublist _ _).count_le _
 rw[h1,List.count_append,List.count_singleton_self] at h2
 omega
end
open Tj Od
structure Lst (adj:Nat→List Nat) (n:Nat) (lst:Nat→Nat):Prop where
 sc:∀ v,v<n→Sc adj v (lst v)
 le:∀ v u,v<n→Sc adj v u→lst v≤u
section
variable {adj:Nat→List Nat} {n:Nat} {lst:Nat→Nat}
theorem Lst.self (h:Lst adj n lst) {v:Nat} (hv:v<n):lst v≤v:=h.le v v hv (Sc.refl _ _)
theorem Lst.lt (h:Lst adj n lst) {v:Nat} (hv:v<n):lst v<n:=Nat.lt_of_le_of_lt (h.self hv) hv
theorem Lst.same (h:Lst adj n lst) {v u:Nat} (hv:v<n) (hu:u<n):lst v=lst u↔Sc adj v u:=by
 constructor
 ·intro e
  have h1:=h.sc v hv
  rw[e] at h1
  exact h1.trans (h.sc u hu).symm
 ·intro e
  have h1:=h.le v (lst u) hv (e.trans (h.sc u hu))
  have h2:=h.le u (lst v) hu (e.symm.trans (h.sc v hv))
  omega
theorem Lst.idem (h:Lst adj n lst):∀ v,v<n→lst v<n∧lst (lst v)=lst v:=fun v hv=>⟨h.lt hv,((h.same hv (h.lt hv)).2 (h.sc v hv)).symm⟩
theorem Lst.one {lst':Nat→Nat} {adj':Nat→List Nat} (ha:∀ v x,v<n→(x∈adj v↔x∈adj' v)) (hl:∀ v,v<n→∀ x,x∈adj v→x<n) (h:Lst adj n lst) (h':Lst adj' n lst'):∀ v,v<n→lst v=lst' v:=by
 have st:∀ a b,a<n→Star adj a b→b<n∧Star adj' a b:=fun a b ha2 hs=>by
  induction hs with
  |refl=>exact⟨ha2,.refl⟩
  |on _ hc ih=>exact⟨hl _ ih.1 _ hc,.on ih.2 ((ha _ _ ih.1).1 hc)⟩
 have st':∀ a b,a<n→Star adj' a b→b<n∧Star adj a b:=fun a b ha2 hs=>by
  induction hs with
  |refl=>exact⟨ha2,.refl⟩
  |on _ hc ih=>
   have k:=(ha _ _ ih.1).2 hc
   exact⟨hl _ ih.1 _ k,.on ih.2 k⟩
 have sc:∀ a b,a<n→b<n→(Sc adj a b↔Sc adj' a b):=fun a b h1 h2=>⟨fun k=>⟨(st a b h1 k.1).2,(st b a h2 k.2).2⟩,fun k=>⟨(st' a b h1 k.1).2,(st' b a h2 k.2).2⟩⟩
 intro v hv
 have h1:=h.le v (lst' v) hv ((sc _ _ hv (h'.lt hv)).2 (h'.sc v hv))
 have h2:=h'.le v (lst v) hv ((sc _ _ hv (h.lt hv)).1 (h.sc v hv))
 omega
theorem qa {adj':Nat→List Nat} {lst':Nat→Nat} (ha:∀ v x,v<n→(x∈adj v↔x∈adj' v)) (hl:∀ v,v<n→∀ x,x∈adj v→x<n) (he:∀ v,v<n→lst v=lst' v) {out:List Nat} (h:Fin adj lst n out):Fin adj' lst' n out:=by
 have hle:∀ g h,nC adj lst n g h↔nC adj' lst' n g h:=fun g h=>by
  constructor
  ·rintro ⟨v,hv,e,w,hw,e2,hne⟩
   exact⟨v,hv,by rw[← he v hv];exact e,w,(ha v w hv).1 hw,by rw[← he w (hl v hv w hw)];exact e2,hne⟩
  ·rintro ⟨v,hv,e,w,hw,e2,hne⟩
   have hw2:=(ha v w hv).2 hw
   exact⟨v,hv,by rw[he v hv];exact e,w,hw2,by rw[he w (hl v hv w hw2)];exact e2,hne⟩
 have hav:∀ o g,Avail adj lst n o g↔Avail adj' lst' n o g:=fun o g=>by
  constructor
  ·rintro ⟨h1,h2,h3,h4⟩
   exact⟨h1,by rw[← he g h1];exact h2,h3,fun k hk=>h4 k ((hle g k).2 hk)⟩
  ·rintro ⟨h1,h2,h3,h4⟩
   exact⟨h1,by rw[he g h1];exact h2,h3,fun k hk=>h4 k ((hle g k).1 hk)⟩
 exact⟨fun k hk=>⟨(hav _ _).1 (h.1 k hk).1,fun g hg=>(h.1 k hk).2 g ((hav _ _).2 hg)⟩,fun g hg=>h.2 g ((hav _ _).2 hg)⟩
end
structure LwB (S:Nat) (T:Nat→Nat) (kw n:Nat) (V:Nat→Nat→Value) (B:Nat):Prop where
 s:S<B
 t:∀ t,t<2→T t<B
 k:kw<B
 o:∀ t v g,t<2→v<n→(V t v).ownBlock=some g→g<B
section
variable {w w':World} {S kw Z n B:Nat} {T:Nat→Nat} {V:Nat→Nat→Value} {R:Nat→Nat→List Int} {Ws:List Int}
theorem Lw.bounds (h:Lw w S T kw Z n V R Ws):LwB S T kw n V w.heap.size:=⟨h.lt,fun t ht=>(h.tab t ht).lt,h.wts.lt,fun t v g ht hv hg=>((h.row t v ht hv).lt g hg).2⟩
theorem LwB.mono (h:LwB S T kw n V B) {B':Nat} (hb:B≤B'):LwB S T kw n V B':=⟨Nat.lt_of_lt_of_le h.s hb,fun t ht=>Nat.lt_of_lt_of_le (h.t t ht) hb,Nat.lt_of_lt_of_le h.k hb,fun t v g ht hv hg=>Nat.lt_of_lt_of_le (h.o t v g ht hv hg) hb⟩
theorem Lw.lowB (h:Lw w S T kw Z n V R Ws) (hB:LwB S T kw n V B) (hb:Below B w w'):Lw w' S T kw Z n V R Ws:=
 { blk:=by rw[hb.block S hB.s];exact h.blk,tab:=fun t ht=>(h.tab t ht).other (hb.block _ (hB.t t ht)),wts:=h.wts.other (hb.block _ hB.k),nw:=h.nw,row:=fun t v ht hv=>aD (h.row t v ht hv) fun g hg=>hb.block g (hB.o t v g ht hv hg),zS:=h.zS,zT:=h.zT,zw:=h.zw,dT:=h.dT,dS:=h.dS,dw:=h.dw,sw:=h.sw,od:=h.od,ap:=h.ap }
theorem Lw.boxed (h:Lw w S T kw Z n V R Ws):Lw (w.alloc (.cells #[.slice (some ⟨T 0,0,none⟩) n n,.slice (some ⟨T 1,0,none⟩) n n,.slice (some ⟨kw,0,none⟩) n n] 76)) w.heap.size T kw Z n V R Ws:=by
 have h1:=h.up (ae w (.cells #[.slice (some ⟨T 0,0,none⟩) n n,.slice (some ⟨T 1,0,none⟩) n n,.slice (some ⟨kw,0,none⟩) n n] 76))
 exact { blk:=(by show (w.heap.push _)[w.heap.size]?=_;exact Array.getElem?_push_size),tab:=h1.tab,wts:=h1.wts,nw:=h.nw,row:=h1.row,zS:=h.le,zT:=h.zT,zw:=h.zw,dT:=h.dT,dS:=fun t ht e=>by have:=(h.tab t ht).lt;omega,dw:=h.dw,sw:=(fun e=>by have:=h.wts.lt;omega),od:=fun t v g ht hv hg=>⟨fun e=>by have:=((h.row t v ht hv).lt g hg).2;omega,(h.od t v g ht hv hg).2⟩,ap:=h.ap }
end
structure Gr (w:World) (S Z:Nat) (v vg:Value) (G:List Value):Prop where
 row:w.ownsRow Z 36 1 vg G.length G
 ns:vg.ownBlock≠some S
 ap:∀ g,v.ownBlock=some g→vg.ownBlock≠some g
section
variable {w w':World} {S Z:Nat} {v v' vg:Value} {L:List Int} {G:List Value}
theorem Rq.keepB (h:Rq w S Z v L) (hb:∀ k,Z≤k→w'.heap[k]?=w.heap[k]?):Rq w' S Z v L:=⟨by rw[hb S h.zS];exact h.blk,aD h.row fun g hg=>hb g (h.row.lt g hg).1,h.zS,h.od⟩
theorem Gr.keepB (h:Gr w S Z v vg G) (hb:∀ k,Z≤k→w'.heap[k]?=w.heap[k]?):Gr w' S Z v vg G:=⟨aD h.row fun g hg=>hb g (h.row.lt g hg).1,h.ns,h.ap⟩
theorem Gr.kept (h:Gr w S Z v vg G) (hk:Kb w w' S v v'):Gr w' S Z v' vg G:=⟨aD h.row fun g hg=>hk.keep g (h.row.lt g hg).2 (fun e=>h.ns (by rw[hg,e])) fun e=>h.ap g e hg,h.ns,fun g hg e=>by
 rcases hk.new g hg with k|k
 ·exact h.ap g k e
 ·have:=(h.row.lt g e).2
  omega⟩
theorem Gr.app (hR:Rq w S Z v L) (h:Gr w S Z v vg G) {xr:Option Addr} {xl xc:Nat} (hl:G.length≤100000000) :
  ∃ g cq w2,(Builtin.append_ #[29,29] 29 #[vg,.slice (some ⟨w.heap.size,0,none⟩) 1 1]).run Tryz.prog (w.alloc (.cells #[.slice xr xl xc] 36))=.ok (.slice (some ⟨g,0,none⟩) (G.length+1) cq) w2 ∧
   Rq w2 S Z v L∧Gr w2 S Z v (.slice (some ⟨g,0,none⟩) (G.length+1) cq) (G++[.slice xr xl xc])∧Below Z w w2:=by
 obtain⟨i0,hi,hz0,hz1,hz2⟩:=info_parts Tryz.infoS
 have hb:=ae w (.cells #[.slice xr xl xc] 36)
 have hle:=hR.le
 have hlt:=hR.lt
 obtain⟨v',w2,hr,ho,hg,_,hloc⟩:=run_append_own_at (P:=Tryz.prog) (w.alloc (.cells #[.slice xr xl xc] 36)) Z 29 29 36 i0 (.slice none 0 0) 1 24 Tryz.underS hi hz0 hz1 hz2 rfl (by decide) vg G.length _ (aX h.row hb) ⟨w.heap.size,0,none⟩ 1 1 [.slice xr xl xc] rfl (cell_one_new w (.slice xr xl xc) 36) (by intro u hu;simp at hu;subst hu;rfl) (by unfold maxLen;omega) (by omega) (by simp;omega)
 have e1:(G++[Value.slice xr xl xc]).length=G.length+1:=by simp
 have hsz1:(w.alloc (.cells #[.slice xr xl xc] 36)).heap.size=w.heap.size+1:=by simp
 rcases ho.2 with⟨_,h0⟩|⟨g,cq,cur,rfl,_⟩
 ·omega
 ·have hR1:=hR.up hb
  have hne:∀ k,k<w.heap.size→vg.ownBlock≠some k→g≠k:=fun k hk hv e=>by
   rcases hloc with k2|k2
   ·exact hv (k2.symm.trans (congrArg some e))
   ·have k3:g=_:=Option.some.inj k2
    omega
  refine⟨g,cq,w2,hr,⟨by rw[hg.block S (by omega) fun e=>h.ns e.symm];exact hR1.blk,aD hR1.row fun b hb2=>hg.block b (hR1.row.lt b hb2).2 fun e=>h.ap b hb2 e.symm,hR.zS,hR.od⟩,⟨by rw[e1];exact ho,fun e=>hne S hlt h.ns (Option.some.inj e),fun b hb2 e=>hne b (hR.row.lt b hb2).2 (h.ap b hb2) (Option.some.inj e)⟩,(hb.mono hle).grown hg (by omega) fun k e=>(h.row.lt k e).1⟩
end
def sliceLen:Value→Nat
 |.slice _ l _=>l
 |_=>0
theorem order_any (w:World) (S kw Z n:Nat) (T:Nat→Nat) (V:Nat→Nat→Value) (adj:Nat→List Nat) (lst:Nat→Nat) (hL:Lw w S T kw Z n V (lR lst n (Od.edges adj lst n)) (wI (Od.edges adj lst n) n)) (hid:∀ v,v<n→lst v<n∧lst (lst v)=lst v) (hn:n≤100000) (hes:(Od.edges adj lst n).length≤100000000000) :
  Calls Tryz.prog 36 #[.agg #[.slice (some ⟨T 0,0,none⟩) n n,.slice (some ⟨T 1,0,none⟩) n n,.slice (some ⟨kw,0,none⟩) n n]] w fun e w'=>∃ vg out Zg Ws,e=.returned vg∧Od.Fin adj lst n out∧w.heap.size≤Zg∧w'.ownsRow Zg 36 1 vg (out.map (V 0)).length (out.map (V 0))∧Lw w' w.heap.size T kw Z n V (lR lst n (Od.edges adj lst n)) Ws∧LwB w.heap.size T kw n V Zg∧Below Z w w':=by
 have hb1:=ae w (.cells #[.slice (some ⟨T 0,0,none⟩) n n,.slice (some ⟨T 1,0,none⟩) n n,.slice (some ⟨kw,0,none⟩) n n] 76)
 have hL1:=hL.boxed
 have hB1:=hL1.bounds
 have hB0:=hL.bounds
 have hsz1:(w.alloc (.cells #[.slice (some ⟨T 0,0,none⟩) n n,.slice (some ⟨T 1,0,none⟩) n n,.slice (some ⟨kw,0,none⟩) n n] 76)).heap.size=w.heap.size+1:=by simp
 have hZw:=hL.le
 have hbz1:Below Z w (w.alloc (.cells #[.slice (some ⟨T 0,0,none⟩) n n,.slice (some ⟨T 1,0,none⟩) n n,.slice (some ⟨kw,0,none⟩) n n] 76)):=hb1.mono hZw
 clear hL
 go_enter Tryz.func36,Tryz.ntmps36
 go_upto_region 2 with fail
 generalize w.alloc (.cells #[.slice (some ⟨T 0,0,none⟩) n n,.slice (some ⟨T 1,0,none⟩) n n,.slice (some ⟨kw,0,none⟩) n n] 76)=W1 at *
 have hb2:=ae W1 (.cells #[.slice none 0 0] 116)
 have hL2:=hL1.up hb2
 have hbz2:=hbz1.trans (hb2.mono (show Z≤W1.heap.size by omega))
 have hR2:Rq (W1.alloc (.cells #[.slice none 0 0] 116)) (w.heap.size+1) (w.heap.size+1) (.slice none 0 0) []:=⟨by rw[← hsz1];show (W1.heap.push _)[W1.heap.size]?=_;exact Array.getElem?_push_size,⟨rfl,.inl ⟨rfl,rfl⟩⟩,Nat.le_refl _,by simp[Value.ownBlock]⟩
 rw[hsz1] at hB1
 rw[wI_wO] at hL2
 clear hL1 hb1 hb2 hbz1 hsz1
 generalize W1.alloc (.cells #[.slice none 0 0] 116)=W2 at *
 obtain⟨c0,c1,c2⟩:=hL2.cells
 go_wp2
 clear c0 c1 c2
 go_loopw [15] (fun iv wr=>∃ (i:Nat) (v:Value) (L:List Int),iv=.int .i64 i∧i≤n∧Rq wr (w.heap.size+1) (w.heap.size+1) v L∧Ready L (fun x=>x<i∧Od.Avail adj lst n [] x)∧Lw wr w.heap.size T kw Z n V (lR lst n (Od.edges adj lst n)) (wO (Od.edges adj lst n) [] [] n)∧Below Z w wr) (fun iv _=>n-(intOf iv).toNat)
 case atStart=>exact⟨0,_,[],rfl,Nat.zero_le _,hR2,Ready.nil fun x hx=>absurd hx.1 (Nat.not_lt_zero x),hL2,hbz2⟩
 case round=>
  obtain⟨i,v,L,rfl,hi,hR,hY,hL,hbr⟩:=hrel
  clear hL2 hR2 hbz2
  obtain⟨c0,c1,c2⟩:=hL.cells
  by_cases hlt:i<n
  ·have m1:=(hL.tab 0 (by decide)).cell hlt
   obtain⟨ro,rc,hV⟩:=fM (hL.row 0 i (by decide) hlt)
   rw[show lR lst n (Od.edges adj lst n) 0 i=zs (grp lst n i) from rfl,bF] at hV
   obtain⟨gl,hgl⟩:∃ gl,gl=(grp lst n i).length:=⟨_,rfl⟩
   have hgl1:gl≤n:=by rw[hgl];exact mM n i
   rw[hV,← hgl] at m1
   have d1:=hL.wts.cell (show i<(wO (Od.edges adj lst n) [] [] n).length by rw[rG];exact hlt)
   rw[qM _ _ _ hlt,List.count_nil,Nat.sub_zero] at d1
   obtain⟨wt,hwt⟩:∃ wt,wt=Od.waits (Od.edges adj lst n) [] i:=⟨_,rfl⟩
   have hwl:=iW (Od.edges adj lst n) [] i
   rw[← hwt] at d1 hwl
   have hAv:Od.Avail adj lst n [] i↔0<gl∧wt=0:=by rw[avail_nil hid,← hgl,← hwt];exact⟨fun h=>h.2,fun h=>⟨hlt,h⟩⟩
   have HAV:Hid (Od.Avail adj lst n [] i↔0<gl∧wt=0):=hAv
   clear hV hgl hwt hAv
   by_cases ha:0<gl∧wt=0
   ·obtain⟨h0,rfl⟩:=ha
    have hd0:decide (gl > 0)=true:=decide_eq_true h0
    have hYn:¬ In L L.length (i:Int):=fun h=>by
     obtain⟨x,hx,h1,_⟩:=(hY.mem _).1 h
     omega
    have hlen:=hY.len (n:=n) fun x hx=>hx.2.1
    have hP:=pu hR hY.hp hY.inj (i:Int) hYn (by omega)
    go_wp2_with fail
    refine hP.mono ?_
    rintro e w3 ⟨rfl,v',L',hR3,hK3,hH3,hI3,_,hM3⟩
    have hY3:=(hY.push hH3 hI3 hM3).congr (Q:=fun x=>x<i+1∧Od.Avail adj lst n [] x) fun x=>by
     constructor
     ·rintro (⟨h1,h2⟩|h1)
      ·exact⟨by omega,h2⟩
      ·exact⟨by omega,by rw[h1];exact HAV.out.2 ⟨h0,by simp⟩⟩
     ·rintro ⟨h1,h2⟩
      by_cases e:x=i
      ·exact .inr e
      ·exact .inl ⟨by omega,h2⟩
    have hb3:=hK3.below hR
    have hL3:=hL.lowB hB1 hb3
    have hbr3:=hbr.trans (hb3.mono (by omega))
    clear hP hR hY hL hbr hK3 hH3 hI3 hM3 hb3 c0 c1 c2 m1 d1
    go_wp2
    go_roundw
    case rel=>exact⟨i+1,v',L',by go_num,by omega,hR3,hY3,hL3,hbr3⟩
    case measure=>simp[intOf];omega
   ·have hY3:=hY.congr (Q:=fun x=>x<i+1∧Od.Avail adj lst n [] x) fun x=>by
     constructor
     ·rintro ⟨h1,h2⟩
      exact⟨by omega,h2⟩
     ·rintro ⟨h1,h2⟩
      by_cases e:x=i
      ·rw[e] at h2
       exact absurd (HAV.out.1 h2) ha
      ·exact⟨by omega,h2⟩
    clear hY
    have HA:Hid (¬ (0<gl∧wt=0)):=ha
    clear ha
    by_cases h0:0<gl
    ·have hd0:decide (gl > 0)=true:=decide_eq_true h0
     have hd1:((wt:Int)==0)=false:=by
      rw[beq_eq_false_iff_ne]
      intro e
      exact HA.out ⟨h0,by omega⟩
     have hd2:wt≠0:=fun e=>HA.out ⟨h0,e⟩
     go_wp2
     go_roundw
     case rel=>exact⟨i+1,v,L,by go_num,by omega,hR,hY3,hL,hbr⟩
     case measure=>simp[intOf];omega
    ·obtain rfl:gl=0:=by omega
     go_wp2
     go_roundw
     case rel=>exact⟨i+1,v,L,by go_num,by omega,hR,hY3,hL,hbr⟩
     case measure=>simp[intOf];omega
  ·obtain rfl:n=i:=by omega
   have hY0:=hY.congr (Q:=Od.Avail adj lst n []) fun x=>⟨fun h=>h.2,fun h=>⟨h.1,h⟩⟩
   have hG0:Gr wr (w.heap.size+1) (w.heap.size+1) v (.slice none 0 0) (([]:List Nat).map (V 0)):=⟨⟨rfl,.inl ⟨rfl,rfl⟩⟩,by simp[Value.ownBlock],fun g _=>by simp[Value.ownBlock]⟩
   have HS:Hid (Rq wr (w.heap.size+1) (w.heap.size+1) v L∧Ready L (Od.Avail adj lst n [])∧Gr wr (w.heap.size+1) (w.heap.size+1) v (.slice none 0 0) (([]:List Nat).map (V 0))∧Lw wr w.heap.size T kw Z n V (lR lst n (Od.edges adj lst n)) (wO (Od.edges adj lst n) [] [] n)∧Below Z w wr):=⟨hR,hY0,hG0,hL,hbr⟩
   clear hY hY0 hG0 hL hbr hR c0 c1 c2 hi hlt
   go_wp2
   go_loopw [6] (fun gv wr=>∃ (out:List Nat) (v:Value) (L:List Int),(∃ r c,gv=.slice r out.length c)∧Od.Steps adj lst n out∧Rq wr (w.heap.size+1) (w.heap.size+1) v L∧Ready L (Od.Avail adj lst n out)∧Gr wr (w.heap.size+1) (w.heap.size+1) v gv (out.map (V 0))∧Lw wr w.heap.size T kw Z n V (lR lst n (Od.edges adj lst n)) (wO (Od.edges adj lst n) out [] n)∧Below Z w wr) (fun gv _=>n-sliceLen gv)
   case atStart=>exact⟨[],v,L,⟨_,_,rfl⟩,Od.Steps.nil,HS.out.1,HS.out.2.1,HS.out.2.2.1,HS.out.2.2.2.1,HS.out.2.2.2.2⟩
   case round=>
    clear HS
    rename World=>wr1
    obtain⟨out,v,L,⟨gr,gc,rfl⟩,hSt,hR,hY,hG,hL,hbr⟩:=hrel
    have hol:=mi hSt
    have hlw:=kI hR
    have c0:=hR.cell
    by_cases h0:0<L.length
    ·have hd0:decide (L.length > 0)=true:=decide_eq_true h0
     have hlen:=hY.len (n:=n) fun x hx=>hx.1
     obtain⟨g,hg,hAg,hmin⟩:=hY.first h0
     have hgn:=hAg.1
     have hP:=pop_any hR hY.hp hY.inj h0 (by omega)
     rw[hg] at hP
     have hta:=jF (g:Int)
     go_wp2_with fail
     refine hlw.mono ?_
     rintro e w3 ⟨rfl,rfl⟩
     clear hlw c0
     go_wp2_with fail
     refine hP.mono ?_
     rintro e w4 ⟨rfl,v4,L4,hR4,hK4,hH4,hI4,hl4,hM4⟩
     rw[← hg] at hM4
     have hY4:=hY.pop hg hH4 hI4 hM4
     have hb4:=hK4.below hR
     have hL4:=hL.lowB hB1 hb4
     have hG4:=hG.kept hK4
     have hbr4:=hbr.trans (hb4.mono (by omega))
     clear hP hR hY hG hL hbr hK4 hb4 hH4 hI4 hM4
     obtain⟨xr,xc,hV0⟩:=fM (hL4.row 0 g (by decide) hgn)
     have m0:=(hL4.tab 0 (by decide)).cell hgn
     rw[hV0] at m0
     have hml:(out.map (V 0)).length=out.length:=by simp
     obtain⟨xl,hxl⟩:∃ xl,xl=(lR lst n (Od.edges adj lst n) 0 g).length:=⟨_,rfl⟩
     rw[← hxl] at m0 hV0
     obtain⟨g5,cq5,w5,hr,hR5,hG5,hb5⟩:=Gr.app (xr:=xr) (xl:=xl) (xc:=xc) hR4 hG4 (by omega)
     rw[hml] at hr hG5
     rw[show out.map (V 0)++[Value.slice xr xl xc]=(out++[g]).map (V 0) from by rw[List.map_append,List.map_singleton,hV0]] at hG5
     obtain⟨c0,c1,c2⟩:=hL4.cells
     have hL5:=hL4.lowB hB1 hb5
     have hbr5:=hbr4.trans (hb5.mono (by omega))
     have HR:Hid (_=_):=hr
     have hxl1:xl≤100000:=by
      have:=mM (lst:=lst) n g
      rw[hxl,show lR lst n (Od.edges adj lst n) 0 g=zs (grp lst n g) from rfl,bF]
      omega
     clear hr hR4 hG4 hL4 hb5 hbr4 hml hV0 hxl
     go_upto_region 12 with (first
      |(at_builtin;refine bW rfl (.tmp 47) (.tmp 53) 29 rfl rfl _ _ rfl rfl _ _ (show _=_ from HR.out) ?_)
      |fail)
     clear HR c0 c1 c2 m0
     obtain⟨yr,yc,hV1⟩:=fM (hL5.row 1 g (by decide) hgn)
     obtain⟨lg,hlg⟩:∃ lg,lg=Od.leaning (Od.edges adj lst n) g:=⟨_,rfl⟩
     rw[show lR lst n (Od.edges adj lst n) 1 g=zs (Od.leaning (Od.edges adj lst n) g) from rfl,← hlg,bF] at hV1
     have hrow:lR lst n (Od.edges adj lst n) 1 g=zs lg:=by rw[hlg];rfl
     have hgo:g ∉ out:=hAg.2.2.1
     have hlt1:∀ y,y∈lg→y<n:=fun y hy=>leaning_lt hid (by rw[← hlg];exact hy)
     have hcnt:∀ k,k<lg.length→(lg.take k).count (lg.getD k 0)<Od.waits (Od.edges adj lst n) out (lg.getD k 0):=fun k hk=>by
      have h1:=cZ hk
      have h2:=Od.waits_more (Od.edges adj lst n) out g (lg.getD k 0) hgo
      rw[← hlg] at h2
      omega
     have hll:lg.length≤100000000000:=by
      have:=jm (Od.edges adj lst n) g
      rw[← hlg] at this
      omega
     have m1:=(hL5.tab 1 (by decide)).cell hgn
     rw[hV1] at m1
     have hY5:=hY4.congr (Q:=Od.Hand adj lst n out g (lg.take 0)) fun x=>Od.hand_zero.symm
     obtain⟨c0,c1,c2⟩:=hL5.cells
     have HV1:Hid (V 1 g=.slice yr lg.length yc):=hV1
     have HLG:Hid (lg=Od.leaning (Od.edges adj lst n) g):=hlg
     have HROW:Hid (lR lst n (Od.edges adj lst n) 1 g=zs lg):=hrow
     have HLT:Hid (∀ y,y∈lg→y<n):=hlt1
     have HCN:Hid (∀ k,k<lg.length→(lg.take k).count (lg.getD k 0)<Od.waits (Od.edges adj lst n) out (lg.getD k 0)):=hcnt
     have HST:Hid (Od.Steps adj lst n (out++[g])):=hSt.more hAg hmin
     have HST0:Hid (Od.Steps adj lst n out):=hSt
     have HAG:Hid (Od.Avail adj lst n out g):=hAg
     have HLEN:Hid (out.length≤n):=hol
     have hW0:wO (Od.edges adj lst n) out [] n=wO (Od.edges adj lst n) out (lg.take 0) n:=rfl
     rw[hW0] at hL5
     clear hV1 hlg hrow hlt1 hcnt hY4 hW0 hSt hAg hmin hol
     go_wp2
     clear c0 c1 c2 m1
     go_loopw [61] (fun kv wr=>∃ (k:Nat) (v:Value) (L:List Int),kv=.int .i64 k∧k≤lg.length∧Rq wr (w.heap.size+1) (w.heap.size+1) v L∧Ready L (Od.Hand adj lst n out g (lg.take k))∧Gr wr (w.heap.size+1) (w.heap.size+1) v (.slice (some ⟨g5,0,none⟩) (out.length+1) cq5) ((out++[g]).map (V 0))∧Lw wr w.heap.size T kw Z n V (lR lst n (Od.edges adj lst n)) (wO (Od.edges adj lst n) out (lg.take k) n)∧Below Z w wr) (fun kv _=>lg.length-(intOf kv).toNat)
     case atStart=>exact⟨0,v4,L4,rfl,Nat.zero_le _,hR5,hY5,hG5,hL5,hbr5⟩
     case round=>
      clear hR5 hY5 hG5 hL5 hbr5
      rename World=>wr3
      obtain⟨k,v,L,rfl,hk,hR,hY,hG,hL,hbr⟩:=hrel
      by_cases hkl:k<lg.length
      ·obtain⟨b,cp,hf,_,hA⟩:=cO (hL.row 1 g (by decide) hgn) (by rw[HROW.out,bF];omega)
       rw[HV1.out,HROW.out,bF] at hf
       obtain⟨rfl,rfl⟩:yr=some ⟨b,0,none⟩∧yc=cp:=by
        simp only[Value.slice.injEq] at hf
        exact⟨hf.1,hf.2.2⟩
       have a1:=hA k (by rw[HROW.out,bF];exact hkl)
       rw[HROW.out,kS,Nat.zero_add] at a1
       have hcn:=HCN.out k hkl
       obtain⟨y,hy⟩:∃ y,y=lg.getD k 0:=⟨_,rfl⟩
       rw[← hy] at a1 hcn
       have hyn:y<n:=HLT.out y (by
        rw[hy,List.getD_eq_getElem?_getD,List.getElem?_eq_getElem hkl]
        exact List.getElem_mem hkl)
       have htk:=Od.take_more hkl
       rw[← hy] at htk
       obtain⟨c,hc⟩:∃ c,Od.waits (Od.edges adj lst n) out y-(lg.take k).count y=c+1:=⟨Od.waits (Od.edges adj lst n) out y-(lg.take k).count y-1,by omega⟩
       have hcl:c≤100000000000:=by
        have:=iW (Od.edges adj lst n) out y
        omega
       have d1:=hL.wts.cell (show y<(wO (Od.edges adj lst n) out (lg.take k) n).length by rw[rG];exact hyn)
       rw[qM _ _ _ hyn,hc] at d1
       have d2:=hL.wts.free y
       have hL2:=hL.wait y (c:Int)
       have hset:=wO_more (Od.edges adj lst n) out (lg.take k) (n:=n) hcn
       rw[hc,← htk,show ((c+1:Nat):Int)-1=(c:Int) by omega] at hset
       rw[hset] at hL2
       have hc2:Od.waits (Od.edges adj lst n) out y-(lg.take (k+1)).count y=c:=by
        rw[htk,List.count_append,List.count_singleton_self]
        omega
       have hnot:¬ Od.Hand adj lst n out g (lg.take k) y:=Od.hand_not hcn
       have hmore:∀ x,Od.Hand adj lst n out g (lg.take (k+1)) x↔Od.Hand adj lst n out g (lg.take k) x∨(x=y∧c=0):=fun x=>by
        rw[htk,Od.hand_more hcn]
        constructor
        ·rintro (h|⟨h1,h2⟩)
         ·exact .inl h
         ·exact .inr ⟨h1,by omega⟩
        ·rintro (h|⟨h1,h2⟩)
         ·exact .inl h
         ·exact .inr ⟨h1,by omega⟩
       have HM:Hid (∀ x,Od.Hand adj lst n out g (lg.take (k+1)) x↔Od.Hand adj lst n out g (lg.take k) x∨(x=y∧c=0)):=hmore
       have hko:∀ k2,w.heap.size+1≤k2→(wr3.setCell ⟨kw,y,none⟩ (.int .i64 (c:Int))).heap[k2]?=wr3.heap[k2]?:=fun k2 h2=>Below.heap_setCell _ _ _ _ (by have:=hB1.k;show k2≠kw;omega)
       have hR2:=hR.keepB hko
       have hG2:=hG.keepB hko
       have hbr2:=hbr.setCell (p:=⟨kw,y,none⟩) hL.zw (.int .i64 (c:Int))
       obtain⟨c0,c1,c2⟩:=hL.cells
       clear hf hA hy hcn htk hc hmore hko hR hG hbr hL hset
       go_upto_region 16 with fail
       clear d1 d2 c0 c1 c2
       generalize wr3.setCell ⟨kw,y,none⟩ (.int .i64 (c:Int))=W6 at *
       obtain⟨c0,c1,c2⟩:=hL2.cells
       have d1:=hL2.wts.cell (show y<(wO (Od.edges adj lst n) out (lg.take (k+1)) n).length by rw[rG];exact hyn)
       rw[qM _ _ _ hyn,hc2] at d1
       clear hc2
       by_cases hcz:c=0
       ·subst hcz
        have hlen:=hY.len (n:=n) fun x hx=>hand_lt (fun z hz=>HLT.out z (List.mem_of_mem_take hz)) hx
        have hP:=pu hR2 hY.hp hY.inj (y:Int) (fun h=>by
         obtain⟨x,hx,h1⟩:=(hY.mem _).1 h
         have:x=y:=by omega
         rw[this] at h1
         exact hnot h1) (by omega)
        go_wp2_with fail
        refine hP.mono ?_
        rintro e w7 ⟨rfl,v7,L7,hR7,hK7,hH7,hI7,_,hM7⟩
        have hY7:=(hY.push hH7 hI7 hM7).congr (Q:=Od.Hand adj lst n out g (lg.take (k+1))) fun x=>by
         rw[HM.out]
         simp
        have hb7:=hK7.below hR2
        have hL7:=hL2.lowB hB1 hb7
        have hG7:=hG2.kept hK7
        have hbr7:=hbr2.trans (hb7.mono (by omega))
        clear hP hR2 hY hG2 hL2 hbr2 hK7 hH7 hI7 hM7 hb7 c0 c1 c2 d1 a1 hnot
        go_wp2
        go_roundw
        case rel=>exact⟨k+1,v7,L7,by go_num,by omega,hR7,hY7,hG7,hL7,hbr7⟩
        case measure=>simp[intOf];omega
       ·have hd:((c:Int)==0)=false:=by rw[beq_eq_false_iff_ne];omega
        have hY7:=hY.congr (Q:=Od.Hand adj lst n out g (lg.take (k+1))) fun x=>by
         rw[HM.out]
         constructor
         ·exact fun h=>.inl h
         ·rintro (h|h)
          ·exact h
          ·exact absurd h.2 hcz
        clear hY hnot a1
        go_wp2
        go_roundw
        case rel=>exact⟨k+1,v,L,by go_num,by omega,hR2,hY7,hG2,hL2,hbr2⟩
        case measure=>simp[intOf];omega
      ·obtain rfl:k=lg.length:=by omega
       rw[List.take_length] at hY hL
       have hL2:=hL
       rw[HLG.out,wO_end _ _ _ _ hgo] at hL2
       have hY2:=hY.congr (Q:=Od.Avail adj lst n (out++[g])) fun x=>by
        rw[HLG.out]
        exact Od.hand_end HST0.out HAG.out hid
       have hol2:=mi HST.out
       rw[List.length_append,List.length_singleton] at hol2
       have HQ:Hid (Rq wr3 (w.heap.size+1) (w.heap.size+1) v L∧Ready L (Od.Avail adj lst n (out++[g]))∧Gr wr3 (w.heap.size+1) (w.heap.size+1) v (.slice (some ⟨g5,0,none⟩) (out.length+1) cq5) ((out++[g]).map (V 0))∧Lw wr3 w.heap.size T kw Z n V (lR lst n (Od.edges adj lst n)) (wO (Od.edges adj lst n) (out++[g]) [] n)∧Below Z w wr3):=⟨hR,hY2,hG,hL2,hbr⟩
       clear hL hY hL2 hY2 hG hbr hR
       go_wp2
       go_roundw
       case rel=>exact⟨out++[g],v,L,⟨some ⟨g5,0,none⟩,cq5,by simp⟩,HST.out,HQ.out.1,HQ.out.2.1,HQ.out.2.2.1,HQ.out.2.2.2.1,HQ.out.2.2.2.2⟩
       case measure=>simp[sliceLen];omega
    ·have hL0:L.length=0:=by omega
     have hfin:Od.Fin adj lst n out:=⟨hSt,fun g hg=>hY.none hL0 g hg⟩
     have HQ:Hid (Od.Fin adj lst n out∧Gr wr1 (w.heap.size+1) (w.heap.size+1) v (.slice gr out.length gc) (out.map (V 0))∧Lw wr1 w.heap.size T kw Z n V (lR lst n (Od.edges adj lst n)) (wO (Od.edges adj lst n) out [] n)∧Below Z w wr1):=⟨hfin,hG,hL,hbr⟩
     rw[hL0] at hlw
     clear hfin hG hL hbr hR hY hSt h0
     go_wp2_with fail
     refine hlw.mono ?_
     rintro e w3 ⟨rfl,rfl⟩
     clear hlw c0
     go_wp2
     go_ret
     exact⟨_,out,w.heap.size+1,_,rfl,HQ.out.1,by omega,HQ.out.2.1.row,HQ.out.2.2.1,hB1,HQ.out.2.2.2⟩
end Gw
end Go.Proofs.YtimoappbefindaaGreat
