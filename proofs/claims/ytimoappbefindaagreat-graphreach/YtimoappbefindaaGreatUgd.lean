/-
  6 texts in one: what each proves stands at its head.
-/
import Derived.Test.YtimoappbefindaaGreatRows
import Derived.Test.YtimoappbefindaaGreatUgc
import Derived.WalkKit
import Derived.WalkSpells
import Derived.WalkLawsBesides
import Derived.BigQuiet
import Derived.BigRegion
import Derived.OwnWalk
import Derived.LoopTactic
import Derived.Deep.QuietTactic
import Derived.Deep.RegionWith
import Derived.Deep.Cut
import Derived.Laws.OwnMore
import Derived.Maps.AppendAt
import Derived.ScopeJumps
import Derived.Scope
namespace Go.Proofs.YtimoappbefindaaGreat
set_option maxHeartbeats 16000000
open Go.RowKit
set_option maxRecDepth 100000
namespace Gw
theorem Tryz.infoI:(Tryz.prog.info? 3).map (fun i=>(i.zero,i.size,i.bytes))=some (some (.int .i64 0),1,8):=by kernel_rfl
theorem Tryz.underI:Tryz.prog.underlying 36=some (.slice 3):=by kernel_rfl
theorem ae (w:World) (o:Obj):Below w.heap.size w (w.alloc o):=Below.alloc (Below.refl _ _) (Nat.le_refl _) _
theorem cell_below {w:World} {b o:Nat} {v:Value} (h:w.cell? ⟨b,o,none⟩=some v):b<w.heap.size:=by
 simp only[World.cell?] at h
 rcases Nat.lt_or_ge b w.heap.size with k|k
 ·exact k
 ·rw[Array.getElem?_eq_none k] at h;simp at h
theorem aX {w w':World} {B:Nat} {T:TypeId} {k n:Nat} {v:Value} {xs:List Value} (h:w.ownsRow B T k v n xs) (hb:Below w.heap.size w w'):w'.ownsRow B T k v n xs:=by
 refine⟨h.1,?_⟩
 rcases h.2 with h|⟨g,c,cur,h1,h2,h3,h4⟩
 ·exact .inl h
 ·have hl:g<w.heap.size:=(Array.getElem?_eq_some_iff.1 h3).1
  exact .inr ⟨g,c,cur,h1,h2,by rw[hb.block g hl];exact h3,h4⟩
theorem aB {w w':World} {B:Nat} {T:TypeId} {k n:Nat} {v:Value} {xs:List Value} (h:w.ownsRow B T k v n xs) (hb:∀ g,v.ownBlock=some g→w'.heap[g]?=w.heap[g]?):w'.ownsRow B T k v n xs:=by
 refine⟨h.1,?_⟩
 rcases h.2 with h|⟨g,c,cur,h1,h2,h3,h4⟩
 ·exact .inl h
 ·exact .inr ⟨g,c,cur,h1,h2,by rw[hb g (by rw[h1];rfl)];exact h3,h4⟩
def Bi (w:World) (g:Nat) (L:List Int):Prop:=w.heap[g]?=some (.cells (L.map fun z=>Value.int .i64 z).toArray 3 (0,0))
theorem Bi.lt {w:World} {g:Nat} {L:List Int} (h:Bi w g L):g<w.heap.size:=by
 rcases Nat.lt_or_ge g w.heap.size with k|k
 ·exact k
 ·unfold Bi at h;rw[Array.getElem?_eq_none k] at h;cases h
theorem Bi.cell {w:World} {g:Nat} {L:List Int} (h:Bi w g L) {t:Nat} (ht:t<L.length):w.cell? ⟨g,t,none⟩=some (.int .i64 (L.getD t 0)):=by
 rw[cell_of_row w g t _ _ _ h]
 simp[ht]
theorem Bi.free {w:World} {g:Nat} {L:List Int} (h:Bi w g L) (t:Nat):w.frozen? ⟨g,t,none⟩=false:=frozen_of_row w g t _ _ h
theorem Bi.set {w:World} {g:Nat} {L:List Int} (h:Bi w g L) (t:Nat) (z:Int):Bi (w.setCell ⟨g,t,none⟩ (.int .i64 z)) g (L.set t z):=by
 unfold Bi
 rw[heap_setCell_same w g t _ _ _ h]
 simp[List.map_set]
theorem Bi.other {w w':World} {g:Nat} {L:List Int} (h:Bi w g L) (hb:w'.heap[g]?=w.heap[g]?):Bi w' g L:=by unfold Bi;rw[hb];exact h
structure CsW (w:World) (cb Z:Nat) (cs:List (List Int)):Prop where
 lo:cb<Z
 row:∀ v,v<cs.length→∃ ro rc,w.cell? ⟨cb,v,none⟩=some (.slice ro (cs.getD v []).length rc)∧(cs.getD v []=[]∨∃ g,ro=some ⟨g,0,none⟩∧g<Z∧∀ t,t<(cs.getD v []).length→w.cell? ⟨g,t,none⟩=some (.int .i64 ((cs.getD v []).getD t 0)))
theorem CsW.low {w w':World} {cb Z:Nat} {cs:List (List Int)} (h:CsW w cb Z cs) (hb:Below Z w w'):CsW w' cb Z cs:=by
 refine⟨h.lo,fun v hv=>?_⟩
 obtain⟨ro,rc,h1,h2⟩:=h.row v hv
 refine⟨ro,rc,by rw[hb.cell (by show cb<Z;exact h.lo)];exact h1,?_⟩
 rcases h2 with h2|⟨g,e,hg,hc⟩
 ·exact .inl h2
 ·exact .inr ⟨g,e,hg,fun t ht=>by rw[hb.cell (by show g<Z;exact hg)];exact hc t ht⟩
structure Wm (w:World) (S kg ke kb kl cb ccap Z n:Nat) (cs:List (List Int)) (Lg Le Lb Ll:List Int) (c:Int) (P O:List Int) (vp vo:Value):Prop where
 blk:w.heap[S]?=some (.cells #[.slice (some ⟨cb,0,none⟩) n ccap,.slice (some ⟨kg,0,none⟩) n n,.slice (some ⟨ke,0,none⟩) n n,.slice (some ⟨kb,0,none⟩) n n,vp,vo,.int .i64 c,.slice (some ⟨kl,0,none⟩) n n] 111 (0,0))
 calls:CsW w cb Z cs
 nc:cs.length=n
 g:Bi w kg Lg
 e:Bi w ke Le
 b:Bi w kb Lb
 l:Bi w kl Ll
 ng:Lg.length=n
 ne:Le.length=n
 nb:Lb.length=n
 nl:Ll.length=n
 p:w.ownsRow Z 3 1 vp P.length (P.map fun z=>.int .i64 z)
 o:w.ownsRow Z 3 1 vo O.length (O.map fun z=>.int .i64 z)
 z:Z≤S∧Z≤kg∧Z≤ke∧Z≤kb∧Z≤kl
 d:kg≠ke∧kg≠kb∧kg≠kl∧ke≠kb∧ke≠kl∧kb≠kl
 s:S≠kg∧S≠ke∧S≠kb∧S≠kl
 pd:∀ h,vp.ownBlock=some h→h≠S∧h≠kg∧h≠ke∧h≠kb∧h≠kl
 od:∀ h,vo.ownBlock=some h→h≠S∧h≠kg∧h≠ke∧h≠kb∧h≠kl
 po:∀ h,vp.ownBlock=some h→vo.ownBlock≠some h
section
variable {w:World} {S kg ke kb kl cb ccap Z n:Nat} {cs:List (List Int)} {Lg Le Lb Ll:List Int} {c:Int} {P O:List Int} {vp vo:Value}
theorem Wm.cells (h:Wm w S kg ke kb kl cb ccap Z n cs Lg Le Lb Ll c P O vp vo):w.cell? ⟨S,0,none⟩=some (.slice (some ⟨cb,0,none⟩) n ccap)∧w.cell? ⟨S,1,none⟩=some (.slice (some ⟨kg,0,none⟩) n n)∧w.cell? ⟨S,2,none⟩=some (.slice (some ⟨ke,0,none⟩) n n)∧w.cell? ⟨S,3,none⟩=some (.slice (some ⟨kb,0,none⟩) n n) ∧
  w.cell? ⟨S,4,none⟩=some vp∧w.cell? ⟨S,5,none⟩=some vo∧w.cell? ⟨S,6,none⟩=some (.int .i64 c)∧w.cell? ⟨S,7,none⟩=some (.slice (some ⟨kl,0,none⟩) n n):=by
 refine⟨?_,?_,?_,?_,?_,?_,?_,?_⟩
 all_goals rw[cell_of_row w S _ _ _ _ h.blk];rfl
theorem Wm.free (h:Wm w S kg ke kb kl cb ccap Z n cs Lg Le Lb Ll c P O vp vo) (t:Nat):w.frozen? ⟨S,t,none⟩=false:=frozen_of_row w S t _ _ h.blk
theorem Wm.lt (h:Wm w S kg ke kb kl cb ccap Z n cs Lg Le Lb Ll c P O vp vo):S<w.heap.size:=(Array.getElem?_eq_some_iff.1 h.blk).1
theorem Wm.pz (h:Wm w S kg ke kb kl cb ccap Z n cs Lg Le Lb Ll c P O vp vo) {g:Nat} (hg:vp.ownBlock=some g):Z≤g:=(h.p.lt g hg).1
theorem Wm.oz (h:Wm w S kg ke kb kl cb ccap Z n cs Lg Le Lb Ll c P O vp vo) {g:Nat} (hg:vo.ownBlock=some g):Z≤g:=(h.o.lt g hg).1
theorem Wm.up (h:Wm w S kg ke kb kl cb ccap Z n cs Lg Le Lb Ll c P O vp vo) {w':World} (hb:Below w.heap.size w w'):Wm w' S kg ke kb kl cb ccap Z n cs Lg Le Lb Ll c P O vp vo:=by
 have hz:Z≤w.heap.size:=Nat.le_trans h.z.1 (Nat.le_of_lt h.lt)
 exact { blk:=by rw[hb.block S h.lt];exact h.blk,calls:=h.calls.low (hb.mono hz),nc:=h.nc,g:=h.g.other (hb.block _ h.g.lt),e:=h.e.other (hb.block _ h.e.lt),b:=h.b.other (hb.block _ h.b.lt),l:=h.l.other (hb.block _ h.l.lt),ng:=h.ng,ne:=h.ne,nb:=h.nb,nl:=h.nl,p:=aX h.p hb,o:=aX h.o hb,z:=h.z,d:=h.d,s:=h.s,pd:=h.pd,od:=h.od,po:=h.po }
theorem Wm.count (h:Wm w S kg ke kb kl cb ccap Z n cs Lg Le Lb Ll c P O vp vo) (x:Int):Wm (w.setCell ⟨S,6,none⟩ (.int .i64 x)) S kg ke kb kl cb ccap Z n cs Lg Le Lb Ll x P O vp vo:=by
 have hb:Below Z w (w.setCell ⟨S,6,none⟩ (.int .i64 x)):=(Below.refl _ _).setCell h.z.1 _
 have ho:∀ k,k≠S→(w.setCell ⟨S,6,none⟩ (.int .i64 x)).heap[k]?=w.heap[k]?:=fun k hk=>Below.heap_setCell _ _ _ _ hk
 obtain⟨s1,s2,s3,s4⟩:=h.s
 exact { blk:=by rw[heap_setCell_same w S 6 _ _ _ h.blk];rfl,calls:=h.calls.low hb,nc:=h.nc,g:=h.g.other (ho _ s1.symm),e:=h.e.other (ho _ s2.symm),b:=h.b.other (ho _ s3.symm),l:=h.l.other (ho _ s4.symm),ng:=h.ng,ne:=h.ne,nb:=h.nb,nl:=h.nl,p:=aB h.p fun g hg=>ho g (h.pd g hg).1,o:=aB h.o fun g hg=>ho g (h.od g hg).1,z:=h.z,d:=h.d,s:=h.s,pd:=h.pd,od:=h.od,po:=h.po }
theorem Wm.setE (h:Wm w S kg ke kb kl cb ccap Z n cs Lg Le Lb Ll c P O vp vo) (j:Nat) (x:Int):Wm (w.setCell ⟨ke,j,none⟩ (.int .i64 x)) S kg ke kb kl cb ccap Z n cs Lg (Le.set j x) Lb Ll c P O vp vo:=by
 have hb:Below Z w (w.setCell ⟨ke,j,none⟩ (.int .i64 x)):=(Below.refl _ _).setCell h.z.2.2.1 _
 have ho:∀ k,k≠ke→(w.setCell ⟨ke,j,none⟩ (.int .i64 x)).heap[k]?=w.heap[k]?:=fun k hk=>Below.heap_setCell _ _ _ _ hk
 obtain⟨d1,d2,d3,d4,d5,d6⟩:=h.d
 exact { blk:=by rw[ho _ h.s.2.1];exact h.blk,calls:=h.calls.low hb,nc:=h.nc,g:=h.g.other (ho _ d1),e:=h.e.set j x,b:=h.b.other (ho _ d4.symm),l:=h.l.other (ho _ d5.symm),ng:=h.ng,ne:=by rw[List.length_set];exact h.ne,nb:=h.nb,nl:=h.nl,p:=aB h.p fun g hg=>ho g (h.pd g hg).2.2.1,o:=aB h.o fun g hg=>ho g (h.od g hg).2.2.1,z:=h.z,d:=h.d,s:=h.s,pd:=h.pd,od:=h.od,po:=h.po }
theorem Wm.setB (h:Wm w S kg ke kb kl cb ccap Z n cs Lg Le Lb Ll c P O vp vo) (j:Nat) (x:Int):Wm (w.setCell ⟨kb,j,none⟩ (.int .i64 x)) S kg ke kb kl cb ccap Z n cs Lg Le (Lb.set j x) Ll c P O vp vo:=by
 have hb:Below Z w (w.setCell ⟨kb,j,none⟩ (.int .i64 x)):=(Below.refl _ _).setCell h.z.2.2.2.1 _
 have ho:∀ k,k≠kb→(w.setCell ⟨kb,j,none⟩ (.int .i64 x)).heap[k]?=w.heap[k]?:=fun k hk=>Below.heap_setCell _ _ _ _ hk
 obtain⟨d1,d2,d3,d4,d5,d6⟩:=h.d
 exact { blk:=by rw[ho _ h.s.2.2.1];exact h.blk,calls:=h.calls.low hb,nc:=h.nc,g:=h.g.other (ho _ d2),e:=h.e.other (ho _ d4),b:=h.b.set j x,l:=h.l.other (ho _ d6.symm),ng:=h.ng,ne:=h.ne,nb:=by rw[List.length_set];exact h.nb,nl:=h.nl,p:=aB h.p fun g hg=>ho g (h.pd g hg).2.2.2.1,o:=aB h.o fun g hg=>ho g (h.od g hg).2.2.2.1,z:=h.z,d:=h.d,s:=h.s,pd:=h.pd,od:=h.od,po:=h.po }
theorem Wm.setG (h:Wm w S kg ke kb kl cb ccap Z n cs Lg Le Lb Ll c P O vp vo) (j:Nat) (x:Int):Wm (w.setCell ⟨kg,j,none⟩ (.int .i64 x)) S kg ke kb kl cb ccap Z n cs (Lg.set j x) Le Lb Ll c P O vp vo:=by
 have hb:Below Z w (w.setCell ⟨kg,j,none⟩ (.int .i64 x)):=(Below.refl _ _).setCell h.z.2.1 _
 have ho:∀ k,k≠kg→(w.setCell ⟨kg,j,none⟩ (.int .i64 x)).heap[k]?=w.heap[k]?:=fun k hk=>Below.heap_setCell _ _ _ _ hk
 obtain⟨d1,d2,d3,d4,d5,d6⟩:=h.d
 exact { blk:=by rw[ho _ h.s.1];exact h.blk,calls:=h.calls.low hb,nc:=h.nc,g:=h.g.set j x,e:=h.e.other (ho _ d1.symm),b:=h.b.other (ho _ d2.symm),l:=h.l.other (ho _ d3.symm),ng:=by rw[List.length_set];exact h.ng,ne:=h.ne,nb:=h.nb,nl:=h.nl,p:=aB h.p fun g hg=>ho g (h.pd g hg).2.1,o:=aB h.o fun g hg=>ho g (h.od g hg).2.1,z:=h.z,d:=h.d,s:=h.s,pd:=h.pd,od:=h.od,po:=h.po }
theorem Wm.setL (h:Wm w S kg ke kb kl cb ccap Z n cs Lg Le Lb Ll c P O vp vo) (j:Nat) (x:Int):Wm (w.setCell ⟨kl,j,none⟩ (.int .i64 x)) S kg ke kb kl cb ccap Z n cs Lg Le Lb (Ll.set j x) c P O vp vo:=by
 have hb:Below Z w (w.setCell ⟨kl,j,none⟩ (.int .i64 x)):=(Below.refl _ _).setCell h.z.2.2.2.2 _
 have ho:∀ k,k≠kl→(w.setCell ⟨kl,j,none⟩ (.int .i64 x)).heap[k]?=w.heap[k]?:=fun k hk=>Below.heap_setCell _ _ _ _ hk
 obtain⟨d1,d2,d3,d4,d5,d6⟩:=h.d
 exact { blk:=by rw[ho _ h.s.2.2.2];exact h.blk,calls:=h.calls.low hb,nc:=h.nc,g:=h.g.other (ho _ d3),e:=h.e.other (ho _ d5),b:=h.b.other (ho _ d6),l:=h.l.set j x,ng:=h.ng,ne:=h.ne,nb:=h.nb,nl:=by rw[List.length_set];exact h.nl,p:=aB h.p fun g hg=>ho g (h.pd g hg).2.2.2.2,o:=aB h.o fun g hg=>ho g (h.od g hg).2.2.2.2,z:=h.z,d:=h.d,s:=h.s,pd:=h.pd,od:=h.od,po:=h.po }
theorem Wm.setP (h:Wm w S kg ke kb kl cb ccap Z n cs Lg Le Lb Ll c P O vp vo) {vq:Value} {Q:List Int} (hq:w.ownsRow Z 3 1 vq Q.length (Q.map fun z=>.int .i64 z)) (hd:∀ k,vq.ownBlock=some k→k≠S∧k≠kg∧k≠ke∧k≠kb∧k≠kl) (ho':∀ k,vq.ownBlock=some k→vo.ownBlock≠some k):Wm (w.setCell ⟨S,4,none⟩ vq) S kg ke kb kl cb ccap Z n cs Lg Le Lb Ll c Q O vq vo:=by
 have hb:Below Z w (w.setCell ⟨S,4,none⟩ vq):=(Below.refl _ _).setCell h.z.1 _
 have ho:∀ k,k≠S→(w.setCell ⟨S,4,none⟩ vq).heap[k]?=w.heap[k]?:=fun k hk=>Below.heap_setCell _ _ _ _ hk
 obtain⟨s1,s2,s3,s4⟩:=h.s
 exact { blk:=by rw[heap_setCell_same w S 4 _ _ _ h.blk];rfl,calls:=h.calls.low hb,nc:=h.nc,g:=h.g.other (ho _ s1.symm),e:=h.e.other (ho _ s2.symm),b:=h.b.other (ho _ s3.symm),l:=h.l.other (ho _ s4.symm),ng:=h.ng,ne:=h.ne,nb:=h.nb,nl:=h.nl,p:=aB hq fun g hg=>ho g (hd g hg).1,o:=aB h.o fun g hg=>ho g (h.od g hg).1,z:=h.z,d:=h.d,s:=h.s,pd:=hd,od:=h.od,po:=ho' }
theorem Wm.setO (h:Wm w S kg ke kb kl cb ccap Z n cs Lg Le Lb Ll c P O vp vo) {vq:Value} {Q:List Int} (hq:w.ownsRow Z 3 1 vq Q.length (Q.map fun z=>.int .i64 z)) (hd:∀ k,vq.ownBlock=some k→k≠S∧k≠kg∧k≠ke∧k≠kb∧k≠kl) (ho':∀ k,vp.ownBlock=some k→vq.ownBlock≠some k):Wm (w.setCell ⟨S,5,none⟩ vq) S kg ke kb kl cb ccap Z n cs Lg Le Lb Ll c P Q vp vq:=by
 have hb:Below Z w (w.setCell ⟨S,5,none⟩ vq):=(Below.refl _ _).setCell h.z.1 _
 have ho:∀ k,k≠S→(w.setCell ⟨S,5,none⟩ vq).heap[k]?=w.heap[k]?:=fun k hk=>Below.heap_setCell _ _ _ _ hk
 obtain⟨s1,s2,s3,s4⟩:=h.s
 exact { blk:=by rw[heap_setCell_same w S 5 _ _ _ h.blk];rfl,calls:=h.calls.low hb,nc:=h.nc,g:=h.g.other (ho _ s1.symm),e:=h.e.other (ho _ s2.symm),b:=h.b.other (ho _ s3.symm),l:=h.l.other (ho _ s4.symm),ng:=h.ng,ne:=h.ne,nb:=h.nb,nl:=h.nl,p:=aB h.p fun g hg=>ho g (h.pd g hg).1,o:=aB hq fun g hg=>ho g (hd g hg).1,z:=h.z,d:=h.d,s:=h.s,pd:=h.pd,od:=hd,po:=ho' }
end
theorem bQ {P:Program} {w:World} {ops:Array Oper} {rest:List Oper} {o:Oper} {a:Act} {Q:Exit→Act→World→Prop} (hgd:o.guard=none) (s x:Operand) (t:TypeId)
  (ho:o.op=.call { callee:=.builtin .append,args:=#[s,x],argTypes:=#[t,t] }) (hty:o.type=t) (v u:Value) (hs:a.eval s=v) (hx:a.eval x=u)
  (v':Value) (w':World) (hrun:(Builtin.append_ #[t,t] t #[v,u]).run P w=.ok v' w') (h:wpList P ops Q rest (a.put o.dst v') w'):wpList P ops Q (o::rest) a w:=by
 refine wpList_plain hgd fun K hK=>?_
 rw[← hty] at hrun
 unfold Oper.wp
 rw[hty] at hrun
 simp only[execOp,ho,resolve,invoke,builtin,Sem.run_bind,Sem.run_pure,Result.andThen_ok,List.map_toArray,List.map_cons,List.map_nil,hs,hx,hty,hrun]
 exact hK _ _ h
theorem nH (w:World) (Z:Nat) (v:Value) (xs:List Int) (x:Int) (h:w.ownsRow Z 3 1 v xs.length (xs.map fun z=>.int .i64 z)) (hZ:Z≤w.heap.size) (hl:xs.length≤1000000) :
  ∃ g cq w',(Builtin.append_ #[36,36] 36 #[v,.slice (some ⟨w.heap.size,0,none⟩) 1 1]).run Tryz.prog (w.alloc (.cells #[.int .i64 x] 3))=.ok (.slice (some ⟨g,0,none⟩) (xs.length+1) cq) w' ∧
   w'.ownsRow Z 3 1 (.slice (some ⟨g,0,none⟩) (xs.length+1) cq) (xs++[x]).length ((xs++[x]).map fun z=>.int .i64 z)∧(w.alloc (.cells #[.int .i64 x] 3)).grownBy w' v.ownBlock∧(some g=v.ownBlock∨g=(w.alloc (.cells #[.int .i64 x] 3)).heap.size):=by
 obtain⟨i0,hi,hz0,hz1,hz2⟩:=info_parts Tryz.infoI
 have hb:=ae w (.cells #[.int .i64 x] 3)
 obtain⟨v',w',hr,ho,hg,_,hloc⟩:=run_append_own_at (P:=Tryz.prog) (w.alloc (.cells #[.int .i64 x] 3)) Z 36 36 3 i0 (.int .i64 0) 1 8 Tryz.underI hi hz0 hz1 hz2 rfl (by decide) v xs.length _ (aX h hb) ⟨w.heap.size,0,none⟩ 1 1 [.int .i64 x] rfl (cell_one_new w (.int .i64 x) 3) (by intro u hu;simp at hu;subst hu;rfl) (by unfold maxLen;omega) (by omega) (by simp;omega)
 have e1:(xs++[x]).length=xs.length+1:=by simp
 have e2:((xs++[x]).map fun z=>Value.int .i64 z)=(xs.map fun z=>Value.int .i64 z)++[.int .i64 x]:=by simp
 rcases ho.2 with⟨_,h0⟩|⟨g,cq,cur,rfl,_⟩
 ·omega
 ·refine⟨g,cq,w',hr,by rw[e1,e2];exact ho,hg,?_⟩
  rcases hloc with e|e
  ·exact .inl e
  ·exact .inr (Option.some.inj e)
theorem set_comm (w:World) {a b:Addr} (h:a.block≠b.block) (u v:Value):(w.setCell a u).setCell b v=(w.setCell b v).setCell a u:=by
 unfold World.setCell
 simp only[World.mk.injEq,and_true]
 apply Array.ext
 ·simp
 ·intro i h1 h2
  simp only[Array.getElem_modify]
  by_cases e1:a.block=i
  ·by_cases e2:b.block=i
   ·omega
   ·simp[e1,e2]
  ·simp[e1]
section
variable {w:World} {S kg ke kb kl cb ccap Z n:Nat} {cs:List (List Int)} {Lg Le Lb Ll:List Int} {c:Int} {P O:List Int} {vp vo:Value}
theorem Wm.pushP (h:Wm w S kg ke kb kl cb ccap Z n cs Lg Le Lb Ll c P O vp vo) {w':World} {vq:Value} {Q:List Int} (hg:w.grownBy w' vp.ownBlock) (hq:w'.ownsRow Z 3 1 vq Q.length (Q.map fun z=>.int .i64 z)) (hl:vq.ownBlock=vp.ownBlock∨vq.ownBlock=some w.heap.size) :
  (w'.cell? ⟨S,4,none⟩=some vp∧w'.frozen? ⟨S,4,none⟩=false)∧Wm (w'.setCell ⟨S,4,none⟩ vq) S kg ke kb kl cb ccap Z n cs Lg Le Lb Ll c Q O vq vo:=by
 have hz:Z≤w.heap.size:=Nat.le_trans h.z.1 (Nat.le_of_lt h.lt)
 have hk:∀ k,k<w.heap.size→vp.ownBlock≠some k→w'.heap[k]?=w.heap[k]?:=fun k h1 h2=>hg.block k h1 fun e=>h2 e.symm
 have hb:Below Z w w':=(Below.refl Z w).grown hg hz fun k e=>h.pz e
 have hn:∀ k,vp.ownBlock=some k→k≠S∧k≠kg∧k≠ke∧k≠kb∧k≠kl:=h.pd
 have hS:w'.heap[S]?=w.heap[S]?:=hk S h.lt fun e=>(hn S e).1 rfl
 have hcell:w'.cell? ⟨S,4,none⟩=some vp:=by
  have:=h.cells
  rw[World.cell?_of_block (w:=w) (a:=⟨S,4,none⟩) hS]
  exact this.2.2.2.2.1
 have hfree:w'.frozen? ⟨S,4,none⟩=false:=by
  rw[World.frozen?_of_block (w:=w) (a:=⟨S,4,none⟩) hS]
  exact h.free 4
 have hd:∀ k,vq.ownBlock=some k→k≠S∧k≠kg∧k≠ke∧k≠kb∧k≠kl:=fun k e=>by
  rcases hl with e2|e2
  ·exact hn k (e2 ▸ e)
  ·rw[e2] at e
   obtain rfl:=Option.some.inj e
   have:=h.lt;have:=h.g.lt;have:=h.e.lt;have:=h.b.lt;have:=h.l.lt
   omega
 have hx:∀ k,vq.ownBlock=some k→vo.ownBlock≠some k:=fun k e k2=>by
  rcases hl with e2|e2
  ·exact h.po k (e2 ▸ e) k2
  ·rw[e2] at e
   obtain rfl:=Option.some.inj e
   have:=(h.o.lt _ k2).2
   omega
 have hm:Wm w' S kg ke kb kl cb ccap Z n cs Lg Le Lb Ll c Q O vq vo∨True:=.inr trivial
 refine⟨⟨hcell,hfree⟩,?_⟩
 have hb2:Below Z w (w'.setCell ⟨S,4,none⟩ vq):=hb.setCell h.z.1 _
 have ho:∀ k,k<w.heap.size→k≠S→vp.ownBlock≠some k→(w'.setCell ⟨S,4,none⟩ vq).heap[k]?=w.heap[k]?:=fun k h1 h2 h3=>(Below.heap_setCell _ _ _ _ h2).trans (hk k h1 h3)
 obtain⟨s1,s2,s3,s4⟩:=h.s
 have hne:∀ k,k=kg∨k=ke∨k=kb∨k=kl→vp.ownBlock≠some k:=fun k hk e=>by
  obtain⟨_,n1,n2,n3,n4⟩:=hn k e
  rcases hk with rfl|rfl|rfl|rfl
  ·exact n1 rfl
  ·exact n2 rfl
  ·exact n3 rfl
  ·exact n4 rfl
 have hblk:=h.blk
 rw[← hS] at hblk
 exact { blk:=by rw[heap_setCell_same w' S 4 _ _ _ hblk];rfl,calls:=h.calls.low hb2,nc:=h.nc,g:=h.g.other (ho _ h.g.lt s1.symm (hne _ (.inl rfl))),e:=h.e.other (ho _ h.e.lt s2.symm (hne _ (.inr (.inl rfl)))),b:=h.b.other (ho _ h.b.lt s3.symm (hne _ (.inr (.inr (.inl rfl))))),l:=h.l.other (ho _ h.l.lt s4.symm (hne _ (.inr (.inr (.inr rfl))))),ng:=h.ng,ne:=h.ne,nb:=h.nb,nl:=h.nl,p:=aB hq fun g hg=>Below.heap_setCell _ _ _ _ (hd g hg).1,o:=aB h.o fun g hg=>ho g (h.o.lt g hg).2 (h.od g hg).1 (fun e=>h.po g e hg),z:=h.z,d:=h.d,s:=h.s,pd:=hd,od:=h.od,po:=hx }
theorem Wm.pushO (h:Wm w S kg ke kb kl cb ccap Z n cs Lg Le Lb Ll c P O vp vo) {w':World} {vq:Value} {Q:List Int} (hg:w.grownBy w' vo.ownBlock) (hq:w'.ownsRow Z 3 1 vq Q.length (Q.map fun z=>.int .i64 z)) (hl:vq.ownBlock=vo.ownBlock∨vq.ownBlock=some w.heap.size) :
  (w'.cell? ⟨S,5,none⟩=some vo∧w'.frozen? ⟨S,5,none⟩=false)∧Wm (w'.setCell ⟨S,5,none⟩ vq) S kg ke kb kl cb ccap Z n cs Lg Le Lb Ll c P Q vp vq:=by
 have hz:Z≤w.heap.size:=Nat.le_trans h.z.1 (Nat.le_of_lt h.lt)
 have hk:∀ k,k<w.heap.size→vo.ownBlock≠some k→w'.heap[k]?=w.heap[k]?:=fun k h1 h2=>hg.block k h1 fun e=>h2 e.symm
 have hb:Below Z w w':=(Below.refl Z w).grown hg hz fun k e=>h.oz e
 have hn:∀ k,vo.ownBlock=some k→k≠S∧k≠kg∧k≠ke∧k≠kb∧k≠kl:=h.od
 have hS:w'.heap[S]?=w.heap[S]?:=hk S h.lt fun e=>(hn S e).1 rfl
 have hcell:w'.cell? ⟨S,5,none⟩=some vo:=by
  have:=h.cells
  rw[World.cell?_of_block (w:=w) (a:=⟨S,5,none⟩) hS]
  exact this.2.2.2.2.2.1
 have hfree:w'.frozen? ⟨S,5,none⟩=false:=by
  rw[World.frozen?_of_block (w:=w) (a:=⟨S,5,none⟩) hS]
  exact h.free 5
 have hd:∀ k,vq.ownBlock=some k→k≠S∧k≠kg∧k≠ke∧k≠kb∧k≠kl:=fun k e=>by
  rcases hl with e2|e2
  ·exact hn k (e2 ▸ e)
  ·rw[e2] at e
   obtain rfl:=Option.some.inj e
   have:=h.lt;have:=h.g.lt;have:=h.e.lt;have:=h.b.lt;have:=h.l.lt
   omega
 have hx:∀ k,vq.ownBlock=some k→vp.ownBlock≠some k:=fun k e k2=>by
  rcases hl with e2|e2
  ·exact h.po k k2 (e2 ▸ e)
  ·rw[e2] at e
   obtain rfl:=Option.some.inj e
   have:=(h.p.lt _ k2).2
   omega
 have hm:Wm w' S kg ke kb kl cb ccap Z n cs Lg Le Lb Ll c P Q vp vq∨True:=.inr trivial
 refine⟨⟨hcell,hfree⟩,?_⟩
 have hb2:Below Z w (w'.setCell ⟨S,5,none⟩ vq):=hb.setCell h.z.1 _
 have ho:∀ k,k<w.heap.size→k≠S→vo.ownBlock≠some k→(w'.setCell ⟨S,5,none⟩ vq).heap[k]?=w.heap[k]?:=fun k h1 h2 h3=>(Below.heap_setCell _ _ _ _ h2).trans (hk k h1 h3)
 obtain⟨s1,s2,s3,s4⟩:=h.s
 have hne:∀ k,k=kg∨k=ke∨k=kb∨k=kl→vo.ownBlock≠some k:=fun k hk e=>by
  obtain⟨_,n1,n2,n3,n4⟩:=hn k e
  rcases hk with rfl|rfl|rfl|rfl
  ·exact n1 rfl
  ·exact n2 rfl
  ·exact n3 rfl
  ·exact n4 rfl
 have hblk:=h.blk
 rw[← hS] at hblk
 exact { blk:=by rw[heap_setCell_same w' S 5 _ _ _ hblk];rfl,calls:=h.calls.low hb2,nc:=h.nc,g:=h.g.other (ho _ h.g.lt s1.symm (hne _ (.inl rfl))),e:=h.e.other (ho _ h.e.lt s2.symm (hne _ (.inr (.inl rfl)))),b:=h.b.other (ho _ h.b.lt s3.symm (hne _ (.inr (.inr (.inl rfl))))),l:=h.l.other (ho _ h.l.lt s4.symm (hne _ (.inr (.inr (.inr rfl))))),ng:=h.ng,ne:=h.ne,nb:=h.nb,nl:=h.nl,o:=aB hq fun g hg=>Below.heap_setCell _ _ _ _ (hd g hg).1,p:=aB h.p fun g hg=>ho g (h.p.lt g hg).2 (h.pd g hg).1 (h.po g hg),z:=h.z,d:=h.d,s:=h.s,pd:=h.pd,od:=hd,po:=fun k e k2=>hx k k2 e }
theorem enter_any (h:Wm w S kg ke kb kl cb ccap Z n cs Lg Le Lb Ll c P O vp vo) (j:Nat) (hj:j<n) (hc0:0≤c) (hc1:c≤1000000) (hP:P.length≤1000000) (hO:O.length≤1000000) :
  Calls Tryz.prog 75 #[.pointer (some ⟨S,0,none⟩),.int .i64 j] w fun e w'=>e=.returned (.tuple #[])∧(∃ vp' vo',Wm w' S kg ke kb kl cb ccap Z n cs Lg (Le.set j (c+1)) (Lb.set j (c+1)) Ll (c+1) (P++[(j:Int)]) (O++[(j:Int)]) vp' vo')∧Below Z w w':=by
 have h1:=h.count (c+1)
 have b1:Below Z w (w.setCell ⟨S,6,none⟩ (.int .i64 (c+1))):=(Below.refl Z w).setCell h.z.1 _
 obtain⟨c0,c1,c2,c3,c4,c5,c6,c7⟩:=h.cells
 have f6:=h.free 6
 go_enter Tryz.func75,Tryz.ntmps75
 go_upto_region 1 with fail
 clear c0 c1 c2 c3 c4 c5 c6 c7 f6 h
 generalize w.setCell ⟨S,6,none⟩ (.int .i64 (c+1))=W1 at *
 obtain⟨c0,c1,c2,c3,c4,c5,c6,c7⟩:=h1.cells
 have hE:=h1.setE j (c+1)
 have hB:=h1.setB j (c+1)
 have hEB:=hE.setB j (c+1)
 have bE:Below Z W1 (W1.setCell ⟨ke,j,none⟩ (.int .i64 (c+1))):=(Below.refl Z W1).setCell h1.z.2.2.1 _
 have bEB:Below Z W1 ((W1.setCell ⟨ke,j,none⟩ (.int .i64 (c+1))).setCell ⟨kb,j,none⟩ (.int .i64 (c+1))):=bE.setCell h1.z.2.2.2.1 _
 have x1:=h1.e.cell (show j<Le.length by rw[h1.ne];exact hj)
 have x2:=h1.e.free j
 have x3:=h1.b.cell (show j<Lb.length by rw[h1.nb];exact hj)
 have x4:=h1.b.free j
 have y1:=hE.b.cell (show j<Lb.length by rw[h1.nb];exact hj)
 have y2:=hE.b.free j
 have y3:=hB.e.cell (show j<Le.length by rw[h1.ne];exact hj)
 have y4:=hB.e.free j
 have hcm:=set_comm W1 (a:=⟨ke,j,none⟩) (b:=⟨kb,j,none⟩) h1.d.2.2.2.1 (.int .i64 (c+1)) (.int .i64 (c+1))
 go_region
 all_goals (try rw[← hcm])
 all_goals
  clear c0 c1 c2 c3 c4 c5 c6 c7 x1 x2 x3 x4 y1 y2 y3 y4 hcm hE hB bE h1
  replace b1:=(Below.trans b1 bEB).drew
  clear bEB
  have h2:=hEB.up (Below.refl _ _).drew
  clear hEB
  generalize ((W1.setCell ⟨ke,j,none⟩ (.int .i64 (c+1))).setCell ⟨kb,j,none⟩ (.int .i64 (c+1))).drew=W2 at *
  obtain⟨g,cq,W3,hr,ho,hg,hl⟩:=nH W2 Z vp P j h2.p (Nat.le_trans h2.z.1 (Nat.le_of_lt h2.lt)) hP
  have hb2:=ae W2 (.cells #[.int .i64 (j:Int)] 3)
  have h2':=h2.up hb2
  obtain⟨⟨r1,r2⟩,h3⟩:=h2'.pushP hg ho (by
   rcases hl with e|e
   ·exact .inl e
   ·exact .inr (by rw[e];rfl))
  have b3:Below Z W2 (W3.setCell ⟨S,4,none⟩ (.slice (some ⟨g,0,none⟩) (P.length+1) cq)):=((hb2.mono (Nat.le_trans h2.z.1 (Nat.le_of_lt h2.lt))).grown hg (Nat.le_trans (Nat.le_trans h2.z.1 (Nat.le_of_lt h2.lt)) (by simp)) fun k e=>h2.pz e).setCell h2.z.1 _
  replace b1:=Below.trans b1 b3
  obtain⟨c0,c1,c2,c3,c4,c5,c6,c7⟩:=h2.cells
  have HR:Hid (_=_):=hr
  clear hr ho hg hl hb2 h2' b3 h2
  go_upto_region 3 with (first
   |(at_builtin;refine bQ rfl (.tmp 35) (.tmp 37) 36 rfl rfl _ _ rfl rfl _ _ (show _=_ from HR) ?_)
   |fail)
  clear HR c0 c1 c2 c3 c4 c5 c6 c7 r1 r2
  generalize W3.setCell ⟨S,4,none⟩ (.slice (some ⟨g,0,none⟩) (P.length+1) cq)=W4 at *
  generalize hvq:Value.slice (some ⟨g,0,none⟩) (P.length+1) cq=vq at h3
  obtain⟨g2,cq2,W5,hr,ho,hg,hl⟩:=nH W4 Z vo O j h3.o (Nat.le_trans h3.z.1 (Nat.le_of_lt h3.lt)) hO
  have hb2:=ae W4 (.cells #[.int .i64 (j:Int)] 3)
  have h3':=h3.up hb2
  obtain⟨⟨r1,r2⟩,h4⟩:=h3'.pushO hg ho (by
   rcases hl with e|e
   ·exact .inl e
   ·exact .inr (by rw[e];rfl))
  have b3:Below Z W4 (W5.setCell ⟨S,5,none⟩ (.slice (some ⟨g2,0,none⟩) (O.length+1) cq2)):=((hb2.mono (Nat.le_trans h3.z.1 (Nat.le_of_lt h3.lt))).grown hg (Nat.le_trans (Nat.le_trans h3.z.1 (Nat.le_of_lt h3.lt)) (by simp)) fun k e=>h3.oz e).setCell h3.z.1 _
  replace b1:=Below.trans b1 b3
  obtain⟨c0,c1,c2,c3,c4,c5,c6,c7⟩:=h3.cells
  have HR:Hid (_=_):=hr
  clear hr ho hg hl hb2 h3' b3 h3 hvq
  go_wp2_with (first
   |(at_builtin;refine bQ rfl (.tmp 45) (.tmp 47) 36 rfl rfl _ _ rfl rfl _ _ (show _=_ from HR) ?_)
   |fail)
  go_end0
  exact⟨rfl,⟨_,_,h4⟩,b1⟩
theorem CsW.at {w:World} {cb Z:Nat} {cs:List (List Int)} (h:CsW w cb Z cs) {v k:Nat} (hv:v<cs.length) (hk:k<(cs.getD v []).length):∃ g rc,w.cell? ⟨cb,v,none⟩=some (.slice (some ⟨g,0,none⟩) (cs.getD v []).length rc)∧w.cell? ⟨g,k,none⟩=some (.int .i64 ((cs.getD v []).getD k 0)):=by
 obtain⟨ro,rc,h1,h2⟩:=h.row v hv
 rcases h2 with h2|⟨g,rfl,_,hc⟩
 ·rw[h2] at hk;simp at hk
 ·exact⟨g,rc,h1,hc k hk⟩
theorem along_any (h:Wm w S kg ke kb kl cb ccap Z n cs Lg Le Lb Ll c P O vp vo) (p k x:Nat) (hp:p<n) (hk:Lg.getD p 0=(k:Int)) (hkl:k<(cs.getD p []).length) (hx:(cs.getD p []).getD k 0=(x:Int)) (hxn:x<n) (hk1:k≤1000000) (_:n≤ccap) :
  Calls Tryz.prog 76 #[.pointer (some ⟨S,0,none⟩),.int .i64 p] w fun e w'=>e=.returned (.tuple #[])∧Wm w' S kg ke kb kl cb ccap Z n cs (Lg.set p (k+1)) Le (if Ll.getD x 0<0 then Lb.set p (min (Lb.getD p 0) (Lb.getD x 0)) else Lb) Ll c P O vp vo∧Below Z w w':=by
 obtain⟨c0,c1,c2,c3,c4,c5,c6,c7⟩:=h.cells
 obtain⟨rg,rc,a1,a2⟩:=h.calls.at (v:=p) (k:=k) (by rw[h.nc];exact hp) hkl
 rw[hx] at a2
 have g1:=h.g.cell (show p<Lg.length by rw[h.ng];exact hp)
 rw[hk] at g1
 have l1:=h.l.cell (show x<Ll.length by rw[h.nl];exact hxn)
 have e1:=h.b.cell (show p<Lb.length by rw[h.nb];exact hp)
 have e2:=h.b.cell (show x<Lb.length by rw[h.nb];exact hxn)
 generalize hrl:(cs.getD p []).length=rl at *
 obtain⟨lx,hlx⟩:∃ lx,lx=Ll.getD x 0:=⟨_,rfl⟩
 obtain⟨bp,hbp⟩:∃ bp,bp=Lb.getD p 0:=⟨_,rfl⟩
 obtain⟨bx,hbx⟩:∃ bx,bx=Lb.getD x 0:=⟨_,rfl⟩
 rw[← hlx] at l1 ⊢
 rw[← hbp] at e1 ⊢
 rw[← hbx] at e2 ⊢
 have HLX:Hid (lx=Ll.getD x 0):=hlx
 have HBP:Hid (bp=Lb.getD p 0):=hbp
 have HBX:Hid (bx=Lb.getD x 0):=hbx
 have HK:Hid (Lg.getD p 0=(k:Int)):=hk
 clear hrl hx hk hlx hbp hbx l1 e1 e2
 by_cases hl:lx<0
 ·rw[if_pos hl]
  have hd:decide (lx<0)=true:=decide_eq_true hl
  go_enter Tryz.func76,Tryz.ntmps76
  go_wp2_with fail
  go_quiet (fail)
  have h1:=h.up (below_drewN (Below.refl _ _) nq)
  have b1:Below Z w (w.drewN nq):=below_drewN (Below.refl _ _) nq
  clear c0 c1 c2 c3 c4 c5 c6 c7 a1 a2 g1 h
  generalize w.drewN nq=W1 at *
  obtain⟨c0,c1,c2,c3,c4,c5,c6,c7⟩:=h1.cells
  have l1:=h1.l.cell (show x<Ll.length by rw[h1.nl];exact hxn)
  rw[← HLX.out] at l1
  have e1:=h1.b.cell (show p<Lb.length by rw[h1.nb];exact hp)
  have e2:=h1.b.cell (show x<Lb.length by rw[h1.nb];exact hxn)
  have e3:=h1.b.free p
  rw[← HBP.out] at e1
  rw[← HBX.out] at e2
  go_upto_region 2 with fail
  have h2:=h1.setB p (min bp bx)
  have b2:Below Z W1 (W1.setCell ⟨kb,p,none⟩ (.int .i64 (min bp bx))):=(Below.refl _ _).setCell h1.z.2.2.2.1 _
  have hmn:(if bx<bp then bx else bp)=min bp bx:=by split<;>omega
  go_region
  all_goals
   try rw[hmn]
   have h3:=h2.up (Below.refl _ _).drew
   replace b1:=(Below.trans b1 b2).drew
   clear c0 c1 c2 c3 c4 c5 c6 c7 l1 e1 e2 e3 h1 h2 b2 hmn hd
   generalize (W1.setCell ⟨kb,p,none⟩ (.int .i64 (min bp bx))).drew=W2 at *
   obtain⟨c0,c1,c2,c3,c4,c5,c6,c7⟩:=h3.cells
   have g1:=h3.g.cell (show p<Lg.length by rw[h3.ng];exact hp)
   rw[HK.out] at g1
   have g2:=h3.g.free p
   have h4:=h3.setG p (k+1)
   replace b1:=Below.trans b1 ((Below.refl Z W2).setCell (p:=⟨kg,p,none⟩) h3.z.2.1 (.int .i64 ((k:Int)+1)))
   go_wp2
   go_end0
   exact⟨rfl,h4,b1⟩
 ·rw[if_neg hl]
  have hd:decide (lx<0)=false:=decide_eq_false hl
  go_enter Tryz.func76,Tryz.ntmps76
  go_wp2_with fail
  go_quiet (fail)
  have h3:=h.up (below_drewN (Below.refl _ _) nq)
  have b1:Below Z w (w.drewN nq):=below_drewN (Below.refl _ _) nq
  clear c0 c1 c2 c3 c4 c5 c6 c7 a1 a2 g1 h
  generalize w.drewN nq=W2 at *
  have l1:=h3.l.cell (show x<Ll.length by rw[h3.nl];exact hxn)
  rw[← HLX.out] at l1
  obtain⟨c0,c1,c2,c3,c4,c5,c6,c7⟩:=h3.cells
  have g1:=h3.g.cell (show p<Lg.length by rw[h3.ng];exact hp)
  rw[HK.out] at g1
  have g2:=h3.g.free p
  have h4:=h3.setG p (k+1)
  replace b1:=Below.trans b1 ((Below.refl Z W2).setCell (p:=⟨kg,p,none⟩) h3.z.2.1 (.int .i64 ((k:Int)+1)))
  go_wp2
  go_end0
  exact⟨rfl,h4,b1⟩
end
def At (w:World) (g off:Nat) (L:List Int):Prop:=∀ t,t<L.length→w.cell? ⟨g,off+t,none⟩=some (.int .i64 (L.getD t 0))
theorem At.up {w w':World} {g off:Nat} {L:List Int} (h:At w g off L) (hb:Below w.heap.size w w'):At w' g off L:=fun t ht=>by
 rw[← h t ht]
 exact World.cell?_of_block (w:=w) (hb.block g (cell_below (h t ht)))
theorem At.other {w w':World} {g off:Nat} {L:List Int} (h:At w g off L) (hb:w'.heap[g]?=w.heap[g]?):At w' g off L:=fun t ht=>by
 rw[← h t ht]
 exact World.cell?_of_block (w:=w) hb
theorem lJ {L:List Int} {k:Nat} {m:Int} (hm:∀ t,t<k→m≤L.getD t 0) (x:Int) (hx:x=L.getD k 0) (m':Int) (h1:m'≤m) (h2:m'≤x):∀ t,t<k+1→m'≤L.getD t 0:=fun t ht=>by
 rcases Nat.lt_or_ge t k with h|h
 ·have:=hm t h;omega
 ·obtain rfl:t=k:=by omega
  omega
theorem min_any (w:World) (g off cp:Nat) (L:List Int) (h:At w g off L) (h0:0<L.length) (hl:L.length≤1000000) :
  Calls Tryz.prog 100 #[.slice (some ⟨g,off,none⟩) L.length cp] w fun e w'=>(∃ m,e=.returned (.int .i64 m)∧m∈L∧∀ v,v∈L→m≤v)∧Below w.heap.size w w':=by
 have a0:=h 0 h0
 rw[Nat.add_zero] at a0
 obtain⟨m0,hm0⟩:∃ m0,m0=L.getD 0 0:=⟨_,rfl⟩
 rw[← hm0] at a0
 have hmem:∀ t,t<L.length→L.getD t 0∈L:=fun t ht=>by rw[List.getD_eq_getElem?_getD,List.getElem?_eq_getElem ht];exact List.getElem_mem ht
 have HM:Hid (∀ t,t<L.length→L.getD t 0∈L):=hmem
 have H0:Hid (m0∈L∧∀ t,t<1→m0≤L.getD t 0):=⟨by rw[hm0];exact hmem 0 h0,fun t ht=>by
  have e:t=0:=(by omega)
  rw[e,hm0]
  exact Int.le_refl _⟩
 clear hm0 hmem
 go_enter Tryz.func100,Tryz.ntmps100
 go_wp2
 go_loopw [3,4] (fun mv i wr=>∃ k:Nat,1≤k∧k≤L.length∧i=.int .i64 k∧∃ m:Int,mv=.int .i64 m∧Below w.heap.size w wr∧Hid (m∈L∧∀ t,t<k→m≤L.getD t 0)) (fun _ i _=>L.length-(intOf i).toNat)
 case atStart=>exact⟨1,Nat.le_refl _,h0,rfl,m0,rfl,Below.refl _ _,H0⟩
 case round=>
  obtain⟨k,hk1,hk,rfl,m,rfl,hb,HK⟩:=hrel
  by_cases hlt:k<L.length
  ·have ha:=(h.up hb) k hlt
   obtain⟨x,hx⟩:∃ x,x=L.getD k 0:=⟨_,rfl⟩
   rw[← hx] at ha
   have HX:Hid (x=L.getD k 0):=hx
   clear hx h a0
   by_cases hxm:x<m
   ·have HN:Hid (x∈L∧∀ t,t<k+1→x≤L.getD t 0):=⟨by rw[HX.out];exact HM.out k hlt,lJ HK.out.2 x HX.out x (by omega) (Int.le_refl _)⟩
    have hmn:min m x=x:=by omega
    go_wp2
    go_roundw
    case rel=>exact⟨k+1,by omega,by omega,by go_num,_,rfl,hb,by first|exact HN|(simpa [hxm,hmn] using HN)⟩
    case measure=>simp[intOf];omega
   ·have HN:Hid (m∈L∧∀ t,t<k+1→m≤L.getD t 0):=⟨HK.out.1,lJ HK.out.2 x HX.out m (Int.le_refl _) (by omega)⟩
    have hmn:min m x=m:=by omega
    go_wp2
    go_roundw
    case rel=>exact⟨k+1,by omega,by omega,by go_num,_,rfl,hb,by first|exact HN|(simpa [hxm,hmn] using HN)⟩
    case measure=>simp[intOf];omega
  ·obtain rfl:k=L.length:=by omega
   clear h a0
   go_wp2
   go_ret
   refine⟨⟨m,rfl,HK.out.1,fun v hv=>?_⟩,hb⟩
   obtain⟨t,ht,rfl⟩:=List.getElem_of_mem hv
   have:=HK.out.2 t ht
   rwa[List.getD_eq_getElem?_getD,List.getElem?_eq_getElem ht] at this
theorem jo {w:World} {B n m cp:Nat} {p:Option Addr} {L:List Int} (h:w.ownsRow B 3 1 (.slice p n cp) n (L.map fun z=>.int .i64 z)) (hm:m≤n) (h0:p≠none):w.ownsRow B 3 1 (.slice p m cp) m ((L.take m).map fun z=>.int .i64 z):=by
 have hl:=h.1
 rw[List.length_map] at hl
 refine⟨by rw[List.length_map,List.length_take];omega,?_⟩
 rcases h.2 with⟨e,_⟩|⟨g,c,cur,e,h1,h2,h3,h4,h5,h6⟩
 ·simp only[Value.slice.injEq] at e
  exact absurd e.1 h0
 ·simp only[Value.slice.injEq,true_and] at e
  obtain⟨e1,e2⟩:=e
  subst e2
  refine .inr ⟨g,cp,cur,by rw[e1],h1,h2,by omega,h4,h5,?_⟩
  rw[Nat.mul_one] at h6 ⊢
  rw[List.map_take,← h6,List.take_take,Nat.min_eq_left hm]
theorem cu {w:World} {B:Nat} {v:Value} {L:List Int} (h:w.ownsRow B 3 1 v L.length (L.map fun z=>.int .i64 z)) (hn:0<L.length):∃ g cp,v=.slice (some ⟨g,0,none⟩) L.length cp∧L.length≤cp∧At w g 0 L:=by
 rcases id h.2 with⟨_,h0⟩|⟨g,cp,cur,rfl,h1,h2,h3,h4,h5,h6⟩
 ·omega
 ·refine⟨g,cp,rfl,h3,fun t ht=>?_⟩
  have:=World.ownsRow.cellAt h t (by omega)
  rw[Nat.zero_add,this,List.getElem?_map,List.getElem?_eq_getElem ht,List.getD_eq_getElem?_getD,List.getElem?_eq_getElem ht]
  rfl
theorem At.drop {w:World} {g off:Nat} {L:List Int} (h:At w g off L) (a:Nat):At w g (off+a) (L.drop a):=fun t ht=>by
 rw[List.length_drop] at ht
 have:=h (a+t) (by omega)
 rw[Nat.add_assoc,this,List.getD_eq_getElem?_getD,List.getD_eq_getElem?_getD,List.getElem?_drop]
def bX (L:List Int):List Int→Int→List Int
 |[],_=>L
 |j::js,m=>bX (L.set j.toNat m) js m
theorem setAll_take {L gs:List Int} {m:Int} {k:Nat} (hk:k<gs.length):(bX L (gs.take k) m).set (gs.getD k 0).toNat m=bX L (gs.take (k+1)) m:=by
 induction gs generalizing L k with
 |nil=>simp at hk
 |cons g gs ih=>
  cases k with
  |zero=>rfl
  |succ k=>
   rw[List.take_succ_cons,List.take_succ_cons]
   show (bX (L.set g.toNat m) (gs.take k) m).set ((gs.getD k 0).toNat) m=bX (L.set g.toNat m) (gs.take (k+1)) m
   exact ih (by simpa using hk)
section
variable {w:World} {S kg ke kb kl cb ccap Z n:Nat} {cs:List (List Int)} {Lg Le Lb Ll:List Int} {c:Int} {P O:List Int} {vp vo:Value}
theorem Wm.pop {i:Int} (h:Wm w S kg ke kb kl cb ccap Z n cs Lg Le Lb Ll c (P++[i]) O vp vo):∃ gp cp,vp=.slice (some ⟨gp,0,none⟩) (P.length+1) cp∧P.length+1≤cp∧At w gp 0 (P++[i]) ∧
  Wm (w.setCell ⟨S,4,none⟩ (.slice (some ⟨gp,0,none⟩) P.length cp)) S kg ke kb kl cb ccap Z n cs Lg Le Lb Ll c P O (.slice (some ⟨gp,0,none⟩) P.length cp) vo:=by
 obtain⟨gp,cp,rfl,h1,h2⟩:=cu h.p (by simp)
 have e:(P++[i]).length=P.length+1:=by simp
 have hp:=h.p
 have hd:=h.pd
 have hx:=h.po
 rw[e] at hp h1
 refine⟨gp,cp,by rw[e],h1,h2,?_⟩
 have ho:=jo (m:=P.length) hp (by omega) (by simp)
 rw[List.take_left] at ho
 exact h.setP ho hd hx
theorem Wm.cut (h:Wm w S kg ke kb kl cb ccap Z n cs Lg Le Lb Ll c P O vp vo) {a:Nat} {go co:Nat} (hv:vo=.slice (some ⟨go,0,none⟩) O.length co) (ha:a≤O.length):Wm (w.setCell ⟨S,5,none⟩ (.slice (some ⟨go,0,none⟩) a co)) S kg ke kb kl cb ccap Z n cs Lg Le Lb Ll c P (O.take a) vp (.slice (some ⟨go,0,none⟩) a co):=by
 subst hv
 have ho:=jo (m:=a) h.o ha (by simp)
 have e:(O.take a).length=a:=by rw[List.length_take];omega
 rw[← e] at ho ⊢
 rw[e] at ho ⊢
 exact h.setO (by rw[e];exact ho) h.od fun k hk=>h.po k hk
theorem leave_open (i:Nat) (h:Wm w S kg ke kb kl cb ccap Z n cs Lg Le Lb Ll c (P++[(i:Int)]) O vp vo) (hi:i<n) (hP:P.length≤1000000) (hlt:Lb.getD i 0<Le.getD i 0) :
  Calls Tryz.prog 77 #[.pointer (some ⟨S,0,none⟩),.int .i64 i] w fun e w'=>e=.returned (.tuple #[])∧(∃ vp',Wm w' S kg ke kb kl cb ccap Z n cs Lg Le Lb Ll c P O vp' vo)∧Below Z w w':=by
 obtain⟨gp,cp,rfl,hcp,_,h1⟩:=h.pop
 have b1:Below Z w (w.setCell ⟨S,4,none⟩ (.slice (some ⟨gp,0,none⟩) P.length cp)):=(Below.refl Z w).setCell h.z.1 _
 obtain⟨c0,c1,c2,c3,c4,c5,c6,c7⟩:=h.cells
 have f4:=h.free 4
 have hcp2:P.length≤cp:=by omega
 have HLT:Hid (Lb.getD i 0<Le.getD i 0):=hlt
 clear hlt
 go_enter Tryz.func77,Tryz.ntmps77
 go_upto_region 0 with fail
 go_region
 all_goals
  have h2:=h1.up (Below.refl _ _).drew
  replace b1:=b1.drew
  clear c0 c1 c2 c3 c4 c5 c6 c7 f4 h h1
  generalize (w.setCell ⟨S,4,none⟩ (.slice (some ⟨gp,0,none⟩) P.length cp)).drew=W1 at *
  obtain⟨c0,c1,c2,c3,c4,c5,c6,c7⟩:=h2.cells
  have e1:=h2.e.cell (show i<Le.length by rw[h2.ne];exact hi)
  have e2:=h2.b.cell (show i<Lb.length by rw[h2.nb];exact hi)
  have hd:decide (Lb.getD i 0<Le.getD i 0)=true:=decide_eq_true HLT.out
  generalize Lb.getD i 0=x at *
  generalize Le.getD i 0=y at *
  go_wp2_with fail
  go_quiet (fail)
  go_wp2
  refine bodyPost_ret (results_none rfl _ _ _) rfl ?_
  exact⟨rfl,⟨_,h2.up (below_drewN (Below.refl _ _) _)⟩,below_drewN b1 _⟩
theorem leave_close (i a:Nat) (h:Wm w S kg ke kb kl cb ccap Z n cs Lg Le Lb Ll c (P++[(i:Int)]) O vp vo) (hi:i<n) (hP:P.length≤1000000) (hO:O.length≤1000000) (hge:¬ Lb.getD i 0<Le.getD i 0) (ha:a<O.length) (hai:O.getD a 0=(i:Int)) (hafter:∀ b,a<b→b<O.length→O.getD b 0≠(i:Int)) (hOn:∀ v,v∈O→0≤v∧v<n) :
  Calls Tryz.prog 77 #[.pointer (some ⟨S,0,none⟩),.int .i64 i] w fun e w'=>e=.returned (.tuple #[])∧(∃ m vp' vo',(m∈O.drop a∧∀ v,v∈O.drop a→m≤v)∧Wm w' S kg ke kb kl cb ccap Z n cs Lg Le Lb (bX Ll (O.drop a) m) c P (O.take a) vp' vo')∧Below Z w w':=by
 obtain⟨gp,cp,rfl,hcp,_,h1⟩:=h.pop
 have b1:Below Z w (w.setCell ⟨S,4,none⟩ (.slice (some ⟨gp,0,none⟩) P.length cp)):=(Below.refl Z w).setCell h.z.1 _
 obtain⟨c0,c1,c2,c3,c4,c5,c6,c7⟩:=h.cells
 have f4:=h.free 4
 have hcp2:P.length≤cp:=by omega
 have HGE:Hid (¬ Lb.getD i 0<Le.getD i 0):=hge
 have HAI:Hid (O.getD a 0=(i:Int)∧∀ b,a<b→b<O.length→O.getD b 0≠(i:Int)):=⟨hai,hafter⟩
 have HON:Hid (∀ v,v∈O→0≤v∧v<n):=hOn
 clear hge hai hafter hOn
 go_enter Tryz.func77,Tryz.ntmps77
 go_upto_region 0 with fail
 go_region
 all_goals
  have h2:=h1.up (Below.refl _ _).drew
  replace b1:=b1.drew
  clear c0 c1 c2 c3 c4 c5 c6 c7 f4 h h1
  generalize (w.setCell ⟨S,4,none⟩ (.slice (some ⟨gp,0,none⟩) P.length cp)).drew=W1 at *
  obtain⟨c0,c1,c2,c3,c4,c5,c6,c7⟩:=h2.cells
  have e1:=h2.e.cell (show i<Le.length by rw[h2.ne];exact hi)
  have e2:=h2.b.cell (show i<Lb.length by rw[h2.nb];exact hi)
  have hd:decide (Lb.getD i 0<Le.getD i 0)=false:=decide_eq_false HGE.out
  generalize Lb.getD i 0=x at e2 hd
  generalize Le.getD i 0=y at e1 hd
  go_wp2_with fail
  go_quiet (fail)
  have h3:=h2.up (below_drewN (Below.refl _ _) nq)
  replace b1:=below_drewN b1 nq
  clear c0 c1 c2 c3 c4 c5 c6 c7 e1 e2 h2
  generalize W1.drewN nq=W2 at *
  obtain⟨go,co,rfl,hco,hat⟩:=cu h3.o (Nat.lt_of_le_of_lt (Nat.zero_le a) ha)
  obtain⟨c0,c1,c2,c3,c4,c5,c6,c7⟩:=h3.cells
  go_wp2
  clear hd
  go_loopw [4] (fun sv wr=>∃ s:Nat,sv=.int .i64 s∧a≤s∧s<O.length∧Below W2.heap.size W2 wr) (fun sv _=>(intOf sv).toNat)
  case atStart=>exact⟨O.length-1,by go_num,by omega,by omega,Below.refl _ _⟩
  case round=>
   obtain⟨s,rfl,has,hsl,hbz⟩:=hrel
   have h4:=h3.up hbz
   obtain⟨d0,d1,d2,d3,d4,d5,d6,d7⟩:=h4.cells
   have hv:=(hat.up hbz) s hsl
   rw[Nat.zero_add] at hv
   by_cases hsa:s=a
   ·subst hsa
    rw[HAI.out.1] at hv
    have hcut:O.length-s≤co-s:=by omega
    have hmn:=min_any wr go s (co-s) (O.drop s) (by have:=(hat.up hbz).drop s;rwa[Nat.zero_add] at this) (by rw[List.length_drop];omega) (by rw[List.length_drop];omega)
    rw[List.length_drop] at hmn
    go_wp2_with fail
    refine hmn.mono ?_
    rintro e w5 ⟨⟨m,rfl,hm1,hm2⟩,hb5⟩
    have h5:=h4.up hb5
    have hbz5:Below W2.heap.size W2 w5:=hbz.trans (hb5.mono hbz.size)
    have hat5:=(hat.up hbz5).drop s
    rw[Nat.zero_add] at hat5
    have HM:Hid (m∈O.drop s∧∀ v,v∈O.drop s→m≤v):=⟨hm1,hm2⟩
    obtain⟨D,hD⟩:∃ D,D=O.drop s:=⟨_,rfl⟩
    rw[← hD] at hat5
    have hDl:O.length-s=D.length:=by rw[hD,List.length_drop]
    have HD:Hid (D=O.drop s):=hD
    have hDn:∀ t,t<D.length→0≤D.getD t 0∧D.getD t 0<n:=fun t ht=>by
     apply HON.out
     rw[hD,List.getD_eq_getElem?_getD,List.getElem?_drop]
     rw[hD,List.length_drop] at ht
     rw[List.getElem?_eq_getElem (by omega)]
     exact List.getElem_mem _
    have HDN:Hid (∀ t,t<D.length→0≤D.getD t 0∧D.getD t 0<n):=hDn
    have hDm:D.length≤1000000:=by omega
    have zz:Z≤W2.heap.size:=Nat.le_trans h3.z.1 (Nat.le_of_lt h3.lt)
    replace b1:=Below.trans b1 (hbz5.mono zz)
    have hgo:=(h5.o.lt go rfl)
    have hod:=h5.od go rfl
    rw[hDl]
    clear hD hDl hDn hm1 hm2 hmn hb5 hbz hbz5 hat h3 h4 hv d0 d1 d2 d3 d4 d5 d6 d7 c0 c1 c2 c3 c4 c5 c6 c7 zz hcut
    go_wp2
    go_loopw [65] (fun kv wr=>∃ k:Nat,k≤D.length∧kv=.int .i64 k∧Below Z w wr∧wr.heap[go]?=w5.heap[go]?∧Wm wr S kg ke kb kl cb ccap Z n cs Lg Le Lb (bX Ll (D.take k) m) c P O (.slice (some ⟨gp,0,none⟩) P.length cp) (.slice (some ⟨go,0,none⟩) O.length co)) (fun kv _=>D.length-(intOf kv).toNat)
    case atStart=>exact⟨0,Nat.zero_le _,rfl,b1,rfl,by simpa [bX] using h5⟩
    case round=>
     obtain⟨k,hk,rfl,hbk,hgk,h6⟩:=hrel
     obtain⟨d0,d1,d2,d3,d4,d5,d6,d7⟩:=h6.cells
     by_cases hlt:k<D.length
     ·have hv:=(hat5.other hgk) k hlt
      obtain⟨x0,x1⟩:=HDN.out k hlt
      obtain⟨x,hx⟩:∃ x:Nat,D.getD k 0=(x:Int):=⟨(D.getD k 0).toNat,by omega⟩
      rw[hx] at hv x1
      have hxn:x<n:=by omega
      have l1:=h6.l.cell (show x<(bX Ll (D.take k) m).length by rw[h6.nl];exact hxn)
      have l2:=h6.l.free x
      have h7:=h6.setL x m
      have hst:=setAll_take (L:=Ll) (m:=m) hlt
      rw[hx,Int.toNat_natCast] at hst
      rw[hst] at h7
      have hg7:(wr.setCell ⟨kl,x,none⟩ (.int .i64 m)).heap[go]?=w5.heap[go]?:=by rw[← hgk];exact Below.heap_setCell _ _ _ _ hod.2.2.2.2
      have hb7:=hbk.setCell (p:=⟨kl,x,none⟩) h6.z.2.2.2.2 (.int .i64 m)
      clear hst hx x0 x1 h6 h5 hat5 hgk hbk b1 hgo hod
      go_wp2
      go_roundw
      case rel=>exact⟨k+1,by omega,by go_num,hb7,hg7,h7⟩
      case measure=>simp[intOf];omega
     ·obtain rfl:k=D.length:=by omega
      rw[List.take_length] at h6
      have h7:=h6.cut (a:=s) rfl (Nat.le_of_lt hsl)
      have f5:=h6.free 5
      have hb7:=hbk.setCell (p:=⟨S,5,none⟩) h6.z.1 (.slice (some ⟨go,0,none⟩) s co)
      have hso:s≤co:=by omega
      rw[HD.out] at h7
      clear h6 h5 hat5 hgk hbk b1 hgo hod
      go_wp2
      go_end0
      exact⟨rfl,⟨m,_,_,HM.out,h7⟩,hb7⟩
   ·have hne:=HAI.out.2 s (by omega) hsl
    obtain⟨z,hz⟩:∃ z,z=O.getD s 0:=⟨_,rfl⟩
    rw[← hz] at hv hne
    have hne2:(z != (i:Int))=true:=by simpa using hne
    clear hz hne h3 h4 hat c0 c1 c2 c3 c4 c5 c6 c7
    go_wp2
    go_roundw
    case rel=>exact⟨s-1,by go_num,by omega,by omega,hbz⟩
    case measure=>simp[intOf];omega
end
open Tj
def jumps (J:Nat→Act→World→Prop) (Q:Exit→Act→World→Prop):Exit→Act→World→Prop
 |.goto l,a,w=>J l a w
 |e,a,w=>Q e a w
theorem wp_scope_ghost {P:Program} {a:Act} {w:World} {Q:Exit→Act→World→Prop} {c:Code} (rest:Nat→Code) (J:Nat→Nat→Act→World→Prop)
  (hf:∀ n l a w,J n l a w→findLabel c l=some (rest l))
  (first:c.wp P (jumps (fun l a w=>∃ n,J n l a w) Q) a w)
  (pass:∀ n l a w,J n l a w→(rest l).wp P (jumps (fun l' a' w'=>∃ n',n'<n∧J n' l' a' w') Q) a w):(Code.scope c).wp P Q a w:=by
 intro b k cs
 have hg:∀ n l a w,J n l a w→gotoIn l (.inScope c::k)=some (.code (rest l)::.inScope c::k):=by intro n l a w h;simp[gotoIn,hf n l a w h]
 have key:∀ n l a w,J n l a w→∃ e a' w',Q e a' w'∧Arrives P (lone (b.at a (.code (rest l)::.inScope c::k)) cs w) b k cs e a' w':=by
  intro n
  induction n using Nat.strongRecOn with
  |_ n ih=>
   intro l a w hJ
   obtain⟨e,a₁,w₁,hq,harr⟩:=pass n l a w hJ b (.inScope c::k) cs
   cases e with
   |normal=>exact⟨.normal,a₁,w₁,hq,Steps.trans harr (.one step_inScope)⟩
   |exit id=>exact⟨.exit id,a₁,w₁,hq,fun k' hk=>harr k' (by simp[exitTo,hk])⟩
   |goto l'=>
    obtain⟨n',hlt,hJ'⟩:=hq
    obtain⟨e₂,a₂,w₂,hq₂,harr₂⟩:=ih n' hlt l' a₁ w₁ hJ'
    exact⟨e₂,a₂,w₂,hq₂,.of_steps (harr _ (hg n' l' a₁ w₁ hJ')) harr₂⟩
   |ret=>exact⟨_,a₁,w₁,hq,harr⟩
   |panic ch=>exact⟨_,a₁,w₁,hq,harr⟩
   |outgrown=>exact⟨_,a₁,w₁,hq,harr⟩
 obtain⟨e,a₁,w₁,hq,harr⟩:=first b (.inScope c::k) cs
 cases e with
 |normal=>exact⟨.normal,a₁,w₁,hq,.head step_scope (Steps.trans harr (.one step_inScope))⟩
 |exit id=>exact⟨.exit id,a₁,w₁,hq,fun k' hk=>.head step_scope (harr k' (by simp[exitTo,hk]))⟩
 |goto l'=>
  obtain⟨n',hJ'⟩:=hq
  obtain⟨e₂,a₂,w₂,hq₂,harr₂⟩:=key n' l' a₁ w₁ hJ'
  exact⟨e₂,a₂,w₂,hq₂,.of_steps (.head step_scope (harr _ (hg n' l' a₁ w₁ hJ'))) harr₂⟩
 |ret=>exact⟨_,a₁,w₁,hq,.of_steps (.one step_scope) harr⟩
 |panic ch=>exact⟨_,a₁,w₁,hq,.of_steps (.one step_scope) harr⟩
 |outgrown=>exact⟨_,a₁,w₁,hq,.of_steps (.one step_scope) harr⟩
def fn (L:List Int) (v:Nat):Nat:=(L.getD v 0).toNat
def aD (cs:List (List Int)) (v:Nat):List Nat:=(cs.getD v []).map Int.toNat
theorem bT {L:List Int} {j:Nat} (hj:j<L.length) (x:Int) (v:Nat):(L.set j x).getD v 0=if v=j then x else L.getD v 0:=by
 rw[List.getD_eq_getElem?_getD,List.getElem?_set]
 by_cases e:j=v
 ·subst e;rw[if_pos rfl,if_pos hj,if_pos rfl];rfl
 ·rw[if_neg e,if_neg (fun h=>e h.symm),List.getD_eq_getElem?_getD]
theorem fG {L:List Int} {j:Nat} (hj:j<L.length) (x:Int):fn (L.set j x)=upd (fn L) j x.toNat:=by
 funext v
 unfold fn upd
 rw[bT hj]
 split<;>rfl
theorem eF (cs:List (List Int)) (v:Nat):(aD cs v).length=(cs.getD v []).length:=List.length_map _
theorem oD (cs:List (List Int)) (v k:Nat):(aD cs v).getD k 0=((cs.getD v []).getD k 0).toNat:=by
 unfold aD
 generalize cs.getD v []=l
 rw[List.getD_eq_getElem?_getD,List.getElem?_map,List.getD_eq_getElem?_getD]
 cases l[k]?<;>rfl
def un (en:Nat→Nat):Nat→Nat
 |0=>0
 |n+1=>un en n+if en n=0 then 1 else 0
theorem pG (en:Nat→Nat) (j x:Nat):∀ n,n≤j→un (upd en j x) n=un en n
 |0,_=>rfl
 |n+1,h=>by
  unfold un
  rw[pG en j x n (by omega),upd_ne _ _ (by omega)]
theorem jB (en:Nat→Nat) (j x:Nat) (h0:en j=0) (hx:x≠0):∀ n,j<n→un (upd en j x) n+1=un en n
 |0,h=>by omega
 |n+1,h=>by
  unfold un
  by_cases e:j=n
  ·subst e
   rw[pG en j x j (Nat.le_refl _),upd_same,if_neg hx,if_pos h0]
  ·have:=jB en j x h0 hx n (by omega)
   rw[upd_ne _ _ (show n≠j from fun k=>e k.symm)]
   omega
theorem un_pos (en:Nat→Nat) {j n:Nat} (h0:en j=0) (hj:j<n):1≤un en n:=by have:=jB en j 1 h0 (by decide) n hj;omega
def rest (adj:Nat→List Nat) (gn:Nat→Nat):Nat→Nat
 |0=>0
 |n+1=>rest adj gn n+((adj n).length-gn n)
theorem lY (adj:Nat→List Nat) (gn:Nat→Nat) (p x:Nat):∀ n,n≤p→rest adj (upd gn p x) n=rest adj gn n
 |0,_=>rfl
 |n+1,h=>by
  unfold rest
  rw[lY adj gn p x n (by omega),upd_ne _ _ (by omega)]
theorem jJ (adj:Nat→List Nat) (gn:Nat→Nat) (p:Nat) (hg:gn p<(adj p).length):∀ n,p<n→rest adj (upd gn p (gn p+1)) n+1=rest adj gn n
 |0,h=>by omega
 |n+1,h=>by
  unfold rest
  by_cases e:p=n
  ·subst e
   rw[lY adj gn p _ p (Nat.le_refl _),upd_same]
   omega
  ·have:=jJ adj gn p hg n (by omega)
   rw[upd_ne _ _ (show n≠p from fun k=>e k.symm)]
   omega
def zs (P:List Nat):List Int:=P.map fun v:Nat=>(v:Int)
theorem bz (P:List Nat):(zs P).length=P.length:=List.length_map _
theorem kF (P:List Nat) (j:Nat):zs (P++[j])=zs P++[(j:Int)]:=by simp[zs]
structure Csx (cs:List (List Int)) (n:Nat):Prop where
 len:cs.length=n
 n1:n≤100000
 ok:∀ v,v<n→∀ x,x∈cs.getD v []→0≤x∧x<n
 l1:∀ v,v<n→(cs.getD v []).length≤100000
theorem Csx.adj {cs:List (List Int)} {n:Nat} (h:Csx cs n):∀ v,v<n→∀ x,x∈aD cs v→x<n:=fun v hv x hx=>by
 unfold aD at hx
 obtain⟨y,hy,rfl⟩:=List.mem_map.1 hx
 have:=h.ok v hv y hy
 omega
theorem Csx.get {cs:List (List Int)} {n:Nat} (h:Csx cs n) {v k:Nat} (hv:v<n) (hk:k<(cs.getD v []).length):∃ x:Nat,(cs.getD v []).getD k 0=(x:Int)∧x<n∧(aD cs v).getD k 0=x:=by
 have hm:(cs.getD v []).getD k 0∈cs.getD v []:=by
  rw[List.getD_eq_getElem?_getD (l:=cs.getD v []),List.getElem?_eq_getElem hk]
  exact List.getElem_mem hk
 have:=h.ok v hv _ hm
 exact⟨((cs.getD v []).getD k 0).toNat,by omega,by omega,oD _ _ _⟩
structure Sta (w:World) (S kg ke kb kl cb ccap Z n:Nat) (cs:List (List Int)) (Pn On:List Nat) (Lg Le Lb Ll:List Int) (c:Nat) (vp vo:Value):Prop where
 m:Wm w S kg ke kb kl cb ccap Z n cs Lg Le Lb Ll (c:Int) (zs Pn) (zs On) vp vo
 i:Inv (aD cs) n c (fn Le) (fn Lb) (fn Lg) (fun v=>Ll.getD v 0) Pn On
 pg:∀ v,0≤Lg.getD v 0
 pe:∀ v,0≤Le.getD v 0
 pb:∀ v,0≤Lb.getD v 0
 cn:c+un (fn Le) n=n
theorem iU {L:List Int} {j:Nat} {x:Int} (h:∀ v,0≤L.getD v 0) (hj:j<L.length) (hx:0≤x):∀ v,0≤(L.set j x).getD v 0:=fun v=>by
 rw[bT hj]
 split
 ·exact hx
 ·exact h v
theorem lC {en:Nat→Nat} {c:Nat}:∀ (l:List Nat) (b:Nat),l.Pairwise (fun a b=>en a<en b)→(∀ v,v∈l→b<en v∧en v≤c)→l.length+b≤max b c
 |[],b,_,_=>by simp;omega
 |a::l,b,hp,h=>by
  rw[List.pairwise_cons] at hp
  have h1:=h a (by simp)
  have:=lC (en:=en) (c:=c) l (en a) hp.2 fun v hv=>⟨hp.1 v hv,(h v (by simp[hv])).2⟩
  simp only[List.length_cons]
  omega
section
variable {w:World} {S kg ke kb kl cb ccap Z n:Nat} {cs:List (List Int)} {Pn On:List Nat} {Lg Le Lb Ll:List Int} {c:Nat} {vp vo:Value}
theorem Sta.olen (h:Sta w S kg ke kb kl cb ccap Z n cs Pn On Lg Le Lb Ll c vp vo):On.length≤n∧Pn.length≤n∧c≤n:=by
 have hc:c≤n:=by have:=h.cn;omega
 have h1:=lC (en:=fn Le) (c:=c) On 0 h.i.srt fun v hv=>⟨by have:=h.i.enz hv;omega,h.i.cnt v (h.i.lt v hv)⟩
 have h2:=h.i.sub.length_le
 omega
theorem Sta.lens (h:Sta w S kg ke kb kl cb ccap Z n cs Pn On Lg Le Lb Ll c vp vo):Lg.length=n∧Le.length=n∧Lb.length=n∧Ll.length=n:=⟨h.m.ng,h.m.ne,h.m.nb,h.m.nl⟩
theorem Sta.enter (h:Sta w S kg ke kb kl cb ccap Z n cs Pn On Lg Le Lb Ll c vp vo) {j:Nat} (hj:j<n) (hn:fn Le j=0) (hc:Pn=[]∨∃ P p,Pn=P++[p]∧fn Lg p<(aD cs p).length∧(aD cs p).getD (fn Lg p) 0=j) {w':World} {vp' vo':Value}
  (hm:Wm w' S kg ke kb kl cb ccap Z n cs Lg (Le.set j ((c:Int)+1)) (Lb.set j ((c:Int)+1)) Ll ((c:Int)+1) (zs Pn++[(j:Int)]) (zs On++[(j:Int)]) vp' vo') :
  Sta w' S kg ke kb kl cb ccap Z n cs (Pn++[j]) (On++[j]) Lg (Le.set j ((c:Int)+1)) (Lb.set j ((c:Int)+1)) Ll (c+1) vp' vo':=by
 obtain⟨_,l2,l3,_⟩:=h.lens
 have e:((c:Int)+1).toNat=c+1:=by omega
 refine⟨by rw[kF,kF];exact hm,?_,h.pg,iU h.pe (by omega) (by omega),iU h.pb (by omega) (by omega),?_⟩
 ·rw[fG (by omega),fG (by omega),e]
  exact h.i.enter hj hn hc
 ·rw[fG (by omega),e]
  have:=jB (fn Le) j (c+1) hn (by omega) n hj
  have:=h.cn
  omega
theorem Sta.along (h:Sta w S kg ke kb kl cb ccap Z n cs Pn On Lg Le Lb Ll c vp vo) (hx:Csx cs n) {P:List Nat} {p x:Nat} (hp:Pn=P++[p]) (hg:fn Lg p<(aD cs p).length) (hxe:(aD cs p).getD (fn Lg p) 0=x) (hne:fn Le x≠0) {w':World}
  (hm:Wm w' S kg ke kb kl cb ccap Z n cs (Lg.set p ((fn Lg p:Int)+1)) Le (if Ll.getD x 0<0 then Lb.set p (min (Lb.getD p 0) (Lb.getD x 0)) else Lb) Ll (c:Int) (zs Pn) (zs On) vp vo) :
  Sta w' S kg ke kb kl cb ccap Z n cs Pn On (Lg.set p ((fn Lg p:Int)+1)) Le (if Ll.getD x 0<0 then Lb.set p (min (Lb.getD p 0) (Lb.getD x 0)) else Lb) Ll c vp vo:=by
 obtain⟨l1,_,l3,_⟩:=h.lens
 have hpn:p<n:=h.i.lt p (h.i.pmem (by rw[hp];simp))
 have e:((fn Lg p:Int)+1).toNat=fn Lg p+1:=by omega
 have hi:=h.i.along hp hg (by rw[hxe];exact hne) hx.adj
 rw[hxe] at hi
 have hb1:=h.pb p
 have hb2:=h.pb x
 refine⟨hm,?_,iU h.pg (by omega) (by omega),h.pe,?_,h.cn⟩
 ·rw[fG (by omega),e]
  by_cases k:Ll.getD x 0<0
  ·rw[if_pos k] at hi ⊢
   rw[fG (by omega)]
   have e2:(min (Lb.getD p 0) (Lb.getD x 0)).toNat=min (fn Lb p) (fn Lb x):=by unfold fn;omega
   rw[e2]
   exact hi
  ·rw[if_neg k] at hi ⊢
   have e2:upd (fn Lb) p (fn Lb p)=fn Lb:=by
    funext v
    unfold upd
    split
    ·rename_i ev;rw[ev]
    ·rfl
   rw[e2] at hi
   exact hi
 ·split
  ·exact iU h.pb (by omega) (by omega)
  ·exact h.pb
theorem Sta.leave (h:Sta w S kg ke kb kl cb ccap Z n cs Pn On Lg Le Lb Ll c vp vo) {P:List Nat} {i:Nat} (hp:Pn=P++[i]) (hg:fn Lg i=(aD cs i).length) (hb:Lb.getD i 0<Le.getD i 0) {w':World} {vp':Value}
  (hm:Wm w' S kg ke kb kl cb ccap Z n cs Lg Le Lb Ll (c:Int) (zs P) (zs On) vp' vo):Sta w' S kg ke kb kl cb ccap Z n cs P On Lg Le Lb Ll c vp' vo:=
 ⟨hm,h.i.leave hp hg (by have:=h.pb i;unfold fn;omega),h.pg,h.pe,h.pb,h.cn⟩
theorem gZ (m:Int):∀ (gs:List Int) (L:List Int),(∀ v,v∈gs→0≤v∧v<L.length)→∀ v:Nat,(bX L gs m).getD v 0=if (v:Int)∈gs then m else L.getD v 0
 |[],L,_,v=>by simp[bX]
 |g::gs,L,h,v=>by
  have hg:=h g (by simp)
  show (bX (L.set g.toNat m) gs m).getD v 0=_
  rw[gZ m gs (L.set g.toNat m) (fun x hx=>by rw[List.length_set];exact h x (by simp[hx])) v,bT (by omega)]
  by_cases e1:(v:Int)∈gs
  ·rw[if_pos e1,if_pos (List.mem_cons.2 (.inr e1))]
  ·rw[if_neg e1]
   by_cases e2:v=g.toNat
   ·rw[if_pos e2,if_pos (List.mem_cons.2 (.inl (by omega)))]
   ·rw[if_neg e2,if_neg (fun k=>by
     rcases List.mem_cons.1 k with k|k
     ·omega
     ·exact e1 k)]
theorem Sta.close (h:Sta w S kg ke kb kl cb ccap Z n cs Pn On Lg Le Lb Ll c vp vo) (hx:Csx cs n) {P O G:List Nat} {i:Nat} (hp:Pn=P++[i]) (hg:fn Lg i=(aD cs i).length) (hb:¬ Lb.getD i 0<Le.getD i 0) (ho:On=O++i::G) {m:Int} (hm1:m∈zs (i::G)) (hm2:∀ v,v∈zs (i::G)→m≤v) {w':World} {vp' vo':Value}
  (hm:Wm w' S kg ke kb kl cb ccap Z n cs Lg Le Lb (bX Ll (zs (i::G)) m) (c:Int) (zs P) (zs O) vp' vo'):Sta w' S kg ke kb kl cb ccap Z n cs P O Lg Le Lb (bX Ll (zs (i::G)) m) c vp' vo':=by
 obtain⟨_,_,_,l4⟩:=h.lens
 obtain⟨mn,hmn,rfl⟩:=List.mem_map.1 hm1
 have hi:=h.i.close hp hg (by have:=h.pe i;unfold fn;omega) hx.adj ho mn hmn fun v hv=>by
  have:=hm2 (v:Int) (List.mem_map.2 ⟨v,hv,rfl⟩)
  omega
 refine⟨hm,?_,h.pg,h.pe,h.pb,h.cn⟩
 have e:(fun v=>(bX Ll (zs (i::G)) (mn:Int)).getD v 0)=fun v=>if v∈i::G then (mn:Int) else Ll.getD v 0:=by
  funext v
  rw[gZ (mn:Int) (zs (i::G)) Ll (fun x hxm=>by
   obtain⟨y,hy,rfl⟩:=List.mem_map.1 hxm
   have:=h.i.lt y (by rw[ho];exact List.mem_append_right _ hy)
   omega) v]
  have:(v:Int)∈zs (i::G)↔v∈i::G:=by
   unfold zs
   rw[List.mem_map]
   exact⟨fun ⟨y,hy,e⟩=>(show y=v by omega) ▸ hy,fun hv=>⟨v,hv,rfl⟩⟩
  by_cases k:v∈i::G
  ·rw[if_pos k,if_pos (this.2 k)]
  ·rw[if_neg k,if_neg fun k2=>k (this.1 k2)]
 rw[e]
 exact hi
end
def three (J0 J1 J2:Nat→Act→World→Prop) (n:Nat):Nat→Act→World→Prop
 |0=>J0 n
 |1=>J1 n
 |2=>J2 n
 |_=>fun _ _=>False
theorem wp_scope_three {P:Program} {a:Act} {w:World} {Q:Exit→Act→World→Prop} {c x0 x1 x2:Code} (J0 J1 J2:Nat→Act→World→Prop) (h0:findLabel c 0=some (.seq .skip x0)) (h1:findLabel c 1=some (.seq .skip x1)) (h2:findLabel c 2=some (.seq .skip x2))
  (k2:∀ N a w,J2 N a w→x2.wp P (jumps (fun l a' w'=>∃ n',n'<N∧three J0 J1 J2 n' l a' w') Q) a w)
  (k1:∀ N a w,J1 N a w→x1.wp P (jumps (fun l a' w'=>∃ n',n'<N∧three J0 J1 J2 n' l a' w') Q) a w)
  (k0:(∀ N M a w,J1 M a w→M<N→x1.wp P (jumps (fun l a' w'=>∃ n',n'<N∧three J0 J1 J2 n' l a' w') Q) a w)→∀ N a w,J0 N a w→x0.wp P (jumps (fun l a' w'=>∃ n',n'<N∧three J0 J1 J2 n' l a' w') Q) a w)
  (kf:(∀ N a w,J0 N a w→x0.wp P (jumps (fun l a' w'=>∃ n',three J0 J1 J2 n' l a' w') Q) a w)→c.wp P (jumps (fun l a' w'=>∃ n',three J0 J1 J2 n' l a' w') Q) a w):(Code.scope c).wp P Q a w:=by
 have up:∀ (x:Code) (N M:Nat) (a:Act) (w:World),M≤N→x.wp P (jumps (fun l a' w'=>∃ n',n'<M∧three J0 J1 J2 n' l a' w') Q) a w→x.wp P (jumps (fun l a' w'=>∃ n',n'<N∧three J0 J1 J2 n' l a' w') Q) a w:=fun x N M a w hMN hx=>Code.wp_mono (by
  intro e a' w' h
  cases e with
  |goto l=>obtain⟨n',h1,h2⟩:=h;exact⟨n',Nat.lt_of_lt_of_le h1 hMN,h2⟩
  |_=>exact h) hx
 have z0:=k0 fun N M a w hJ hM=>up x1 N M a w (Nat.le_of_lt hM) (k1 M a w hJ)
 refine wp_scope_ghost (fun l=>match l with|0=>.seq .skip x0|1=>.seq .skip x1|_=>.seq .skip x2) (three J0 J1 J2) ?_ (kf fun N a w hJ=>Code.wp_mono (by
  intro e a' w' h
  cases e with
  |goto l=>obtain⟨n',_,h2⟩:=h;exact⟨n',h2⟩
  |_=>exact h) (z0 N a w hJ)) ?_
 ·intro n l a w h
  match l,h with
  |0,_=>exact h0
  |1,_=>exact h1
  |2,_=>exact h2
  |_+3,h=>exact h.elim
 ·intro n l a w h
  match l,h with
  |0,h=>exact wp_seq (wp_skip (z0 n a w h))
  |1,h=>exact wp_seq (wp_skip (k1 n a w h))
  |2,h=>exact wp_seq (wp_skip (k2 n a w h))
  |_+3,h=>exact h.elim
theorem fJ {J:Nat→Act→World→Prop} {Q:Exit→Act→World→Prop} {a:Act} {w:World} (h:Q .normal a w):jumps J Q .normal a w:=h
def AcF (S:Nat) (x1:Value) (a:Act):Prop:=∃ U:Nat→Value,a=⟨#[.pointer (some ⟨S,0,none⟩),x1,U 2,U 3,U 4,U 5,U 6,U 7,U 8,U 9,U 10,U 11,U 12,U 13,U 14,U 15,U 16,U 17,U 18,U 19,U 20,U 21,U 22,U 23,U 24,U 25,U 26,U 27,U 28,U 29,U 30,U 31,U 32,U 33,U 34,U 35,U 36,U 37,U 38,U 39,U 40,U 41,U 42,U 43,U 44,U 45,U 46,U 47,U 48,U 49,U 50,U 51,U 52,U 53,U 54,U 55,U 56,U 57,U 58,U 59,U 60,U 61,U 62,U 63,U 64,U 65,U 66,U 67,U 68,U 69,U 70,U 71,U 72],[]⟩
theorem AcF.mk {S:Nat} {x1 x2 x3 x4 x5 x6 x7 x8 x9 x10 x11 x12 x13 x14 x15 x16 x17 x18 x19 x20 x21 x22 x23 x24 x25 x26 x27 x28 x29 x30 x31 x32 x33 x34 x35 x36 x37 x38 x39 x40 x41 x42 x43 x44 x45 x46 x47 x48 x49 x50 x51 x52 x53 x54 x55 x56 x57 x58 x59 x60 x61 x62 x63 x64 x65 x66 x67 x68 x69 x70 x71 x72:Value}:AcF S x1 ⟨#[.pointer (some ⟨S,0,none⟩),x1,x2,x3,x4,x5,x6,x7,x8,x9,x10,x11,x12,x13,x14,x15,x16,x17,x18,x19,x20,x21,x22,x23,x24,x25,x26,x27,x28,x29,x30,x31,x32,x33,x34,x35,x36,x37,x38,x39,x40,x41,x42,x43,x44,x45,x46,x47,x48,x49,x50,x51,x52,x53,x54,x55,x56,x57,x58,x59,x60,x61,x62,x63,x64,x65,x66,x67,x68,x69,x70,x71,x72],[]⟩:=⟨fun i=>match i with|2=>x2|3=>x3|4=>x4|5=>x5|6=>x6|7=>x7|8=>x8|9=>x9|10=>x10|11=>x11|12=>x12|13=>x13|14=>x14|15=>x15|16=>x16|17=>x17|18=>x18|19=>x19|20=>x20|21=>x21|22=>x22|23=>x23|24=>x24|25=>x25|26=>x26|27=>x27|28=>x28|29=>x29|30=>x30|31=>x31|32=>x32|33=>x33|34=>x34|35=>x35|36=>x36|37=>x37|38=>x38|39=>x39|40=>x40|41=>x41|42=>x42|43=>x43|44=>x44|45=>x45|46=>x46|47=>x47|48=>x48|49=>x49|50=>x50|51=>x51|52=>x52|53=>x53|54=>x54|55=>x55|56=>x56|57=>x57|58=>x58|59=>x59|60=>x60|61=>x61|62=>x62|63=>x63|64=>x64|65=>x65|66=>x66|67=>x67|68=>x68|69=>x69|70=>x70|71=>x71|72=>x72|_=>undef,rfl⟩
structure Ext (Z n:Nat) (E0:Nat→Nat) (i0:Nat) (w0:World) (w:World) (Le:List Int):Prop where
 en:∀ v,v<n→E0 v≠0∨v=i0→fn Le v≠0
 be:Below Z w0 w
def mu (cs:List (List Int)) (n:Nat) (Pn:List Nat) (Lg Le:List Int):Nat:=6*un (fn Le) n+2*Pn.length+2*rest (aD cs) (fn Lg) n
def J0 (S kg ke kb kl cb ccap Z n:Nat) (cs:List (List Int)) (E0:Nat→Nat) (i0:Nat) (w0:World) (N:Nat) (a:Act) (w:World):Prop:=
 ∃ (j:Nat) (Pn On:List Nat) (Lg Le Lb Ll:List Int) (c:Nat) (vp vo:Value),AcF S (.int .i64 j) a∧Sta w S kg ke kb kl cb ccap Z n cs Pn On Lg Le Lb Ll c vp vo∧Below Z w0 w∧(∀ v,v<n→E0 v≠0∨v=i0→fn Le v≠0∨v=j)∧j<n∧fn Le j=0∧(Pn=[]∨∃ P p,Pn=P++[p]∧fn Lg p<(aD cs p).length∧(aD cs p).getD (fn Lg p) 0=j)∧mu cs n Pn Lg Le=N+1
def J1 (S kg ke kb kl cb ccap Z n:Nat) (cs:List (List Int)) (E0:Nat→Nat) (i0:Nat) (w0:World) (N:Nat) (a:Act) (w:World):Prop:=
 ∃ (x1:Value) (P On:List Nat) (i:Nat) (Lg Le Lb Ll:List Int) (c:Nat) (vp vo:Value),AcF S x1 a∧Sta w S kg ke kb kl cb ccap Z n cs (P++[i]) On Lg Le Lb Ll c vp vo∧Ext Z n E0 i0 w0 w Le∧mu cs n (P++[i]) Lg Le=N
def J2 (S kg ke kb kl cb ccap Z n:Nat) (cs:List (List Int)) (E0:Nat→Nat) (i0:Nat) (w0:World) (N:Nat) (a:Act) (w:World):Prop:=
 ∃ (P On:List Nat) (i:Nat) (Lg Le Lb Ll:List Int) (c:Nat) (vp vo:Value),AcF S (.int .i64 i) a∧Sta w S kg ke kb kl cb ccap Z n cs (P++[i]) On Lg Le Lb Ll c vp vo∧Ext Z n E0 i0 w0 w Le∧fn Lg i=(aD cs i).length∧mu cs n (P++[i]) Lg Le=N+1
def nO (S kg ke kb kl cb ccap Z n:Nat) (cs:List (List Int)) (E0:Nat→Nat) (i0:Nat) (w0:World) (w:World):Prop:=
 ∃ (Lg Le Lb Ll:List Int) (c:Nat) (vp vo:Value),Sta w S kg ke kb kl cb ccap Z n cs [] [] Lg Le Lb Ll c vp vo∧Ext Z n E0 i0 w0 w Le
section
variable {w:World} {S kg ke kb kl cb ccap Z n:Nat} {cs:List (List Int)} {Pn On:List Nat} {Lg Le Lb Ll:List Int} {c:Nat} {vp vo:Value}
theorem Sta.up (h:Sta w S kg ke kb kl cb ccap Z n cs Pn On Lg Le Lb Ll c vp vo) {w':World} (hb:Below w.heap.size w w'):Sta w' S kg ke kb kl cb ccap Z n cs Pn On Lg Le Lb Ll c vp vo:=⟨h.m.up hb,h.i,h.pg,h.pe,h.pb,h.cn⟩
theorem fB {L:List Int} (h:∀ v,0≤L.getD v 0) (v:Nat):L.getD v 0=(fn L v:Int):=by unfold fn;have:=h v;omega
theorem getD_memI {l:List Int} {k:Nat} (h:k<l.length):l.getD k 0∈l:=by
 rw[List.getD_eq_getElem?_getD,List.getElem?_eq_getElem h]
 exact List.getElem_mem h
theorem jA (P:List Nat) (k:Nat):(zs P).getD k 0=((P.getD k 0:Nat):Int):=by
 unfold zs
 rw[List.getD_eq_getElem?_getD,List.getElem?_map,List.getD_eq_getElem?_getD]
 cases P[k]?<;>rfl
end
theorem from_any (w:World) (S kg ke kb kl cb ccap Z n:Nat) (cs:List (List Int)) (Lg Le Lb Ll:List Int) (c:Nat) (vp vo:Value) (i0:Nat) (h:Sta w S kg ke kb kl cb ccap Z n cs [] [] Lg Le Lb Ll c vp vo) (hx:Csx cs n) (hi:i0<n) (h0:fn Le i0=0) (hcc:n≤ccap) :
  Calls Tryz.prog 53 #[.pointer (some ⟨S,0,none⟩),.int .i64 i0] w fun e w'=>e=.returned (.tuple #[])∧nO S kg ke kb kl cb ccap Z n cs (fn Le) i0 w w':=by
 have hmu:∃ N,mu cs n [] Lg Le=N+1:=⟨mu cs n [] Lg Le-1,by have:=un_pos (fn Le) h0 hi;unfold mu;omega⟩
 obtain⟨N0,hN0⟩:=hmu
 have HST:Hid (Sta w S kg ke kb kl cb ccap Z n cs [] [] Lg Le Lb Ll c vp vo):=h
 have HN0:Hid (mu cs n [] Lg Le=N0+1):=hN0
 have hE0:∃ E0:Nat→Nat,E0=fn Le:=⟨_,rfl⟩
 obtain⟨E0,hE⟩:=hE0
 rw[← hE]
 have HE:Hid (E0=fn Le):=hE
 clear h hN0 hE
 go_enter Tryz.func53,Tryz.ntmps53
 go_wp2
 refine wp_scope_three (J0 S kg ke kb kl cb ccap Z n cs E0 i0 w) (J1 S kg ke kb kl cb ccap Z n cs E0 i0 w) (J2 S kg ke kb kl cb ccap Z n cs E0 i0 w) rfl rfl rfl ?_ ?_ ?_ ?_
 ·rintro N a w1 ⟨P,On,i,Lg1,Le1,Lb1,Ll1,c1,vp1,vo1,⟨U,rfl⟩,hS,hX,hg,hm0⟩
  obtain⟨ho1,hp1,hc1⟩:=hS.olen
  have hn1:=hx.n1
  have hin:i<n:=hS.i.lt i (hS.i.pmem (by simp))
  have hio:i∈On:=hS.i.pmem (by simp)
  have hm:=hS.m
  rw[kF] at hm
  rw[List.length_append,List.length_singleton] at hp1
  by_cases hb:Lb1.getD i 0<Le1.getD i 0
  ·have hlv:=leave_open i hm hin (by rw[bz];omega) hb
   have HS:Hid (Sta w1 S kg ke kb kl cb ccap Z n cs (P++[i]) On Lg1 Le1 Lb1 Ll1 c1 vp1 vo1):=hS
   have HG:Hid (fn Lg1 i=(aD cs i).length):=hg
   have HB:Hid (Lb1.getD i 0<Le1.getD i 0):=hb
   have HMU:Hid (mu cs n (P++[i]) Lg1 Le1=N+1):=hm0
   clear hm hS hg hb hm0
   go_wp2_with fail
   refine hlv.mono ?_
   rintro e w2 ⟨rfl,⟨vp2,hm2⟩,hb2⟩
   have hS2:=HS.out.leave rfl HG.out HB.out hm2
   have hX2:Ext Z n E0 i0 w w2 Le1:=⟨hX.en,hX.be.trans hb2⟩
   have hPn:P≠[]:=fun e=>by
    have:=hS2.i.head (by intro k;rw[k] at hio;cases hio)
    rw[e] at this
    cases On with
    |nil=>cases hio
    |cons a l=>simp at this
   obtain⟨P',q,rfl⟩:∃ P' q,P=P'++[q]:=by
    rcases List.eq_nil_or_concat P with e|⟨P',q,e⟩
    ·exact absurd e hPn
    ·exact⟨P',q,by rw[e];simp⟩
   have hmu2:mu cs n (P'++[q]) Lg1 Le1<N:=by
    have:=HMU.out
    unfold mu at this ⊢
    rw[List.length_append,List.length_singleton] at this
    omega
   have HJ:Hid (J1 S kg ke kb kl cb ccap Z n cs E0 i0 w (mu cs n (P'++[q]) Lg1 Le1) ⟨#[.pointer (some ⟨S,0,none⟩),.int .i64 i,U 2,U 3,U 4,U 5,U 6,U 7,U 8,U 9,U 10,U 11,U 12,U 13,U 14,U 15,U 16,U 17,U 18,U 19,U 20,U 21,U 22,U 23,U 24,U 25,U 26,U 27,U 28,U 29,U 30,U 31,U 32,U 33,U 34,U 35,U 36,U 37,U 38,U 39,U 40,U 41,U 42,U 43,U 44,U 45,U 46,U 47,U 48,U 49,U 50,U 51,U 52,U 53,U 54,U 55,U 56,U 57,U 58,U 59,U 60,U 61,U 62,U 63,U 64,U 65,U 66,U 67,U 68,U 69,U 70,U 71,U 72],[]⟩ w2∨True):=.inr trivial
   obtain⟨gp,cp,rfl,_,_⟩:=cu hS2.m.p (by rw[bz];simp)
   obtain⟨c0,c1',c2,c3,c4,c5,c6,c7⟩:=hS2.m.cells
   have hlen:(zs (P'++[q])).length=P'.length+1:=by rw[bz];simp
   have HS2:Hid (Sta w2 S kg ke kb kl cb ccap Z n cs (P'++[q]) On Lg1 Le1 Lb1 Ll1 c1 (.slice (some ⟨gp,0,none⟩) (zs (P'++[q])).length cp) vo1):=hS2
   rw[hlen] at c4
   have hgt:decide ((0:Int)<((P'.length+1:Nat):Int))=true:=decide_eq_true (by omega)
   clear hlv hm2 hPn hS2 hlen HS HJ
   go_wp2
   refine wp_goto ?_
   exact⟨_,hmu2,_,P',On,q,Lg1,Le1,Lb1,Ll1,c1,_,vo1,AcF.mk,HS2.out,hX2,rfl⟩
  ·obtain⟨O,G,ho⟩:=List.append_of_mem hio
   have hOl:(zs On).length=On.length:=bz On
   have hsrt:=hS.i.srt
   rw[ho,List.pairwise_append,List.pairwise_cons] at hsrt
   have hdrop:(zs On).drop O.length=zs (i::G):=by
    rw[ho];unfold zs;rw[List.map_append,List.drop_left' (by simp)]
   have htake:(zs On).take O.length=zs O:=by
    rw[ho];unfold zs;rw[List.map_append,List.take_left' (by simp)]
   have hat:(zs On).getD O.length 0=(i:Int):=by
    rw[jA,ho,List.getD_eq_getElem?_getD,List.getElem?_append_right (Nat.le_refl _),Nat.sub_self]
    rfl
   have haf:∀ b,O.length<b→b<(zs On).length→(zs On).getD b 0≠(i:Int):=fun b h1 h2 e=>by
    rw[jA,ho,List.getD_eq_getElem?_getD,List.getElem?_append_right (by omega)] at e
    obtain⟨d,hd⟩:∃ d,b-O.length=d+1:=⟨b-O.length-1,by omega⟩
    rw[hd,List.getElem?_cons_succ] at e
    rw[hOl,ho,List.length_append,List.length_cons] at h2
    rw[List.getElem?_eq_getElem (by omega)] at e
    have hmem:i∈G:=by
     have e2:G[d]'(by omega)=i:=by
      have e3:=e
      simp only[Option.getD_some] at e3
      omega
     rw[← e2]
     exact List.getElem_mem _
    have:=hsrt.2.1.1 i hmem
    omega
   have hval:∀ v,v∈zs On→0≤v∧v<n:=fun v hv=>by
    obtain⟨y,hy,rfl⟩:=List.mem_map.1 hv
    have:=hS.i.lt y hy
    omega
   have hol:O.length<(zs On).length:=by rw[hOl,ho];simp
   have hlv:=leave_close i O.length hm hin (by rw[bz];omega) (by rw[bz];omega) hb hol hat haf hval
   rw[hdrop,htake] at hlv
   have HS:Hid (Sta w1 S kg ke kb kl cb ccap Z n cs (P++[i]) On Lg1 Le1 Lb1 Ll1 c1 vp1 vo1):=hS
   have HG:Hid (fn Lg1 i=(aD cs i).length):=hg
   have HB:Hid (¬ Lb1.getD i 0<Le1.getD i 0):=hb
   have HO:Hid (On=O++i::G):=ho
   have HMU:Hid (mu cs n (P++[i]) Lg1 Le1=N+1):=hm0
   clear hm hS hg hb hm0 ho hOl hsrt hdrop htake hat haf hval hol hio ho1
   go_wp2_with fail
   refine hlv.mono ?_
   rintro e w2 ⟨rfl,⟨m,vp2,vo2,⟨hm1,hm2⟩,hmw⟩,hb2⟩
   have hS2:=HS.out.close hx rfl HG.out (Int.not_lt.2 HB.out) HO.out hm1 hm2 hmw
   have hX2:Ext Z n E0 i0 w w2 Le1:=⟨hX.en,hX.be.trans hb2⟩
   clear hlv hm1 hm2 hmw HS HG HB HO
   generalize bX Ll1 (zs (i::G)) m=Ll2 at *
   rcases List.eq_nil_or_concat P with rfl|⟨P',q,e⟩
   ·have hOn:O=[]:=hS2.i.ended
    subst hOn
    have hvp:vp2=.slice none 0 0∨∃ gp cp,vp2=.slice (some ⟨gp,0,none⟩) 0 cp:=by
     rcases hS2.m.p.2 with⟨e,_⟩|⟨g,cp,cur,e,_⟩
     ·exact .inl e
     ·exact .inr ⟨g,cp,e⟩
    obtain⟨c0,c1',c2,c3,c4,c5,c6,c7⟩:=hS2.m.cells
    have HE2:Hid (nO S kg ke kb kl cb ccap Z n cs E0 i0 w w2):=⟨Lg1,Le1,Lb1,Ll2,c1,vp2,vo2,hS2,hX2⟩
    clear hS2 hX2 HMU
    rcases hvp with rfl|⟨gp,cp,rfl⟩
    ·go_wp2
     refine fJ ?_
     go_end0
     exact⟨rfl,HE2.out⟩
    ·go_wp2
     refine fJ ?_
     go_end0
     exact⟨rfl,HE2.out⟩
   ·have e2:P=P'++[q]:=by rw[e];simp
    subst e2
    clear e
    have hmu2:mu cs n (P'++[q]) Lg1 Le1<N:=by
     have:=HMU.out
     unfold mu at this ⊢
     rw[List.length_append,List.length_singleton] at this
     omega
    obtain⟨gp,cp,rfl,_,_⟩:=cu hS2.m.p (by rw[bz];simp)
    obtain⟨c0,c1',c2,c3,c4,c5,c6,c7⟩:=hS2.m.cells
    have hlen:(zs (P'++[q])).length=P'.length+1:=by rw[bz];simp
    have HS2:Hid (Sta w2 S kg ke kb kl cb ccap Z n cs (P'++[q]) O Lg1 Le1 Lb1 Ll2 c1 (.slice (some ⟨gp,0,none⟩) (zs (P'++[q])).length cp) vo2):=hS2
    rw[hlen] at c4
    have hgt:decide ((0:Int)<((P'.length+1:Nat):Int))=true:=decide_eq_true (by omega)
    clear hS2 hlen
    go_wp2
    refine wp_goto ?_
    exact⟨_,hmu2,_,P',O,q,Lg1,Le1,Lb1,Ll2,c1,_,vo2,AcF.mk,HS2.out,hX2,rfl⟩
 ·rintro N a w1 ⟨x1,P,On,i,Lg1,Le1,Lb1,Ll1,c1,vp1,vo1,⟨U,rfl⟩,hS,hX,hm0⟩
  obtain⟨ho1,hp1,hc1⟩:=hS.olen
  have hn1:=hx.n1
  obtain⟨gp,cp,rfl,hcp,hatp⟩:=cu hS.m.p (by rw[bz];simp)
  have hlen:(zs (P++[i])).length=P.length+1:=by rw[bz];simp
  have hin:i<n:=hS.i.lt i (hS.i.pmem (by simp))
  obtain⟨d0,d1,d2,d3,d4,d5,d6,d7⟩:=hS.m.cells
  have hap:=hatp P.length (by omega)
  have hapi:(zs (P++[i])).getD P.length 0=(i:Int):=by rw[jA];simp
  rw[hapi,Nat.zero_add] at hap
  rw[hlen] at d4
  have hPl:P.length≤100000:=by rw[List.length_append] at hp1;omega
  have hwr:IntKind.i64.wrap (P.length:Int)=(P.length:Int):=by rw[IntKind.wrap_i64];omega
  have HS:Hid (Sta w1 S kg ke kb kl cb ccap Z n cs (P++[i]) On Lg1 Le1 Lb1 Ll1 c1 (.slice (some ⟨gp,0,none⟩) (P.length+1) cp) vo1):=by rw[hlen] at hS;exact hS
  have HX:Hid (Ext Z n E0 i0 w w1 Le1):=hX
  have HMU:Hid (mu cs n (P++[i]) Lg1 Le1=N):=hm0
  have r1:(P.length:Int)+1-1=(P.length:Int):=by omega
  clear hS hX hm0 hlen hatp hapi
  go_wp2_with fail
  go_quiet (fail)
  have h1:=HS.out.up (below_drewN (Below.refl _ _) nq)
  have b1:Below Z w1 (w1.drewN nq):=below_drewN (Below.refl _ _) nq
  clear d0 d1 d2 d3 d4 d5 d6 d7 hap HS
  generalize w1.drewN nq=w2 at *
  have HX1:Hid (Ext Z n E0 i0 w w2 Le1):=⟨HX.out.en,HX.out.be.trans b1⟩
  have hnc:=h1.m.nc
  have hgl:=h1.i.gle i hin
  have hfg:Lg1.getD i 0=(fn Lg1 i:Int):=fB h1.pg i
  obtain⟨k,hk⟩:∃ k,k=fn Lg1 i:=⟨_,rfl⟩
  rw[← hk] at hfg hgl
  have HK:Hid (k=fn Lg1 i):=hk
  have HFG:Hid (Lg1.getD i 0=(k:Int)):=hfg
  clear hk hfg HX
  by_cases hkl:k<(cs.getD i []).length
  ·have hlo:=hx.l1 i hin
   have hd:((k:Int)==((cs.getD i []).length:Int))=false:=by rw[beq_eq_false_iff_ne];omega
   obtain⟨rg,rc,a1,a2⟩:=h1.m.calls.at (v:=i) (k:=k) (by rw[hnc];exact hin) hkl
   obtain⟨d0,d1,d2,d3,d4,d5,d6,d7⟩:=h1.m.cells
   have g1:=h1.m.g.cell (show i<Lg1.length by rw[h1.m.ng];exact hin)
   rw[HFG.out] at g1
   have hxm:0≤(cs.getD i []).getD k 0∧(cs.getD i []).getD k 0<n:=hx.ok i hin _ (getD_memI hkl)
   obtain⟨x,hxe⟩:∃ x:Nat,(cs.getD i []).getD k 0=(x:Int):=⟨_,(Int.toNat_of_nonneg hxm.1).symm⟩
   rw[hxe] at a2 hxm
   have hxn:x<n:=by omega
   have HXE:Hid ((cs.getD i []).getD k 0=(x:Int)):=hxe
   generalize hrl:(cs.getD i []).length=rl at *
   have HRL:Hid ((cs.getD i []).length=rl):=hrl
   have H1:Hid (Sta w2 S kg ke kb kl cb ccap Z n cs (P++[i]) On Lg1 Le1 Lb1 Ll1 c1 (.slice (some ⟨gp,0,none⟩) (P.length+1) cp) vo1):=h1
   clear h1
   go_wp2_with fail
   go_quiet (fail)
   try rw[hd]
   clear d0 d1 d2 d3 d4 d5 d6 d7 g1 a1 a2
   have h3:=H1.out.up (below_drewN (Below.refl _ _) nq)
   have b3:Below Z w2 (w2.drewN nq):=below_drewN (Below.refl _ _) nq
   have HX3:Hid (Ext Z n E0 i0 w (w2.drewN nq) Le1):=⟨HX1.out.en,HX1.out.be.trans b3⟩
   generalize w2.drewN nq=w3 at *
   clear H1 HX1
   obtain⟨rg,rc,a1,a2⟩:=h3.m.calls.at (v:=i) (k:=k) (by rw[hnc];exact hin) (by rw[HRL.out];exact hkl)
   rw[HRL.out] at a1
   obtain⟨d0,d1,d2,d3,d4,d5,d6,d7⟩:=h3.m.cells
   have g1:=h3.m.g.cell (show i<Lg1.length by rw[h3.m.ng];exact hin)
   rw[HFG.out] at g1
   rw[HXE.out] at a2
   have hl1:=h3.m.e.cell (show x<Le1.length by rw[h3.m.ne];exact hxn)
   rw[fB h3.pe x] at hl1
   obtain⟨ex,hex⟩:∃ ex,ex=fn Le1 x:=⟨_,rfl⟩
   rw[← hex] at hl1
   have H3:Hid (Sta w3 S kg ke kb kl cb ccap Z n cs (P++[i]) On Lg1 Le1 Lb1 Ll1 c1 (.slice (some ⟨gp,0,none⟩) (P.length+1) cp) vo1):=h3
   clear h3
   go_wp2_with fail
   go_quiet (fail)
   have h4:=H3.out.up (below_drewN (Below.refl _ _) nq)
   have b4:Below Z w3 (w3.drewN nq):=below_drewN (Below.refl _ _) nq
   have HX4:Hid (Ext Z n E0 i0 w (w3.drewN nq) Le1):=⟨HX3.out.en,HX3.out.be.trans b4⟩
   clear d0 d1 d2 d3 d4 d5 d6 d7 g1 a1 a2 hl1
   generalize w3.drewN nq=w4 at *
   have hgk:fn Lg1 i<(aD cs i).length:=by rw[eF,HRL.out];have:=HK.out;omega
   have hgx:(aD cs i).getD (fn Lg1 i) 0=x:=by rw[oD,← HK.out,HXE.out];rfl
   have h1N:1≤N:=by have:=HMU.out;unfold mu at this;rw[List.length_append,List.length_singleton] at this;omega
   obtain⟨d0,d1,d2,d3,d4,d5,d6,d7⟩:=h4.m.cells
   have hl1:=h4.m.e.cell (show x<Le1.length by rw[h4.m.ne];exact hxn)
   rw[fB h4.pe x,← hex] at hl1
   have H4:Hid (Sta w4 S kg ke kb kl cb ccap Z n cs (P++[i]) On Lg1 Le1 Lb1 Ll1 c1 (.slice (some ⟨gp,0,none⟩) (P.length+1) cp) vo1):=h4
   have HEX:Hid (ex=fn Le1 x):=hex
   clear hex
   by_cases h00:ex=0
   ·subst h00
    clear h4 hd
    go_wp2
    refine wp_goto ?_
    exact⟨N-1,by omega,x,P++[i],On,Lg1,Le1,Lb1,Ll1,c1,_,vo1,AcF.mk,H4.out,HX4.out.be,fun v hv hk=>.inl (HX4.out.en v hv hk),hxn,HEX.out.symm,.inr ⟨P,i,rfl,hgk,hgx⟩,by rw[HMU.out];omega⟩
   ·have hd0:((ex:Int)==0)=false:=by rw[beq_eq_false_iff_ne];omega
    have hal:=along_any h4.m i k x hin HFG.out (by rw[HRL.out];exact hkl) HXE.out hxn (by omega) hcc
    have e1:((k:Int)+1)=((fn Lg1 i:Nat):Int)+1:=by rw[HK.out]
    rw[e1] at hal
    have HE1:Hid (fn Le1 x≠0):=by rw[← HEX.out];exact h00
    have HGK:Hid (fn Lg1 i<(aD cs i).length∧(aD cs i).getD (fn Lg1 i) 0=x):=⟨hgk,hgx⟩
    clear h4 hd e1 hgk hgx
    go_wp2_with fail
    refine hal.mono ?_
    rintro e w5 ⟨rfl,hm5,hb5⟩
    have h5:=H4.out.along hx rfl HGK.out.1 HGK.out.2 HE1.out hm5
    have HX5:Ext Z n E0 i0 w w5 Le1:=⟨HX4.out.en,HX4.out.be.trans hb5⟩
    have hlg:=H4.out.lens.1
    have hmu5:mu cs n (P++[i]) (Lg1.set i ((fn Lg1 i:Int)+1)) Le1<N:=by
     have q1:=HMU.out
     have q2:=jJ (aD cs) (fn Lg1) i HGK.out.1 n hin
     have q3:((fn Lg1 i:Int)+1).toNat=fn Lg1 i+1:=by omega
     unfold mu at q1 ⊢
     rw[fG (by omega),q3]
     omega
    clear hal hm5 H4
    go_wp2
    refine wp_goto ?_
    exact⟨_,hmu5,_,P,On,i,_,Le1,_,Ll1,c1,_,vo1,AcF.mk,h5,HX5,rfl⟩
  ·have hd:((k:Int)==((cs.getD i []).length:Int))=true:=by rw[beq_iff_eq];rw[eF] at hgl;omega
   obtain⟨ro,rc,a1,_⟩:=h1.m.calls.row i (by rw[hnc];exact hin)
   obtain⟨d0,d1,d2,d3,d4,d5,d6,d7⟩:=h1.m.cells
   have g1:=h1.m.g.cell (show i<Lg1.length by rw[h1.m.ng];exact hin)
   rw[HFG.out] at g1
   have H1:Hid (Sta w2 S kg ke kb kl cb ccap Z n cs (P++[i]) On Lg1 Le1 Lb1 Ll1 c1 (.slice (some ⟨gp,0,none⟩) (P.length+1) cp) vo1):=h1
   have HL:Hid (fn Lg1 i=(aD cs i).length):=by
    have e:=HK.out
    have e2:¬ k<(cs.getD i []).length:=hkl
    show fn Lg1 i=_
    rw[eF] at hgl ⊢
    omega
   have hmp:1≤N:=by have:=HMU.out;unfold mu at this;rw[List.length_append,List.length_singleton] at this;omega
   generalize hrl:(cs.getD i []).length=rl at *
   clear h1
   go_wp2_with fail
   go_quiet (fail)
   try rw[hd]
   clear d0 d1 d2 d3 d4 d5 d6 d7 g1 a1
   have h3:=H1.out.up (below_drewN (Below.refl _ _) nq)
   have b3:Below Z w2 (w2.drewN nq):=below_drewN (Below.refl _ _) nq
   have HX3:Ext Z n E0 i0 w (w2.drewN nq) Le1:=⟨HX1.out.en,HX1.out.be.trans b3⟩
   generalize w2.drewN nq=w3 at *
   go_wp2_with fail
   refine wp_goto ?_
   exact⟨N-1,by omega,P,On,i,Lg1,Le1,Lb1,Ll1,c1,_,vo1,AcF.mk,h3,HX3,HL.out,by rw[HMU.out];omega⟩
 ·intro fall
  rintro N a w1 ⟨j,Pn,On,Lg1,Le1,Lb1,Ll1,c1,vp1,vo1,⟨U,rfl⟩,hS,hbe,hen,hj,hn0,hc,hm0⟩
  obtain⟨ho1,hp1,hc1⟩:=hS.olen
  have hn1:=hx.n1
  have hev:=enter_any hS.m j hj (by omega) (by omega) (by rw[bz];omega) (by rw[bz];omega)
  have HS:Hid (Sta w1 S kg ke kb kl cb ccap Z n cs Pn On Lg1 Le1 Lb1 Ll1 c1 vp1 vo1):=hS
  have HEN:Hid (∀ v,v<n→E0 v≠0∨v=i0→fn Le1 v≠0∨v=j):=hen
  have HC:Hid (fn Le1 j=0∧(Pn=[]∨∃ P p,Pn=P++[p]∧fn Lg1 p<(aD cs p).length∧(aD cs p).getD (fn Lg1 p) 0=j)):=⟨hn0,hc⟩
  have HMU:Hid (mu cs n Pn Lg1 Le1=N+1):=hm0
  clear hS hen hn0 hc hm0
  go_wp2_with fail
  refine hev.mono ?_
  rintro e w2 ⟨rfl,⟨vp2,vo2,hm2⟩,hb2⟩
  have hS2:=HS.out.enter hj HC.out.1 HC.out.2 hm2
  have hlj:=HS.out.lens.2.1
  have hen2:Ext Z n E0 i0 w w2 (Le1.set j ((c1:Int)+1)):=⟨fun v hv hk=>by
   rw[fG (by omega)]
   by_cases e:v=j
   ·rw[e,upd_same];omega
   ·rw[upd_ne _ _ e]
    exact (HEN.out v hv hk).resolve_right e,hbe.trans hb2⟩
  have hmu2:mu cs n (Pn++[j]) Lg1 (Le1.set j ((c1:Int)+1))<N:=by
   have h1:=HMU.out
   have h2:=jB (fn Le1) j (c1+1) HC.out.1 (by omega) n hj
   have e:((c1:Int)+1).toNat=c1+1:=by omega
   unfold mu at h1 ⊢
   rw[fG (by omega),e,List.length_append,List.length_singleton]
   omega
  clear hev hm2 HS HEN HC HMU
  go_wp2
  refine wp_label ?_
  rename_i K hK
  exact hK _ _ (fall N _ _ _ ⟨_,Pn,On++[j],j,Lg1,_,_,Ll1,c1+1,vp2,vo2,AcF.mk,hS2,hen2,rfl⟩ hmu2)
 ·intro z0
  go_wp2
  refine wp_label ?_
  rename_i K hK
  exact hK _ _ (z0 N0 _ _ ⟨i0,[],[],Lg,Le,Lb,Ll,c,vp,vo,AcF.mk,HST.out,Below.refl _ _,fun v hv hk=>by rw[HE.out] at hk;exact hk,hi,h0,.inl rfl,HN0.out⟩)
end Gw
end Go.Proofs.YtimoappbefindaaGreat
