/-
  4 texts in one: what each proves stands at its head.
-/
import Derived.Test.YtimoappbefindaaGreatUG
import Derived.Lib.SlBytesConst
import Derived.RegionTactic
import Derived.Laws.AppendOwnNone
namespace Go.Proofs.YtimoappbefindaaGreat
open Go.RowKit
set_option maxRecDepth 100000
def md:Mk:=⟨0,[],0,0,0⟩
def M4 (w:World) (b o:Nat) (m:Mk):Prop:=
 w.cell? ⟨b,o,none⟩=some (.int .i64 m.kind)∧w.cell? ⟨b,o+1,none⟩=some (.string (bs m.text))∧w.cell? ⟨b,o+2,none⟩=some (.complex .f64 (fl m.p) (fl m.q))∧w.cell? ⟨b,o+3,none⟩=some (.int .i64 m.at_)
structure Mr (w:World) (ao:Option Addr) (ms:List Mk):Prop where
 pl:ms≠[]→∃ b off,ao=some ⟨b,off,none⟩∧∀ t,t<ms.length→M4 w b (off+t*4) (ms.getD t md)
theorem Mr.nil (w:World) (ao:Option Addr):Mr w ao []:=⟨fun h=>absurd rfl h⟩
theorem M4.to {w w':World} {b o B:Nat} {m:Mk} (h:M4 w b o m) (hl:b<B) (hb:Below B w w'):M4 w' b o m:=
 ⟨(hb.cell hl).trans h.1,(hb.cell hl).trans h.2.1,(hb.cell hl).trans h.2.2.1,(hb.cell hl).trans h.2.2.2⟩
theorem M4.lt {w:World} {b o:Nat} {m:Mk} (h:M4 w b o m):b<w.heap.size:=cu h.1
theorem Mr.at {w:World} {b off:Nat} {ms:List Mk} (h:Mr w (some ⟨b,off,none⟩) ms):∀ t,t<ms.length→M4 w b (off+t*4) (ms.getD t md):=by
 intro t ht
 obtain⟨b',off',e',hc⟩:=h.pl (by intro e;rw[e] at ht;simp at ht)
 simp only[Option.some.injEq,Addr.mk.injEq,and_true] at e'
 obtain⟨rfl,rfl⟩:=e'
 exact hc t ht
theorem iK:∀ (ms:List Mk) (i j:Nat),i<ms.length→j<4→(mksC ms)[i*4+j]?=(mkC (ms.getD i md))[j]?:=by
 intro ms
 induction ms with
 |nil=>intro i j h;simp at h
 |cons m ms ih=>
  intro i j h hj
  have e:mksC (m::ms)=mkC m++mksC ms:=rfl
  have hl:(mkC m).length=4:=rfl
  rw[e]
  cases i with
  |zero=>rw[Nat.zero_mul,Nat.zero_add,List.getElem?_append_left (by omega)];rfl
  |succ i=>
   rw[List.getElem?_append_right (by omega),hl,show (i+1)*4+j-4=i*4+j by omega,ih i j (by simpa using h) hj]
   rfl
theorem owns_cell {w:World} {B g c n:Nat} {xs:List Value} (h:w.ownsRow B 135 4 (.slice (some ⟨g,0,none⟩) n c) n xs):∀ j v,xs[j]?=some v→w.cell? ⟨g,j,none⟩=some v:=by
 intro j v hj
 rcases h.2 with⟨h',_⟩|⟨g',cap',cur,h',hb,hg,_,_,hs,htake⟩
 ·simp at h'
 ·simp only[Value.slice.injEq,Option.some.injEq,Addr.mk.injEq,and_true,true_and] at h'
  obtain⟨rfl,rfl⟩:=h'
  rw[cell_of_row w g j _ _ _ hg]
  have hjl:j<xs.length:=(List.getElem?_eq_some_iff.1 hj).1
  rw[h.1] at hjl
  have e:cur[j]?=(cur.toList.take (n*4))[j]?:=by rw[List.getElem?_take,if_pos hjl];simp
  rw[e,htake,hj]
theorem Mr.of {w:World} {B g c:Nat} {ms:List Mk} (h:w.ownsRow B 135 4 (.slice (some ⟨g,0,none⟩) ms.length c) ms.length (mksC ms)):Mr w (some ⟨g,0,none⟩) ms:=by
 refine⟨fun _=>⟨g,0,rfl,fun t ht=>?_⟩⟩
 have hc:=owns_cell h
 rw[Nat.zero_add]
 refine⟨hc _ _ ?_,hc _ _ ?_,hc _ _ ?_,hc _ _ ?_⟩
 ·rw[show t*4=t*4+0 from rfl,iK ms t 0 ht (by omega)];rfl
 ·rw[iK ms t 1 ht (by omega)];rfl
 ·rw[iK ms t 2 ht (by omega)];rfl
 ·rw[iK ms t 3 ht (by omega)];rfl
theorem owns_ge {w:World} {B g c n:Nat} {xs:List Value} (h:w.ownsRow B 135 4 (.slice (some ⟨g,0,none⟩) n c) n xs):B≤g:=by
 rcases h.2 with⟨h',_⟩|⟨g',cap',cur,h',hb,_⟩
 ·simp at h'
 ·simp only[Value.slice.injEq,Option.some.injEq,Addr.mk.injEq,and_true,true_and] at h'
  omega
def ms1:List Mk:=[⟨0,[97],0,0,0⟩,⟨3,[45,62],0,0,1⟩,⟨2,[51,105],0,3,3⟩,⟨4,[],0,0,9⟩]
theorem Bd.new (w:World) (l:List UInt8) (t:TypeId) (fz:Nat × Nat):Bd (w.alloc (.cells (l.map fun c=>Value.int .u8 (c.toNat:Int)).toArray t fz)) (some ⟨w.heap.size,0,none⟩) l:=by
 refine⟨fun _=>⟨w.heap.size,0,rfl,fun j hj=>?_⟩⟩
 rw[Nat.zero_add,cell_of_row _ _ j _ _ _ (heap_alloc_new w _)]
 simp[List.getD_eq_getElem?_getD,hj]
theorem ny:∀ l k ms,cut rdN l k=.ok ms→ms.length≤l.length+1:=by
 refine qF rdN ?_ ?_ ?_ ?_
 ·intro k ms h;cases h;simp
 ·intro l k h ms e;rw[mQ rdN h] at e;cases e
 ·intro l k n h ih ms e;rw[iN rdN h] at e;have:=ih ms e;rw[List.length_drop] at this;omega
 ·intro l k m h ih ms e
  obtain⟨h1,h2,_⟩:=gB rdN h
  rw[kC rdN h] at e
  cases hc':cut rdN (l.drop m.text.length) (k+m.text.length) with
  |bad j=>rw[hc'] at e;cases e
  |ok ms'=>
   rw[hc'] at e
   cases e
   have:=ih ms' hc'
   rw[List.length_drop] at this
   simp
   omega
theorem wpList_append_run {P:Program} {w:World} {ops:Array Oper} {rest:List Oper} {o:Oper} {a:Act} {Q:Exit→Act→World→Prop} (hgd:o.guard=none) (s x:Operand) (t:TypeId)
  (ho:o.op=.call { callee:=.builtin .append,args:=#[s,x],argTypes:=#[t,t] }) (hty:o.type=t) (v u:Value) (hs:a.eval s=v) (hx:a.eval x=u)
  (v':Value) (w':World) (hrun:(Builtin.append_ #[t,t] t #[v,u]).run P w=.ok v' w') (h:wpList P ops Q rest (a.put o.dst v') w'):wpList P ops Q (o::rest) a w:=by
 refine wpList_plain hgd fun K hK=>?_
 rw[← hty] at hrun
 unfold Oper.wp
 rw[hty] at hrun
 simp only[execOp,ho,resolve,invoke,builtin,Sem.run_bind,Sem.run_pure,Result.andThen_ok,List.map_toArray,List.map_cons,List.map_nil,hs,hx,hty,hrun]
 exact hK _ _ h
end Go.Proofs.YtimoappbefindaaGreat
