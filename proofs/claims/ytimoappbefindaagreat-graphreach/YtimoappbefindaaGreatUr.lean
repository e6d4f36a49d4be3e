/-
  3 texts in one: what each proves stands at its head.
-/
import Derived.Test.YtimoappbefindaaGreatRw
import Derived.Deep.RegionWith
namespace Go.Proofs.YtimoappbefindaaGreat
open Go.RowKit Go.Maps
set_option maxRecDepth 100000
section
variable (env:List (List UInt8)) (op:Int) (name tail:List UInt8)
end
structure Kx (S:TypeId→Prop) (B:Nat) (w w':World):Prop where
 os:w'.os=w.os
 tape:w'.tape=w.tape
 output:w'.output=w.output
 size:w.heap.size≤w'.heap.size
 block:∀ k,k<w.heap.size→(k<B∨∀ cs T m,w.heap[k]?=some (.cells cs T m)→¬ S T)→w'.heap[k]?=w.heap[k]?
section
variable {S S':TypeId→Prop} {B:Nat} {w w' w'':World}
theorem Kx.refl (S:TypeId→Prop) (B:Nat) (w:World):Kx S B w w:=⟨rfl,rfl,rfl,Nat.le_refl _,fun _ _ _=>rfl⟩
theorem Kx.trans (h:Kx S B w w') (k:Kx S B w' w''):Kx S B w w'':=
 ⟨k.os.trans h.os,k.tape.trans h.tape,k.output.trans h.output,Nat.le_trans h.size k.size,fun b hb hc=>by
  have e:=h.block b hb hc
  refine (k.block b (Nat.lt_of_lt_of_le hb h.size) ?_).trans e
  rw[e]
  exact hc⟩
theorem Kx.mono (h:Kx S B w w') (hs:∀ t,S t→S' t):Kx S' B w w':=⟨h.os,h.tape,h.output,h.size,fun b hb hc=>h.block b hb (hc.imp id fun k cs T m e hS=>k cs T m e (hs T hS))⟩
theorem Kx.below (h:Kx S B w w') (hB:B≤w.heap.size):Below B w w':=⟨h.os,h.tape,h.output,h.size,fun b hb=>h.block b (by omega) (.inl hb)⟩
theorem own_blk {e:TypeId} {size n:Nat} {v:Value} {xs:List Value} (h:w.ownsRow B e size v n xs):∀ k,v.ownBlock=some k→B≤k∧∃ cur,w.heap[k]?=some (.cells cur e (0,0)):=by
 intro k hk
 rcases h.2 with⟨rfl,_⟩|⟨g,cap,cur,rfl,h2,h3,_⟩
 ·simp[Value.ownBlock] at hk
 ·simp only[Value.ownBlock,Option.some.injEq] at hk
  subst hk
  exact⟨h2,cur,h3⟩
theorem Kx.own (h:Kx S B w w') {B':Nat} {e:TypeId} {size n:Nat} {v:Value} {xs:List Value} (ho:w.ownsRow B' e size v n xs) (ht:¬ S e):w'.ownsRow B' e size v n xs:=bu ho fun b hb=>by
 obtain⟨_,cur,hc⟩:=own_blk ho b hb
 exact h.block b (Array.getElem?_eq_some_iff.1 hc).1 (.inr fun cs T m e'=>by rw[hc] at e';cases e';exact ht)
theorem Kx.fl (h:Kx S B w w') {A:Nat→Prop} {ao:Option Addr} {gs:List Fn1} (hF:FlW w A ao gs) (hA:∀ k,A k→k<B):FlW w' A ao gs:=hF.keep2 h.size fun b hb hl=>h.block b hl (.inl (hA b hb))
theorem Kx.pl (h:Kx S B w w') {A:Nat→Prop} {ao:Option Addr} {ps:List Pm} (hP:PlW w A ao ps) (hA:∀ k,A k→k<B):PlW w' A ao ps:=hP.keep h.size fun b hb hl=>h.block b hl (.inl (hA b hb))
end
def ftC (fs:List (Int × Int)):List Value:=fs.flatMap fun f=>[.int .i64 f.1,.int .i64 f.2]
theorem jh (f:Int × Int) (fs:List (Int × Int)):ftC (f::fs)=.int .i64 f.1::.int .i64 f.2::ftC fs:=by simp[ftC]
theorem nC:∀ fs:List (Int × Int),(ftC fs).length=fs.length*2
 |[]=>rfl
 |f::fs=>by rw[jh,List.length_cons,List.length_cons,nC fs,List.length_cons];omega
theorem mW:∀ (fs:List (Int × Int)) (k:Nat),k<fs.length→(ftC fs)[k*2]?=some (.int .i64 (fs.getD k (0,0)).1)∧(ftC fs)[k*2+1]?=some (.int .i64 (fs.getD k (0,0)).2)
 |[],k,h=>by simp at h
 |f::fs,0,_=>by rw[jh];exact⟨rfl,rfl⟩
 |f::fs,k+1,h=>by
  rw[jh,show (k+1)*2=k*2+1+1 by omega,List.getElem?_cons_succ,List.getElem?_cons_succ,List.getElem?_cons_succ,List.getElem?_cons_succ,List.getD_cons_succ]
  exact mW fs k (by simpa using h)
def FtW (w:World) (B:Nat) (v:Value) (fs:List (Int × Int)):Prop:=w.ownsRow B 49 2 v fs.length (ftC fs)
theorem FtW.nil (w:World) (B:Nat):FtW w B (.slice none 0 0) []:=World.ownsRow_nil _ _ _ _
theorem FtW.row {w:World} {B:Nat} {v:Value} {fs:List (Int × Int)} (h:FtW w B v fs):∃ ao cap,v=.slice ao fs.length cap∧∀ k,k<fs.length→∃ g,ao=some ⟨g,0,none⟩∧w.cell? ⟨g,k*2,none⟩=some (.int .i64 (fs.getD k (0,0)).1)∧w.cell? ⟨g,k*2+1,none⟩=some (.int .i64 (fs.getD k (0,0)).2):=by
 have ho:w.ownsRow B 49 2 v fs.length (ftC fs):=h
 rcases ho.2 with⟨rfl,h0⟩|⟨g,c,cur,rfl,hb,hg,h1,h2,h3,h4⟩
 ·have e:=List.length_eq_zero_iff.1 h0
  subst e
  exact⟨none,0,rfl,fun k hk=>by simp at hk⟩
 ·refine⟨_,c,rfl,fun k hk=>⟨g,rfl,?_⟩⟩
  have hc:∀ j u,(ftC fs)[j]?=some u→w.cell? ⟨g,j,none⟩=some u:=fun j u hj=>by
   have hl:j<(ftC fs).length:=(List.getElem?_eq_some_iff.1 hj).1
   have h5:(cur.toList.take (fs.length*2))[j]?=some u:=by rw[h4];exact hj
   rw[List.getElem?_take_of_lt (by rw[← nC];exact hl)] at h5
   unfold World.cell?
   simp only[hg]
   simpa using h5
  have:=mW fs k hk
  exact⟨hc _ _ this.1,hc _ _ this.2⟩
def yd:Ex × Bool:=(ed,false)
theorem pK {w:World} {A:Nat→Prop}:∀ {ys:List (Ex × Bool)} {cs:List Value},snC w A ys cs→∀ k,k<ys.length→∃ us,(∀ j u,us[j]?=some u→cs[k*8+j]?=some u)∧cs[k*8+7]?=some (.bool (ys.getD k yd).2)∧ExW w A (ys.getD k yd).1 us
 |[],_,_,k,h=>by simp at h
 |y::ys,cs,h,0,_=>by
  obtain⟨us,es,rfl,h1,h2⟩:=h
  have hl:=h1.len
  refine⟨us,fun j u hj=>?_,?_,h1⟩
  ·have:=(List.getElem?_eq_some_iff.1 hj).1
   rw[Nat.zero_mul,Nat.zero_add,List.getElem?_append_left this]
   exact hj
  ·rw[Nat.zero_mul,Nat.zero_add,List.getElem?_append_right (by omega),hl]
   rfl
 |y::ys,cs,h,k+1,hk=>by
  obtain⟨us,es,rfl,h1,h2⟩:=h
  have hl:=h1.len
  obtain⟨vs,g1,g2,g3⟩:=pK h2 k (by simpa using hk)
  have e:∀ j,(us++(Value.bool y.2::es))[(k+1)*8+j]?=es[k*8+j]?:=fun j=>by
   rw[List.getElem?_append_right (by omega),show (k+1)*8+j-us.length=(k*8+j)+1 by omega,List.getElem?_cons_succ]
  exact⟨vs,fun j u hj=>by rw[e];exact g1 j u hj,by rw[e];exact g2,g3⟩
theorem SnW.at {w:World} {A:Nat→Prop} {B:Nat} {v:Value} {ys:List (Ex × Bool)} (h:SnW w A B v ys):∃ ao cap,v=.slice ao ys.length cap∧∀ k,k<ys.length→∃ g us,ao=some ⟨g,0,none⟩∧w.rangeAt g (k*8) us∧w.cell? ⟨g,k*8+7,none⟩=some (.bool (ys.getD k yd).2)∧ExW w A (ys.getD k yd).1 us:=by
 obtain⟨ao,cap,rfl,hr⟩:=h.row
 refine⟨ao,cap,rfl,fun k hk=>?_⟩
 rcases hr with⟨_,_,rfl⟩|⟨g,ds,rfl,_,_,hd,hc⟩
 ·simp at hk
 ·obtain⟨us,h1,h2,h3⟩:=pK hd k hk
  exact⟨g,us,rfl,fun j u hj=>hc _ _ (h1 j u hj),hc _ _ h2,h3⟩
/-! The faults, plainly. -/
end Go.Proofs.YtimoappbefindaaGreat
