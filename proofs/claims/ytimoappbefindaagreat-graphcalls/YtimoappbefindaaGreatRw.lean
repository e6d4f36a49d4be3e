/-
  The region of the document's seen that draws its order; regions with memory, once for all.
-/
import Derived.Test.YtimoappbefindaaGreatUq
import Derived.Test.YtimoappbefindaaGreatUe
namespace Go.Proofs.YtimoappbefindaaGreat
open Go.RowKit Go.Maps
set_option maxRecDepth 100000
namespace Rv
theorem region3 {P:Program} {ops:Array Oper} {Q:Exit→Act→World→Prop} {a0:Act} {w0:World} (N:Nat) (dst:Nat→Option Nat) (V:Nat→Value) (J:(Nat→Bool)→World→Prop) (hN:ops.size=N) (hlow:∀ i,i<N→∀ j∈deps ops i,j<i) (hinj:∀ i,i<N→∀ j,j<N→j≠i→∀ s,dst i=some s→dst j≠some s) (hsz:∀ j,j<N→∀ s,dst j=some s→s<a0.tmps.size) (hw:J (fun _=>false) w0)
  (hstep:∀ d i a w,i<N→d i=false→(∀ j∈deps ops i,d j=true)→(∀ j,j<N→d j=true→∀ k∈deps ops j,d k=true)→Offs N dst a0 a→(∀ j,j<N→d j=false→∀ s,dst j=some s→ev a s=ev a0 s)→J d w→(∀ j∈deps ops i,∀ s,dst j=some s→ev a s=V j)→wpOp P ops Q i (fun a' w'=>a'=a.put (dst i) (V i)∧J (upd d i) w') a w)
  (hQ:∀ d a w,(∀ j,j<N→d j=true)→Offs N dst a0 a→J d w→(∀ j,j<N→∀ s,dst j=some s→ev a s=V j)→Q .normal a w):wpAny P .any ops Q N (Array.replicate N false) a0 w0:=by
 have hd0:(fun j=>(Array.replicate N false).getD j false)=fun _:Nat=>false:=by
  funext j
  by_cases h:j<N<;>simp[h]
 refine dx (fun l a w=>l.size=N∧Offs N dst a0 a∧J (fun j=>l.getD j false) w∧(∀ j,j<N→l.getD j false=true→∀ s,dst j=some s→ev a s=V j)∧(∀ j,j<N→l.getD j false=true→∀ k∈deps ops j,l.getD k false=true)∧(∀ j,j<N→l.getD j false=false→∀ s,dst j=some s→ev a s=ev a0 s)) ?_ ?_ N _ _ _ (by simp) ⟨by simp,⟨rfl,rfl,fun _ _=>rfl⟩,by rw[hd0];exact hw,?_,?_,fun _ _ _ _ _=>rfl⟩
 ·rintro l a w i hi ⟨hl,hO,hJ,hf,hcl,hun⟩
  obtain⟨hi1,hi2⟩:=bq hi
  rw[hN] at hi2
  have hdn:=dh hi
  have hi3:l.getD i false=false:=by
   have:=(bT hi1).1
   simp[this] at hi1 ⊢
   exact hi1
  refine wpOp_mono ?_ (hstep (fun j=>l.getD j false) i a w hi2 hi3 hdn hcl hO hun hJ fun j hj s hs=>hf j (by have:=hlow i hi2 j hj;omega) (hdn j hj) s hs)
  rintro a' w' ⟨rfl,hJ'⟩
  have hset:∀ j,(l.setIfInBounds i true).getD j false=upd (fun j=>l.getD j false) i j:=congrFun (bA l i (by omega))
  have hdj:∀ j,j≠i→(l.setIfInBounds i true).getD j false=l.getD j false:=fun j e=>by rw[hset];unfold upd;simp[e]
  have hii:(l.setIfInBounds i true).getD i false=true:=by rw[hset];unfold upd;simp
  have hput:∀ k,dst i≠some k→ev (a.put (dst i) (V i)) k=ev a k:=fun k hk=>by
   cases h:dst i with
   |none=>rfl
   |some s=>
    have hs:s<a.tmps.size:=by rw[hO.size];exact hsz i hi2 s h
    rw[dn a _ _ hs,if_neg (fun e=>hk (by rw[h,e]))]
  refine⟨by simp[hl],⟨?_,?_,fun k hk=>?_⟩,by rw[bA l i (by omega)];exact hJ',fun j hj hd s hs=>?_,fun j hj hd k hk=>?_,fun j hj hd s hs=>?_⟩
  ·cases dst i<;>exact hO.def_
  ·cases h:dst i with
   |none=>exact hO.size
   |some s=>rw[← hO.size];simp[Act.put]
  ·rw[hput k (hk i hi2)]
   exact hO.same k hk
  ·by_cases e:j=i
   ·subst e
    rw[hs,dn a _ _ (by rw[hO.size];exact hsz j hj s hs)]
    exact if_pos rfl
   ·rw[hput s (fun x=>hinj i hi2 j hj e s x hs)]
    exact hf j hj (by rw[← hdj j e];exact hd) s hs
  ·have h1:l.getD k false=true:=by
    by_cases e:j=i
    ·subst e;exact hdn k hk
    ·exact hcl j hj (by rw[← hdj j e];exact hd) k hk
   by_cases e:k=i
   ·subst e;exact hii
   ·rw[hdj k e];exact h1
  ·have e:j≠i:=fun e=>by subst e;rw[hii] at hd;cases hd
   rw[hput s (fun x=>hinj i hi2 j hj e s x hs)]
   exact hun j hj (by rw[← hdj j e];exact hd) s hs
 ·rintro l a w hr ⟨hl,hO,hJ,hf,_⟩
  have:=dN (by omega) (by rw[hN];exact hlow) hr
  rw[hN] at this
  exact hQ _ a w this hO hJ fun j hj s hs=>hf j hj (this j hj) s hs
 ·intro j hj hd
  simp[hj] at hd
 ·intro j hj hd
  simp[hj] at hd
section
variable {P:Program} {ops:Array Oper} {Q:Exit→Act→World→Prop} {i:Nat} {o:Oper} {a:Act} {w w1:World} {v:Value} {s:Option Nat} {J:World→Prop}
theorem run2 (ho:ops[i]?=some o) (hd:o.dst=s) (hw:Region.wanted o (yielded ops a.tmps)=true) (hr:(execOp a.eval o).run P w=.ok (.value v) w1) (hJ:J w1):wpOp P ops Q i (fun a' w'=>a'=a.put s v∧J w') a w:=by
 refine wp ho hw ?_
 unfold Oper.wp
 rw[hr]
 show a.put o.dst v=_∧_
 rw[hd]
 exact⟨rfl,hJ⟩
theorem call2 {f:Nat} {vs:Array Value} (ho:ops[i]?=some o) (hd:o.dst=s) (hw:Region.wanted o (yielded ops a.tmps)=true) (hr:(execOp a.eval o).run P w=.ok (.enter f vs) w)
  (hc:Calls P f vs w fun e w'=>e=.returned v∧J w'):wpOp P ops Q i (fun a' w'=>a'=a.put s v∧J w') a w:=by
 refine wp ho hw ?_
 unfold Oper.wp
 rw[hr,Oper.upon_enter]
 refine hc.mono ?_
 rintro e w' ⟨rfl,hb⟩
 show a.put o.dst v=_∧_
 rw[hd]
 exact⟨rfl,hb⟩
theorem skip2 (ho:ops[i]?=some o) (hd:o.dst=s) (hw:Region.wanted o (yielded ops a.tmps)=false) (hJ:J w):wpOp P ops Q i (fun a' w'=>a'=a.put s undef∧J w') a w:=by
 unfold wpOp
 rw[ho]
 show if Region.wanted o (yielded ops a.tmps)=true then _ else _
 rw[if_neg (by rw[hw];decide)]
 show a.put o.dst undef=_∧_
 rw[hd]
 exact⟨rfl,hJ⟩
end
end Rv
def ec0 : Oper := { dst := some 17, op := Op.move (Operand.tmp 5), type := 143, pos := "ref.go:55", after := #[], guard := none }
def ec1 : Oper := { dst := some 18, op := Op.load 58 (Operand.tmp 2), type := 58, pos := "ref.go:55", after := #[], guard := none }
def ec2 : Oper := { dst := some 19, op := Op.fieldAddr 58 (Operand.tmp 2) 0, type := 0, pos := "ref.go:55", after := #[], guard := none }
def ec3 : Oper := { dst := some 20, op := Op.load 54 (Operand.tmp 19), type := 54, pos := "ref.go:55", after := #[{ on := 2, ground := Ground.data }], guard := none }
def ec4 : Oper := { dst := some 21, op := Op.binOp BinOp.eql 54 (Operand.tmp 20) (Operand.const (Value.int IntKind.i64 6)) 54, type := 4, pos := "ref.go:55", after := #[{ on := 3, ground := Ground.data }], guard := none }
def ec5 : Oper := { dst := some 22, op := Op.move (Operand.tmp 21), type := 4, pos := "ref.go:55", after := #[{ on := 4, ground := Ground.data }], guard := none }
def ec6 : Oper := { dst := some 23, op := Op.move (Operand.tmp 1), type := 104, pos := "ref.go:55", after := #[{ on := 5, ground := Ground.guard }], guard := some (5, true) }
def ec7 : Oper := { dst := some 24, op := Op.fieldAddr 58 (Operand.tmp 2) 1, type := 0, pos := "ref.go:55", after := #[{ on := 5, ground := Ground.guard }], guard := some (5, true) }
def ec8 : Oper := { dst := some 25, op := Op.load 9 (Operand.tmp 24), type := 9, pos := "ref.go:55", after := #[{ on := 7, ground := Ground.data }, { on := 5, ground := Ground.guard }], guard := some (5, true) }
def ec9 : Oper := { dst := some 26, op := Op.call { callee := Callee.value (Operand.func 50), args := #[Operand.tmp 23, Operand.tmp 25], argTypes := #[104, 9] }, type := 4, pos := "ref.go:55", after := #[{ on := 6, ground := Ground.data }, { on := 8, ground := Ground.data }, { on := 5, ground := Ground.chain }, { on := 5, ground := Ground.guard }], guard := some (5, true) }
def ec10 : Oper := { dst := some 27, op := Op.unOp UnOp.not 4 (Operand.tmp 26), type := 4, pos := "ref.go:55", after := #[{ on := 9, ground := Ground.data }, { on := 5, ground := Ground.guard }], guard := some (5, true) }
def ec11 : Oper := { dst := some 28, op := Op.pick (Operand.tmp 22) (Operand.tmp 27) (Operand.const (Value.bool false)), type := 4, pos := "ref.go:55", after := #[{ on := 5, ground := Ground.data }, { on := 10, ground := Ground.data }], guard := none }
def ec12 : Oper := { dst := some 29, op := Op.build 146 #[(0, Operand.tmp 18), (1, Operand.tmp 28)], type := 146, pos := "ref.go:55", after := #[{ on := 1, ground := Ground.data }, { on := 11, ground := Ground.data }], guard := none }
def ec13 : Oper := { dst := some 30, op := Op.buildSlice 143 1 #[(0, Operand.tmp 29)], type := 143, pos := "ref.go:55", after := #[{ on := 12, ground := Ground.data }], guard := none }
def ec14 : Oper := { dst := some 31, op := Op.call { callee := Callee.builtin Builtin.append, args := #[Operand.tmp 17, Operand.tmp 30], argTypes := #[143, 143] }, type := 143, pos := "ref.go:55", after := #[{ on := 0, ground := Ground.data }, { on := 13, ground := Ground.data }, { on := 9, ground := Ground.chain }], guard := none }
def ec15 : Oper := { dst := some 5, op := Op.assign (Operand.tmp 31), type := 143, pos := "ref.go:55", after := #[{ on := 14, ground := Ground.data }, { on := 14, ground := Ground.chain }, { on := 0, ground := Ground.phase }, { on := 1, ground := Ground.phase }, { on := 2, ground := Ground.phase }, { on := 3, ground := Ground.phase }, { on := 4, ground := Ground.phase }, { on := 5, ground := Ground.phase }, { on := 6, ground := Ground.phase }, { on := 7, ground := Ground.phase }, { on := 8, ground := Ground.phase }, { on := 9, ground := Ground.phase }, { on := 10, ground := Ground.phase }, { on := 11, ground := Ground.phase }, { on := 12, ground := Ground.phase }, { on := 13, ground := Ground.phase }, { on := 14, ground := Ground.phase }], guard := none }
def iZ:Array Oper:=#[ec0,ec1,ec2,ec3,ec4,ec5,ec6,ec7,ec8,ec9,ec10,ec11,ec12,ec13,ec14,ec15]
def dsE (k:Nat):Option Nat:=if k=15 then some 5 else some (17+k)
section
variable (op:Int) (name tail:List UInt8) (v3 v4 v5 v6:Value) (an:Option Addr) (n cn b2:Nat) (hs:Bool) (H:Nat) (v':Value)
def VE:Nat→Value
 |0=>.slice none 0 0
 |1=>.agg #[.int .i64 op,.string (bs name),.string (bs tail),v3,v4,v5,v6]
 |2=>.pointer (some ⟨b2,0,none⟩)
 |3=>.int .i64 op
 |4=>.bool (op==6)
 |5=>.bool (op==6)
 |6=>if op=6 then .slice an n cn else undef
 |7=>if op=6 then .pointer (some ⟨b2,1,none⟩) else undef
 |8=>if op=6 then .string (bs name) else undef
 |9=>if op=6 then .bool hs else undef
 |10=>if op=6 then .bool (!hs) else undef
 |11=>.bool (decide (op=6)&&!hs)
 |12=>.agg #[.int .i64 op,.string (bs name),.string (bs tail),v3,v4,v5,v6,.bool (decide (op=6)&&!hs)]
 |13=>.slice (some ⟨H,0,none⟩) 1 1
 |14=>v'
 |_=>v'
end
section
variable {Q:Exit→Act→World→Prop} {W:World} {a0:Act}
set_option maxHeartbeats 4000000 in
theorem tZ {op:Int} {name tail:List UInt8} {v3 v4 v5 v6:Value} {an:Option Addr} {env:List (List UInt8)} {cn b2:Nat} {v':Value} {w':World} (hs:55≤a0.tmps.size)
  (e1:Rv.ev a0 1=.slice an env.length cn) (e2:Rv.ev a0 2=.pointer (some ⟨b2,0,none⟩)) (e5:Rv.ev a0 5=.slice none 0 0)
  (hL:Bk W b2 58 [.int .i64 op,.string (bs name),.string (bs tail),v3,v4,v5,v6]) (_hone:∀ v∈[v3,v4,v5,v6],v.oneCell'=true) (hN:Ns W an env) (hn:env.length≤1099511627776)
  (hR:(Builtin.append_ #[143,143] 143 #[.slice none 0 0,.slice (some ⟨W.heap.size,0,none⟩) 1 1]).run Tryz.prog (W.drew.alloc (.cells #[.int .i64 op,.string (bs name),.string (bs tail),v3,v4,v5,v6,.bool (decide (op=6)&&!decide (name∈env))] 146))=.ok v' w') (hB:Below W.heap.size W w')
  (hQ:∀ a,Rv.Offs 16 dsE a0 a→Rv.ev a 5=v'→Q .normal a w') :
  wpAny Tryz.prog .any iZ Q 16 (Array.replicate 16 false) a0 W.drew:=by
 obtain⟨fr,hfr⟩:∃ fr,fr=(decide (op=6)&&!decide (name∈env)):=⟨_,rfl⟩
 obtain⟨X,hX⟩:∃ X,X=W.drew.alloc (.cells #[.int .i64 op,.string (bs name),.string (bs tail),v3,v4,v5,v6,.bool (decide (op=6)&&!decide (name∈env))] 146):=⟨_,rfl⟩
 rw[← hX] at hR
 have hbX:Below W.heap.size W X:=by rw[hX];exact (Below.refl W.heap.size W).drew.alloc (Nat.le_refl _) _
 refine Rv.region3 16 dsE (VE op name tail v3 v4 v5 v6 an env.length cn b2 (decide (name∈env)) W.heap.size v')
  (fun d w=>(d 14=true∧d 13=true∧w=w')∨(d 14=false∧d 13=true∧w=X)∨(d 14=false∧d 13=false∧w=W.drew)) rfl (by decide) (by decide) (by intro j hj s h;unfold dsE at h;split at h<;>(cases h;omega)) (.inr (.inr ⟨rfl,rfl,rfl⟩)) ?_ ?_
 ·intro d i a w hi hdi hdd hcl hO hun hJ hv
  have hev:∀ j,a.eval (.tmp j)=Rv.ev a j:=fun _=>rfl
  have hcn:∀ v,a.eval (.const v)=v:=fun _=>rfl
  have hfn:∀ v,a.eval (.func v)=.func (.func v) #[] #[]:=fun _=>rfl
  have g1:Rv.ev a 1=.slice an env.length cn:=(hO.same 1 (by decide)).trans e1
  have g2:Rv.ev a 2=.pointer (some ⟨b2,0,none⟩):=(hO.same 2 (by decide)).trans e2
  have hBw:Below W.heap.size W w:=by
   rcases hJ with⟨_,_,rfl⟩|⟨_,_,rfl⟩|⟨_,_,rfl⟩
   ·exact hB
   ·exact hbX
   ·exact (Below.refl _ _).drew
  have hLw:=hL.up hBw
  obtain⟨k0,k1,k2,k3,k4,k5,k6⟩:=Bk.seven (show Bk w b2 58 [_,_,_,_,_,_,_] from hLw)
  have hsz:∀ k,k<55→k<a.tmps.size:=fun k hk=>by rw[hO.size];omega
  have keep:i≠13→i≠14→∀ w,((d 14=true∧d 13=true∧w=w')∨(d 14=false∧d 13=true∧w=X)∨(d 14=false∧d 13=false∧w=W.drew))→(Rv.upd d i 14=true∧Rv.upd d i 13=true∧w=w')∨(Rv.upd d i 14=false∧Rv.upd d i 13=true∧w=X)∨(Rv.upd d i 14=false∧Rv.upd d i 13=false∧w=W.drew):=by
   intro h1 h2 w h
   have u1:Rv.upd d i 14=d 14:=by unfold Rv.upd;simp[show ¬ 14=i from fun e=>h2 e.symm]
   have u2:Rv.upd d i 13=d 13:=by unfold Rv.upd;simp[show ¬ 13=i from fun e=>h1 e.symm]
   rw[u1,u2]
   exact h
  have h16:i=0∨i=1∨i=2∨i=3∨i=4∨i=5∨i=6∨i=7∨i=8∨i=9∨i=10∨i=11∨i=12∨i=13∨i=14∨i=15:=by omega
  rcases h16 with rfl|rfl|rfl|rfl|rfl|rfl|rfl|rfl|rfl|rfl|rfl|rfl|rfl|rfl|rfl|rfl
  ·have g5:Rv.ev a 5=.slice none 0 0:=(hun 15 (by decide) (by
    cases h:d 15 with
    |false=>rfl
    |true=>
     have:=hcl 15 (by decide) h 0 (by decide)
     rw[this] at hdi
     cases hdi) 5 rfl).trans e5
   exact Rv.run2 (o:=ec0) rfl rfl (Rv.want_free rfl) (by unfold ec0;simp only[execOp,hev,g5];rfl) (keep (by decide) (by decide) w hJ)
  ·refine Rv.run2 (o:=ec1) rfl rfl (Rv.want_free rfl) (by unfold ec1;simp only[execOp,hev,g2];go_simp<;>rfl) (keep (by decide) (by decide) w hJ)
  ·exact Rv.run2 (o:=ec2) rfl rfl (Rv.want_free rfl) (by unfold ec2;simp only[execOp,hev,g2];go_simp<;>rfl) (keep (by decide) (by decide) w hJ)
  ·have d2:Rv.ev a 19=.pointer (some ⟨b2,0,none⟩):=hv 2 (by decide) 19 rfl
   exact Rv.run2 (o:=ec3) rfl rfl (Rv.want_free rfl) (by unfold ec3;simp only[execOp,hev,d2];go_simp<;>rfl) (keep (by decide) (by decide) w hJ)
  ·have d3:Rv.ev a 20=.int .i64 op:=hv 3 (by decide) 20 rfl
   exact Rv.run2 (o:=ec4) rfl rfl (Rv.want_free rfl) (by unfold ec4;simp only[execOp,hev,hcn,d3];go_simp<;>rfl) (keep (by decide) (by decide) w hJ)
  ·have d4:Rv.ev a 21=.bool (op==6):=hv 4 (by decide) 21 rfl
   exact Rv.run2 (o:=ec5) rfl rfl (Rv.want_free rfl) (by unfold ec5;simp only[execOp,hev,d4];rfl) (keep (by decide) (by decide) w hJ)
  ·have d5:Rv.ev a 22=.bool (op==6):=hv 5 (by decide) 22 rfl
   by_cases h6:op=6
   ·have hwt:Region.wanted ec6 (yielded iZ a.tmps)=true:=by rw[Rv.want_if (o':=ec5) rfl rfl rfl (hsz 22 (by decide)) d5];simp[h6]
    rw[show VE op name tail v3 v4 v5 v6 an env.length cn b2 (decide (name∈env)) W.heap.size v' 6=.slice an env.length cn from if_pos h6]
    exact Rv.run2 (o:=ec6) rfl rfl hwt (by unfold ec6;simp only[execOp,hev,g1];rfl) (keep (by decide) (by decide) w hJ)
   ·have hwt:Region.wanted ec6 (yielded iZ a.tmps)=false:=by rw[Rv.want_if (o':=ec5) rfl rfl rfl (hsz 22 (by decide)) d5];simp[h6]
    rw[show VE op name tail v3 v4 v5 v6 an env.length cn b2 (decide (name∈env)) W.heap.size v' 6=undef from if_neg h6]
    exact Rv.skip2 (o:=ec6) rfl rfl hwt (keep (by decide) (by decide) w hJ)
  ·have d5:Rv.ev a 22=.bool (op==6):=hv 5 (by decide) 22 rfl
   by_cases h6:op=6
   ·have hwt:Region.wanted ec7 (yielded iZ a.tmps)=true:=by rw[Rv.want_if (o':=ec5) rfl rfl rfl (hsz 22 (by decide)) d5];simp[h6]
    rw[show VE op name tail v3 v4 v5 v6 an env.length cn b2 (decide (name∈env)) W.heap.size v' 7=.pointer (some ⟨b2,1,none⟩) from if_pos h6]
    exact Rv.run2 (o:=ec7) rfl rfl hwt (by unfold ec7;simp only[execOp,hev,g2];go_simp<;>rfl) (keep (by decide) (by decide) w hJ)
   ·have hwt:Region.wanted ec7 (yielded iZ a.tmps)=false:=by rw[Rv.want_if (o':=ec5) rfl rfl rfl (hsz 22 (by decide)) d5];simp[h6]
    rw[show VE op name tail v3 v4 v5 v6 an env.length cn b2 (decide (name∈env)) W.heap.size v' 7=undef from if_neg h6]
    exact Rv.skip2 (o:=ec7) rfl rfl hwt (keep (by decide) (by decide) w hJ)
  ·have d5:Rv.ev a 22=.bool (op==6):=hv 5 (by decide) 22 rfl
   by_cases h6:op=6
   ·have hwt:Region.wanted ec8 (yielded iZ a.tmps)=true:=by rw[Rv.want_if (o':=ec5) rfl rfl rfl (hsz 22 (by decide)) d5];simp[h6]
    rw[show VE op name tail v3 v4 v5 v6 an env.length cn b2 (decide (name∈env)) W.heap.size v' 8=.string (bs name) from if_pos h6]
    have d7:Rv.ev a 24=.pointer (some ⟨b2,1,none⟩):=(hv 7 (by decide) 24 rfl).trans (if_pos h6)
    exact Rv.run2 (o:=ec8) rfl rfl hwt (by unfold ec8;simp only[execOp,hev,d7];go_simp<;>rfl) (keep (by decide) (by decide) w hJ)
   ·have hwt:Region.wanted ec8 (yielded iZ a.tmps)=false:=by rw[Rv.want_if (o':=ec5) rfl rfl rfl (hsz 22 (by decide)) d5];simp[h6]
    rw[show VE op name tail v3 v4 v5 v6 an env.length cn b2 (decide (name∈env)) W.heap.size v' 8=undef from if_neg h6]
    exact Rv.skip2 (o:=ec8) rfl rfl hwt (keep (by decide) (by decide) w hJ)
  ·have d5:Rv.ev a 22=.bool (op==6):=hv 5 (by decide) 22 rfl
   by_cases h6:op=6
   ·have hwt:Region.wanted ec9 (yielded iZ a.tmps)=true:=by rw[Rv.want_if (o':=ec5) rfl rfl rfl (hsz 22 (by decide)) d5];simp[h6]
    rw[show VE op name tail v3 v4 v5 v6 an env.length cn b2 (decide (name∈env)) W.heap.size v' 9=.bool (decide (name∈env)) from if_pos h6]
    have d6:Rv.ev a 23=.slice an env.length cn:=(hv 6 (by decide) 23 rfl).trans (if_pos h6)
    have d8:Rv.ev a 25=.string (bs name):=(hv 8 (by decide) 25 rfl).trans (if_pos h6)
    refine Rv.call2 (o:=ec9) (f:=50) (vs:=#[.slice an env.length cn,.string (bs name)]) rfl rfl hwt ?_ ((iA (hN.up hBw) (Nat.le_trans hn (by decide)) name).mono ?_)
    ·unfold ec9
     simp only[execOp,resolve,invoke,Sem.run_bind,List.map_toArray,List.map_cons,List.map_nil,hev,hfn,d6,d8]
     go_simp
    ·rintro e w2 ⟨rfl,rfl⟩
     exact⟨rfl,keep (by decide) (by decide) _ hJ⟩
   ·have hwt:Region.wanted ec9 (yielded iZ a.tmps)=false:=by rw[Rv.want_if (o':=ec5) rfl rfl rfl (hsz 22 (by decide)) d5];simp[h6]
    rw[show VE op name tail v3 v4 v5 v6 an env.length cn b2 (decide (name∈env)) W.heap.size v' 9=undef from if_neg h6]
    exact Rv.skip2 (o:=ec9) rfl rfl hwt (keep (by decide) (by decide) w hJ)
  ·have d5:Rv.ev a 22=.bool (op==6):=hv 5 (by decide) 22 rfl
   by_cases h6:op=6
   ·have hwt:Region.wanted ec10 (yielded iZ a.tmps)=true:=by rw[Rv.want_if (o':=ec5) rfl rfl rfl (hsz 22 (by decide)) d5];simp[h6]
    rw[show VE op name tail v3 v4 v5 v6 an env.length cn b2 (decide (name∈env)) W.heap.size v' 10=.bool (!decide (name∈env)) from if_pos h6]
    have d9:Rv.ev a 26=.bool (decide (name∈env)):=(hv 9 (by decide) 26 rfl).trans (if_pos h6)
    exact Rv.run2 (o:=ec10) rfl rfl hwt (by unfold ec10;simp only[execOp,hev,d9];go_simp<;>rfl) (keep (by decide) (by decide) w hJ)
   ·have hwt:Region.wanted ec10 (yielded iZ a.tmps)=false:=by rw[Rv.want_if (o':=ec5) rfl rfl rfl (hsz 22 (by decide)) d5];simp[h6]
    rw[show VE op name tail v3 v4 v5 v6 an env.length cn b2 (decide (name∈env)) W.heap.size v' 10=undef from if_neg h6]
    exact Rv.skip2 (o:=ec10) rfl rfl hwt (keep (by decide) (by decide) w hJ)
  ·have d5:Rv.ev a 22=.bool (op==6):=hv 5 (by decide) 22 rfl
   by_cases h6:op=6
   ·have d10:Rv.ev a 27=.bool (!decide (name∈env)):=(hv 10 (by decide) 27 rfl).trans (if_pos h6)
    rw[show VE op name tail v3 v4 v5 v6 an env.length cn b2 (decide (name∈env)) W.heap.size v' 11=.bool (!decide (name∈env)) by show Value.bool (decide (op=6)&&!decide (name∈env))=_;rw[decide_eq_true h6,Bool.true_and]]
    rw[show (op==6)=true by simpa using h6] at d5
    exact Rv.run2 (o:=ec11) rfl rfl (Rv.want_free rfl) (by unfold ec11;simp only[execOp,hev,hcn,d5,d10];go_simp<;>rfl) (keep (by decide) (by decide) w hJ)
   ·rw[show VE op name tail v3 v4 v5 v6 an env.length cn b2 (decide (name∈env)) W.heap.size v' 11=.bool false by show Value.bool (decide (op=6)&&!decide (name∈env))=_;rw[decide_eq_false h6,Bool.false_and]]
    rw[show (op==6)=false by simpa using h6] at d5
    exact Rv.run2 (o:=ec11) rfl rfl (Rv.want_free rfl) (by unfold ec11;simp only[execOp,hev,hcn,d5];go_simp<;>rfl) (keep (by decide) (by decide) w hJ)
  ·have d1:Rv.ev a 18=.agg #[.int .i64 op,.string (bs name),.string (bs tail),v3,v4,v5,v6]:=hv 1 (by decide) 18 rfl
   have d11:Rv.ev a 28=.bool (decide (op=6)&&!decide (name∈env)):=hv 11 (by decide) 28 rfl
   exact Rv.run2 (o:=ec12) rfl rfl (Rv.want_free rfl) (by unfold ec12;simp only[execOp,List.map_toArray,List.map_cons,List.map_nil,hev,d1,d11];go_simp<;>rfl) (keep (by decide) (by decide) w hJ)
  ·have d12:Rv.ev a 29=.agg #[.int .i64 op,.string (bs name),.string (bs tail),v3,v4,v5,v6,.bool (decide (op=6)&&!decide (name∈env))]:=hv 12 (by decide) 29 rfl
   have hw:d 14=false∧w=W.drew:=by
    rcases hJ with⟨_,h,_⟩|⟨_,h,_⟩|⟨h,_,e⟩
    ·rw[hdi] at h;cases h
    ·rw[hdi] at h;cases h
    ·exact⟨h,e⟩
   obtain⟨h14,rfl⟩:=hw
   refine Rv.run2 (w1:=X) (o:=ec13) rfl rfl (Rv.want_free rfl) ?_ (.inr (.inl ⟨h14,rfl,rfl⟩))
   unfold ec13
   simp only[execOp,List.map_toArray,List.map_cons,List.map_nil,hev,d12]
   rw[hX]
   go_simp<;>rfl
  ·have d0:Rv.ev a 17=.slice none 0 0:=hv 0 (by decide) 17 rfl
   have d13:Rv.ev a 30=.slice (some ⟨W.heap.size,0,none⟩) 1 1:=hv 13 (by decide) 30 rfl
   have h13:d 13=true:=hdd 13 (by decide)
   have hw:w=X:=by
    rcases hJ with⟨h,_,_⟩|⟨_,_,e⟩|⟨_,h,_⟩
    ·rw[hdi] at h;cases h
    ·exact e
    ·rw[h13] at h;cases h
   subst hw
   refine Rv.run2 (w1:=w') (o:=ec14) rfl rfl (Rv.want_free rfl) ?_ (.inl ⟨rfl,h13,rfl⟩)
   unfold ec14
   simp only[execOp,resolve,invoke,builtin,Sem.run_bind,Sem.run_pure,Result.andThen_ok,List.map_toArray,List.map_cons,List.map_nil,hev,d0,d13,hR]
   rfl
  ·have d14:Rv.ev a 31=v':=hv 14 (by decide) 31 rfl
   exact Rv.run2 (o:=ec15) rfl rfl (Rv.want_free rfl) (by unfold ec15;simp only[execOp,hev,d14];rfl) (keep (by decide) (by decide) w hJ)
 ·intro d a w hd hO hJ hv
  rcases hJ with⟨_,_,rfl⟩|⟨h,_⟩|⟨h,_⟩
  ·exact hQ a hO (hv 15 (by decide) 5 rfl)
  ·rw[hd 14 (by decide)] at h;cases h
  ·rw[hd 14 (by decide)] at h;cases h
end
end Go.Proofs.YtimoappbefindaaGreat
