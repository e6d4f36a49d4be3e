/-
  6 texts in one: what each proves stands at its head.
-/
import Derived.Test.YtimoappbefindaaGreatUI
import Derived.Test.YtimoappbefindaaGreatUA
import Derived.Test.YtimoappbefindaaGreatUK
namespace Go.Proofs.YtimoappbefindaaGreat
set_option maxHeartbeats 4000000
open Go.RowKit
set_option maxRecDepth 100000
structure Rq (I:Rdi) (w:World) (R k:Nat) (y a d:Int):Prop where
 blk:Bk w R 92 [.slice (some ⟨I.b,I.off,none⟩) I.n I.cap,.int .i64 k,.int .i64 y,.int .i64 a,.int .i64 I.lt,.int .i64 I.lf,.int .i64 I.la,.int .i64 I.ln,.int .i64 d]
 ms:∀ t,t<I.n→M4 w I.b (I.off+t*4) (I.M t)
 ne:I.b≠R
 kn:k<I.n
 small:I.n≤2000000
section
variable {I:Rdi} {w w':World} {R k:Nat} {y a d:Int}
theorem Rq.but {g:Nat} (h:Rq I w R k y a d) (hb:But g w w') (hR:R≠g) (hI:I.b≠g):Rq I w' R k y a d:=⟨h.blk.but hb hR,fun t ht=>(h.ms t ht).but hb hI,h.ne,h.kn,h.small⟩
theorem Rq.up (h:Rq I w R k y a d) (hb:Below w.heap.size w w'):Rq I w' R k y a d:=⟨h.blk.up hb,fun t ht=>(h.ms t ht).but (bN hb R) h.ne,h.ne,h.kn,h.small⟩
theorem Rq.oth {g:Nat} (h:Rq I w R k y a d) (ho:Oth g w w') (hR:R<g) (hb:I.b<g):Rq I w' R k y a d:=by
 refine⟨h.blk.oth ho (by omega),fun t ht=>?_,h.ne,h.kn,h.small⟩
 obtain⟨m1,m2,m3,m4⟩:=h.ms t ht
 exact⟨(ho.cell (by show I.b≠g;omega)).trans m1,(ho.cell (by show I.b≠g;omega)).trans m2,(ho.cell (by show I.b≠g;omega)).trans m3,(ho.cell (by show I.b≠g;omega)).trans m4⟩
theorem Rq.lt (h:Rq I w R k y a d):R<w.heap.size∧I.b<w.heap.size:=⟨h.blk.lt,(h.ms k h.kn).lt⟩
theorem Rq.ups (h:Rq I w R k y a d) {j:Nat} (v:Value) {k':Nat} {y' a' d':Int} (hk:k'<I.n)
  (e:[Value.slice (some ⟨I.b,I.off,none⟩) I.n I.cap,.int .i64 k,.int .i64 y,.int .i64 a,.int .i64 I.lt,.int .i64 I.lf,.int .i64 I.la,.int .i64 I.ln,.int .i64 d].set j v=[.slice (some ⟨I.b,I.off,none⟩) I.n I.cap,.int .i64 k',.int .i64 y',.int .i64 a',.int .i64 I.lt,.int .i64 I.lf,.int .i64 I.la,.int .i64 I.ln,.int .i64 d']) :
  Rq I (w.setCell ⟨R,j,none⟩ v) R k' y' a' d':=by
 refine⟨?_,fun t ht=>(h.ms t ht).but ((But.refl R w).setR _) h.ne,h.ne,hk,h.small⟩
 have:=h.blk.set j v
 rwa[e] at this
theorem Rq.go (h:Rq I w R k y a d) (j:Nat) (hj:j<I.n):Rq I (w.setCell ⟨R,1,none⟩ (.int .i64 j)) R j y a d:=h.ups _ hj rfl
theorem Rq.why (h:Rq I w R k y a d) (v:Int):Rq I (w.setCell ⟨R,2,none⟩ (.int .i64 v)) R k v a d:=h.ups _ h.kn rfl
theorem Rq.where_ (h:Rq I w R k y a d) (v:Int):Rq I (w.setCell ⟨R,3,none⟩ (.int .i64 v)) R k y v d:=h.ups _ h.kn rfl
theorem Rq.nest (h:Rq I w R k y a d) (v:Int):Rq I (w.setCell ⟨R,8,none⟩ (.int .i64 v)) R k y a v:=h.ups _ h.kn rfl
theorem Rq.nine (h:Rq I w R k y a d):w.cell? ⟨R,0,none⟩=some (.slice (some ⟨I.b,I.off,none⟩) I.n I.cap)∧w.cell? ⟨R,1,none⟩=some (.int .i64 k)∧w.cell? ⟨R,2,none⟩=some (.int .i64 y)∧w.cell? ⟨R,3,none⟩=some (.int .i64 a) ∧
  w.cell? ⟨R,5,none⟩=some (.int .i64 I.lf)∧w.cell? ⟨R,6,none⟩=some (.int .i64 I.la)∧w.cell? ⟨R,7,none⟩=some (.int .i64 I.ln)∧w.cell? ⟨R,8,none⟩=some (.int .i64 d):=
 ⟨h.blk.cell 0,h.blk.cell 1,h.blk.cell 2,h.blk.cell 3,h.blk.cell 5,h.blk.cell 6,h.blk.cell 7,h.blk.cell 8⟩
end
def St (I:Rdi) (w:World) (R:Nat) (d:Int) {α:Type}:Rs α→Prop
 |.ok _ k=>Rq I w R k 0 0 d
 |.bad y j=>y≠0∧∃ (k:Nat) (d':Int),Rq I w R k y (I.M j).at_ d'
 |.out=>False
def nx {α β:Type} (q:Rs α) (X:Nat→Rs β):Rs β:=q.bind fun _ k=>X k
def Got {α:Type} (r:Rs α) (a:α):Prop:=∀ x j,r=.ok x j→a=x
theorem az (I:Rdi) (w:World) (R k:Nat) (y a d:Int) (h:Rq I w R k y a d) :
  Calls Tryz.prog 67 #[.pointer (some ⟨R,0,none⟩)] w fun e w'=>e=.returned (mkV (I.M k))∧Below w.heap.size w w':=by
 have h2:=h.up (ae w (.cells #[.int .i64 0,.string ⟨#[]⟩,.complex .f64 0 0,.int .i64 0] 135))
 obtain⟨c0,c1,-⟩:=h2.nine
 obtain⟨m1,m2,m3,m4⟩:=h2.ms k h.kn
 have hn:=h.kn
 have hs:=h.small
 have hcx:=aG
 clear h h2
 go_enter Tryz.func67,Tryz.ntmps67
 go_wp2
 go_region
 go_wp2
 refine bodyPost_ret (v:=mkV (I.M k)) (by simp[results,Tryz.results67,go_sem,mkV]) rfl ⟨rfl,(ae _ _).drew⟩
theorem aY (I:Rdi) (w:World) (R k:Nat) (y:Int) (d:Int) (h:Rq I w R k 0 0 d) :
  Calls Tryz.prog 87 #[.pointer (some ⟨R,0,none⟩),.int .i64 y] w fun e w'=>e=.returned (.tuple #[])∧Rq I w' R k y (I.M k).at_ d∧But R w w':=by
 obtain⟨-,-,c2,-⟩:=h.nine
 have z2:=h.blk.frz 2
 have h2:=h.why y
 have hn:=az I _ R k y 0 d h2
 have hf:=fun W=>(fldM (I.M k) W).2.2.2
 have hU:=(But.refl R w).setR (j:=2) (.int .i64 y)
 go_enter Tryz.func87,Tryz.ntmps87
 go_wp2_with (go_at_call 67;refine hn.mono ?_;rintro e w1 ⟨rfl,hb1⟩;unfold mkV;have h3:=h2.up hb1;obtain⟨-,-,-,c3,-⟩:=h3.nine;have z3:=h3.blk.frz 3)
 go_end0
 exact⟨rfl,h3.where_ _,(hU.then hb1).setR _⟩
theorem fF (I:Rdi) (w:World) (R k:Nat) (v y a:Int) (hy:y≠0) (d:Int) (h:Rq I w R k y a d) :
  Calls Tryz.prog 87 #[.pointer (some ⟨R,0,none⟩),.int .i64 v] w fun e w'=>e=.returned (.tuple #[])∧w'=w:=by
 obtain⟨-,-,c2,-⟩:=h.nine
 have b0:(y==0)=false:=by rw[beq_eq_false_iff_ne];exact hy
 go_enter Tryz.func87,Tryz.ntmps87
 go_wp2
 go_end0
 exact⟨rfl,rfl⟩
def Wm (M:Nat→Mk) (s:List UInt8):Prop:=s≠[]∧∀ k,tk M s k=true→(M k).kind=1∨(M k).kind=3
theorem lU (I:Rdi) (s:List UInt8) (w:World) (R k:Nat) (y a d:Int) (h:Rq I w R k y a d) (b:Bool) (g0:Bool) (g1 g3:Bool) (gt:Bool) (e0:(y==0)=g0) (e1:((I.M k).kind==1)=g1) (e3:((I.M k).kind==3)=g3) (et:tk I.M s k=gt) (hb:(g0&&(g1||g3)&&gt)=b) :
  Calls Tryz.prog 90 #[.pointer (some ⟨R,0,none⟩),.string (bs s)] w fun e w'=>e=.returned (.bool b)∧Below w.heap.size w w':=by
 have hn:=az I w R k y a d h
 have ht:=tk_eq I s k
 rw[et] at ht
 clear et
 cases g0 with
 |false=>
  subst hb
  go_enter Tryz.func90,Tryz.ntmps90
  go_wp2_with (first
   |(go_at_call 67;refine hn.mono ?_;rintro e w1 ⟨rfl,hb1⟩;unfold mkV;have hL:=Bk.new w1 135 mz;have hb2:=Below.thn hb1 (ae w1 (.cells mz 135)))
   |(refine af rfl 135 (.tmp 5) (.tmp 7) rfl w1.heap.size 0 (mkC (I.M k)) rfl rfl hL (Nat.le_refl 4) Tryz.infoM (aC _) ?_;intro w2 hL2 ho2;have hb3:=hb2.trans (ho2.below hb1.size);obtain⟨q0,q1,q2,q3⟩:=Bk.four (show Bk w2 w1.heap.size _ [_,_,_,_] from hL2);obtain⟨-,-,c2,-⟩:=(h.up hb3).nine))
  go_ret
  exact⟨rfl,hb3⟩
 |true=>
  cases g1 with
  |true=>
   subst hb
   cases gt <;>
   ·go_enter Tryz.func90,Tryz.ntmps90
    go_wp2_with (first
     |(go_at_call 67;refine hn.mono ?_;rintro e w1 ⟨rfl,hb1⟩;unfold mkV;have hL:=Bk.new w1 135 mz;have hb2:=Below.thn hb1 (ae w1 (.cells mz 135)))
     |(refine af rfl 135 (.tmp 5) (.tmp 7) rfl w1.heap.size 0 (mkC (I.M k)) rfl rfl hL (Nat.le_refl 4) Tryz.infoM (aC _) ?_;intro w2 hL2 ho2;have hb3:=hb2.trans (ho2.below hb1.size);obtain⟨q0,q1,q2,q3⟩:=Bk.four (show Bk w2 w1.heap.size _ [_,_,_,_] from hL2);obtain⟨-,-,c2,-⟩:=(h.up hb3).nine))
    go_ret
    exact⟨rfl,hb3⟩
  |false=>
   cases g3 with
   |true=>
    subst hb
    cases gt <;>
    ·go_enter Tryz.func90,Tryz.ntmps90
     go_wp2_with (first
      |(go_at_call 67;refine hn.mono ?_;rintro e w1 ⟨rfl,hb1⟩;unfold mkV;have hL:=Bk.new w1 135 mz;have hb2:=Below.thn hb1 (ae w1 (.cells mz 135)))
      |(refine af rfl 135 (.tmp 5) (.tmp 7) rfl w1.heap.size 0 (mkC (I.M k)) rfl rfl hL (Nat.le_refl 4) Tryz.infoM (aC _) ?_;intro w2 hL2 ho2;have hb3:=hb2.trans (ho2.below hb1.size);obtain⟨q0,q1,q2,q3⟩:=Bk.four (show Bk w2 w1.heap.size _ [_,_,_,_] from hL2);obtain⟨-,-,c2,-⟩:=(h.up hb3).nine))
     go_ret
     exact⟨rfl,hb3⟩
   |false=>
    subst hb
    go_enter Tryz.func90,Tryz.ntmps90
    go_wp2_with (first
     |(go_at_call 67;refine hn.mono ?_;rintro e w1 ⟨rfl,hb1⟩;unfold mkV;have hL:=Bk.new w1 135 mz;have hb2:=Below.thn hb1 (ae w1 (.cells mz 135)))
     |(refine af rfl 135 (.tmp 5) (.tmp 7) rfl w1.heap.size 0 (mkC (I.M k)) rfl rfl hL (Nat.le_refl 4) Tryz.infoM (aC _) ?_;intro w2 hL2 ho2;have hb3:=hb2.trans (ho2.below hb1.size);obtain⟨q0,q1,q2,q3⟩:=Bk.four (show Bk w2 w1.heap.size _ [_,_,_,_] from hL2);obtain⟨-,-,c2,-⟩:=(h.up hb3).nine))
    go_ret
    exact⟨rfl,hb3⟩
theorem ay (I:Rdi) (s:List UInt8) (hs:Wm I.M s) (w:World) (R k:Nat) (a d:Int) (h:Rq I w R k 0 a d) :
  Calls Tryz.prog 90 #[.pointer (some ⟨R,0,none⟩),.string (bs s)] w fun e w'=>e=.returned (.bool (tk I.M s k))∧Below w.heap.size w w':=by
 refine lU I s w R k 0 a d h _ _ _ _ _ rfl rfl rfl rfl ?_
 cases ht:tk I.M s k with
 |false=>simp
 |true=>rcases hs.2 k ht with e|e<;>simp[e]
theorem aM (I:Rdi) (s:List UInt8) (w:World) (R k:Nat) (y a d:Int) (hy:y≠0) (h:Rq I w R k y a d) :
  Calls Tryz.prog 90 #[.pointer (some ⟨R,0,none⟩),.string (bs s)] w fun e w'=>e=.returned (.bool false)∧Below w.heap.size w w':=by
 refine lU I s w R k y a d h _ _ _ _ _ rfl rfl rfl rfl ?_
 simp[hy]
theorem cZ (I:Rdi) (s:List UInt8) (hs:Wm I.M s) (w:World) (R k:Nat) (d:Int) (h:Rq I w R k 0 0 d) (ht:tk I.M s k=true) (hk:k+1<I.n) :
  Calls Tryz.prog 106 #[.pointer (some ⟨R,0,none⟩),.string (bs s)] w fun e w'=>e=.returned (.bool true)∧Rq I w' R (k+1) 0 0 d∧But R w w':=by
 have hi:=ay I s hs w R k 0 d h
 rw[ht] at hi
 have hw:=w64k k (by have:=h.small;omega)
 clear ht
 go_enter Tryz.func106,Tryz.ntmps106
 go_wp2_with (go_at_call 90;refine hi.mono ?_;rintro e w1 ⟨rfl,hb1⟩;have h1:=h.up hb1;obtain⟨-,c1,-⟩:=h1.nine;have z1:=h1.blk.frz 1)
 go_ret
 exact⟨rfl,h1.go (k+1) hk,(bN hb1 R).setR _⟩
theorem aT (_I:Rdi) (s:List UInt8) (w:World) (R:Nat) (hi:Calls Tryz.prog 90 #[.pointer (some ⟨R,0,none⟩),.string (bs s)] w fun e w'=>e=.returned (.bool false)∧Below w.heap.size w w') :
  Calls Tryz.prog 106 #[.pointer (some ⟨R,0,none⟩),.string (bs s)] w fun e w'=>e=.returned (.bool false)∧Below w.heap.size w w':=by
 go_enter Tryz.func106,Tryz.ntmps106
 go_wp2_with (go_at_call 90;refine hi.mono ?_;rintro e w1 ⟨rfl,hb1⟩)
 go_ret
 exact⟨rfl,hb1⟩
theorem aA (I:Rdi) (hE:Ends I.M I.n) (s:List UInt8) (hs:Wm I.M s) {α:Type} (q:Rs α) (w:World) (R:Nat) (d:Int) (h:St I w R d q) :
  Calls Tryz.prog 89 #[.pointer (some ⟨R,0,none⟩),.string (bs s)] w fun e w'=>e=.returned (.tuple #[])∧St I w' R d (nx q (ai I.M s))∧But R w w':=by
 cases q with
 |out=>exact h.elim
 |bad y j=>
  obtain⟨hy,k,d',h⟩:=h
  have ht:=aT I s w R (aM I s w R k y _ d' hy h)
  go_enter Tryz.func89,Tryz.ntmps89
  go_wp2_with (first
   |(go_at_call 106;refine ht.mono ?_;rintro e w1 ⟨rfl,hb1⟩;have h1:=h.up hb1)
   |(go_at_call 87;refine (fF I w1 R k 21 y _ hy d' h1).mono ?_;rintro e w2 ⟨rfl,rfl⟩))
  go_end0
  exact⟨rfl,⟨hy,k,d',h1⟩,bN hb1 R⟩
 |ok a k=>
  have h0:Rq I w R k 0 0 d:=h
  cases ht:tk I.M s k with
  |true=>
   have HR:Hid (nx (Rs.ok a k) (ai I.M s)=.ok () (k+1)):=by show _=_;simp only[nx,Rs.bind,ai,ht,if_true]
   generalize nx (Rs.ok a k) (ai I.M s)=r at *
   have hp:=cZ I s hs w R k d h0 ht (hE.tk I.M ht hs.1 h0.kn)
   clear ht
   go_enter Tryz.func89,Tryz.ntmps89
   go_wp2_with (go_at_call 106;refine hp.mono ?_;rintro e w1 ⟨rfl,h1,hU⟩)
   go_end0
   refine⟨rfl,?_,hU⟩
   rw[show r=_ from HR]
   exact h1
  |false=>
   have HR:Hid (nx (Rs.ok a k) (ai I.M s)=.bad 21 k):=by show _=_;simp[nx,Rs.bind,ai,ht]
   generalize nx (Rs.ok a k) (ai I.M s)=r at *
   have hi:=ay I s hs w R k 0 d h0
   rw[ht] at hi
   have hp:=aT I s w R hi
   clear ht hi
   go_enter Tryz.func89,Tryz.ntmps89
   go_wp2_with (first
    |(go_at_call 106;refine hp.mono ?_;rintro e w1 ⟨rfl,hb1⟩;have h1:=h0.up hb1)
    |(go_at_call 87;refine (aY I w1 R k 21 d h1).mono ?_;rintro e w2 ⟨rfl,h2,hU2⟩))
   go_end0
   refine⟨rfl,?_,(bN hb1 R).trans hU2⟩
   rw[show r=_ from HR]
   exact⟨by omega,k,d,h2⟩
theorem rname_dead (I:Rdi) (w:World) (R k:Nat) (y a d:Int) (hy:y≠0) (h:Rq I w R k y a d) :
  Calls Tryz.prog 88 #[.pointer (some ⟨R,0,none⟩)] w fun e w'=>e=.returned (mkV ⟨0,[],0,0,0⟩)∧Below w.heap.size w w':=by
 have hB0:=Bk.new w 135 mz
 have hb0:=ae w (.cells mz 135)
 have h1:=h.up hb0
 have hn:=az I _ R k y a d h1
 have b0:(y != 0)=true:=by simpa using hy
 go_enter Tryz.func88,Tryz.ntmps88
 go_wp2_with (first
  |(go_at_call 67;refine hn.mono ?_;rintro e w1 ⟨rfl,hb1⟩;unfold mkV;have hL:=Bk.new w1 135 mz;have hb2:=Below.thn (Below.thn hb0 hb1) (ae w1 (.cells mz 135));have hB2:=(hB0.up hb1).up (ae w1 (.cells mz 135));have hw1:=(Below.thn hb0 hb1).size;have hl1:=(hB0.up hb1).lt)
  |(refine af rfl 135 (.tmp 3) (.tmp 5) rfl w1.heap.size 0 (mkC (I.M k)) rfl rfl hL (Nat.le_refl 4) Tryz.infoM (aC _) ?_;intro w2 hL2 ho2;have hb3:=hb2.trans (ho2.below hw1);have hB3:=hB2.oth ho2 (by omega);have h3:=h.up hb3;obtain⟨q0,q1,q2,q3⟩:=Bk.four (show Bk w2 w1.heap.size _ [_,_,_,_] from hL2);obtain⟨-,-,c2,-⟩:=h3.nine)
  |(go_at_call 87;refine (fF I w2 R k 21 y _ hy d h3).mono ?_;rintro e w4 ⟨rfl,rfl⟩)
  |(refine af rfl 135 (.tmp 2) (.tmp 18) rfl w.heap.size 0 (mkC ⟨0,[],0,0,0⟩) rfl rfl hB3 (Nat.le_refl 4) Tryz.infoM (aC _) ?_;intro w5 hB5 ho5;have hb5:=hb3.trans (ho5.below (Nat.le_refl _));obtain⟨q0,q1,q2,q3⟩:=Bk.four (show Bk w5 w.heap.size _ [_,_,_,_] from hB5)))
 refine bodyPost_ret (v:=mkV ⟨0,[],0,0,0⟩) (by simp[results,Tryz.results88,go_sem,mkV,q0,q1,q2,q3]) rfl ⟨rfl,hb5⟩
theorem rname_no (I:Rdi) (w:World) (R k:Nat) (d:Int) (h:Rq I w R k 0 0 d) (hk:(I.M k).kind≠0) :
  Calls Tryz.prog 88 #[.pointer (some ⟨R,0,none⟩)] w fun e w'=>e=.returned (mkV ⟨0,[],0,0,0⟩)∧Rq I w' R k 21 (I.M k).at_ d∧But R w w':=by
 have hB0:=Bk.new w 135 mz
 have hb0:=ae w (.cells mz 135)
 have h1:=h.up hb0
 have hlt:=h.lt
 have hn:=az I _ R k 0 0 d h1
 have b0:((I.M k).kind != 0)=true:=by simpa using hk
 go_enter Tryz.func88,Tryz.ntmps88
 go_wp2_with (first
  |(go_at_call 67;refine hn.mono ?_;rintro e w1 ⟨rfl,hb1⟩;unfold mkV;have hL:=Bk.new w1 135 mz;have hb2:=Below.thn (Below.thn hb0 hb1) (ae w1 (.cells mz 135));have hB2:=(hB0.up hb1).up (ae w1 (.cells mz 135));have hw1:=(Below.thn hb0 hb1).size;have hl1:=(hB0.up hb1).lt)
  |(refine af rfl 135 (.tmp 3) (.tmp 5) rfl w1.heap.size 0 (mkC (I.M k)) rfl rfl hL (Nat.le_refl 4) Tryz.infoM (aC _) ?_;intro w2 hL2 ho2;have hb3:=hb2.trans (ho2.below hw1);have hB3:=hB2.oth ho2 (by omega);have h3:=h.up hb3;obtain⟨q0,q1,q2,q3⟩:=Bk.four (show Bk w2 w1.heap.size _ [_,_,_,_] from hL2);obtain⟨-,-,c2,-⟩:=h3.nine)
  |(go_at_call 87;refine (aY I w2 R k 21 d h3).mono ?_;rintro e w4 ⟨rfl,h4,hU4⟩;have hB4:=hB3.but hU4 (by omega);have hU3:=(bN hb3 R).trans hU4)
  |(refine af rfl 135 (.tmp 2) (.tmp 18) rfl w.heap.size 0 (mkC ⟨0,[],0,0,0⟩) rfl rfl hB4 (Nat.le_refl 4) Tryz.infoM (aC _) ?_;intro w5 hB5 ho5;have h5:=h4.oth ho5 (by omega) (by omega);have hU5:=ho5.but hU3 (Nat.le_refl _);obtain⟨q0,q1,q2,q3⟩:=Bk.four (show Bk w5 w.heap.size _ [_,_,_,_] from hB5)))
 refine bodyPost_ret (v:=mkV ⟨0,[],0,0,0⟩) (by simp[results,Tryz.results88,go_sem,mkV,q0,q1,q2,q3]) rfl ⟨rfl,h5,hU5⟩
theorem rname_yes (I:Rdi) (w:World) (R k:Nat) (d:Int) (h:Rq I w R k 0 0 d) (hk:(I.M k).kind=0) (hkn:k+1<I.n) :
  Calls Tryz.prog 88 #[.pointer (some ⟨R,0,none⟩)] w fun e w'=>e=.returned (mkV (I.M k))∧Rq I w' R (k+1) 0 0 d∧But R w w':=by
 have hB0:=Bk.new w 135 mz
 have hb0:=ae w (.cells mz 135)
 have h1:=h.up hb0
 have hlt:=h.lt
 have hn:=az I _ R k 0 0 d h1
 have hw:=w64k k (by have:=h.small;omega)
 have b0:((I.M k).kind != 0)=false:=by simp[hk]
 clear hk
 go_enter Tryz.func88,Tryz.ntmps88
 go_wp2_with (first
  |(go_at_call 67;refine hn.mono ?_;rintro e w1 ⟨rfl,hb1⟩;unfold mkV;have hL:=Bk.new w1 135 mz;have hb2:=Below.thn (Below.thn hb0 hb1) (ae w1 (.cells mz 135));have hB2:=(hB0.up hb1).up (ae w1 (.cells mz 135));have hw1:=(Below.thn hb0 hb1).size;have hl1:=(hB0.up hb1).lt)
  |(refine af rfl 135 (.tmp 3) (.tmp 5) rfl w1.heap.size 0 (mkC (I.M k)) rfl rfl hL (Nat.le_refl 4) Tryz.infoM (aC _) ?_;intro w2 hL2 ho2;have hb3:=hb2.trans (ho2.below hw1);have hB3:=hB2.oth ho2 (by omega);have h3:=h.up hb3;obtain⟨q0,q1,q2,q3⟩:=Bk.four (show Bk w2 w1.heap.size _ [_,_,_,_] from hL2);obtain⟨-,c1,c2,-⟩:=h3.nine;have z1:=h3.blk.frz 1;have h4:=h3.go (k+1) hkn;have ho4:=(Oth.refl R w2).set 1 (.int .i64 ((k+1:Nat):Int));have hL4:=hL2.oth ho4 (by omega);have hB4:=hB3.oth ho4 (by omega);have hU4:=(bN hb3 R).setR (j:=1) (.int .i64 ((k+1:Nat):Int)))
  |refine ah rfl 135 (.tmp 3) rfl w1.heap.size 0 rfl (mkC (I.M k)) _ (hL4.range 0 4) Tryz.underM Tryz.infoM ?_
  |(refine af rfl 135 (.tmp 2) (.tmp 26) rfl w.heap.size 0 (mkC (I.M k)) rfl rfl hB4 (Nat.le_refl 4) Tryz.infoM (aC _) ?_;intro w5 hB5 ho5;have h5:=h4.oth ho5 (by omega) (by omega);have hU5:=ho5.but hU4 (Nat.le_refl _);obtain⟨q0,q1,q2,q3⟩:=Bk.four (show Bk w5 w.heap.size _ [_,_,_,_] from hB5)))
 refine bodyPost_ret (v:=mkV (I.M k)) (by simp[results,Tryz.results88,go_sem,mkV,q0,q1,q2,q3]) rfl ⟨rfl,h5,hU5⟩
theorem aW (I:Rdi) (hE:Ends I.M I.n) {α:Type} (q:Rs α) (w:World) (R:Nat) (d:Int) (h:St I w R d q) :
  Calls Tryz.prog 88 #[.pointer (some ⟨R,0,none⟩)] w fun e w'=>∃ m,e=.returned (mkV m)∧Got (nx q (aJ I.M)) m∧St I w' R d (nx q (aJ I.M))∧But R w w':=by
 cases q with
 |out=>exact h.elim
 |bad y j=>
  obtain⟨hy,k,d',h⟩:=h
  refine (rname_dead I w R k y _ d' hy h).mono ?_
  rintro e w1 ⟨rfl,hb1⟩
  exact⟨_,rfl,(fun _ _ e=>by cases e),⟨hy,k,d',h.up hb1⟩,bN hb1 R⟩
 |ok a k=>
  have h0:Rq I w R k 0 0 d:=h
  by_cases hk:(I.M k).kind=0
  ·have hr:nx (.ok a k) (aJ I.M)=.ok (I.M k) (k+1):=by simp[nx,Rs.bind,aJ,hk]
   refine (rname_yes I w R k d h0 hk (hE.kd I.M hk (by decide) h0.kn)).mono ?_
   rintro e w1 ⟨rfl,h1,hU⟩
   rw[hr]
   exact⟨_,rfl,(fun _ _ e=>by cases e;rfl),h1,hU⟩
  ·have hr:nx (.ok a k) (aJ I.M)=.bad 21 k:=by simp[nx,Rs.bind,aJ,hk]
   refine (rname_no I w R k d h0 hk).mono ?_
   rintro e w1 ⟨rfl,h1,hU⟩
   rw[hr]
   exact⟨_,rfl,(fun _ _ e=>by cases e),⟨by omega,k,d,h1⟩,hU⟩
abbrev nms:Obj:=.cells #[.string ⟨#[78]⟩,.string ⟨#[66]⟩,.string ⟨#[76]⟩] 9
theorem rtyp_hit0 (w:World) (R:Nat) (P:World→World→Prop)
  (hy:∀ W,Below w.heap.size w W→Calls Tryz.prog 106 #[.pointer (some ⟨R,0,none⟩),.string (bs [78])] W fun e w'=>e=.returned (.bool true)∧P W w') :
  Calls Tryz.prog 91 #[.pointer (some ⟨R,0,none⟩)] w fun e w'=>e=.returned (.int .i64 1)∧∃ W,Below w.heap.size w W∧P W w':=by
 have B0:=ae w nms
 have N0:=Bk.new w 9 #[.string ⟨#[78]⟩,.string ⟨#[66]⟩,.string ⟨#[76]⟩]
 have a0:(w.alloc nms).cell? ⟨w.heap.size,0,none⟩=some (.string ⟨#[78]⟩):=N0.cell 0
 have c0:=hy _ B0
 go_enter Tryz.func91,Tryz.ntmps91
 go_wp2
 refine wp_loop_rounds 4 ?_
 rw[rounds_succ]
 go_wp2_with fail
 refine c0.mono ?_
 rintro e w1 ⟨rfl,hp⟩
 go_wp2
 go_ret
 exact⟨rfl,_,B0,hp⟩
theorem rtyp_hit1 (w:World) (R:Nat) (P:World→World→Prop) (n0:∀ W,Below w.heap.size w W→Calls Tryz.prog 106 #[.pointer (some ⟨R,0,none⟩),.string (bs [78])] W fun e w'=>e=.returned (.bool false)∧Below W.heap.size W w')
  (hy:∀ W,Below w.heap.size w W→Calls Tryz.prog 106 #[.pointer (some ⟨R,0,none⟩),.string (bs [66])] W fun e w'=>e=.returned (.bool true)∧P W w') :
  Calls Tryz.prog 91 #[.pointer (some ⟨R,0,none⟩)] w fun e w'=>e=.returned (.int .i64 2)∧∃ W,Below w.heap.size w W∧P W w':=by
 have B0:=ae w nms
 have N0:=Bk.new w 9 #[.string ⟨#[78]⟩,.string ⟨#[66]⟩,.string ⟨#[76]⟩]
 have a0:(w.alloc nms).cell? ⟨w.heap.size,0,none⟩=some (.string ⟨#[78]⟩):=N0.cell 0
 have c0:=n0 _ B0
 go_enter Tryz.func91,Tryz.ntmps91
 go_wp2
 refine wp_loop_rounds 4 ?_
 rw[rounds_succ]
 go_wp2_with fail
 refine c0.mono ?_
 rintro e w1 ⟨rfl,hb1⟩
 have B1:=Below.thn B0 hb1
 have N1:=N0.up hb1
 have a1:w1.cell? ⟨w.heap.size,1,none⟩=some (.string ⟨#[66]⟩):=N1.cell 1
 have c1:=hy w1 B1
 clear a0 c0
 go_wp2_with fail
 rw[rounds_succ]
 go_wp2_with fail
 refine c1.mono ?_
 rintro e w2 ⟨rfl,hp⟩
 go_wp2
 go_ret
 exact⟨rfl,_,B1,hp⟩
theorem rtyp_hit2 (w:World) (R:Nat) (P:World→World→Prop) (n0:∀ W,Below w.heap.size w W→Calls Tryz.prog 106 #[.pointer (some ⟨R,0,none⟩),.string (bs [78])] W fun e w'=>e=.returned (.bool false)∧Below W.heap.size W w') (n1:∀ W,Below w.heap.size w W→Calls Tryz.prog 106 #[.pointer (some ⟨R,0,none⟩),.string (bs [66])] W fun e w'=>e=.returned (.bool false)∧Below W.heap.size W w')
  (hy:∀ W,Below w.heap.size w W→Calls Tryz.prog 106 #[.pointer (some ⟨R,0,none⟩),.string (bs [76])] W fun e w'=>e=.returned (.bool true)∧P W w') :
  Calls Tryz.prog 91 #[.pointer (some ⟨R,0,none⟩)] w fun e w'=>e=.returned (.int .i64 3)∧∃ W,Below w.heap.size w W∧P W w':=by
 have B0:=ae w nms
 have N0:=Bk.new w 9 #[.string ⟨#[78]⟩,.string ⟨#[66]⟩,.string ⟨#[76]⟩]
 have a0:(w.alloc nms).cell? ⟨w.heap.size,0,none⟩=some (.string ⟨#[78]⟩):=N0.cell 0
 have c0:=n0 _ B0
 go_enter Tryz.func91,Tryz.ntmps91
 go_wp2
 refine wp_loop_rounds 4 ?_
 rw[rounds_succ]
 go_wp2_with fail
 refine c0.mono ?_
 rintro e w1 ⟨rfl,hb1⟩
 have B1:=Below.thn B0 hb1
 have N1:=N0.up hb1
 have a1:w1.cell? ⟨w.heap.size,1,none⟩=some (.string ⟨#[66]⟩):=N1.cell 1
 have c1:=n1 w1 B1
 clear a0 c0
 go_wp2_with fail
 rw[rounds_succ]
 go_wp2_with fail
 refine c1.mono ?_
 rintro e w2 ⟨rfl,hb2⟩
 have B2:=Below.thn B1 hb2
 have N2:=N1.up hb2
 have a2:w2.cell? ⟨w.heap.size,2,none⟩=some (.string ⟨#[76]⟩):=N2.cell 2
 have c2:=hy w2 B2
 clear a1 c1
 go_wp2_with fail
 rw[rounds_succ]
 go_wp2_with fail
 refine c2.mono ?_
 rintro e w3 ⟨rfl,hp⟩
 go_wp2
 go_ret
 exact⟨rfl,_,B2,hp⟩
theorem jO (w:World) (R:Nat) (P:World→World→Prop) (n0:∀ W,Below w.heap.size w W→Calls Tryz.prog 106 #[.pointer (some ⟨R,0,none⟩),.string (bs [78])] W fun e w'=>e=.returned (.bool false)∧Below W.heap.size W w') (n1:∀ W,Below w.heap.size w W→Calls Tryz.prog 106 #[.pointer (some ⟨R,0,none⟩),.string (bs [66])] W fun e w'=>e=.returned (.bool false)∧Below W.heap.size W w') (n2:∀ W,Below w.heap.size w W→Calls Tryz.prog 106 #[.pointer (some ⟨R,0,none⟩),.string (bs [76])] W fun e w'=>e=.returned (.bool false)∧Below W.heap.size W w')
  (hf:∀ W,Below w.heap.size w W→Calls Tryz.prog 87 #[.pointer (some ⟨R,0,none⟩),.int .i64 21] W fun e w'=>e=.returned (.tuple #[])∧P W w') :
  Calls Tryz.prog 91 #[.pointer (some ⟨R,0,none⟩)] w fun e w'=>e=.returned (.int .i64 0)∧∃ W,Below w.heap.size w W∧P W w':=by
 have B0:=ae w nms
 have N0:=Bk.new w 9 #[.string ⟨#[78]⟩,.string ⟨#[66]⟩,.string ⟨#[76]⟩]
 have a0:(w.alloc nms).cell? ⟨w.heap.size,0,none⟩=some (.string ⟨#[78]⟩):=N0.cell 0
 have c0:=n0 _ B0
 go_enter Tryz.func91,Tryz.ntmps91
 go_wp2
 refine wp_loop_rounds 4 ?_
 rw[rounds_succ]
 go_wp2_with fail
 refine c0.mono ?_
 rintro e w1 ⟨rfl,hb1⟩
 have B1:=Below.thn B0 hb1
 have N1:=N0.up hb1
 have a1:w1.cell? ⟨w.heap.size,1,none⟩=some (.string ⟨#[66]⟩):=N1.cell 1
 have c1:=n1 w1 B1
 clear a0 c0
 go_wp2_with fail
 rw[rounds_succ]
 go_wp2_with fail
 refine c1.mono ?_
 rintro e w2 ⟨rfl,hb2⟩
 have B2:=Below.thn B1 hb2
 have N2:=N1.up hb2
 have a2:w2.cell? ⟨w.heap.size,2,none⟩=some (.string ⟨#[76]⟩):=N2.cell 2
 have c2:=n2 w2 B2
 clear a1 c1
 go_wp2_with fail
 rw[rounds_succ]
 go_wp2_with fail
 refine c2.mono ?_
 rintro e w3 ⟨rfl,hb3⟩
 have B3:=Below.thn B2 hb3
 have N3:=N2.up hb3
 have c3:=hf w3 B3
 clear a2 c2
 go_wp2_with fail
 rw[rounds_succ]
 go_wp2_with fail
 refine c3.mono ?_
 rintro e w4 ⟨rfl,hp⟩
 go_wp2
 go_ret
 exact⟨rfl,_,B3,hp⟩
theorem wmN {M:Nat→Mk} (hW:∀ s∈[[78],[66],[76]],Wm M s):Wm M [78]∧Wm M [66]∧Wm M [76]:=⟨hW _ (by simp),hW _ (by simp),hW _ (by simp)⟩
theorem bv (I:Rdi) (hE:Ends I.M I.n) (hW:∀ s∈[[78],[66],[76]],Wm I.M s) {α:Type} (q:Rs α) (w:World) (R:Nat) (d:Int) (h:St I w R d q) :
  Calls Tryz.prog 91 #[.pointer (some ⟨R,0,none⟩)] w fun e w'=>∃ t:Int,e=.returned (.int .i64 t)∧Got (nx q (aK I.M)) t∧St I w' R d (nx q (aK I.M))∧But R w w':=by
 obtain⟨W1,W2,W3⟩:=wmN hW
 cases q with
 |out=>exact h.elim
 |bad y j=>
  obtain⟨hy,k,d',h⟩:=h
  refine (jO w R (fun W w'=>w'=W) (fun W hb=>aT I _ W R (aM I _ W R k y _ d' hy (h.up hb))) (fun W hb=>aT I _ W R (aM I _ W R k y _ d' hy (h.up hb))) (fun W hb=>aT I _ W R (aM I _ W R k y _ d' hy (h.up hb)))
   (fun W hb=>fF I W R k 21 y _ hy d' (h.up hb))).mono ?_
  rintro e w1 ⟨rfl,W,hb,rfl⟩
  exact⟨_,rfl,(fun _ _ e=>by cases e),⟨hy,k,d',h.up hb⟩,bN hb R⟩
 |ok a k=>
  have h0:Rq I w R k 0 0 d:=h
  have no:∀ s,Wm I.M s→tk I.M s k=false→∀ W,Below w.heap.size w W→Calls Tryz.prog 106 #[.pointer (some ⟨R,0,none⟩),.string (bs s)] W fun e w'=>e=.returned (.bool false)∧Below W.heap.size W w':=by
   intro s hs ht W hb
   have:=ay I s hs W R k 0 d (h0.up hb)
   rw[ht] at this
   exact aT I s W R this
  have yes:∀ s,Wm I.M s→tk I.M s k=true→∀ W,Below w.heap.size w W→Calls Tryz.prog 106 #[.pointer (some ⟨R,0,none⟩),.string (bs s)] W fun e w'=>e=.returned (.bool true)∧Rq I w' R (k+1) 0 0 d∧But R W w':=
   fun s hs ht W hb=>cZ I s hs W R k d (h0.up hb) ht (hE.tk I.M ht hs.1 h0.kn)
  cases t1:tk I.M [78] k with
  |true=>
   have hr:nx (.ok a k) (aK I.M)=.ok 1 (k+1):=by simp[nx,Rs.bind,aK,t1]
   refine (rtyp_hit0 w R _ (yes _ W1 t1)).mono ?_
   rintro e w1 ⟨rfl,W,hb,h1,hU⟩
   rw[hr]
   exact⟨_,rfl,(fun _ _ e=>by cases e;rfl),h1,(bN hb R).trans hU⟩
  |false=>
   cases t2:tk I.M [66] k with
   |true=>
    have hr:nx (.ok a k) (aK I.M)=.ok 2 (k+1):=by simp[nx,Rs.bind,aK,t1,t2]
    refine (rtyp_hit1 w R _ (no _ W1 t1) (yes _ W2 t2)).mono ?_
    rintro e w1 ⟨rfl,W,hb,h1,hU⟩
    rw[hr]
    exact⟨_,rfl,(fun _ _ e=>by cases e;rfl),h1,(bN hb R).trans hU⟩
   |false=>
    cases t3:tk I.M [76] k with
    |true=>
     have hr:nx (.ok a k) (aK I.M)=.ok 3 (k+1):=by simp[nx,Rs.bind,aK,t1,t2,t3]
     refine (rtyp_hit2 w R _ (no _ W1 t1) (no _ W2 t2) (yes _ W3 t3)).mono ?_
     rintro e w1 ⟨rfl,W,hb,h1,hU⟩
     rw[hr]
     exact⟨_,rfl,(fun _ _ e=>by cases e;rfl),h1,(bN hb R).trans hU⟩
    |false=>
     have hr:nx (.ok a k) (aK I.M)=.bad 21 k:=by simp[nx,Rs.bind,aK,t1,t2,t3]
     refine (jO w R _ (no _ W1 t1) (no _ W2 t2) (no _ W3 t3) (fun W hb=>aY I W R k 21 d (h0.up hb))).mono ?_
     rintro e w1 ⟨rfl,W,hb,h1,hU⟩
     rw[hr]
     exact⟨_,rfl,(fun _ _ e=>by cases e),⟨by omega,k,d,h1⟩,(bN hb R).trans hU⟩
theorem rword_any (s:List UInt8) (w:World) :
  Calls Tryz.prog 135 #[.string (bs s)] w fun e w'=>e=.returned (.int .i64 (aU s))∧w'=w:=by
 obtain⟨r,hr⟩:∃ r,r=aU s:=⟨_,rfl⟩
 rw[← hr]
 unfold aU tNil at hr
 have HR:Hid (r=_):=hr
 clear hr
 have hb:(bs s).toList=s:=aF s
 generalize e1:(s==[116,114,117,101])=t1 at HR
 generalize e2:(s==[102,97,108,115,101])=t2 at HR
 generalize e3:(s==[110,105,108])=t3 at HR
 generalize e4:(s==[102,97,105,108])=t4 at HR
 generalize e5:(s==[110,111,116])=t5 at HR
 generalize e6:(s==[114,101])=t6 at HR
 generalize e7:(s==[105,109])=t7 at HR
 generalize e8:(s==[99,111,110,106])=t8 at HR
 cases t1
 case true=>
  go_enter Tryz.func135,Tryz.ntmps135
  go_wp2
  go_ret
  exact⟨by rw[show r=_ from HR];rfl,rfl⟩
 cases t2
 case true=>
  go_enter Tryz.func135,Tryz.ntmps135
  go_wp2
  go_ret
  exact⟨by rw[show r=_ from HR];rfl,rfl⟩
 cases t3
 case true=>
  go_enter Tryz.func135,Tryz.ntmps135
  go_wp2
  go_ret
  exact⟨by rw[show r=_ from HR];rfl,rfl⟩
 cases t4
 case true=>
  go_enter Tryz.func135,Tryz.ntmps135
  go_wp2
  go_ret
  exact⟨by rw[show r=_ from HR];rfl,rfl⟩
 cases t5
 case true=>
  go_enter Tryz.func135,Tryz.ntmps135
  go_wp2
  go_ret
  exact⟨by rw[show r=_ from HR];rfl,rfl⟩
 cases t6
 case true=>
  go_enter Tryz.func135,Tryz.ntmps135
  go_wp2
  go_ret
  exact⟨by rw[show r=_ from HR];rfl,rfl⟩
 cases t7
 case true=>
  go_enter Tryz.func135,Tryz.ntmps135
  go_wp2
  go_ret
  exact⟨by rw[show r=_ from HR];rfl,rfl⟩
 cases t8
 case true=>
  go_enter Tryz.func135,Tryz.ntmps135
  go_wp2
  go_ret
  exact⟨by rw[show r=_ from HR];rfl,rfl⟩
 go_enter Tryz.func135,Tryz.ntmps135
 go_wp2
 go_ret
 exact⟨by rw[show r=_ from HR];rfl,rfl⟩
structure Sv (vs:List Value):Prop where
 len:vs.length=7
 one:∀ v∈vs,v.oneCell'=true
theorem dx (op:Int) (m:Mk) (va vb:List Value) (ha:Sv va) (hb:Sv vb) (w:World) :
  Calls Tryz.prog 123 #[.int .i64 op,.agg va.toArray,.agg vb.toArray,mkV m] w fun e w'=>∃ V:List Value,e=.returned (.agg V.toArray)∧Sv V∧Below w.heap.size w w' ∧
   ∀ (A:Nat→Prop) (a b:Ex),(∀ b,w.heap.size≤b→A b)→ExW w A a va→ExW w A b vb→ExW w' A (two op a b m) V:=by
 obtain⟨x0,x1,x2,x3,x4,x5,x6,rfl⟩:=aP ha.len
 obtain⟨y0,y1,y2,y3,y4,y5,y6,rfl⟩:=aP hb.len
 clear ha hb
 have hcx:=aG
 unfold mkV
 go_enter Tryz.func123,Tryz.ntmps123
 go_wp2
 have hbe:=fun o1 o2 o3 o4 o5=>iQ o5 (iQ o4 (iQ o3 (iQ o2 (ae w o1))))
 refine bodyPost_ret (v:=.agg #[.int .i64 op,.string ⟨#[]⟩,.string ⟨#[]⟩,.int .i64 0,.complex .f64 0 0,.slice (some ⟨w.heap.size+1+1+1+1,0,none⟩) 2 2,.int .i64 m.at_]) (by simp[results,Tryz.results123,go_sem]) rfl
  ⟨[.int .i64 op,.string ⟨#[]⟩,.string ⟨#[]⟩,.int .i64 0,.complex .f64 0 0,.slice (some ⟨w.heap.size+1+1+1+1,0,none⟩) 2 2,.int .i64 m.at_],rfl,⟨rfl,?_⟩,hbe _ _ _ _ _,fun A a b hA ha hb=>?_⟩
 ·intro v hv
  simp only[List.mem_cons,List.not_mem_nil,or_false] at hv
  rcases hv with rfl|rfl|rfl|rfl|rfl|rfl|rfl<;>rfl
 ·exact dm (xs:=[a,b]) (elv2 (hA _ (by omega)) (Bk.newAt 58 #[x0,x1,x2,x3,x4,x5,x6,y0,y1,y2,y3,y4,y5,y6] (by simp)) (ha.up (hbe _ _ _ _ _)) (hb.up (hbe _ _ _ _ _))) rfl
theorem St.up {I:Rdi} {w w':World} {R:Nat} {d:Int} {α:Type} {q:Rs α} (h:St I w R d q) (hb:Below w.heap.size w w'):St I w' R d q:=by
 cases q with
 |out=>exact h.elim
 |ok a k=>exact Rq.up (show Rq I w R k 0 0 d from h) hb
 |bad y j=>
  obtain⟨hy,k,d',h⟩:=h
  exact⟨hy,k,d',h.up hb⟩
theorem St.oth {I:Rdi} {w w':World} {R g:Nat} {d:Int} {α:Type} {q:Rs α} (h:St I w R d q) (ho:Oth g w w') (hR:R<g) (hb:I.b<g):St I w' R d q:=by
 cases q with
 |out=>exact h.elim
 |ok a k=>exact Rq.oth (show Rq I w R k 0 0 d from h) ho hR hb
 |bad y j=>
  obtain⟨hy,k,d',h⟩:=h
  exact⟨hy,k,d',h.oth ho hR hb⟩
theorem St.lt {I:Rdi} {w:World} {R:Nat} {d:Int} {α:Type} {q:Rs α} (h:St I w R d q):R<w.heap.size∧I.b<w.heap.size:=by
 cases q with
 |out=>exact h.elim
 |ok a k=>exact Rq.lt (show Rq I w R k 0 0 d from h)
 |bad y j=>
  obtain⟨_,k,d',h⟩:=h
  exact h.lt
structure RE (I:Rdi) (R:Nat) (d:Int) (w:World) (r:Rs Ex) (vs:List Value) (w':World):Prop where
 sv:Sv vs
 ex:∀ x j,r=.ok x j→ExV w' w.heap.size x vs
 st:St I w' R d r
 but:But R w w'
def RA (I:Rdi) (R:Nat) (d:Int) (w:World) (r:Rs Ex) (e:Ending) (w':World):Prop:=∃ vs:List Value,e=.returned (.agg vs.toArray)∧RE I R d w r vs w'
def lks:List (List UInt8):=[[78],[66],[76],tLet,aH,tIf,bZ,ig,ik,tIn,tOf,tNil,tArr,[61],[124],[58],[40],[41],[44],[59],[61,61],[60],[43],[45],[42],[47]]
structure AllR (I:Rdi) (f:Nat):Prop where
 expr:∀ {α:Type} (q:Rs α) (w:World) (R d:Nat),St I w R d q→nx q (exprP I.M (lmOf I) f d)≠.out→Calls Tryz.prog 92 #[.pointer (some ⟨R,0,none⟩)] w (RA I R d w (nx q (exprP I.M (lmOf I) f d)))
 cons:∀ {α:Type} (q:Rs α) (w:World) (R d:Nat),St I w R d q→nx q (consP I.M (lmOf I) f d)≠.out→Calls Tryz.prog 107 #[.pointer (some ⟨R,0,none⟩)] w (RA I R d w (nx q (consP I.M (lmOf I) f d)))
 comp:∀ {α:Type} (q:Rs α) (w:World) (R d:Nat),St I w R d q→nx q (compP I.M (lmOf I) f d)≠.out→Calls Tryz.prog 122 #[.pointer (some ⟨R,0,none⟩)] w (RA I R d w (nx q (compP I.M (lmOf I) f d)))
 sum:∀ {α:Type} (q:Rs α) (w:World) (R d:Nat),St I w R d q→nx q (sumP I.M (lmOf I) f d)≠.out→Calls Tryz.prog 130 #[.pointer (some ⟨R,0,none⟩)] w (RA I R d w (nx q (sumP I.M (lmOf I) f d)))
 term:∀ {α:Type} (q:Rs α) (w:World) (R d:Nat),St I w R d q→nx q (termP I.M (lmOf I) f d)≠.out→Calls Tryz.prog 132 #[.pointer (some ⟨R,0,none⟩)] w (RA I R d w (nx q (termP I.M (lmOf I) f d)))
 unit:∀ {α:Type} (q:Rs α) (w:World) (R d:Nat),St I w R d q→nx q (unitP I.M (lmOf I) f d)≠.out→Calls Tryz.prog 133 #[.pointer (some ⟨R,0,none⟩)] w (RA I R d w (nx q (unitP I.M (lmOf I) f d)))
 named:∀ (w:World) (R k d:Nat),Rq I w R (k+1) 0 0 d→namedP I.M (lmOf I) f d k≠.out→Calls Tryz.prog 134 #[.pointer (some ⟨R,0,none⟩),mkV (I.M k)] w (RA I R d w (namedP I.M (lmOf I) f d k))
theorem gy {α β γ:Type} (q:Rs α) (X:Nat→Rs β) (g:β→Nat→Rs γ):nx q (fun k=>(X k).bind g)=(nx q X).bind g:=by cases q<;>rfl
theorem ax {α β:Type} {a:α} {k:Nat} {X:Nat→Rs β}:nx (.ok a k) X=X k:=rfl
def Rj (w:World) (B:Nat) (v:Value) (n:Nat):Prop:=∃ cs,w.ownsRow B 58 7 v n cs
theorem Rj.nil (w:World) (B:Nat):Rj w B (.slice none 0 0) 0:=⟨[],rfl,.inl ⟨rfl,rfl⟩⟩
theorem Row.nil (w:World) (B:Nat):Row w B (.slice none 0 0) []:=⟨[],⟨rfl,.inl ⟨rfl,rfl⟩⟩,.nil⟩
theorem Rj.keep {w w':World} {B:Nat} {v:Value} {n:Nat} (h:Rj w B v n) (hk:∀ b,B≤b→b<w.heap.size→w'.heap[b]?=w.heap[b]?):Rj w' B v n:=by
 obtain⟨cs,h1⟩:=h
 exact⟨cs,bu h1 fun b hb=>hk b (aN h1 b hb).1 (aN h1 b hb).2⟩
theorem Rj.up {w w':World} {B:Nat} {v:Value} {n:Nat} (h:Rj w B v n) (hb:Below w.heap.size w w'):Rj w' B v n:=h.keep fun b _ hl=>hb.block b hl
theorem Rj.but {w w':World} {B R:Nat} {v:Value} {n:Nat} (h:Rj w B v n) (hU:But R w w') (hR:R<B):Rj w' B v n:=h.keep fun b hb hl=>hU.block b hl (by omega)
theorem Rj.oth {w w':World} {B g:Nat} {v:Value} {n:Nat} (h:Rj w B v n) (hU:Oth g w w') (hR:g<B∨w.heap.size≤g):Rj w' B v n:=h.keep fun b hb hl=>hU.block b (by omega)
theorem Rj.val {w:World} {B:Nat} {v:Value} {n:Nat} (h:Rj w B v n):∃ ao c,v=.slice ao n c:=by
 obtain⟨cs,h1⟩:=h
 rcases h1.2 with⟨rfl,h0⟩|⟨g,cap,cur,rfl,_⟩
 ·exact⟨none,0,by rw[h0]⟩
 ·exact⟨_,_,rfl⟩
theorem Rj.has {w:World} {B:Nat} {v:Value} {n:Nat} (h:Rj w B v n):∀ k,v.ownBlock=some k→B≤k∧k<w.heap.size:=by
 obtain⟨cs,h1⟩:=h
 exact aN h1
theorem gK {w:World} {B:Nat} {v:Value} {n:Nat} {b0 b1 b2 b3 b4 b5 b6:Value} (h:Rj w B v n) (hB:B≤w.heap.size) (sv:Sv [b0,b1,b2,b3,b4,b5,b6]) (hn:n≤10000000) :
  ∃ v' w',(Builtin.append_ #[56,56] 56 #[v,.slice (some ⟨w.heap.size,0,none⟩) 1 1]).run Tryz.prog (w.alloc (.cells #[b0,b1,b2,b3,b4,b5,b6] 58))=.ok v' w'∧Rj w' B v' (n+1)∧Below B w w' ∧
   ∀ (xs:List Ex) (x:Ex),Row w B v xs→xs.length=n→ExV w B x [b0,b1,b2,b3,b4,b5,b6]→(∀ b,v.ownBlock=some b→ExW w (fun c=>B≤c∧c≠b) x [b0,b1,b2,b3,b4,b5,b6])→Row w' B v' (xs++[x]):=by
 obtain⟨i0,hi,hz0,hz1,hz2⟩:=info_parts Tryz.infoEx
 have hbA:=ae w (.cells #[b0,b1,b2,b3,b4,b5,b6] 58)
 have h2:=h.up hbA
 have hhas:=h2.has
 obtain⟨cs,ho⟩:=h2
 have hk:=Bk.new w 58 #[b0,b1,b2,b3,b4,b5,b6]
 have hnews:∀ j u,[b0,b1,b2,b3,b4,b5,b6][j]?=some u→(w.alloc (.cells #[b0,b1,b2,b3,b4,b5,b6] 58)).cell? ((⟨w.heap.size,0,none⟩:Addr).add j)=some u:=by
  intro j u hj
  rw[Addr.add_mid,Nat.zero_add,hk.cell]
  exact hj
 have hBs:B≤(w.alloc (.cells #[b0,b1,b2,b3,b4,b5,b6] 58)).heap.size:=by simp;omega
 obtain⟨v',w',hr,ho',hgr,_⟩:=dD Tryz.underEs hi hz0 hz1 hz2 rfl (by decide) ho ⟨w.heap.size,0,none⟩ [b0,b1,b2,b3,b4,b5,b6] rfl hnews sv.one hn (by omega) hBs
 refine⟨v',w',hr,⟨_,ho'⟩,(hbA.mono hB).trans ((Below.refl B _).grown hgr hBs fun k hk=>(hhas k hk).1),fun xs x hrow hl hx hxg=>?_⟩
 obtain⟨v2,w2,hr2,hrow2,_⟩:=hrow.app hB hx hxg (by omega)
 rw[hr] at hr2
 cases hr2
 exact hrow2
end Go.Proofs.YtimoappbefindaaGreat
