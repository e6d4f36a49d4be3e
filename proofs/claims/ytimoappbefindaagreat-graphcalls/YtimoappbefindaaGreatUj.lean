/-
  2 texts in one: what each proves stands at its head.
-/
import Derived.Test.YtimoappbefindaaGreatUy
import Derived.Test.YtimoappbefindaaGreatUI
import Derived.Test.YtimoappbefindaaGreatUT
import Derived.Test.YtimoappbefindaaGreatUM
import Derived.Test.YtimoappbefindaaGreatUQ
import Derived.Test.YtimoappbefindaaGreatUA
namespace Go.Proofs.YtimoappbefindaaGreat
set_option maxHeartbeats 3000000
open Go.RowKit
set_option maxRecDepth 100000
theorem Tryz.underPr:Tryz.prog.underlying 26=some (.struct (Tryz.prog.underlying 26 |>.map (fun|.struct f=>f|_=>#[]) |>.getD #[])):=by kernel_rfl
theorem nO (I:Rdi) (hE:Ends I.M I.n) (hW:∀ s∈lks,Wm I.M s) (f:Nat) (hA:AllR I f) (num:Nat) (w:World) (R k z:Nat) (hz:z=0) (h:Rq I w R k 0 0 z) (hne:defP I.M (lmOf I) f num k≠.out) :
  Calls Tryz.prog 68 #[.pointer (some ⟨R,0,none⟩),.int .i64 num] w (DA I R z w (defP I.M (lmOf I) f num k)):=by
 by_cases hl:(I.M k).kind=0∧I.lf≤(num:Int)
 ·exact rdef_lim I hE hW f hA num w R k z hz h hl hne
 ·exact rdef_live I hE hW f hA num w R k z hz h hl hne
def Dg1 (M:Nat→Mk) (L:Lm) (rr:Rs (List Fn1)) (acc:List Fn1) (k:Nat):Prop:=
 ∃ g,(acc=[]∧rr=aS M L g [] k)∨(acc≠[]∧rr=if (M k).kind=4 then .ok acc k else aS M L g acc k)
theorem dg_stop {M:Nat→Mk} {L:Lm} {rr:Rs (List Fn1)} {acc:List Fn1} {k:Nat} (h:Dg1 M L rr acc k) (hn:acc≠[]) (hk:(M k).kind=4):rr=.ok acc k:=by
 obtain⟨g,⟨e,_⟩|⟨_,e⟩⟩:=h
 ·exact absurd e hn
 ·rw[e,if_pos hk]
theorem tO {M:Nat→Mk} {L:Lm} {rr:Rs (List Fn1)} {acc:List Fn1} {k:Nat} (h:Dg1 M L rr acc k) (ho:rr≠.out) (hk:acc=[]∨(M k).kind≠4):∃ g,rr=(defP M L g acc.length k).bind fun x k1=>if (M k1).kind=4 then .ok (acc++[x]) k1 else aS M L g (acc++[x]) k1:=by
 have hp:∃ g,rr=aS M L g acc k:=by
  obtain⟨g,⟨e1,e⟩|⟨e1,e⟩⟩:=h
  ·exact⟨g,by rw[e,e1]⟩
  ·rcases hk with hk|hk
   ·exact absurd hk e1
   ·exact⟨g,by rw[e,if_neg hk]⟩
 obtain⟨g,e⟩:=hp
 cases g with
 |zero=>exact absurd e ho
 |succ g=>exact⟨g,by rw[e,aS]⟩
theorem qi {M:Nat→Mk} {L:Lm} {rr:Rs (List Fn1)} {acc:List Fn1} {k k1 g:Nat} {x:Fn1} (h:rr=(defP M L g acc.length k).bind fun x k1=>if (M k1).kind=4 then .ok (acc++[x]) k1 else aS M L g (acc++[x]) k1) (hd:defP M L g acc.length k=.ok x k1):Dg1 M L rr (acc++[x]) k1:=
 ⟨g,.inr ⟨by simp,by rw[h,hd];rfl⟩⟩
def PJ (I:Rdi) (R z gP:Nat) (w:World) (rr:Rs (List Fn1)) (wr:World):Prop:=
 Bk wr w.heap.size 26 [.slice none 0 0]∧But R w wr∧∃ (ao:Option Addr) (n cc:Nat),Bk wr gP 26 [.slice ao n cc]∧Fj wr (gP+1) (.slice ao n cc) n ∧
  ((∃ (k:Nat) (acc:List Fn1),Hid (Dg1 I.M (lmOf I) rr acc k)∧Rq I wr R k 0 0 z∧Hid (acc.length=n)∧n≤k∧FRow wr (gP+1) (.slice ao n cc) acc)∨(∃ (y:Int) (j k:Nat) (d':Int),Hid (rr=.bad y j)∧y≠0∧Rq I wr R k y (I.M j).at_ d'))
def PA (I:Rdi) (R z:Nat) (w:World) (rr:Rs (List Fn1)) (e:Ending) (w':World):Prop:=
 ∃ (ao:Option Addr) (n cc:Nat),e=.returned (.agg #[.slice ao n cc])∧(∀ gs j,rr=.ok gs j→gs.length=n∧FlW w' (fun b=>w.heap.size≤b) ao gs∧n≤cc)∧St I w' R z rr∧But R w w'
theorem rprogram_any (I:Rdi) (hE:Ends I.M I.n) (hW:∀ s∈lks,Wm I.M s) (hA:∀ g,AllR I g) (f:Nat) (w:World) (R k z:Nat) (hz:z=0) (h:Rq I w R k 0 0 z) (hne:aS I.M (lmOf I) f [] k≠.out) :
  Calls Tryz.prog 43 #[.pointer (some ⟨R,0,none⟩)] w (PA I R z w (aS I.M (lmOf I) f [] k)):=by
 obtain⟨rr,hr⟩:∃ rr,rr=aS I.M (lmOf I) f [] k:=⟨_,rfl⟩
 rw[← hr] at hne ⊢
 have HR:Hid (Dg1 I.M (lmOf I) rr [] k):=⟨f,.inl ⟨rfl,hr⟩⟩
 clear hr
 have hlt:=h.lt
 have Q_1:=h.up (ae w (.cells #[.slice none 0 0] 26))
 have U_1:=(But.refl R w).then (ae w (.cells #[.slice none 0 0] 26))
 have hB0:Bk (w.alloc (.cells #[.slice none 0 0] 26)) w.heap.size 26 [.slice none 0 0]:=Bk.new w 26 #[.slice none 0 0]
 have Q_2:=Q_1.up (ae (w.alloc (.cells #[.slice none 0 0] 26)) (.cells #[.slice none 0 0] 26))
 have U_2:=U_1.then (ae (w.alloc (.cells #[.slice none 0 0] 26)) (.cells #[.slice none 0 0] 26))
 have B_2:=hB0.up (ae (w.alloc (.cells #[.slice none 0 0] 26)) (.cells #[.slice none 0 0] 26))
 have hP0:Bk ((w.alloc (.cells #[.slice none 0 0] 26)).alloc (.cells #[.slice none 0 0] 26)) (w.heap.size+1) 26 [.slice none 0 0]:=Bk.newAt 26 #[.slice none 0 0] (by simp)
 have hJ:PJ I R z (w.heap.size+1) w rr ((w.alloc (.cells #[.slice none 0 0] 26)).alloc (.cells #[.slice none 0 0] 26)):=⟨B_2,U_2,none,0,0,hP0,Fj.nil _ _,.inl ⟨k,[],HR,Q_2,rfl,Nat.zero_le _,FRow.nil _ _⟩⟩
 obtain⟨gP,hgd⟩:∃ g,g=w.heap.size+1:=⟨_,rfl⟩
 have hg0:w.heap.size<gP:=by omega
 have hgR:R<gP∧I.b<gP:=by omega
 clear B_2 U_2 Q_2 hP0
 go_enter Tryz.func43,Tryz.ntmps43
 go_wp2_with fail
 rw[← hgd] at hJ ⊢
 clear hgd
 go_loopw [] (fun wr=>PJ I R z gP w rr wr) (fun wr=>msr I.n R wr)
 case atStart=>exact hJ
 case round=>
  obtain⟨hB,hU,ao,n,cc,hP1,hfj,hst⟩:=hrel
  have lB:=hB.lt
  have lP:=hP1.lt
  have p0:wr.cell? ⟨gP,0,none⟩=some (.slice ao n cc):=hP1.cell 0
  rcases hst with⟨k2,acc,HG,hd,HL,hnk,hrow⟩|⟨y,j,k2,d',HD,hy,hd⟩
  ·have hkn:=hd.kn
   have hsm:=hd.small
   obtain⟨-,-,c2,-⟩:=hd.nine
   have hf:=fun W=>(fldM (I.M k2) W).1
   by_cases hac:acc=[]
   ·have hn0:n=0:=by rw[← show acc.length=n from HL,hac];rfl
    have b0:((n:Int)==0)=true:=by rw[hn0];rfl
    obtain⟨g,HX⟩:=tO (show Dg1 _ _ _ _ _ from HG) hne (.inl hac)
    have HX:Hid (rr=_):=HX
    clear hac hn0
    have hn2:defP I.M (lmOf I) g n k2≠.out:=by
     intro e
     exact hne (by rw[show rr=_ from HX,show acc.length=n from HL,e];rfl)
    go_wp2_with fail
    refine (nO I hE hW g (hA g) n wr R k2 z hz hd hn2).mono ?_
    rintro e w7 ⟨us,rfl,sv,hex,hs7,hV7⟩
    obtain⟨x0,x1,x2,x3,x4,x5,x6,x7,x8,x9,x10,rfl⟩:=ib sv.len
    have hfj7:=hfj.but hV7 (by omega)
    have hrow7:=hrow.but hV7 (by omega)
    have hhas:=hfj.has
    have B_1:=hB.but hV7 (by omega)
    have U_1:=hU.trans hV7
    have P_1:=hP1.but hV7 (by omega)
    have lB_1:=B_1.lt
    have lP_1:=P_1.lt
    have s_1:=hV7.size
    go_wp2_with (first
     |(refine ah rfl 60 (.tmp 4) (.tmp 26) rfl w7.heap.size 0 [x0,x1,x2,x3,x4,x5,x6,x7,x8,x9,x10] rfl rfl (Bk.new w7 60 fz) (Nat.le_refl 11) Tryz.infoFn sv.one ?_;intro w8 X_2 hoa2;have hba2:Below w7.heap.size w7 w8:=(ae w7 (.cells fz 60)).trans (hoa2.below (Nat.le_refl _));have B_2:=B_1.up hba2;have U_2:=U_1.then hba2;have P_2:=P_1.up hba2;have Q_2:=hs7.up hba2;have lB_2:=B_2.lt;have lP_2:=P_2.lt;have lX_2:=X_2.lt;have s_2:=hba2.size;have hfj8:=hfj7.up hba2;have hrow8:=hrow7.up hba2;have hex8:=fun x j e=>(hex x j e).keep hba2.size fun b _ hl=>hba2.block b hl;have y5:w8.cell? ⟨gP,0,none⟩=some (.slice ao n cc):=P_2.cell 0;obtain⟨v9,w9,r9,j9,B9,T9⟩:=sV hfj8 (by omega) sv (by omega);obtain⟨ao9,cc9,hv9⟩:=j9.val;subst hv9;have hP9:=P_2.low B9 (by omega);have y9:w9.cell? ⟨gP,0,none⟩=some (.slice ao n cc):=hP9.cell 0;have z9:=hP9.frz 0;have R9:Hid (_=_):=r9;clear r9)
     |refine ai rfl 60 (.tmp 4) rfl w7.heap.size 0 rfl [x0,x1,x2,x3,x4,x5,x6,x7,x8,x9,x10] _ (X_2.range 0 11) Tryz.underFn Tryz.infoFn ?_
     |(at_builtin;refine wpList_append_run rfl (.tmp 28) (.tmp 30) 24 rfl rfl _ _ rfl rfl _ _ (show _=_ from R9) ?_)
     |fail)
    have hB9:=B_2.low B9 (by omega)
    have hs9:=Q_2.low B9 (by omega) (by omega)
    have hU9:=U_2.low (B9.mono (by omega))
    have hoP:=(Oth.refl gP w9).set 0 (.slice ao9 (n+1) cc9)
    have hB10:=hB9.oth hoP (by omega)
    have hP10:Bk (w9.setCell ⟨gP,0,none⟩ (.slice ao9 (n+1) cc9)) gP 26 [(.slice ao9 (n+1) cc9)]:=hP9.set 0 _
    have hU10:=hoP.but hU9 (by omega)
    have hbP:But gP w9 (w9.setCell ⟨gP,0,none⟩ (.slice ao9 (n+1) cc9)):=⟨hoP.os,hoP.tape,hoP.output,by rw[hoP.size];omega,fun i _ hn=>hoP.block i hn⟩
    have hs10:=bO hs9 hbP (by omega) (by omega)
    have hfj10:Fj (w9.setCell ⟨gP,0,none⟩ (.slice ao9 (n+1) cc9)) (gP+1) (.slice ao9 (n+1) cc9) (n+1):=j9.keep fun b hb _=>hoP.block b (by omega)
    have hrow10:=fun x j e=>FRow.keep (T9 acc x hrow8 (show acc.length=n from HL) ((hex8 x j e).imp fun nc hnc _=>⟨by omega,fun e=>by have:=(hhas nc e).2;omega⟩)) (w':=(w9.setCell ⟨gP,0,none⟩ (.slice ao9 (n+1) cc9))) (Nat.le_of_eq hoP.size.symm) fun b hb _=>hoP.block b (by omega)
    have ms1:=aT hd
    cases hq2:defP I.M (lmOf I) g n k2 with
    |out=>exact absurd hq2 hn2
    |bad y j=>
     have HE:Hid (rr=.bad y j):=by show rr=_;rw[show rr=_ from HX,show acc.length=n from HL,hq2];rfl
     rw[hq2] at hs10
     obtain⟨hy,kz,dz,hdz⟩:=hs10
     have ms2:=bL hy hdz
     try dsimp only[Act.put]
     go_roundw
     case rel=>exact⟨hB10,hU10,ao9,n+1,cc9,hP10,hfj10,.inr ⟨y,j,kz,dz,HE,hy,hdz⟩⟩
     case measure=>exact bv ms1 ms2 hkn
    |ok a k3=>
     have HE:Hid (Dg1 I.M (lmOf I) rr (acc++[a]) k3):=qi (show rr=_ from HX) (by rw[show acc.length=n from HL];exact hq2)
     rw[hq2] at hs10
     have hdz:Rq I (w9.setCell ⟨gP,0,none⟩ (.slice ao9 (n+1) cc9)) R k3 0 0 z:=hs10
     have hge:k2+1≤k3:=qm hq2
     have ms2:=aT hdz
     have HL2:Hid ((acc++[a]).length=n+1):=by show _=_;rw[List.length_append,show acc.length=n from HL];rfl
     try dsimp only[Act.put]
     go_roundw
     case rel=>exact⟨hB10,hU10,ao9,n+1,cc9,hP10,hfj10,.inl ⟨k3,acc++[a],HE,hdz,HL2,by omega,hrow10 a k3 hq2⟩⟩
     case measure=>exact bu ms1 ms2 hkn hge
   ·have hn0:0<n:=by
     rw[← show acc.length=n from HL]
     exact List.length_pos_iff.2 hac
    have b0:((n:Int)==0)=false:=by rw[beq_eq_false_iff_ne];omega
    go_wp2_with fail
    refine (aB I wr R k2 0 0 z hd).mono ?_
    rintro e w6 ⟨rfl,hb6⟩
    unfold mkV
    by_cases h4:(I.M k2).kind=4
    ·have b4:((I.M k2).kind != 4)=false:=by rw[h4];rfl
     have HE:rr=.ok acc k2:=dg_stop (show Dg1 _ _ _ _ _ from HG) hac h4
     clear h4 hac
     have B_1:=hB.up hb6
     have U_1:=hU.then hb6
     have P_1:=hP1.up hb6
     have Q_1:=hd.up hb6
     have lB_1:=B_1.lt
     have lP_1:=P_1.lt
     have s_1:=hb6.size
     have hrow6:=hrow.up hb6
     go_wp2_with (first
      |refine ai rfl 26 (.tmp 3) rfl gP 0 rfl [.slice ao n cc] _ (P_1.range 0 1) Tryz.underPr Tryz.infoPr ?_
      |(refine ah rfl 26 (.tmp 2) (.tmp 33) rfl w.heap.size 0 [.slice ao n cc] rfl rfl B_1 (Nat.le_refl 1) Tryz.infoPr (by intro u hu;simp only[List.mem_cons,List.not_mem_nil,or_false] at hu;rw[hu];rfl) ?_;intro wz hBz hoz;have q0:wz.cell? ⟨w.heap.size,0,none⟩=some (.slice ao n cc):=hBz.cell 0)
      |fail)
     have U_2:=hoz.but U_1 (by omega)
     have P_2:=P_1.oth hoz (by omega)
     have Q_2:=Q_1.oth hoz (by omega) (by omega)
     refine bodyPost_ret (v:=.agg #[.slice ao n cc]) (by simp[results,Tryz.results43,go_sem,q0]) rfl ⟨ao,n,cc,rfl,?_,?_,U_2⟩
     ·intro gs j e
      rw[HE] at e
      cases e
      have hrz:=hrow6.keep (w':=wz) (Nat.le_of_eq hoz.size.symm) fun b hb _=>hoz.block b (by omega)
      obtain⟨ao',c',e,hfl,hle⟩:=hrz.read
      rw[show acc.length=n from HL] at e hle
      cases e
      exact⟨HL,hfl.imp fun b hb _=>by omega,hle⟩
     ·rw[HE]
      exact Q_2
    ·have b4:((I.M k2).kind != 4)=true:=by rw[bne_iff_ne];exact h4
     obtain⟨g,HX⟩:=tO (show Dg1 _ _ _ _ _ from HG) hne (.inr h4)
     have HX:Hid (rr=_):=HX
     clear h4 hac
     have B_1:=hB.up hb6
     have U_1:=hU.then hb6
     have P_1:=hP1.up hb6
     have Q_1:=hd.up hb6
     have lB_1:=B_1.lt
     have lP_1:=P_1.lt
     have s_1:=hb6.size
     have hfjb:=hfj.up hb6
     have hrowb:=hrow.up hb6
     have p6:w6.cell? ⟨gP,0,none⟩=some (.slice ao n cc):=P_1.cell 0
     have hn2:defP I.M (lmOf I) g n k2≠.out:=by
      intro e
      exact hne (by rw[show rr=_ from HX,show acc.length=n from HL,e];rfl)
     go_wp2_with fail
     refine (nO I hE hW g (hA g) n w6 R k2 z hz Q_1 hn2).mono ?_
     rintro e w7 ⟨us,rfl,sv,hex,hs7,hV7⟩
     obtain⟨x0,x1,x2,x3,x4,x5,x6,x7,x8,x9,x10,rfl⟩:=ib sv.len
     have hfj7:=hfjb.but hV7 (by omega)
     have hrow7:=hrowb.but hV7 (by omega)
     have hhas:=hfjb.has
     have B_2:=B_1.but hV7 (by omega)
     have U_2:=U_1.trans hV7
     have P_2:=P_1.but hV7 (by omega)
     have lB_2:=B_2.lt
     have lP_2:=P_2.lt
     have s_2:=hV7.size
     go_wp2_with (first
      |(refine ah rfl 60 (.tmp 4) (.tmp 26) rfl w7.heap.size 0 [x0,x1,x2,x3,x4,x5,x6,x7,x8,x9,x10] rfl rfl (Bk.new w7 60 fz) (Nat.le_refl 11) Tryz.infoFn sv.one ?_;intro w8 X_3 hoa3;have hba3:Below w7.heap.size w7 w8:=(ae w7 (.cells fz 60)).trans (hoa3.below (Nat.le_refl _));have B_3:=B_2.up hba3;have U_3:=U_2.then hba3;have P_3:=P_2.up hba3;have Q_3:=hs7.up hba3;have lB_3:=B_3.lt;have lP_3:=P_3.lt;have lX_3:=X_3.lt;have s_3:=hba3.size;have hfj8:=hfj7.up hba3;have hrow8:=hrow7.up hba3;have hex8:=fun x j e=>(hex x j e).keep hba3.size fun b _ hl=>hba3.block b hl;have y5:w8.cell? ⟨gP,0,none⟩=some (.slice ao n cc):=P_3.cell 0;obtain⟨v9,w9,r9,j9,B9,T9⟩:=sV hfj8 (by omega) sv (by omega);obtain⟨ao9,cc9,hv9⟩:=j9.val;subst hv9;have hP9:=P_3.low B9 (by omega);have y9:w9.cell? ⟨gP,0,none⟩=some (.slice ao n cc):=hP9.cell 0;have z9:=hP9.frz 0;have R9:Hid (_=_):=r9;clear r9)
      |refine ai rfl 60 (.tmp 4) rfl w7.heap.size 0 rfl [x0,x1,x2,x3,x4,x5,x6,x7,x8,x9,x10] _ (X_3.range 0 11) Tryz.underFn Tryz.infoFn ?_
      |(at_builtin;refine wpList_append_run rfl (.tmp 28) (.tmp 30) 24 rfl rfl _ _ rfl rfl _ _ (show _=_ from R9) ?_)
      |fail)
     have hB9:=B_3.low B9 (by omega)
     have hs9:=Q_3.low B9 (by omega) (by omega)
     have hU9:=U_3.low (B9.mono (by omega))
     have hoP:=(Oth.refl gP w9).set 0 (.slice ao9 (n+1) cc9)
     have hB10:=hB9.oth hoP (by omega)
     have hP10:Bk (w9.setCell ⟨gP,0,none⟩ (.slice ao9 (n+1) cc9)) gP 26 [(.slice ao9 (n+1) cc9)]:=hP9.set 0 _
     have hU10:=hoP.but hU9 (by omega)
     have hbP:But gP w9 (w9.setCell ⟨gP,0,none⟩ (.slice ao9 (n+1) cc9)):=⟨hoP.os,hoP.tape,hoP.output,by rw[hoP.size];omega,fun i _ hn=>hoP.block i hn⟩
     have hs10:=bO hs9 hbP (by omega) (by omega)
     have hfj10:Fj (w9.setCell ⟨gP,0,none⟩ (.slice ao9 (n+1) cc9)) (gP+1) (.slice ao9 (n+1) cc9) (n+1):=j9.keep fun b hb _=>hoP.block b (by omega)
     have hrow10:=fun x j e=>FRow.keep (T9 acc x hrow8 (show acc.length=n from HL) ((hex8 x j e).imp fun nc hnc _=>⟨by omega,fun e=>by have:=(hhas nc e).2;omega⟩)) (w':=(w9.setCell ⟨gP,0,none⟩ (.slice ao9 (n+1) cc9))) (Nat.le_of_eq hoP.size.symm) fun b hb _=>hoP.block b (by omega)
     have ms1:=aT hd
     cases hq2:defP I.M (lmOf I) g n k2 with
     |out=>exact absurd hq2 hn2
     |bad y j=>
      have HE:Hid (rr=.bad y j):=by show rr=_;rw[show rr=_ from HX,show acc.length=n from HL,hq2];rfl
      rw[hq2] at hs10
      obtain⟨hy,kz,dz,hdz⟩:=hs10
      have ms2:=bL hy hdz
      try dsimp only[Act.put]
      go_roundw
      case rel=>exact⟨hB10,hU10,ao9,n+1,cc9,hP10,hfj10,.inr ⟨y,j,kz,dz,HE,hy,hdz⟩⟩
      case measure=>exact bv ms1 ms2 hkn
     |ok a k3=>
      have HE:Hid (Dg1 I.M (lmOf I) rr (acc++[a]) k3):=qi (show rr=_ from HX) (by rw[show acc.length=n from HL];exact hq2)
      rw[hq2] at hs10
      have hdz:Rq I (w9.setCell ⟨gP,0,none⟩ (.slice ao9 (n+1) cc9)) R k3 0 0 z:=hs10
      have hge:k2+1≤k3:=qm hq2
      have ms2:=aT hdz
      have HL2:Hid ((acc++[a]).length=n+1):=by show _=_;rw[List.length_append,show acc.length=n from HL];rfl
      try dsimp only[Act.put]
      go_roundw
      case rel=>exact⟨hB10,hU10,ao9,n+1,cc9,hP10,hfj10,.inl ⟨k3,acc++[a],HE,hdz,HL2,by omega,hrow10 a k3 hq2⟩⟩
      case measure=>exact bu ms1 ms2 hkn hge
  ·obtain⟨-,-,c2,-⟩:=hd.nine
   have b0:(y==0)=false:=by rw[beq_eq_false_iff_ne];exact hy
   have hsd:St I wr R z rr:=by
    rw[show rr=_ from HD]
    exact⟨hy,k2,d',hd⟩
   go_upto_region 5 with fail
   go_wp2_with (first
    |refine ai rfl 26 (.tmp 3) rfl gP 0 rfl [.slice ao n cc] _ (hP1.range 0 1) Tryz.underPr Tryz.infoPr ?_
    |(refine ah rfl 26 (.tmp 2) (.tmp 33) rfl w.heap.size 0 [.slice ao n cc] rfl rfl hB (Nat.le_refl 1) Tryz.infoPr (by intro u hu;simp only[List.mem_cons,List.not_mem_nil,or_false] at hu;rw[hu];rfl) ?_;intro wz hBz hoz;have q0:wz.cell? ⟨w.heap.size,0,none⟩=some (.slice ao n cc):=hBz.cell 0)
    |fail)
   have U_1:=hoz.but hU (by omega)
   have P_1:=hP1.oth hoz (by omega)
   have Q_1:=hsd.oth hoz (by omega) (by omega)
   refine bodyPost_ret (v:=.agg #[.slice ao n cc]) (by simp[results,Tryz.results43,go_sem,q0]) rfl ⟨ao,n,cc,rfl,?_,?_,U_1⟩
   ·intro gs j e
    rw[show rr=_ from HD] at e
    cases e
   ·exact Q_1
theorem rparse_all (ao:Option Addr) (cap:Nat) (l:List UInt8) (hcap:l.length≤cap) (lt lf la ln:Int) (hln:ln≤9223372036854775807) (w:World) (hT:Bd w ao l) (f:Nat)
  (hf:∀ ms,cut rdN l 0=.ok ms→aS (mf ms) ⟨max lf 0,max la 0,max ln 0⟩ f [] 0≠.out) :
  Calls Tryz.prog 25 #[.slice ao l.length cap,.agg #[.int .i64 lt,.int .i64 lf,.int .i64 la,.int .i64 ln]] w fun e w'=>Below w.heap.size w w'∧paV l lt lf la ln f w.heap.size e w':=by
 have hL0:=((Bk.new w 65 #[.int .i64 lt,.int .i64 lf,.int .i64 la,.int .i64 ln]).up (ae _ (.cells #[.slice none 0 0] 26))).up (ae _ (.cells #[.int .i64 0,.int .i64 0] 49))
 have hP0:=(Bk.newAt (w:=w.alloc (.cells #[.int .i64 lt,.int .i64 lf,.int .i64 la,.int .i64 ln] 65)) (n:=w.heap.size+1) 26 #[.slice none 0 0] (by simp)).up (ae _ (.cells #[.int .i64 0,.int .i64 0] 49))
 have hF0:=Bk.newAt (w:=(w.alloc (.cells #[.int .i64 lt,.int .i64 lf,.int .i64 la,.int .i64 ln] 65)).alloc (.cells #[.slice none 0 0] 26)) (n:=w.heap.size+1+1) 49 #[.int .i64 0,.int .i64 0] (by simp)
 have hB0:=Below.thn (bC w (.cells #[.int .i64 lt,.int .i64 lf,.int .i64 la,.int .i64 ln] 65) (.cells #[.slice none 0 0] 26)) (ae _ (.cells #[.int .i64 0,.int .i64 0] 49))
 obtain⟨W0,hW0⟩:∃ W0,W0=((w.alloc (.cells #[.int .i64 lt,.int .i64 lf,.int .i64 la,.int .i64 ln] 65)).alloc (.cells #[.slice none 0 0] 26)).alloc (.cells #[.int .i64 0,.int .i64 0] 49):=⟨_,rfl⟩
 rw[← hW0] at hL0 hP0 hF0 hB0
 go_enter Tryz.func25,Tryz.ntmps25
 go_upto_region 1 with fail
 rw[← hW0]
 clear hW0
 obtain⟨T,hTd⟩:∃ T,T=min (max lt 0) 32768:=⟨_,rfl⟩
 have c0:=(show Bk W0 w.heap.size _ [_,_,_,_] from hL0).four.1
 have z0:=hL0.frz 0
 have hL1:Bk (W0.setCell ⟨w.heap.size,0,none⟩ (.int .i64 T)) w.heap.size 65 [.int .i64 T,.int .i64 lf,.int .i64 la,.int .i64 ln]:=hL0.set 0 _
 have ho1:=(Oth.refl w.heap.size W0).set 0 (.int .i64 T)
 have hP1:=hP0.oth ho1 (by omega)
 have hF1:=hF0.oth ho1 (by omega)
 have hB1:Below w.heap.size w (W0.setCell ⟨w.heap.size,0,none⟩ (.int .i64 T)):=hB0.trans (ho1.below (Nat.le_refl _))
 go_upto_region 2 with fail
 rw[← hTd]
 obtain⟨W1,hW1⟩:∃ W1,W1=W0.setCell ⟨w.heap.size,0,none⟩ (.int .i64 T):=⟨_,rfl⟩
 rw[← hW1] at hL1 hP1 hF1 hB1 ⊢
 clear hW1 ho1 c0 z0 hL0 hP0 hF0 hB0
 have HT:Hid (T=cT lt):=hTd
 clear hTd
 have d0:=hL1.four.1
 have hPl:=hP1.lt
 have hFl:=hF1.lt
 by_cases hbig:T<l.length
 ·have hbd:decide (T<(l.length:Int))=true:=by rw[decide_eq_true_eq];exact hbig
  have e0:=hP1.cell 0
  have e1:=hP1.frz 0
  have d0':=hF1.cell 0
  have d1:=hF1.cell 1
  have d2:=hF1.frz 0
  have d3:=hF1.frz 1
  go_wp2_with fail
  go_region
  all_goals
   go_wp2
   have e1:Bk ((((W1.setCell ⟨w.heap.size+1,0,none⟩ (.slice none 0 0)).setCell ⟨w.heap.size+1+1,0,none⟩ (.int .i64 22)).setCell ⟨w.heap.size+1+1,1,none⟩ (.int .i64 T)).drew) (w.heap.size+1) 26 [.slice none 0 0]:=((hP1.set 0 _).out (by omega)).out (by omega)
   have e2:Bk ((((W1.setCell ⟨w.heap.size+1,0,none⟩ (.slice none 0 0)).setCell ⟨w.heap.size+1+1,0,none⟩ (.int .i64 22)).setCell ⟨w.heap.size+1+1,1,none⟩ (.int .i64 T)).drew) (w.heap.size+1+1) 49 [.int .i64 22,.int .i64 T]:=((hF1.out (by omega)).set 0 _).set 1 _
   have e3:=((((TwO.refl (w.heap.size+1) (w.heap.size+1+1) W1).setP 0 (.slice none 0 0)).setQ 0 (.int .i64 22)).setQ 1 (.int .i64 T)).drew
   have p0:=e1.cell 0
   have f0:=e2.cell 0
   have f1:=e2.cell 1
   have hfin:Below w.heap.size w ((((W1.setCell ⟨w.heap.size+1,0,none⟩ (.slice none 0 0)).setCell ⟨w.heap.size+1+1,0,none⟩ (.int .i64 22)).setCell ⟨w.heap.size+1+1,1,none⟩ (.int .i64 T)).drew)∧paV l lt lf la ln f w.heap.size (.returned (fw 22 T)) ((((W1.setCell ⟨w.heap.size+1,0,none⟩ (.slice none 0 0)).setCell ⟨w.heap.size+1+1,0,none⟩ (.int .i64 22)).setCell ⟨w.heap.size+1+1,1,none⟩ (.int .i64 T)).drew):=by
    refine⟨hB1.trans (e3.below (by omega) (by omega)),?_⟩
    unfold paV
    rw[if_pos (by rw[← show T=_ from HT];exact hbig),← show T=_ from HT]
   generalize hW:(((W1.setCell ⟨w.heap.size+1,0,none⟩ (.slice none 0 0)).setCell ⟨w.heap.size+1+1,0,none⟩ (.int .i64 22)).setCell ⟨w.heap.size+1+1,1,none⟩ (.int .i64 T)).drew=W at *
   refine bodyPost_ret (v:=fw 22 T) (by simp[results,Tryz.results25,go_sem,fw,show W.cell? ⟨w.heap.size+1,0,none⟩=some (.slice none 0 0) from p0,show W.cell? ⟨w.heap.size+1+1,0,none⟩=some (.int .i64 22) from f0,show W.cell? ⟨w.heap.size+1+1,1,none⟩=some (.int .i64 T) from f1]) rfl hfin
 ·have hbd:decide (T<(l.length:Int))=false:=by rw[decide_eq_false_iff_not];exact hbig
  have hlm:(l.length:Int)≤32768:=by have:=show T=_ from HT;unfold cT at this;omega
  have HB:Hid ((l.length:Int)≤cT lt):=by show _≤_;rw[← show T=_ from HT];omega
  clear hbig
  go_wp2_with fail
  refine (refMarks_any ao cap l (by omega) hcap W1 (hT.up hB1)).mono ?_
  rintro e w3 ⟨hra,hb3⟩
  have hL3:=hL1.up hb3
  have hP3:=hP1.up hb3
  have hF3:=hF1.up hb3
  have hB3:=Below.thn hB1 hb3
  have hz3:=hb3.size
  obtain⟨cA,hcA⟩:∃ c,c=cut rdN l 0:=⟨_,rfl⟩
  rw[← hcA] at hra
  clear hL1 hP1 hF1 hB1 d0 hbd
  cases cA with
  |bad k=>
   have HA:Hid (Cu.bad k=cut rdN l 0):=hcA
   clear hcA hf
   rw[show e=_ from hra]
   clear hra
   have b0:decide (0≤(k:Int))=true:=by rw[decide_eq_true_eq];omega
   go_wp2_with (first
    |(refine ah rfl 26 (.tmp 4) (.tmp 31) rfl (w.heap.size+1) 0 [.slice none 0 0] rfl rfl hP3 (Nat.le_refl 1) Tryz.infoPr (onc1 _ rfl) ?_;intro w4 hP4 ho4;have hF4:=hF3.oth ho4 (by omega))
    |(refine ah rfl 49 (.tmp 5) (.tmp 33) rfl (w.heap.size+1+1) 0 [.int .i64 20,.int .i64 k] rfl rfl hF4 (Nat.le_refl 2) Tryz.infoF (onc2 _ _ rfl rfl) ?_;intro w5 hF5 ho5;have hP5:=hP4.oth ho5 (by omega))
    |fail)
   have p0:w5.cell? ⟨w.heap.size+1,0,none⟩=some (.slice none 0 0):=hP5.cell 0
   obtain⟨f0,f1⟩:=Bk.two (show Bk w5 (w.heap.size+1+1) _ [_,_] from hF5)
   refine bodyPost_ret (v:=fw 20 k) (by simp[results,Tryz.results25,go_sem,fw,p0,f0,f1]) rfl ⟨(hB3.trans (ho4.below (by omega))).trans (ho5.below (by omega)),?_⟩
   unfold paV
   rw[if_neg (Int.not_lt.2 (show _≤_ from HB)),← show Cu.bad k=_ from HA]
  |ok ms=>
   have hrow:=ji rdN _ _ _ hcA.symm
   have hfew:=ny _ _ _ hcA.symm
   have hne:=hf ms hcA.symm
   have hwm:=mf_wm hcA.symm
   have hkw:=mf_kw hcA.symm
   have HA:Hid (Cu.ok ms=cut rdN l 0):=hcA
   clear hcA hf
   have hpos:=hrow.pos
   obtain⟨g,c,rfl,hown⟩:=hra
   have hmr:=Mr.of hown
   have hgl:=(qE hown g rfl)
   have hgB:=owns_ge hown
   have hb4:=ae w3 (.cells #[.slice (some ⟨g,0,none⟩) ms.length c,.int .i64 0,.int .i64 0,.int .i64 0,.int .i64 T,.int .i64 lf,.int .i64 la,.int .i64 ln,.int .i64 0] 92)
   obtain⟨I,hI⟩:∃ I:Rdi,I=⟨g,0,c,ms.length,mf ms,T,lf,la,ln⟩:=⟨_,rfl⟩
   obtain⟨z,hz⟩:∃ z:Nat,z=0:=⟨_,rfl⟩
   have hrq:Rq I (w3.alloc (.cells #[.slice (some ⟨g,0,none⟩) ms.length c,.int .i64 0,.int .i64 0,.int .i64 0,.int .i64 T,.int .i64 lf,.int .i64 la,.int .i64 ln,.int .i64 0] 92)) w3.heap.size 0 0 0 z:=by
    subst hI
    subst hz
    refine⟨Bk.new w3 92 #[.slice (some ⟨g,0,none⟩) ms.length c,.int .i64 0,.int .i64 0,.int .i64 0,.int .i64 T,.int .i64 lf,.int .i64 la,.int .i64 ln,.int .i64 0],fun t ht=>?_,Nat.ne_of_lt hgl,hpos,by show ms.length≤_;omega⟩
    have h1:=hmr.at t ht
    have e:mf ms t=ms.getD t md:=by unfold mf;simp[List.getD_eq_getElem?_getD,show t<ms.length from ht]
    show M4 _ g (0+t*4) (mf ms t)
    rw[e]
    exact h1.to h1.lt hb4
   have hIn:I.n=ms.length:=by rw[hI]
   have hIM:I.M=mf ms:=by rw[hI]
   have hIL:lmOf I=⟨lf,la,ln⟩:=by rw[hI];rfl
   have hEn:Ends I.M I.n:=by rw[hIn,hIM];exact hrow.ends
   have hpe:aS I.M (lmOf I) f [] 0=aS (mf ms) ⟨max lf 0,max la 0,max ln 0⟩ f [] 0:=by rw[hIM,hIL];exact clamped _ _ _ _ _ _ _
   have hWI:∀ s∈lks,Wm I.M s:=by rw[hIM];exact hwm
   have hKI:Kw I.M:=by rw[hIM];exact hkw
   have hpr:=rprogram_any I hEn hWI (allR I hEn hWI hKI (by rw[hI];exact hln)) f _ w3.heap.size 0 z hz hrq (by rw[hpe];exact hne)
   rw[hpe] at hpr
   have HIM:Hid (I.M=mf ms):=hIM
   have hP4:=hP3.up hb4
   have hF4:=hF3.up hb4
   have hB4:=Below.thn hB3 hb4
   clear hI hrq hIn hIM hIL hEn hpe hWI hKI hmr hown hwm hkw hrow
   have b0:decide (0≤(-1:Int))=false:=by decide
   go_wp2_with (first
    |refine ai rfl 65 (.tmp 3) rfl w.heap.size 0 rfl [.int .i64 T,.int .i64 lf,.int .i64 la,.int .i64 ln] _ (hL3.range 0 4) Tryz.underL Tryz.infoL ?_
    |fail)
   refine hpr.mono ?_
   rintro e w6 ⟨ao',n,cc,rfl,hok,hst,hV6⟩
   have hz6:=hV6.size
   have es4:(w3.alloc (.cells #[.slice (some ⟨g,0,none⟩) ms.length c,.int .i64 0,.int .i64 0,.int .i64 0,.int .i64 T,.int .i64 lf,.int .i64 la,.int .i64 ln,.int .i64 0] 92)).heap.size=w3.heap.size+1:=by simp
   rw[es4] at hz6 hok
   have hP6:=hP4.but hV6 (by omega)
   have hF6:=hF4.but hV6 (by omega)
   have hB6:Below w.heap.size w w6:=hB4.trans (hV6.below (by omega) hB4.size)
   have hb7:=ae w6 (.cells #[.slice ao' n cc] 26)
   have hN7:Bk (w6.alloc (.cells #[.slice ao' n cc] 26)) w6.heap.size 26 [.slice ao' n cc]:=Bk.new w6 26 #[.slice ao' n cc]
   have hP7:=hP6.up hb7
   have hF7:=hF6.up hb7
   have hB7:=Below.thn hB6 hb7
   clear hP3 hF3 hP4 hF4 hP6 hF6 hpr hL3
   obtain⟨W7,hW7⟩:∃ W7,W7=w6.alloc (.cells #[.slice ao' n cc] 26):=⟨_,rfl⟩
   have hs7:W7.heap.size=w6.heap.size+1:=by rw[hW7];simp
   cases hq:aS (mf ms) ⟨max lf 0,max la 0,max ln 0⟩ f [] 0 with
   |out=>exact absurd hq hne
   |bad y j=>
    rw[hq] at hst
    obtain⟨hy,k',d',hrq⟩:=hst
    have hr7:=hrq.up hb7
    rw[← hW7] at hN7 hP7 hF7 hB7 hr7
    obtain⟨-,-,c2,c3,-⟩:=hr7.nine
    have b1:(y != 0)=true:=by rw[bne_iff_ne];exact hy
    rw[show I.M=mf ms from HIM] at c3
    have e0:=hP7.cell 0
    have e1:=hP7.frz 0
    have d0:=hF7.cell 0
    have d1:=hF7.cell 1
    have d2:=hF7.frz 0
    have d3:=hF7.frz 1
    clear hok hrq hr7 hN7
    go_upto_region 9 with fail
    rw[← hW7]
    clear hW7
    go_wp2_with fail
    go_region
    all_goals
     go_wp2
     have e1:Bk ((((W7.setCell ⟨w.heap.size+1,0,none⟩ (.slice none 0 0)).setCell ⟨w.heap.size+1+1,0,none⟩ (.int .i64 y)).setCell ⟨w.heap.size+1+1,1,none⟩ (.int .i64 (mf ms j).at_)).drew) (w.heap.size+1) 26 [.slice none 0 0]:=((hP7.set 0 _).out (by omega)).out (by omega)
     have e2:Bk ((((W7.setCell ⟨w.heap.size+1,0,none⟩ (.slice none 0 0)).setCell ⟨w.heap.size+1+1,0,none⟩ (.int .i64 y)).setCell ⟨w.heap.size+1+1,1,none⟩ (.int .i64 (mf ms j).at_)).drew) (w.heap.size+1+1) 49 [.int .i64 y,.int .i64 (mf ms j).at_]:=((hF7.out (by omega)).set 0 _).set 1 _
     have e3:=((((TwO.refl (w.heap.size+1) (w.heap.size+1+1) W7).setP 0 (.slice none 0 0)).setQ 0 (.int .i64 y)).setQ 1 (.int .i64 (mf ms j).at_)).drew
     have p0:=e1.cell 0
     have f0:=e2.cell 0
     have f1:=e2.cell 1
     have hfin:Below w.heap.size w ((((W7.setCell ⟨w.heap.size+1,0,none⟩ (.slice none 0 0)).setCell ⟨w.heap.size+1+1,0,none⟩ (.int .i64 y)).setCell ⟨w.heap.size+1+1,1,none⟩ (.int .i64 (mf ms j).at_)).drew)∧paV l lt lf la ln f w.heap.size (.returned (fw y (mf ms j).at_)) ((((W7.setCell ⟨w.heap.size+1,0,none⟩ (.slice none 0 0)).setCell ⟨w.heap.size+1+1,0,none⟩ (.int .i64 y)).setCell ⟨w.heap.size+1+1,1,none⟩ (.int .i64 (mf ms j).at_)).drew):=by
      refine⟨hB7.trans (e3.below (by omega) (by omega)),?_⟩
      unfold paV
      rw[if_neg (Int.not_lt.2 (show _≤_ from HB)),← show Cu.ok ms=_ from HA]
      dsimp only
      rw[hq]
     generalize hW:(((W7.setCell ⟨w.heap.size+1,0,none⟩ (.slice none 0 0)).setCell ⟨w.heap.size+1+1,0,none⟩ (.int .i64 y)).setCell ⟨w.heap.size+1+1,1,none⟩ (.int .i64 (mf ms j).at_)).drew=W at *
     refine bodyPost_ret (v:=fw y (mf ms j).at_) (by simp[results,Tryz.results25,go_sem,fw,show W.cell? ⟨w.heap.size+1,0,none⟩=some (.slice none 0 0) from p0,show W.cell? ⟨w.heap.size+1+1,0,none⟩=some (.int .i64 y) from f0,show W.cell? ⟨w.heap.size+1+1,1,none⟩=some (.int .i64 (mf ms j).at_) from f1]) rfl hfin
   |ok gs j=>
    rw[hq] at hst hok
    have hrq:Rq I w6 w3.heap.size j 0 0 z:=hst
    obtain⟨hgn,hfl,hle⟩:=hok gs j rfl
    have hr7:=hrq.up hb7
    have hfl7:=hfl.keep (w':=w6.alloc (.cells #[.slice ao' n cc] 26)) (by simp) fun b _ hl=>hb7.block b hl
    rw[← hW7] at hN7 hP7 hF7 hB7 hr7 hfl7
    obtain⟨-,-,c2,-⟩:=hr7.nine
    have HGN:Hid (gs.length=n):=hgn
    have hNl:=hN7.lt
    clear hok hrq hr7 hgn hfl
    go_upto_region 9 with fail
    rw[← hW7]
    clear hW7
    go_wp2_with (first
     |refine ai rfl 26 (.tmp 9) rfl w6.heap.size 0 rfl [.slice ao' n cc] _ (hN7.range 0 1) Tryz.underPr Tryz.infoPr ?_
     |(refine ah rfl 26 (.tmp 4) (.tmp 55) rfl (w.heap.size+1) 0 [.slice ao' n cc] rfl rfl hP7 (Nat.le_refl 1) Tryz.infoPr (onc1 _ rfl) ?_;intro w8 hP8 ho8;have hF8:=hF7.oth ho8 (by omega))
     |(refine ah rfl 49 (.tmp 5) (.tmp 56) rfl (w.heap.size+1+1) 0 [.int .i64 0,.int .i64 0] rfl rfl hF8 (Nat.le_refl 2) Tryz.infoF (onc2 _ _ rfl rfl) ?_;intro w9 hF9 ho9;have hP9:=hP8.oth ho9 (by omega))
     |fail)
    have p0:w9.cell? ⟨w.heap.size+1,0,none⟩=some (.slice ao' n cc):=hP9.cell 0
    obtain⟨f0,f1⟩:=Bk.two (show Bk w9 (w.heap.size+1+1) _ [_,_] from hF9)
    have hfl9:FlW w9 (fun b=>w.heap.size≤b) ao' gs:=((hfl7.keep (w':=w8) (Nat.le_of_eq ho8.size.symm) fun b hb _=>ho8.block b (by omega)).keep (w':=w9) (Nat.le_of_eq ho9.size.symm) fun b hb _=>ho9.block b (by omega)).imp fun b hb _=>by omega
    refine bodyPost_ret (v:=.tuple #[.agg #[.slice ao' n cc],.agg #[.int .i64 0,.int .i64 0]]) (by simp[results,Tryz.results25,go_sem,p0,f0,f1]) rfl ⟨(hB7.trans (ho8.below (by omega))).trans (ho9.below (by omega)),?_⟩
    unfold paV
    rw[if_neg (Int.not_lt.2 (show _≤_ from HB)),← show Cu.ok ms=_ from HA]
    dsimp only
    rw[hq]
    refine⟨ao',cc,?_,hfl9,by rw[show gs.length=n from HGN];exact hle⟩
    rw[show gs.length=n from HGN]
end Go.Proofs.YtimoappbefindaaGreat
