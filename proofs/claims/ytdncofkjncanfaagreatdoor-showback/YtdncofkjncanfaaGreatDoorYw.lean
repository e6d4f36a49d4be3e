/-
  The walk of the document's program.
-/
import Derived.Test.YtdncofkjncanfaaGreatDoorYu
import Derived.Test.YtdncofkjncanfaaGreatDoorYv
namespace Go.Proofs.YtdncofkjncanfaaGreatDoor
open Go.RowKit
set_option maxRecDepth 100000
theorem Tryz.underPr:Tryz.prog.underlying 29=some (.struct (Tryz.prog.underlying 29 |>.map (fun|.struct f=>f|_=>#[]) |>.getD #[])):=by kernel_rfl
theorem rdef_any (I:Rdi) (hE:Ends I.M I.n) (hW:∀ s∈lks,Wm I.M s) (f:Nat) (hA:AllR I f) (num:Nat) (w:World) (R k z:Nat) (hz:z=0) (h:Rq I w R k 0 0 z) (hne:defP I.M (lmOf I) f num k≠.out) :
  Calls Tryz.prog 37 #[.pointer (some ⟨R,0,none⟩),.int .i64 num] w (DA I R z w (defP I.M (lmOf I) f num k)):=by
 by_cases hl:(I.M k).kind=0∧I.lf≤(num:Int)
 ·exact rdef_lim I hE hW f hA num w R k z hz h hl hne
 ·exact rdef_live I hE hW f hA num w R k z hz h hl hne
def Dg1 (M:Nat→Mk) (L:Lm) (rr:Rs (List Fn1)) (acc:List Fn1) (k:Nat):Prop:=
 ∃ g,(acc=[]∧rr=progL M L g [] k)∨(acc≠[]∧rr=if (M k).kind=4 then .ok acc k else progL M L g acc k)
theorem dg_stop {M:Nat→Mk} {L:Lm} {rr:Rs (List Fn1)} {acc:List Fn1} {k:Nat} (h:Dg1 M L rr acc k) (hn:acc≠[]) (hk:(M k).kind=4):rr=.ok acc k:=by
 obtain⟨g,⟨e,_⟩|⟨_,e⟩⟩:=h
 ·exact absurd e hn
 ·rw[e,if_pos hk]
theorem dg_go {M:Nat→Mk} {L:Lm} {rr:Rs (List Fn1)} {acc:List Fn1} {k:Nat} (h:Dg1 M L rr acc k) (ho:rr≠.out) (hk:acc=[]∨(M k).kind≠4):∃ g,rr=(defP M L g acc.length k).bind fun x k1=>if (M k1).kind=4 then .ok (acc++[x]) k1 else progL M L g (acc++[x]) k1:=by
 have hp:∃ g,rr=progL M L g acc k:=by
  obtain⟨g,⟨e1,e⟩|⟨e1,e⟩⟩:=h
  ·exact⟨g,by rw[e,e1]⟩
  ·rcases hk with hk|hk
   ·exact absurd hk e1
   ·exact⟨g,by rw[e,if_neg hk]⟩
 obtain⟨g,e⟩:=hp
 cases g with
 |zero=>exact absurd e ho
 |succ g=>exact⟨g,by rw[e,progL]⟩
theorem dg_step {M:Nat→Mk} {L:Lm} {rr:Rs (List Fn1)} {acc:List Fn1} {k k1 g:Nat} {x:Fn1} (h:rr=(defP M L g acc.length k).bind fun x k1=>if (M k1).kind=4 then .ok (acc++[x]) k1 else progL M L g (acc++[x]) k1) (hd:defP M L g acc.length k=.ok x k1):Dg1 M L rr (acc++[x]) k1:=
 ⟨g,.inr ⟨by simp,by rw[h,hd];rfl⟩⟩
def PJ (I:Rdi) (R z gP:Nat) (w:World) (rr:Rs (List Fn1)) (wr:World):Prop:=
 Bk wr w.heap.size 29 [.slice none 0 0]∧But R w wr∧∃ (ao:Option Addr) (n cc:Nat),Bk wr gP 29 [.slice ao n cc]∧Fj wr (gP+1) (.slice ao n cc) n ∧
  ((∃ (k:Nat) (acc:List Fn1),Hid (Dg1 I.M (lmOf I) rr acc k)∧Rq I wr R k 0 0 z∧Hid (acc.length=n)∧n≤k∧FRow wr (gP+1) (.slice ao n cc) acc)∨(∃ (y:Int) (j k:Nat) (d':Int),Hid (rr=.bad y j)∧y≠0∧Rq I wr R k y (I.M j).at_ d'))
def PA (I:Rdi) (R z:Nat) (w:World) (rr:Rs (List Fn1)) (e:Ending) (w':World):Prop:=
 ∃ (ao:Option Addr) (n cc:Nat),e=.returned (.agg #[.slice ao n cc])∧(∀ gs j,rr=.ok gs j→gs.length=n∧FlW w' (fun b=>w.heap.size≤b) ao gs∧n≤cc)∧St I w' R z rr∧But R w w'
set_option maxHeartbeats 3000000 in
theorem rprogram_any (I:Rdi) (hE:Ends I.M I.n) (hW:∀ s∈lks,Wm I.M s) (hA:∀ g,AllR I g) (f:Nat) (w:World) (R k z:Nat) (hz:z=0) (h:Rq I w R k 0 0 z) (hne:progL I.M (lmOf I) f [] k≠.out) :
  Calls Tryz.prog 21 #[.pointer (some ⟨R,0,none⟩)] w (PA I R z w (progL I.M (lmOf I) f [] k)):=by
 obtain⟨rr,hr⟩:∃ rr,rr=progL I.M (lmOf I) f [] k:=⟨_,rfl⟩
 rw[← hr] at hne ⊢
 have HR:Hid (Dg1 I.M (lmOf I) rr [] k):=⟨f,.inl ⟨rfl,hr⟩⟩
 clear hr
 have hlt:=h.lt
 have Q_1:=h.up (below_alloc w (.cells #[.slice none 0 0] 29))
 have U_1:=(But.refl R w).then (below_alloc w (.cells #[.slice none 0 0] 29))
 have hB0:Bk (w.alloc (.cells #[.slice none 0 0] 29)) w.heap.size 29 [.slice none 0 0]:=Bk.new w 29 #[.slice none 0 0]
 have Q_2:=Q_1.up (below_alloc (w.alloc (.cells #[.slice none 0 0] 29)) (.cells #[.slice none 0 0] 29))
 have U_2:=U_1.then (below_alloc (w.alloc (.cells #[.slice none 0 0] 29)) (.cells #[.slice none 0 0] 29))
 have B_2:=hB0.up (below_alloc (w.alloc (.cells #[.slice none 0 0] 29)) (.cells #[.slice none 0 0] 29))
 have hP0:Bk ((w.alloc (.cells #[.slice none 0 0] 29)).alloc (.cells #[.slice none 0 0] 29)) (w.heap.size+1) 29 [.slice none 0 0]:=Bk.newAt 29 #[.slice none 0 0] (by simp)
 have hJ:PJ I R z (w.heap.size+1) w rr ((w.alloc (.cells #[.slice none 0 0] 29)).alloc (.cells #[.slice none 0 0] 29)):=⟨B_2,U_2,none,0,0,hP0,Fj.nil _ _,.inl ⟨k,[],HR,Q_2,rfl,Nat.zero_le _,FRow.nil _ _⟩⟩
 obtain⟨gP,hgd⟩:∃ g,g=w.heap.size+1:=⟨_,rfl⟩
 have hg0:w.heap.size<gP:=by omega
 have hgR:R<gP∧I.b<gP:=by omega
 clear B_2 U_2 Q_2 hP0
 go_enter Tryz.func21,Tryz.ntmps21
 go_wp2_with fail
 rw[← hgd] at hJ ⊢
 clear hgd
 go_loopw [] (fun wr=>PJ I R z gP w rr wr) (fun wr=>msr I.n R wr)
 case atStart=>exact hJ
 case round=>
  obtain⟨hB,hU,ao,n,cc,hP1,hfj,hst⟩:=hrel
  have lB:=hB.lt
  have lP:=hP1.lt
  have p0:wr.cell? ⟨gP,0,none⟩=some (.slice ao n cc):=hP1.cell 0
  rcases hst with⟨k2,acc,HG,hd,HL,hnk,hrow⟩|⟨y,j,k2,d',HD,hy,hd⟩
  ·have hkn:=hd.kn
   have hsm:=hd.small
   obtain⟨-,-,c2,-⟩:=hd.nine
   have hf:=fun W=>(fldM (I.M k2) W).1
   by_cases hac:acc=[]
   ·have hn0:n=0:=by rw[← show acc.length=n from HL,hac];rfl
    have b0:((n:Int)==0)=true:=by rw[hn0];rfl
    obtain⟨g,HX⟩:=dg_go (show Dg1 _ _ _ _ _ from HG) hne (.inl hac)
    have HX:Hid (rr=_):=HX
    clear hac hn0
    have hn2:defP I.M (lmOf I) g n k2≠.out:=by
     intro e
     exact hne (by rw[show rr=_ from HX,show acc.length=n from HL,e];rfl)
    go_wp2_with fail
    refine (rdef_any I hE hW g (hA g) n wr R k2 z hz hd hn2).mono ?_
    rintro e w7 ⟨us,rfl,sv,hex,hs7,hV7⟩
    obtain⟨x0,x1,x2,x3,x4,x5,x6,x7,x8,x9,x10,rfl⟩:=list11 sv.len
    have hfj7:=hfj.but hV7 (by omega)
    have hrow7:=hrow.but hV7 (by omega)
    have hhas:=hfj.has
    have B_1:=hB.but hV7 (by omega)
    have U_1:=hU.trans hV7
    have P_1:=hP1.but hV7 (by omega)
    have lB_1:=B_1.lt
    have lP_1:=P_1.lt
    have s_1:=hV7.size
    go_wp2_with (first
     |(refine wpList_storeN rfl 43 (.tmp 4) (.tmp 26) rfl w7.heap.size 0 [x0,x1,x2,x3,x4,x5,x6,x7,x8,x9,x10] rfl rfl (Bk.new w7 43 fz) (Nat.le_refl 11) Tryz.infoFn sv.one ?_;intro w8 X_2 hoa2;have hba2:Below w7.heap.size w7 w8:=(below_alloc w7 (.cells fz 43)).trans (hoa2.below (Nat.le_refl _));have B_2:=B_1.up hba2;have U_2:=U_1.then hba2;have P_2:=P_1.up hba2;have Q_2:=hs7.up hba2;have lB_2:=B_2.lt;have lP_2:=P_2.lt;have lX_2:=X_2.lt;have s_2:=hba2.size;have hfj8:=hfj7.up hba2;have hrow8:=hrow7.up hba2;have hex8:=fun x j e=>(hex x j e).keep hba2.size fun b _ hl=>hba2.block b hl;have y5:w8.cell? ⟨gP,0,none⟩=some (.slice ao n cc):=P_2.cell 0;obtain⟨v9,w9,r9,j9,B9,T9⟩:=fj_app hfj8 (by omega) sv (by omega);obtain⟨ao9,cc9,hv9⟩:=j9.val;subst hv9;have hP9:=P_2.low B9 (by omega);have y9:w9.cell? ⟨gP,0,none⟩=some (.slice ao n cc):=hP9.cell 0;have z9:=hP9.frz 0;have R9:Hid (_=_):=r9;clear r9)
     |refine wpList_loadN rfl 43 (.tmp 4) rfl w7.heap.size 0 rfl [x0,x1,x2,x3,x4,x5,x6,x7,x8,x9,x10] _ (X_2.range 0 11) Tryz.underFn Tryz.infoFn ?_
     |(at_builtin;refine wpList_append_run rfl (.tmp 28) (.tmp 30) 27 rfl rfl _ _ rfl rfl _ _ (show _=_ from R9) ?_)
     |fail)
    have hB9:=B_2.low B9 (by omega)
    have hs9:=Q_2.low B9 (by omega) (by omega)
    have hU9:=U_2.low (B9.mono (by omega))
    have hoP:=(Oth.refl gP w9).set 0 (.slice ao9 (n+1) cc9)
    have hB10:=hB9.oth hoP (by omega)
    have hP10:Bk (w9.setCell ⟨gP,0,none⟩ (.slice ao9 (n+1) cc9)) gP 29 [(.slice ao9 (n+1) cc9)]:=hP9.set 0 _
    have hU10:=hoP.but hU9 (by omega)
    have hbP:But gP w9 (w9.setCell ⟨gP,0,none⟩ (.slice ao9 (n+1) cc9)):=⟨hoP.os,hoP.tape,hoP.output,by rw[hoP.size];omega,fun i _ hn=>hoP.block i hn⟩
    have hs10:=st_but hs9 hbP (by omega) (by omega)
    have hfj10:Fj (w9.setCell ⟨gP,0,none⟩ (.slice ao9 (n+1) cc9)) (gP+1) (.slice ao9 (n+1) cc9) (n+1):=j9.keep fun b hb _=>hoP.block b (by omega)
    have hrow10:=fun x j e=>FRow.keep (T9 acc x hrow8 (show acc.length=n from HL) ((hex8 x j e).imp fun nc hnc _=>⟨by omega,fun e=>by have:=(hhas nc e).2;omega⟩)) (w':=(w9.setCell ⟨gP,0,none⟩ (.slice ao9 (n+1) cc9))) (Nat.le_of_eq hoP.size.symm) fun b hb _=>hoP.block b (by omega)
    have ms1:=rq_msr hd
    cases hq2:defP I.M (lmOf I) g n k2 with
    |out=>exact absurd hq2 hn2
    |bad y j=>
     have HE:Hid (rr=.bad y j):=by show rr=_;rw[show rr=_ from HX,show acc.length=n from HL,hq2];rfl
     rw[hq2] at hs10
     obtain⟨hy,kz,dz,hdz⟩:=hs10
     have ms2:=rq_msr0 hy hdz
     try dsimp only[Act.put]
     go_roundw
     case rel=>exact⟨hB10,hU10,ao9,n+1,cc9,hP10,hfj10,.inr ⟨y,j,kz,dz,HE,hy,hdz⟩⟩
     case measure=>exact msr_dead ms1 ms2 hkn
    |ok a k3=>
     have HE:Hid (Dg1 I.M (lmOf I) rr (acc++[a]) k3):=dg_step (show rr=_ from HX) (by rw[show acc.length=n from HL];exact hq2)
     rw[hq2] at hs10
     have hdz:Rq I (w9.setCell ⟨gP,0,none⟩ (.slice ao9 (n+1) cc9)) R k3 0 0 z:=hs10
     have hge:k2+1≤k3:=def_gt hq2
     have ms2:=rq_msr hdz
     have HL2:Hid ((acc++[a]).length=n+1):=by show _=_;rw[List.length_append,show acc.length=n from HL];rfl
     try dsimp only[Act.put]
     go_roundw
     case rel=>exact⟨hB10,hU10,ao9,n+1,cc9,hP10,hfj10,.inl ⟨k3,acc++[a],HE,hdz,HL2,by omega,hrow10 a k3 hq2⟩⟩
     case measure=>exact msr_live ms1 ms2 hkn hge
   ·have hn0:0<n:=by
     rw[← show acc.length=n from HL]
     exact List.length_pos_iff.2 hac
    have b0:((n:Int)==0)=false:=by rw[beq_eq_false_iff_ne];omega
    go_wp2_with fail
    refine (rnext_any I wr R k2 0 0 z hd).mono ?_
    rintro e w6 ⟨rfl,hb6⟩
    unfold mkV
    by_cases h4:(I.M k2).kind=4
    ·have b4:((I.M k2).kind != 4)=false:=by rw[h4];rfl
     have HE:rr=.ok acc k2:=dg_stop (show Dg1 _ _ _ _ _ from HG) hac h4
     clear h4 hac
     have B_1:=hB.up hb6
     have U_1:=hU.then hb6
     have P_1:=hP1.up hb6
     have Q_1:=hd.up hb6
     have lB_1:=B_1.lt
     have lP_1:=P_1.lt
     have s_1:=hb6.size
     have hrow6:=hrow.up hb6
     go_wp2_with (first
      |refine wpList_loadN rfl 29 (.tmp 3) rfl gP 0 rfl [.slice ao n cc] _ (P_1.range 0 1) Tryz.underPr Tryz.infoPr ?_
      |(refine wpList_storeN rfl 29 (.tmp 2) (.tmp 33) rfl w.heap.size 0 [.slice ao n cc] rfl rfl B_1 (Nat.le_refl 1) Tryz.infoPr (by intro u hu;simp only[List.mem_cons,List.not_mem_nil,or_false] at hu;rw[hu];rfl) ?_;intro wz hBz hoz;have q0:wz.cell? ⟨w.heap.size,0,none⟩=some (.slice ao n cc):=hBz.cell 0)
      |fail)
     have U_2:=hoz.but U_1 (by omega)
     have P_2:=P_1.oth hoz (by omega)
     have Q_2:=Q_1.oth hoz (by omega) (by omega)
     refine bodyPost_ret (v:=.agg #[.slice ao n cc]) (by simp[results,Tryz.results21,go_sem,q0]) rfl ⟨ao,n,cc,rfl,?_,?_,U_2⟩
     ·intro gs j e
      rw[HE] at e
      cases e
      have hrz:=hrow6.keep (w':=wz) (Nat.le_of_eq hoz.size.symm) fun b hb _=>hoz.block b (by omega)
      obtain⟨ao',c',e,hfl,hle⟩:=hrz.read
      rw[show acc.length=n from HL] at e hle
      cases e
      exact⟨HL,hfl.imp fun b hb _=>by omega,hle⟩
     ·rw[HE]
      exact Q_2
    ·have b4:((I.M k2).kind != 4)=true:=by rw[bne_iff_ne];exact h4
     obtain⟨g,HX⟩:=dg_go (show Dg1 _ _ _ _ _ from HG) hne (.inr h4)
     have HX:Hid (rr=_):=HX
     clear h4 hac
     have B_1:=hB.up hb6
     have U_1:=hU.then hb6
     have P_1:=hP1.up hb6
     have Q_1:=hd.up hb6
     have lB_1:=B_1.lt
     have lP_1:=P_1.lt
     have s_1:=hb6.size
     have hfjb:=hfj.up hb6
     have hrowb:=hrow.up hb6
     have p6:w6.cell? ⟨gP,0,none⟩=some (.slice ao n cc):=P_1.cell 0
     have hn2:defP I.M (lmOf I) g n k2≠.out:=by
      intro e
      exact hne (by rw[show rr=_ from HX,show acc.length=n from HL,e];rfl)
     go_wp2_with fail
     refine (rdef_any I hE hW g (hA g) n w6 R k2 z hz Q_1 hn2).mono ?_
     rintro e w7 ⟨us,rfl,sv,hex,hs7,hV7⟩
     obtain⟨x0,x1,x2,x3,x4,x5,x6,x7,x8,x9,x10,rfl⟩:=list11 sv.len
     have hfj7:=hfjb.but hV7 (by omega)
     have hrow7:=hrowb.but hV7 (by omega)
     have hhas:=hfjb.has
     have B_2:=B_1.but hV7 (by omega)
     have U_2:=U_1.trans hV7
     have P_2:=P_1.but hV7 (by omega)
     have lB_2:=B_2.lt
     have lP_2:=P_2.lt
     have s_2:=hV7.size
     go_wp2_with (first
      |(refine wpList_storeN rfl 43 (.tmp 4) (.tmp 26) rfl w7.heap.size 0 [x0,x1,x2,x3,x4,x5,x6,x7,x8,x9,x10] rfl rfl (Bk.new w7 43 fz) (Nat.le_refl 11) Tryz.infoFn sv.one ?_;intro w8 X_3 hoa3;have hba3:Below w7.heap.size w7 w8:=(below_alloc w7 (.cells fz 43)).trans (hoa3.below (Nat.le_refl _));have B_3:=B_2.up hba3;have U_3:=U_2.then hba3;have P_3:=P_2.up hba3;have Q_3:=hs7.up hba3;have lB_3:=B_3.lt;have lP_3:=P_3.lt;have lX_3:=X_3.lt;have s_3:=hba3.size;have hfj8:=hfj7.up hba3;have hrow8:=hrow7.up hba3;have hex8:=fun x j e=>(hex x j e).keep hba3.size fun b _ hl=>hba3.block b hl;have y5:w8.cell? ⟨gP,0,none⟩=some (.slice ao n cc):=P_3.cell 0;obtain⟨v9,w9,r9,j9,B9,T9⟩:=fj_app hfj8 (by omega) sv (by omega);obtain⟨ao9,cc9,hv9⟩:=j9.val;subst hv9;have hP9:=P_3.low B9 (by omega);have y9:w9.cell? ⟨gP,0,none⟩=some (.slice ao n cc):=hP9.cell 0;have z9:=hP9.frz 0;have R9:Hid (_=_):=r9;clear r9)
      |refine wpList_loadN rfl 43 (.tmp 4) rfl w7.heap.size 0 rfl [x0,x1,x2,x3,x4,x5,x6,x7,x8,x9,x10] _ (X_3.range 0 11) Tryz.underFn Tryz.infoFn ?_
      |(at_builtin;refine wpList_append_run rfl (.tmp 28) (.tmp 30) 27 rfl rfl _ _ rfl rfl _ _ (show _=_ from R9) ?_)
      |fail)
     have hB9:=B_3.low B9 (by omega)
     have hs9:=Q_3.low B9 (by omega) (by omega)
     have hU9:=U_3.low (B9.mono (by omega))
     have hoP:=(Oth.refl gP w9).set 0 (.slice ao9 (n+1) cc9)
     have hB10:=hB9.oth hoP (by omega)
     have hP10:Bk (w9.setCell ⟨gP,0,none⟩ (.slice ao9 (n+1) cc9)) gP 29 [(.slice ao9 (n+1) cc9)]:=hP9.set 0 _
     have hU10:=hoP.but hU9 (by omega)
     have hbP:But gP w9 (w9.setCell ⟨gP,0,none⟩ (.slice ao9 (n+1) cc9)):=⟨hoP.os,hoP.tape,hoP.output,by rw[hoP.size];omega,fun i _ hn=>hoP.block i hn⟩
     have hs10:=st_but hs9 hbP (by omega) (by omega)
     have hfj10:Fj (w9.setCell ⟨gP,0,none⟩ (.slice ao9 (n+1) cc9)) (gP+1) (.slice ao9 (n+1) cc9) (n+1):=j9.keep fun b hb _=>hoP.block b (by omega)
     have hrow10:=fun x j e=>FRow.keep (T9 acc x hrow8 (show acc.length=n from HL) ((hex8 x j e).imp fun nc hnc _=>⟨by omega,fun e=>by have:=(hhas nc e).2;omega⟩)) (w':=(w9.setCell ⟨gP,0,none⟩ (.slice ao9 (n+1) cc9))) (Nat.le_of_eq hoP.size.symm) fun b hb _=>hoP.block b (by omega)
     have ms1:=rq_msr hd
     cases hq2:defP I.M (lmOf I) g n k2 with
     |out=>exact absurd hq2 hn2
     |bad y j=>
      have HE:Hid (rr=.bad y j):=by show rr=_;rw[show rr=_ from HX,show acc.length=n from HL,hq2];rfl
      rw[hq2] at hs10
      obtain⟨hy,kz,dz,hdz⟩:=hs10
      have ms2:=rq_msr0 hy hdz
      try dsimp only[Act.put]
      go_roundw
      case rel=>exact⟨hB10,hU10,ao9,n+1,cc9,hP10,hfj10,.inr ⟨y,j,kz,dz,HE,hy,hdz⟩⟩
      case measure=>exact msr_dead ms1 ms2 hkn
     |ok a k3=>
      have HE:Hid (Dg1 I.M (lmOf I) rr (acc++[a]) k3):=dg_step (show rr=_ from HX) (by rw[show acc.length=n from HL];exact hq2)
      rw[hq2] at hs10
      have hdz:Rq I (w9.setCell ⟨gP,0,none⟩ (.slice ao9 (n+1) cc9)) R k3 0 0 z:=hs10
      have hge:k2+1≤k3:=def_gt hq2
      have ms2:=rq_msr hdz
      have HL2:Hid ((acc++[a]).length=n+1):=by show _=_;rw[List.length_append,show acc.length=n from HL];rfl
      try dsimp only[Act.put]
      go_roundw
      case rel=>exact⟨hB10,hU10,ao9,n+1,cc9,hP10,hfj10,.inl ⟨k3,acc++[a],HE,hdz,HL2,by omega,hrow10 a k3 hq2⟩⟩
      case measure=>exact msr_live ms1 ms2 hkn hge
  ·obtain⟨-,-,c2,-⟩:=hd.nine
   have b0:(y==0)=false:=by rw[beq_eq_false_iff_ne];exact hy
   have hsd:St I wr R z rr:=by
    rw[show rr=_ from HD]
    exact⟨hy,k2,d',hd⟩
   go_upto_region 5 with fail
   go_wp2_with (first
    |refine wpList_loadN rfl 29 (.tmp 3) rfl gP 0 rfl [.slice ao n cc] _ (hP1.range 0 1) Tryz.underPr Tryz.infoPr ?_
    |(refine wpList_storeN rfl 29 (.tmp 2) (.tmp 33) rfl w.heap.size 0 [.slice ao n cc] rfl rfl hB (Nat.le_refl 1) Tryz.infoPr (by intro u hu;simp only[List.mem_cons,List.not_mem_nil,or_false] at hu;rw[hu];rfl) ?_;intro wz hBz hoz;have q0:wz.cell? ⟨w.heap.size,0,none⟩=some (.slice ao n cc):=hBz.cell 0)
    |fail)
   have U_1:=hoz.but hU (by omega)
   have P_1:=hP1.oth hoz (by omega)
   have Q_1:=hsd.oth hoz (by omega) (by omega)
   refine bodyPost_ret (v:=.agg #[.slice ao n cc]) (by simp[results,Tryz.results21,go_sem,q0]) rfl ⟨ao,n,cc,rfl,?_,?_,U_1⟩
   ·intro gs j e
    rw[show rr=_ from HD] at e
    cases e
   ·exact Q_1
end Go.Proofs.YtdncofkjncanfaaGreatDoor
