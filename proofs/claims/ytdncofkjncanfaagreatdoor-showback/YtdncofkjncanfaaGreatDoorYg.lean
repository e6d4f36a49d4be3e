/-
  The walks of the document's sum and term.
-/
import Derived.Test.YtdncofkjncanfaaGreatDoorYf
namespace Go.Proofs.YtdncofkjncanfaaGreatDoor
open Go.RowKit
set_option maxRecDepth 100000
def msr (n R:Nat) (w:World):Nat:=match w.cell? ⟨R,2,none⟩ with|some (.int _ 0)=>n+1-posOf R w|_=>0
theorem rq_msr {I:Rdi} {w:World} {R k:Nat} {a d:Int} (h:Rq I w R k 0 a d):msr I.n R w=I.n+1-k:=by
 unfold msr posOf
 rw[h.nine.2.2.1,h.nine.2.1]
 simp
theorem rq_msr0 {I:Rdi} {w:World} {R k:Nat} {y a d:Int} (hy:y≠0) (h:Rq I w R k y a d):msr I.n R w=0:=by
 unfold msr
 rw[h.nine.2.2.1]
 split
 ·rename_i he
  simp only[Option.some.injEq,Value.int.injEq] at he
  exact absurd he.2 hy
 ·rfl
theorem msr_live {a b n k k2:Nat} (h1:a=n+1-k) (h2:b=n+1-k2) (hk:k<n) (hg:k+1≤k2):b<a:=by omega
theorem msr_dead {a b n k:Nat} (h1:a=n+1-k) (h2:b=0) (hk:k<n):b<a:=by omega
def RJ (I:Rdi) (f:Nat) (R d gA:Nat) (w:World) (C:Nat→Ex→Nat→Prop) (D:Int→Nat→Prop) (wr:World):Prop:=
 Bk wr w.heap.size 41 [.int .i64 0,.string ⟨#[]⟩,.string ⟨#[]⟩,.int .i64 0,.complex .f64 0 0,.slice none 0 0,.int .i64 0]∧But R w wr∧∃ vs:List Value,Sv vs∧Bk wr gA 41 vs ∧
  ((∃ (g k:Nat) (a:Ex),C g a k∧g≤f∧Rq I wr R k 0 0 d∧ExW wr (fun b=>w.heap.size<b∧b≠gA) a vs)∨(∃ (y:Int) (j k:Nat) (d':Int),D y j∧y≠0∧Rq I wr R k y (I.M j).at_ d'))
set_option maxHeartbeats 8000000 in
theorem rsum_step (I:Rdi) (hE:Ends I.M I.n) (hW:∀ s∈lks,Wm I.M s) (f:Nat) (ihs:∀ g,g≤f→AllR I g) {α:Type} (q:Rs α) (w:World) (R d:Nat) (h:St I w R d q) (hne:nx q (sumP I.M (lmOf I) (f+1) d)≠.out) :
  Calls Tryz.prog 129 #[.pointer (some ⟨R,0,none⟩)] w (RA I R d w (nx q (sumP I.M (lmOf I) (f+1) d))):=by
 obtain⟨r,hr⟩:∃ r,r=nx q (sumP I.M (lmOf I) (f+1) d):=⟨_,rfl⟩
 rw[← hr] at hne ⊢
 have hr2:r=(nx q (termP I.M (lmOf I) f d)).bind fun a k1=>sumL I.M (lmOf I) f d a k1:=by
  rw[hr,← nx_assoc]
  congr 1
  funext k
  rw[sumP]
 clear hr
 have HR:Hid (r=_):=hr2
 clear hr2
 have hn1:=bind_ne HR hne
 have hlt:=h.lt
 have hcx:=store_cx
 have hW1:=hW [43] (by simp[lks])
 have hW2:=hW [45] (by simp[lks])
 have S_1:=h.up (below_alloc w (.cells ez 41))
 have U_1:=(But.refl R w).then (below_alloc w (.cells ez 41))
 have B_1:=Bk.new w 41 ez
 have c1:=(ihs f (Nat.le_refl _)).term q _ R d S_1 hn1
 go_enter Tryz.func129,Tryz.ntmps129
 go_wp2_with fail
 refine c1.mono ?_
 rintro e w1 ⟨vs,rfl,sv,hex,hs,hV⟩
 obtain⟨a0,a1,a2,a3,a4,a5,a6,rfl⟩:=list7 sv.len
 have U_2:=U_1.trans hV
 have B_2:=B_1.but hV (by omega)
 have lB_2:=B_2.lt
 have s_2:=hV.size
 have hxa:=fun x j e=>(hex x j e).imp (A':=fun b=>w.heap.size<b∧b<w1.heap.size) fun b hb hl=>by simp at hb;omega
 clear hex c1
 have U_3:=U_2.then (below_alloc w1 (.cells ez 41))
 have B_3:=B_2.up (below_alloc w1 (.cells ez 41))
 have Q_3:=hs.up (below_alloc w1 (.cells ez 41))
 have X_3:=fun x j e=>(hxa x j e).up (below_alloc w1 (.cells ez 41))
 have A_3:=Bk.new w1 41 ez
 go_wp2_with (first
  |(refine wpList_storeN rfl 41 (.tmp 3) (.tmp 8) rfl w1.heap.size 0 [a0,a1,a2,a3,a4,a5,a6] rfl rfl A_3 (Nat.le_refl 7) Tryz.infoE sv.one ?_;intro w2 A_4 ho3;have U_4:=ho3.but U_3 (by omega);have B_4:=B_3.oth ho3 (by omega);have Q_4:=Q_3.oth ho3 (by omega) (by omega);have X_4:=fun x j e=>(X_3 x j e).oth2 ho3 (fun b hb=>by omega);have lB_4:=B_4.lt;have lA_4:=A_4.lt))
 have hJ:RJ I f R d w1.heap.size w (fun g a k=>Hid (r=sumL I.M (lmOf I) g d a k)) (fun y j=>Hid (r=.bad y j)) w2:=by
  refine⟨B_4,U_4,_,sv,A_4,?_⟩
  cases hq1:nx q (termP I.M (lmOf I) f d) with
  |out=>exact absurd hq1 hn1
  |bad y j=>
   have hd:=Q_4
   rw[hq1] at hd
   obtain⟨hy,k,d',hd⟩:=hd
   exact .inr ⟨y,j,k,d',bind_bad HR hq1,hy,hd⟩
  |ok a k1=>
   have hd:=Q_4
   rw[hq1] at hd
   exact .inl ⟨f,k1,a,bind_ok HR hq1,Nat.le_refl _,hd,(X_4 a k1 hq1).imp fun b hb _=>by omega⟩
 have hgA:w.heap.size<w1.heap.size:=lB_2
 obtain⟨gA,hgd⟩:∃ g,g=w1.heap.size:=⟨_,rfl⟩
 rw[← hgd] at hJ hgA ⊢
 clear B_4 U_4 A_4 Q_4 X_4 sv hgd HR hn1 h
 dsimp only[Act.put]
 go_loopw [] (fun wr=>RJ I f R d gA w (fun g a k=>Hid (r=sumL I.M (lmOf I) g d a k)) (fun y j=>Hid (r=.bad y j)) wr) (fun wr=>msr I.n R wr)
 case atStart=>exact hJ
 case round=>
  obtain⟨hB,hU,vs,sv,hA,hst⟩:=hrel
  obtain⟨a0,a1,a2,a3,a4,a5,a6,rfl⟩:=list7 sv.len
  have lB:=hB.lt
  have lA:=hA.lt
  rcases hst with⟨g,k,a,HR,hg,hd,hxa⟩|⟨y,j,k,d',HR,hy,hd⟩
  ·obtain⟨g,rfl⟩:∃ g',g=g'+1:=by
    cases g with
    |zero=>exact absurd (by rw[show r=_ from HR,sumL]) hne
    |succ g=>exact⟨g,rfl⟩
   have hkn:=hd.kn
   have hxr:=hxa.imp (A':=fun b=>w.heap.size<b∧b≠gA∧b<wr.heap.size) fun b hb hl=>⟨hb.1,hb.2,hl⟩
   have hr3:=show r=_ from HR
   rw[sumL] at hr3
   have HR:Hid (r=_):=hr3
   clear hr3 hxa
   cases t1:tk I.M [43] k with
   |true=>
    have hk1:=hE.tk I.M t1 (by decide) hkn
    have hw:=w64k k (by have:=hd.small;omega)
    have t2:tk I.M [45] k=false:=by unfold tk at t1 ⊢;rw[eq_of_beq t1];rfl
    have ht:((bs (I.M k).text).toList==[45])=false:=by rw[bs_toList];exact t2
    have HR:Hid (r=(termP I.M (lmOf I) g d (k+1)).bind fun b k1=>sumL I.M (lmOf I) g d (two 8 a b (I.M k)) k1):=by
     show r=_
     rw[show r=_ from HR,if_pos t1]
    have hn2:=bind_ne HR hne
    go_wp2_with fail
    refine (t1 ▸ ris_live I [43] hW1 wr R k 0 d hd:Calls Tryz.prog 61 #[.pointer (some ⟨R,0,none⟩),.string (bs [43])] wr fun e w'=>e=.returned (.bool true)∧Below wr.heap.size wr w').mono ?_
    rintro e w3 ⟨rfl,hbw3⟩
    have B_1:=hB.up hbw3
    have U_1:=hU.then hbw3
    have A_1:=hA.up hbw3
    have Q_1:=hd.up hbw3
    have X_1:=hxr.up hbw3
    have lB_1:=B_1.lt
    have lA_1:=A_1.lt
    have s_1:=hbw3.size
    go_wp2_with fail
    go_wp2_with fail
    refine (rnext_any I w3 R k 0 0 d Q_1).mono ?_
    rintro e w4 ⟨rfl,hbw4⟩
    unfold mkV
    have B_2:=B_1.up hbw4
    have U_2:=U_1.then hbw4
    have A_2:=A_1.up hbw4
    have Q_2:=Q_1.up hbw4
    have X_2:=X_1.up hbw4
    have lB_2:=B_2.lt
    have lA_2:=A_2.lt
    have s_2:=hbw4.size
    have B_3:=B_2.up (below_alloc w4 (.cells mz 85))
    have U_3:=U_2.then (below_alloc w4 (.cells mz 85))
    have A_3:=A_2.up (below_alloc w4 (.cells mz 85))
    have Q_3:=Q_2.up (below_alloc w4 (.cells mz 85))
    have X_3:=X_2.up (below_alloc w4 (.cells mz 85))
    have M_3:=Bk.new w4 85 mz
    go_wp2_with (first
     |(refine wpList_storeN rfl 85 (.tmp 4) (.tmp 16) rfl w4.heap.size 0 (mkC (I.M k)) rfl rfl M_3 (Nat.le_refl 4) Tryz.infoM (mkC_one _) ?_;intro w5 M_4 ho3;have B_4:=B_3.oth ho3 (by omega);have U_4:=ho3.but U_3 (by omega);have A_4:=A_3.oth ho3 (by omega);have Q_4:=Q_3.oth ho3 (by omega) (by omega);have X_4:=X_3.oth2 ho3 (fun b hb=>by omega);have lB_4:=B_4.lt;have lA_4:=A_4.lt;have lM_4:=M_4.lt;obtain⟨-,c1,-⟩:=Q_4.nine;have z1:=Q_4.blk.frz 1))
    have hdn:=Q_4.go (k+1) hk1
    have hVn:=(But.refl R w5).setR (j:=1) (.int .i64 ((k+1:Nat):Int))
    have B_5:=B_4.but hVn (by omega)
    have U_5:=U_4.trans hVn
    have A_5:=A_4.but hVn (by omega)
    have X_5:=X_4.but2 hVn (fun b hb=>by omega)
    have M_5:=M_4.but hVn (by omega)
    have lB_5:=B_5.lt
    have lA_5:=A_5.lt
    have lM_5:=M_5.lt
    have s_5:=hVn.size
    refine ((ihs g (by omega)).term (.ok () (k+1)) _ R d hdn hn2).mono ?_
    rintro e w6 ⟨us,rfl,sv2,hex2,hs2,hVw6⟩
    rw[nx_ok] at hex2 hs2
    obtain⟨b0,b1,b2,b3,b4,b5,b6,rfl⟩:=list7 sv2.len
    clear c1 z1
    have B_6:=B_5.but hVw6 (by omega)
    have U_6:=U_5.trans hVw6
    have A_6:=A_5.but hVw6 (by omega)
    have X_6:=X_5.but2 hVw6 (fun b hb=>by omega)
    have M_6:=M_5.but hVw6 (by omega)
    have lB_6:=B_6.lt
    have lA_6:=A_6.lt
    have lM_6:=M_6.lt
    have s_6:=hVw6.size
    have hxb:=fun x j e=>(hex2 x j e).imp (A':=fun b=>w.heap.size<b∧b≠gA∧b<w6.heap.size) fun b hb hl=>by simp at hb;omega
    clear hex2
    have B_7:=B_6.up (below_alloc w6 (.cells ez 41))
    have U_7:=U_6.then (below_alloc w6 (.cells ez 41))
    have A_7:=A_6.up (below_alloc w6 (.cells ez 41))
    have X_7:=X_6.up (below_alloc w6 (.cells ez 41))
    have M_7:=M_6.up (below_alloc w6 (.cells ez 41))
    have Q_7:=hs2.up (below_alloc w6 (.cells ez 41))
    have Y_7:=fun x j e=>(hxb x j e).up (below_alloc w6 (.cells ez 41))
    have C_7:=Bk.new w6 41 ez
    go_wp2_with (first
     |(refine wpList_storeN rfl 41 (.tmp 5) (.tmp 25) rfl w6.heap.size 0 [b0,b1,b2,b3,b4,b5,b6] rfl rfl C_7 (Nat.le_refl 7) Tryz.infoE sv2.one ?_;intro w7 C_8 ho7;have B_8:=B_7.oth ho7 (by omega);have U_8:=ho7.but U_7 (by omega);have A_8:=A_7.oth ho7 (by omega);have X_8:=X_7.oth2 ho7 (fun b hb=>by omega);have M_8:=M_7.oth ho7 (by omega);have Q_8:=Q_7.oth ho7 (by omega) (by omega);have Y_8:=fun x j e=>(Y_7 x j e).oth2 ho7 (fun b hb=>by omega);have lB_8:=B_8.lt;have lA_8:=A_8.lt;have lM_8:=M_8.lt;have lC_8:=C_8.lt;obtain⟨-,mt,-⟩:=Bk.four (show Bk w7 w4.heap.size _ [_,_,_,_] from M_8))
     |refine wpList_loadN rfl 41 (.tmp 3) rfl gA 0 rfl [a0,a1,a2,a3,a4,a5,a6] _ (A_8.range 0 7) Tryz.underE Tryz.infoE ?_
     |refine wpList_loadN rfl 41 (.tmp 5) rfl w6.heap.size 0 rfl [b0,b1,b2,b3,b4,b5,b6] _ (C_8.range 0 7) Tryz.underE Tryz.infoE ?_
     |refine wpList_loadN rfl 85 (.tmp 4) rfl w4.heap.size 0 rfl (mkC (I.M k)) _ (M_8.range 0 4) Tryz.underM Tryz.infoM ?_)
    refine (rtwo_any 8 (I.M k) [a0,a1,a2,a3,a4,a5,a6] [b0,b1,b2,b3,b4,b5,b6] sv sv2 w7).mono ?_
    rintro e w8 ⟨V,rfl,sv3,hb8,htw⟩
    obtain⟨c0,c1,c2,c3,c4,c5,c6,rfl⟩:=list7 sv3.len
    have hz:=fun x j e=>htw (fun c=>w.heap.size<c∧c≠gA) a x (fun c hc=>by omega) (X_8.imp fun b hb _=>by omega) ((Y_8 x j e).imp fun b hb _=>by omega)
    clear htw mt
    have B_9:=B_8.up hb8
    have U_9:=U_8.then hb8
    have A_9:=A_8.up hb8
    have Q_9:=Q_8.up hb8
    have lB_9:=B_9.lt
    have lA_9:=A_9.lt
    have s_9:=hb8.size
    go_wp2_with (first
     |(refine wpList_storeN rfl 41 (.tmp 3) (.tmp 33) rfl gA 0 [c0,c1,c2,c3,c4,c5,c6] rfl rfl A_9 (Nat.le_refl 7) Tryz.infoE sv3.one ?_;intro w9 A_10 ho9;have B_10:=B_9.oth ho9 (by omega);have U_10:=ho9.but U_9 (by omega);have Q_10:=Q_9.oth ho9 (by omega) (by omega);have Z_10:=fun x j e=>(hz x j e).oth2 ho9 (fun b hb=>by omega);have lB_10:=B_10.lt;have lA_10:=A_10.lt))
    have hAz:Bk w9 gA 41 [c0,c1,c2,c3,c4,c5,c6]:=A_10
    dsimp only[Act.put]
    cases hq2:termP I.M (lmOf I) g d (k+1) with
    |out=>exact absurd hq2 hn2
    |bad y j=>
     have HE:=bind_bad HR hq2
     have hdz:=Q_10
     rw[hq2] at hdz
     obtain⟨hy,kz,dz,hdz⟩:=hdz
     have ms1:=rq_msr hd
     have ms2:=rq_msr0 hy hdz
     go_roundw
     case rel=>exact⟨B_10,U_10,[c0,c1,c2,c3,c4,c5,c6],sv3,hAz,.inr ⟨y,j,kz,dz,HE,hy,hdz⟩⟩
     case measure=>exact msr_dead ms1 ms2 hkn
    |ok b k2=>
     have HE:=bind_ok HR hq2
     have hdz:=Q_10
     rw[hq2] at hdz
     have hdz:Rq I w9 R k2 0 0 d:=hdz
     have hge:k+1≤k2:=by have:=(allGe I.M (lmOf I) g).termP d (k+1);rw[hq2] at this;exact this
     have ms1:=rq_msr hd
     have ms2:=rq_msr hdz
     go_roundw
     case rel=>exact⟨B_10,U_10,[c0,c1,c2,c3,c4,c5,c6],sv3,hAz,.inl ⟨g,k2,two 8 a b (I.M k),HE,by omega,hdz,Z_10 b k2 hq2⟩⟩
     case measure=>exact msr_live ms1 ms2 hkn hge
   |false=>
    have HR:Hid (r=if tk I.M [45] k then (termP I.M (lmOf I) g d (k+1)).bind fun b k1=>sumL I.M (lmOf I) g d (two 9 a b (I.M k)) k1 else .ok a k):=by
     show r=_
     rw[show r=_ from HR,if_neg (by rw[t1];simp)]
    cases t2:tk I.M [45] k with
    |true=>
     have hk1:=hE.tk I.M t2 (by decide) hkn
     have hw:=w64k k (by have:=hd.small;omega)
     have ht:((bs (I.M k).text).toList==[45])=true:=by rw[bs_toList];exact t2
     have HR:Hid (r=(termP I.M (lmOf I) g d (k+1)).bind fun b k1=>sumL I.M (lmOf I) g d (two 9 a b (I.M k)) k1):=by
      show r=_
      rw[show r=_ from HR,if_pos t2]
     have hn2:=bind_ne HR hne
     go_wp2_with fail
     refine (t1 ▸ ris_live I [43] hW1 wr R k 0 d hd:Calls Tryz.prog 61 #[.pointer (some ⟨R,0,none⟩),.string (bs [43])] wr fun e w'=>e=.returned (.bool false)∧Below wr.heap.size wr w').mono ?_
     rintro e w3 ⟨rfl,hbw3⟩
     have B_1:=hB.up hbw3
     have U_1:=hU.then hbw3
     have A_1:=hA.up hbw3
     have Q_1:=hd.up hbw3
     have X_1:=hxr.up hbw3
     have lB_1:=B_1.lt
     have lA_1:=A_1.lt
     have s_1:=hbw3.size
     go_wp2_with fail
     refine (t2 ▸ ris_live I [45] hW2 w3 R k 0 d Q_1:Calls Tryz.prog 61 #[.pointer (some ⟨R,0,none⟩),.string (bs [45])] w3 fun e w'=>e=.returned (.bool true)∧Below w3.heap.size w3 w').mono ?_
     rintro e w4 ⟨rfl,hbw4⟩
     have B_2:=B_1.up hbw4
     have U_2:=U_1.then hbw4
     have A_2:=A_1.up hbw4
     have Q_2:=Q_1.up hbw4
     have X_2:=X_1.up hbw4
     have lB_2:=B_2.lt
     have lA_2:=A_2.lt
     have s_2:=hbw4.size
     go_wp2_with fail
     go_wp2_with fail
     refine (rnext_any I w4 R k 0 0 d Q_2).mono ?_
     rintro e w5 ⟨rfl,hbw5⟩
     unfold mkV
     have B_3:=B_2.up hbw5
     have U_3:=U_2.then hbw5
     have A_3:=A_2.up hbw5
     have Q_3:=Q_2.up hbw5
     have X_3:=X_2.up hbw5
     have lB_3:=B_3.lt
     have lA_3:=A_3.lt
     have s_3:=hbw5.size
     have B_4:=B_3.up (below_alloc w5 (.cells mz 85))
     have U_4:=U_3.then (below_alloc w5 (.cells mz 85))
     have A_4:=A_3.up (below_alloc w5 (.cells mz 85))
     have Q_4:=Q_3.up (below_alloc w5 (.cells mz 85))
     have X_4:=X_3.up (below_alloc w5 (.cells mz 85))
     have M_4:=Bk.new w5 85 mz
     go_wp2_with (first
      |(refine wpList_storeN rfl 85 (.tmp 4) (.tmp 16) rfl w5.heap.size 0 (mkC (I.M k)) rfl rfl M_4 (Nat.le_refl 4) Tryz.infoM (mkC_one _) ?_;intro w6 M_5 ho4;have B_5:=B_4.oth ho4 (by omega);have U_5:=ho4.but U_4 (by omega);have A_5:=A_4.oth ho4 (by omega);have Q_5:=Q_4.oth ho4 (by omega) (by omega);have X_5:=X_4.oth2 ho4 (fun b hb=>by omega);have lB_5:=B_5.lt;have lA_5:=A_5.lt;have lM_5:=M_5.lt;obtain⟨-,c1,-⟩:=Q_5.nine;have z1:=Q_5.blk.frz 1))
     have hdn:=Q_5.go (k+1) hk1
     have hVn:=(But.refl R w6).setR (j:=1) (.int .i64 ((k+1:Nat):Int))
     have B_6:=B_5.but hVn (by omega)
     have U_6:=U_5.trans hVn
     have A_6:=A_5.but hVn (by omega)
     have X_6:=X_5.but2 hVn (fun b hb=>by omega)
     have M_6:=M_5.but hVn (by omega)
     have lB_6:=B_6.lt
     have lA_6:=A_6.lt
     have lM_6:=M_6.lt
     have s_6:=hVn.size
     refine ((ihs g (by omega)).term (.ok () (k+1)) _ R d hdn hn2).mono ?_
     rintro e w7 ⟨us,rfl,sv2,hex2,hs2,hVw7⟩
     rw[nx_ok] at hex2 hs2
     obtain⟨b0,b1,b2,b3,b4,b5,b6,rfl⟩:=list7 sv2.len
     clear c1 z1
     have B_7:=B_6.but hVw7 (by omega)
     have U_7:=U_6.trans hVw7
     have A_7:=A_6.but hVw7 (by omega)
     have X_7:=X_6.but2 hVw7 (fun b hb=>by omega)
     have M_7:=M_6.but hVw7 (by omega)
     have lB_7:=B_7.lt
     have lA_7:=A_7.lt
     have lM_7:=M_7.lt
     have s_7:=hVw7.size
     have hxb:=fun x j e=>(hex2 x j e).imp (A':=fun b=>w.heap.size<b∧b≠gA∧b<w7.heap.size) fun b hb hl=>by simp at hb;omega
     clear hex2
     have B_8:=B_7.up (below_alloc w7 (.cells ez 41))
     have U_8:=U_7.then (below_alloc w7 (.cells ez 41))
     have A_8:=A_7.up (below_alloc w7 (.cells ez 41))
     have X_8:=X_7.up (below_alloc w7 (.cells ez 41))
     have M_8:=M_7.up (below_alloc w7 (.cells ez 41))
     have Q_8:=hs2.up (below_alloc w7 (.cells ez 41))
     have Y_8:=fun x j e=>(hxb x j e).up (below_alloc w7 (.cells ez 41))
     have C_8:=Bk.new w7 41 ez
     go_wp2_with (first
      |(refine wpList_storeN rfl 41 (.tmp 5) (.tmp 25) rfl w7.heap.size 0 [b0,b1,b2,b3,b4,b5,b6] rfl rfl C_8 (Nat.le_refl 7) Tryz.infoE sv2.one ?_;intro w8 C_9 ho8;have B_9:=B_8.oth ho8 (by omega);have U_9:=ho8.but U_8 (by omega);have A_9:=A_8.oth ho8 (by omega);have X_9:=X_8.oth2 ho8 (fun b hb=>by omega);have M_9:=M_8.oth ho8 (by omega);have Q_9:=Q_8.oth ho8 (by omega) (by omega);have Y_9:=fun x j e=>(Y_8 x j e).oth2 ho8 (fun b hb=>by omega);have lB_9:=B_9.lt;have lA_9:=A_9.lt;have lM_9:=M_9.lt;have lC_9:=C_9.lt;obtain⟨-,mt,-⟩:=Bk.four (show Bk w8 w5.heap.size _ [_,_,_,_] from M_9))
      |refine wpList_loadN rfl 41 (.tmp 3) rfl gA 0 rfl [a0,a1,a2,a3,a4,a5,a6] _ (A_9.range 0 7) Tryz.underE Tryz.infoE ?_
      |refine wpList_loadN rfl 41 (.tmp 5) rfl w7.heap.size 0 rfl [b0,b1,b2,b3,b4,b5,b6] _ (C_9.range 0 7) Tryz.underE Tryz.infoE ?_
      |refine wpList_loadN rfl 85 (.tmp 4) rfl w5.heap.size 0 rfl (mkC (I.M k)) _ (M_9.range 0 4) Tryz.underM Tryz.infoM ?_)
     refine (rtwo_any 9 (I.M k) [a0,a1,a2,a3,a4,a5,a6] [b0,b1,b2,b3,b4,b5,b6] sv sv2 w8).mono ?_
     rintro e w9 ⟨V,rfl,sv3,hb8,htw⟩
     obtain⟨c0,c1,c2,c3,c4,c5,c6,rfl⟩:=list7 sv3.len
     have hz:=fun x j e=>htw (fun c=>w.heap.size<c∧c≠gA) a x (fun c hc=>by omega) (X_9.imp fun b hb _=>by omega) ((Y_9 x j e).imp fun b hb _=>by omega)
     clear htw mt
     have B_10:=B_9.up hb8
     have U_10:=U_9.then hb8
     have A_10:=A_9.up hb8
     have Q_10:=Q_9.up hb8
     have lB_10:=B_10.lt
     have lA_10:=A_10.lt
     have s_10:=hb8.size
     go_wp2_with (first
      |(refine wpList_storeN rfl 41 (.tmp 3) (.tmp 33) rfl gA 0 [c0,c1,c2,c3,c4,c5,c6] rfl rfl A_10 (Nat.le_refl 7) Tryz.infoE sv3.one ?_;intro w10 A_11 ho10;have B_11:=B_10.oth ho10 (by omega);have U_11:=ho10.but U_10 (by omega);have Q_11:=Q_10.oth ho10 (by omega) (by omega);have Z_11:=fun x j e=>(hz x j e).oth2 ho10 (fun b hb=>by omega);have lB_11:=B_11.lt;have lA_11:=A_11.lt))
     have hAz:Bk w10 gA 41 [c0,c1,c2,c3,c4,c5,c6]:=A_11
     dsimp only[Act.put]
     cases hq2:termP I.M (lmOf I) g d (k+1) with
     |out=>exact absurd hq2 hn2
     |bad y j=>
      have HE:=bind_bad HR hq2
      have hdz:=Q_11
      rw[hq2] at hdz
      obtain⟨hy,kz,dz,hdz⟩:=hdz
      have ms1:=rq_msr hd
      have ms2:=rq_msr0 hy hdz
      go_roundw
      case rel=>exact⟨B_11,U_11,[c0,c1,c2,c3,c4,c5,c6],sv3,hAz,.inr ⟨y,j,kz,dz,HE,hy,hdz⟩⟩
      case measure=>exact msr_dead ms1 ms2 hkn
     |ok b k2=>
      have HE:=bind_ok HR hq2
      have hdz:=Q_11
      rw[hq2] at hdz
      have hdz:Rq I w10 R k2 0 0 d:=hdz
      have hge:k+1≤k2:=by have:=(allGe I.M (lmOf I) g).termP d (k+1);rw[hq2] at this;exact this
      have ms1:=rq_msr hd
      have ms2:=rq_msr hdz
      go_roundw
      case rel=>exact⟨B_11,U_11,[c0,c1,c2,c3,c4,c5,c6],sv3,hAz,.inl ⟨g,k2,two 9 a b (I.M k),HE,by omega,hdz,Z_11 b k2 hq2⟩⟩
      case measure=>exact msr_live ms1 ms2 hkn hge
    |false=>
     have HE:r=.ok a k:=by rw[show r=_ from HR,if_neg (by rw[t2];simp)]
     clear HR
     go_wp2_with fail
     refine (t1 ▸ ris_live I [43] hW1 wr R k 0 d hd:Calls Tryz.prog 61 #[.pointer (some ⟨R,0,none⟩),.string (bs [43])] wr fun e w'=>e=.returned (.bool false)∧Below wr.heap.size wr w').mono ?_
     rintro e w3 ⟨rfl,hbw3⟩
     have B_1:=hB.up hbw3
     have U_1:=hU.then hbw3
     have A_1:=hA.up hbw3
     have Q_1:=hd.up hbw3
     have X_1:=hxr.up hbw3
     have lB_1:=B_1.lt
     have lA_1:=A_1.lt
     have s_1:=hbw3.size
     go_wp2_with fail
     refine (t2 ▸ ris_live I [45] hW2 w3 R k 0 d Q_1:Calls Tryz.prog 61 #[.pointer (some ⟨R,0,none⟩),.string (bs [45])] w3 fun e w'=>e=.returned (.bool false)∧Below w3.heap.size w3 w').mono ?_
     rintro e w4 ⟨rfl,hbw4⟩
     have B_2:=B_1.up hbw4
     have U_2:=U_1.then hbw4
     have A_2:=A_1.up hbw4
     have Q_2:=Q_1.up hbw4
     have X_2:=X_1.up hbw4
     have lB_2:=B_2.lt
     have lA_2:=A_2.lt
     have s_2:=hbw4.size
     subst HE
     go_wp2_with (first
      |refine wpList_loadN rfl 41 (.tmp 3) rfl gA 0 rfl [a0,a1,a2,a3,a4,a5,a6] _ (A_2.range 0 7) Tryz.underE Tryz.infoE ?_
      |(refine wpList_storeN rfl 41 (.tmp 2) (.tmp 34) rfl w.heap.size 0 [a0,a1,a2,a3,a4,a5,a6] rfl rfl B_2 (Nat.le_refl 7) Tryz.infoE sv.one ?_;intro wz B_3 ho2;have U_3:=ho2.but U_2 (by omega);have A_3:=A_2.oth ho2 (by omega);have Q_3:=Q_2.oth ho2 (by omega) (by omega);have X_3:=X_2.oth2 ho2 (fun b hb=>by omega);have lA_3:=A_3.lt;have lB_3:=B_3.lt;obtain⟨q0,q1,q2,q3,q4,q5,q6⟩:=Bk.seven (show Bk wz w.heap.size _ [_,_,_,_,_,_,_] from B_3)))
     refine bodyPost_ret (v:=.agg #[a0,a1,a2,a3,a4,a5,a6]) (by simp[results,Tryz.results129,go_sem,q0,q1,q2,q3,q4,q5,q6]) rfl ⟨_,rfl,sv,(fun _ _ e=>by cases e;exact X_3.imp fun b hb _=>by omega),Q_3,U_3⟩
  ·have HE:=show r=_ from HR
   clear HR
   go_wp2_with fail
   refine (ris_dead I [43] wr R k y _ d' hy hd).mono ?_
   rintro e w3 ⟨rfl,hbw3⟩
   have B_1:=hB.up hbw3
   have U_1:=hU.then hbw3
   have A_1:=hA.up hbw3
   have Q_1:=hd.up hbw3
   have lB_1:=B_1.lt
   have lA_1:=A_1.lt
   have s_1:=hbw3.size
   go_wp2_with fail
   refine (ris_dead I [45] w3 R k y _ d' hy Q_1).mono ?_
   rintro e w4 ⟨rfl,hbw4⟩
   have B_2:=B_1.up hbw4
   have U_2:=U_1.then hbw4
   have A_2:=A_1.up hbw4
   have Q_2:=Q_1.up hbw4
   have lB_2:=B_2.lt
   have lA_2:=A_2.lt
   have s_2:=hbw4.size
   subst HE
   go_wp2_with (first
    |refine wpList_loadN rfl 41 (.tmp 3) rfl gA 0 rfl [a0,a1,a2,a3,a4,a5,a6] _ (A_2.range 0 7) Tryz.underE Tryz.infoE ?_
    |(refine wpList_storeN rfl 41 (.tmp 2) (.tmp 34) rfl w.heap.size 0 [a0,a1,a2,a3,a4,a5,a6] rfl rfl B_2 (Nat.le_refl 7) Tryz.infoE sv.one ?_;intro wz B_3 ho2;have U_3:=ho2.but U_2 (by omega);have A_3:=A_2.oth ho2 (by omega);have Q_3:=Q_2.oth ho2 (by omega) (by omega);have lA_3:=A_3.lt;have lB_3:=B_3.lt;obtain⟨q0,q1,q2,q3,q4,q5,q6⟩:=Bk.seven (show Bk wz w.heap.size _ [_,_,_,_,_,_,_] from B_3)))
   refine bodyPost_ret (v:=.agg #[a0,a1,a2,a3,a4,a5,a6]) (by simp[results,Tryz.results129,go_sem,q0,q1,q2,q3,q4,q5,q6]) rfl ⟨_,rfl,sv,(fun _ _ e=>by cases e),⟨hy,k,d',Q_3⟩,U_3⟩
set_option maxHeartbeats 8000000 in
theorem rterm_step (I:Rdi) (hE:Ends I.M I.n) (hW:∀ s∈lks,Wm I.M s) (f:Nat) (ihs:∀ g,g≤f→AllR I g) {α:Type} (q:Rs α) (w:World) (R d:Nat) (h:St I w R d q) (hne:nx q (termP I.M (lmOf I) (f+1) d)≠.out) :
  Calls Tryz.prog 143 #[.pointer (some ⟨R,0,none⟩)] w (RA I R d w (nx q (termP I.M (lmOf I) (f+1) d))):=by
 obtain⟨r,hr⟩:∃ r,r=nx q (termP I.M (lmOf I) (f+1) d):=⟨_,rfl⟩
 rw[← hr] at hne ⊢
 have hr2:r=(nx q (unitP I.M (lmOf I) f d)).bind fun a k1=>termL I.M (lmOf I) f d a k1:=by
  rw[hr,← nx_assoc]
  congr 1
  funext k
  rw[termP]
 clear hr
 have HR:Hid (r=_):=hr2
 clear hr2
 have hn1:=bind_ne HR hne
 have hlt:=h.lt
 have hcx:=store_cx
 have hW1:=hW [42] (by simp[lks])
 have hW2:=hW [47] (by simp[lks])
 have S_1:=h.up (below_alloc w (.cells ez 41))
 have U_1:=(But.refl R w).then (below_alloc w (.cells ez 41))
 have B_1:=Bk.new w 41 ez
 have c1:=(ihs f (Nat.le_refl _)).unit q _ R d S_1 hn1
 go_enter Tryz.func143,Tryz.ntmps143
 go_wp2_with fail
 refine c1.mono ?_
 rintro e w1 ⟨vs,rfl,sv,hex,hs,hV⟩
 obtain⟨a0,a1,a2,a3,a4,a5,a6,rfl⟩:=list7 sv.len
 have U_2:=U_1.trans hV
 have B_2:=B_1.but hV (by omega)
 have lB_2:=B_2.lt
 have s_2:=hV.size
 have hxa:=fun x j e=>(hex x j e).imp (A':=fun b=>w.heap.size<b∧b<w1.heap.size) fun b hb hl=>by simp at hb;omega
 clear hex c1
 have U_3:=U_2.then (below_alloc w1 (.cells ez 41))
 have B_3:=B_2.up (below_alloc w1 (.cells ez 41))
 have Q_3:=hs.up (below_alloc w1 (.cells ez 41))
 have X_3:=fun x j e=>(hxa x j e).up (below_alloc w1 (.cells ez 41))
 have A_3:=Bk.new w1 41 ez
 go_wp2_with (first
  |(refine wpList_storeN rfl 41 (.tmp 3) (.tmp 8) rfl w1.heap.size 0 [a0,a1,a2,a3,a4,a5,a6] rfl rfl A_3 (Nat.le_refl 7) Tryz.infoE sv.one ?_;intro w2 A_4 ho3;have U_4:=ho3.but U_3 (by omega);have B_4:=B_3.oth ho3 (by omega);have Q_4:=Q_3.oth ho3 (by omega) (by omega);have X_4:=fun x j e=>(X_3 x j e).oth2 ho3 (fun b hb=>by omega);have lB_4:=B_4.lt;have lA_4:=A_4.lt))
 have hJ:RJ I f R d w1.heap.size w (fun g a k=>Hid (r=termL I.M (lmOf I) g d a k)) (fun y j=>Hid (r=.bad y j)) w2:=by
  refine⟨B_4,U_4,_,sv,A_4,?_⟩
  cases hq1:nx q (unitP I.M (lmOf I) f d) with
  |out=>exact absurd hq1 hn1
  |bad y j=>
   have hd:=Q_4
   rw[hq1] at hd
   obtain⟨hy,k,d',hd⟩:=hd
   exact .inr ⟨y,j,k,d',bind_bad HR hq1,hy,hd⟩
  |ok a k1=>
   have hd:=Q_4
   rw[hq1] at hd
   exact .inl ⟨f,k1,a,bind_ok HR hq1,Nat.le_refl _,hd,(X_4 a k1 hq1).imp fun b hb _=>by omega⟩
 have hgA:w.heap.size<w1.heap.size:=lB_2
 obtain⟨gA,hgd⟩:∃ g,g=w1.heap.size:=⟨_,rfl⟩
 rw[← hgd] at hJ hgA ⊢
 clear B_4 U_4 A_4 Q_4 X_4 sv hgd HR hn1 h
 dsimp only[Act.put]
 go_loopw [] (fun wr=>RJ I f R d gA w (fun g a k=>Hid (r=termL I.M (lmOf I) g d a k)) (fun y j=>Hid (r=.bad y j)) wr) (fun wr=>msr I.n R wr)
 case atStart=>exact hJ
 case round=>
  obtain⟨hB,hU,vs,sv,hA,hst⟩:=hrel
  obtain⟨a0,a1,a2,a3,a4,a5,a6,rfl⟩:=list7 sv.len
  have lB:=hB.lt
  have lA:=hA.lt
  rcases hst with⟨g,k,a,HR,hg,hd,hxa⟩|⟨y,j,k,d',HR,hy,hd⟩
  ·obtain⟨g,rfl⟩:∃ g',g=g'+1:=by
    cases g with
    |zero=>exact absurd (by rw[show r=_ from HR,termL]) hne
    |succ g=>exact⟨g,rfl⟩
   have hkn:=hd.kn
   have hxr:=hxa.imp (A':=fun b=>w.heap.size<b∧b≠gA∧b<wr.heap.size) fun b hb hl=>⟨hb.1,hb.2,hl⟩
   have hr3:=show r=_ from HR
   rw[termL] at hr3
   have HR:Hid (r=_):=hr3
   clear hr3 hxa
   cases t1:tk I.M [42] k with
   |true=>
    have hk1:=hE.tk I.M t1 (by decide) hkn
    have hw:=w64k k (by have:=hd.small;omega)
    have t2:tk I.M [47] k=false:=by unfold tk at t1 ⊢;rw[eq_of_beq t1];rfl
    have ht:((bs (I.M k).text).toList==[47])=false:=by rw[bs_toList];exact t2
    have HR:Hid (r=(unitP I.M (lmOf I) g d (k+1)).bind fun b k1=>termL I.M (lmOf I) g d (two 10 a b (I.M k)) k1):=by
     show r=_
     rw[show r=_ from HR,if_pos t1]
    have hn2:=bind_ne HR hne
    go_wp2_with fail
    refine (t1 ▸ ris_live I [42] hW1 wr R k 0 d hd:Calls Tryz.prog 61 #[.pointer (some ⟨R,0,none⟩),.string (bs [42])] wr fun e w'=>e=.returned (.bool true)∧Below wr.heap.size wr w').mono ?_
    rintro e w3 ⟨rfl,hbw3⟩
    have B_1:=hB.up hbw3
    have U_1:=hU.then hbw3
    have A_1:=hA.up hbw3
    have Q_1:=hd.up hbw3
    have X_1:=hxr.up hbw3
    have lB_1:=B_1.lt
    have lA_1:=A_1.lt
    have s_1:=hbw3.size
    go_wp2_with fail
    go_wp2_with fail
    refine (rnext_any I w3 R k 0 0 d Q_1).mono ?_
    rintro e w4 ⟨rfl,hbw4⟩
    unfold mkV
    have B_2:=B_1.up hbw4
    have U_2:=U_1.then hbw4
    have A_2:=A_1.up hbw4
    have Q_2:=Q_1.up hbw4
    have X_2:=X_1.up hbw4
    have lB_2:=B_2.lt
    have lA_2:=A_2.lt
    have s_2:=hbw4.size
    have B_3:=B_2.up (below_alloc w4 (.cells mz 85))
    have U_3:=U_2.then (below_alloc w4 (.cells mz 85))
    have A_3:=A_2.up (below_alloc w4 (.cells mz 85))
    have Q_3:=Q_2.up (below_alloc w4 (.cells mz 85))
    have X_3:=X_2.up (below_alloc w4 (.cells mz 85))
    have M_3:=Bk.new w4 85 mz
    go_wp2_with (first
     |(refine wpList_storeN rfl 85 (.tmp 4) (.tmp 16) rfl w4.heap.size 0 (mkC (I.M k)) rfl rfl M_3 (Nat.le_refl 4) Tryz.infoM (mkC_one _) ?_;intro w5 M_4 ho3;have B_4:=B_3.oth ho3 (by omega);have U_4:=ho3.but U_3 (by omega);have A_4:=A_3.oth ho3 (by omega);have Q_4:=Q_3.oth ho3 (by omega) (by omega);have X_4:=X_3.oth2 ho3 (fun b hb=>by omega);have lB_4:=B_4.lt;have lA_4:=A_4.lt;have lM_4:=M_4.lt;obtain⟨-,c1,-⟩:=Q_4.nine;have z1:=Q_4.blk.frz 1))
    have hdn:=Q_4.go (k+1) hk1
    have hVn:=(But.refl R w5).setR (j:=1) (.int .i64 ((k+1:Nat):Int))
    have B_5:=B_4.but hVn (by omega)
    have U_5:=U_4.trans hVn
    have A_5:=A_4.but hVn (by omega)
    have X_5:=X_4.but2 hVn (fun b hb=>by omega)
    have M_5:=M_4.but hVn (by omega)
    have lB_5:=B_5.lt
    have lA_5:=A_5.lt
    have lM_5:=M_5.lt
    have s_5:=hVn.size
    refine ((ihs g (by omega)).unit (.ok () (k+1)) _ R d hdn hn2).mono ?_
    rintro e w6 ⟨us,rfl,sv2,hex2,hs2,hVw6⟩
    rw[nx_ok] at hex2 hs2
    obtain⟨b0,b1,b2,b3,b4,b5,b6,rfl⟩:=list7 sv2.len
    clear c1 z1
    have B_6:=B_5.but hVw6 (by omega)
    have U_6:=U_5.trans hVw6
    have A_6:=A_5.but hVw6 (by omega)
    have X_6:=X_5.but2 hVw6 (fun b hb=>by omega)
    have M_6:=M_5.but hVw6 (by omega)
    have lB_6:=B_6.lt
    have lA_6:=A_6.lt
    have lM_6:=M_6.lt
    have s_6:=hVw6.size
    have hxb:=fun x j e=>(hex2 x j e).imp (A':=fun b=>w.heap.size<b∧b≠gA∧b<w6.heap.size) fun b hb hl=>by simp at hb;omega
    clear hex2
    have B_7:=B_6.up (below_alloc w6 (.cells ez 41))
    have U_7:=U_6.then (below_alloc w6 (.cells ez 41))
    have A_7:=A_6.up (below_alloc w6 (.cells ez 41))
    have X_7:=X_6.up (below_alloc w6 (.cells ez 41))
    have M_7:=M_6.up (below_alloc w6 (.cells ez 41))
    have Q_7:=hs2.up (below_alloc w6 (.cells ez 41))
    have Y_7:=fun x j e=>(hxb x j e).up (below_alloc w6 (.cells ez 41))
    have C_7:=Bk.new w6 41 ez
    go_wp2_with (first
     |(refine wpList_storeN rfl 41 (.tmp 5) (.tmp 25) rfl w6.heap.size 0 [b0,b1,b2,b3,b4,b5,b6] rfl rfl C_7 (Nat.le_refl 7) Tryz.infoE sv2.one ?_;intro w7 C_8 ho7;have B_8:=B_7.oth ho7 (by omega);have U_8:=ho7.but U_7 (by omega);have A_8:=A_7.oth ho7 (by omega);have X_8:=X_7.oth2 ho7 (fun b hb=>by omega);have M_8:=M_7.oth ho7 (by omega);have Q_8:=Q_7.oth ho7 (by omega) (by omega);have Y_8:=fun x j e=>(Y_7 x j e).oth2 ho7 (fun b hb=>by omega);have lB_8:=B_8.lt;have lA_8:=A_8.lt;have lM_8:=M_8.lt;have lC_8:=C_8.lt;obtain⟨-,mt,-⟩:=Bk.four (show Bk w7 w4.heap.size _ [_,_,_,_] from M_8))
     |refine wpList_loadN rfl 41 (.tmp 3) rfl gA 0 rfl [a0,a1,a2,a3,a4,a5,a6] _ (A_8.range 0 7) Tryz.underE Tryz.infoE ?_
     |refine wpList_loadN rfl 41 (.tmp 5) rfl w6.heap.size 0 rfl [b0,b1,b2,b3,b4,b5,b6] _ (C_8.range 0 7) Tryz.underE Tryz.infoE ?_
     |refine wpList_loadN rfl 85 (.tmp 4) rfl w4.heap.size 0 rfl (mkC (I.M k)) _ (M_8.range 0 4) Tryz.underM Tryz.infoM ?_)
    refine (rtwo_any 10 (I.M k) [a0,a1,a2,a3,a4,a5,a6] [b0,b1,b2,b3,b4,b5,b6] sv sv2 w7).mono ?_
    rintro e w8 ⟨V,rfl,sv3,hb8,htw⟩
    obtain⟨c0,c1,c2,c3,c4,c5,c6,rfl⟩:=list7 sv3.len
    have hz:=fun x j e=>htw (fun c=>w.heap.size<c∧c≠gA) a x (fun c hc=>by omega) (X_8.imp fun b hb _=>by omega) ((Y_8 x j e).imp fun b hb _=>by omega)
    clear htw mt
    have B_9:=B_8.up hb8
    have U_9:=U_8.then hb8
    have A_9:=A_8.up hb8
    have Q_9:=Q_8.up hb8
    have lB_9:=B_9.lt
    have lA_9:=A_9.lt
    have s_9:=hb8.size
    go_wp2_with (first
     |(refine wpList_storeN rfl 41 (.tmp 3) (.tmp 33) rfl gA 0 [c0,c1,c2,c3,c4,c5,c6] rfl rfl A_9 (Nat.le_refl 7) Tryz.infoE sv3.one ?_;intro w9 A_10 ho9;have B_10:=B_9.oth ho9 (by omega);have U_10:=ho9.but U_9 (by omega);have Q_10:=Q_9.oth ho9 (by omega) (by omega);have Z_10:=fun x j e=>(hz x j e).oth2 ho9 (fun b hb=>by omega);have lB_10:=B_10.lt;have lA_10:=A_10.lt))
    have hAz:Bk w9 gA 41 [c0,c1,c2,c3,c4,c5,c6]:=A_10
    dsimp only[Act.put]
    cases hq2:unitP I.M (lmOf I) g d (k+1) with
    |out=>exact absurd hq2 hn2
    |bad y j=>
     have HE:=bind_bad HR hq2
     have hdz:=Q_10
     rw[hq2] at hdz
     obtain⟨hy,kz,dz,hdz⟩:=hdz
     have ms1:=rq_msr hd
     have ms2:=rq_msr0 hy hdz
     go_roundw
     case rel=>exact⟨B_10,U_10,[c0,c1,c2,c3,c4,c5,c6],sv3,hAz,.inr ⟨y,j,kz,dz,HE,hy,hdz⟩⟩
     case measure=>exact msr_dead ms1 ms2 hkn
    |ok b k2=>
     have HE:=bind_ok HR hq2
     have hdz:=Q_10
     rw[hq2] at hdz
     have hdz:Rq I w9 R k2 0 0 d:=hdz
     have hge:k+1≤k2:=by have:=(allGe I.M (lmOf I) g).unitP d (k+1);rw[hq2] at this;exact this
     have ms1:=rq_msr hd
     have ms2:=rq_msr hdz
     go_roundw
     case rel=>exact⟨B_10,U_10,[c0,c1,c2,c3,c4,c5,c6],sv3,hAz,.inl ⟨g,k2,two 10 a b (I.M k),HE,by omega,hdz,Z_10 b k2 hq2⟩⟩
     case measure=>exact msr_live ms1 ms2 hkn hge
   |false=>
    have HR:Hid (r=if tk I.M [47] k then (unitP I.M (lmOf I) g d (k+1)).bind fun b k1=>termL I.M (lmOf I) g d (two 11 a b (I.M k)) k1 else .ok a k):=by
     show r=_
     rw[show r=_ from HR,if_neg (by rw[t1];simp)]
    cases t2:tk I.M [47] k with
    |true=>
     have hk1:=hE.tk I.M t2 (by decide) hkn
     have hw:=w64k k (by have:=hd.small;omega)
     have ht:((bs (I.M k).text).toList==[47])=true:=by rw[bs_toList];exact t2
     have HR:Hid (r=(unitP I.M (lmOf I) g d (k+1)).bind fun b k1=>termL I.M (lmOf I) g d (two 11 a b (I.M k)) k1):=by
      show r=_
      rw[show r=_ from HR,if_pos t2]
     have hn2:=bind_ne HR hne
     go_wp2_with fail
     refine (t1 ▸ ris_live I [42] hW1 wr R k 0 d hd:Calls Tryz.prog 61 #[.pointer (some ⟨R,0,none⟩),.string (bs [42])] wr fun e w'=>e=.returned (.bool false)∧Below wr.heap.size wr w').mono ?_
     rintro e w3 ⟨rfl,hbw3⟩
     have B_1:=hB.up hbw3
     have U_1:=hU.then hbw3
     have A_1:=hA.up hbw3
     have Q_1:=hd.up hbw3
     have X_1:=hxr.up hbw3
     have lB_1:=B_1.lt
     have lA_1:=A_1.lt
     have s_1:=hbw3.size
     go_wp2_with fail
     refine (t2 ▸ ris_live I [47] hW2 w3 R k 0 d Q_1:Calls Tryz.prog 61 #[.pointer (some ⟨R,0,none⟩),.string (bs [47])] w3 fun e w'=>e=.returned (.bool true)∧Below w3.heap.size w3 w').mono ?_
     rintro e w4 ⟨rfl,hbw4⟩
     have B_2:=B_1.up hbw4
     have U_2:=U_1.then hbw4
     have A_2:=A_1.up hbw4
     have Q_2:=Q_1.up hbw4
     have X_2:=X_1.up hbw4
     have lB_2:=B_2.lt
     have lA_2:=A_2.lt
     have s_2:=hbw4.size
     go_wp2_with fail
     go_wp2_with fail
     refine (rnext_any I w4 R k 0 0 d Q_2).mono ?_
     rintro e w5 ⟨rfl,hbw5⟩
     unfold mkV
     have B_3:=B_2.up hbw5
     have U_3:=U_2.then hbw5
     have A_3:=A_2.up hbw5
     have Q_3:=Q_2.up hbw5
     have X_3:=X_2.up hbw5
     have lB_3:=B_3.lt
     have lA_3:=A_3.lt
     have s_3:=hbw5.size
     have B_4:=B_3.up (below_alloc w5 (.cells mz 85))
     have U_4:=U_3.then (below_alloc w5 (.cells mz 85))
     have A_4:=A_3.up (below_alloc w5 (.cells mz 85))
     have Q_4:=Q_3.up (below_alloc w5 (.cells mz 85))
     have X_4:=X_3.up (below_alloc w5 (.cells mz 85))
     have M_4:=Bk.new w5 85 mz
     go_wp2_with (first
      |(refine wpList_storeN rfl 85 (.tmp 4) (.tmp 16) rfl w5.heap.size 0 (mkC (I.M k)) rfl rfl M_4 (Nat.le_refl 4) Tryz.infoM (mkC_one _) ?_;intro w6 M_5 ho4;have B_5:=B_4.oth ho4 (by omega);have U_5:=ho4.but U_4 (by omega);have A_5:=A_4.oth ho4 (by omega);have Q_5:=Q_4.oth ho4 (by omega) (by omega);have X_5:=X_4.oth2 ho4 (fun b hb=>by omega);have lB_5:=B_5.lt;have lA_5:=A_5.lt;have lM_5:=M_5.lt;obtain⟨-,c1,-⟩:=Q_5.nine;have z1:=Q_5.blk.frz 1))
     have hdn:=Q_5.go (k+1) hk1
     have hVn:=(But.refl R w6).setR (j:=1) (.int .i64 ((k+1:Nat):Int))
     have B_6:=B_5.but hVn (by omega)
     have U_6:=U_5.trans hVn
     have A_6:=A_5.but hVn (by omega)
     have X_6:=X_5.but2 hVn (fun b hb=>by omega)
     have M_6:=M_5.but hVn (by omega)
     have lB_6:=B_6.lt
     have lA_6:=A_6.lt
     have lM_6:=M_6.lt
     have s_6:=hVn.size
     refine ((ihs g (by omega)).unit (.ok () (k+1)) _ R d hdn hn2).mono ?_
     rintro e w7 ⟨us,rfl,sv2,hex2,hs2,hVw7⟩
     rw[nx_ok] at hex2 hs2
     obtain⟨b0,b1,b2,b3,b4,b5,b6,rfl⟩:=list7 sv2.len
     clear c1 z1
     have B_7:=B_6.but hVw7 (by omega)
     have U_7:=U_6.trans hVw7
     have A_7:=A_6.but hVw7 (by omega)
     have X_7:=X_6.but2 hVw7 (fun b hb=>by omega)
     have M_7:=M_6.but hVw7 (by omega)
     have lB_7:=B_7.lt
     have lA_7:=A_7.lt
     have lM_7:=M_7.lt
     have s_7:=hVw7.size
     have hxb:=fun x j e=>(hex2 x j e).imp (A':=fun b=>w.heap.size<b∧b≠gA∧b<w7.heap.size) fun b hb hl=>by simp at hb;omega
     clear hex2
     have B_8:=B_7.up (below_alloc w7 (.cells ez 41))
     have U_8:=U_7.then (below_alloc w7 (.cells ez 41))
     have A_8:=A_7.up (below_alloc w7 (.cells ez 41))
     have X_8:=X_7.up (below_alloc w7 (.cells ez 41))
     have M_8:=M_7.up (below_alloc w7 (.cells ez 41))
     have Q_8:=hs2.up (below_alloc w7 (.cells ez 41))
     have Y_8:=fun x j e=>(hxb x j e).up (below_alloc w7 (.cells ez 41))
     have C_8:=Bk.new w7 41 ez
     go_wp2_with (first
      |(refine wpList_storeN rfl 41 (.tmp 5) (.tmp 25) rfl w7.heap.size 0 [b0,b1,b2,b3,b4,b5,b6] rfl rfl C_8 (Nat.le_refl 7) Tryz.infoE sv2.one ?_;intro w8 C_9 ho8;have B_9:=B_8.oth ho8 (by omega);have U_9:=ho8.but U_8 (by omega);have A_9:=A_8.oth ho8 (by omega);have X_9:=X_8.oth2 ho8 (fun b hb=>by omega);have M_9:=M_8.oth ho8 (by omega);have Q_9:=Q_8.oth ho8 (by omega) (by omega);have Y_9:=fun x j e=>(Y_8 x j e).oth2 ho8 (fun b hb=>by omega);have lB_9:=B_9.lt;have lA_9:=A_9.lt;have lM_9:=M_9.lt;have lC_9:=C_9.lt;obtain⟨-,mt,-⟩:=Bk.four (show Bk w8 w5.heap.size _ [_,_,_,_] from M_9))
      |refine wpList_loadN rfl 41 (.tmp 3) rfl gA 0 rfl [a0,a1,a2,a3,a4,a5,a6] _ (A_9.range 0 7) Tryz.underE Tryz.infoE ?_
      |refine wpList_loadN rfl 41 (.tmp 5) rfl w7.heap.size 0 rfl [b0,b1,b2,b3,b4,b5,b6] _ (C_9.range 0 7) Tryz.underE Tryz.infoE ?_
      |refine wpList_loadN rfl 85 (.tmp 4) rfl w5.heap.size 0 rfl (mkC (I.M k)) _ (M_9.range 0 4) Tryz.underM Tryz.infoM ?_)
     refine (rtwo_any 11 (I.M k) [a0,a1,a2,a3,a4,a5,a6] [b0,b1,b2,b3,b4,b5,b6] sv sv2 w8).mono ?_
     rintro e w9 ⟨V,rfl,sv3,hb8,htw⟩
     obtain⟨c0,c1,c2,c3,c4,c5,c6,rfl⟩:=list7 sv3.len
     have hz:=fun x j e=>htw (fun c=>w.heap.size<c∧c≠gA) a x (fun c hc=>by omega) (X_9.imp fun b hb _=>by omega) ((Y_9 x j e).imp fun b hb _=>by omega)
     clear htw mt
     have B_10:=B_9.up hb8
     have U_10:=U_9.then hb8
     have A_10:=A_9.up hb8
     have Q_10:=Q_9.up hb8
     have lB_10:=B_10.lt
     have lA_10:=A_10.lt
     have s_10:=hb8.size
     go_wp2_with (first
      |(refine wpList_storeN rfl 41 (.tmp 3) (.tmp 33) rfl gA 0 [c0,c1,c2,c3,c4,c5,c6] rfl rfl A_10 (Nat.le_refl 7) Tryz.infoE sv3.one ?_;intro w10 A_11 ho10;have B_11:=B_10.oth ho10 (by omega);have U_11:=ho10.but U_10 (by omega);have Q_11:=Q_10.oth ho10 (by omega) (by omega);have Z_11:=fun x j e=>(hz x j e).oth2 ho10 (fun b hb=>by omega);have lB_11:=B_11.lt;have lA_11:=A_11.lt))
     have hAz:Bk w10 gA 41 [c0,c1,c2,c3,c4,c5,c6]:=A_11
     dsimp only[Act.put]
     cases hq2:unitP I.M (lmOf I) g d (k+1) with
     |out=>exact absurd hq2 hn2
     |bad y j=>
      have HE:=bind_bad HR hq2
      have hdz:=Q_11
      rw[hq2] at hdz
      obtain⟨hy,kz,dz,hdz⟩:=hdz
      have ms1:=rq_msr hd
      have ms2:=rq_msr0 hy hdz
      go_roundw
      case rel=>exact⟨B_11,U_11,[c0,c1,c2,c3,c4,c5,c6],sv3,hAz,.inr ⟨y,j,kz,dz,HE,hy,hdz⟩⟩
      case measure=>exact msr_dead ms1 ms2 hkn
     |ok b k2=>
      have HE:=bind_ok HR hq2
      have hdz:=Q_11
      rw[hq2] at hdz
      have hdz:Rq I w10 R k2 0 0 d:=hdz
      have hge:k+1≤k2:=by have:=(allGe I.M (lmOf I) g).unitP d (k+1);rw[hq2] at this;exact this
      have ms1:=rq_msr hd
      have ms2:=rq_msr hdz
      go_roundw
      case rel=>exact⟨B_11,U_11,[c0,c1,c2,c3,c4,c5,c6],sv3,hAz,.inl ⟨g,k2,two 11 a b (I.M k),HE,by omega,hdz,Z_11 b k2 hq2⟩⟩
      case measure=>exact msr_live ms1 ms2 hkn hge
    |false=>
     have HE:r=.ok a k:=by rw[show r=_ from HR,if_neg (by rw[t2];simp)]
     clear HR
     go_wp2_with fail
     refine (t1 ▸ ris_live I [42] hW1 wr R k 0 d hd:Calls Tryz.prog 61 #[.pointer (some ⟨R,0,none⟩),.string (bs [42])] wr fun e w'=>e=.returned (.bool false)∧Below wr.heap.size wr w').mono ?_
     rintro e w3 ⟨rfl,hbw3⟩
     have B_1:=hB.up hbw3
     have U_1:=hU.then hbw3
     have A_1:=hA.up hbw3
     have Q_1:=hd.up hbw3
     have X_1:=hxr.up hbw3
     have lB_1:=B_1.lt
     have lA_1:=A_1.lt
     have s_1:=hbw3.size
     go_wp2_with fail
     refine (t2 ▸ ris_live I [47] hW2 w3 R k 0 d Q_1:Calls Tryz.prog 61 #[.pointer (some ⟨R,0,none⟩),.string (bs [47])] w3 fun e w'=>e=.returned (.bool false)∧Below w3.heap.size w3 w').mono ?_
     rintro e w4 ⟨rfl,hbw4⟩
     have B_2:=B_1.up hbw4
     have U_2:=U_1.then hbw4
     have A_2:=A_1.up hbw4
     have Q_2:=Q_1.up hbw4
     have X_2:=X_1.up hbw4
     have lB_2:=B_2.lt
     have lA_2:=A_2.lt
     have s_2:=hbw4.size
     subst HE
     go_wp2_with (first
      |refine wpList_loadN rfl 41 (.tmp 3) rfl gA 0 rfl [a0,a1,a2,a3,a4,a5,a6] _ (A_2.range 0 7) Tryz.underE Tryz.infoE ?_
      |(refine wpList_storeN rfl 41 (.tmp 2) (.tmp 34) rfl w.heap.size 0 [a0,a1,a2,a3,a4,a5,a6] rfl rfl B_2 (Nat.le_refl 7) Tryz.infoE sv.one ?_;intro wz B_3 ho2;have U_3:=ho2.but U_2 (by omega);have A_3:=A_2.oth ho2 (by omega);have Q_3:=Q_2.oth ho2 (by omega) (by omega);have X_3:=X_2.oth2 ho2 (fun b hb=>by omega);have lA_3:=A_3.lt;have lB_3:=B_3.lt;obtain⟨q0,q1,q2,q3,q4,q5,q6⟩:=Bk.seven (show Bk wz w.heap.size _ [_,_,_,_,_,_,_] from B_3)))
     refine bodyPost_ret (v:=.agg #[a0,a1,a2,a3,a4,a5,a6]) (by simp[results,Tryz.results143,go_sem,q0,q1,q2,q3,q4,q5,q6]) rfl ⟨_,rfl,sv,(fun _ _ e=>by cases e;exact X_3.imp fun b hb _=>by omega),Q_3,U_3⟩
  ·have HE:=show r=_ from HR
   clear HR
   go_wp2_with fail
   refine (ris_dead I [42] wr R k y _ d' hy hd).mono ?_
   rintro e w3 ⟨rfl,hbw3⟩
   have B_1:=hB.up hbw3
   have U_1:=hU.then hbw3
   have A_1:=hA.up hbw3
   have Q_1:=hd.up hbw3
   have lB_1:=B_1.lt
   have lA_1:=A_1.lt
   have s_1:=hbw3.size
   go_wp2_with fail
   refine (ris_dead I [47] w3 R k y _ d' hy Q_1).mono ?_
   rintro e w4 ⟨rfl,hbw4⟩
   have B_2:=B_1.up hbw4
   have U_2:=U_1.then hbw4
   have A_2:=A_1.up hbw4
   have Q_2:=Q_1.up hbw4
   have lB_2:=B_2.lt
   have lA_2:=A_2.lt
   have s_2:=hbw4.size
   subst HE
   go_wp2_with (first
    |refine wpList_loadN rfl 41 (.tmp 3) rfl gA 0 rfl [a0,a1,a2,a3,a4,a5,a6] _ (A_2.range 0 7) Tryz.underE Tryz.infoE ?_
    |(refine wpList_storeN rfl 41 (.tmp 2) (.tmp 34) rfl w.heap.size 0 [a0,a1,a2,a3,a4,a5,a6] rfl rfl B_2 (Nat.le_refl 7) Tryz.infoE sv.one ?_;intro wz B_3 ho2;have U_3:=ho2.but U_2 (by omega);have A_3:=A_2.oth ho2 (by omega);have Q_3:=Q_2.oth ho2 (by omega) (by omega);have lA_3:=A_3.lt;have lB_3:=B_3.lt;obtain⟨q0,q1,q2,q3,q4,q5,q6⟩:=Bk.seven (show Bk wz w.heap.size _ [_,_,_,_,_,_,_] from B_3)))
   refine bodyPost_ret (v:=.agg #[a0,a1,a2,a3,a4,a5,a6]) (by simp[results,Tryz.results143,go_sem,q0,q1,q2,q3,q4,q5,q6]) rfl ⟨_,rfl,sv,(fun _ _ e=>by cases e),⟨hy,k,d',Q_3⟩,U_3⟩
end Go.Proofs.YtdncofkjncanfaaGreatDoor
