/-
  2 texts in one: what each proves stands at its head.
-/
import Derived.Test.YtimoappbefindaaGreatUR
import Derived.Test.YtimoappbefindaaGreatUv
namespace Go.Proofs.YtimoappbefindaaGreat
set_option maxHeartbeats 8000000
open Go.RowKit
set_option maxRecDepth 100000
theorem rcons_step (I:Rdi) (hE:Ends I.M I.n) (hW:∀ s∈lks,Wm I.M s) (f:Nat) (ihs:∀ g,g≤f→AllR I g) {α:Type} (q:Rs α) (w:World) (R d:Nat) (h:St I w R d q) (hne:nx q (consP I.M (lmOf I) (f+1) d)≠.out) :
  Calls Tryz.prog 107 #[.pointer (some ⟨R,0,none⟩)] w (RA I R d w (nx q (consP I.M (lmOf I) (f+1) d))):=by
 obtain⟨r,hr⟩:∃ r,r=nx q (consP I.M (lmOf I) (f+1) d):=⟨_,rfl⟩
 rw[← hr] at hne ⊢
 have hr2:r=(nx q (compP I.M (lmOf I) f d)).bind fun a k1=>if tk I.M [58] k1 then (consP I.M (lmOf I) f d (k1+1)).bind fun b k2=>.ok (two 18 a b (I.M k1)) k2 else .ok a k1:=by
  rw[hr,← iy]
  congr 1
  funext k
  rw[consP]
 clear hr
 have HR:Hid (r=_):=hr2
 clear hr2
 have hn1:=bM HR hne
 have hlt:=h.lt
 have hcx:=aI
 have S_1:=h.up (ae w (.cells ez 58))
 have U_1:=(But.refl R w).then (ae w (.cells ez 58))
 have B_1:=Bk.new w 58 ez
 have c1:=(ihs f (Nat.le_refl _)).comp q _ R d S_1 hn1
 cases hq1:nx q (compP I.M (lmOf I) f d) with
 |out=>exact absurd hq1 hn1
 |bad y j=>
  have HR:=bK HR hq1
  rw[hq1] at c1
  clear hq1
  go_enter Tryz.func107,Tryz.ntmps107
  go_wp2_with fail
  refine c1.mono ?_
  rintro e w1 ⟨vs,rfl,sv,hex,hs,hV⟩
  obtain⟨a0,a1,a2,a3,a4,a5,a6,rfl⟩:=aQ sv.len
  obtain⟨hy,k,d',hd⟩:=hs
  have U_2:=U_1.trans hV
  have B_2:=B_1.but hV (by omega)
  have lB_2:=B_2.lt
  clear hex c1
  have U_3:=U_2.then (ae w1 (.cells ez 58))
  have B_3:=B_2.up (ae w1 (.cells ez 58))
  have Q_3:=hd.up (ae w1 (.cells ez 58))
  have A_3:=Bk.new w1 58 ez
  go_wp2_with (first
   |(refine ah rfl 58 (.tmp 3) (.tmp 7) rfl w1.heap.size 0 [a0,a1,a2,a3,a4,a5,a6] rfl rfl A_3 (Nat.le_refl 7) Tryz.infoE sv.one ?_;intro w2 A_4 ho3;have U_4:=ho3.but U_3 (by omega);have B_4:=B_3.oth ho3 (by omega);have Q_4:=Q_3.oth ho3 (by omega) (by omega);have lB_4:=B_4.lt;have lA_4:=A_4.lt))
  refine (aB I w2 R k y _ d' Q_4).mono ?_
  rintro e w3 ⟨rfl,hb3⟩
  unfold mkV
  have U_5:=U_4.then hb3
  have B_5:=B_4.up hb3
  have Q_5:=Q_4.up hb3
  have A_5:=A_4.up hb3
  have lB_5:=B_5.lt
  have lA_5:=A_5.lt
  have U_6:=U_5.then (ae w3 (.cells mz 135))
  have B_6:=B_5.up (ae w3 (.cells mz 135))
  have Q_6:=Q_5.up (ae w3 (.cells mz 135))
  have A_6:=A_5.up (ae w3 (.cells mz 135))
  have M_6:=Bk.new w3 135 mz
  go_wp2_with (first
   |(refine ah rfl 135 (.tmp 4) (.tmp 9) rfl w3.heap.size 0 (mkC (I.M k)) rfl rfl M_6 (Nat.le_refl 4) Tryz.infoM (aF _) ?_;intro w4 M_7 ho6;have U_7:=ho6.but U_6 (by omega);have B_7:=B_6.oth ho6 (by omega);have Q_7:=Q_6.oth ho6 (by omega) (by omega);have A_7:=A_6.oth ho6 (by omega);have lB_7:=B_7.lt;have lA_7:=A_7.lt;have lM_7:=M_7.lt))
  refine (aU I [58] w4 R (aN I [58] w4 R k y _ d' hy Q_7)).mono ?_
  rintro e w5 ⟨rfl,hbw5⟩
  have U_8:=U_7.then hbw5
  have B_8:=B_7.up hbw5
  have Q_8:=Q_7.up hbw5
  have A_8:=A_7.up hbw5
  have M_8:=M_7.up hbw5
  have lB_8:=B_8.lt
  have lA_8:=A_8.lt
  have lM_8:=M_8.lt
  go_wp2_with (first
   |refine ai rfl 58 (.tmp 3) rfl w1.heap.size 0 rfl [a0,a1,a2,a3,a4,a5,a6] _ (A_8.range 0 7) Tryz.underE Tryz.infoE ?_
   |(refine ah rfl 58 (.tmp 2) (.tmp 13) rfl w.heap.size 0 [a0,a1,a2,a3,a4,a5,a6] rfl rfl B_8 (Nat.le_refl 7) Tryz.infoE sv.one ?_;intro wz B_9 ho8;have U_9:=ho8.but U_8 (by omega);have Q_9:=Q_8.oth ho8 (by omega) (by omega);have A_9:=A_8.oth ho8 (by omega);have M_9:=M_8.oth ho8 (by omega);have lA_9:=A_9.lt;have lM_9:=M_9.lt;have lB_9:=B_9.lt;obtain⟨q0,q1,q2,q3,q4,q5,q6⟩:=Bk.seven (show Bk wz w.heap.size _ [_,_,_,_,_,_,_] from B_9)))
  have HE:=show r=_ from HR
  clear HR
  subst HE
  refine bodyPost_ret (v:=.agg #[a0,a1,a2,a3,a4,a5,a6]) (by simp[results,Tryz.results107,go_sem,q0,q1,q2,q3,q4,q5,q6]) rfl ⟨_,rfl,sv,(fun _ _ e=>by cases e),⟨hy,k,d',Q_9⟩,U_9⟩
 |ok a k1=>
  have HR:=bind_ok HR hq1
  rw[hq1] at c1
  clear hq1
  go_enter Tryz.func107,Tryz.ntmps107
  go_wp2_with fail
  refine c1.mono ?_
  rintro e w1 ⟨vs,rfl,sv,hex,hs,hV⟩
  obtain⟨a0,a1,a2,a3,a4,a5,a6,rfl⟩:=aQ sv.len
  have hd:Rq I w1 R k1 0 0 d:=hs
  have hxa:ExW w1 (fun b=>w.heap.size<b∧b<w1.heap.size) a _:=(hex a k1 rfl).imp fun b hb hl=>by simp at hb;omega
  have U_2:=U_1.trans hV
  have B_2:=B_1.but hV (by omega)
  have lB_2:=B_2.lt
  clear hex hs c1
  have U_3:=U_2.then (ae w1 (.cells ez 58))
  have B_3:=B_2.up (ae w1 (.cells ez 58))
  have Q_3:=hd.up (ae w1 (.cells ez 58))
  have X_3:=hxa.up (ae w1 (.cells ez 58))
  have A_3:=Bk.new w1 58 ez
  have hW58:=hW [58] (by simp[lks])
  cases t1:tk I.M [58] k1 with
  |false=>
   have HE:r=.ok a k1:=by rw[show r=_ from HR,if_neg (by rw[t1];simp)]
   clear HR
   go_wp2_with (first
    |(refine ah rfl 58 (.tmp 3) (.tmp 7) rfl w1.heap.size 0 [a0,a1,a2,a3,a4,a5,a6] rfl rfl A_3 (Nat.le_refl 7) Tryz.infoE sv.one ?_;intro w2 A_4 ho3;have U_4:=ho3.but U_3 (by omega);have B_4:=B_3.oth ho3 (by omega);have Q_4:=Q_3.oth ho3 (by omega) (by omega);have X_4:=X_3.oth2 ho3 (fun b hb=>by omega);have lB_4:=B_4.lt;have lA_4:=A_4.lt))
   refine (aB I w2 R k1 0 0 d Q_4).mono ?_
   rintro e w3 ⟨rfl,hb3⟩
   unfold mkV
   have U_5:=U_4.then hb3
   have B_5:=B_4.up hb3
   have Q_5:=Q_4.up hb3
   have X_5:=X_4.up hb3
   have A_5:=A_4.up hb3
   have lB_5:=B_5.lt
   have lA_5:=A_5.lt
   have U_6:=U_5.then (ae w3 (.cells mz 135))
   have B_6:=B_5.up (ae w3 (.cells mz 135))
   have Q_6:=Q_5.up (ae w3 (.cells mz 135))
   have X_6:=X_5.up (ae w3 (.cells mz 135))
   have A_6:=A_5.up (ae w3 (.cells mz 135))
   have M_6:=Bk.new w3 135 mz
   go_wp2_with (first
    |(refine ah rfl 135 (.tmp 4) (.tmp 9) rfl w3.heap.size 0 (mkC (I.M k1)) rfl rfl M_6 (Nat.le_refl 4) Tryz.infoM (aF _) ?_;intro w4 M_7 ho6;have U_7:=ho6.but U_6 (by omega);have B_7:=B_6.oth ho6 (by omega);have Q_7:=Q_6.oth ho6 (by omega) (by omega);have X_7:=X_6.oth2 ho6 (fun b hb=>by omega);have A_7:=A_6.oth ho6 (by omega);have lB_7:=B_7.lt;have lA_7:=A_7.lt;have lM_7:=M_7.lt))
   refine (aU I [58] w4 R (t1 ▸ aA I [58] hW58 w4 R k1 0 d Q_7)).mono ?_
   rintro e w5 ⟨rfl,hbw5⟩
   have U_8:=U_7.then hbw5
   have B_8:=B_7.up hbw5
   have Q_8:=Q_7.up hbw5
   have X_8:=X_7.up hbw5
   have A_8:=A_7.up hbw5
   have M_8:=M_7.up hbw5
   have lB_8:=B_8.lt
   have lA_8:=A_8.lt
   have lM_8:=M_8.lt
   go_wp2_with (first
    |refine ai rfl 58 (.tmp 3) rfl w1.heap.size 0 rfl [a0,a1,a2,a3,a4,a5,a6] _ (A_8.range 0 7) Tryz.underE Tryz.infoE ?_
    |(refine ah rfl 58 (.tmp 2) (.tmp 13) rfl w.heap.size 0 [a0,a1,a2,a3,a4,a5,a6] rfl rfl B_8 (Nat.le_refl 7) Tryz.infoE sv.one ?_;intro wz B_9 ho8;have U_9:=ho8.but U_8 (by omega);have Q_9:=Q_8.oth ho8 (by omega) (by omega);have X_9:=X_8.oth2 ho8 (fun b hb=>by omega);have A_9:=A_8.oth ho8 (by omega);have M_9:=M_8.oth ho8 (by omega);have lA_9:=A_9.lt;have lM_9:=M_9.lt;have lB_9:=B_9.lt;obtain⟨q0,q1,q2,q3,q4,q5,q6⟩:=Bk.seven (show Bk wz w.heap.size _ [_,_,_,_,_,_,_] from B_9)))
   subst HE
   refine bodyPost_ret (v:=.agg #[a0,a1,a2,a3,a4,a5,a6]) (by simp[results,Tryz.results107,go_sem,q0,q1,q2,q3,q4,q5,q6]) rfl ⟨_,rfl,sv,(fun _ _ e=>by cases e;exact X_9.imp fun b hb _=>by omega),Q_9,U_9⟩
  |true=>
   have hk1:=hE.tk I.M t1 (by decide) hd.kn
   have HR:Hid (r=(consP I.M (lmOf I) f d (k1+1)).bind fun b k2=>.ok (two 18 a b (I.M k1)) k2):=by
    show r=_
    rw[show r=_ from HR,if_pos t1]
   have hn2:=bM HR hne
   go_wp2_with (first
    |(refine ah rfl 58 (.tmp 3) (.tmp 7) rfl w1.heap.size 0 [a0,a1,a2,a3,a4,a5,a6] rfl rfl A_3 (Nat.le_refl 7) Tryz.infoE sv.one ?_;intro w2 A_4 ho3;have U_4:=ho3.but U_3 (by omega);have B_4:=B_3.oth ho3 (by omega);have Q_4:=Q_3.oth ho3 (by omega) (by omega);have X_4:=X_3.oth2 ho3 (fun b hb=>by omega);have lB_4:=B_4.lt;have lA_4:=A_4.lt))
   refine (aB I w2 R k1 0 0 d Q_4).mono ?_
   rintro e w3 ⟨rfl,hb3⟩
   unfold mkV
   have U_5:=U_4.then hb3
   have B_5:=B_4.up hb3
   have Q_5:=Q_4.up hb3
   have X_5:=X_4.up hb3
   have A_5:=A_4.up hb3
   have lB_5:=B_5.lt
   have lA_5:=A_5.lt
   have U_6:=U_5.then (ae w3 (.cells mz 135))
   have B_6:=B_5.up (ae w3 (.cells mz 135))
   have Q_6:=Q_5.up (ae w3 (.cells mz 135))
   have X_6:=X_5.up (ae w3 (.cells mz 135))
   have A_6:=A_5.up (ae w3 (.cells mz 135))
   have M_6:=Bk.new w3 135 mz
   go_wp2_with (first
    |(refine ah rfl 135 (.tmp 4) (.tmp 9) rfl w3.heap.size 0 (mkC (I.M k1)) rfl rfl M_6 (Nat.le_refl 4) Tryz.infoM (aF _) ?_;intro w4 M_7 ho6;have U_7:=ho6.but U_6 (by omega);have B_7:=B_6.oth ho6 (by omega);have Q_7:=Q_6.oth ho6 (by omega) (by omega);have X_7:=X_6.oth2 ho6 (fun b hb=>by omega);have A_7:=A_6.oth ho6 (by omega);have lB_7:=B_7.lt;have lA_7:=A_7.lt;have lM_7:=M_7.lt))
   refine (dm I [58] hW58 w4 R k1 d Q_7 t1 hk1).mono ?_
   rintro e w5 ⟨rfl,hdw5,hVw5⟩
   have U_8:=U_7.trans hVw5
   have B_8:=B_7.but hVw5 (by omega)
   have X_8:=X_7.but2 hVw5 (fun b hb=>by omega)
   have A_8:=A_7.but hVw5 (by omega)
   have M_8:=M_7.but hVw5 (by omega)
   have lB_8:=B_8.lt
   have lA_8:=A_8.lt
   have lM_8:=M_8.lt
   go_wp2_with fail
   refine ((ihs f (Nat.le_refl _)).cons (.ok () (k1+1)) w5 R d hdw5 hn2).mono ?_
   rintro e w6 ⟨us,rfl,sv2,hex2,hs2,hV6⟩
   rw[az] at hex2 hs2
   obtain⟨b0,b1,b2,b3,b4,b5,b6,rfl⟩:=aQ sv2.len
   have U_9:=U_8.trans hV6
   have B_9:=B_8.but hV6 (by omega)
   have X_9:=X_8.but2 hV6 (fun b hb=>by omega)
   have A_9:=A_8.but hV6 (by omega)
   have M_9:=M_8.but hV6 (by omega)
   have lB_9:=B_9.lt
   have lA_9:=A_9.lt
   have lM_9:=M_9.lt
   have hxb:=fun x j e=>(hex2 x j e).imp (A':=fun b=>w.heap.size<b∧b<w6.heap.size) fun b hb hl=>by omega
   clear hex2
   have U_10:=U_9.then (ae w6 (.cells ez 58))
   have B_10:=B_9.up (ae w6 (.cells ez 58))
   have X_10:=X_9.up (ae w6 (.cells ez 58))
   have A_10:=A_9.up (ae w6 (.cells ez 58))
   have M_10:=M_9.up (ae w6 (.cells ez 58))
   have Q_10:=hs2.up (ae w6 (.cells ez 58))
   have Y_10:=fun x j e=>(hxb x j e).up (ae w6 (.cells ez 58))
   have C_10:=Bk.new w6 58 ez
   go_wp2_with (first
    |(refine ah rfl 58 (.tmp 5) (.tmp 15) rfl w6.heap.size 0 [b0,b1,b2,b3,b4,b5,b6] rfl rfl C_10 (Nat.le_refl 7) Tryz.infoE sv2.one ?_;intro w7 C_11 ho10;have U_11:=ho10.but U_10 (by omega);have B_11:=B_10.oth ho10 (by omega);have X_11:=X_10.oth2 ho10 (fun b hb=>by omega);have A_11:=A_10.oth ho10 (by omega);have M_11:=M_10.oth ho10 (by omega);have Q_11:=Q_10.oth ho10 (by omega) (by omega);have Y_11:=fun x j e=>(Y_10 x j e).oth2 ho10 (fun b hb=>by omega);have lB_11:=B_11.lt;have lA_11:=A_11.lt;have lM_11:=M_11.lt;have lC_11:=C_11.lt)
    |refine ai rfl 58 (.tmp 3) rfl w1.heap.size 0 rfl [a0,a1,a2,a3,a4,a5,a6] _ (A_11.range 0 7) Tryz.underE Tryz.infoE ?_
    |refine ai rfl 58 (.tmp 5) rfl w6.heap.size 0 rfl [b0,b1,b2,b3,b4,b5,b6] _ (C_11.range 0 7) Tryz.underE Tryz.infoE ?_
    |refine ai rfl 135 (.tmp 4) rfl w3.heap.size 0 rfl (mkC (I.M k1)) _ (M_11.range 0 4) Tryz.underM Tryz.infoM ?_)
   refine (dK 18 (I.M k1) [a0,a1,a2,a3,a4,a5,a6] [b0,b1,b2,b3,b4,b5,b6] sv sv2 w7).mono ?_
   rintro e w8 ⟨V,rfl,sv3,hb8,htw⟩
   obtain⟨c0,c1,c2,c3,c4,c5,c6,rfl⟩:=aQ sv3.len
   have hz:=fun x j e=>htw (fun c=>w.heap.size<c) a x (fun c hc=>by omega) (X_11.imp fun b hb _=>hb.1) ((Y_11 x j e).imp fun b hb _=>hb.1)
   clear htw
   have U_12:=U_11.then hb8
   have B_12:=B_11.up hb8
   have Q_12:=Q_11.up hb8
   have lB_12:=B_12.lt
   go_wp2_with (first
    |(refine ah rfl 58 (.tmp 2) (.tmp 19) rfl w.heap.size 0 [c0,c1,c2,c3,c4,c5,c6] rfl rfl B_12 (Nat.le_refl 7) Tryz.infoE sv3.one ?_;intro wz B_13 ho12;have U_13:=ho12.but U_12 (by omega);have Q_13:=Q_12.oth ho12 (by omega) (by omega);have Z_13:=fun x j e=>(hz x j e).oth2 ho12 (fun b hb=>by omega);have lB_13:=B_13.lt;obtain⟨q0,q1,q2,q3,q4,q5,q6⟩:=Bk.seven (show Bk wz w.heap.size _ [_,_,_,_,_,_,_] from B_13)))
   cases hq2:consP I.M (lmOf I) f d (k1+1) with
   |out=>exact absurd hq2 hn2
   |bad y j=>
    have HE:=show r=_ from bK HR hq2
    rw[hq2] at Q_13
    clear HR
    subst HE
    refine bodyPost_ret (v:=.agg #[c0,c1,c2,c3,c4,c5,c6]) (by simp[results,Tryz.results107,go_sem,q0,q1,q2,q3,q4,q5,q6]) rfl ⟨_,rfl,sv3,(fun _ _ e=>by cases e),Q_13,U_13⟩
   |ok b k2=>
    have HE:=show r=_ from bind_ok HR hq2
    rw[hq2] at Q_13
    have hxz:=Z_13 b k2 hq2
    clear HR
    subst HE
    refine bodyPost_ret (v:=.agg #[c0,c1,c2,c3,c4,c5,c6]) (by simp[results,Tryz.results107,go_sem,q0,q1,q2,q3,q4,q5,q6]) rfl ⟨_,rfl,sv3,(fun _ _ e=>by cases e;exact hxz.imp fun b hb _=>by omega),Q_13,U_13⟩
theorem rcomp_step (I:Rdi) (hE:Ends I.M I.n) (hW:∀ s∈lks,Wm I.M s) (f:Nat) (ihs:∀ g,g≤f→AllR I g) {α:Type} (q:Rs α) (w:World) (R d:Nat) (h:St I w R d q) (hne:nx q (compP I.M (lmOf I) (f+1) d)≠.out) :
  Calls Tryz.prog 122 #[.pointer (some ⟨R,0,none⟩)] w (RA I R d w (nx q (compP I.M (lmOf I) (f+1) d))):=by
 obtain⟨r,hr⟩:∃ r,r=nx q (compP I.M (lmOf I) (f+1) d):=⟨_,rfl⟩
 rw[← hr] at hne ⊢
 have hr2:r=(nx q (sumP I.M (lmOf I) f d)).bind fun a k1=>
  if tk I.M [61,61] k1 then (sumP I.M (lmOf I) f d (k1+1)).bind fun b k2=>.ok (two 12 a b (I.M k1)) k2 else
  if tk I.M [60] k1 then (sumP I.M (lmOf I) f d (k1+1)).bind fun b k2=>.ok (two 13 a b (I.M k1)) k2 else .ok a k1:=by
  rw[hr,← iy]
  congr 1
  funext k
  rw[compP]
 clear hr
 have HR:Hid (r=_):=hr2
 clear hr2
 have hn1:=bM HR hne
 have hlt:=h.lt
 have hcx:=aI
 have S_1:=h.up (ae w (.cells ez 58))
 have U_1:=(But.refl R w).then (ae w (.cells ez 58))
 have B_1:=Bk.new w 58 ez
 have c1:=(ihs f (Nat.le_refl _)).sum q _ R d S_1 hn1
 cases hq1:nx q (sumP I.M (lmOf I) f d) with
 |out=>exact absurd hq1 hn1
 |bad y j=>
  have HR:=bK HR hq1
  rw[hq1] at c1
  clear hq1
  go_enter Tryz.func122,Tryz.ntmps122
  go_wp2_with fail
  refine c1.mono ?_
  rintro e w1 ⟨vs,rfl,sv,hex,hs,hV⟩
  obtain⟨a0,a1,a2,a3,a4,a5,a6,rfl⟩:=aQ sv.len
  obtain⟨hy,k,d',hd⟩:=hs
  have U_2:=U_1.trans hV
  have B_2:=B_1.but hV (by omega)
  have lB_2:=B_2.lt
  clear hex c1
  have U_3:=U_2.then (ae w1 (.cells ez 58))
  have B_3:=B_2.up (ae w1 (.cells ez 58))
  have Q_3:=hd.up (ae w1 (.cells ez 58))
  have A_3:=Bk.new w1 58 ez
  go_wp2_with (first
   |(refine ah rfl 58 (.tmp 3) (.tmp 8) rfl w1.heap.size 0 [a0,a1,a2,a3,a4,a5,a6] rfl rfl A_3 (Nat.le_refl 7) Tryz.infoE sv.one ?_;intro w2 A_4 ho3;have U_4:=ho3.but U_3 (by omega);have B_4:=B_3.oth ho3 (by omega);have Q_4:=Q_3.oth ho3 (by omega) (by omega);have lB_4:=B_4.lt;have lA_4:=A_4.lt))
  refine (aB I w2 R k y _ d' Q_4).mono ?_
  rintro e w3 ⟨rfl,hb3⟩
  unfold mkV
  have U_5:=U_4.then hb3
  have B_5:=B_4.up hb3
  have Q_5:=Q_4.up hb3
  have A_5:=A_4.up hb3
  have lB_5:=B_5.lt
  have lA_5:=A_5.lt
  have U_6:=U_5.then (ae w3 (.cells mz 135))
  have B_6:=B_5.up (ae w3 (.cells mz 135))
  have Q_6:=Q_5.up (ae w3 (.cells mz 135))
  have A_6:=A_5.up (ae w3 (.cells mz 135))
  have M_6:=Bk.new w3 135 mz
  go_wp2_with (first
   |(refine ah rfl 135 (.tmp 4) (.tmp 10) rfl w3.heap.size 0 (mkC (I.M k)) rfl rfl M_6 (Nat.le_refl 4) Tryz.infoM (aF _) ?_;intro w4 M_7 ho6;have U_7:=ho6.but U_6 (by omega);have B_7:=B_6.oth ho6 (by omega);have Q_7:=Q_6.oth ho6 (by omega) (by omega);have A_7:=A_6.oth ho6 (by omega);have lB_7:=B_7.lt;have lA_7:=A_7.lt;have lM_7:=M_7.lt))
  refine (aN I [60] w4 R k y _ d' hy Q_7).mono ?_
  rintro e w5 ⟨rfl,hbw5⟩
  have U_8:=U_7.then hbw5
  have B_8:=B_7.up hbw5
  have Q_8:=Q_7.up hbw5
  have A_8:=A_7.up hbw5
  have M_8:=M_7.up hbw5
  have lB_8:=B_8.lt
  have lA_8:=A_8.lt
  have lM_8:=M_8.lt
  go_wp2_with fail
  refine (aU I [61,61] w5 R (aN I [61,61] w5 R k y _ d' hy Q_8)).mono ?_
  rintro e w6 ⟨rfl,hbw6⟩
  have U_9:=U_8.then hbw6
  have B_9:=B_8.up hbw6
  have Q_9:=Q_8.up hbw6
  have A_9:=A_8.up hbw6
  have M_9:=M_8.up hbw6
  have lB_9:=B_9.lt
  have lA_9:=A_9.lt
  have lM_9:=M_9.lt
  go_wp2_with fail
  refine (aU I [60] w6 R (aN I [60] w6 R k y _ d' hy Q_9)).mono ?_
  rintro e w7 ⟨rfl,hbw7⟩
  have U_10:=U_9.then hbw7
  have B_10:=B_9.up hbw7
  have Q_10:=Q_9.up hbw7
  have A_10:=A_9.up hbw7
  have M_10:=M_9.up hbw7
  have lB_10:=B_10.lt
  have lA_10:=A_10.lt
  have lM_10:=M_10.lt
  go_wp2_with (first
   |refine ai rfl 58 (.tmp 3) rfl w1.heap.size 0 rfl [a0,a1,a2,a3,a4,a5,a6] _ (A_10.range 0 7) Tryz.underE Tryz.infoE ?_
   |(refine ah rfl 58 (.tmp 2) (.tmp 21) rfl w.heap.size 0 [a0,a1,a2,a3,a4,a5,a6] rfl rfl B_10 (Nat.le_refl 7) Tryz.infoE sv.one ?_;intro wz B_11 ho10;have U_11:=ho10.but U_10 (by omega);have Q_11:=Q_10.oth ho10 (by omega) (by omega);have A_11:=A_10.oth ho10 (by omega);have M_11:=M_10.oth ho10 (by omega);have lA_11:=A_11.lt;have lM_11:=M_11.lt;have lB_11:=B_11.lt;obtain⟨q0,q1,q2,q3,q4,q5,q6⟩:=Bk.seven (show Bk wz w.heap.size _ [_,_,_,_,_,_,_] from B_11)))
  have HE:=show r=_ from HR
  clear HR
  subst HE
  refine bodyPost_ret (v:=.agg #[a0,a1,a2,a3,a4,a5,a6]) (by simp[results,Tryz.results122,go_sem,q0,q1,q2,q3,q4,q5,q6]) rfl ⟨_,rfl,sv,(fun _ _ e=>by cases e),⟨hy,k,d',Q_11⟩,U_11⟩
 |ok a k1=>
  have HR:=bind_ok HR hq1
  rw[hq1] at c1
  clear hq1
  go_enter Tryz.func122,Tryz.ntmps122
  go_wp2_with fail
  refine c1.mono ?_
  rintro e w1 ⟨vs,rfl,sv,hex,hs,hV⟩
  obtain⟨a0,a1,a2,a3,a4,a5,a6,rfl⟩:=aQ sv.len
  have hd:Rq I w1 R k1 0 0 d:=hs
  have hxa:ExW w1 (fun b=>w.heap.size<b∧b<w1.heap.size) a _:=(hex a k1 rfl).imp fun b hb hl=>by simp at hb;omega
  have U_2:=U_1.trans hV
  have B_2:=B_1.but hV (by omega)
  have lB_2:=B_2.lt
  clear hex hs c1
  have U_3:=U_2.then (ae w1 (.cells ez 58))
  have B_3:=B_2.up (ae w1 (.cells ez 58))
  have Q_3:=hd.up (ae w1 (.cells ez 58))
  have X_3:=hxa.up (ae w1 (.cells ez 58))
  have A_3:=Bk.new w1 58 ez
  have hW60:=hW [60] (by simp[lks])
  have hW6161:=hW [61,61] (by simp[lks])
  cases t1:tk I.M [61,61] k1 with
  |true=>
   have hk1:=hE.tk I.M t1 (by decide) hd.kn
   have t2:tk I.M [60] k1=false:=by unfold tk at t1 ⊢;rw[eq_of_beq t1];rfl
   have HR:Hid (r=(sumP I.M (lmOf I) f d (k1+1)).bind fun b k2=>.ok (two 12 a b (I.M k1)) k2):=by
    show r=_
    rw[show r=_ from HR,if_pos t1]
   have hn2:=bM HR hne
   go_wp2_with (first
    |(refine ah rfl 58 (.tmp 3) (.tmp 8) rfl w1.heap.size 0 [a0,a1,a2,a3,a4,a5,a6] rfl rfl A_3 (Nat.le_refl 7) Tryz.infoE sv.one ?_;intro w2 A_4 ho3;have U_4:=ho3.but U_3 (by omega);have B_4:=B_3.oth ho3 (by omega);have Q_4:=Q_3.oth ho3 (by omega) (by omega);have X_4:=X_3.oth2 ho3 (fun b hb=>by omega);have lB_4:=B_4.lt;have lA_4:=A_4.lt))
   refine (aB I w2 R k1 0 0 d Q_4).mono ?_
   rintro e w3 ⟨rfl,hb3⟩
   unfold mkV
   have U_5:=U_4.then hb3
   have B_5:=B_4.up hb3
   have Q_5:=Q_4.up hb3
   have X_5:=X_4.up hb3
   have A_5:=A_4.up hb3
   have lB_5:=B_5.lt
   have lA_5:=A_5.lt
   have U_6:=U_5.then (ae w3 (.cells mz 135))
   have B_6:=B_5.up (ae w3 (.cells mz 135))
   have Q_6:=Q_5.up (ae w3 (.cells mz 135))
   have X_6:=X_5.up (ae w3 (.cells mz 135))
   have A_6:=A_5.up (ae w3 (.cells mz 135))
   have M_6:=Bk.new w3 135 mz
   go_wp2_with (first
    |(refine ah rfl 135 (.tmp 4) (.tmp 10) rfl w3.heap.size 0 (mkC (I.M k1)) rfl rfl M_6 (Nat.le_refl 4) Tryz.infoM (aF _) ?_;intro w4 M_7 ho6;have U_7:=ho6.but U_6 (by omega);have B_7:=B_6.oth ho6 (by omega);have Q_7:=Q_6.oth ho6 (by omega) (by omega);have X_7:=X_6.oth2 ho6 (fun b hb=>by omega);have A_7:=A_6.oth ho6 (by omega);have lB_7:=B_7.lt;have lA_7:=A_7.lt;have lM_7:=M_7.lt))
   refine ((t2 ▸ aA I [60] hW60 w4 R k1 0 d Q_7):Calls Tryz.prog 90 #[.pointer (some ⟨R,0,none⟩),.string (bs [60])] w4 fun e w'=>e=.returned (.bool false)∧Below w4.heap.size w4 w').mono ?_
   rintro e w5 ⟨rfl,hbw5⟩
   have U_8:=U_7.then hbw5
   have B_8:=B_7.up hbw5
   have Q_8:=Q_7.up hbw5
   have X_8:=X_7.up hbw5
   have A_8:=A_7.up hbw5
   have M_8:=M_7.up hbw5
   have lB_8:=B_8.lt
   have lA_8:=A_8.lt
   have lM_8:=M_8.lt
   go_wp2_with fail
   refine (dm I [61,61] hW6161 w5 R k1 d Q_8 t1 hk1).mono ?_
   rintro e w6 ⟨rfl,hdw6,hVw6⟩
   have U_9:=U_8.trans hVw6
   have B_9:=B_8.but hVw6 (by omega)
   have X_9:=X_8.but2 hVw6 (fun b hb=>by omega)
   have A_9:=A_8.but hVw6 (by omega)
   have M_9:=M_8.but hVw6 (by omega)
   have lB_9:=B_9.lt
   have lA_9:=A_9.lt
   have lM_9:=M_9.lt
   go_wp2_with fail
   refine ((ihs f (Nat.le_refl _)).sum (.ok () (k1+1)) w6 R d hdw6 hn2).mono ?_
   rintro e w7 ⟨us,rfl,sv2,hex2,hs2,hV7⟩
   rw[az] at hex2 hs2
   obtain⟨b0,b1,b2,b3,b4,b5,b6,rfl⟩:=aQ sv2.len
   have U_10:=U_9.trans hV7
   have B_10:=B_9.but hV7 (by omega)
   have X_10:=X_9.but2 hV7 (fun b hb=>by omega)
   have A_10:=A_9.but hV7 (by omega)
   have M_10:=M_9.but hV7 (by omega)
   have lB_10:=B_10.lt
   have lA_10:=A_10.lt
   have lM_10:=M_10.lt
   have hxb:=fun x j e=>(hex2 x j e).imp (A':=fun b=>w.heap.size<b∧b<w7.heap.size) fun b hb hl=>by omega
   clear hex2
   have U_11:=U_10.then (ae w7 (.cells ez 58))
   have B_11:=B_10.up (ae w7 (.cells ez 58))
   have X_11:=X_10.up (ae w7 (.cells ez 58))
   have A_11:=A_10.up (ae w7 (.cells ez 58))
   have M_11:=M_10.up (ae w7 (.cells ez 58))
   have Q_11:=hs2.up (ae w7 (.cells ez 58))
   have Y_11:=fun x j e=>(hxb x j e).up (ae w7 (.cells ez 58))
   have C_11:=Bk.new w7 58 ez
   go_wp2_with (first
    |(refine ah rfl 58 (.tmp 6) (.tmp 23) rfl w7.heap.size 0 [b0,b1,b2,b3,b4,b5,b6] rfl rfl C_11 (Nat.le_refl 7) Tryz.infoE sv2.one ?_;intro w8 C_12 ho11;have U_12:=ho11.but U_11 (by omega);have B_12:=B_11.oth ho11 (by omega);have X_12:=X_11.oth2 ho11 (fun b hb=>by omega);have A_12:=A_11.oth ho11 (by omega);have M_12:=M_11.oth ho11 (by omega);have Q_12:=Q_11.oth ho11 (by omega) (by omega);have Y_12:=fun x j e=>(Y_11 x j e).oth2 ho11 (fun b hb=>by omega);have lB_12:=B_12.lt;have lA_12:=A_12.lt;have lM_12:=M_12.lt;have lC_12:=C_12.lt)
    |refine ai rfl 58 (.tmp 3) rfl w1.heap.size 0 rfl [a0,a1,a2,a3,a4,a5,a6] _ (A_12.range 0 7) Tryz.underE Tryz.infoE ?_
    |refine ai rfl 58 (.tmp 6) rfl w7.heap.size 0 rfl [b0,b1,b2,b3,b4,b5,b6] _ (C_12.range 0 7) Tryz.underE Tryz.infoE ?_
    |refine ai rfl 135 (.tmp 4) rfl w3.heap.size 0 rfl (mkC (I.M k1)) _ (M_12.range 0 4) Tryz.underM Tryz.infoM ?_)
   refine (dK 12 (I.M k1) [a0,a1,a2,a3,a4,a5,a6] [b0,b1,b2,b3,b4,b5,b6] sv sv2 w8).mono ?_
   rintro e w9 ⟨V,rfl,sv3,hb8,htw⟩
   obtain⟨c0,c1,c2,c3,c4,c5,c6,rfl⟩:=aQ sv3.len
   have hz:=fun x j e=>htw (fun c=>w.heap.size<c) a x (fun c hc=>by omega) (X_12.imp fun b hb _=>hb.1) ((Y_12 x j e).imp fun b hb _=>hb.1)
   clear htw
   have U_13:=U_12.then hb8
   have B_13:=B_12.up hb8
   have Q_13:=Q_12.up hb8
   have lB_13:=B_13.lt
   go_wp2_with (first
    |(refine ah rfl 58 (.tmp 2) (.tmp 28) rfl w.heap.size 0 [c0,c1,c2,c3,c4,c5,c6] rfl rfl B_13 (Nat.le_refl 7) Tryz.infoE sv3.one ?_;intro wz B_14 ho13;have U_14:=ho13.but U_13 (by omega);have Q_14:=Q_13.oth ho13 (by omega) (by omega);have Z_14:=fun x j e=>(hz x j e).oth2 ho13 (fun b hb=>by omega);have lB_14:=B_14.lt;obtain⟨q0,q1,q2,q3,q4,q5,q6⟩:=Bk.seven (show Bk wz w.heap.size _ [_,_,_,_,_,_,_] from B_14)))
   cases hq2:sumP I.M (lmOf I) f d (k1+1) with
   |out=>exact absurd hq2 hn2
   |bad y j=>
    have HE:=show r=_ from bK HR hq2
    rw[hq2] at Q_14
    clear HR
    subst HE
    refine bodyPost_ret (v:=.agg #[c0,c1,c2,c3,c4,c5,c6]) (by simp[results,Tryz.results122,go_sem,q0,q1,q2,q3,q4,q5,q6]) rfl ⟨_,rfl,sv3,(fun _ _ e=>by cases e),Q_14,U_14⟩
   |ok b k2=>
    have HE:=show r=_ from bind_ok HR hq2
    rw[hq2] at Q_14
    have hxz:=Z_14 b k2 hq2
    clear HR
    subst HE
    refine bodyPost_ret (v:=.agg #[c0,c1,c2,c3,c4,c5,c6]) (by simp[results,Tryz.results122,go_sem,q0,q1,q2,q3,q4,q5,q6]) rfl ⟨_,rfl,sv3,(fun _ _ e=>by cases e;exact hxz.imp fun b hb _=>by omega),Q_14,U_14⟩
  |false=>
   have HR:Hid (r=if tk I.M [60] k1 then (sumP I.M (lmOf I) f d (k1+1)).bind fun b k2=>.ok (two 13 a b (I.M k1)) k2 else .ok a k1):=by
    show r=_
    rw[show r=_ from HR,if_neg (by rw[t1];simp)]
   cases t2:tk I.M [60] k1 with
   |true=>
    have hk1:=hE.tk I.M t2 (by decide) hd.kn
    have HR:Hid (r=(sumP I.M (lmOf I) f d (k1+1)).bind fun b k2=>.ok (two 13 a b (I.M k1)) k2):=by
     show r=_
     rw[show r=_ from HR,if_pos t2]
    have hn2:=bM HR hne
    go_wp2_with (first
     |(refine ah rfl 58 (.tmp 3) (.tmp 8) rfl w1.heap.size 0 [a0,a1,a2,a3,a4,a5,a6] rfl rfl A_3 (Nat.le_refl 7) Tryz.infoE sv.one ?_;intro w2 A_4 ho3;have U_4:=ho3.but U_3 (by omega);have B_4:=B_3.oth ho3 (by omega);have Q_4:=Q_3.oth ho3 (by omega) (by omega);have X_4:=X_3.oth2 ho3 (fun b hb=>by omega);have lB_4:=B_4.lt;have lA_4:=A_4.lt))
    refine (aB I w2 R k1 0 0 d Q_4).mono ?_
    rintro e w3 ⟨rfl,hb3⟩
    unfold mkV
    have U_5:=U_4.then hb3
    have B_5:=B_4.up hb3
    have Q_5:=Q_4.up hb3
    have X_5:=X_4.up hb3
    have A_5:=A_4.up hb3
    have lB_5:=B_5.lt
    have lA_5:=A_5.lt
    have U_6:=U_5.then (ae w3 (.cells mz 135))
    have B_6:=B_5.up (ae w3 (.cells mz 135))
    have Q_6:=Q_5.up (ae w3 (.cells mz 135))
    have X_6:=X_5.up (ae w3 (.cells mz 135))
    have A_6:=A_5.up (ae w3 (.cells mz 135))
    have M_6:=Bk.new w3 135 mz
    go_wp2_with (first
     |(refine ah rfl 135 (.tmp 4) (.tmp 10) rfl w3.heap.size 0 (mkC (I.M k1)) rfl rfl M_6 (Nat.le_refl 4) Tryz.infoM (aF _) ?_;intro w4 M_7 ho6;have U_7:=ho6.but U_6 (by omega);have B_7:=B_6.oth ho6 (by omega);have Q_7:=Q_6.oth ho6 (by omega) (by omega);have X_7:=X_6.oth2 ho6 (fun b hb=>by omega);have A_7:=A_6.oth ho6 (by omega);have lB_7:=B_7.lt;have lA_7:=A_7.lt;have lM_7:=M_7.lt))
    refine (t2 ▸ aA I [60] hW60 w4 R k1 0 d Q_7:Calls Tryz.prog 90 #[.pointer (some ⟨R,0,none⟩),.string (bs [60])] w4 fun e w'=>e=.returned (.bool true)∧Below w4.heap.size w4 w').mono ?_
    rintro e w5 ⟨rfl,hbw5⟩
    have U_8:=U_7.then hbw5
    have B_8:=B_7.up hbw5
    have Q_8:=Q_7.up hbw5
    have X_8:=X_7.up hbw5
    have A_8:=A_7.up hbw5
    have M_8:=M_7.up hbw5
    have lB_8:=B_8.lt
    have lA_8:=A_8.lt
    have lM_8:=M_8.lt
    go_wp2_with fail
    refine (aU I [61,61] w5 R (t1 ▸ aA I [61,61] hW6161 w5 R k1 0 d Q_8)).mono ?_
    rintro e w6 ⟨rfl,hbw6⟩
    have U_9:=U_8.then hbw6
    have B_9:=B_8.up hbw6
    have Q_9:=Q_8.up hbw6
    have X_9:=X_8.up hbw6
    have A_9:=A_8.up hbw6
    have M_9:=M_8.up hbw6
    have lB_9:=B_9.lt
    have lA_9:=A_9.lt
    have lM_9:=M_9.lt
    go_wp2_with fail
    refine (dm I [60] hW60 w6 R k1 d Q_9 t2 hk1).mono ?_
    rintro e w7 ⟨rfl,hdw7,hVw7⟩
    have U_10:=U_9.trans hVw7
    have B_10:=B_9.but hVw7 (by omega)
    have X_10:=X_9.but2 hVw7 (fun b hb=>by omega)
    have A_10:=A_9.but hVw7 (by omega)
    have M_10:=M_9.but hVw7 (by omega)
    have lB_10:=B_10.lt
    have lA_10:=A_10.lt
    have lM_10:=M_10.lt
    go_wp2_with fail
    refine ((ihs f (Nat.le_refl _)).sum (.ok () (k1+1)) w7 R d hdw7 hn2).mono ?_
    rintro e w8 ⟨us,rfl,sv2,hex2,hs2,hV8⟩
    rw[az] at hex2 hs2
    obtain⟨b0,b1,b2,b3,b4,b5,b6,rfl⟩:=aQ sv2.len
    have U_11:=U_10.trans hV8
    have B_11:=B_10.but hV8 (by omega)
    have X_11:=X_10.but2 hV8 (fun b hb=>by omega)
    have A_11:=A_10.but hV8 (by omega)
    have M_11:=M_10.but hV8 (by omega)
    have lB_11:=B_11.lt
    have lA_11:=A_11.lt
    have lM_11:=M_11.lt
    have hxb:=fun x j e=>(hex2 x j e).imp (A':=fun b=>w.heap.size<b∧b<w8.heap.size) fun b hb hl=>by omega
    clear hex2
    have U_12:=U_11.then (ae w8 (.cells ez 58))
    have B_12:=B_11.up (ae w8 (.cells ez 58))
    have X_12:=X_11.up (ae w8 (.cells ez 58))
    have A_12:=A_11.up (ae w8 (.cells ez 58))
    have M_12:=M_11.up (ae w8 (.cells ez 58))
    have Q_12:=hs2.up (ae w8 (.cells ez 58))
    have Y_12:=fun x j e=>(hxb x j e).up (ae w8 (.cells ez 58))
    have C_12:=Bk.new w8 58 ez
    go_wp2_with (first
     |(refine ah rfl 58 (.tmp 6) (.tmp 23) rfl w8.heap.size 0 [b0,b1,b2,b3,b4,b5,b6] rfl rfl C_12 (Nat.le_refl 7) Tryz.infoE sv2.one ?_;intro w9 C_13 ho12;have U_13:=ho12.but U_12 (by omega);have B_13:=B_12.oth ho12 (by omega);have X_13:=X_12.oth2 ho12 (fun b hb=>by omega);have A_13:=A_12.oth ho12 (by omega);have M_13:=M_12.oth ho12 (by omega);have Q_13:=Q_12.oth ho12 (by omega) (by omega);have Y_13:=fun x j e=>(Y_12 x j e).oth2 ho12 (fun b hb=>by omega);have lB_13:=B_13.lt;have lA_13:=A_13.lt;have lM_13:=M_13.lt;have lC_13:=C_13.lt)
     |refine ai rfl 58 (.tmp 3) rfl w1.heap.size 0 rfl [a0,a1,a2,a3,a4,a5,a6] _ (A_13.range 0 7) Tryz.underE Tryz.infoE ?_
     |refine ai rfl 58 (.tmp 6) rfl w8.heap.size 0 rfl [b0,b1,b2,b3,b4,b5,b6] _ (C_13.range 0 7) Tryz.underE Tryz.infoE ?_
     |refine ai rfl 135 (.tmp 4) rfl w3.heap.size 0 rfl (mkC (I.M k1)) _ (M_13.range 0 4) Tryz.underM Tryz.infoM ?_)
    refine (dK 13 (I.M k1) [a0,a1,a2,a3,a4,a5,a6] [b0,b1,b2,b3,b4,b5,b6] sv sv2 w9).mono ?_
    rintro e w10 ⟨V,rfl,sv3,hb8,htw⟩
    obtain⟨c0,c1,c2,c3,c4,c5,c6,rfl⟩:=aQ sv3.len
    have hz:=fun x j e=>htw (fun c=>w.heap.size<c) a x (fun c hc=>by omega) (X_13.imp fun b hb _=>hb.1) ((Y_13 x j e).imp fun b hb _=>hb.1)
    clear htw
    have U_14:=U_13.then hb8
    have B_14:=B_13.up hb8
    have Q_14:=Q_13.up hb8
    have lB_14:=B_14.lt
    go_wp2_with (first
     |(refine ah rfl 58 (.tmp 2) (.tmp 28) rfl w.heap.size 0 [c0,c1,c2,c3,c4,c5,c6] rfl rfl B_14 (Nat.le_refl 7) Tryz.infoE sv3.one ?_;intro wz B_15 ho14;have U_15:=ho14.but U_14 (by omega);have Q_15:=Q_14.oth ho14 (by omega) (by omega);have Z_15:=fun x j e=>(hz x j e).oth2 ho14 (fun b hb=>by omega);have lB_15:=B_15.lt;obtain⟨q0,q1,q2,q3,q4,q5,q6⟩:=Bk.seven (show Bk wz w.heap.size _ [_,_,_,_,_,_,_] from B_15)))
    cases hq2:sumP I.M (lmOf I) f d (k1+1) with
    |out=>exact absurd hq2 hn2
    |bad y j=>
     have HE:=show r=_ from bK HR hq2
     rw[hq2] at Q_15
     clear HR
     subst HE
     refine bodyPost_ret (v:=.agg #[c0,c1,c2,c3,c4,c5,c6]) (by simp[results,Tryz.results122,go_sem,q0,q1,q2,q3,q4,q5,q6]) rfl ⟨_,rfl,sv3,(fun _ _ e=>by cases e),Q_15,U_15⟩
    |ok b k2=>
     have HE:=show r=_ from bind_ok HR hq2
     rw[hq2] at Q_15
     have hxz:=Z_15 b k2 hq2
     clear HR
     subst HE
     refine bodyPost_ret (v:=.agg #[c0,c1,c2,c3,c4,c5,c6]) (by simp[results,Tryz.results122,go_sem,q0,q1,q2,q3,q4,q5,q6]) rfl ⟨_,rfl,sv3,(fun _ _ e=>by cases e;exact hxz.imp fun b hb _=>by omega),Q_15,U_15⟩
   |false=>
    have HE:r=.ok a k1:=by rw[show r=_ from HR,if_neg (by rw[t2];simp)]
    clear HR
    go_wp2_with (first
     |(refine ah rfl 58 (.tmp 3) (.tmp 8) rfl w1.heap.size 0 [a0,a1,a2,a3,a4,a5,a6] rfl rfl A_3 (Nat.le_refl 7) Tryz.infoE sv.one ?_;intro w2 A_4 ho3;have U_4:=ho3.but U_3 (by omega);have B_4:=B_3.oth ho3 (by omega);have Q_4:=Q_3.oth ho3 (by omega) (by omega);have X_4:=X_3.oth2 ho3 (fun b hb=>by omega);have lB_4:=B_4.lt;have lA_4:=A_4.lt))
    refine (aB I w2 R k1 0 0 d Q_4).mono ?_
    rintro e w3 ⟨rfl,hb3⟩
    unfold mkV
    have U_5:=U_4.then hb3
    have B_5:=B_4.up hb3
    have Q_5:=Q_4.up hb3
    have X_5:=X_4.up hb3
    have A_5:=A_4.up hb3
    have lB_5:=B_5.lt
    have lA_5:=A_5.lt
    have U_6:=U_5.then (ae w3 (.cells mz 135))
    have B_6:=B_5.up (ae w3 (.cells mz 135))
    have Q_6:=Q_5.up (ae w3 (.cells mz 135))
    have X_6:=X_5.up (ae w3 (.cells mz 135))
    have A_6:=A_5.up (ae w3 (.cells mz 135))
    have M_6:=Bk.new w3 135 mz
    go_wp2_with (first
     |(refine ah rfl 135 (.tmp 4) (.tmp 10) rfl w3.heap.size 0 (mkC (I.M k1)) rfl rfl M_6 (Nat.le_refl 4) Tryz.infoM (aF _) ?_;intro w4 M_7 ho6;have U_7:=ho6.but U_6 (by omega);have B_7:=B_6.oth ho6 (by omega);have Q_7:=Q_6.oth ho6 (by omega) (by omega);have X_7:=X_6.oth2 ho6 (fun b hb=>by omega);have A_7:=A_6.oth ho6 (by omega);have lB_7:=B_7.lt;have lA_7:=A_7.lt;have lM_7:=M_7.lt))
    refine ((t2 ▸ aA I [60] hW60 w4 R k1 0 d Q_7):Calls Tryz.prog 90 #[.pointer (some ⟨R,0,none⟩),.string (bs [60])] w4 fun e w'=>e=.returned (.bool false)∧Below w4.heap.size w4 w').mono ?_
    rintro e w5 ⟨rfl,hbw5⟩
    have U_8:=U_7.then hbw5
    have B_8:=B_7.up hbw5
    have Q_8:=Q_7.up hbw5
    have X_8:=X_7.up hbw5
    have A_8:=A_7.up hbw5
    have M_8:=M_7.up hbw5
    have lB_8:=B_8.lt
    have lA_8:=A_8.lt
    have lM_8:=M_8.lt
    go_wp2_with fail
    refine (aU I [61,61] w5 R (t1 ▸ aA I [61,61] hW6161 w5 R k1 0 d Q_8)).mono ?_
    rintro e w6 ⟨rfl,hbw6⟩
    have U_9:=U_8.then hbw6
    have B_9:=B_8.up hbw6
    have Q_9:=Q_8.up hbw6
    have X_9:=X_8.up hbw6
    have A_9:=A_8.up hbw6
    have M_9:=M_8.up hbw6
    have lB_9:=B_9.lt
    have lA_9:=A_9.lt
    have lM_9:=M_9.lt
    go_wp2_with fail
    refine (aU I [60] w6 R (t2 ▸ aA I [60] hW60 w6 R k1 0 d Q_9)).mono ?_
    rintro e w7 ⟨rfl,hbw7⟩
    have U_10:=U_9.then hbw7
    have B_10:=B_9.up hbw7
    have Q_10:=Q_9.up hbw7
    have X_10:=X_9.up hbw7
    have A_10:=A_9.up hbw7
    have M_10:=M_9.up hbw7
    have lB_10:=B_10.lt
    have lA_10:=A_10.lt
    have lM_10:=M_10.lt
    go_wp2_with (first
     |refine ai rfl 58 (.tmp 3) rfl w1.heap.size 0 rfl [a0,a1,a2,a3,a4,a5,a6] _ (A_10.range 0 7) Tryz.underE Tryz.infoE ?_
     |(refine ah rfl 58 (.tmp 2) (.tmp 21) rfl w.heap.size 0 [a0,a1,a2,a3,a4,a5,a6] rfl rfl B_10 (Nat.le_refl 7) Tryz.infoE sv.one ?_;intro wz B_11 ho10;have U_11:=ho10.but U_10 (by omega);have Q_11:=Q_10.oth ho10 (by omega) (by omega);have X_11:=X_10.oth2 ho10 (fun b hb=>by omega);have A_11:=A_10.oth ho10 (by omega);have M_11:=M_10.oth ho10 (by omega);have lA_11:=A_11.lt;have lM_11:=M_11.lt;have lB_11:=B_11.lt;obtain⟨q0,q1,q2,q3,q4,q5,q6⟩:=Bk.seven (show Bk wz w.heap.size _ [_,_,_,_,_,_,_] from B_11)))
    subst HE
    refine bodyPost_ret (v:=.agg #[a0,a1,a2,a3,a4,a5,a6]) (by simp[results,Tryz.results122,go_sem,q0,q1,q2,q3,q4,q5,q6]) rfl ⟨_,rfl,sv,(fun _ _ e=>by cases e;exact X_11.imp fun b hb _=>by omega),Q_11,U_11⟩
def msr (n R:Nat) (w:World):Nat:=match w.cell? ⟨R,2,none⟩ with|some (.int _ 0)=>n+1-ul R w|_=>0
theorem aT {I:Rdi} {w:World} {R k:Nat} {a d:Int} (h:Rq I w R k 0 a d):msr I.n R w=I.n+1-k:=by
 unfold msr ul
 rw[h.nine.2.2.1,h.nine.2.1]
 simp
theorem bL {I:Rdi} {w:World} {R k:Nat} {y a d:Int} (hy:y≠0) (h:Rq I w R k y a d):msr I.n R w=0:=by
 unfold msr
 rw[h.nine.2.2.1]
 split
 ·rename_i he
  simp only[Option.some.injEq,Value.int.injEq] at he
  exact absurd he.2 hy
 ·rfl
theorem bu {a b n k k2:Nat} (h1:a=n+1-k) (h2:b=n+1-k2) (hk:k<n) (hg:k+1≤k2):b<a:=by omega
theorem bv {a b n k:Nat} (h1:a=n+1-k) (h2:b=0) (hk:k<n):b<a:=by omega
def RJ (I:Rdi) (f:Nat) (R d gA:Nat) (w:World) (C:Nat→Ex→Nat→Prop) (D:Int→Nat→Prop) (wr:World):Prop:=
 Bk wr w.heap.size 58 [.int .i64 0,.string ⟨#[]⟩,.string ⟨#[]⟩,.int .i64 0,.complex .f64 0 0,.slice none 0 0,.int .i64 0]∧But R w wr∧∃ vs:List Value,Sv vs∧Bk wr gA 58 vs ∧
  ((∃ (g k:Nat) (a:Ex),C g a k∧g≤f∧Rq I wr R k 0 0 d∧ExW wr (fun b=>w.heap.size<b∧b≠gA) a vs)∨(∃ (y:Int) (j k:Nat) (d':Int),D y j∧y≠0∧Rq I wr R k y (I.M j).at_ d'))
theorem rsum_step (I:Rdi) (hE:Ends I.M I.n) (hW:∀ s∈lks,Wm I.M s) (f:Nat) (ihs:∀ g,g≤f→AllR I g) {α:Type} (q:Rs α) (w:World) (R d:Nat) (h:St I w R d q) (hne:nx q (sumP I.M (lmOf I) (f+1) d)≠.out) :
  Calls Tryz.prog 130 #[.pointer (some ⟨R,0,none⟩)] w (RA I R d w (nx q (sumP I.M (lmOf I) (f+1) d))):=by
 obtain⟨r,hr⟩:∃ r,r=nx q (sumP I.M (lmOf I) (f+1) d):=⟨_,rfl⟩
 rw[← hr] at hne ⊢
 have hr2:r=(nx q (termP I.M (lmOf I) f d)).bind fun a k1=>sumL I.M (lmOf I) f d a k1:=by
  rw[hr,← iy]
  congr 1
  funext k
  rw[sumP]
 clear hr
 have HR:Hid (r=_):=hr2
 clear hr2
 have hn1:=bM HR hne
 have hlt:=h.lt
 have hcx:=aI
 have hW1:=hW [43] (by simp[lks])
 have hW2:=hW [45] (by simp[lks])
 have S_1:=h.up (ae w (.cells ez 58))
 have U_1:=(But.refl R w).then (ae w (.cells ez 58))
 have B_1:=Bk.new w 58 ez
 have c1:=(ihs f (Nat.le_refl _)).term q _ R d S_1 hn1
 go_enter Tryz.func130,Tryz.ntmps130
 go_wp2_with fail
 refine c1.mono ?_
 rintro e w1 ⟨vs,rfl,sv,hex,hs,hV⟩
 obtain⟨a0,a1,a2,a3,a4,a5,a6,rfl⟩:=aQ sv.len
 have U_2:=U_1.trans hV
 have B_2:=B_1.but hV (by omega)
 have lB_2:=B_2.lt
 have s_2:=hV.size
 have hxa:=fun x j e=>(hex x j e).imp (A':=fun b=>w.heap.size<b∧b<w1.heap.size) fun b hb hl=>by simp at hb;omega
 clear hex c1
 have U_3:=U_2.then (ae w1 (.cells ez 58))
 have B_3:=B_2.up (ae w1 (.cells ez 58))
 have Q_3:=hs.up (ae w1 (.cells ez 58))
 have X_3:=fun x j e=>(hxa x j e).up (ae w1 (.cells ez 58))
 have A_3:=Bk.new w1 58 ez
 go_wp2_with (first
  |(refine ah rfl 58 (.tmp 3) (.tmp 8) rfl w1.heap.size 0 [a0,a1,a2,a3,a4,a5,a6] rfl rfl A_3 (Nat.le_refl 7) Tryz.infoE sv.one ?_;intro w2 A_4 ho3;have U_4:=ho3.but U_3 (by omega);have B_4:=B_3.oth ho3 (by omega);have Q_4:=Q_3.oth ho3 (by omega) (by omega);have X_4:=fun x j e=>(X_3 x j e).oth2 ho3 (fun b hb=>by omega);have lB_4:=B_4.lt;have lA_4:=A_4.lt))
 have hJ:RJ I f R d w1.heap.size w (fun g a k=>Hid (r=sumL I.M (lmOf I) g d a k)) (fun y j=>Hid (r=.bad y j)) w2:=by
  refine⟨B_4,U_4,_,sv,A_4,?_⟩
  cases hq1:nx q (termP I.M (lmOf I) f d) with
  |out=>exact absurd hq1 hn1
  |bad y j=>
   have hd:=Q_4
   rw[hq1] at hd
   obtain⟨hy,k,d',hd⟩:=hd
   exact .inr ⟨y,j,k,d',bK HR hq1,hy,hd⟩
  |ok a k1=>
   have hd:=Q_4
   rw[hq1] at hd
   exact .inl ⟨f,k1,a,bind_ok HR hq1,Nat.le_refl _,hd,(X_4 a k1 hq1).imp fun b hb _=>by omega⟩
 have hgA:w.heap.size<w1.heap.size:=lB_2
 obtain⟨gA,hgd⟩:∃ g,g=w1.heap.size:=⟨_,rfl⟩
 rw[← hgd] at hJ hgA ⊢
 clear B_4 U_4 A_4 Q_4 X_4 sv hgd HR hn1 h
 dsimp only[Act.put]
 go_loopw [] (fun wr=>RJ I f R d gA w (fun g a k=>Hid (r=sumL I.M (lmOf I) g d a k)) (fun y j=>Hid (r=.bad y j)) wr) (fun wr=>msr I.n R wr)
 case atStart=>exact hJ
 case round=>
  obtain⟨hB,hU,vs,sv,hA,hst⟩:=hrel
  obtain⟨a0,a1,a2,a3,a4,a5,a6,rfl⟩:=aQ sv.len
  have lB:=hB.lt
  have lA:=hA.lt
  rcases hst with⟨g,k,a,HR,hg,hd,hxa⟩|⟨y,j,k,d',HR,hy,hd⟩
  ·obtain⟨g,rfl⟩:∃ g',g=g'+1:=by
    cases g with
    |zero=>exact absurd (by rw[show r=_ from HR,sumL]) hne
    |succ g=>exact⟨g,rfl⟩
   have hkn:=hd.kn
   have hxr:=hxa.imp (A':=fun b=>w.heap.size<b∧b≠gA∧b<wr.heap.size) fun b hb hl=>⟨hb.1,hb.2,hl⟩
   have hr3:=show r=_ from HR
   rw[sumL] at hr3
   have HR:Hid (r=_):=hr3
   clear hr3 hxa
   cases t1:tk I.M [43] k with
   |true=>
    have hk1:=hE.tk I.M t1 (by decide) hkn
    have hw:=w64k k (by have:=hd.small;omega)
    have t2:tk I.M [45] k=false:=by unfold tk at t1 ⊢;rw[eq_of_beq t1];rfl
    have ht:((bs (I.M k).text).toList==[45])=false:=by rw[aG];exact t2
    have HR:Hid (r=(termP I.M (lmOf I) g d (k+1)).bind fun b k1=>sumL I.M (lmOf I) g d (two 8 a b (I.M k)) k1):=by
     show r=_
     rw[show r=_ from HR,if_pos t1]
    have hn2:=bM HR hne
    go_wp2_with fail
    refine (t1 ▸ aA I [43] hW1 wr R k 0 d hd:Calls Tryz.prog 90 #[.pointer (some ⟨R,0,none⟩),.string (bs [43])] wr fun e w'=>e=.returned (.bool true)∧Below wr.heap.size wr w').mono ?_
    rintro e w3 ⟨rfl,hbw3⟩
    have B_1:=hB.up hbw3
    have U_1:=hU.then hbw3
    have A_1:=hA.up hbw3
    have Q_1:=hd.up hbw3
    have X_1:=hxr.up hbw3
    have lB_1:=B_1.lt
    have lA_1:=A_1.lt
    have s_1:=hbw3.size
    go_wp2_with fail
    go_wp2_with fail
    refine (aB I w3 R k 0 0 d Q_1).mono ?_
    rintro e w4 ⟨rfl,hbw4⟩
    unfold mkV
    have B_2:=B_1.up hbw4
    have U_2:=U_1.then hbw4
    have A_2:=A_1.up hbw4
    have Q_2:=Q_1.up hbw4
    have X_2:=X_1.up hbw4
    have lB_2:=B_2.lt
    have lA_2:=A_2.lt
    have s_2:=hbw4.size
    have B_3:=B_2.up (ae w4 (.cells mz 135))
    have U_3:=U_2.then (ae w4 (.cells mz 135))
    have A_3:=A_2.up (ae w4 (.cells mz 135))
    have Q_3:=Q_2.up (ae w4 (.cells mz 135))
    have X_3:=X_2.up (ae w4 (.cells mz 135))
    have M_3:=Bk.new w4 135 mz
    go_wp2_with (first
     |(refine ah rfl 135 (.tmp 4) (.tmp 16) rfl w4.heap.size 0 (mkC (I.M k)) rfl rfl M_3 (Nat.le_refl 4) Tryz.infoM (aF _) ?_;intro w5 M_4 ho3;have B_4:=B_3.oth ho3 (by omega);have U_4:=ho3.but U_3 (by omega);have A_4:=A_3.oth ho3 (by omega);have Q_4:=Q_3.oth ho3 (by omega) (by omega);have X_4:=X_3.oth2 ho3 (fun b hb=>by omega);have lB_4:=B_4.lt;have lA_4:=A_4.lt;have lM_4:=M_4.lt;obtain⟨-,c1,-⟩:=Q_4.nine;have z1:=Q_4.blk.frz 1))
    have hdn:=Q_4.go (k+1) hk1
    have hVn:=(But.refl R w5).setR (j:=1) (.int .i64 ((k+1:Nat):Int))
    have B_5:=B_4.but hVn (by omega)
    have U_5:=U_4.trans hVn
    have A_5:=A_4.but hVn (by omega)
    have X_5:=X_4.but2 hVn (fun b hb=>by omega)
    have M_5:=M_4.but hVn (by omega)
    have lB_5:=B_5.lt
    have lA_5:=A_5.lt
    have lM_5:=M_5.lt
    have s_5:=hVn.size
    refine ((ihs g (by omega)).term (.ok () (k+1)) _ R d hdn hn2).mono ?_
    rintro e w6 ⟨us,rfl,sv2,hex2,hs2,hVw6⟩
    rw[az] at hex2 hs2
    obtain⟨b0,b1,b2,b3,b4,b5,b6,rfl⟩:=aQ sv2.len
    clear c1 z1
    have B_6:=B_5.but hVw6 (by omega)
    have U_6:=U_5.trans hVw6
    have A_6:=A_5.but hVw6 (by omega)
    have X_6:=X_5.but2 hVw6 (fun b hb=>by omega)
    have M_6:=M_5.but hVw6 (by omega)
    have lB_6:=B_6.lt
    have lA_6:=A_6.lt
    have lM_6:=M_6.lt
    have s_6:=hVw6.size
    have hxb:=fun x j e=>(hex2 x j e).imp (A':=fun b=>w.heap.size<b∧b≠gA∧b<w6.heap.size) fun b hb hl=>by simp at hb;omega
    clear hex2
    have B_7:=B_6.up (ae w6 (.cells ez 58))
    have U_7:=U_6.then (ae w6 (.cells ez 58))
    have A_7:=A_6.up (ae w6 (.cells ez 58))
    have X_7:=X_6.up (ae w6 (.cells ez 58))
    have M_7:=M_6.up (ae w6 (.cells ez 58))
    have Q_7:=hs2.up (ae w6 (.cells ez 58))
    have Y_7:=fun x j e=>(hxb x j e).up (ae w6 (.cells ez 58))
    have C_7:=Bk.new w6 58 ez
    go_wp2_with (first
     |(refine ah rfl 58 (.tmp 5) (.tmp 25) rfl w6.heap.size 0 [b0,b1,b2,b3,b4,b5,b6] rfl rfl C_7 (Nat.le_refl 7) Tryz.infoE sv2.one ?_;intro w7 C_8 ho7;have B_8:=B_7.oth ho7 (by omega);have U_8:=ho7.but U_7 (by omega);have A_8:=A_7.oth ho7 (by omega);have X_8:=X_7.oth2 ho7 (fun b hb=>by omega);have M_8:=M_7.oth ho7 (by omega);have Q_8:=Q_7.oth ho7 (by omega) (by omega);have Y_8:=fun x j e=>(Y_7 x j e).oth2 ho7 (fun b hb=>by omega);have lB_8:=B_8.lt;have lA_8:=A_8.lt;have lM_8:=M_8.lt;have lC_8:=C_8.lt;obtain⟨-,mt,-⟩:=Bk.four (show Bk w7 w4.heap.size _ [_,_,_,_] from M_8))
     |refine ai rfl 58 (.tmp 3) rfl gA 0 rfl [a0,a1,a2,a3,a4,a5,a6] _ (A_8.range 0 7) Tryz.underE Tryz.infoE ?_
     |refine ai rfl 58 (.tmp 5) rfl w6.heap.size 0 rfl [b0,b1,b2,b3,b4,b5,b6] _ (C_8.range 0 7) Tryz.underE Tryz.infoE ?_
     |refine ai rfl 135 (.tmp 4) rfl w4.heap.size 0 rfl (mkC (I.M k)) _ (M_8.range 0 4) Tryz.underM Tryz.infoM ?_)
    refine (dK 8 (I.M k) [a0,a1,a2,a3,a4,a5,a6] [b0,b1,b2,b3,b4,b5,b6] sv sv2 w7).mono ?_
    rintro e w8 ⟨V,rfl,sv3,hb8,htw⟩
    obtain⟨c0,c1,c2,c3,c4,c5,c6,rfl⟩:=aQ sv3.len
    have hz:=fun x j e=>htw (fun c=>w.heap.size<c∧c≠gA) a x (fun c hc=>by omega) (X_8.imp fun b hb _=>by omega) ((Y_8 x j e).imp fun b hb _=>by omega)
    clear htw mt
    have B_9:=B_8.up hb8
    have U_9:=U_8.then hb8
    have A_9:=A_8.up hb8
    have Q_9:=Q_8.up hb8
    have lB_9:=B_9.lt
    have lA_9:=A_9.lt
    have s_9:=hb8.size
    go_wp2_with (first
     |(refine ah rfl 58 (.tmp 3) (.tmp 33) rfl gA 0 [c0,c1,c2,c3,c4,c5,c6] rfl rfl A_9 (Nat.le_refl 7) Tryz.infoE sv3.one ?_;intro w9 A_10 ho9;have B_10:=B_9.oth ho9 (by omega);have U_10:=ho9.but U_9 (by omega);have Q_10:=Q_9.oth ho9 (by omega) (by omega);have Z_10:=fun x j e=>(hz x j e).oth2 ho9 (fun b hb=>by omega);have lB_10:=B_10.lt;have lA_10:=A_10.lt))
    have hAz:Bk w9 gA 58 [c0,c1,c2,c3,c4,c5,c6]:=A_10
    dsimp only[Act.put]
    cases hq2:termP I.M (lmOf I) g d (k+1) with
    |out=>exact absurd hq2 hn2
    |bad y j=>
     have HE:=bK HR hq2
     have hdz:=Q_10
     rw[hq2] at hdz
     obtain⟨hy,kz,dz,hdz⟩:=hdz
     have ms1:=aT hd
     have ms2:=bL hy hdz
     go_roundw
     case rel=>exact⟨B_10,U_10,[c0,c1,c2,c3,c4,c5,c6],sv3,hAz,.inr ⟨y,j,kz,dz,HE,hy,hdz⟩⟩
     case measure=>exact bv ms1 ms2 hkn
    |ok b k2=>
     have HE:=bind_ok HR hq2
     have hdz:=Q_10
     rw[hq2] at hdz
     have hdz:Rq I w9 R k2 0 0 d:=hdz
     have hge:k+1≤k2:=by have:=(nA I.M (lmOf I) g).termP d (k+1);rw[hq2] at this;exact this
     have ms1:=aT hd
     have ms2:=aT hdz
     go_roundw
     case rel=>exact⟨B_10,U_10,[c0,c1,c2,c3,c4,c5,c6],sv3,hAz,.inl ⟨g,k2,two 8 a b (I.M k),HE,by omega,hdz,Z_10 b k2 hq2⟩⟩
     case measure=>exact bu ms1 ms2 hkn hge
   |false=>
    have HR:Hid (r=if tk I.M [45] k then (termP I.M (lmOf I) g d (k+1)).bind fun b k1=>sumL I.M (lmOf I) g d (two 9 a b (I.M k)) k1 else .ok a k):=by
     show r=_
     rw[show r=_ from HR,if_neg (by rw[t1];simp)]
    cases t2:tk I.M [45] k with
    |true=>
     have hk1:=hE.tk I.M t2 (by decide) hkn
     have hw:=w64k k (by have:=hd.small;omega)
     have ht:((bs (I.M k).text).toList==[45])=true:=by rw[aG];exact t2
     have HR:Hid (r=(termP I.M (lmOf I) g d (k+1)).bind fun b k1=>sumL I.M (lmOf I) g d (two 9 a b (I.M k)) k1):=by
      show r=_
      rw[show r=_ from HR,if_pos t2]
     have hn2:=bM HR hne
     go_wp2_with fail
     refine (t1 ▸ aA I [43] hW1 wr R k 0 d hd:Calls Tryz.prog 90 #[.pointer (some ⟨R,0,none⟩),.string (bs [43])] wr fun e w'=>e=.returned (.bool false)∧Below wr.heap.size wr w').mono ?_
     rintro e w3 ⟨rfl,hbw3⟩
     have B_1:=hB.up hbw3
     have U_1:=hU.then hbw3
     have A_1:=hA.up hbw3
     have Q_1:=hd.up hbw3
     have X_1:=hxr.up hbw3
     have lB_1:=B_1.lt
     have lA_1:=A_1.lt
     have s_1:=hbw3.size
     go_wp2_with fail
     refine (t2 ▸ aA I [45] hW2 w3 R k 0 d Q_1:Calls Tryz.prog 90 #[.pointer (some ⟨R,0,none⟩),.string (bs [45])] w3 fun e w'=>e=.returned (.bool true)∧Below w3.heap.size w3 w').mono ?_
     rintro e w4 ⟨rfl,hbw4⟩
     have B_2:=B_1.up hbw4
     have U_2:=U_1.then hbw4
     have A_2:=A_1.up hbw4
     have Q_2:=Q_1.up hbw4
     have X_2:=X_1.up hbw4
     have lB_2:=B_2.lt
     have lA_2:=A_2.lt
     have s_2:=hbw4.size
     go_wp2_with fail
     go_wp2_with fail
     refine (aB I w4 R k 0 0 d Q_2).mono ?_
     rintro e w5 ⟨rfl,hbw5⟩
     unfold mkV
     have B_3:=B_2.up hbw5
     have U_3:=U_2.then hbw5
     have A_3:=A_2.up hbw5
     have Q_3:=Q_2.up hbw5
     have X_3:=X_2.up hbw5
     have lB_3:=B_3.lt
     have lA_3:=A_3.lt
     have s_3:=hbw5.size
     have B_4:=B_3.up (ae w5 (.cells mz 135))
     have U_4:=U_3.then (ae w5 (.cells mz 135))
     have A_4:=A_3.up (ae w5 (.cells mz 135))
     have Q_4:=Q_3.up (ae w5 (.cells mz 135))
     have X_4:=X_3.up (ae w5 (.cells mz 135))
     have M_4:=Bk.new w5 135 mz
     go_wp2_with (first
      |(refine ah rfl 135 (.tmp 4) (.tmp 16) rfl w5.heap.size 0 (mkC (I.M k)) rfl rfl M_4 (Nat.le_refl 4) Tryz.infoM (aF _) ?_;intro w6 M_5 ho4;have B_5:=B_4.oth ho4 (by omega);have U_5:=ho4.but U_4 (by omega);have A_5:=A_4.oth ho4 (by omega);have Q_5:=Q_4.oth ho4 (by omega) (by omega);have X_5:=X_4.oth2 ho4 (fun b hb=>by omega);have lB_5:=B_5.lt;have lA_5:=A_5.lt;have lM_5:=M_5.lt;obtain⟨-,c1,-⟩:=Q_5.nine;have z1:=Q_5.blk.frz 1))
     have hdn:=Q_5.go (k+1) hk1
     have hVn:=(But.refl R w6).setR (j:=1) (.int .i64 ((k+1:Nat):Int))
     have B_6:=B_5.but hVn (by omega)
     have U_6:=U_5.trans hVn
     have A_6:=A_5.but hVn (by omega)
     have X_6:=X_5.but2 hVn (fun b hb=>by omega)
     have M_6:=M_5.but hVn (by omega)
     have lB_6:=B_6.lt
     have lA_6:=A_6.lt
     have lM_6:=M_6.lt
     have s_6:=hVn.size
     refine ((ihs g (by omega)).term (.ok () (k+1)) _ R d hdn hn2).mono ?_
     rintro e w7 ⟨us,rfl,sv2,hex2,hs2,hVw7⟩
     rw[az] at hex2 hs2
     obtain⟨b0,b1,b2,b3,b4,b5,b6,rfl⟩:=aQ sv2.len
     clear c1 z1
     have B_7:=B_6.but hVw7 (by omega)
     have U_7:=U_6.trans hVw7
     have A_7:=A_6.but hVw7 (by omega)
     have X_7:=X_6.but2 hVw7 (fun b hb=>by omega)
     have M_7:=M_6.but hVw7 (by omega)
     have lB_7:=B_7.lt
     have lA_7:=A_7.lt
     have lM_7:=M_7.lt
     have s_7:=hVw7.size
     have hxb:=fun x j e=>(hex2 x j e).imp (A':=fun b=>w.heap.size<b∧b≠gA∧b<w7.heap.size) fun b hb hl=>by simp at hb;omega
     clear hex2
     have B_8:=B_7.up (ae w7 (.cells ez 58))
     have U_8:=U_7.then (ae w7 (.cells ez 58))
     have A_8:=A_7.up (ae w7 (.cells ez 58))
     have X_8:=X_7.up (ae w7 (.cells ez 58))
     have M_8:=M_7.up (ae w7 (.cells ez 58))
     have Q_8:=hs2.up (ae w7 (.cells ez 58))
     have Y_8:=fun x j e=>(hxb x j e).up (ae w7 (.cells ez 58))
     have C_8:=Bk.new w7 58 ez
     go_wp2_with (first
      |(refine ah rfl 58 (.tmp 5) (.tmp 25) rfl w7.heap.size 0 [b0,b1,b2,b3,b4,b5,b6] rfl rfl C_8 (Nat.le_refl 7) Tryz.infoE sv2.one ?_;intro w8 C_9 ho8;have B_9:=B_8.oth ho8 (by omega);have U_9:=ho8.but U_8 (by omega);have A_9:=A_8.oth ho8 (by omega);have X_9:=X_8.oth2 ho8 (fun b hb=>by omega);have M_9:=M_8.oth ho8 (by omega);have Q_9:=Q_8.oth ho8 (by omega) (by omega);have Y_9:=fun x j e=>(Y_8 x j e).oth2 ho8 (fun b hb=>by omega);have lB_9:=B_9.lt;have lA_9:=A_9.lt;have lM_9:=M_9.lt;have lC_9:=C_9.lt;obtain⟨-,mt,-⟩:=Bk.four (show Bk w8 w5.heap.size _ [_,_,_,_] from M_9))
      |refine ai rfl 58 (.tmp 3) rfl gA 0 rfl [a0,a1,a2,a3,a4,a5,a6] _ (A_9.range 0 7) Tryz.underE Tryz.infoE ?_
      |refine ai rfl 58 (.tmp 5) rfl w7.heap.size 0 rfl [b0,b1,b2,b3,b4,b5,b6] _ (C_9.range 0 7) Tryz.underE Tryz.infoE ?_
      |refine ai rfl 135 (.tmp 4) rfl w5.heap.size 0 rfl (mkC (I.M k)) _ (M_9.range 0 4) Tryz.underM Tryz.infoM ?_)
     refine (dK 9 (I.M k) [a0,a1,a2,a3,a4,a5,a6] [b0,b1,b2,b3,b4,b5,b6] sv sv2 w8).mono ?_
     rintro e w9 ⟨V,rfl,sv3,hb8,htw⟩
     obtain⟨c0,c1,c2,c3,c4,c5,c6,rfl⟩:=aQ sv3.len
     have hz:=fun x j e=>htw (fun c=>w.heap.size<c∧c≠gA) a x (fun c hc=>by omega) (X_9.imp fun b hb _=>by omega) ((Y_9 x j e).imp fun b hb _=>by omega)
     clear htw mt
     have B_10:=B_9.up hb8
     have U_10:=U_9.then hb8
     have A_10:=A_9.up hb8
     have Q_10:=Q_9.up hb8
     have lB_10:=B_10.lt
     have lA_10:=A_10.lt
     have s_10:=hb8.size
     go_wp2_with (first
      |(refine ah rfl 58 (.tmp 3) (.tmp 33) rfl gA 0 [c0,c1,c2,c3,c4,c5,c6] rfl rfl A_10 (Nat.le_refl 7) Tryz.infoE sv3.one ?_;intro w10 A_11 ho10;have B_11:=B_10.oth ho10 (by omega);have U_11:=ho10.but U_10 (by omega);have Q_11:=Q_10.oth ho10 (by omega) (by omega);have Z_11:=fun x j e=>(hz x j e).oth2 ho10 (fun b hb=>by omega);have lB_11:=B_11.lt;have lA_11:=A_11.lt))
     have hAz:Bk w10 gA 58 [c0,c1,c2,c3,c4,c5,c6]:=A_11
     dsimp only[Act.put]
     cases hq2:termP I.M (lmOf I) g d (k+1) with
     |out=>exact absurd hq2 hn2
     |bad y j=>
      have HE:=bK HR hq2
      have hdz:=Q_11
      rw[hq2] at hdz
      obtain⟨hy,kz,dz,hdz⟩:=hdz
      have ms1:=aT hd
      have ms2:=bL hy hdz
      go_roundw
      case rel=>exact⟨B_11,U_11,[c0,c1,c2,c3,c4,c5,c6],sv3,hAz,.inr ⟨y,j,kz,dz,HE,hy,hdz⟩⟩
      case measure=>exact bv ms1 ms2 hkn
     |ok b k2=>
      have HE:=bind_ok HR hq2
      have hdz:=Q_11
      rw[hq2] at hdz
      have hdz:Rq I w10 R k2 0 0 d:=hdz
      have hge:k+1≤k2:=by have:=(nA I.M (lmOf I) g).termP d (k+1);rw[hq2] at this;exact this
      have ms1:=aT hd
      have ms2:=aT hdz
      go_roundw
      case rel=>exact⟨B_11,U_11,[c0,c1,c2,c3,c4,c5,c6],sv3,hAz,.inl ⟨g,k2,two 9 a b (I.M k),HE,by omega,hdz,Z_11 b k2 hq2⟩⟩
      case measure=>exact bu ms1 ms2 hkn hge
    |false=>
     have HE:r=.ok a k:=by rw[show r=_ from HR,if_neg (by rw[t2];simp)]
     clear HR
     go_wp2_with fail
     refine (t1 ▸ aA I [43] hW1 wr R k 0 d hd:Calls Tryz.prog 90 #[.pointer (some ⟨R,0,none⟩),.string (bs [43])] wr fun e w'=>e=.returned (.bool false)∧Below wr.heap.size wr w').mono ?_
     rintro e w3 ⟨rfl,hbw3⟩
     have B_1:=hB.up hbw3
     have U_1:=hU.then hbw3
     have A_1:=hA.up hbw3
     have Q_1:=hd.up hbw3
     have X_1:=hxr.up hbw3
     have lB_1:=B_1.lt
     have lA_1:=A_1.lt
     have s_1:=hbw3.size
     go_wp2_with fail
     refine (t2 ▸ aA I [45] hW2 w3 R k 0 d Q_1:Calls Tryz.prog 90 #[.pointer (some ⟨R,0,none⟩),.string (bs [45])] w3 fun e w'=>e=.returned (.bool false)∧Below w3.heap.size w3 w').mono ?_
     rintro e w4 ⟨rfl,hbw4⟩
     have B_2:=B_1.up hbw4
     have U_2:=U_1.then hbw4
     have A_2:=A_1.up hbw4
     have Q_2:=Q_1.up hbw4
     have X_2:=X_1.up hbw4
     have lB_2:=B_2.lt
     have lA_2:=A_2.lt
     have s_2:=hbw4.size
     subst HE
     go_wp2_with (first
      |refine ai rfl 58 (.tmp 3) rfl gA 0 rfl [a0,a1,a2,a3,a4,a5,a6] _ (A_2.range 0 7) Tryz.underE Tryz.infoE ?_
      |(refine ah rfl 58 (.tmp 2) (.tmp 34) rfl w.heap.size 0 [a0,a1,a2,a3,a4,a5,a6] rfl rfl B_2 (Nat.le_refl 7) Tryz.infoE sv.one ?_;intro wz B_3 ho2;have U_3:=ho2.but U_2 (by omega);have A_3:=A_2.oth ho2 (by omega);have Q_3:=Q_2.oth ho2 (by omega) (by omega);have X_3:=X_2.oth2 ho2 (fun b hb=>by omega);have lA_3:=A_3.lt;have lB_3:=B_3.lt;obtain⟨q0,q1,q2,q3,q4,q5,q6⟩:=Bk.seven (show Bk wz w.heap.size _ [_,_,_,_,_,_,_] from B_3)))
     refine bodyPost_ret (v:=.agg #[a0,a1,a2,a3,a4,a5,a6]) (by simp[results,Tryz.results130,go_sem,q0,q1,q2,q3,q4,q5,q6]) rfl ⟨_,rfl,sv,(fun _ _ e=>by cases e;exact X_3.imp fun b hb _=>by omega),Q_3,U_3⟩
  ·have HE:=show r=_ from HR
   clear HR
   go_wp2_with fail
   refine (aN I [43] wr R k y _ d' hy hd).mono ?_
   rintro e w3 ⟨rfl,hbw3⟩
   have B_1:=hB.up hbw3
   have U_1:=hU.then hbw3
   have A_1:=hA.up hbw3
   have Q_1:=hd.up hbw3
   have lB_1:=B_1.lt
   have lA_1:=A_1.lt
   have s_1:=hbw3.size
   go_wp2_with fail
   refine (aN I [45] w3 R k y _ d' hy Q_1).mono ?_
   rintro e w4 ⟨rfl,hbw4⟩
   have B_2:=B_1.up hbw4
   have U_2:=U_1.then hbw4
   have A_2:=A_1.up hbw4
   have Q_2:=Q_1.up hbw4
   have lB_2:=B_2.lt
   have lA_2:=A_2.lt
   have s_2:=hbw4.size
   subst HE
   go_wp2_with (first
    |refine ai rfl 58 (.tmp 3) rfl gA 0 rfl [a0,a1,a2,a3,a4,a5,a6] _ (A_2.range 0 7) Tryz.underE Tryz.infoE ?_
    |(refine ah rfl 58 (.tmp 2) (.tmp 34) rfl w.heap.size 0 [a0,a1,a2,a3,a4,a5,a6] rfl rfl B_2 (Nat.le_refl 7) Tryz.infoE sv.one ?_;intro wz B_3 ho2;have U_3:=ho2.but U_2 (by omega);have A_3:=A_2.oth ho2 (by omega);have Q_3:=Q_2.oth ho2 (by omega) (by omega);have lA_3:=A_3.lt;have lB_3:=B_3.lt;obtain⟨q0,q1,q2,q3,q4,q5,q6⟩:=Bk.seven (show Bk wz w.heap.size _ [_,_,_,_,_,_,_] from B_3)))
   refine bodyPost_ret (v:=.agg #[a0,a1,a2,a3,a4,a5,a6]) (by simp[results,Tryz.results130,go_sem,q0,q1,q2,q3,q4,q5,q6]) rfl ⟨_,rfl,sv,(fun _ _ e=>by cases e),⟨hy,k,d',Q_3⟩,U_3⟩
theorem rterm_step (I:Rdi) (hE:Ends I.M I.n) (hW:∀ s∈lks,Wm I.M s) (f:Nat) (ihs:∀ g,g≤f→AllR I g) {α:Type} (q:Rs α) (w:World) (R d:Nat) (h:St I w R d q) (hne:nx q (termP I.M (lmOf I) (f+1) d)≠.out) :
  Calls Tryz.prog 132 #[.pointer (some ⟨R,0,none⟩)] w (RA I R d w (nx q (termP I.M (lmOf I) (f+1) d))):=by
 obtain⟨r,hr⟩:∃ r,r=nx q (termP I.M (lmOf I) (f+1) d):=⟨_,rfl⟩
 rw[← hr] at hne ⊢
 have hr2:r=(nx q (unitP I.M (lmOf I) f d)).bind fun a k1=>termL I.M (lmOf I) f d a k1:=by
  rw[hr,← iy]
  congr 1
  funext k
  rw[termP]
 clear hr
 have HR:Hid (r=_):=hr2
 clear hr2
 have hn1:=bM HR hne
 have hlt:=h.lt
 have hcx:=aI
 have hW1:=hW [42] (by simp[lks])
 have hW2:=hW [47] (by simp[lks])
 have S_1:=h.up (ae w (.cells ez 58))
 have U_1:=(But.refl R w).then (ae w (.cells ez 58))
 have B_1:=Bk.new w 58 ez
 have c1:=(ihs f (Nat.le_refl _)).unit q _ R d S_1 hn1
 go_enter Tryz.func132,Tryz.ntmps132
 go_wp2_with fail
 refine c1.mono ?_
 rintro e w1 ⟨vs,rfl,sv,hex,hs,hV⟩
 obtain⟨a0,a1,a2,a3,a4,a5,a6,rfl⟩:=aQ sv.len
 have U_2:=U_1.trans hV
 have B_2:=B_1.but hV (by omega)
 have lB_2:=B_2.lt
 have s_2:=hV.size
 have hxa:=fun x j e=>(hex x j e).imp (A':=fun b=>w.heap.size<b∧b<w1.heap.size) fun b hb hl=>by simp at hb;omega
 clear hex c1
 have U_3:=U_2.then (ae w1 (.cells ez 58))
 have B_3:=B_2.up (ae w1 (.cells ez 58))
 have Q_3:=hs.up (ae w1 (.cells ez 58))
 have X_3:=fun x j e=>(hxa x j e).up (ae w1 (.cells ez 58))
 have A_3:=Bk.new w1 58 ez
 go_wp2_with (first
  |(refine ah rfl 58 (.tmp 3) (.tmp 8) rfl w1.heap.size 0 [a0,a1,a2,a3,a4,a5,a6] rfl rfl A_3 (Nat.le_refl 7) Tryz.infoE sv.one ?_;intro w2 A_4 ho3;have U_4:=ho3.but U_3 (by omega);have B_4:=B_3.oth ho3 (by omega);have Q_4:=Q_3.oth ho3 (by omega) (by omega);have X_4:=fun x j e=>(X_3 x j e).oth2 ho3 (fun b hb=>by omega);have lB_4:=B_4.lt;have lA_4:=A_4.lt))
 have hJ:RJ I f R d w1.heap.size w (fun g a k=>Hid (r=termL I.M (lmOf I) g d a k)) (fun y j=>Hid (r=.bad y j)) w2:=by
  refine⟨B_4,U_4,_,sv,A_4,?_⟩
  cases hq1:nx q (unitP I.M (lmOf I) f d) with
  |out=>exact absurd hq1 hn1
  |bad y j=>
   have hd:=Q_4
   rw[hq1] at hd
   obtain⟨hy,k,d',hd⟩:=hd
   exact .inr ⟨y,j,k,d',bK HR hq1,hy,hd⟩
  |ok a k1=>
   have hd:=Q_4
   rw[hq1] at hd
   exact .inl ⟨f,k1,a,bind_ok HR hq1,Nat.le_refl _,hd,(X_4 a k1 hq1).imp fun b hb _=>by omega⟩
 have hgA:w.heap.size<w1.heap.size:=lB_2
 obtain⟨gA,hgd⟩:∃ g,g=w1.heap.size:=⟨_,rfl⟩
 rw[← hgd] at hJ hgA ⊢
 clear B_4 U_4 A_4 Q_4 X_4 sv hgd HR hn1 h
 dsimp only[Act.put]
 go_loopw [] (fun wr=>RJ I f R d gA w (fun g a k=>Hid (r=termL I.M (lmOf I) g d a k)) (fun y j=>Hid (r=.bad y j)) wr) (fun wr=>msr I.n R wr)
 case atStart=>exact hJ
 case round=>
  obtain⟨hB,hU,vs,sv,hA,hst⟩:=hrel
  obtain⟨a0,a1,a2,a3,a4,a5,a6,rfl⟩:=aQ sv.len
  have lB:=hB.lt
  have lA:=hA.lt
  rcases hst with⟨g,k,a,HR,hg,hd,hxa⟩|⟨y,j,k,d',HR,hy,hd⟩
  ·obtain⟨g,rfl⟩:∃ g',g=g'+1:=by
    cases g with
    |zero=>exact absurd (by rw[show r=_ from HR,termL]) hne
    |succ g=>exact⟨g,rfl⟩
   have hkn:=hd.kn
   have hxr:=hxa.imp (A':=fun b=>w.heap.size<b∧b≠gA∧b<wr.heap.size) fun b hb hl=>⟨hb.1,hb.2,hl⟩
   have hr3:=show r=_ from HR
   rw[termL] at hr3
   have HR:Hid (r=_):=hr3
   clear hr3 hxa
   cases t1:tk I.M [42] k with
   |true=>
    have hk1:=hE.tk I.M t1 (by decide) hkn
    have hw:=w64k k (by have:=hd.small;omega)
    have t2:tk I.M [47] k=false:=by unfold tk at t1 ⊢;rw[eq_of_beq t1];rfl
    have ht:((bs (I.M k).text).toList==[47])=false:=by rw[aG];exact t2
    have HR:Hid (r=(unitP I.M (lmOf I) g d (k+1)).bind fun b k1=>termL I.M (lmOf I) g d (two 10 a b (I.M k)) k1):=by
     show r=_
     rw[show r=_ from HR,if_pos t1]
    have hn2:=bM HR hne
    go_wp2_with fail
    refine (t1 ▸ aA I [42] hW1 wr R k 0 d hd:Calls Tryz.prog 90 #[.pointer (some ⟨R,0,none⟩),.string (bs [42])] wr fun e w'=>e=.returned (.bool true)∧Below wr.heap.size wr w').mono ?_
    rintro e w3 ⟨rfl,hbw3⟩
    have B_1:=hB.up hbw3
    have U_1:=hU.then hbw3
    have A_1:=hA.up hbw3
    have Q_1:=hd.up hbw3
    have X_1:=hxr.up hbw3
    have lB_1:=B_1.lt
    have lA_1:=A_1.lt
    have s_1:=hbw3.size
    go_wp2_with fail
    go_wp2_with fail
    refine (aB I w3 R k 0 0 d Q_1).mono ?_
    rintro e w4 ⟨rfl,hbw4⟩
    unfold mkV
    have B_2:=B_1.up hbw4
    have U_2:=U_1.then hbw4
    have A_2:=A_1.up hbw4
    have Q_2:=Q_1.up hbw4
    have X_2:=X_1.up hbw4
    have lB_2:=B_2.lt
    have lA_2:=A_2.lt
    have s_2:=hbw4.size
    have B_3:=B_2.up (ae w4 (.cells mz 135))
    have U_3:=U_2.then (ae w4 (.cells mz 135))
    have A_3:=A_2.up (ae w4 (.cells mz 135))
    have Q_3:=Q_2.up (ae w4 (.cells mz 135))
    have X_3:=X_2.up (ae w4 (.cells mz 135))
    have M_3:=Bk.new w4 135 mz
    go_wp2_with (first
     |(refine ah rfl 135 (.tmp 4) (.tmp 16) rfl w4.heap.size 0 (mkC (I.M k)) rfl rfl M_3 (Nat.le_refl 4) Tryz.infoM (aF _) ?_;intro w5 M_4 ho3;have B_4:=B_3.oth ho3 (by omega);have U_4:=ho3.but U_3 (by omega);have A_4:=A_3.oth ho3 (by omega);have Q_4:=Q_3.oth ho3 (by omega) (by omega);have X_4:=X_3.oth2 ho3 (fun b hb=>by omega);have lB_4:=B_4.lt;have lA_4:=A_4.lt;have lM_4:=M_4.lt;obtain⟨-,c1,-⟩:=Q_4.nine;have z1:=Q_4.blk.frz 1))
    have hdn:=Q_4.go (k+1) hk1
    have hVn:=(But.refl R w5).setR (j:=1) (.int .i64 ((k+1:Nat):Int))
    have B_5:=B_4.but hVn (by omega)
    have U_5:=U_4.trans hVn
    have A_5:=A_4.but hVn (by omega)
    have X_5:=X_4.but2 hVn (fun b hb=>by omega)
    have M_5:=M_4.but hVn (by omega)
    have lB_5:=B_5.lt
    have lA_5:=A_5.lt
    have lM_5:=M_5.lt
    have s_5:=hVn.size
    refine ((ihs g (by omega)).unit (.ok () (k+1)) _ R d hdn hn2).mono ?_
    rintro e w6 ⟨us,rfl,sv2,hex2,hs2,hVw6⟩
    rw[az] at hex2 hs2
    obtain⟨b0,b1,b2,b3,b4,b5,b6,rfl⟩:=aQ sv2.len
    clear c1 z1
    have B_6:=B_5.but hVw6 (by omega)
    have U_6:=U_5.trans hVw6
    have A_6:=A_5.but hVw6 (by omega)
    have X_6:=X_5.but2 hVw6 (fun b hb=>by omega)
    have M_6:=M_5.but hVw6 (by omega)
    have lB_6:=B_6.lt
    have lA_6:=A_6.lt
    have lM_6:=M_6.lt
    have s_6:=hVw6.size
    have hxb:=fun x j e=>(hex2 x j e).imp (A':=fun b=>w.heap.size<b∧b≠gA∧b<w6.heap.size) fun b hb hl=>by simp at hb;omega
    clear hex2
    have B_7:=B_6.up (ae w6 (.cells ez 58))
    have U_7:=U_6.then (ae w6 (.cells ez 58))
    have A_7:=A_6.up (ae w6 (.cells ez 58))
    have X_7:=X_6.up (ae w6 (.cells ez 58))
    have M_7:=M_6.up (ae w6 (.cells ez 58))
    have Q_7:=hs2.up (ae w6 (.cells ez 58))
    have Y_7:=fun x j e=>(hxb x j e).up (ae w6 (.cells ez 58))
    have C_7:=Bk.new w6 58 ez
    go_wp2_with (first
     |(refine ah rfl 58 (.tmp 5) (.tmp 25) rfl w6.heap.size 0 [b0,b1,b2,b3,b4,b5,b6] rfl rfl C_7 (Nat.le_refl 7) Tryz.infoE sv2.one ?_;intro w7 C_8 ho7;have B_8:=B_7.oth ho7 (by omega);have U_8:=ho7.but U_7 (by omega);have A_8:=A_7.oth ho7 (by omega);have X_8:=X_7.oth2 ho7 (fun b hb=>by omega);have M_8:=M_7.oth ho7 (by omega);have Q_8:=Q_7.oth ho7 (by omega) (by omega);have Y_8:=fun x j e=>(Y_7 x j e).oth2 ho7 (fun b hb=>by omega);have lB_8:=B_8.lt;have lA_8:=A_8.lt;have lM_8:=M_8.lt;have lC_8:=C_8.lt;obtain⟨-,mt,-⟩:=Bk.four (show Bk w7 w4.heap.size _ [_,_,_,_] from M_8))
     |refine ai rfl 58 (.tmp 3) rfl gA 0 rfl [a0,a1,a2,a3,a4,a5,a6] _ (A_8.range 0 7) Tryz.underE Tryz.infoE ?_
     |refine ai rfl 58 (.tmp 5) rfl w6.heap.size 0 rfl [b0,b1,b2,b3,b4,b5,b6] _ (C_8.range 0 7) Tryz.underE Tryz.infoE ?_
     |refine ai rfl 135 (.tmp 4) rfl w4.heap.size 0 rfl (mkC (I.M k)) _ (M_8.range 0 4) Tryz.underM Tryz.infoM ?_)
    refine (dK 10 (I.M k) [a0,a1,a2,a3,a4,a5,a6] [b0,b1,b2,b3,b4,b5,b6] sv sv2 w7).mono ?_
    rintro e w8 ⟨V,rfl,sv3,hb8,htw⟩
    obtain⟨c0,c1,c2,c3,c4,c5,c6,rfl⟩:=aQ sv3.len
    have hz:=fun x j e=>htw (fun c=>w.heap.size<c∧c≠gA) a x (fun c hc=>by omega) (X_8.imp fun b hb _=>by omega) ((Y_8 x j e).imp fun b hb _=>by omega)
    clear htw mt
    have B_9:=B_8.up hb8
    have U_9:=U_8.then hb8
    have A_9:=A_8.up hb8
    have Q_9:=Q_8.up hb8
    have lB_9:=B_9.lt
    have lA_9:=A_9.lt
    have s_9:=hb8.size
    go_wp2_with (first
     |(refine ah rfl 58 (.tmp 3) (.tmp 33) rfl gA 0 [c0,c1,c2,c3,c4,c5,c6] rfl rfl A_9 (Nat.le_refl 7) Tryz.infoE sv3.one ?_;intro w9 A_10 ho9;have B_10:=B_9.oth ho9 (by omega);have U_10:=ho9.but U_9 (by omega);have Q_10:=Q_9.oth ho9 (by omega) (by omega);have Z_10:=fun x j e=>(hz x j e).oth2 ho9 (fun b hb=>by omega);have lB_10:=B_10.lt;have lA_10:=A_10.lt))
    have hAz:Bk w9 gA 58 [c0,c1,c2,c3,c4,c5,c6]:=A_10
    dsimp only[Act.put]
    cases hq2:unitP I.M (lmOf I) g d (k+1) with
    |out=>exact absurd hq2 hn2
    |bad y j=>
     have HE:=bK HR hq2
     have hdz:=Q_10
     rw[hq2] at hdz
     obtain⟨hy,kz,dz,hdz⟩:=hdz
     have ms1:=aT hd
     have ms2:=bL hy hdz
     go_roundw
     case rel=>exact⟨B_10,U_10,[c0,c1,c2,c3,c4,c5,c6],sv3,hAz,.inr ⟨y,j,kz,dz,HE,hy,hdz⟩⟩
     case measure=>exact bv ms1 ms2 hkn
    |ok b k2=>
     have HE:=bind_ok HR hq2
     have hdz:=Q_10
     rw[hq2] at hdz
     have hdz:Rq I w9 R k2 0 0 d:=hdz
     have hge:k+1≤k2:=by have:=(nA I.M (lmOf I) g).unitP d (k+1);rw[hq2] at this;exact this
     have ms1:=aT hd
     have ms2:=aT hdz
     go_roundw
     case rel=>exact⟨B_10,U_10,[c0,c1,c2,c3,c4,c5,c6],sv3,hAz,.inl ⟨g,k2,two 10 a b (I.M k),HE,by omega,hdz,Z_10 b k2 hq2⟩⟩
     case measure=>exact bu ms1 ms2 hkn hge
   |false=>
    have HR:Hid (r=if tk I.M [47] k then (unitP I.M (lmOf I) g d (k+1)).bind fun b k1=>termL I.M (lmOf I) g d (two 11 a b (I.M k)) k1 else .ok a k):=by
     show r=_
     rw[show r=_ from HR,if_neg (by rw[t1];simp)]
    cases t2:tk I.M [47] k with
    |true=>
     have hk1:=hE.tk I.M t2 (by decide) hkn
     have hw:=w64k k (by have:=hd.small;omega)
     have ht:((bs (I.M k).text).toList==[47])=true:=by rw[aG];exact t2
     have HR:Hid (r=(unitP I.M (lmOf I) g d (k+1)).bind fun b k1=>termL I.M (lmOf I) g d (two 11 a b (I.M k)) k1):=by
      show r=_
      rw[show r=_ from HR,if_pos t2]
     have hn2:=bM HR hne
     go_wp2_with fail
     refine (t1 ▸ aA I [42] hW1 wr R k 0 d hd:Calls Tryz.prog 90 #[.pointer (some ⟨R,0,none⟩),.string (bs [42])] wr fun e w'=>e=.returned (.bool false)∧Below wr.heap.size wr w').mono ?_
     rintro e w3 ⟨rfl,hbw3⟩
     have B_1:=hB.up hbw3
     have U_1:=hU.then hbw3
     have A_1:=hA.up hbw3
     have Q_1:=hd.up hbw3
     have X_1:=hxr.up hbw3
     have lB_1:=B_1.lt
     have lA_1:=A_1.lt
     have s_1:=hbw3.size
     go_wp2_with fail
     refine (t2 ▸ aA I [47] hW2 w3 R k 0 d Q_1:Calls Tryz.prog 90 #[.pointer (some ⟨R,0,none⟩),.string (bs [47])] w3 fun e w'=>e=.returned (.bool true)∧Below w3.heap.size w3 w').mono ?_
     rintro e w4 ⟨rfl,hbw4⟩
     have B_2:=B_1.up hbw4
     have U_2:=U_1.then hbw4
     have A_2:=A_1.up hbw4
     have Q_2:=Q_1.up hbw4
     have X_2:=X_1.up hbw4
     have lB_2:=B_2.lt
     have lA_2:=A_2.lt
     have s_2:=hbw4.size
     go_wp2_with fail
     go_wp2_with fail
     refine (aB I w4 R k 0 0 d Q_2).mono ?_
     rintro e w5 ⟨rfl,hbw5⟩
     unfold mkV
     have B_3:=B_2.up hbw5
     have U_3:=U_2.then hbw5
     have A_3:=A_2.up hbw5
     have Q_3:=Q_2.up hbw5
     have X_3:=X_2.up hbw5
     have lB_3:=B_3.lt
     have lA_3:=A_3.lt
     have s_3:=hbw5.size
     have B_4:=B_3.up (ae w5 (.cells mz 135))
     have U_4:=U_3.then (ae w5 (.cells mz 135))
     have A_4:=A_3.up (ae w5 (.cells mz 135))
     have Q_4:=Q_3.up (ae w5 (.cells mz 135))
     have X_4:=X_3.up (ae w5 (.cells mz 135))
     have M_4:=Bk.new w5 135 mz
     go_wp2_with (first
      |(refine ah rfl 135 (.tmp 4) (.tmp 16) rfl w5.heap.size 0 (mkC (I.M k)) rfl rfl M_4 (Nat.le_refl 4) Tryz.infoM (aF _) ?_;intro w6 M_5 ho4;have B_5:=B_4.oth ho4 (by omega);have U_5:=ho4.but U_4 (by omega);have A_5:=A_4.oth ho4 (by omega);have Q_5:=Q_4.oth ho4 (by omega) (by omega);have X_5:=X_4.oth2 ho4 (fun b hb=>by omega);have lB_5:=B_5.lt;have lA_5:=A_5.lt;have lM_5:=M_5.lt;obtain⟨-,c1,-⟩:=Q_5.nine;have z1:=Q_5.blk.frz 1))
     have hdn:=Q_5.go (k+1) hk1
     have hVn:=(But.refl R w6).setR (j:=1) (.int .i64 ((k+1:Nat):Int))
     have B_6:=B_5.but hVn (by omega)
     have U_6:=U_5.trans hVn
     have A_6:=A_5.but hVn (by omega)
     have X_6:=X_5.but2 hVn (fun b hb=>by omega)
     have M_6:=M_5.but hVn (by omega)
     have lB_6:=B_6.lt
     have lA_6:=A_6.lt
     have lM_6:=M_6.lt
     have s_6:=hVn.size
     refine ((ihs g (by omega)).unit (.ok () (k+1)) _ R d hdn hn2).mono ?_
     rintro e w7 ⟨us,rfl,sv2,hex2,hs2,hVw7⟩
     rw[az] at hex2 hs2
     obtain⟨b0,b1,b2,b3,b4,b5,b6,rfl⟩:=aQ sv2.len
     clear c1 z1
     have B_7:=B_6.but hVw7 (by omega)
     have U_7:=U_6.trans hVw7
     have A_7:=A_6.but hVw7 (by omega)
     have X_7:=X_6.but2 hVw7 (fun b hb=>by omega)
     have M_7:=M_6.but hVw7 (by omega)
     have lB_7:=B_7.lt
     have lA_7:=A_7.lt
     have lM_7:=M_7.lt
     have s_7:=hVw7.size
     have hxb:=fun x j e=>(hex2 x j e).imp (A':=fun b=>w.heap.size<b∧b≠gA∧b<w7.heap.size) fun b hb hl=>by simp at hb;omega
     clear hex2
     have B_8:=B_7.up (ae w7 (.cells ez 58))
     have U_8:=U_7.then (ae w7 (.cells ez 58))
     have A_8:=A_7.up (ae w7 (.cells ez 58))
     have X_8:=X_7.up (ae w7 (.cells ez 58))
     have M_8:=M_7.up (ae w7 (.cells ez 58))
     have Q_8:=hs2.up (ae w7 (.cells ez 58))
     have Y_8:=fun x j e=>(hxb x j e).up (ae w7 (.cells ez 58))
     have C_8:=Bk.new w7 58 ez
     go_wp2_with (first
      |(refine ah rfl 58 (.tmp 5) (.tmp 25) rfl w7.heap.size 0 [b0,b1,b2,b3,b4,b5,b6] rfl rfl C_8 (Nat.le_refl 7) Tryz.infoE sv2.one ?_;intro w8 C_9 ho8;have B_9:=B_8.oth ho8 (by omega);have U_9:=ho8.but U_8 (by omega);have A_9:=A_8.oth ho8 (by omega);have X_9:=X_8.oth2 ho8 (fun b hb=>by omega);have M_9:=M_8.oth ho8 (by omega);have Q_9:=Q_8.oth ho8 (by omega) (by omega);have Y_9:=fun x j e=>(Y_8 x j e).oth2 ho8 (fun b hb=>by omega);have lB_9:=B_9.lt;have lA_9:=A_9.lt;have lM_9:=M_9.lt;have lC_9:=C_9.lt;obtain⟨-,mt,-⟩:=Bk.four (show Bk w8 w5.heap.size _ [_,_,_,_] from M_9))
      |refine ai rfl 58 (.tmp 3) rfl gA 0 rfl [a0,a1,a2,a3,a4,a5,a6] _ (A_9.range 0 7) Tryz.underE Tryz.infoE ?_
      |refine ai rfl 58 (.tmp 5) rfl w7.heap.size 0 rfl [b0,b1,b2,b3,b4,b5,b6] _ (C_9.range 0 7) Tryz.underE Tryz.infoE ?_
      |refine ai rfl 135 (.tmp 4) rfl w5.heap.size 0 rfl (mkC (I.M k)) _ (M_9.range 0 4) Tryz.underM Tryz.infoM ?_)
     refine (dK 11 (I.M k) [a0,a1,a2,a3,a4,a5,a6] [b0,b1,b2,b3,b4,b5,b6] sv sv2 w8).mono ?_
     rintro e w9 ⟨V,rfl,sv3,hb8,htw⟩
     obtain⟨c0,c1,c2,c3,c4,c5,c6,rfl⟩:=aQ sv3.len
     have hz:=fun x j e=>htw (fun c=>w.heap.size<c∧c≠gA) a x (fun c hc=>by omega) (X_9.imp fun b hb _=>by omega) ((Y_9 x j e).imp fun b hb _=>by omega)
     clear htw mt
     have B_10:=B_9.up hb8
     have U_10:=U_9.then hb8
     have A_10:=A_9.up hb8
     have Q_10:=Q_9.up hb8
     have lB_10:=B_10.lt
     have lA_10:=A_10.lt
     have s_10:=hb8.size
     go_wp2_with (first
      |(refine ah rfl 58 (.tmp 3) (.tmp 33) rfl gA 0 [c0,c1,c2,c3,c4,c5,c6] rfl rfl A_10 (Nat.le_refl 7) Tryz.infoE sv3.one ?_;intro w10 A_11 ho10;have B_11:=B_10.oth ho10 (by omega);have U_11:=ho10.but U_10 (by omega);have Q_11:=Q_10.oth ho10 (by omega) (by omega);have Z_11:=fun x j e=>(hz x j e).oth2 ho10 (fun b hb=>by omega);have lB_11:=B_11.lt;have lA_11:=A_11.lt))
     have hAz:Bk w10 gA 58 [c0,c1,c2,c3,c4,c5,c6]:=A_11
     dsimp only[Act.put]
     cases hq2:unitP I.M (lmOf I) g d (k+1) with
     |out=>exact absurd hq2 hn2
     |bad y j=>
      have HE:=bK HR hq2
      have hdz:=Q_11
      rw[hq2] at hdz
      obtain⟨hy,kz,dz,hdz⟩:=hdz
      have ms1:=aT hd
      have ms2:=bL hy hdz
      go_roundw
      case rel=>exact⟨B_11,U_11,[c0,c1,c2,c3,c4,c5,c6],sv3,hAz,.inr ⟨y,j,kz,dz,HE,hy,hdz⟩⟩
      case measure=>exact bv ms1 ms2 hkn
     |ok b k2=>
      have HE:=bind_ok HR hq2
      have hdz:=Q_11
      rw[hq2] at hdz
      have hdz:Rq I w10 R k2 0 0 d:=hdz
      have hge:k+1≤k2:=by have:=(nA I.M (lmOf I) g).unitP d (k+1);rw[hq2] at this;exact this
      have ms1:=aT hd
      have ms2:=aT hdz
      go_roundw
      case rel=>exact⟨B_11,U_11,[c0,c1,c2,c3,c4,c5,c6],sv3,hAz,.inl ⟨g,k2,two 11 a b (I.M k),HE,by omega,hdz,Z_11 b k2 hq2⟩⟩
      case measure=>exact bu ms1 ms2 hkn hge
    |false=>
     have HE:r=.ok a k:=by rw[show r=_ from HR,if_neg (by rw[t2];simp)]
     clear HR
     go_wp2_with fail
     refine (t1 ▸ aA I [42] hW1 wr R k 0 d hd:Calls Tryz.prog 90 #[.pointer (some ⟨R,0,none⟩),.string (bs [42])] wr fun e w'=>e=.returned (.bool false)∧Below wr.heap.size wr w').mono ?_
     rintro e w3 ⟨rfl,hbw3⟩
     have B_1:=hB.up hbw3
     have U_1:=hU.then hbw3
     have A_1:=hA.up hbw3
     have Q_1:=hd.up hbw3
     have X_1:=hxr.up hbw3
     have lB_1:=B_1.lt
     have lA_1:=A_1.lt
     have s_1:=hbw3.size
     go_wp2_with fail
     refine (t2 ▸ aA I [47] hW2 w3 R k 0 d Q_1:Calls Tryz.prog 90 #[.pointer (some ⟨R,0,none⟩),.string (bs [47])] w3 fun e w'=>e=.returned (.bool false)∧Below w3.heap.size w3 w').mono ?_
     rintro e w4 ⟨rfl,hbw4⟩
     have B_2:=B_1.up hbw4
     have U_2:=U_1.then hbw4
     have A_2:=A_1.up hbw4
     have Q_2:=Q_1.up hbw4
     have X_2:=X_1.up hbw4
     have lB_2:=B_2.lt
     have lA_2:=A_2.lt
     have s_2:=hbw4.size
     subst HE
     go_wp2_with (first
      |refine ai rfl 58 (.tmp 3) rfl gA 0 rfl [a0,a1,a2,a3,a4,a5,a6] _ (A_2.range 0 7) Tryz.underE Tryz.infoE ?_
      |(refine ah rfl 58 (.tmp 2) (.tmp 34) rfl w.heap.size 0 [a0,a1,a2,a3,a4,a5,a6] rfl rfl B_2 (Nat.le_refl 7) Tryz.infoE sv.one ?_;intro wz B_3 ho2;have U_3:=ho2.but U_2 (by omega);have A_3:=A_2.oth ho2 (by omega);have Q_3:=Q_2.oth ho2 (by omega) (by omega);have X_3:=X_2.oth2 ho2 (fun b hb=>by omega);have lA_3:=A_3.lt;have lB_3:=B_3.lt;obtain⟨q0,q1,q2,q3,q4,q5,q6⟩:=Bk.seven (show Bk wz w.heap.size _ [_,_,_,_,_,_,_] from B_3)))
     refine bodyPost_ret (v:=.agg #[a0,a1,a2,a3,a4,a5,a6]) (by simp[results,Tryz.results132,go_sem,q0,q1,q2,q3,q4,q5,q6]) rfl ⟨_,rfl,sv,(fun _ _ e=>by cases e;exact X_3.imp fun b hb _=>by omega),Q_3,U_3⟩
  ·have HE:=show r=_ from HR
   clear HR
   go_wp2_with fail
   refine (aN I [42] wr R k y _ d' hy hd).mono ?_
   rintro e w3 ⟨rfl,hbw3⟩
   have B_1:=hB.up hbw3
   have U_1:=hU.then hbw3
   have A_1:=hA.up hbw3
   have Q_1:=hd.up hbw3
   have lB_1:=B_1.lt
   have lA_1:=A_1.lt
   have s_1:=hbw3.size
   go_wp2_with fail
   refine (aN I [47] w3 R k y _ d' hy Q_1).mono ?_
   rintro e w4 ⟨rfl,hbw4⟩
   have B_2:=B_1.up hbw4
   have U_2:=U_1.then hbw4
   have A_2:=A_1.up hbw4
   have Q_2:=Q_1.up hbw4
   have lB_2:=B_2.lt
   have lA_2:=A_2.lt
   have s_2:=hbw4.size
   subst HE
   go_wp2_with (first
    |refine ai rfl 58 (.tmp 3) rfl gA 0 rfl [a0,a1,a2,a3,a4,a5,a6] _ (A_2.range 0 7) Tryz.underE Tryz.infoE ?_
    |(refine ah rfl 58 (.tmp 2) (.tmp 34) rfl w.heap.size 0 [a0,a1,a2,a3,a4,a5,a6] rfl rfl B_2 (Nat.le_refl 7) Tryz.infoE sv.one ?_;intro wz B_3 ho2;have U_3:=ho2.but U_2 (by omega);have A_3:=A_2.oth ho2 (by omega);have Q_3:=Q_2.oth ho2 (by omega) (by omega);have lA_3:=A_3.lt;have lB_3:=B_3.lt;obtain⟨q0,q1,q2,q3,q4,q5,q6⟩:=Bk.seven (show Bk wz w.heap.size _ [_,_,_,_,_,_,_] from B_3)))
   refine bodyPost_ret (v:=.agg #[a0,a1,a2,a3,a4,a5,a6]) (by simp[results,Tryz.results132,go_sem,q0,q1,q2,q3,q4,q5,q6]) rfl ⟨_,rfl,sv,(fun _ _ e=>by cases e),⟨hy,k,d',Q_3⟩,U_3⟩
end Go.Proofs.YtimoappbefindaaGreat
