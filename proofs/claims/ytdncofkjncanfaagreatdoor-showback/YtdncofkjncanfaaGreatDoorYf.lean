/-
  The walks of the document's cons and comp.
-/
import Derived.Test.YtdncofkjncanfaaGreatDoorUR
import Derived.Test.YtdncofkjncanfaaGreatDoorNi
namespace Go.Proofs.YtdncofkjncanfaaGreatDoor
open Go.RowKit
set_option maxRecDepth 100000
set_option maxHeartbeats 4000000 in
theorem rcons_step (I:Rdi) (hE:Ends I.M I.n) (hW:∀ s∈lks,Wm I.M s) (f:Nat) (ihs:∀ g,g≤f→AllR I g) {α:Type} (q:Rs α) (w:World) (R d:Nat) (h:St I w R d q) (hne:nx q (consP I.M (lmOf I) (f+1) d)≠.out) :
  Calls Tryz.prog 85 #[.pointer (some ⟨R,0,none⟩)] w (RA I R d w (nx q (consP I.M (lmOf I) (f+1) d))):=by
 obtain⟨r,hr⟩:∃ r,r=nx q (consP I.M (lmOf I) (f+1) d):=⟨_,rfl⟩
 rw[← hr] at hne ⊢
 have hr2:r=(nx q (compP I.M (lmOf I) f d)).bind fun a k1=>if tk I.M [58] k1 then (consP I.M (lmOf I) f d (k1+1)).bind fun b k2=>.ok (two 18 a b (I.M k1)) k2 else .ok a k1:=by
  rw[hr,← nx_assoc]
  congr 1
  funext k
  rw[consP]
 clear hr
 have HR:Hid (r=_):=hr2
 clear hr2
 have hn1:=bind_ne HR hne
 have hlt:=h.lt
 have hcx:=store_cx
 have S_1:=h.up (below_alloc w (.cells ez 41))
 have U_1:=(But.refl R w).then (below_alloc w (.cells ez 41))
 have B_1:=Bk.new w 41 ez
 have c1:=(ihs f (Nat.le_refl _)).comp q _ R d S_1 hn1
 cases hq1:nx q (compP I.M (lmOf I) f d) with
 |out=>exact absurd hq1 hn1
 |bad y j=>
  have HR:=bind_bad HR hq1
  rw[hq1] at c1
  clear hq1
  go_enter Tryz.func85,Tryz.ntmps85
  go_wp2_with fail
  refine c1.mono ?_
  rintro e w1 ⟨vs,rfl,sv,hex,hs,hV⟩
  obtain⟨a0,a1,a2,a3,a4,a5,a6,rfl⟩:=list7 sv.len
  obtain⟨hy,k,d',hd⟩:=hs
  have U_2:=U_1.trans hV
  have B_2:=B_1.but hV (by omega)
  have lB_2:=B_2.lt
  clear hex c1
  have U_3:=U_2.then (below_alloc w1 (.cells ez 41))
  have B_3:=B_2.up (below_alloc w1 (.cells ez 41))
  have Q_3:=hd.up (below_alloc w1 (.cells ez 41))
  have A_3:=Bk.new w1 41 ez
  go_wp2_with (first
   |(refine wpList_storeN rfl 41 (.tmp 3) (.tmp 7) rfl w1.heap.size 0 [a0,a1,a2,a3,a4,a5,a6] rfl rfl A_3 (Nat.le_refl 7) Tryz.infoE sv.one ?_;intro w2 A_4 ho3;have U_4:=ho3.but U_3 (by omega);have B_4:=B_3.oth ho3 (by omega);have Q_4:=Q_3.oth ho3 (by omega) (by omega);have lB_4:=B_4.lt;have lA_4:=A_4.lt))
  refine (rnext_any I w2 R k y _ d' Q_4).mono ?_
  rintro e w3 ⟨rfl,hb3⟩
  unfold mkV
  have U_5:=U_4.then hb3
  have B_5:=B_4.up hb3
  have Q_5:=Q_4.up hb3
  have A_5:=A_4.up hb3
  have lB_5:=B_5.lt
  have lA_5:=A_5.lt
  have U_6:=U_5.then (below_alloc w3 (.cells mz 85))
  have B_6:=B_5.up (below_alloc w3 (.cells mz 85))
  have Q_6:=Q_5.up (below_alloc w3 (.cells mz 85))
  have A_6:=A_5.up (below_alloc w3 (.cells mz 85))
  have M_6:=Bk.new w3 85 mz
  go_wp2_with (first
   |(refine wpList_storeN rfl 85 (.tmp 4) (.tmp 9) rfl w3.heap.size 0 (mkC (I.M k)) rfl rfl M_6 (Nat.le_refl 4) Tryz.infoM (mkC_one _) ?_;intro w4 M_7 ho6;have U_7:=ho6.but U_6 (by omega);have B_7:=B_6.oth ho6 (by omega);have Q_7:=Q_6.oth ho6 (by omega) (by omega);have A_7:=A_6.oth ho6 (by omega);have lB_7:=B_7.lt;have lA_7:=A_7.lt;have lM_7:=M_7.lt))
  refine (rtake_no I [58] w4 R (ris_dead I [58] w4 R k y _ d' hy Q_7)).mono ?_
  rintro e w5 ⟨rfl,hbw5⟩
  have U_8:=U_7.then hbw5
  have B_8:=B_7.up hbw5
  have Q_8:=Q_7.up hbw5
  have A_8:=A_7.up hbw5
  have M_8:=M_7.up hbw5
  have lB_8:=B_8.lt
  have lA_8:=A_8.lt
  have lM_8:=M_8.lt
  go_wp2_with (first
   |refine wpList_loadN rfl 41 (.tmp 3) rfl w1.heap.size 0 rfl [a0,a1,a2,a3,a4,a5,a6] _ (A_8.range 0 7) Tryz.underE Tryz.infoE ?_
   |(refine wpList_storeN rfl 41 (.tmp 2) (.tmp 13) rfl w.heap.size 0 [a0,a1,a2,a3,a4,a5,a6] rfl rfl B_8 (Nat.le_refl 7) Tryz.infoE sv.one ?_;intro wz B_9 ho8;have U_9:=ho8.but U_8 (by omega);have Q_9:=Q_8.oth ho8 (by omega) (by omega);have A_9:=A_8.oth ho8 (by omega);have M_9:=M_8.oth ho8 (by omega);have lA_9:=A_9.lt;have lM_9:=M_9.lt;have lB_9:=B_9.lt;obtain⟨q0,q1,q2,q3,q4,q5,q6⟩:=Bk.seven (show Bk wz w.heap.size _ [_,_,_,_,_,_,_] from B_9)))
  have HE:=show r=_ from HR
  clear HR
  subst HE
  refine bodyPost_ret (v:=.agg #[a0,a1,a2,a3,a4,a5,a6]) (by simp[results,Tryz.results85,go_sem,q0,q1,q2,q3,q4,q5,q6]) rfl ⟨_,rfl,sv,(fun _ _ e=>by cases e),⟨hy,k,d',Q_9⟩,U_9⟩
 |ok a k1=>
  have HR:=bind_ok HR hq1
  rw[hq1] at c1
  clear hq1
  go_enter Tryz.func85,Tryz.ntmps85
  go_wp2_with fail
  refine c1.mono ?_
  rintro e w1 ⟨vs,rfl,sv,hex,hs,hV⟩
  obtain⟨a0,a1,a2,a3,a4,a5,a6,rfl⟩:=list7 sv.len
  have hd:Rq I w1 R k1 0 0 d:=hs
  have hxa:ExW w1 (fun b=>w.heap.size<b∧b<w1.heap.size) a _:=(hex a k1 rfl).imp fun b hb hl=>by simp at hb;omega
  have U_2:=U_1.trans hV
  have B_2:=B_1.but hV (by omega)
  have lB_2:=B_2.lt
  clear hex hs c1
  have U_3:=U_2.then (below_alloc w1 (.cells ez 41))
  have B_3:=B_2.up (below_alloc w1 (.cells ez 41))
  have Q_3:=hd.up (below_alloc w1 (.cells ez 41))
  have X_3:=hxa.up (below_alloc w1 (.cells ez 41))
  have A_3:=Bk.new w1 41 ez
  have hW58:=hW [58] (by simp[lks])
  cases t1:tk I.M [58] k1 with
  |false=>
   have HE:r=.ok a k1:=by rw[show r=_ from HR,if_neg (by rw[t1];simp)]
   clear HR
   go_wp2_with (first
    |(refine wpList_storeN rfl 41 (.tmp 3) (.tmp 7) rfl w1.heap.size 0 [a0,a1,a2,a3,a4,a5,a6] rfl rfl A_3 (Nat.le_refl 7) Tryz.infoE sv.one ?_;intro w2 A_4 ho3;have U_4:=ho3.but U_3 (by omega);have B_4:=B_3.oth ho3 (by omega);have Q_4:=Q_3.oth ho3 (by omega) (by omega);have X_4:=X_3.oth2 ho3 (fun b hb=>by omega);have lB_4:=B_4.lt;have lA_4:=A_4.lt))
   refine (rnext_any I w2 R k1 0 0 d Q_4).mono ?_
   rintro e w3 ⟨rfl,hb3⟩
   unfold mkV
   have U_5:=U_4.then hb3
   have B_5:=B_4.up hb3
   have Q_5:=Q_4.up hb3
   have X_5:=X_4.up hb3
   have A_5:=A_4.up hb3
   have lB_5:=B_5.lt
   have lA_5:=A_5.lt
   have U_6:=U_5.then (below_alloc w3 (.cells mz 85))
   have B_6:=B_5.up (below_alloc w3 (.cells mz 85))
   have Q_6:=Q_5.up (below_alloc w3 (.cells mz 85))
   have X_6:=X_5.up (below_alloc w3 (.cells mz 85))
   have A_6:=A_5.up (below_alloc w3 (.cells mz 85))
   have M_6:=Bk.new w3 85 mz
   go_wp2_with (first
    |(refine wpList_storeN rfl 85 (.tmp 4) (.tmp 9) rfl w3.heap.size 0 (mkC (I.M k1)) rfl rfl M_6 (Nat.le_refl 4) Tryz.infoM (mkC_one _) ?_;intro w4 M_7 ho6;have U_7:=ho6.but U_6 (by omega);have B_7:=B_6.oth ho6 (by omega);have Q_7:=Q_6.oth ho6 (by omega) (by omega);have X_7:=X_6.oth2 ho6 (fun b hb=>by omega);have A_7:=A_6.oth ho6 (by omega);have lB_7:=B_7.lt;have lA_7:=A_7.lt;have lM_7:=M_7.lt))
   refine (rtake_no I [58] w4 R (t1 ▸ ris_live I [58] hW58 w4 R k1 0 d Q_7)).mono ?_
   rintro e w5 ⟨rfl,hbw5⟩
   have U_8:=U_7.then hbw5
   have B_8:=B_7.up hbw5
   have Q_8:=Q_7.up hbw5
   have X_8:=X_7.up hbw5
   have A_8:=A_7.up hbw5
   have M_8:=M_7.up hbw5
   have lB_8:=B_8.lt
   have lA_8:=A_8.lt
   have lM_8:=M_8.lt
   go_wp2_with (first
    |refine wpList_loadN rfl 41 (.tmp 3) rfl w1.heap.size 0 rfl [a0,a1,a2,a3,a4,a5,a6] _ (A_8.range 0 7) Tryz.underE Tryz.infoE ?_
    |(refine wpList_storeN rfl 41 (.tmp 2) (.tmp 13) rfl w.heap.size 0 [a0,a1,a2,a3,a4,a5,a6] rfl rfl B_8 (Nat.le_refl 7) Tryz.infoE sv.one ?_;intro wz B_9 ho8;have U_9:=ho8.but U_8 (by omega);have Q_9:=Q_8.oth ho8 (by omega) (by omega);have X_9:=X_8.oth2 ho8 (fun b hb=>by omega);have A_9:=A_8.oth ho8 (by omega);have M_9:=M_8.oth ho8 (by omega);have lA_9:=A_9.lt;have lM_9:=M_9.lt;have lB_9:=B_9.lt;obtain⟨q0,q1,q2,q3,q4,q5,q6⟩:=Bk.seven (show Bk wz w.heap.size _ [_,_,_,_,_,_,_] from B_9)))
   subst HE
   refine bodyPost_ret (v:=.agg #[a0,a1,a2,a3,a4,a5,a6]) (by simp[results,Tryz.results85,go_sem,q0,q1,q2,q3,q4,q5,q6]) rfl ⟨_,rfl,sv,(fun _ _ e=>by cases e;exact X_9.imp fun b hb _=>by omega),Q_9,U_9⟩
  |true=>
   have hk1:=hE.tk I.M t1 (by decide) hd.kn
   have HR:Hid (r=(consP I.M (lmOf I) f d (k1+1)).bind fun b k2=>.ok (two 18 a b (I.M k1)) k2):=by
    show r=_
    rw[show r=_ from HR,if_pos t1]
   have hn2:=bind_ne HR hne
   go_wp2_with (first
    |(refine wpList_storeN rfl 41 (.tmp 3) (.tmp 7) rfl w1.heap.size 0 [a0,a1,a2,a3,a4,a5,a6] rfl rfl A_3 (Nat.le_refl 7) Tryz.infoE sv.one ?_;intro w2 A_4 ho3;have U_4:=ho3.but U_3 (by omega);have B_4:=B_3.oth ho3 (by omega);have Q_4:=Q_3.oth ho3 (by omega) (by omega);have X_4:=X_3.oth2 ho3 (fun b hb=>by omega);have lB_4:=B_4.lt;have lA_4:=A_4.lt))
   refine (rnext_any I w2 R k1 0 0 d Q_4).mono ?_
   rintro e w3 ⟨rfl,hb3⟩
   unfold mkV
   have U_5:=U_4.then hb3
   have B_5:=B_4.up hb3
   have Q_5:=Q_4.up hb3
   have X_5:=X_4.up hb3
   have A_5:=A_4.up hb3
   have lB_5:=B_5.lt
   have lA_5:=A_5.lt
   have U_6:=U_5.then (below_alloc w3 (.cells mz 85))
   have B_6:=B_5.up (below_alloc w3 (.cells mz 85))
   have Q_6:=Q_5.up (below_alloc w3 (.cells mz 85))
   have X_6:=X_5.up (below_alloc w3 (.cells mz 85))
   have A_6:=A_5.up (below_alloc w3 (.cells mz 85))
   have M_6:=Bk.new w3 85 mz
   go_wp2_with (first
    |(refine wpList_storeN rfl 85 (.tmp 4) (.tmp 9) rfl w3.heap.size 0 (mkC (I.M k1)) rfl rfl M_6 (Nat.le_refl 4) Tryz.infoM (mkC_one _) ?_;intro w4 M_7 ho6;have U_7:=ho6.but U_6 (by omega);have B_7:=B_6.oth ho6 (by omega);have Q_7:=Q_6.oth ho6 (by omega) (by omega);have X_7:=X_6.oth2 ho6 (fun b hb=>by omega);have A_7:=A_6.oth ho6 (by omega);have lB_7:=B_7.lt;have lA_7:=A_7.lt;have lM_7:=M_7.lt))
   refine (rtake_yes I [58] hW58 w4 R k1 d Q_7 t1 hk1).mono ?_
   rintro e w5 ⟨rfl,hdw5,hVw5⟩
   have U_8:=U_7.trans hVw5
   have B_8:=B_7.but hVw5 (by omega)
   have X_8:=X_7.but2 hVw5 (fun b hb=>by omega)
   have A_8:=A_7.but hVw5 (by omega)
   have M_8:=M_7.but hVw5 (by omega)
   have lB_8:=B_8.lt
   have lA_8:=A_8.lt
   have lM_8:=M_8.lt
   go_wp2_with fail
   refine ((ihs f (Nat.le_refl _)).cons (.ok () (k1+1)) w5 R d hdw5 hn2).mono ?_
   rintro e w6 ⟨us,rfl,sv2,hex2,hs2,hV6⟩
   rw[nx_ok] at hex2 hs2
   obtain⟨b0,b1,b2,b3,b4,b5,b6,rfl⟩:=list7 sv2.len
   have U_9:=U_8.trans hV6
   have B_9:=B_8.but hV6 (by omega)
   have X_9:=X_8.but2 hV6 (fun b hb=>by omega)
   have A_9:=A_8.but hV6 (by omega)
   have M_9:=M_8.but hV6 (by omega)
   have lB_9:=B_9.lt
   have lA_9:=A_9.lt
   have lM_9:=M_9.lt
   have hxb:=fun x j e=>(hex2 x j e).imp (A':=fun b=>w.heap.size<b∧b<w6.heap.size) fun b hb hl=>by omega
   clear hex2
   have U_10:=U_9.then (below_alloc w6 (.cells ez 41))
   have B_10:=B_9.up (below_alloc w6 (.cells ez 41))
   have X_10:=X_9.up (below_alloc w6 (.cells ez 41))
   have A_10:=A_9.up (below_alloc w6 (.cells ez 41))
   have M_10:=M_9.up (below_alloc w6 (.cells ez 41))
   have Q_10:=hs2.up (below_alloc w6 (.cells ez 41))
   have Y_10:=fun x j e=>(hxb x j e).up (below_alloc w6 (.cells ez 41))
   have C_10:=Bk.new w6 41 ez
   go_wp2_with (first
    |(refine wpList_storeN rfl 41 (.tmp 5) (.tmp 15) rfl w6.heap.size 0 [b0,b1,b2,b3,b4,b5,b6] rfl rfl C_10 (Nat.le_refl 7) Tryz.infoE sv2.one ?_;intro w7 C_11 ho10;have U_11:=ho10.but U_10 (by omega);have B_11:=B_10.oth ho10 (by omega);have X_11:=X_10.oth2 ho10 (fun b hb=>by omega);have A_11:=A_10.oth ho10 (by omega);have M_11:=M_10.oth ho10 (by omega);have Q_11:=Q_10.oth ho10 (by omega) (by omega);have Y_11:=fun x j e=>(Y_10 x j e).oth2 ho10 (fun b hb=>by omega);have lB_11:=B_11.lt;have lA_11:=A_11.lt;have lM_11:=M_11.lt;have lC_11:=C_11.lt)
    |refine wpList_loadN rfl 41 (.tmp 3) rfl w1.heap.size 0 rfl [a0,a1,a2,a3,a4,a5,a6] _ (A_11.range 0 7) Tryz.underE Tryz.infoE ?_
    |refine wpList_loadN rfl 41 (.tmp 5) rfl w6.heap.size 0 rfl [b0,b1,b2,b3,b4,b5,b6] _ (C_11.range 0 7) Tryz.underE Tryz.infoE ?_
    |refine wpList_loadN rfl 85 (.tmp 4) rfl w3.heap.size 0 rfl (mkC (I.M k1)) _ (M_11.range 0 4) Tryz.underM Tryz.infoM ?_)
   refine (rtwo_any 18 (I.M k1) [a0,a1,a2,a3,a4,a5,a6] [b0,b1,b2,b3,b4,b5,b6] sv sv2 w7).mono ?_
   rintro e w8 ⟨V,rfl,sv3,hb8,htw⟩
   obtain⟨c0,c1,c2,c3,c4,c5,c6,rfl⟩:=list7 sv3.len
   have hz:=fun x j e=>htw (fun c=>w.heap.size<c) a x (fun c hc=>by omega) (X_11.imp fun b hb _=>hb.1) ((Y_11 x j e).imp fun b hb _=>hb.1)
   clear htw
   have U_12:=U_11.then hb8
   have B_12:=B_11.up hb8
   have Q_12:=Q_11.up hb8
   have lB_12:=B_12.lt
   go_wp2_with (first
    |(refine wpList_storeN rfl 41 (.tmp 2) (.tmp 19) rfl w.heap.size 0 [c0,c1,c2,c3,c4,c5,c6] rfl rfl B_12 (Nat.le_refl 7) Tryz.infoE sv3.one ?_;intro wz B_13 ho12;have U_13:=ho12.but U_12 (by omega);have Q_13:=Q_12.oth ho12 (by omega) (by omega);have Z_13:=fun x j e=>(hz x j e).oth2 ho12 (fun b hb=>by omega);have lB_13:=B_13.lt;obtain⟨q0,q1,q2,q3,q4,q5,q6⟩:=Bk.seven (show Bk wz w.heap.size _ [_,_,_,_,_,_,_] from B_13)))
   cases hq2:consP I.M (lmOf I) f d (k1+1) with
   |out=>exact absurd hq2 hn2
   |bad y j=>
    have HE:=show r=_ from bind_bad HR hq2
    rw[hq2] at Q_13
    clear HR
    subst HE
    refine bodyPost_ret (v:=.agg #[c0,c1,c2,c3,c4,c5,c6]) (by simp[results,Tryz.results85,go_sem,q0,q1,q2,q3,q4,q5,q6]) rfl ⟨_,rfl,sv3,(fun _ _ e=>by cases e),Q_13,U_13⟩
   |ok b k2=>
    have HE:=show r=_ from bind_ok HR hq2
    rw[hq2] at Q_13
    have hxz:=Z_13 b k2 hq2
    clear HR
    subst HE
    refine bodyPost_ret (v:=.agg #[c0,c1,c2,c3,c4,c5,c6]) (by simp[results,Tryz.results85,go_sem,q0,q1,q2,q3,q4,q5,q6]) rfl ⟨_,rfl,sv3,(fun _ _ e=>by cases e;exact hxz.imp fun b hb _=>by omega),Q_13,U_13⟩
set_option maxHeartbeats 4000000 in
theorem rcomp_step (I:Rdi) (hE:Ends I.M I.n) (hW:∀ s∈lks,Wm I.M s) (f:Nat) (ihs:∀ g,g≤f→AllR I g) {α:Type} (q:Rs α) (w:World) (R d:Nat) (h:St I w R d q) (hne:nx q (compP I.M (lmOf I) (f+1) d)≠.out) :
  Calls Tryz.prog 110 #[.pointer (some ⟨R,0,none⟩)] w (RA I R d w (nx q (compP I.M (lmOf I) (f+1) d))):=by
 obtain⟨r,hr⟩:∃ r,r=nx q (compP I.M (lmOf I) (f+1) d):=⟨_,rfl⟩
 rw[← hr] at hne ⊢
 have hr2:r=(nx q (sumP I.M (lmOf I) f d)).bind fun a k1=>
  if tk I.M [61,61] k1 then (sumP I.M (lmOf I) f d (k1+1)).bind fun b k2=>.ok (two 12 a b (I.M k1)) k2 else
  if tk I.M [60] k1 then (sumP I.M (lmOf I) f d (k1+1)).bind fun b k2=>.ok (two 13 a b (I.M k1)) k2 else .ok a k1:=by
  rw[hr,← nx_assoc]
  congr 1
  funext k
  rw[compP]
 clear hr
 have HR:Hid (r=_):=hr2
 clear hr2
 have hn1:=bind_ne HR hne
 have hlt:=h.lt
 have hcx:=store_cx
 have S_1:=h.up (below_alloc w (.cells ez 41))
 have U_1:=(But.refl R w).then (below_alloc w (.cells ez 41))
 have B_1:=Bk.new w 41 ez
 have c1:=(ihs f (Nat.le_refl _)).sum q _ R d S_1 hn1
 cases hq1:nx q (sumP I.M (lmOf I) f d) with
 |out=>exact absurd hq1 hn1
 |bad y j=>
  have HR:=bind_bad HR hq1
  rw[hq1] at c1
  clear hq1
  go_enter Tryz.func110,Tryz.ntmps110
  go_wp2_with fail
  refine c1.mono ?_
  rintro e w1 ⟨vs,rfl,sv,hex,hs,hV⟩
  obtain⟨a0,a1,a2,a3,a4,a5,a6,rfl⟩:=list7 sv.len
  obtain⟨hy,k,d',hd⟩:=hs
  have U_2:=U_1.trans hV
  have B_2:=B_1.but hV (by omega)
  have lB_2:=B_2.lt
  clear hex c1
  have U_3:=U_2.then (below_alloc w1 (.cells ez 41))
  have B_3:=B_2.up (below_alloc w1 (.cells ez 41))
  have Q_3:=hd.up (below_alloc w1 (.cells ez 41))
  have A_3:=Bk.new w1 41 ez
  go_wp2_with (first
   |(refine wpList_storeN rfl 41 (.tmp 3) (.tmp 8) rfl w1.heap.size 0 [a0,a1,a2,a3,a4,a5,a6] rfl rfl A_3 (Nat.le_refl 7) Tryz.infoE sv.one ?_;intro w2 A_4 ho3;have U_4:=ho3.but U_3 (by omega);have B_4:=B_3.oth ho3 (by omega);have Q_4:=Q_3.oth ho3 (by omega) (by omega);have lB_4:=B_4.lt;have lA_4:=A_4.lt))
  refine (rnext_any I w2 R k y _ d' Q_4).mono ?_
  rintro e w3 ⟨rfl,hb3⟩
  unfold mkV
  have U_5:=U_4.then hb3
  have B_5:=B_4.up hb3
  have Q_5:=Q_4.up hb3
  have A_5:=A_4.up hb3
  have lB_5:=B_5.lt
  have lA_5:=A_5.lt
  have U_6:=U_5.then (below_alloc w3 (.cells mz 85))
  have B_6:=B_5.up (below_alloc w3 (.cells mz 85))
  have Q_6:=Q_5.up (below_alloc w3 (.cells mz 85))
  have A_6:=A_5.up (below_alloc w3 (.cells mz 85))
  have M_6:=Bk.new w3 85 mz
  go_wp2_with (first
   |(refine wpList_storeN rfl 85 (.tmp 4) (.tmp 10) rfl w3.heap.size 0 (mkC (I.M k)) rfl rfl M_6 (Nat.le_refl 4) Tryz.infoM (mkC_one _) ?_;intro w4 M_7 ho6;have U_7:=ho6.but U_6 (by omega);have B_7:=B_6.oth ho6 (by omega);have Q_7:=Q_6.oth ho6 (by omega) (by omega);have A_7:=A_6.oth ho6 (by omega);have lB_7:=B_7.lt;have lA_7:=A_7.lt;have lM_7:=M_7.lt))
  refine (ris_dead I [60] w4 R k y _ d' hy Q_7).mono ?_
  rintro e w5 ⟨rfl,hbw5⟩
  have U_8:=U_7.then hbw5
  have B_8:=B_7.up hbw5
  have Q_8:=Q_7.up hbw5
  have A_8:=A_7.up hbw5
  have M_8:=M_7.up hbw5
  have lB_8:=B_8.lt
  have lA_8:=A_8.lt
  have lM_8:=M_8.lt
  go_wp2_with fail
  refine (rtake_no I [61,61] w5 R (ris_dead I [61,61] w5 R k y _ d' hy Q_8)).mono ?_
  rintro e w6 ⟨rfl,hbw6⟩
  have U_9:=U_8.then hbw6
  have B_9:=B_8.up hbw6
  have Q_9:=Q_8.up hbw6
  have A_9:=A_8.up hbw6
  have M_9:=M_8.up hbw6
  have lB_9:=B_9.lt
  have lA_9:=A_9.lt
  have lM_9:=M_9.lt
  go_wp2_with fail
  refine (rtake_no I [60] w6 R (ris_dead I [60] w6 R k y _ d' hy Q_9)).mono ?_
  rintro e w7 ⟨rfl,hbw7⟩
  have U_10:=U_9.then hbw7
  have B_10:=B_9.up hbw7
  have Q_10:=Q_9.up hbw7
  have A_10:=A_9.up hbw7
  have M_10:=M_9.up hbw7
  have lB_10:=B_10.lt
  have lA_10:=A_10.lt
  have lM_10:=M_10.lt
  go_wp2_with (first
   |refine wpList_loadN rfl 41 (.tmp 3) rfl w1.heap.size 0 rfl [a0,a1,a2,a3,a4,a5,a6] _ (A_10.range 0 7) Tryz.underE Tryz.infoE ?_
   |(refine wpList_storeN rfl 41 (.tmp 2) (.tmp 21) rfl w.heap.size 0 [a0,a1,a2,a3,a4,a5,a6] rfl rfl B_10 (Nat.le_refl 7) Tryz.infoE sv.one ?_;intro wz B_11 ho10;have U_11:=ho10.but U_10 (by omega);have Q_11:=Q_10.oth ho10 (by omega) (by omega);have A_11:=A_10.oth ho10 (by omega);have M_11:=M_10.oth ho10 (by omega);have lA_11:=A_11.lt;have lM_11:=M_11.lt;have lB_11:=B_11.lt;obtain⟨q0,q1,q2,q3,q4,q5,q6⟩:=Bk.seven (show Bk wz w.heap.size _ [_,_,_,_,_,_,_] from B_11)))
  have HE:=show r=_ from HR
  clear HR
  subst HE
  refine bodyPost_ret (v:=.agg #[a0,a1,a2,a3,a4,a5,a6]) (by simp[results,Tryz.results110,go_sem,q0,q1,q2,q3,q4,q5,q6]) rfl ⟨_,rfl,sv,(fun _ _ e=>by cases e),⟨hy,k,d',Q_11⟩,U_11⟩
 |ok a k1=>
  have HR:=bind_ok HR hq1
  rw[hq1] at c1
  clear hq1
  go_enter Tryz.func110,Tryz.ntmps110
  go_wp2_with fail
  refine c1.mono ?_
  rintro e w1 ⟨vs,rfl,sv,hex,hs,hV⟩
  obtain⟨a0,a1,a2,a3,a4,a5,a6,rfl⟩:=list7 sv.len
  have hd:Rq I w1 R k1 0 0 d:=hs
  have hxa:ExW w1 (fun b=>w.heap.size<b∧b<w1.heap.size) a _:=(hex a k1 rfl).imp fun b hb hl=>by simp at hb;omega
  have U_2:=U_1.trans hV
  have B_2:=B_1.but hV (by omega)
  have lB_2:=B_2.lt
  clear hex hs c1
  have U_3:=U_2.then (below_alloc w1 (.cells ez 41))
  have B_3:=B_2.up (below_alloc w1 (.cells ez 41))
  have Q_3:=hd.up (below_alloc w1 (.cells ez 41))
  have X_3:=hxa.up (below_alloc w1 (.cells ez 41))
  have A_3:=Bk.new w1 41 ez
  have hW60:=hW [60] (by simp[lks])
  have hW6161:=hW [61,61] (by simp[lks])
  cases t1:tk I.M [61,61] k1 with
  |true=>
   have hk1:=hE.tk I.M t1 (by decide) hd.kn
   have t2:tk I.M [60] k1=false:=by unfold tk at t1 ⊢;rw[eq_of_beq t1];rfl
   have HR:Hid (r=(sumP I.M (lmOf I) f d (k1+1)).bind fun b k2=>.ok (two 12 a b (I.M k1)) k2):=by
    show r=_
    rw[show r=_ from HR,if_pos t1]
   have hn2:=bind_ne HR hne
   go_wp2_with (first
    |(refine wpList_storeN rfl 41 (.tmp 3) (.tmp 8) rfl w1.heap.size 0 [a0,a1,a2,a3,a4,a5,a6] rfl rfl A_3 (Nat.le_refl 7) Tryz.infoE sv.one ?_;intro w2 A_4 ho3;have U_4:=ho3.but U_3 (by omega);have B_4:=B_3.oth ho3 (by omega);have Q_4:=Q_3.oth ho3 (by omega) (by omega);have X_4:=X_3.oth2 ho3 (fun b hb=>by omega);have lB_4:=B_4.lt;have lA_4:=A_4.lt))
   refine (rnext_any I w2 R k1 0 0 d Q_4).mono ?_
   rintro e w3 ⟨rfl,hb3⟩
   unfold mkV
   have U_5:=U_4.then hb3
   have B_5:=B_4.up hb3
   have Q_5:=Q_4.up hb3
   have X_5:=X_4.up hb3
   have A_5:=A_4.up hb3
   have lB_5:=B_5.lt
   have lA_5:=A_5.lt
   have U_6:=U_5.then (below_alloc w3 (.cells mz 85))
   have B_6:=B_5.up (below_alloc w3 (.cells mz 85))
   have Q_6:=Q_5.up (below_alloc w3 (.cells mz 85))
   have X_6:=X_5.up (below_alloc w3 (.cells mz 85))
   have A_6:=A_5.up (below_alloc w3 (.cells mz 85))
   have M_6:=Bk.new w3 85 mz
   go_wp2_with (first
    |(refine wpList_storeN rfl 85 (.tmp 4) (.tmp 10) rfl w3.heap.size 0 (mkC (I.M k1)) rfl rfl M_6 (Nat.le_refl 4) Tryz.infoM (mkC_one _) ?_;intro w4 M_7 ho6;have U_7:=ho6.but U_6 (by omega);have B_7:=B_6.oth ho6 (by omega);have Q_7:=Q_6.oth ho6 (by omega) (by omega);have X_7:=X_6.oth2 ho6 (fun b hb=>by omega);have A_7:=A_6.oth ho6 (by omega);have lB_7:=B_7.lt;have lA_7:=A_7.lt;have lM_7:=M_7.lt))
   refine ((t2 ▸ ris_live I [60] hW60 w4 R k1 0 d Q_7):Calls Tryz.prog 61 #[.pointer (some ⟨R,0,none⟩),.string (bs [60])] w4 fun e w'=>e=.returned (.bool false)∧Below w4.heap.size w4 w').mono ?_
   rintro e w5 ⟨rfl,hbw5⟩
   have U_8:=U_7.then hbw5
   have B_8:=B_7.up hbw5
   have Q_8:=Q_7.up hbw5
   have X_8:=X_7.up hbw5
   have A_8:=A_7.up hbw5
   have M_8:=M_7.up hbw5
   have lB_8:=B_8.lt
   have lA_8:=A_8.lt
   have lM_8:=M_8.lt
   go_wp2_with fail
   refine (rtake_yes I [61,61] hW6161 w5 R k1 d Q_8 t1 hk1).mono ?_
   rintro e w6 ⟨rfl,hdw6,hVw6⟩
   have U_9:=U_8.trans hVw6
   have B_9:=B_8.but hVw6 (by omega)
   have X_9:=X_8.but2 hVw6 (fun b hb=>by omega)
   have A_9:=A_8.but hVw6 (by omega)
   have M_9:=M_8.but hVw6 (by omega)
   have lB_9:=B_9.lt
   have lA_9:=A_9.lt
   have lM_9:=M_9.lt
   go_wp2_with fail
   refine ((ihs f (Nat.le_refl _)).sum (.ok () (k1+1)) w6 R d hdw6 hn2).mono ?_
   rintro e w7 ⟨us,rfl,sv2,hex2,hs2,hV7⟩
   rw[nx_ok] at hex2 hs2
   obtain⟨b0,b1,b2,b3,b4,b5,b6,rfl⟩:=list7 sv2.len
   have U_10:=U_9.trans hV7
   have B_10:=B_9.but hV7 (by omega)
   have X_10:=X_9.but2 hV7 (fun b hb=>by omega)
   have A_10:=A_9.but hV7 (by omega)
   have M_10:=M_9.but hV7 (by omega)
   have lB_10:=B_10.lt
   have lA_10:=A_10.lt
   have lM_10:=M_10.lt
   have hxb:=fun x j e=>(hex2 x j e).imp (A':=fun b=>w.heap.size<b∧b<w7.heap.size) fun b hb hl=>by omega
   clear hex2
   have U_11:=U_10.then (below_alloc w7 (.cells ez 41))
   have B_11:=B_10.up (below_alloc w7 (.cells ez 41))
   have X_11:=X_10.up (below_alloc w7 (.cells ez 41))
   have A_11:=A_10.up (below_alloc w7 (.cells ez 41))
   have M_11:=M_10.up (below_alloc w7 (.cells ez 41))
   have Q_11:=hs2.up (below_alloc w7 (.cells ez 41))
   have Y_11:=fun x j e=>(hxb x j e).up (below_alloc w7 (.cells ez 41))
   have C_11:=Bk.new w7 41 ez
   go_wp2_with (first
    |(refine wpList_storeN rfl 41 (.tmp 6) (.tmp 23) rfl w7.heap.size 0 [b0,b1,b2,b3,b4,b5,b6] rfl rfl C_11 (Nat.le_refl 7) Tryz.infoE sv2.one ?_;intro w8 C_12 ho11;have U_12:=ho11.but U_11 (by omega);have B_12:=B_11.oth ho11 (by omega);have X_12:=X_11.oth2 ho11 (fun b hb=>by omega);have A_12:=A_11.oth ho11 (by omega);have M_12:=M_11.oth ho11 (by omega);have Q_12:=Q_11.oth ho11 (by omega) (by omega);have Y_12:=fun x j e=>(Y_11 x j e).oth2 ho11 (fun b hb=>by omega);have lB_12:=B_12.lt;have lA_12:=A_12.lt;have lM_12:=M_12.lt;have lC_12:=C_12.lt)
    |refine wpList_loadN rfl 41 (.tmp 3) rfl w1.heap.size 0 rfl [a0,a1,a2,a3,a4,a5,a6] _ (A_12.range 0 7) Tryz.underE Tryz.infoE ?_
    |refine wpList_loadN rfl 41 (.tmp 6) rfl w7.heap.size 0 rfl [b0,b1,b2,b3,b4,b5,b6] _ (C_12.range 0 7) Tryz.underE Tryz.infoE ?_
    |refine wpList_loadN rfl 85 (.tmp 4) rfl w3.heap.size 0 rfl (mkC (I.M k1)) _ (M_12.range 0 4) Tryz.underM Tryz.infoM ?_)
   refine (rtwo_any 12 (I.M k1) [a0,a1,a2,a3,a4,a5,a6] [b0,b1,b2,b3,b4,b5,b6] sv sv2 w8).mono ?_
   rintro e w9 ⟨V,rfl,sv3,hb8,htw⟩
   obtain⟨c0,c1,c2,c3,c4,c5,c6,rfl⟩:=list7 sv3.len
   have hz:=fun x j e=>htw (fun c=>w.heap.size<c) a x (fun c hc=>by omega) (X_12.imp fun b hb _=>hb.1) ((Y_12 x j e).imp fun b hb _=>hb.1)
   clear htw
   have U_13:=U_12.then hb8
   have B_13:=B_12.up hb8
   have Q_13:=Q_12.up hb8
   have lB_13:=B_13.lt
   go_wp2_with (first
    |(refine wpList_storeN rfl 41 (.tmp 2) (.tmp 28) rfl w.heap.size 0 [c0,c1,c2,c3,c4,c5,c6] rfl rfl B_13 (Nat.le_refl 7) Tryz.infoE sv3.one ?_;intro wz B_14 ho13;have U_14:=ho13.but U_13 (by omega);have Q_14:=Q_13.oth ho13 (by omega) (by omega);have Z_14:=fun x j e=>(hz x j e).oth2 ho13 (fun b hb=>by omega);have lB_14:=B_14.lt;obtain⟨q0,q1,q2,q3,q4,q5,q6⟩:=Bk.seven (show Bk wz w.heap.size _ [_,_,_,_,_,_,_] from B_14)))
   cases hq2:sumP I.M (lmOf I) f d (k1+1) with
   |out=>exact absurd hq2 hn2
   |bad y j=>
    have HE:=show r=_ from bind_bad HR hq2
    rw[hq2] at Q_14
    clear HR
    subst HE
    refine bodyPost_ret (v:=.agg #[c0,c1,c2,c3,c4,c5,c6]) (by simp[results,Tryz.results110,go_sem,q0,q1,q2,q3,q4,q5,q6]) rfl ⟨_,rfl,sv3,(fun _ _ e=>by cases e),Q_14,U_14⟩
   |ok b k2=>
    have HE:=show r=_ from bind_ok HR hq2
    rw[hq2] at Q_14
    have hxz:=Z_14 b k2 hq2
    clear HR
    subst HE
    refine bodyPost_ret (v:=.agg #[c0,c1,c2,c3,c4,c5,c6]) (by simp[results,Tryz.results110,go_sem,q0,q1,q2,q3,q4,q5,q6]) rfl ⟨_,rfl,sv3,(fun _ _ e=>by cases e;exact hxz.imp fun b hb _=>by omega),Q_14,U_14⟩
  |false=>
   have HR:Hid (r=if tk I.M [60] k1 then (sumP I.M (lmOf I) f d (k1+1)).bind fun b k2=>.ok (two 13 a b (I.M k1)) k2 else .ok a k1):=by
    show r=_
    rw[show r=_ from HR,if_neg (by rw[t1];simp)]
   cases t2:tk I.M [60] k1 with
   |true=>
    have hk1:=hE.tk I.M t2 (by decide) hd.kn
    have HR:Hid (r=(sumP I.M (lmOf I) f d (k1+1)).bind fun b k2=>.ok (two 13 a b (I.M k1)) k2):=by
     show r=_
     rw[show r=_ from HR,if_pos t2]
    have hn2:=bind_ne HR hne
    go_wp2_with (first
     |(refine wpList_storeN rfl 41 (.tmp 3) (.tmp 8) rfl w1.heap.size 0 [a0,a1,a2,a3,a4,a5,a6] rfl rfl A_3 (Nat.le_refl 7) Tryz.infoE sv.one ?_;intro w2 A_4 ho3;have U_4:=ho3.but U_3 (by omega);have B_4:=B_3.oth ho3 (by omega);have Q_4:=Q_3.oth ho3 (by omega) (by omega);have X_4:=X_3.oth2 ho3 (fun b hb=>by omega);have lB_4:=B_4.lt;have lA_4:=A_4.lt))
    refine (rnext_any I w2 R k1 0 0 d Q_4).mono ?_
    rintro e w3 ⟨rfl,hb3⟩
    unfold mkV
    have U_5:=U_4.then hb3
    have B_5:=B_4.up hb3
    have Q_5:=Q_4.up hb3
    have X_5:=X_4.up hb3
    have A_5:=A_4.up hb3
    have lB_5:=B_5.lt
    have lA_5:=A_5.lt
    have U_6:=U_5.then (below_alloc w3 (.cells mz 85))
    have B_6:=B_5.up (below_alloc w3 (.cells mz 85))
    have Q_6:=Q_5.up (below_alloc w3 (.cells mz 85))
    have X_6:=X_5.up (below_alloc w3 (.cells mz 85))
    have A_6:=A_5.up (below_alloc w3 (.cells mz 85))
    have M_6:=Bk.new w3 85 mz
    go_wp2_with (first
     |(refine wpList_storeN rfl 85 (.tmp 4) (.tmp 10) rfl w3.heap.size 0 (mkC (I.M k1)) rfl rfl M_6 (Nat.le_refl 4) Tryz.infoM (mkC_one _) ?_;intro w4 M_7 ho6;have U_7:=ho6.but U_6 (by omega);have B_7:=B_6.oth ho6 (by omega);have Q_7:=Q_6.oth ho6 (by omega) (by omega);have X_7:=X_6.oth2 ho6 (fun b hb=>by omega);have A_7:=A_6.oth ho6 (by omega);have lB_7:=B_7.lt;have lA_7:=A_7.lt;have lM_7:=M_7.lt))
    refine (t2 ▸ ris_live I [60] hW60 w4 R k1 0 d Q_7:Calls Tryz.prog 61 #[.pointer (some ⟨R,0,none⟩),.string (bs [60])] w4 fun e w'=>e=.returned (.bool true)∧Below w4.heap.size w4 w').mono ?_
    rintro e w5 ⟨rfl,hbw5⟩
    have U_8:=U_7.then hbw5
    have B_8:=B_7.up hbw5
    have Q_8:=Q_7.up hbw5
    have X_8:=X_7.up hbw5
    have A_8:=A_7.up hbw5
    have M_8:=M_7.up hbw5
    have lB_8:=B_8.lt
    have lA_8:=A_8.lt
    have lM_8:=M_8.lt
    go_wp2_with fail
    refine (rtake_no I [61,61] w5 R (t1 ▸ ris_live I [61,61] hW6161 w5 R k1 0 d Q_8)).mono ?_
    rintro e w6 ⟨rfl,hbw6⟩
    have U_9:=U_8.then hbw6
    have B_9:=B_8.up hbw6
    have Q_9:=Q_8.up hbw6
    have X_9:=X_8.up hbw6
    have A_9:=A_8.up hbw6
    have M_9:=M_8.up hbw6
    have lB_9:=B_9.lt
    have lA_9:=A_9.lt
    have lM_9:=M_9.lt
    go_wp2_with fail
    refine (rtake_yes I [60] hW60 w6 R k1 d Q_9 t2 hk1).mono ?_
    rintro e w7 ⟨rfl,hdw7,hVw7⟩
    have U_10:=U_9.trans hVw7
    have B_10:=B_9.but hVw7 (by omega)
    have X_10:=X_9.but2 hVw7 (fun b hb=>by omega)
    have A_10:=A_9.but hVw7 (by omega)
    have M_10:=M_9.but hVw7 (by omega)
    have lB_10:=B_10.lt
    have lA_10:=A_10.lt
    have lM_10:=M_10.lt
    go_wp2_with fail
    refine ((ihs f (Nat.le_refl _)).sum (.ok () (k1+1)) w7 R d hdw7 hn2).mono ?_
    rintro e w8 ⟨us,rfl,sv2,hex2,hs2,hV8⟩
    rw[nx_ok] at hex2 hs2
    obtain⟨b0,b1,b2,b3,b4,b5,b6,rfl⟩:=list7 sv2.len
    have U_11:=U_10.trans hV8
    have B_11:=B_10.but hV8 (by omega)
    have X_11:=X_10.but2 hV8 (fun b hb=>by omega)
    have A_11:=A_10.but hV8 (by omega)
    have M_11:=M_10.but hV8 (by omega)
    have lB_11:=B_11.lt
    have lA_11:=A_11.lt
    have lM_11:=M_11.lt
    have hxb:=fun x j e=>(hex2 x j e).imp (A':=fun b=>w.heap.size<b∧b<w8.heap.size) fun b hb hl=>by omega
    clear hex2
    have U_12:=U_11.then (below_alloc w8 (.cells ez 41))
    have B_12:=B_11.up (below_alloc w8 (.cells ez 41))
    have X_12:=X_11.up (below_alloc w8 (.cells ez 41))
    have A_12:=A_11.up (below_alloc w8 (.cells ez 41))
    have M_12:=M_11.up (below_alloc w8 (.cells ez 41))
    have Q_12:=hs2.up (below_alloc w8 (.cells ez 41))
    have Y_12:=fun x j e=>(hxb x j e).up (below_alloc w8 (.cells ez 41))
    have C_12:=Bk.new w8 41 ez
    go_wp2_with (first
     |(refine wpList_storeN rfl 41 (.tmp 6) (.tmp 23) rfl w8.heap.size 0 [b0,b1,b2,b3,b4,b5,b6] rfl rfl C_12 (Nat.le_refl 7) Tryz.infoE sv2.one ?_;intro w9 C_13 ho12;have U_13:=ho12.but U_12 (by omega);have B_13:=B_12.oth ho12 (by omega);have X_13:=X_12.oth2 ho12 (fun b hb=>by omega);have A_13:=A_12.oth ho12 (by omega);have M_13:=M_12.oth ho12 (by omega);have Q_13:=Q_12.oth ho12 (by omega) (by omega);have Y_13:=fun x j e=>(Y_12 x j e).oth2 ho12 (fun b hb=>by omega);have lB_13:=B_13.lt;have lA_13:=A_13.lt;have lM_13:=M_13.lt;have lC_13:=C_13.lt)
     |refine wpList_loadN rfl 41 (.tmp 3) rfl w1.heap.size 0 rfl [a0,a1,a2,a3,a4,a5,a6] _ (A_13.range 0 7) Tryz.underE Tryz.infoE ?_
     |refine wpList_loadN rfl 41 (.tmp 6) rfl w8.heap.size 0 rfl [b0,b1,b2,b3,b4,b5,b6] _ (C_13.range 0 7) Tryz.underE Tryz.infoE ?_
     |refine wpList_loadN rfl 85 (.tmp 4) rfl w3.heap.size 0 rfl (mkC (I.M k1)) _ (M_13.range 0 4) Tryz.underM Tryz.infoM ?_)
    refine (rtwo_any 13 (I.M k1) [a0,a1,a2,a3,a4,a5,a6] [b0,b1,b2,b3,b4,b5,b6] sv sv2 w9).mono ?_
    rintro e w10 ⟨V,rfl,sv3,hb8,htw⟩
    obtain⟨c0,c1,c2,c3,c4,c5,c6,rfl⟩:=list7 sv3.len
    have hz:=fun x j e=>htw (fun c=>w.heap.size<c) a x (fun c hc=>by omega) (X_13.imp fun b hb _=>hb.1) ((Y_13 x j e).imp fun b hb _=>hb.1)
    clear htw
    have U_14:=U_13.then hb8
    have B_14:=B_13.up hb8
    have Q_14:=Q_13.up hb8
    have lB_14:=B_14.lt
    go_wp2_with (first
     |(refine wpList_storeN rfl 41 (.tmp 2) (.tmp 28) rfl w.heap.size 0 [c0,c1,c2,c3,c4,c5,c6] rfl rfl B_14 (Nat.le_refl 7) Tryz.infoE sv3.one ?_;intro wz B_15 ho14;have U_15:=ho14.but U_14 (by omega);have Q_15:=Q_14.oth ho14 (by omega) (by omega);have Z_15:=fun x j e=>(hz x j e).oth2 ho14 (fun b hb=>by omega);have lB_15:=B_15.lt;obtain⟨q0,q1,q2,q3,q4,q5,q6⟩:=Bk.seven (show Bk wz w.heap.size _ [_,_,_,_,_,_,_] from B_15)))
    cases hq2:sumP I.M (lmOf I) f d (k1+1) with
    |out=>exact absurd hq2 hn2
    |bad y j=>
     have HE:=show r=_ from bind_bad HR hq2
     rw[hq2] at Q_15
     clear HR
     subst HE
     refine bodyPost_ret (v:=.agg #[c0,c1,c2,c3,c4,c5,c6]) (by simp[results,Tryz.results110,go_sem,q0,q1,q2,q3,q4,q5,q6]) rfl ⟨_,rfl,sv3,(fun _ _ e=>by cases e),Q_15,U_15⟩
    |ok b k2=>
     have HE:=show r=_ from bind_ok HR hq2
     rw[hq2] at Q_15
     have hxz:=Z_15 b k2 hq2
     clear HR
     subst HE
     refine bodyPost_ret (v:=.agg #[c0,c1,c2,c3,c4,c5,c6]) (by simp[results,Tryz.results110,go_sem,q0,q1,q2,q3,q4,q5,q6]) rfl ⟨_,rfl,sv3,(fun _ _ e=>by cases e;exact hxz.imp fun b hb _=>by omega),Q_15,U_15⟩
   |false=>
    have HE:r=.ok a k1:=by rw[show r=_ from HR,if_neg (by rw[t2];simp)]
    clear HR
    go_wp2_with (first
     |(refine wpList_storeN rfl 41 (.tmp 3) (.tmp 8) rfl w1.heap.size 0 [a0,a1,a2,a3,a4,a5,a6] rfl rfl A_3 (Nat.le_refl 7) Tryz.infoE sv.one ?_;intro w2 A_4 ho3;have U_4:=ho3.but U_3 (by omega);have B_4:=B_3.oth ho3 (by omega);have Q_4:=Q_3.oth ho3 (by omega) (by omega);have X_4:=X_3.oth2 ho3 (fun b hb=>by omega);have lB_4:=B_4.lt;have lA_4:=A_4.lt))
    refine (rnext_any I w2 R k1 0 0 d Q_4).mono ?_
    rintro e w3 ⟨rfl,hb3⟩
    unfold mkV
    have U_5:=U_4.then hb3
    have B_5:=B_4.up hb3
    have Q_5:=Q_4.up hb3
    have X_5:=X_4.up hb3
    have A_5:=A_4.up hb3
    have lB_5:=B_5.lt
    have lA_5:=A_5.lt
    have U_6:=U_5.then (below_alloc w3 (.cells mz 85))
    have B_6:=B_5.up (below_alloc w3 (.cells mz 85))
    have Q_6:=Q_5.up (below_alloc w3 (.cells mz 85))
    have X_6:=X_5.up (below_alloc w3 (.cells mz 85))
    have A_6:=A_5.up (below_alloc w3 (.cells mz 85))
    have M_6:=Bk.new w3 85 mz
    go_wp2_with (first
     |(refine wpList_storeN rfl 85 (.tmp 4) (.tmp 10) rfl w3.heap.size 0 (mkC (I.M k1)) rfl rfl M_6 (Nat.le_refl 4) Tryz.infoM (mkC_one _) ?_;intro w4 M_7 ho6;have U_7:=ho6.but U_6 (by omega);have B_7:=B_6.oth ho6 (by omega);have Q_7:=Q_6.oth ho6 (by omega) (by omega);have X_7:=X_6.oth2 ho6 (fun b hb=>by omega);have A_7:=A_6.oth ho6 (by omega);have lB_7:=B_7.lt;have lA_7:=A_7.lt;have lM_7:=M_7.lt))
    refine ((t2 ▸ ris_live I [60] hW60 w4 R k1 0 d Q_7):Calls Tryz.prog 61 #[.pointer (some ⟨R,0,none⟩),.string (bs [60])] w4 fun e w'=>e=.returned (.bool false)∧Below w4.heap.size w4 w').mono ?_
    rintro e w5 ⟨rfl,hbw5⟩
    have U_8:=U_7.then hbw5
    have B_8:=B_7.up hbw5
    have Q_8:=Q_7.up hbw5
    have X_8:=X_7.up hbw5
    have A_8:=A_7.up hbw5
    have M_8:=M_7.up hbw5
    have lB_8:=B_8.lt
    have lA_8:=A_8.lt
    have lM_8:=M_8.lt
    go_wp2_with fail
    refine (rtake_no I [61,61] w5 R (t1 ▸ ris_live I [61,61] hW6161 w5 R k1 0 d Q_8)).mono ?_
    rintro e w6 ⟨rfl,hbw6⟩
    have U_9:=U_8.then hbw6
    have B_9:=B_8.up hbw6
    have Q_9:=Q_8.up hbw6
    have X_9:=X_8.up hbw6
    have A_9:=A_8.up hbw6
    have M_9:=M_8.up hbw6
    have lB_9:=B_9.lt
    have lA_9:=A_9.lt
    have lM_9:=M_9.lt
    go_wp2_with fail
    refine (rtake_no I [60] w6 R (t2 ▸ ris_live I [60] hW60 w6 R k1 0 d Q_9)).mono ?_
    rintro e w7 ⟨rfl,hbw7⟩
    have U_10:=U_9.then hbw7
    have B_10:=B_9.up hbw7
    have Q_10:=Q_9.up hbw7
    have X_10:=X_9.up hbw7
    have A_10:=A_9.up hbw7
    have M_10:=M_9.up hbw7
    have lB_10:=B_10.lt
    have lA_10:=A_10.lt
    have lM_10:=M_10.lt
    go_wp2_with (first
     |refine wpList_loadN rfl 41 (.tmp 3) rfl w1.heap.size 0 rfl [a0,a1,a2,a3,a4,a5,a6] _ (A_10.range 0 7) Tryz.underE Tryz.infoE ?_
     |(refine wpList_storeN rfl 41 (.tmp 2) (.tmp 21) rfl w.heap.size 0 [a0,a1,a2,a3,a4,a5,a6] rfl rfl B_10 (Nat.le_refl 7) Tryz.infoE sv.one ?_;intro wz B_11 ho10;have U_11:=ho10.but U_10 (by omega);have Q_11:=Q_10.oth ho10 (by omega) (by omega);have X_11:=X_10.oth2 ho10 (fun b hb=>by omega);have A_11:=A_10.oth ho10 (by omega);have M_11:=M_10.oth ho10 (by omega);have lA_11:=A_11.lt;have lM_11:=M_11.lt;have lB_11:=B_11.lt;obtain⟨q0,q1,q2,q3,q4,q5,q6⟩:=Bk.seven (show Bk wz w.heap.size _ [_,_,_,_,_,_,_] from B_11)))
    subst HE
    refine bodyPost_ret (v:=.agg #[a0,a1,a2,a3,a4,a5,a6]) (by simp[results,Tryz.results110,go_sem,q0,q1,q2,q3,q4,q5,q6]) rfl ⟨_,rfl,sv,(fun _ _ e=>by cases e;exact X_11.imp fun b hb _=>by omega),Q_11,U_11⟩
end Go.Proofs.YtdncofkjncanfaaGreatDoor
