/-
  The walk of the document's expr.
-/
import Derived.Test.YtimoappbefindaaGreatUi
import Derived.Test.YtimoappbefindaaGreatUS
import Derived.Deep.DeepCutAuto
namespace Go.Proofs.YtimoappbefindaaGreat
set_option maxHeartbeats 8000000
open Go.RowKit
set_option maxRecDepth 100000
theorem Bk.bu2 {w w':World} {b R E:Nat} {t:TypeId} {vs:List Value} (h:Bk w b t vs) (hU:Bu2 R E w w') (hR:b≠R) (hE:b≠E):Bk w' b t vs:=by unfold Bk;rw[hU.block b h.lt hR hE];exact h
theorem St.leave {I:Rdi} {w:World} {R d:Nat} {α:Type} {q:Rs α} (h:St I w R ((d+1:Nat):Int) q) (hd:(d:Int)+1≤9223372036854775807):∃ dd:Int,w.cell? ⟨R,8,none⟩=some (.int .i64 dd)∧w.frozen? ⟨R,8,none⟩=false∧St I (w.setCell ⟨R,8,none⟩ (.int .i64 (wrap64 (dd-1)))) R (d:Int) q:=by
 cases q with
 |out=>exact h.elim
 |ok a k=>
  have h':Rq I w R k 0 0 ((d+1:Nat):Int):=h
  have hw:wrap64 (((d+1:Nat):Int)-1)=(d:Int):=by simp only[wrap64];omega
  have h2:=h'.nest (wrap64 (((d+1:Nat):Int)-1))
  refine⟨_,h'.nine.2.2.2.2.2.2.2,h'.blk.frz 8,?_⟩
  rw[hw] at h2
  rw[hw]
  exact h2
 |bad y j=>
  obtain⟨hy,k,d',h'⟩:=h
  exact⟨d',h'.nine.2.2.2.2.2.2.2,h'.blk.frz 8,hy,k,_,h'.nest _⟩
theorem qx {w:World} {B:Nat} {ao:Option Addr} {n c:Nat} {xs:List Ex} (h:Row w B (.slice ao n c) xs):ElV w B ao xs:=by
 obtain⟨ao',c',e,h'⟩:=h.el
 cases e
 exact h'
theorem jG (I:Rdi) (_hE:Ends I.M I.n) (_hW:∀ s∈lks,Wm I.M s) (w:World) (R:Nat) (k j:Nat) (y:Int) (hy:y≠0) (d:Nat) (d':Int) (h:Rq I w R k y (I.M j).at_ d') :
  Calls Tryz.prog 92 #[.pointer (some ⟨R,0,none⟩)] w (RA I R d w (.bad y j)):=by
 have hlt:=h.lt
 have b0:(y != 0)=true:=by simpa using hy
 have Q_1:=h.up (ae w (.cells ez 58))
 have U_1:=(But.refl R w).then (ae w (.cells ez 58))
 have B_1:=Bk.new w 58 ez
 have hcx:=aI
 go_enter Tryz.func92,Tryz.ntmps92
 go_wp2_with fail
 refine (aB I (w.alloc (.cells ez 58)) R k y _ d' Q_1).mono ?_
 rintro e w1 ⟨rfl,hb1⟩
 unfold mkV
 have Q_2:=Q_1.up hb1
 have U_2:=U_1.then hb1
 have B_2:=B_1.up hb1
 have lB_2:=B_2.lt
 have s_2:=hb1.size
 go_wp2_with (first
  |(refine ah rfl 135 (.tmp 3) (.tmp 8) rfl w1.heap.size 0 (mkC (I.M k)) rfl rfl (Bk.new w1 135 mz) (Nat.le_refl 4) Tryz.infoM (aF _) ?_;intro w2 M_3 hoa3;have hba3:Below w1.heap.size w1 w2:=(ae w1 (.cells mz 135)).trans (hoa3.below (Nat.le_refl _));have Q_3:=Q_2.up hba3;have U_3:=U_2.then hba3;have B_3:=B_2.up hba3;have lB_3:=B_3.lt;have lM_3:=M_3.lt;have s_3:=hba3.size))
 refine (aN I tLet w2 R k y _ d' hy Q_3).mono ?_
 rintro e w3 ⟨rfl,hbw3⟩
 have Q_4:=Q_3.up hbw3
 have U_4:=U_3.then hbw3
 have B_4:=B_3.up hbw3
 have M_4:=M_3.up hbw3
 have lB_4:=B_4.lt
 have lM_4:=M_4.lt
 have s_4:=hbw3.size
 go_wp2_with fail
 refine (aN I aL w3 R k y _ d' hy Q_4).mono ?_
 rintro e w4 ⟨rfl,hbw4⟩
 have Q_5:=Q_4.up hbw4
 have U_5:=U_4.then hbw4
 have B_5:=B_4.up hbw4
 have M_5:=M_4.up hbw4
 have lB_5:=B_5.lt
 have lM_5:=M_5.lt
 have s_5:=hbw4.size
 go_wp2_with fail
 refine (aN I cK w4 R k y _ d' hy Q_5).mono ?_
 rintro e w5 ⟨rfl,hbw5⟩
 have Q_6:=Q_5.up hbw5
 have U_6:=U_5.then hbw5
 have B_6:=B_5.up hbw5
 have M_6:=M_5.up hbw5
 have lB_6:=B_6.lt
 have lM_6:=M_6.lt
 have s_6:=hbw5.size
 go_wp2_with fail
 go_quiet (fail)
 have hbq:Below w5.heap.size w5 (w5.drewN nq):=⟨rfl,rfl,rfl,Nat.le_refl _,fun _ _=>rfl⟩
 have Q_7:=Q_6.up hbq
 have U_7:=U_6.then hbq
 have B_7:=B_6.up hbq
 have M_7:=M_6.up hbq
 have lB_7:=B_7.lt
 have lM_7:=M_7.lt
 have s_7:=hbq.size
 generalize w5.drewN nq=wq at *
 obtain⟨-,-,c2,-⟩:=Q_7.nine
 go_wp2_with (first
  |(refine ah rfl 58 (.tmp 2) (.tmp 39) rfl w.heap.size 0 [.int .i64 0,.string ⟨#[]⟩,.string ⟨#[]⟩,.int .i64 0,.complex .f64 0 0,.slice none 0 0,.int .i64 0] rfl rfl B_7 (Nat.le_refl 7) Tryz.infoE gq.one ?_;intro wz B_8 ho7;have Q_8:=Q_7.oth ho7 (by omega) (by omega);have U_8:=ho7.but U_7 (by omega);have M_8:=M_7.oth ho7 (by omega);have lM_8:=M_8.lt;have lB_8:=B_8.lt;obtain⟨q0,q1,q2,q3,q4,q5,q6⟩:=Bk.seven (show Bk wz w.heap.size _ [_,_,_,_,_,_,_] from B_8)))
 refine bodyPost_ret (v:=.agg #[.int .i64 0,.string ⟨#[]⟩,.string ⟨#[]⟩,.int .i64 0,.complex .f64 0 0,.slice none 0 0,.int .i64 0]) (by simp[results,Tryz.results92,go_sem,q0,q1,q2,q3,q4,q5,q6]) rfl ⟨_,rfl,gq,(fun _ _ e=>by cases e),⟨hy,k,d',Q_8⟩,U_8⟩
theorem rexpr_let_deep (I:Rdi) (_hE:Ends I.M I.n) (hW:∀ s∈lks,Wm I.M s) (f:Nat) (_ihs:∀ g,g≤f→AllR I g) (w:World) (R:Nat) (k d:Nat) (h:Rq I w R k 0 0 d) (ht:tk I.M tLet k=true) (hn:I.ln≤d) :
  Calls Tryz.prog 92 #[.pointer (some ⟨R,0,none⟩)] w (RA I R d w (.bad 23 k)):=by
 have hlt:=h.lt
 have bn:decide (I.ln≤(d:Int))=true:=by rw[decide_eq_true_eq];exact hn
 have t1:tk I.M tLet k=true:=ht
 have Q_1:=h.up (ae w (.cells ez 58))
 have U_1:=(But.refl R w).then (ae w (.cells ez 58))
 have B_1:=Bk.new w 58 ez
 have hcx:=aI
 go_enter Tryz.func92,Tryz.ntmps92
 go_wp2_with fail
 refine (aB I (w.alloc (.cells ez 58)) R k 0 0 d Q_1).mono ?_
 rintro e w1 ⟨rfl,hb1⟩
 unfold mkV
 have Q_2:=Q_1.up hb1
 have U_2:=U_1.then hb1
 have B_2:=B_1.up hb1
 have lB_2:=B_2.lt
 have s_2:=hb1.size
 go_wp2_with (first
  |(refine ah rfl 135 (.tmp 3) (.tmp 8) rfl w1.heap.size 0 (mkC (I.M k)) rfl rfl (Bk.new w1 135 mz) (Nat.le_refl 4) Tryz.infoM (aF _) ?_;intro w2 M_3 hoa3;have hba3:Below w1.heap.size w1 w2:=(ae w1 (.cells mz 135)).trans (hoa3.below (Nat.le_refl _));have Q_3:=Q_2.up hba3;have U_3:=U_2.then hba3;have B_3:=B_2.up hba3;have lB_3:=B_3.lt;have lM_3:=M_3.lt;have s_3:=hba3.size))
 refine (t1 ▸ aA I tLet (hW tLet (by simp[lks])) w2 R k 0 d Q_3:Calls Tryz.prog 90 #[.pointer (some ⟨R,0,none⟩),.string (bs tLet)] w2 fun e w'=>e=.returned (.bool true)∧Below w2.heap.size w2 w').mono ?_
 rintro e w3 ⟨rfl,hbw3⟩
 have Q_4:=Q_3.up hbw3
 have U_4:=U_3.then hbw3
 have B_4:=B_3.up hbw3
 have M_4:=M_3.up hbw3
 have lB_4:=B_4.lt
 have lM_4:=M_4.lt
 have s_4:=hbw3.size
 obtain⟨-,-,-,-,-,-,c7,c8⟩:=Q_4.nine
 go_wp2_with fail
 go_quiet (fail)
 have hbq:Below w3.heap.size w3 (w3.drewN nq):=⟨rfl,rfl,rfl,Nat.le_refl _,fun _ _=>rfl⟩
 have Q_5:=Q_4.up hbq
 have U_5:=U_4.then hbq
 have B_5:=B_4.up hbq
 have M_5:=M_4.up hbq
 have lB_5:=B_5.lt
 have lM_5:=M_5.lt
 have s_5:=hbq.size
 generalize w3.drewN nq=wq at *
 clear c7 c8
 go_wp2_with fail
 refine (bf I wq R k 23 d Q_5).mono ?_
 rintro e wf ⟨rfl,hdf,hVf⟩
 have U_6:=U_5.trans hVf
 have B_6:=B_5.but hVf (by omega)
 have M_6:=M_5.but hVf (by omega)
 have lB_6:=B_6.lt
 have lM_6:=M_6.lt
 have s_6:=hVf.size
 obtain⟨-,-,c2,-⟩:=hdf.nine
 go_wp2_with (first
  |(refine ah rfl 58 (.tmp 2) (.tmp 39) rfl w.heap.size 0 [.int .i64 0,.string ⟨#[]⟩,.string ⟨#[]⟩,.int .i64 0,.complex .f64 0 0,.slice none 0 0,.int .i64 0] rfl rfl B_6 (Nat.le_refl 7) Tryz.infoE gq.one ?_;intro wz B_7 ho6;have U_7:=ho6.but U_6 (by omega);have M_7:=M_6.oth ho6 (by omega);have Q_7:=hdf.oth ho6 (by omega) (by omega);have lM_7:=M_7.lt;have lB_7:=B_7.lt;obtain⟨q0,q1,q2,q3,q4,q5,q6⟩:=Bk.seven (show Bk wz w.heap.size _ [_,_,_,_,_,_,_] from B_7)))
 refine bodyPost_ret (v:=.agg #[.int .i64 0,.string ⟨#[]⟩,.string ⟨#[]⟩,.int .i64 0,.complex .f64 0 0,.slice none 0 0,.int .i64 0]) (by simp[results,Tryz.results92,go_sem,q0,q1,q2,q3,q4,q5,q6]) rfl ⟨_,rfl,gq,(fun _ _ e=>by cases e),⟨by omega,k,d,Q_7⟩,U_7⟩
theorem rexpr_strict_deep (I:Rdi) (_hE:Ends I.M I.n) (hW:∀ s∈lks,Wm I.M s) (f:Nat) (_ihs:∀ g,g≤f→AllR I g) (w:World) (R:Nat) (k d:Nat) (h:Rq I w R k 0 0 d) (ht:tk I.M aL k=true) (hn:I.ln≤d) :
  Calls Tryz.prog 92 #[.pointer (some ⟨R,0,none⟩)] w (RA I R d w (.bad 23 k)):=by
 have hlt:=h.lt
 have bn:decide (I.ln≤(d:Int))=true:=by rw[decide_eq_true_eq];exact hn
 have t2:tk I.M aL k=true:=ht
 have t1:tk I.M tLet k=false:=by unfold tk at ht ⊢;rw[eq_of_beq ht];rfl
 have Q_1:=h.up (ae w (.cells ez 58))
 have U_1:=(But.refl R w).then (ae w (.cells ez 58))
 have B_1:=Bk.new w 58 ez
 have hcx:=aI
 go_enter Tryz.func92,Tryz.ntmps92
 go_wp2_with fail
 refine (aB I (w.alloc (.cells ez 58)) R k 0 0 d Q_1).mono ?_
 rintro e w1 ⟨rfl,hb1⟩
 unfold mkV
 have Q_2:=Q_1.up hb1
 have U_2:=U_1.then hb1
 have B_2:=B_1.up hb1
 have lB_2:=B_2.lt
 have s_2:=hb1.size
 go_wp2_with (first
  |(refine ah rfl 135 (.tmp 3) (.tmp 8) rfl w1.heap.size 0 (mkC (I.M k)) rfl rfl (Bk.new w1 135 mz) (Nat.le_refl 4) Tryz.infoM (aF _) ?_;intro w2 M_3 hoa3;have hba3:Below w1.heap.size w1 w2:=(ae w1 (.cells mz 135)).trans (hoa3.below (Nat.le_refl _));have Q_3:=Q_2.up hba3;have U_3:=U_2.then hba3;have B_3:=B_2.up hba3;have lB_3:=B_3.lt;have lM_3:=M_3.lt;have s_3:=hba3.size))
 refine (t1 ▸ aA I tLet (hW tLet (by simp[lks])) w2 R k 0 d Q_3:Calls Tryz.prog 90 #[.pointer (some ⟨R,0,none⟩),.string (bs tLet)] w2 fun e w'=>e=.returned (.bool false)∧Below w2.heap.size w2 w').mono ?_
 rintro e w3 ⟨rfl,hbw3⟩
 have Q_4:=Q_3.up hbw3
 have U_4:=U_3.then hbw3
 have B_4:=B_3.up hbw3
 have M_4:=M_3.up hbw3
 have lB_4:=B_4.lt
 have lM_4:=M_4.lt
 have s_4:=hbw3.size
 go_wp2_with fail
 refine (t2 ▸ aA I aL (hW aL (by simp[lks])) w3 R k 0 d Q_4:Calls Tryz.prog 90 #[.pointer (some ⟨R,0,none⟩),.string (bs aL)] w3 fun e w'=>e=.returned (.bool true)∧Below w3.heap.size w3 w').mono ?_
 rintro e w4 ⟨rfl,hbw4⟩
 have Q_5:=Q_4.up hbw4
 have U_5:=U_4.then hbw4
 have B_5:=B_4.up hbw4
 have M_5:=M_4.up hbw4
 have lB_5:=B_5.lt
 have lM_5:=M_5.lt
 have s_5:=hbw4.size
 obtain⟨-,-,-,-,-,-,c7,c8⟩:=Q_5.nine
 go_wp2_with fail
 go_quiet (fail)
 have hbq:Below w4.heap.size w4 (w4.drewN nq):=⟨rfl,rfl,rfl,Nat.le_refl _,fun _ _=>rfl⟩
 have Q_6:=Q_5.up hbq
 have U_6:=U_5.then hbq
 have B_6:=B_5.up hbq
 have M_6:=M_5.up hbq
 have lB_6:=B_6.lt
 have lM_6:=M_6.lt
 have s_6:=hbq.size
 generalize w4.drewN nq=wq at *
 clear c7 c8
 go_wp2_with fail
 refine (bf I wq R k 23 d Q_6).mono ?_
 rintro e wf ⟨rfl,hdf,hVf⟩
 have U_7:=U_6.trans hVf
 have B_7:=B_6.but hVf (by omega)
 have M_7:=M_6.but hVf (by omega)
 have lB_7:=B_7.lt
 have lM_7:=M_7.lt
 have s_7:=hVf.size
 obtain⟨-,-,c2,-⟩:=hdf.nine
 go_wp2_with (first
  |(refine ah rfl 58 (.tmp 2) (.tmp 39) rfl w.heap.size 0 [.int .i64 0,.string ⟨#[]⟩,.string ⟨#[]⟩,.int .i64 0,.complex .f64 0 0,.slice none 0 0,.int .i64 0] rfl rfl B_7 (Nat.le_refl 7) Tryz.infoE gq.one ?_;intro wz B_8 ho7;have U_8:=ho7.but U_7 (by omega);have M_8:=M_7.oth ho7 (by omega);have Q_8:=hdf.oth ho7 (by omega) (by omega);have lM_8:=M_8.lt;have lB_8:=B_8.lt;obtain⟨q0,q1,q2,q3,q4,q5,q6⟩:=Bk.seven (show Bk wz w.heap.size _ [_,_,_,_,_,_,_] from B_8)))
 refine bodyPost_ret (v:=.agg #[.int .i64 0,.string ⟨#[]⟩,.string ⟨#[]⟩,.int .i64 0,.complex .f64 0 0,.slice none 0 0,.int .i64 0]) (by simp[results,Tryz.results92,go_sem,q0,q1,q2,q3,q4,q5,q6]) rfl ⟨_,rfl,gq,(fun _ _ e=>by cases e),⟨by omega,k,d,Q_8⟩,U_8⟩
theorem rexpr_case_deep (I:Rdi) (_hE:Ends I.M I.n) (hW:∀ s∈lks,Wm I.M s) (f:Nat) (_ihs:∀ g,g≤f→AllR I g) (w:World) (R:Nat) (k d:Nat) (h:Rq I w R k 0 0 d) (ht:tk I.M cK k=true) (hn:I.ln≤d) :
  Calls Tryz.prog 92 #[.pointer (some ⟨R,0,none⟩)] w (RA I R d w (.bad 23 k)):=by
 have hlt:=h.lt
 have bn:decide (I.ln≤(d:Int))=true:=by rw[decide_eq_true_eq];exact hn
 have t3:tk I.M cK k=true:=ht
 have t1:tk I.M tLet k=false:=by unfold tk at ht ⊢;rw[eq_of_beq ht];rfl
 have t2:tk I.M aL k=false:=by unfold tk at ht ⊢;rw[eq_of_beq ht];rfl
 have Q_1:=h.up (ae w (.cells ez 58))
 have U_1:=(But.refl R w).then (ae w (.cells ez 58))
 have B_1:=Bk.new w 58 ez
 have hcx:=aI
 go_enter Tryz.func92,Tryz.ntmps92
 go_wp2_with fail
 refine (aB I (w.alloc (.cells ez 58)) R k 0 0 d Q_1).mono ?_
 rintro e w1 ⟨rfl,hb1⟩
 unfold mkV
 have Q_2:=Q_1.up hb1
 have U_2:=U_1.then hb1
 have B_2:=B_1.up hb1
 have lB_2:=B_2.lt
 have s_2:=hb1.size
 go_wp2_with (first
  |(refine ah rfl 135 (.tmp 3) (.tmp 8) rfl w1.heap.size 0 (mkC (I.M k)) rfl rfl (Bk.new w1 135 mz) (Nat.le_refl 4) Tryz.infoM (aF _) ?_;intro w2 M_3 hoa3;have hba3:Below w1.heap.size w1 w2:=(ae w1 (.cells mz 135)).trans (hoa3.below (Nat.le_refl _));have Q_3:=Q_2.up hba3;have U_3:=U_2.then hba3;have B_3:=B_2.up hba3;have lB_3:=B_3.lt;have lM_3:=M_3.lt;have s_3:=hba3.size))
 refine (t1 ▸ aA I tLet (hW tLet (by simp[lks])) w2 R k 0 d Q_3:Calls Tryz.prog 90 #[.pointer (some ⟨R,0,none⟩),.string (bs tLet)] w2 fun e w'=>e=.returned (.bool false)∧Below w2.heap.size w2 w').mono ?_
 rintro e w3 ⟨rfl,hbw3⟩
 have Q_4:=Q_3.up hbw3
 have U_4:=U_3.then hbw3
 have B_4:=B_3.up hbw3
 have M_4:=M_3.up hbw3
 have lB_4:=B_4.lt
 have lM_4:=M_4.lt
 have s_4:=hbw3.size
 go_wp2_with fail
 refine (t2 ▸ aA I aL (hW aL (by simp[lks])) w3 R k 0 d Q_4:Calls Tryz.prog 90 #[.pointer (some ⟨R,0,none⟩),.string (bs aL)] w3 fun e w'=>e=.returned (.bool false)∧Below w3.heap.size w3 w').mono ?_
 rintro e w4 ⟨rfl,hbw4⟩
 have Q_5:=Q_4.up hbw4
 have U_5:=U_4.then hbw4
 have B_5:=B_4.up hbw4
 have M_5:=M_4.up hbw4
 have lB_5:=B_5.lt
 have lM_5:=M_5.lt
 have s_5:=hbw4.size
 go_wp2_with fail
 refine (t3 ▸ aA I cK (hW cK (by simp[lks])) w4 R k 0 d Q_5:Calls Tryz.prog 90 #[.pointer (some ⟨R,0,none⟩),.string (bs cK)] w4 fun e w'=>e=.returned (.bool true)∧Below w4.heap.size w4 w').mono ?_
 rintro e w5 ⟨rfl,hbw5⟩
 have Q_6:=Q_5.up hbw5
 have U_6:=U_5.then hbw5
 have B_6:=B_5.up hbw5
 have M_6:=M_5.up hbw5
 have lB_6:=B_6.lt
 have lM_6:=M_6.lt
 have s_6:=hbw5.size
 obtain⟨-,-,-,-,-,-,c7,c8⟩:=Q_6.nine
 go_wp2_with fail
 go_quiet (fail)
 have hbq:Below w5.heap.size w5 (w5.drewN nq):=⟨rfl,rfl,rfl,Nat.le_refl _,fun _ _=>rfl⟩
 have Q_7:=Q_6.up hbq
 have U_7:=U_6.then hbq
 have B_7:=B_6.up hbq
 have M_7:=M_6.up hbq
 have lB_7:=B_7.lt
 have lM_7:=M_7.lt
 have s_7:=hbq.size
 generalize w5.drewN nq=wq at *
 clear c7 c8
 go_wp2_with fail
 refine (bf I wq R k 23 d Q_7).mono ?_
 rintro e wf ⟨rfl,hdf,hVf⟩
 have U_8:=U_7.trans hVf
 have B_8:=B_7.but hVf (by omega)
 have M_8:=M_7.but hVf (by omega)
 have lB_8:=B_8.lt
 have lM_8:=M_8.lt
 have s_8:=hVf.size
 obtain⟨-,-,c2,-⟩:=hdf.nine
 go_wp2_with (first
  |(refine ah rfl 58 (.tmp 2) (.tmp 39) rfl w.heap.size 0 [.int .i64 0,.string ⟨#[]⟩,.string ⟨#[]⟩,.int .i64 0,.complex .f64 0 0,.slice none 0 0,.int .i64 0] rfl rfl B_8 (Nat.le_refl 7) Tryz.infoE gq.one ?_;intro wz B_9 ho8;have U_9:=ho8.but U_8 (by omega);have M_9:=M_8.oth ho8 (by omega);have Q_9:=hdf.oth ho8 (by omega) (by omega);have lM_9:=M_9.lt;have lB_9:=B_9.lt;obtain⟨q0,q1,q2,q3,q4,q5,q6⟩:=Bk.seven (show Bk wz w.heap.size _ [_,_,_,_,_,_,_] from B_9)))
 refine bodyPost_ret (v:=.agg #[.int .i64 0,.string ⟨#[]⟩,.string ⟨#[]⟩,.int .i64 0,.complex .f64 0 0,.slice none 0 0,.int .i64 0]) (by simp[results,Tryz.results92,go_sem,q0,q1,q2,q3,q4,q5,q6]) rfl ⟨_,rfl,gq,(fun _ _ e=>by cases e),⟨by omega,k,d,Q_9⟩,U_9⟩
theorem rexpr_cons (I:Rdi) (_hE:Ends I.M I.n) (hW:∀ s∈lks,Wm I.M s) (f:Nat) (ihs:∀ g,g≤f→AllR I g) (w:World) (R:Nat) (k d:Nat) (h:Rq I w R k 0 0 d) (t1:tk I.M tLet k=false) (t2:tk I.M aL k=false) (t3:tk I.M cK k=false) (t4:tk I.M tIf k=false) (hne:consP I.M (lmOf I) f d k≠.out) :
  Calls Tryz.prog 92 #[.pointer (some ⟨R,0,none⟩)] w (RA I R d w (consP I.M (lmOf I) f d k)):=by
 have hlt:=h.lt
 have Q_1:=h.up (ae w (.cells ez 58))
 have U_1:=(But.refl R w).then (ae w (.cells ez 58))
 have B_1:=Bk.new w 58 ez
 have hcx:=aI
 go_enter Tryz.func92,Tryz.ntmps92
 go_wp2_with fail
 refine (aB I (w.alloc (.cells ez 58)) R k 0 0 d Q_1).mono ?_
 rintro e w1 ⟨rfl,hb1⟩
 unfold mkV
 have Q_2:=Q_1.up hb1
 have U_2:=U_1.then hb1
 have B_2:=B_1.up hb1
 have lB_2:=B_2.lt
 have s_2:=hb1.size
 go_wp2_with (first
  |(refine ah rfl 135 (.tmp 3) (.tmp 8) rfl w1.heap.size 0 (mkC (I.M k)) rfl rfl (Bk.new w1 135 mz) (Nat.le_refl 4) Tryz.infoM (aF _) ?_;intro w2 M_3 hoa3;have hba3:Below w1.heap.size w1 w2:=(ae w1 (.cells mz 135)).trans (hoa3.below (Nat.le_refl _));have Q_3:=Q_2.up hba3;have U_3:=U_2.then hba3;have B_3:=B_2.up hba3;have lB_3:=B_3.lt;have lM_3:=M_3.lt;have s_3:=hba3.size))
 refine (t1 ▸ aA I tLet (hW tLet (by simp[lks])) w2 R k 0 d Q_3:Calls Tryz.prog 90 #[.pointer (some ⟨R,0,none⟩),.string (bs tLet)] w2 fun e w'=>e=.returned (.bool false)∧Below w2.heap.size w2 w').mono ?_
 rintro e w3 ⟨rfl,hbw3⟩
 have Q_4:=Q_3.up hbw3
 have U_4:=U_3.then hbw3
 have B_4:=B_3.up hbw3
 have M_4:=M_3.up hbw3
 have lB_4:=B_4.lt
 have lM_4:=M_4.lt
 have s_4:=hbw3.size
 go_wp2_with fail
 refine (t2 ▸ aA I aL (hW aL (by simp[lks])) w3 R k 0 d Q_4:Calls Tryz.prog 90 #[.pointer (some ⟨R,0,none⟩),.string (bs aL)] w3 fun e w'=>e=.returned (.bool false)∧Below w3.heap.size w3 w').mono ?_
 rintro e w4 ⟨rfl,hbw4⟩
 have Q_5:=Q_4.up hbw4
 have U_5:=U_4.then hbw4
 have B_5:=B_4.up hbw4
 have M_5:=M_4.up hbw4
 have lB_5:=B_5.lt
 have lM_5:=M_5.lt
 have s_5:=hbw4.size
 go_wp2_with fail
 refine (t3 ▸ aA I cK (hW cK (by simp[lks])) w4 R k 0 d Q_5:Calls Tryz.prog 90 #[.pointer (some ⟨R,0,none⟩),.string (bs cK)] w4 fun e w'=>e=.returned (.bool false)∧Below w4.heap.size w4 w').mono ?_
 rintro e w5 ⟨rfl,hbw5⟩
 have Q_6:=Q_5.up hbw5
 have U_6:=U_5.then hbw5
 have B_6:=B_5.up hbw5
 have M_6:=M_5.up hbw5
 have lB_6:=B_6.lt
 have lM_6:=M_6.lt
 have s_6:=hbw5.size
 go_wp2_with fail
 go_quiet (fail)
 have hbq:Below w5.heap.size w5 (w5.drewN nq):=⟨rfl,rfl,rfl,Nat.le_refl _,fun _ _=>rfl⟩
 have Q_7:=Q_6.up hbq
 have U_7:=U_6.then hbq
 have B_7:=B_6.up hbq
 have M_7:=M_6.up hbq
 have lB_7:=B_7.lt
 have lM_7:=M_7.lt
 have s_7:=hbq.size
 generalize w5.drewN nq=wq at *
 obtain⟨-,-,c2,-⟩:=Q_7.nine
 go_wp2_with fail
 refine (t4 ▸ aA I tIf (hW tIf (by simp[lks])) wq R k 0 d Q_7:Calls Tryz.prog 90 #[.pointer (some ⟨R,0,none⟩),.string (bs tIf)] wq fun e w'=>e=.returned (.bool false)∧Below wq.heap.size wq w').mono ?_
 rintro e wi ⟨rfl,hbwi⟩
 have Q_8:=Q_7.up hbwi
 have U_8:=U_7.then hbwi
 have B_8:=B_7.up hbwi
 have M_8:=M_7.up hbwi
 have lB_8:=B_8.lt
 have lM_8:=M_8.lt
 have s_8:=hbwi.size
 go_wp2_with fail
 refine ((ihs f (Nat.le_refl _)).cons (.ok () k) wi R d Q_8 hne).mono ?_
 rintro e w6 ⟨us,rfl,sv2,hex2,hs2,hV6⟩
 rw[az] at hex2 hs2
 obtain⟨b0,b1,b2,b3,b4,b5,b6,rfl⟩:=aQ sv2.len
 have U_9:=U_8.trans hV6
 have B_9:=B_8.but hV6 (by omega)
 have lB_9:=B_9.lt
 have s_9:=hV6.size
 have hxb:=fun x j e=>(hex2 x j e).imp (A':=fun b=>w.heap.size<b) fun b hb hl=>by omega
 go_wp2_with (first
  |(refine ah rfl 58 (.tmp 2) (.tmp 48) rfl w.heap.size 0 [b0,b1,b2,b3,b4,b5,b6] rfl rfl B_9 (Nat.le_refl 7) Tryz.infoE sv2.one ?_;intro wz B_10 ho9;have U_10:=ho9.but U_9 (by omega);have Q_10:=hs2.oth ho9 (by omega) (by omega);have Y_10:=fun x j e=>(hxb x j e).oth2 ho9 (fun b hb=>by omega);have lB_10:=B_10.lt;obtain⟨q0,q1,q2,q3,q4,q5,q6⟩:=Bk.seven (show Bk wz w.heap.size _ [_,_,_,_,_,_,_] from B_10)))
 refine bodyPost_ret (v:=.agg #[b0,b1,b2,b3,b4,b5,b6]) (by simp[results,Tryz.results92,go_sem,q0,q1,q2,q3,q4,q5,q6]) rfl ⟨_,rfl,sv2,(fun x j e=>(Y_10 x j e).imp fun b hb _=>by omega),Q_10,U_10⟩
theorem rexpr_if (I:Rdi) (hE:Ends I.M I.n) (hW:∀ s∈lks,Wm I.M s) (f:Nat) (ihs:∀ g,g≤f→AllR I g) (w:World) (R:Nat) (k d:Nat) (h:Rq I w R k 0 0 d) (ht:tk I.M tIf k=true) (hne:ifP I.M (lmOf I) (f+1) d k≠.out) :
  Calls Tryz.prog 92 #[.pointer (some ⟨R,0,none⟩)] w (RA I R d w (ifP I.M (lmOf I) (f+1) d k)):=by
 have hn3:(nx (nx (nx (nx (nx (.ok () (k+1):Rs Unit) (exprP I.M (lmOf I) f d)) (aj I.M [116,104,101,110])) (exprP I.M (lmOf I) f d)) (aj I.M [101,108,115,101])) (exprP I.M (lmOf I) f d))≠.out:=by
  intro e
  apply hne
  rw[ifP]
  rw[az] at e
  cases hq1:exprP I.M (lmOf I) f d (k+1) with
  |out=>rfl
  |bad y j=>rw[hq1] at e;cases e
  |ok a ka=>
   rw[hq1,az] at e
   rw[ak rfl]
   cases hq2:aj I.M [116,104,101,110] ka with
   |out=>rw[show aj I.M jw ka=_ from hq2];rfl
   |bad y j=>rw[hq2] at e;cases e
   |ok u k2=>
    rw[hq2,az] at e
    rw[ak (show aj I.M jw ka=_ from hq2)]
    cases hq3:exprP I.M (lmOf I) f d k2 with
    |out=>rfl
    |bad y j=>rw[hq3] at e;cases e
    |ok b kb=>
     rw[hq3,az] at e
     rw[ak rfl]
     cases hq4:aj I.M [101,108,115,101] kb with
     |out=>rw[show aj I.M jr kb=_ from hq4];rfl
     |bad y j=>rw[hq4] at e;cases e
     |ok u k4=>
      rw[hq4,az] at e
      rw[ak (show aj I.M jr kb=_ from hq4),e]
      rfl
 have hlt:=h.lt
 have t1:tk I.M tLet k=false:=by unfold tk at ht ⊢;rw[eq_of_beq ht];rfl
 have t2:tk I.M aL k=false:=by unfold tk at ht ⊢;rw[eq_of_beq ht];rfl
 have t3:tk I.M cK k=false:=by unfold tk at ht ⊢;rw[eq_of_beq ht];rfl
 have htx:((bs (I.M k).text).toList==[105,102])=true:=by rw[aG];exact ht
 have hk1:=hE.tk I.M ht (by decide) h.kn
 have hw:=w64k k (by have:=h.small;omega)
 have Q_1:=h.up (ae w (.cells ez 58))
 have U_1:=(But.refl R w).then (ae w (.cells ez 58))
 have B_1:=Bk.new w 58 ez
 have hcx:=aI
 go_enter Tryz.func92,Tryz.ntmps92
 go_wp2_with fail
 refine (aB I (w.alloc (.cells ez 58)) R k 0 0 d Q_1).mono ?_
 rintro e w1 ⟨rfl,hb1⟩
 unfold mkV
 have Q_2:=Q_1.up hb1
 have U_2:=U_1.then hb1
 have B_2:=B_1.up hb1
 have lB_2:=B_2.lt
 have s_2:=hb1.size
 go_wp2_with (first
  |(refine ah rfl 135 (.tmp 3) (.tmp 8) rfl w1.heap.size 0 (mkC (I.M k)) rfl rfl (Bk.new w1 135 mz) (Nat.le_refl 4) Tryz.infoM (aF _) ?_;intro w2 M_3 hoa3;have hba3:Below w1.heap.size w1 w2:=(ae w1 (.cells mz 135)).trans (hoa3.below (Nat.le_refl _));have Q_3:=Q_2.up hba3;have U_3:=U_2.then hba3;have B_3:=B_2.up hba3;have lB_3:=B_3.lt;have lM_3:=M_3.lt;have s_3:=hba3.size))
 refine (t1 ▸ aA I tLet (hW tLet (by simp[lks])) w2 R k 0 d Q_3:Calls Tryz.prog 90 #[.pointer (some ⟨R,0,none⟩),.string (bs tLet)] w2 fun e w'=>e=.returned (.bool false)∧Below w2.heap.size w2 w').mono ?_
 rintro e w3 ⟨rfl,hbw3⟩
 have Q_4:=Q_3.up hbw3
 have U_4:=U_3.then hbw3
 have B_4:=B_3.up hbw3
 have M_4:=M_3.up hbw3
 have lB_4:=B_4.lt
 have lM_4:=M_4.lt
 have s_4:=hbw3.size
 go_wp2_with fail
 refine (t2 ▸ aA I aL (hW aL (by simp[lks])) w3 R k 0 d Q_4:Calls Tryz.prog 90 #[.pointer (some ⟨R,0,none⟩),.string (bs aL)] w3 fun e w'=>e=.returned (.bool false)∧Below w3.heap.size w3 w').mono ?_
 rintro e w4 ⟨rfl,hbw4⟩
 have Q_5:=Q_4.up hbw4
 have U_5:=U_4.then hbw4
 have B_5:=B_4.up hbw4
 have M_5:=M_4.up hbw4
 have lB_5:=B_5.lt
 have lM_5:=M_5.lt
 have s_5:=hbw4.size
 go_wp2_with fail
 refine (t3 ▸ aA I cK (hW cK (by simp[lks])) w4 R k 0 d Q_5:Calls Tryz.prog 90 #[.pointer (some ⟨R,0,none⟩),.string (bs cK)] w4 fun e w'=>e=.returned (.bool false)∧Below w4.heap.size w4 w').mono ?_
 rintro e w5 ⟨rfl,hbw5⟩
 have Q_6:=Q_5.up hbw5
 have U_6:=U_5.then hbw5
 have B_6:=B_5.up hbw5
 have M_6:=M_5.up hbw5
 have lB_6:=B_6.lt
 have lM_6:=M_6.lt
 have s_6:=hbw5.size
 go_wp2_with fail
 go_quiet (fail)
 have hbq:Below w5.heap.size w5 (w5.drewN nq):=⟨rfl,rfl,rfl,Nat.le_refl _,fun _ _=>rfl⟩
 have Q_7:=Q_6.up hbq
 have U_7:=U_6.then hbq
 have B_7:=B_6.up hbq
 have M_7:=M_6.up hbq
 have lB_7:=B_7.lt
 have lM_7:=M_7.lt
 have s_7:=hbq.size
 generalize w5.drewN nq=wq at *
 obtain⟨-,-,c2,-⟩:=Q_7.nine
 go_wp2_with fail
 refine (ht ▸ aA I tIf (hW tIf (by simp[lks])) wq R k 0 d Q_7:Calls Tryz.prog 90 #[.pointer (some ⟨R,0,none⟩),.string (bs tIf)] wq fun e w'=>e=.returned (.bool true)∧Below wq.heap.size wq w').mono ?_
 rintro e wi ⟨rfl,hbwi⟩
 have Q_8:=Q_7.up hbwi
 have U_8:=U_7.then hbwi
 have B_8:=B_7.up hbwi
 have M_8:=M_7.up hbwi
 have lB_8:=B_8.lt
 have lM_8:=M_8.lt
 have s_8:=hbwi.size
 obtain⟨m0,m1,m2,m3⟩:=Bk.four (show Bk wi w1.heap.size _ [_,_,_,_] from M_8)
 obtain⟨-,c1,c2,-⟩:=Q_8.nine
 have z1:=Q_8.blk.frz 1
 have hdn:=Q_8.go (k+1) hk1
 have hVn:=(But.refl R wi).setR (j:=1) (.int .i64 ((k+1:Nat):Int))
 have U_9:=U_8.trans hVn
 have B_9:=B_8.but hVn (by omega)
 have M_9:=M_8.but hVn (by omega)
 have lB_9:=B_9.lt
 have lM_9:=M_9.lt
 have s_9:=hVn.size
 have U_10:=U_9.then (ae (wi.setCell ⟨R,1,none⟩ (.int .i64 ((k+1:Nat):Int))) (.cells #[.int .i64 19,.string ⟨#[]⟩,.string ⟨#[]⟩,.int .i64 0,.complex .f64 0 0,.slice none 0 0,.int .i64 (I.M k).at_] 58))
 have B_10:=B_9.up (ae (wi.setCell ⟨R,1,none⟩ (.int .i64 ((k+1:Nat):Int))) (.cells #[.int .i64 19,.string ⟨#[]⟩,.string ⟨#[]⟩,.int .i64 0,.complex .f64 0 0,.slice none 0 0,.int .i64 (I.M k).at_] 58))
 have Q_10:=hdn.up (ae (wi.setCell ⟨R,1,none⟩ (.int .i64 ((k+1:Nat):Int))) (.cells #[.int .i64 19,.string ⟨#[]⟩,.string ⟨#[]⟩,.int .i64 0,.complex .f64 0 0,.slice none 0 0,.int .i64 (I.M k).at_] 58))
 have hEa:Bk ((wi.setCell ⟨R,1,none⟩ (.int .i64 ((k+1:Nat):Int))).alloc (.cells #[.int .i64 19,.string ⟨#[]⟩,.string ⟨#[]⟩,.int .i64 0,.complex .f64 0 0,.slice none 0 0,.int .i64 (I.M k).at_] 58)) wi.heap.size 58 [.int .i64 19,.string ⟨#[]⟩,.string ⟨#[]⟩,.int .i64 0,.complex .f64 0 0,.slice none 0 0,.int .i64 (I.M k).at_]:=Bk.newAt 58 #[.int .i64 19,.string ⟨#[]⟩,.string ⟨#[]⟩,.int .i64 0,.complex .f64 0 0,.slice none 0 0,.int .i64 (I.M k).at_] (by simp)
 have U_11:=U_10.then (ae ((wi.setCell ⟨R,1,none⟩ (.int .i64 ((k+1:Nat):Int))).alloc (.cells #[.int .i64 19,.string ⟨#[]⟩,.string ⟨#[]⟩,.int .i64 0,.complex .f64 0 0,.slice none 0 0,.int .i64 (I.M k).at_] 58)) (.cells #[.string ⟨#[]⟩,.string ⟨#[116,104,101,110]⟩,.string ⟨#[101,108,115,101]⟩] 9))
 have B_11:=B_10.up (ae ((wi.setCell ⟨R,1,none⟩ (.int .i64 ((k+1:Nat):Int))).alloc (.cells #[.int .i64 19,.string ⟨#[]⟩,.string ⟨#[]⟩,.int .i64 0,.complex .f64 0 0,.slice none 0 0,.int .i64 (I.M k).at_] 58)) (.cells #[.string ⟨#[]⟩,.string ⟨#[116,104,101,110]⟩,.string ⟨#[101,108,115,101]⟩] 9))
 have Q_11:=Q_10.up (ae ((wi.setCell ⟨R,1,none⟩ (.int .i64 ((k+1:Nat):Int))).alloc (.cells #[.int .i64 19,.string ⟨#[]⟩,.string ⟨#[]⟩,.int .i64 0,.complex .f64 0 0,.slice none 0 0,.int .i64 (I.M k).at_] 58)) (.cells #[.string ⟨#[]⟩,.string ⟨#[116,104,101,110]⟩,.string ⟨#[101,108,115,101]⟩] 9))
 have E_11:=hEa.up (ae ((wi.setCell ⟨R,1,none⟩ (.int .i64 ((k+1:Nat):Int))).alloc (.cells #[.int .i64 19,.string ⟨#[]⟩,.string ⟨#[]⟩,.int .i64 0,.complex .f64 0 0,.slice none 0 0,.int .i64 (I.M k).at_] 58)) (.cells #[.string ⟨#[]⟩,.string ⟨#[116,104,101,110]⟩,.string ⟨#[101,108,115,101]⟩] 9))
 have lB_11:=B_11.lt
 have lE_11:=E_11.lt
 have hSp:Bk (((wi.setCell ⟨R,1,none⟩ (.int .i64 ((k+1:Nat):Int))).alloc (.cells #[.int .i64 19,.string ⟨#[]⟩,.string ⟨#[]⟩,.int .i64 0,.complex .f64 0 0,.slice none 0 0,.int .i64 (I.M k).at_] 58)).alloc (.cells #[.string ⟨#[]⟩,.string ⟨#[116,104,101,110]⟩,.string ⟨#[101,108,115,101]⟩] 9)) (wi.heap.size+1) 9 [.string ⟨#[]⟩,.string ⟨#[116,104,101,110]⟩,.string ⟨#[101,108,115,101]⟩]:=Bk.newAt 9 #[.string ⟨#[]⟩,.string ⟨#[116,104,101,110]⟩,.string ⟨#[101,108,115,101]⟩] (by simp)
 have hszP:(((wi.setCell ⟨R,1,none⟩ (.int .i64 ((k+1:Nat):Int))).alloc (.cells #[.int .i64 19,.string ⟨#[]⟩,.string ⟨#[]⟩,.int .i64 0,.complex .f64 0 0,.slice none 0 0,.int .i64 (I.M k).at_] 58)).alloc (.cells #[.string ⟨#[]⟩,.string ⟨#[116,104,101,110]⟩,.string ⟨#[101,108,115,101]⟩] 9)).heap.size=wi.heap.size+2:=by simp
 go_wp2_with fail
 have hcall:=rparts3 I hE hW f (ihs f (by omega)) (.ok () (k+1):Rs Unit) _ R d (wi.heap.size+1) Q_11 hSp (by omega) hn3
 refine hcall.mono ?_
 rintro e w6 ⟨v,rfl,hrj,hV6,hs6,hrow⟩
 clear hcall
 have U_12:=U_11.trans hV6
 have B_12:=B_11.but hV6 (by omega)
 have E_12:=E_11.but hV6 (by omega)
 have lB_12:=B_12.lt
 have lE_12:=E_12.lt
 have s_12:=hV6.size
 obtain⟨ao,cc,rfl⟩:=hrj.val
 rw[hszP] at hrow hrj
 clear hszP
 have e5:w6.cell? ⟨wi.heap.size,5,none⟩=some (.slice none 0 0):=E_12.cell 5
 have z5:=E_12.frz 5
 have hoE:=(Oth.refl wi.heap.size w6).set 5 (.slice ao 3 cc)
 have U_13:=hoE.but U_12 (by omega)
 have B_13:=B_12.oth hoE (by omega)
 have Q_13:=hs6.oth hoE (by omega) (by omega)
 have hEn:Bk (w6.setCell ⟨wi.heap.size,5,none⟩ (.slice ao 3 cc)) wi.heap.size 58 [.int .i64 19,.string ⟨#[]⟩,.string ⟨#[]⟩,.int .i64 0,.complex .f64 0 0,.slice ao 3 cc,.int .i64 (I.M k).at_]:=E_12.set 5 _
 have hxe:=fun a ka b kb c kc e1 e2 e3=>dI (op:=19) (name:=[]) (tail:=[]) (ty:=0) (pos:=(I.M k).at_) (c:=cc) (n:=3) (xs:=[a,b,c]) (A:=fun b=>w.heap.size<b) (((qx (hrow a ka b kb c kc e1 e2 e3)).keep (w':=(w6.setCell ⟨wi.heap.size,5,none⟩ (.slice ao 3 cc))) fun b hb _=>hoE.block b (by omega)).imp fun b hb _=>by omega) rfl
 have lB_13:=B_13.lt
 have lE_13:=hEn.lt
 go_wp2_with (first
  |refine ai rfl 58 (.tmp 5) rfl wi.heap.size 0 rfl [.int .i64 19,.string ⟨#[]⟩,.string ⟨#[]⟩,.int .i64 0,.complex .f64 0 0,.slice ao 3 cc,.int .i64 (I.M k).at_] _ (hEn.range 0 7) Tryz.underE Tryz.infoE ?_
  |(refine ah rfl 58 (.tmp 2) (.tmp 105) rfl w.heap.size 0 [.int .i64 19,.string ⟨#[]⟩,.string ⟨#[]⟩,.int .i64 0,.complex .f64 0 0,.slice ao 3 cc,.int .i64 (I.M k).at_] rfl rfl B_13 (Nat.le_refl 7) Tryz.infoE (show Sv [.int .i64 19,.string ⟨#[]⟩,.string ⟨#[]⟩,.int .i64 0,.complex .f64 0 0,.slice ao 3 cc,.int .i64 (I.M k).at_] from bX 19 0 0 0 ⟨#[]⟩ ⟨#[]⟩ (.slice ao 3 cc) rfl _).one ?_;intro wz B_14 ho13;have U_14:=ho13.but U_13 (by omega);have Q_14:=Q_13.oth ho13 (by omega) (by omega);have E_14:=hEn.oth ho13 (by omega);have lE_14:=E_14.lt;have lB_14:=B_14.lt;obtain⟨q0,q1,q2,q3,q4,q5,q6⟩:=Bk.seven (show Bk wz w.heap.size _ [_,_,_,_,_,_,_] from B_14);have hze:=fun a ka b kb c kc e1 e2 e3=>(hxe a ka b kb c kc e1 e2 e3).oth2 ho13 (fun b hb=>by omega)))
 refine bodyPost_ret (v:=.agg #[.int .i64 19,.string ⟨#[]⟩,.string ⟨#[]⟩,.int .i64 0,.complex .f64 0 0,.slice ao 3 cc,.int .i64 (I.M k).at_]) (by simp[results,Tryz.results92,go_sem,q0,q1,q2,q3,q4,q5,q6]) rfl ⟨_,rfl,(show Sv [.int .i64 19,.string ⟨#[]⟩,.string ⟨#[]⟩,.int .i64 0,.complex .f64 0 0,.slice ao 3 cc,.int .i64 (I.M k).at_] from bX 19 0 0 0 ⟨#[]⟩ ⟨#[]⟩ (.slice ao 3 cc) rfl _),?_,?_,U_14⟩
 ·intro x j e
  rw[ifP] at e
  obtain⟨a,ka,e1,e2⟩:=au.1 e
  obtain⟨_,k2,e3,e4⟩:=au.1 e2
  obtain⟨b,kb,e5,e6⟩:=au.1 e4
  obtain⟨_,k4,e7,e8⟩:=au.1 e6
  obtain⟨c,kc,e9,e10⟩:=au.1 e8
  have s1:(nx (.ok () (k+1):Rs Unit) (exprP I.M (lmOf I) f d))=.ok a ka:=e1
  have s2:(nx (nx (nx (.ok () (k+1):Rs Unit) (exprP I.M (lmOf I) f d)) (aj I.M [116,104,101,110])) (exprP I.M (lmOf I) f d))=.ok b kb:=by rw[s1,az,show aj I.M [116,104,101,110] ka=_ from e3,az];exact e5
  have s3:(nx (nx (nx (nx (nx (.ok () (k+1):Rs Unit) (exprP I.M (lmOf I) f d)) (aj I.M [116,104,101,110])) (exprP I.M (lmOf I) f d)) (aj I.M [101,108,115,101])) (exprP I.M (lmOf I) f d))=.ok c kc:=by rw[s2,az,show aj I.M [101,108,115,101] kb=_ from e7,az];exact e9
  cases e10
  exact (hze a ka b kb c _ s1 s2 s3).imp fun b hb _=>by omega
 ·rw[ifP]
  have hz:=Q_14
  rw[az] at hz
  cases hq1:exprP I.M (lmOf I) f d (k+1) with
  |out=>rw[hq1] at hz;exact hz.elim
  |bad y j=>rw[hq1] at hz;exact hz
  |ok a ka=>
   rw[hq1,az] at hz
   rw[ak rfl]
   cases hq2:aj I.M [116,104,101,110] ka with
   |out=>rw[hq2] at hz;exact hz.elim
   |bad y j=>rw[hq2] at hz;rw[jk (show aj I.M jw ka=_ from hq2)];exact hz
   |ok u k2=>
    rw[hq2,az] at hz
    rw[ak (show aj I.M jw ka=_ from hq2)]
    cases hq3:exprP I.M (lmOf I) f d k2 with
    |out=>rw[hq3] at hz;exact hz.elim
    |bad y j=>rw[hq3] at hz;exact hz
    |ok b kb=>
     rw[hq3,az] at hz
     rw[ak rfl]
     cases hq4:aj I.M [101,108,115,101] kb with
     |out=>rw[hq4] at hz;exact hz.elim
     |bad y j=>rw[hq4] at hz;rw[jk (show aj I.M jr kb=_ from hq4)];exact hz
     |ok u k4=>
      rw[hq4,az] at hz
      rw[ak (show aj I.M jr kb=_ from hq4)]
      cases hq5:exprP I.M (lmOf I) f d k4 with
      |out=>rw[hq5] at hz;exact hz.elim
      |bad y j=>rw[hq5] at hz;exact hz
      |ok c kc=>rw[hq5] at hz;exact hz
theorem rexpr_case (I:Rdi) (hE:Ends I.M I.n) (hW:∀ s∈lks,Wm I.M s) (f:Nat) (ihs:∀ g,g≤f→AllR I g) (w:World) (R:Nat) (k d:Nat) (h:Rq I w R k 0 0 d) (hln:I.ln≤9223372036854775807) (ht:tk I.M cK k=true) (hn:(d:Int)<I.ln) (hne:caseP I.M (lmOf I) (f+1) d k≠.out) :
  Calls Tryz.prog 92 #[.pointer (some ⟨R,0,none⟩)] w (RA I R d w (caseP I.M (lmOf I) (f+1) d k)):=by
 have hlt:=h.lt
 have bn:decide (I.ln≤(d:Int))=false:=by rw[decide_eq_false_iff_not];omega
 have t3:tk I.M cK k=true:=ht
 have t1:tk I.M tLet k=false:=by unfold tk at ht ⊢;rw[eq_of_beq ht];rfl
 have t2:tk I.M aL k=false:=by unfold tk at ht ⊢;rw[eq_of_beq ht];rfl
 have x1:((bs (I.M k).text).toList==[105,102])=false:=by rw[aG];unfold tk at ht;rw[eq_of_beq ht];rfl
 have x2:((bs (I.M k).text).toList==[99,97,115,101])=true:=by rw[aG];unfold tk at ht;rw[eq_of_beq ht];rfl
 have x3:((bs (I.M k).text).toList==[115,116,114,105,99,116])=false:=by rw[aG];unfold tk at ht;rw[eq_of_beq ht];rfl
 have hk1:=hE.tk I.M ht (by decide) h.kn
 have hw:=w64k k (by have:=h.small;omega)
 have hwd:wrap64 ((d:Int)+1)=((d+1:Nat):Int):=by simp only[wrap64];omega
 have Q_1:=h.up (ae w (.cells ez 58))
 have U_1:=(But.refl R w).then (ae w (.cells ez 58))
 have B_1:=Bk.new w 58 ez
 have hcx:=aI
 go_enter Tryz.func92,Tryz.ntmps92
 go_wp2_with fail
 refine (aB I (w.alloc (.cells ez 58)) R k 0 0 d Q_1).mono ?_
 rintro e w1 ⟨rfl,hb1⟩
 unfold mkV
 have Q_2:=Q_1.up hb1
 have U_2:=U_1.then hb1
 have B_2:=B_1.up hb1
 have lB_2:=B_2.lt
 have s_2:=hb1.size
 go_wp2_with (first
  |(refine ah rfl 135 (.tmp 3) (.tmp 8) rfl w1.heap.size 0 (mkC (I.M k)) rfl rfl (Bk.new w1 135 mz) (Nat.le_refl 4) Tryz.infoM (aF _) ?_;intro w2 M_3 hoa3;have hba3:Below w1.heap.size w1 w2:=(ae w1 (.cells mz 135)).trans (hoa3.below (Nat.le_refl _));have Q_3:=Q_2.up hba3;have U_3:=U_2.then hba3;have B_3:=B_2.up hba3;have lB_3:=B_3.lt;have lM_3:=M_3.lt;have s_3:=hba3.size))
 refine (t1 ▸ aA I tLet (hW tLet (by simp[lks])) w2 R k 0 d Q_3:Calls Tryz.prog 90 #[.pointer (some ⟨R,0,none⟩),.string (bs tLet)] w2 fun e w'=>e=.returned (.bool false)∧Below w2.heap.size w2 w').mono ?_
 rintro e w3 ⟨rfl,hbw3⟩
 have Q_4:=Q_3.up hbw3
 have U_4:=U_3.then hbw3
 have B_4:=B_3.up hbw3
 have M_4:=M_3.up hbw3
 have lB_4:=B_4.lt
 have lM_4:=M_4.lt
 have s_4:=hbw3.size
 go_wp2_with fail
 refine (t2 ▸ aA I aL (hW aL (by simp[lks])) w3 R k 0 d Q_4:Calls Tryz.prog 90 #[.pointer (some ⟨R,0,none⟩),.string (bs aL)] w3 fun e w'=>e=.returned (.bool false)∧Below w3.heap.size w3 w').mono ?_
 rintro e w4 ⟨rfl,hbw4⟩
 have Q_5:=Q_4.up hbw4
 have U_5:=U_4.then hbw4
 have B_5:=B_4.up hbw4
 have M_5:=M_4.up hbw4
 have lB_5:=B_5.lt
 have lM_5:=M_5.lt
 have s_5:=hbw4.size
 go_wp2_with fail
 refine (t3 ▸ aA I cK (hW cK (by simp[lks])) w4 R k 0 d Q_5:Calls Tryz.prog 90 #[.pointer (some ⟨R,0,none⟩),.string (bs cK)] w4 fun e w'=>e=.returned (.bool true)∧Below w4.heap.size w4 w').mono ?_
 rintro e w5 ⟨rfl,hbw5⟩
 have Q_6:=Q_5.up hbw5
 have U_6:=U_5.then hbw5
 have B_6:=B_5.up hbw5
 have M_6:=M_5.up hbw5
 have lB_6:=B_6.lt
 have lM_6:=M_6.lt
 have s_6:=hbw5.size
 obtain⟨-,-,-,-,-,-,c7,c8⟩:=Q_6.nine
 go_wp2_with fail
 go_quiet (fail)
 have hbq:Below w5.heap.size w5 (w5.drewN nq):=⟨rfl,rfl,rfl,Nat.le_refl _,fun _ _=>rfl⟩
 have Q_7:=Q_6.up hbq
 have U_7:=U_6.then hbq
 have B_7:=B_6.up hbq
 have M_7:=M_6.up hbq
 have lB_7:=B_7.lt
 have lM_7:=M_7.lt
 have s_7:=hbq.size
 generalize w5.drewN nq=wq at *
 clear c7 c8
 obtain⟨m0,m1,m2,m3⟩:=Bk.four (show Bk wq w1.heap.size _ [_,_,_,_] from M_7)
 obtain⟨-,c1,c2,-,-,-,-,c8⟩:=Q_7.nine
 have z1:=Q_7.blk.frz 1
 have z8:=Q_7.blk.frz 8
 have hdn:=(Q_7.nest ((d+1:Nat):Int)).go (k+1) hk1
 have hVn:=((But.refl R wq).setR (j:=8) (.int .i64 ((d+1:Nat):Int))).setR (j:=1) (.int .i64 ((k+1:Nat):Int))
 have U_8:=U_7.trans hVn
 have B_8:=B_7.but hVn (by omega)
 have M_8:=M_7.but hVn (by omega)
 have lB_8:=B_8.lt
 have lM_8:=M_8.lt
 have s_8:=hVn.size
 have U_9:=U_8.then (ae ((wq.setCell ⟨R,8,none⟩ (.int .i64 ((d+1:Nat):Int))).setCell ⟨R,1,none⟩ (.int .i64 ((k+1:Nat):Int))) (.cells #[.int .i64 0,.string ⟨#[]⟩,.string ⟨#[]⟩,.int .i64 0,.complex .f64 0 0,.slice none 0 0,.int .i64 (I.M k).at_] 58))
 have B_9:=B_8.up (ae ((wq.setCell ⟨R,8,none⟩ (.int .i64 ((d+1:Nat):Int))).setCell ⟨R,1,none⟩ (.int .i64 ((k+1:Nat):Int))) (.cells #[.int .i64 0,.string ⟨#[]⟩,.string ⟨#[]⟩,.int .i64 0,.complex .f64 0 0,.slice none 0 0,.int .i64 (I.M k).at_] 58))
 have Q_9:=hdn.up (ae ((wq.setCell ⟨R,8,none⟩ (.int .i64 ((d+1:Nat):Int))).setCell ⟨R,1,none⟩ (.int .i64 ((k+1:Nat):Int))) (.cells #[.int .i64 0,.string ⟨#[]⟩,.string ⟨#[]⟩,.int .i64 0,.complex .f64 0 0,.slice none 0 0,.int .i64 (I.M k).at_] 58))
 have hEa:Bk (((wq.setCell ⟨R,8,none⟩ (.int .i64 ((d+1:Nat):Int))).setCell ⟨R,1,none⟩ (.int .i64 ((k+1:Nat):Int))).alloc (.cells #[.int .i64 0,.string ⟨#[]⟩,.string ⟨#[]⟩,.int .i64 0,.complex .f64 0 0,.slice none 0 0,.int .i64 (I.M k).at_] 58)) wq.heap.size 58 [.int .i64 0,.string ⟨#[]⟩,.string ⟨#[]⟩,.int .i64 0,.complex .f64 0 0,.slice none 0 0,.int .i64 (I.M k).at_]:=Bk.newAt 58 #[.int .i64 0,.string ⟨#[]⟩,.string ⟨#[]⟩,.int .i64 0,.complex .f64 0 0,.slice none 0 0,.int .i64 (I.M k).at_] (by simp)
 have lB_9:=B_9.lt
 have hn3:(nx (nx (nx (nx (nx (nx (nx (nx (nx (nx (nx (.ok () (k+1):Rs Unit) (exprP I.M (lmOf I) f (d+1))) (aj I.M tOf)) (aj I.M tNil)) (aj I.M tArr)) (exprP I.M (lmOf I) f (d+1))) (aj I.M [124])) (aJ I.M)) (aj I.M [58])) (aJ I.M)) (aj I.M tArr)) (exprP I.M (lmOf I) f (d+1)))≠.out:=by
  intro e
  apply hne
  rw[caseP,if_neg (show ¬ (lmOf I).n≤(d:Int) by show ¬ I.ln≤(d:Int);omega)]
  rw[az] at e
  cases hq0:exprP I.M (lmOf I) f (d+1) (k+1) with
  |out=>rw[hq0] at e;rfl
  |bad y j=>rw[hq0] at e;cases e
  |ok a ka=>
   rw[hq0,az] at e
   rw[ak rfl]
   cases hq1:aj I.M tOf ka with
   |out=>rw[hq1] at e;rfl
   |bad y j=>rw[hq1] at e;cases e
   |ok u1 k1=>
    rw[hq1,az] at e
    rw[ak rfl]
    cases hq2:aj I.M tNil k1 with
    |out=>rw[hq2] at e;rfl
    |bad y j=>rw[hq2] at e;cases e
    |ok u2 k2=>
     rw[hq2,az] at e
     rw[ak rfl]
     cases hq3:aj I.M tArr k2 with
     |out=>rw[hq3] at e;rfl
     |bad y j=>rw[hq3] at e;cases e
     |ok u3 k3=>
      rw[hq3,az] at e
      rw[ak rfl]
      cases hq4:exprP I.M (lmOf I) f (d+1) k3 with
      |out=>rw[hq4] at e;rfl
      |bad y j=>rw[hq4] at e;cases e
      |ok b kb=>
       rw[hq4,az] at e
       rw[ak rfl]
       cases hq5:aj I.M [124] kb with
       |out=>rw[hq5] at e;rfl
       |bad y j=>rw[hq5] at e;cases e
       |ok u4 k4=>
        rw[hq5,az] at e
        rw[ak rfl]
        cases hq6:aJ I.M k4 with
        |out=>rw[hq6] at e;rfl
        |bad y j=>rw[hq6] at e;cases e
        |ok hm kh=>
         rw[hq6,az] at e
         rw[ak rfl]
         cases hq7:aj I.M [58] kh with
         |out=>rw[hq7] at e;rfl
         |bad y j=>rw[hq7] at e;cases e
         |ok u5 k5=>
          rw[hq7,az] at e
          rw[ak rfl]
          cases hq8:aJ I.M k5 with
          |out=>rw[hq8] at e;rfl
          |bad y j=>rw[hq8] at e;cases e
          |ok tm kt=>
           rw[hq8,az] at e
           rw[ak rfl]
           cases hq9:aj I.M tArr kt with
           |out=>rw[hq9] at e;rfl
           |bad y j=>rw[hq9] at e;cases e
           |ok u6 k6=>
            rw[hq9,az] at e
            rw[ak rfl]
            cases hq10:exprP I.M (lmOf I) f (d+1) k6 with
            |out=>rw[hq10] at e;rfl
            |bad y j=>rw[hq10] at e;cases e
            |ok c kc=>
             rw[hq10] at e;cases e
 have hszA:wq.heap.size≤(((wq.setCell ⟨R,8,none⟩ (.int .i64 ((d+1:Nat):Int))).setCell ⟨R,1,none⟩ (.int .i64 ((k+1:Nat):Int))).alloc (.cells #[.int .i64 0,.string ⟨#[]⟩,.string ⟨#[]⟩,.int .i64 0,.complex .f64 0 0,.slice none 0 0,.int .i64 (I.M k).at_] 58)).heap.size:=by simp
 go_wp2_with fail
 have hcall:=rbranches_any I hE hW f (ihs f (by omega)) (.ok () (k+1):Rs Unit) _ R (d+1) wq.heap.size (I.M k).at_ Q_9 hEa (by omega) (by omega) hn3
 refine hcall.mono ?_
 rintro e w6 ⟨rfl,mm1,mm2,G,hE6,hs6,hU6,hg1,hg2,hel⟩
 clear hcall
 have hB6:=B_9.bu2 hU6 (by omega) (by omega)
 have hUf:=Bu2.but U_9 hU6 (by omega)
 have lB6:=hB6.lt
 have lE6:=hE6.lt
 obtain⟨dd,cd,zd,hsl⟩:=hs6.leave (by omega)
 have hVl:=(But.refl R w6).setR (j:=8) (.int .i64 (wrap64 (dd-1)))
 have hBl:=hB6.but hVl (by omega)
 have hEl:=hE6.but hVl (by omega)
 have hUl:=hUf.trans hVl
 have lsz:=hVl.size
 have hcell8:=cd
 go_wp2_with (first
  |refine ai rfl 58 (.tmp 5) rfl wq.heap.size 0 rfl [.int .i64 20,.string (bs mm1.text),.string (bs mm2.text),.int .i64 0,.complex .f64 0 0,.slice (some ⟨G,0,none⟩) 3 3,.int .i64 (I.M k).at_] _ (hEl.range 0 7) Tryz.underE Tryz.infoE ?_
  |(refine ah rfl 58 (.tmp 2) (.tmp 105) rfl w.heap.size 0 [.int .i64 20,.string (bs mm1.text),.string (bs mm2.text),.int .i64 0,.complex .f64 0 0,.slice (some ⟨G,0,none⟩) 3 3,.int .i64 (I.M k).at_] rfl rfl hBl (Nat.le_refl 7) Tryz.infoE (show Sv [.int .i64 20,.string (bs mm1.text),.string (bs mm2.text),.int .i64 0,.complex .f64 0 0,.slice (some ⟨G,0,none⟩) 3 3,.int .i64 (I.M k).at_] from bX 20 0 0 0 (bs mm1.text) (bs mm2.text) (.slice (some ⟨G,0,none⟩) 3 3) rfl _).one ?_;intro wz hBz hoz;obtain⟨q0,q1,q2,q3,q4,q5,q6⟩:=Bk.seven (show Bk wz w.heap.size _ [_,_,_,_,_,_,_] from hBz);have hsz:=hsl.oth hoz (by omega) (by omega);have hUz:=hoz.but hUl (Nat.le_refl _);have hze:=fun a ka b kb c kc e1 e2 e3=>((hel a ka b kb c kc e1 e2 e3).keep (w':=wz) fun b hb _=>(hoz.block b (by omega)).trans (hVl.block b (by assumption) (by omega)))))
 refine bodyPost_ret (v:=.agg #[.int .i64 20,.string (bs mm1.text),.string (bs mm2.text),.int .i64 0,.complex .f64 0 0,.slice (some ⟨G,0,none⟩) 3 3,.int .i64 (I.M k).at_]) (by simp[results,Tryz.results92,go_sem,q0,q1,q2,q3,q4,q5,q6]) rfl ⟨_,rfl,(show Sv [.int .i64 20,.string (bs mm1.text),.string (bs mm2.text),.int .i64 0,.complex .f64 0 0,.slice (some ⟨G,0,none⟩) 3 3,.int .i64 (I.M k).at_] from bX 20 0 0 0 (bs mm1.text) (bs mm2.text) (.slice (some ⟨G,0,none⟩) 3 3) rfl _),?_,?_,hUz⟩
 ·intro x j e
  rw[caseP,if_neg (show ¬ (lmOf I).n≤(d:Int) by show ¬ I.ln≤(d:Int);omega)] at e
  obtain⟨a,ka,e1,f1⟩:=au.1 e
  obtain⟨_,k1,e2,f2⟩:=au.1 f1
  obtain⟨_,k2,e3,f3⟩:=au.1 f2
  obtain⟨_,k3,e4,f4⟩:=au.1 f3
  obtain⟨b,kb,e5,f5⟩:=au.1 f4
  obtain⟨_,k4,e6,f6⟩:=au.1 f5
  obtain⟨hm,kh,e7,f7⟩:=au.1 f6
  obtain⟨_,k5,e8,f8⟩:=au.1 f7
  obtain⟨tm,kt,e9,f9⟩:=au.1 f8
  obtain⟨_,k6,e10,f10⟩:=au.1 f9
  obtain⟨c,kc,e11,f11⟩:=au.1 f10
  have s1:(nx (.ok () (k+1):Rs Unit) (exprP I.M (lmOf I) f (d+1)))=.ok a ka:=e1
  have s2:(nx (nx (nx (nx (nx (.ok () (k+1):Rs Unit) (exprP I.M (lmOf I) f (d+1))) (aj I.M tOf)) (aj I.M tNil)) (aj I.M tArr)) (exprP I.M (lmOf I) f (d+1)))=.ok b kb:=by rw[s1,az,e2,az,e3,az,e4,az];exact e5
  have s3:(nx (nx (nx (nx (nx (nx (nx (.ok () (k+1):Rs Unit) (exprP I.M (lmOf I) f (d+1))) (aj I.M tOf)) (aj I.M tNil)) (aj I.M tArr)) (exprP I.M (lmOf I) f (d+1))) (aj I.M [124])) (aJ I.M))=.ok hm kh:=by rw[s2,az,e6,az];exact e7
  have s4:(nx (nx (nx (nx (nx (nx (nx (nx (nx (.ok () (k+1):Rs Unit) (exprP I.M (lmOf I) f (d+1))) (aj I.M tOf)) (aj I.M tNil)) (aj I.M tArr)) (exprP I.M (lmOf I) f (d+1))) (aj I.M [124])) (aJ I.M)) (aj I.M [58])) (aJ I.M))=.ok tm kt:=by rw[s3,az,e8,az];exact e9
  have s5:(nx (nx (nx (nx (nx (nx (nx (nx (nx (nx (nx (.ok () (k+1):Rs Unit) (exprP I.M (lmOf I) f (d+1))) (aj I.M tOf)) (aj I.M tNil)) (aj I.M tArr)) (exprP I.M (lmOf I) f (d+1))) (aj I.M [124])) (aJ I.M)) (aj I.M [58])) (aJ I.M)) (aj I.M tArr)) (exprP I.M (lmOf I) f (d+1)))=.ok c kc:=by rw[s4,az,e10,az];exact e11
  obtain rfl:=hg1 _ _ s3
  obtain rfl:=hg2 _ _ s4
  have hx:=hze a ka b kb c kc s1 s2 s5
  cases f11
  exact dI (hx.imp fun b hb _=>by omega) rfl
 ·rw[caseP,if_neg (show ¬ (lmOf I).n≤(d:Int) by show ¬ I.ln≤(d:Int);omega)]
  have hz:=hsz
  rw[az] at hz
  cases hq0:exprP I.M (lmOf I) f (d+1) (k+1) with
  |out=>rw[hq0] at hz;exact hz.elim
  |bad y j=>rw[hq0] at hz;exact hz
  |ok a ka=>
   rw[hq0,az] at hz
   rw[ak rfl]
   cases hq1:aj I.M tOf ka with
   |out=>rw[hq1] at hz;exact hz.elim
   |bad y j=>rw[hq1] at hz;exact hz
   |ok u1 k1=>
    rw[hq1,az] at hz
    rw[ak rfl]
    cases hq2:aj I.M tNil k1 with
    |out=>rw[hq2] at hz;exact hz.elim
    |bad y j=>rw[hq2] at hz;exact hz
    |ok u2 k2=>
     rw[hq2,az] at hz
     rw[ak rfl]
     cases hq3:aj I.M tArr k2 with
     |out=>rw[hq3] at hz;exact hz.elim
     |bad y j=>rw[hq3] at hz;exact hz
     |ok u3 k3=>
      rw[hq3,az] at hz
      rw[ak rfl]
      cases hq4:exprP I.M (lmOf I) f (d+1) k3 with
      |out=>rw[hq4] at hz;exact hz.elim
      |bad y j=>rw[hq4] at hz;exact hz
      |ok b kb=>
       rw[hq4,az] at hz
       rw[ak rfl]
       cases hq5:aj I.M [124] kb with
       |out=>rw[hq5] at hz;exact hz.elim
       |bad y j=>rw[hq5] at hz;exact hz
       |ok u4 k4=>
        rw[hq5,az] at hz
        rw[ak rfl]
        cases hq6:aJ I.M k4 with
        |out=>rw[hq6] at hz;exact hz.elim
        |bad y j=>rw[hq6] at hz;exact hz
        |ok hm kh=>
         rw[hq6,az] at hz
         rw[ak rfl]
         cases hq7:aj I.M [58] kh with
         |out=>rw[hq7] at hz;exact hz.elim
         |bad y j=>rw[hq7] at hz;exact hz
         |ok u5 k5=>
          rw[hq7,az] at hz
          rw[ak rfl]
          cases hq8:aJ I.M k5 with
          |out=>rw[hq8] at hz;exact hz.elim
          |bad y j=>rw[hq8] at hz;exact hz
          |ok tm kt=>
           rw[hq8,az] at hz
           rw[ak rfl]
           cases hq9:aj I.M tArr kt with
           |out=>rw[hq9] at hz;exact hz.elim
           |bad y j=>rw[hq9] at hz;exact hz
           |ok u6 k6=>
            rw[hq9,az] at hz
            rw[ak rfl]
            cases hq10:exprP I.M (lmOf I) f (d+1) k6 with
            |out=>rw[hq10] at hz;exact hz.elim
            |bad y j=>rw[hq10] at hz;exact hz
            |ok c kc=>
             rw[hq10] at hz;exact hz
theorem rexpr_let (I:Rdi) (hE:Ends I.M I.n) (hW:∀ s∈lks,Wm I.M s) (f:Nat) (ihs:∀ g,g≤f→AllR I g) (w:World) (R:Nat) (k d:Nat) (h:Rq I w R k 0 0 d) (hln:I.ln≤9223372036854775807) (ht:tk I.M tLet k=true) (hn:(d:Int)<I.ln) (hne:bindP I.M (lmOf I) (f+1) 21 d k≠.out) :
  Calls Tryz.prog 92 #[.pointer (some ⟨R,0,none⟩)] w (RA I R d w (bindP I.M (lmOf I) (f+1) 21 d k)):=by
 have hlt:=h.lt
 have bn:decide (I.ln≤(d:Int))=false:=by rw[decide_eq_false_iff_not];omega
 have t1:tk I.M tLet k=true:=ht
 have x1:((bs (I.M k).text).toList==[105,102])=false:=by rw[aG];unfold tk at ht;rw[eq_of_beq ht];rfl
 have x2:((bs (I.M k).text).toList==[99,97,115,101])=false:=by rw[aG];unfold tk at ht;rw[eq_of_beq ht];rfl
 have x3:((bs (I.M k).text).toList==[115,116,114,105,99,116])=false:=by rw[aG];unfold tk at ht;rw[eq_of_beq ht];rfl
 have hk1:=hE.tk I.M ht (by decide) h.kn
 have hw:=w64k k (by have:=h.small;omega)
 have hwd:wrap64 ((d:Int)+1)=((d+1:Nat):Int):=by simp only[wrap64];omega
 have Q_1:=h.up (ae w (.cells ez 58))
 have U_1:=(But.refl R w).then (ae w (.cells ez 58))
 have B_1:=Bk.new w 58 ez
 have hcx:=aI
 go_enter Tryz.func92,Tryz.ntmps92
 go_wp2_with fail
 refine (aB I (w.alloc (.cells ez 58)) R k 0 0 d Q_1).mono ?_
 rintro e w1 ⟨rfl,hb1⟩
 unfold mkV
 have Q_2:=Q_1.up hb1
 have U_2:=U_1.then hb1
 have B_2:=B_1.up hb1
 have lB_2:=B_2.lt
 have s_2:=hb1.size
 go_wp2_with (first
  |(refine ah rfl 135 (.tmp 3) (.tmp 8) rfl w1.heap.size 0 (mkC (I.M k)) rfl rfl (Bk.new w1 135 mz) (Nat.le_refl 4) Tryz.infoM (aF _) ?_;intro w2 M_3 hoa3;have hba3:Below w1.heap.size w1 w2:=(ae w1 (.cells mz 135)).trans (hoa3.below (Nat.le_refl _));have Q_3:=Q_2.up hba3;have U_3:=U_2.then hba3;have B_3:=B_2.up hba3;have lB_3:=B_3.lt;have lM_3:=M_3.lt;have s_3:=hba3.size))
 refine (t1 ▸ aA I tLet (hW tLet (by simp[lks])) w2 R k 0 d Q_3:Calls Tryz.prog 90 #[.pointer (some ⟨R,0,none⟩),.string (bs tLet)] w2 fun e w'=>e=.returned (.bool true)∧Below w2.heap.size w2 w').mono ?_
 rintro e w3 ⟨rfl,hbw3⟩
 have Q_4:=Q_3.up hbw3
 have U_4:=U_3.then hbw3
 have B_4:=B_3.up hbw3
 have M_4:=M_3.up hbw3
 have lB_4:=B_4.lt
 have lM_4:=M_4.lt
 have s_4:=hbw3.size
 obtain⟨-,-,-,-,-,-,c7,c8⟩:=Q_4.nine
 go_wp2_with fail
 go_quiet (fail)
 have hbq:Below w3.heap.size w3 (w3.drewN nq):=⟨rfl,rfl,rfl,Nat.le_refl _,fun _ _=>rfl⟩
 have Q_5:=Q_4.up hbq
 have U_5:=U_4.then hbq
 have B_5:=B_4.up hbq
 have M_5:=M_4.up hbq
 have lB_5:=B_5.lt
 have lM_5:=M_5.lt
 have s_5:=hbq.size
 generalize w3.drewN nq=wq at *
 clear c7 c8
 obtain⟨m0,m1,m2,m3⟩:=Bk.four (show Bk wq w1.heap.size _ [_,_,_,_] from M_5)
 obtain⟨-,c1,c2,-,-,-,-,c8⟩:=Q_5.nine
 have z1:=Q_5.blk.frz 1
 have z8:=Q_5.blk.frz 8
 have hdn:=(Q_5.nest ((d+1:Nat):Int)).go (k+1) hk1
 have hVn:=((But.refl R wq).setR (j:=8) (.int .i64 ((d+1:Nat):Int))).setR (j:=1) (.int .i64 ((k+1:Nat):Int))
 have U_6:=U_5.trans hVn
 have B_6:=B_5.but hVn (by omega)
 have M_6:=M_5.but hVn (by omega)
 have lB_6:=B_6.lt
 have lM_6:=M_6.lt
 have s_6:=hVn.size
 have U_7:=U_6.then (ae ((wq.setCell ⟨R,8,none⟩ (.int .i64 ((d+1:Nat):Int))).setCell ⟨R,1,none⟩ (.int .i64 ((k+1:Nat):Int))) (.cells #[.int .i64 21,.string ⟨#[]⟩,.string ⟨#[]⟩,.int .i64 0,.complex .f64 0 0,.slice none 0 0,.int .i64 (I.M k).at_] 58))
 have B_7:=B_6.up (ae ((wq.setCell ⟨R,8,none⟩ (.int .i64 ((d+1:Nat):Int))).setCell ⟨R,1,none⟩ (.int .i64 ((k+1:Nat):Int))) (.cells #[.int .i64 21,.string ⟨#[]⟩,.string ⟨#[]⟩,.int .i64 0,.complex .f64 0 0,.slice none 0 0,.int .i64 (I.M k).at_] 58))
 have Q_7:=hdn.up (ae ((wq.setCell ⟨R,8,none⟩ (.int .i64 ((d+1:Nat):Int))).setCell ⟨R,1,none⟩ (.int .i64 ((k+1:Nat):Int))) (.cells #[.int .i64 21,.string ⟨#[]⟩,.string ⟨#[]⟩,.int .i64 0,.complex .f64 0 0,.slice none 0 0,.int .i64 (I.M k).at_] 58))
 have hEa:Bk (((wq.setCell ⟨R,8,none⟩ (.int .i64 ((d+1:Nat):Int))).setCell ⟨R,1,none⟩ (.int .i64 ((k+1:Nat):Int))).alloc (.cells #[.int .i64 21,.string ⟨#[]⟩,.string ⟨#[]⟩,.int .i64 0,.complex .f64 0 0,.slice none 0 0,.int .i64 (I.M k).at_] 58)) wq.heap.size 58 [.int .i64 21,.string ⟨#[]⟩,.string ⟨#[]⟩,.int .i64 0,.complex .f64 0 0,.slice none 0 0,.int .i64 (I.M k).at_]:=Bk.newAt 58 #[.int .i64 21,.string ⟨#[]⟩,.string ⟨#[]⟩,.int .i64 0,.complex .f64 0 0,.slice none 0 0,.int .i64 (I.M k).at_] (by simp)
 have hszA:wq.heap.size+1≤(((wq.setCell ⟨R,8,none⟩ (.int .i64 ((d+1:Nat):Int))).setCell ⟨R,1,none⟩ (.int .i64 ((k+1:Nat):Int))).alloc (.cells #[.int .i64 21,.string ⟨#[]⟩,.string ⟨#[]⟩,.int .i64 0,.complex .f64 0 0,.slice none 0 0,.int .i64 (I.M k).at_] 58)).heap.size:=by simp
 have lB_7:=B_7.lt
 have lE_7:=hEa.lt
 have hn3:(nx (nx (nx (nx (nx (nx (.ok () (k+1):Rs Unit) (aJ I.M)) (aK I.M)) (aj I.M [61])) (exprP I.M (lmOf I) f (d+1))) (aj I.M [105,110])) (exprP I.M (lmOf I) f (d+1)))≠.out:=by
  intro e
  apply hne
  rw[bindP,if_neg (show ¬ (lmOf I).n≤(d:Int) by show ¬ I.ln≤(d:Int);omega)]
  rw[az] at e
  rw[show tIn=[105,110] from rfl]
  cases hq0:aJ I.M (k+1) with
  |out=>rw[hq0] at e;rfl
  |bad y j=>rw[hq0] at e;cases e
  |ok nm k1=>
   rw[hq0,az] at e
   rw[ak rfl]
   cases hq1:aK I.M k1 with
   |out=>rw[hq1] at e;rfl
   |bad y j=>rw[hq1] at e;cases e
   |ok ty k2=>
    rw[hq1,az] at e
    rw[ak rfl]
    cases hq2:aj I.M [61] k2 with
    |out=>rw[hq2] at e;rfl
    |bad y j=>rw[hq2] at e;cases e
    |ok u1 k3=>
     rw[hq2,az] at e
     rw[ak rfl]
     cases hq3:exprP I.M (lmOf I) f (d+1) k3 with
     |out=>rw[hq3] at e;rfl
     |bad y j=>rw[hq3] at e;cases e
     |ok a ka=>
      rw[hq3,az] at e
      rw[ak rfl]
      cases hq4:aj I.M [105,110] ka with
      |out=>rw[hq4] at e;rfl
      |bad y j=>rw[hq4] at e;cases e
      |ok u2 k5=>
       rw[hq4,az] at e
       rw[ak rfl]
       cases hq5:exprP I.M (lmOf I) f (d+1) k5 with
       |out=>rw[hq5] at e;rfl
       |bad y j=>rw[hq5] at e;cases e
       |ok b kb=>
        rw[hq5] at e;cases e
 go_wp2_with fail
 refine (bg I hE (.ok () (k+1):Rs Unit) _ R ((d+1:Nat):Int) Q_7).mono ?_
 rintro e w3 ⟨nm,rfl,hg1,hs3,hV3⟩
 unfold mkV
 have U_8:=U_7.trans hV3
 have B_8:=B_7.but hV3 (by omega)
 have E_8:=hEa.but hV3 (by omega)
 have lB_8:=B_8.lt
 have lE_8:=E_8.lt
 have s_8:=hV3.size
 clear c1 c2 c8 z1 z8
 go_wp2_with (refine ah rfl 135 (.tmp 6) (.tmp 75) rfl w3.heap.size 0 (mkC nm) rfl rfl (Bk.new w3 135 mz) (Nat.le_refl 4) Tryz.infoM (aF _) ?_;intro w4 X_9 hoa9;have hba9:Below w3.heap.size w3 w4:=(ae w3 (.cells mz 135)).trans (hoa9.below (Nat.le_refl _));have U_9:=U_8.then hba9;have B_9:=B_8.up hba9;have E_9:=E_8.up hba9;have Q_9:=hs3.up hba9;have lB_9:=B_9.lt;have lE_9:=E_9.lt;have lX_9:=X_9.lt;have s_9:=hba9.size;obtain⟨-,y1,-⟩:=Bk.four (show Bk w4 w3.heap.size _ [_,_,_,_] from X_9);have e1:w4.cell? ⟨wq.heap.size,1,none⟩=some (.string ⟨#[]⟩):=E_9.cell 1;have z1:=E_9.frz 1)
 have hoE1:=(Oth.refl wq.heap.size w4).set 1 (.string (bs nm.text))
 have hbE1:But wq.heap.size w4 (w4.setCell ⟨wq.heap.size,1,none⟩ (.string (bs nm.text))):=⟨hoE1.os,hoE1.tape,hoE1.output,by rw[hoE1.size];omega,fun i _ hn=>hoE1.block i hn⟩
 have U_10:=hoE1.but U_9 (by omega)
 have B_10:=B_9.but hbE1 (by omega)
 have Q_10:=bO Q_9 hbE1 (by omega) (by omega)
 have hEb:Bk (w4.setCell ⟨wq.heap.size,1,none⟩ (.string (bs nm.text))) wq.heap.size 58 [.int .i64 21,.string (bs nm.text),.string ⟨#[]⟩,.int .i64 0,.complex .f64 0 0,.slice none 0 0,.int .i64 (I.M k).at_]:=E_9.set 1 _
 have lB_10:=B_10.lt
 have lE_10:=hEb.lt
 refine (bD I hE (lk3 hW) _ _ R ((d+1:Nat):Int) Q_10).mono ?_
 rintro e w5 ⟨ty,rfl,hg2,hs5,hV5⟩
 clear y1 e1 z1
 have U_11:=U_10.trans hV5
 have B_11:=B_10.but hV5 (by omega)
 have E_11:=hEb.but hV5 (by omega)
 have lB_11:=B_11.lt
 have lE_11:=E_11.lt
 have s_11:=hV5.size
 have e3:w5.cell? ⟨wq.heap.size,3,none⟩=some (.int .i64 0):=E_11.cell 3
 have z3:=E_11.frz 3
 have hoE3:=(Oth.refl wq.heap.size w5).set 3 (.int .i64 ty)
 have hbE3:But wq.heap.size w5 (w5.setCell ⟨wq.heap.size,3,none⟩ (.int .i64 ty)):=⟨hoE3.os,hoE3.tape,hoE3.output,by rw[hoE3.size];omega,fun i _ hn=>hoE3.block i hn⟩
 have U_12:=hoE3.but U_11 (by omega)
 have B_12:=B_11.but hbE3 (by omega)
 have Q_12:=bO hs5 hbE3 (by omega) (by omega)
 have hEc:Bk (w5.setCell ⟨wq.heap.size,3,none⟩ (.int .i64 ty)) wq.heap.size 58 [.int .i64 21,.string (bs nm.text),.string ⟨#[]⟩,.int .i64 ty,.complex .f64 0 0,.slice none 0 0,.int .i64 (I.M k).at_]:=E_11.set 3 _
 have lB_12:=B_12.lt
 have lE_12:=hEc.lt
 have U_13:=U_12.then (ae (w5.setCell ⟨wq.heap.size,3,none⟩ (.int .i64 ty)) (.cells #[.string ⟨#[61]⟩,.string ⟨#[105,110]⟩] 9))
 have B_13:=B_12.up (ae (w5.setCell ⟨wq.heap.size,3,none⟩ (.int .i64 ty)) (.cells #[.string ⟨#[61]⟩,.string ⟨#[105,110]⟩] 9))
 have Q_13:=Q_12.up (ae (w5.setCell ⟨wq.heap.size,3,none⟩ (.int .i64 ty)) (.cells #[.string ⟨#[61]⟩,.string ⟨#[105,110]⟩] 9))
 have E_13:=hEc.up (ae (w5.setCell ⟨wq.heap.size,3,none⟩ (.int .i64 ty)) (.cells #[.string ⟨#[61]⟩,.string ⟨#[105,110]⟩] 9))
 have lB_13:=B_13.lt
 have lE_13:=E_13.lt
 have hSp:Bk ((w5.setCell ⟨wq.heap.size,3,none⟩ (.int .i64 ty)).alloc (.cells #[.string ⟨#[61]⟩,.string ⟨#[105,110]⟩] 9)) w5.heap.size 9 [.string ⟨#[61]⟩,.string ⟨#[105,110]⟩]:=Bk.newAt 9 #[.string ⟨#[61]⟩,.string ⟨#[105,110]⟩] (by simp)
 have hszP:w5.heap.size+1=((w5.setCell ⟨wq.heap.size,3,none⟩ (.int .i64 ty)).alloc (.cells #[.string ⟨#[61]⟩,.string ⟨#[105,110]⟩] 9)).heap.size:=by simp
 go_wp2_with fail
 have hcall:=qG I hE hW f (ihs f (by omega)) (nx (nx (.ok () (k+1):Rs Unit) (aJ I.M)) (aK I.M)) _ R (d+1) w5.heap.size Q_13 hSp (by omega) hn3
 refine hcall.mono ?_
 rintro e w7 ⟨v,rfl,hrj,hV7,hs7,hrow⟩
 clear hcall e3 z3
 have U_14:=U_13.trans hV7
 have B_14:=B_13.but hV7 (by omega)
 have E_14:=E_13.but hV7 (by omega)
 have lB_14:=B_14.lt
 have lE_14:=E_14.lt
 have s_14:=hV7.size
 obtain⟨ao,cc,rfl⟩:=hrj.val
 rw[← hszP] at hrow hrj
 clear hszP
 have e5:w7.cell? ⟨wq.heap.size,5,none⟩=some (.slice none 0 0):=E_14.cell 5
 have z5:=E_14.frz 5
 go_upto_region 26 with fail
 clear e5 z5
 have hoE5:=(Oth.refl wq.heap.size w7).set 5 (.slice ao 2 cc)
 have hbE5:But wq.heap.size w7 (w7.setCell ⟨wq.heap.size,5,none⟩ (.slice ao 2 cc)):=⟨hoE5.os,hoE5.tape,hoE5.output,by rw[hoE5.size];omega,fun i _ hn=>hoE5.block i hn⟩
 have U_15:=hoE5.but U_14 (by omega)
 have B_15:=B_14.but hbE5 (by omega)
 have Q_15:=bO hs7 hbE5 (by omega) (by omega)
 have hEd:Bk (w7.setCell ⟨wq.heap.size,5,none⟩ (.slice ao 2 cc)) wq.heap.size 58 [.int .i64 21,.string (bs nm.text),.string ⟨#[]⟩,.int .i64 ty,.complex .f64 0 0,.slice ao 2 cc,.int .i64 (I.M k).at_]:=E_14.set 5 _
 have lB_15:=B_15.lt
 have lE_15:=hEd.lt
 have hel:=fun a ka b kb e1 e2=>((qx (hrow a ka b kb e1 e2)).keep (w':=(w7.setCell ⟨wq.heap.size,5,none⟩ (.slice ao 2 cc))) fun b hb _=>hoE5.block b (by omega))
 obtain⟨w6,hw6⟩:∃ W,W=(w7.setCell ⟨wq.heap.size,5,none⟩ (.slice ao 2 cc)):=⟨_,rfl⟩
 rw[← hw6] at hel U_15 B_15 Q_15 hEd lB_15 lE_15 ⊢
 clear hw6 hoE5 hbE5
 obtain⟨dd,cd,zd,hsl⟩:=Q_15.leave (by omega)
 have hVl:=(But.refl R w6).setR (j:=8) (.int .i64 (wrap64 (dd-1)))
 have hBl:=B_15.but hVl (by omega)
 have hEl:=hEd.but hVl (by omega)
 have hUl:=U_15.trans hVl
 have lsz:=hVl.size
 have hcell8:=cd
 go_wp2_with (first
  |refine ai rfl 58 (.tmp 5) rfl wq.heap.size 0 rfl [.int .i64 21,.string (bs nm.text),.string ⟨#[]⟩,.int .i64 ty,.complex .f64 0 0,.slice ao 2 cc,.int .i64 (I.M k).at_] _ (hEl.range 0 7) Tryz.underE Tryz.infoE ?_
  |(refine ah rfl 58 (.tmp 2) (.tmp 105) rfl w.heap.size 0 [.int .i64 21,.string (bs nm.text),.string ⟨#[]⟩,.int .i64 ty,.complex .f64 0 0,.slice ao 2 cc,.int .i64 (I.M k).at_] rfl rfl hBl (Nat.le_refl 7) Tryz.infoE (show Sv [.int .i64 21,.string (bs nm.text),.string ⟨#[]⟩,.int .i64 ty,.complex .f64 0 0,.slice ao 2 cc,.int .i64 (I.M k).at_] from bX 21 ty 0 0 (bs nm.text) ⟨#[]⟩ (.slice ao 2 cc) rfl _).one ?_;intro wz hBz hoz;obtain⟨q0,q1,q2,q3,q4,q5,q6⟩:=Bk.seven (show Bk wz w.heap.size _ [_,_,_,_,_,_,_] from hBz);have hsz:=hsl.oth hoz (by omega) (by omega);have hUz:=hoz.but hUl (Nat.le_refl _);have hze:=fun a ka b kb e1 e2=>((hel a ka b kb e1 e2).keep (w':=wz) fun b hb _=>(hoz.block b (by omega)).trans (hVl.block b (by assumption) (by omega)))))
 refine bodyPost_ret (v:=.agg #[.int .i64 21,.string (bs nm.text),.string ⟨#[]⟩,.int .i64 ty,.complex .f64 0 0,.slice ao 2 cc,.int .i64 (I.M k).at_]) (by simp[results,Tryz.results92,go_sem,q0,q1,q2,q3,q4,q5,q6]) rfl ⟨_,rfl,(show Sv [.int .i64 21,.string (bs nm.text),.string ⟨#[]⟩,.int .i64 ty,.complex .f64 0 0,.slice ao 2 cc,.int .i64 (I.M k).at_] from bX 21 ty 0 0 (bs nm.text) ⟨#[]⟩ (.slice ao 2 cc) rfl _),?_,?_,hUz⟩
 ·intro x j e
  rw[bindP,if_neg (show ¬ (lmOf I).n≤(d:Int) by show ¬ I.ln≤(d:Int);omega)] at e
  obtain⟨n2,k1,e1,f1⟩:=au.1 e
  obtain⟨t2,k2,e2,f2⟩:=au.1 f1
  obtain⟨_,k3,e3,f3⟩:=au.1 f2
  obtain⟨a,ka,e4,f4⟩:=au.1 f3
  obtain⟨_,k5,e5,f5⟩:=au.1 f4
  obtain⟨b,kb,e6,f6⟩:=au.1 f5
  have s1:(nx (.ok () (k+1):Rs Unit) (aJ I.M))=.ok n2 k1:=e1
  have s2:(nx (nx (.ok () (k+1):Rs Unit) (aJ I.M)) (aK I.M))=.ok t2 k2:=by rw[s1];exact e2
  have s3:(nx (nx (nx (nx (.ok () (k+1):Rs Unit) (aJ I.M)) (aK I.M)) (aj I.M [61])) (exprP I.M (lmOf I) f (d+1)))=.ok a ka:=by rw[s2,az,e3,az];exact e4
  have s4:(nx (nx (nx (nx (nx (nx (.ok () (k+1):Rs Unit) (aJ I.M)) (aK I.M)) (aj I.M [61])) (exprP I.M (lmOf I) f (d+1))) (aj I.M [105,110])) (exprP I.M (lmOf I) f (d+1)))=.ok b kb:=by rw[s3,az,show aj I.M [105,110] ka=_ from e5,az];exact e6
  obtain rfl:=hg1 _ _ s1
  obtain rfl:=hg2 _ _ s2
  have hx:=hze a ka b kb s3 s4
  cases f6
  exact dI (hx.imp fun b hb _=>by omega) rfl
 ·rw[bindP,if_neg (show ¬ (lmOf I).n≤(d:Int) by show ¬ I.ln≤(d:Int);omega)]
  have hz:=hsz
  rw[az] at hz
  rw[show tIn=[105,110] from rfl]
  cases hq0:aJ I.M (k+1) with
  |out=>rw[hq0] at hz;exact hz.elim
  |bad y j=>rw[hq0] at hz;exact hz
  |ok nm k1=>
   rw[hq0,az] at hz
   rw[ak rfl]
   cases hq1:aK I.M k1 with
   |out=>rw[hq1] at hz;exact hz.elim
   |bad y j=>rw[hq1] at hz;exact hz
   |ok ty k2=>
    rw[hq1,az] at hz
    rw[ak rfl]
    cases hq2:aj I.M [61] k2 with
    |out=>rw[hq2] at hz;exact hz.elim
    |bad y j=>rw[hq2] at hz;exact hz
    |ok u1 k3=>
     rw[hq2,az] at hz
     rw[ak rfl]
     cases hq3:exprP I.M (lmOf I) f (d+1) k3 with
     |out=>rw[hq3] at hz;exact hz.elim
     |bad y j=>rw[hq3] at hz;exact hz
     |ok a ka=>
      rw[hq3,az] at hz
      rw[ak rfl]
      cases hq4:aj I.M [105,110] ka with
      |out=>rw[hq4] at hz;exact hz.elim
      |bad y j=>rw[hq4] at hz;exact hz
      |ok u2 k5=>
       rw[hq4,az] at hz
       rw[ak rfl]
       cases hq5:exprP I.M (lmOf I) f (d+1) k5 with
       |out=>rw[hq5] at hz;exact hz.elim
       |bad y j=>rw[hq5] at hz;exact hz
       |ok b kb=>
        rw[hq5] at hz;exact hz
theorem rexpr_strict (I:Rdi) (hE:Ends I.M I.n) (hW:∀ s∈lks,Wm I.M s) (f:Nat) (ihs:∀ g,g≤f→AllR I g) (w:World) (R:Nat) (k d:Nat) (h:Rq I w R k 0 0 d) (hln:I.ln≤9223372036854775807) (ht:tk I.M aL k=true) (hn:(d:Int)<I.ln) (hne:bindP I.M (lmOf I) (f+1) 22 d k≠.out) :
  Calls Tryz.prog 92 #[.pointer (some ⟨R,0,none⟩)] w (RA I R d w (bindP I.M (lmOf I) (f+1) 22 d k)):=by
 have hlt:=h.lt
 have bn:decide (I.ln≤(d:Int))=false:=by rw[decide_eq_false_iff_not];omega
 have t2:tk I.M aL k=true:=ht
 have t1:tk I.M tLet k=false:=by unfold tk at ht ⊢;rw[eq_of_beq ht];rfl
 have x1:((bs (I.M k).text).toList==[105,102])=false:=by rw[aG];unfold tk at ht;rw[eq_of_beq ht];rfl
 have x2:((bs (I.M k).text).toList==[99,97,115,101])=false:=by rw[aG];unfold tk at ht;rw[eq_of_beq ht];rfl
 have x3:((bs (I.M k).text).toList==[115,116,114,105,99,116])=true:=by rw[aG];unfold tk at ht;rw[eq_of_beq ht];rfl
 have hk1:=hE.tk I.M ht (by decide) h.kn
 have hw:=w64k k (by have:=h.small;omega)
 have hwd:wrap64 ((d:Int)+1)=((d+1:Nat):Int):=by simp only[wrap64];omega
 have Q_1:=h.up (ae w (.cells ez 58))
 have U_1:=(But.refl R w).then (ae w (.cells ez 58))
 have B_1:=Bk.new w 58 ez
 have hcx:=aI
 go_enter Tryz.func92,Tryz.ntmps92
 go_wp2_with fail
 refine (aB I (w.alloc (.cells ez 58)) R k 0 0 d Q_1).mono ?_
 rintro e w1 ⟨rfl,hb1⟩
 unfold mkV
 have Q_2:=Q_1.up hb1
 have U_2:=U_1.then hb1
 have B_2:=B_1.up hb1
 have lB_2:=B_2.lt
 have s_2:=hb1.size
 go_wp2_with (first
  |(refine ah rfl 135 (.tmp 3) (.tmp 8) rfl w1.heap.size 0 (mkC (I.M k)) rfl rfl (Bk.new w1 135 mz) (Nat.le_refl 4) Tryz.infoM (aF _) ?_;intro w2 M_3 hoa3;have hba3:Below w1.heap.size w1 w2:=(ae w1 (.cells mz 135)).trans (hoa3.below (Nat.le_refl _));have Q_3:=Q_2.up hba3;have U_3:=U_2.then hba3;have B_3:=B_2.up hba3;have lB_3:=B_3.lt;have lM_3:=M_3.lt;have s_3:=hba3.size))
 refine (t1 ▸ aA I tLet (hW tLet (by simp[lks])) w2 R k 0 d Q_3:Calls Tryz.prog 90 #[.pointer (some ⟨R,0,none⟩),.string (bs tLet)] w2 fun e w'=>e=.returned (.bool false)∧Below w2.heap.size w2 w').mono ?_
 rintro e w3 ⟨rfl,hbw3⟩
 have Q_4:=Q_3.up hbw3
 have U_4:=U_3.then hbw3
 have B_4:=B_3.up hbw3
 have M_4:=M_3.up hbw3
 have lB_4:=B_4.lt
 have lM_4:=M_4.lt
 have s_4:=hbw3.size
 go_wp2_with fail
 refine (t2 ▸ aA I aL (hW aL (by simp[lks])) w3 R k 0 d Q_4:Calls Tryz.prog 90 #[.pointer (some ⟨R,0,none⟩),.string (bs aL)] w3 fun e w'=>e=.returned (.bool true)∧Below w3.heap.size w3 w').mono ?_
 rintro e w4 ⟨rfl,hbw4⟩
 have Q_5:=Q_4.up hbw4
 have U_5:=U_4.then hbw4
 have B_5:=B_4.up hbw4
 have M_5:=M_4.up hbw4
 have lB_5:=B_5.lt
 have lM_5:=M_5.lt
 have s_5:=hbw4.size
 obtain⟨-,-,-,-,-,-,c7,c8⟩:=Q_5.nine
 go_wp2_with fail
 go_quiet (fail)
 have hbq:Below w4.heap.size w4 (w4.drewN nq):=⟨rfl,rfl,rfl,Nat.le_refl _,fun _ _=>rfl⟩
 have Q_6:=Q_5.up hbq
 have U_6:=U_5.then hbq
 have B_6:=B_5.up hbq
 have M_6:=M_5.up hbq
 have lB_6:=B_6.lt
 have lM_6:=M_6.lt
 have s_6:=hbq.size
 generalize w4.drewN nq=wq at *
 clear c7 c8
 obtain⟨m0,m1,m2,m3⟩:=Bk.four (show Bk wq w1.heap.size _ [_,_,_,_] from M_6)
 obtain⟨-,c1,c2,-,-,-,-,c8⟩:=Q_6.nine
 have z1:=Q_6.blk.frz 1
 have z8:=Q_6.blk.frz 8
 have hdn:=(Q_6.nest ((d+1:Nat):Int)).go (k+1) hk1
 have hVn:=((But.refl R wq).setR (j:=8) (.int .i64 ((d+1:Nat):Int))).setR (j:=1) (.int .i64 ((k+1:Nat):Int))
 have U_7:=U_6.trans hVn
 have B_7:=B_6.but hVn (by omega)
 have M_7:=M_6.but hVn (by omega)
 have lB_7:=B_7.lt
 have lM_7:=M_7.lt
 have s_7:=hVn.size
 have U_8:=U_7.then (ae ((wq.setCell ⟨R,8,none⟩ (.int .i64 ((d+1:Nat):Int))).setCell ⟨R,1,none⟩ (.int .i64 ((k+1:Nat):Int))) (.cells #[.int .i64 22,.string ⟨#[]⟩,.string ⟨#[]⟩,.int .i64 0,.complex .f64 0 0,.slice none 0 0,.int .i64 (I.M k).at_] 58))
 have B_8:=B_7.up (ae ((wq.setCell ⟨R,8,none⟩ (.int .i64 ((d+1:Nat):Int))).setCell ⟨R,1,none⟩ (.int .i64 ((k+1:Nat):Int))) (.cells #[.int .i64 22,.string ⟨#[]⟩,.string ⟨#[]⟩,.int .i64 0,.complex .f64 0 0,.slice none 0 0,.int .i64 (I.M k).at_] 58))
 have Q_8:=hdn.up (ae ((wq.setCell ⟨R,8,none⟩ (.int .i64 ((d+1:Nat):Int))).setCell ⟨R,1,none⟩ (.int .i64 ((k+1:Nat):Int))) (.cells #[.int .i64 22,.string ⟨#[]⟩,.string ⟨#[]⟩,.int .i64 0,.complex .f64 0 0,.slice none 0 0,.int .i64 (I.M k).at_] 58))
 have hEa:Bk (((wq.setCell ⟨R,8,none⟩ (.int .i64 ((d+1:Nat):Int))).setCell ⟨R,1,none⟩ (.int .i64 ((k+1:Nat):Int))).alloc (.cells #[.int .i64 22,.string ⟨#[]⟩,.string ⟨#[]⟩,.int .i64 0,.complex .f64 0 0,.slice none 0 0,.int .i64 (I.M k).at_] 58)) wq.heap.size 58 [.int .i64 22,.string ⟨#[]⟩,.string ⟨#[]⟩,.int .i64 0,.complex .f64 0 0,.slice none 0 0,.int .i64 (I.M k).at_]:=Bk.newAt 58 #[.int .i64 22,.string ⟨#[]⟩,.string ⟨#[]⟩,.int .i64 0,.complex .f64 0 0,.slice none 0 0,.int .i64 (I.M k).at_] (by simp)
 have hszA:wq.heap.size+1≤(((wq.setCell ⟨R,8,none⟩ (.int .i64 ((d+1:Nat):Int))).setCell ⟨R,1,none⟩ (.int .i64 ((k+1:Nat):Int))).alloc (.cells #[.int .i64 22,.string ⟨#[]⟩,.string ⟨#[]⟩,.int .i64 0,.complex .f64 0 0,.slice none 0 0,.int .i64 (I.M k).at_] 58)).heap.size:=by simp
 have lB_8:=B_8.lt
 have lE_8:=hEa.lt
 have hn3:(nx (nx (nx (nx (nx (nx (.ok () (k+1):Rs Unit) (aJ I.M)) (aK I.M)) (aj I.M [61])) (exprP I.M (lmOf I) f (d+1))) (aj I.M [105,110])) (exprP I.M (lmOf I) f (d+1)))≠.out:=by
  intro e
  apply hne
  rw[bindP,if_neg (show ¬ (lmOf I).n≤(d:Int) by show ¬ I.ln≤(d:Int);omega)]
  rw[az] at e
  rw[show tIn=[105,110] from rfl]
  cases hq0:aJ I.M (k+1) with
  |out=>rw[hq0] at e;rfl
  |bad y j=>rw[hq0] at e;cases e
  |ok nm k1=>
   rw[hq0,az] at e
   rw[ak rfl]
   cases hq1:aK I.M k1 with
   |out=>rw[hq1] at e;rfl
   |bad y j=>rw[hq1] at e;cases e
   |ok ty k2=>
    rw[hq1,az] at e
    rw[ak rfl]
    cases hq2:aj I.M [61] k2 with
    |out=>rw[hq2] at e;rfl
    |bad y j=>rw[hq2] at e;cases e
    |ok u1 k3=>
     rw[hq2,az] at e
     rw[ak rfl]
     cases hq3:exprP I.M (lmOf I) f (d+1) k3 with
     |out=>rw[hq3] at e;rfl
     |bad y j=>rw[hq3] at e;cases e
     |ok a ka=>
      rw[hq3,az] at e
      rw[ak rfl]
      cases hq4:aj I.M [105,110] ka with
      |out=>rw[hq4] at e;rfl
      |bad y j=>rw[hq4] at e;cases e
      |ok u2 k5=>
       rw[hq4,az] at e
       rw[ak rfl]
       cases hq5:exprP I.M (lmOf I) f (d+1) k5 with
       |out=>rw[hq5] at e;rfl
       |bad y j=>rw[hq5] at e;cases e
       |ok b kb=>
        rw[hq5] at e;cases e
 go_wp2_with fail
 refine (bg I hE (.ok () (k+1):Rs Unit) _ R ((d+1:Nat):Int) Q_8).mono ?_
 rintro e w3 ⟨nm,rfl,hg1,hs3,hV3⟩
 unfold mkV
 have U_9:=U_8.trans hV3
 have B_9:=B_8.but hV3 (by omega)
 have E_9:=hEa.but hV3 (by omega)
 have lB_9:=B_9.lt
 have lE_9:=E_9.lt
 have s_9:=hV3.size
 clear c1 c2 c8 z1 z8
 go_wp2_with (refine ah rfl 135 (.tmp 6) (.tmp 75) rfl w3.heap.size 0 (mkC nm) rfl rfl (Bk.new w3 135 mz) (Nat.le_refl 4) Tryz.infoM (aF _) ?_;intro w4 X_10 hoa10;have hba10:Below w3.heap.size w3 w4:=(ae w3 (.cells mz 135)).trans (hoa10.below (Nat.le_refl _));have U_10:=U_9.then hba10;have B_10:=B_9.up hba10;have E_10:=E_9.up hba10;have Q_10:=hs3.up hba10;have lB_10:=B_10.lt;have lE_10:=E_10.lt;have lX_10:=X_10.lt;have s_10:=hba10.size;obtain⟨-,y1,-⟩:=Bk.four (show Bk w4 w3.heap.size _ [_,_,_,_] from X_10);have e1:w4.cell? ⟨wq.heap.size,1,none⟩=some (.string ⟨#[]⟩):=E_10.cell 1;have z1:=E_10.frz 1)
 have hoE1:=(Oth.refl wq.heap.size w4).set 1 (.string (bs nm.text))
 have hbE1:But wq.heap.size w4 (w4.setCell ⟨wq.heap.size,1,none⟩ (.string (bs nm.text))):=⟨hoE1.os,hoE1.tape,hoE1.output,by rw[hoE1.size];omega,fun i _ hn=>hoE1.block i hn⟩
 have U_11:=hoE1.but U_10 (by omega)
 have B_11:=B_10.but hbE1 (by omega)
 have Q_11:=bO Q_10 hbE1 (by omega) (by omega)
 have hEb:Bk (w4.setCell ⟨wq.heap.size,1,none⟩ (.string (bs nm.text))) wq.heap.size 58 [.int .i64 22,.string (bs nm.text),.string ⟨#[]⟩,.int .i64 0,.complex .f64 0 0,.slice none 0 0,.int .i64 (I.M k).at_]:=E_10.set 1 _
 have lB_11:=B_11.lt
 have lE_11:=hEb.lt
 refine (bD I hE (lk3 hW) _ _ R ((d+1:Nat):Int) Q_11).mono ?_
 rintro e w5 ⟨ty,rfl,hg2,hs5,hV5⟩
 clear y1 e1 z1
 have U_12:=U_11.trans hV5
 have B_12:=B_11.but hV5 (by omega)
 have E_12:=hEb.but hV5 (by omega)
 have lB_12:=B_12.lt
 have lE_12:=E_12.lt
 have s_12:=hV5.size
 have e3:w5.cell? ⟨wq.heap.size,3,none⟩=some (.int .i64 0):=E_12.cell 3
 have z3:=E_12.frz 3
 have hoE3:=(Oth.refl wq.heap.size w5).set 3 (.int .i64 ty)
 have hbE3:But wq.heap.size w5 (w5.setCell ⟨wq.heap.size,3,none⟩ (.int .i64 ty)):=⟨hoE3.os,hoE3.tape,hoE3.output,by rw[hoE3.size];omega,fun i _ hn=>hoE3.block i hn⟩
 have U_13:=hoE3.but U_12 (by omega)
 have B_13:=B_12.but hbE3 (by omega)
 have Q_13:=bO hs5 hbE3 (by omega) (by omega)
 have hEc:Bk (w5.setCell ⟨wq.heap.size,3,none⟩ (.int .i64 ty)) wq.heap.size 58 [.int .i64 22,.string (bs nm.text),.string ⟨#[]⟩,.int .i64 ty,.complex .f64 0 0,.slice none 0 0,.int .i64 (I.M k).at_]:=E_12.set 3 _
 have lB_13:=B_13.lt
 have lE_13:=hEc.lt
 have U_14:=U_13.then (ae (w5.setCell ⟨wq.heap.size,3,none⟩ (.int .i64 ty)) (.cells #[.string ⟨#[61]⟩,.string ⟨#[105,110]⟩] 9))
 have B_14:=B_13.up (ae (w5.setCell ⟨wq.heap.size,3,none⟩ (.int .i64 ty)) (.cells #[.string ⟨#[61]⟩,.string ⟨#[105,110]⟩] 9))
 have Q_14:=Q_13.up (ae (w5.setCell ⟨wq.heap.size,3,none⟩ (.int .i64 ty)) (.cells #[.string ⟨#[61]⟩,.string ⟨#[105,110]⟩] 9))
 have E_14:=hEc.up (ae (w5.setCell ⟨wq.heap.size,3,none⟩ (.int .i64 ty)) (.cells #[.string ⟨#[61]⟩,.string ⟨#[105,110]⟩] 9))
 have lB_14:=B_14.lt
 have lE_14:=E_14.lt
 have hSp:Bk ((w5.setCell ⟨wq.heap.size,3,none⟩ (.int .i64 ty)).alloc (.cells #[.string ⟨#[61]⟩,.string ⟨#[105,110]⟩] 9)) w5.heap.size 9 [.string ⟨#[61]⟩,.string ⟨#[105,110]⟩]:=Bk.newAt 9 #[.string ⟨#[61]⟩,.string ⟨#[105,110]⟩] (by simp)
 have hszP:w5.heap.size+1=((w5.setCell ⟨wq.heap.size,3,none⟩ (.int .i64 ty)).alloc (.cells #[.string ⟨#[61]⟩,.string ⟨#[105,110]⟩] 9)).heap.size:=by simp
 go_wp2_with fail
 have hcall:=qG I hE hW f (ihs f (by omega)) (nx (nx (.ok () (k+1):Rs Unit) (aJ I.M)) (aK I.M)) _ R (d+1) w5.heap.size Q_14 hSp (by omega) hn3
 refine hcall.mono ?_
 rintro e w7 ⟨v,rfl,hrj,hV7,hs7,hrow⟩
 clear hcall e3 z3
 have U_15:=U_14.trans hV7
 have B_15:=B_14.but hV7 (by omega)
 have E_15:=E_14.but hV7 (by omega)
 have lB_15:=B_15.lt
 have lE_15:=E_15.lt
 have s_15:=hV7.size
 obtain⟨ao,cc,rfl⟩:=hrj.val
 rw[← hszP] at hrow hrj
 clear hszP
 have e5:w7.cell? ⟨wq.heap.size,5,none⟩=some (.slice none 0 0):=E_15.cell 5
 have z5:=E_15.frz 5
 go_upto_region 26 with fail
 clear e5 z5
 have hoE5:=(Oth.refl wq.heap.size w7).set 5 (.slice ao 2 cc)
 have hbE5:But wq.heap.size w7 (w7.setCell ⟨wq.heap.size,5,none⟩ (.slice ao 2 cc)):=⟨hoE5.os,hoE5.tape,hoE5.output,by rw[hoE5.size];omega,fun i _ hn=>hoE5.block i hn⟩
 have U_16:=hoE5.but U_15 (by omega)
 have B_16:=B_15.but hbE5 (by omega)
 have Q_16:=bO hs7 hbE5 (by omega) (by omega)
 have hEd:Bk (w7.setCell ⟨wq.heap.size,5,none⟩ (.slice ao 2 cc)) wq.heap.size 58 [.int .i64 22,.string (bs nm.text),.string ⟨#[]⟩,.int .i64 ty,.complex .f64 0 0,.slice ao 2 cc,.int .i64 (I.M k).at_]:=E_15.set 5 _
 have lB_16:=B_16.lt
 have lE_16:=hEd.lt
 have hel:=fun a ka b kb e1 e2=>((qx (hrow a ka b kb e1 e2)).keep (w':=(w7.setCell ⟨wq.heap.size,5,none⟩ (.slice ao 2 cc))) fun b hb _=>hoE5.block b (by omega))
 obtain⟨w6,hw6⟩:∃ W,W=(w7.setCell ⟨wq.heap.size,5,none⟩ (.slice ao 2 cc)):=⟨_,rfl⟩
 rw[← hw6] at hel U_16 B_16 Q_16 hEd lB_16 lE_16 ⊢
 clear hw6 hoE5 hbE5
 obtain⟨dd,cd,zd,hsl⟩:=Q_16.leave (by omega)
 have hVl:=(But.refl R w6).setR (j:=8) (.int .i64 (wrap64 (dd-1)))
 have hBl:=B_16.but hVl (by omega)
 have hEl:=hEd.but hVl (by omega)
 have hUl:=U_16.trans hVl
 have lsz:=hVl.size
 have hcell8:=cd
 go_wp2_with (first
  |refine ai rfl 58 (.tmp 5) rfl wq.heap.size 0 rfl [.int .i64 22,.string (bs nm.text),.string ⟨#[]⟩,.int .i64 ty,.complex .f64 0 0,.slice ao 2 cc,.int .i64 (I.M k).at_] _ (hEl.range 0 7) Tryz.underE Tryz.infoE ?_
  |(refine ah rfl 58 (.tmp 2) (.tmp 105) rfl w.heap.size 0 [.int .i64 22,.string (bs nm.text),.string ⟨#[]⟩,.int .i64 ty,.complex .f64 0 0,.slice ao 2 cc,.int .i64 (I.M k).at_] rfl rfl hBl (Nat.le_refl 7) Tryz.infoE (show Sv [.int .i64 22,.string (bs nm.text),.string ⟨#[]⟩,.int .i64 ty,.complex .f64 0 0,.slice ao 2 cc,.int .i64 (I.M k).at_] from bX 22 ty 0 0 (bs nm.text) ⟨#[]⟩ (.slice ao 2 cc) rfl _).one ?_;intro wz hBz hoz;obtain⟨q0,q1,q2,q3,q4,q5,q6⟩:=Bk.seven (show Bk wz w.heap.size _ [_,_,_,_,_,_,_] from hBz);have hsz:=hsl.oth hoz (by omega) (by omega);have hUz:=hoz.but hUl (Nat.le_refl _);have hze:=fun a ka b kb e1 e2=>((hel a ka b kb e1 e2).keep (w':=wz) fun b hb _=>(hoz.block b (by omega)).trans (hVl.block b (by assumption) (by omega)))))
 refine bodyPost_ret (v:=.agg #[.int .i64 22,.string (bs nm.text),.string ⟨#[]⟩,.int .i64 ty,.complex .f64 0 0,.slice ao 2 cc,.int .i64 (I.M k).at_]) (by simp[results,Tryz.results92,go_sem,q0,q1,q2,q3,q4,q5,q6]) rfl ⟨_,rfl,(show Sv [.int .i64 22,.string (bs nm.text),.string ⟨#[]⟩,.int .i64 ty,.complex .f64 0 0,.slice ao 2 cc,.int .i64 (I.M k).at_] from bX 22 ty 0 0 (bs nm.text) ⟨#[]⟩ (.slice ao 2 cc) rfl _),?_,?_,hUz⟩
 ·intro x j e
  rw[bindP,if_neg (show ¬ (lmOf I).n≤(d:Int) by show ¬ I.ln≤(d:Int);omega)] at e
  obtain⟨n2,k1,e1,f1⟩:=au.1 e
  obtain⟨t2,k2,e2,f2⟩:=au.1 f1
  obtain⟨_,k3,e3,f3⟩:=au.1 f2
  obtain⟨a,ka,e4,f4⟩:=au.1 f3
  obtain⟨_,k5,e5,f5⟩:=au.1 f4
  obtain⟨b,kb,e6,f6⟩:=au.1 f5
  have s1:(nx (.ok () (k+1):Rs Unit) (aJ I.M))=.ok n2 k1:=e1
  have s2:(nx (nx (.ok () (k+1):Rs Unit) (aJ I.M)) (aK I.M))=.ok t2 k2:=by rw[s1];exact e2
  have s3:(nx (nx (nx (nx (.ok () (k+1):Rs Unit) (aJ I.M)) (aK I.M)) (aj I.M [61])) (exprP I.M (lmOf I) f (d+1)))=.ok a ka:=by rw[s2,az,e3,az];exact e4
  have s4:(nx (nx (nx (nx (nx (nx (.ok () (k+1):Rs Unit) (aJ I.M)) (aK I.M)) (aj I.M [61])) (exprP I.M (lmOf I) f (d+1))) (aj I.M [105,110])) (exprP I.M (lmOf I) f (d+1)))=.ok b kb:=by rw[s3,az,show aj I.M [105,110] ka=_ from e5,az];exact e6
  obtain rfl:=hg1 _ _ s1
  obtain rfl:=hg2 _ _ s2
  have hx:=hze a ka b kb s3 s4
  cases f6
  exact dI (hx.imp fun b hb _=>by omega) rfl
 ·rw[bindP,if_neg (show ¬ (lmOf I).n≤(d:Int) by show ¬ I.ln≤(d:Int);omega)]
  have hz:=hsz
  rw[az] at hz
  rw[show tIn=[105,110] from rfl]
  cases hq0:aJ I.M (k+1) with
  |out=>rw[hq0] at hz;exact hz.elim
  |bad y j=>rw[hq0] at hz;exact hz
  |ok nm k1=>
   rw[hq0,az] at hz
   rw[ak rfl]
   cases hq1:aK I.M k1 with
   |out=>rw[hq1] at hz;exact hz.elim
   |bad y j=>rw[hq1] at hz;exact hz
   |ok ty k2=>
    rw[hq1,az] at hz
    rw[ak rfl]
    cases hq2:aj I.M [61] k2 with
    |out=>rw[hq2] at hz;exact hz.elim
    |bad y j=>rw[hq2] at hz;exact hz
    |ok u1 k3=>
     rw[hq2,az] at hz
     rw[ak rfl]
     cases hq3:exprP I.M (lmOf I) f (d+1) k3 with
     |out=>rw[hq3] at hz;exact hz.elim
     |bad y j=>rw[hq3] at hz;exact hz
     |ok a ka=>
      rw[hq3,az] at hz
      rw[ak rfl]
      cases hq4:aj I.M [105,110] ka with
      |out=>rw[hq4] at hz;exact hz.elim
      |bad y j=>rw[hq4] at hz;exact hz
      |ok u2 k5=>
       rw[hq4,az] at hz
       rw[ak rfl]
       cases hq5:exprP I.M (lmOf I) f (d+1) k5 with
       |out=>rw[hq5] at hz;exact hz.elim
       |bad y j=>rw[hq5] at hz;exact hz
       |ok b kb=>
        rw[hq5] at hz;exact hz
end Go.Proofs.YtimoappbefindaaGreat
