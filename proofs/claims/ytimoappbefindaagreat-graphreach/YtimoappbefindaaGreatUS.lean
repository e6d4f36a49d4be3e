/-
  3 texts in one: what each proves stands at its head.
-/
import Derived.Test.YtimoappbefindaaGreatUh
import Derived.BigQuiet
import Derived.Test.YtimoappbefindaaGreatUR
import Derived.Test.YtimoappbefindaaGreatUv
import Derived.Deep.DeepCutAuto
namespace Go.Proofs.YtimoappbefindaaGreat
set_option maxHeartbeats 8000000
open Go.RowKit
set_option maxRecDepth 100000
theorem eQ:Sv [.int .i64 0,.string ⟨#[]⟩,.string ⟨#[]⟩,.int .i64 0,.complex .f64 0 0,.slice none 0 0,.int .i64 0]:=⟨rfl,by
 intro v hv
 simp only[List.mem_cons,List.not_mem_nil,or_false] at hv
 rcases hv with rfl|rfl|rfl|rfl|rfl|rfl|rfl<;>rfl⟩
theorem bR (op ty p q:Int) (a b:ByteArray) (v:Value) (hv:v.oneCell'=true) (pos:Int):Sv [.int .i64 op,.string a,.string b,.int .i64 ty,.complex .f64 (fl p) (fl q),v,.int .i64 pos]:=⟨rfl,by
 intro u hu
 simp only[List.mem_cons,List.not_mem_nil,or_false] at hu
 rcases hu with rfl|rfl|rfl|rfl|rfl|rfl|rfl
 ·rfl
 ·rfl
 ·rfl
 ·rfl
 ·rfl
 ·exact hv
 ·rfl⟩
def Kw (M:Nat→Mk):Prop:=∀ k,(M k).kind=1→tk M [40] k=false
theorem iA (I:Rdi) (_hE:Ends I.M I.n) (_hW:∀ s∈lks,Wm I.M s) (_hK:Kw I.M) (w:World) (R:Nat) (k j:Nat) (y:Int) (hy:y≠0) (d:Nat) (d':Int) (h:Rq I w R k y (I.M j).at_ d') :
  Calls Tryz.prog 133 #[.pointer (some ⟨R,0,none⟩)] w (RA I R d w (.bad y j)):=by
 have hlt:=h.lt
 have b0:(y != 0)=true:=by simpa using hy
 have Q_1:=h.up (ae w (.cells ez 58))
 have U_1:=(But.refl R w).then (ae w (.cells ez 58))
 have B_1:=Bk.new w 58 ez
 have hcx:=aG
 go_enter Tryz.func133,Tryz.ntmps133
 go_wp2_with fail
 refine (az I (w.alloc (.cells ez 58)) R k y _ d' Q_1).mono ?_
 rintro e w1 ⟨rfl,hb1⟩
 unfold mkV
 have Q_2:=Q_1.up hb1
 have U_2:=U_1.then hb1
 have B_2:=B_1.up hb1
 have lB_2:=B_2.lt
 have s_2:=hb1.size
 have Q_3:=Q_2.up (ae w1 (.cells mz 135))
 have U_3:=U_2.then (ae w1 (.cells mz 135))
 have B_3:=B_2.up (ae w1 (.cells mz 135))
 have M_3:=Bk.new w1 135 mz
 go_wp2_with (first
  |(refine af rfl 135 (.tmp 3) (.tmp 8) rfl w1.heap.size 0 (mkC (I.M k)) rfl rfl M_3 (Nat.le_refl 4) Tryz.infoM (aC _) ?_;intro w2 M_4 ho3;have Q_4:=Q_3.oth ho3 (by omega) (by omega);have U_4:=ho3.but U_3 (by omega);have B_4:=B_3.oth ho3 (by omega);have lB_4:=B_4.lt;have lM_4:=M_4.lt;obtain⟨m0,m1,m2,m3⟩:=Bk.four (show Bk w2 w1.heap.size _ [_,_,_,_] from M_4);obtain⟨-,c1,c2,-⟩:=Q_4.nine;have z1:=Q_4.blk.frz 1)
  |(refine af rfl 58 (.tmp 2) (.tmp 14) rfl w.heap.size 0 [.int .i64 0,.string ⟨#[]⟩,.string ⟨#[]⟩,.int .i64 0,.complex .f64 0 0,.slice none 0 0,.int .i64 0] rfl rfl B_4 (Nat.le_refl 7) Tryz.infoE eQ.one ?_;intro wz B_5 ho4;have Q_5:=Q_4.oth ho4 (by omega) (by omega);have U_5:=ho4.but U_4 (by omega);have M_5:=M_4.oth ho4 (by omega);have lM_5:=M_5.lt;have lB_5:=B_5.lt;obtain⟨q0,q1,q2,q3,q4,q5,q6⟩:=Bk.seven (show Bk wz w.heap.size _ [_,_,_,_,_,_,_] from B_5)))
 refine bodyPost_ret (v:=.agg #[.int .i64 0,.string ⟨#[]⟩,.string ⟨#[]⟩,.int .i64 0,.complex .f64 0 0,.slice none 0 0,.int .i64 0]) (by simp[results,Tryz.results133,go_sem,q0,q1,q2,q3,q4,q5,q6]) rfl ⟨_,rfl,eQ,(fun _ _ e=>by cases e),⟨hy,k,d',Q_5⟩,U_5⟩
theorem runit_num (I:Rdi) (hE:Ends I.M I.n) (_hW:∀ s∈lks,Wm I.M s) (_hK:Kw I.M) (f:Nat) (_ihs:∀ g,g≤f→AllR I g) (w:World) (R:Nat) (k d:Nat) (h:Rq I w R k 0 0 d) (hk:(I.M k).kind=2) :
  Calls Tryz.prog 133 #[.pointer (some ⟨R,0,none⟩)] w (RA I R d w (unitP I.M (lmOf I) (f+1) d k)):=by
 have hr:unitP I.M (lmOf I) (f+1) d k=.ok (.mk 1 [] [] 0 (I.M k).p (I.M k).q [] (I.M k).at_) (k+1):=by rw[unitP,if_pos hk]
 rw[hr]
 have hlt:=h.lt
 have hk1:=hE.kd I.M hk (by decide) h.kn
 have hw:=w64k k (by have:=h.small;omega)
 have b2:((I.M k).kind==2)=true:=by simp[hk]
 clear hr hk
 have Q_1:=h.up (ae w (.cells ez 58))
 have U_1:=(But.refl R w).then (ae w (.cells ez 58))
 have B_1:=Bk.new w 58 ez
 have hcx:=aG
 go_enter Tryz.func133,Tryz.ntmps133
 go_wp2_with fail
 refine (az I (w.alloc (.cells ez 58)) R k 0 0 d Q_1).mono ?_
 rintro e w1 ⟨rfl,hb1⟩
 unfold mkV
 have Q_2:=Q_1.up hb1
 have U_2:=U_1.then hb1
 have B_2:=B_1.up hb1
 have lB_2:=B_2.lt
 have s_2:=hb1.size
 have Q_3:=Q_2.up (ae w1 (.cells mz 135))
 have U_3:=U_2.then (ae w1 (.cells mz 135))
 have B_3:=B_2.up (ae w1 (.cells mz 135))
 have M_3:=Bk.new w1 135 mz
 go_wp2_with (first
  |(refine af rfl 135 (.tmp 3) (.tmp 8) rfl w1.heap.size 0 (mkC (I.M k)) rfl rfl M_3 (Nat.le_refl 4) Tryz.infoM (aC _) ?_;intro w2 M_4 ho3;have Q_4:=Q_3.oth ho3 (by omega) (by omega);have U_4:=ho3.but U_3 (by omega);have B_4:=B_3.oth ho3 (by omega);have lB_4:=B_4.lt;have lM_4:=M_4.lt;obtain⟨m0,m1,m2,m3⟩:=Bk.four (show Bk w2 w1.heap.size _ [_,_,_,_] from M_4);obtain⟨-,c1,c2,-⟩:=Q_4.nine;have z1:=Q_4.blk.frz 1;have hdn:=Q_4.go (k+1) hk1;have hVn:=(But.refl R w2).setR (j:=1) (.int .i64 ((k+1:Nat):Int));have U_5:=U_4.trans hVn;have B_5:=B_4.but hVn (by omega);have M_5:=M_4.but hVn (by omega);have lB_5:=B_5.lt;have lM_5:=M_5.lt;have s_5:=hVn.size;obtain⟨n0,n1,n2,n3⟩:=Bk.four (show Bk (w2.setCell ⟨R,1,none⟩ (.int .i64 ((k+1:Nat):Int))) w1.heap.size _ [_,_,_,_] from M_5))
  |(refine af rfl 58 (.tmp 2) (.tmp 30) rfl w.heap.size 0 [.int .i64 1,.string ⟨#[]⟩,.string ⟨#[]⟩,.int .i64 0,.complex .f64 (fl (I.M k).p) (fl (I.M k).q),.slice none 0 0,.int .i64 (I.M k).at_] rfl rfl B_5 (Nat.le_refl 7) Tryz.infoE (bR _ _ _ _ _ _ _ rfl _).one ?_;intro wz B_6 ho5;have U_6:=ho5.but U_5 (by omega);have M_6:=M_5.oth ho5 (by omega);have Q_6:=hdn.oth ho5 (by omega) (by omega);have lM_6:=M_6.lt;have lB_6:=B_6.lt;obtain⟨q0,q1,q2,q3,q4,q5,q6⟩:=Bk.seven (show Bk wz w.heap.size _ [_,_,_,_,_,_,_] from B_6)))
 refine bodyPost_ret (v:=.agg #[.int .i64 1,.string ⟨#[]⟩,.string ⟨#[]⟩,.int .i64 0,.complex .f64 (fl (I.M k).p) (fl (I.M k).q),.slice none 0 0,.int .i64 (I.M k).at_]) (by simp[results,Tryz.results133,go_sem,q0,q1,q2,q3,q4,q5,q6]) rfl ⟨_,rfl,bR _ _ _ _ _ _ _ rfl _,(fun _ _ e=>by cases e;exact ExW.mk (c:=0) .nil),Q_6,U_6⟩
theorem runit_name (I:Rdi) (hE:Ends I.M I.n) (_hW:∀ s∈lks,Wm I.M s) (_hK:Kw I.M) (f:Nat) (ihs:∀ g,g≤f→AllR I g) (w:World) (R:Nat) (k d:Nat) (h:Rq I w R k 0 0 d) (hk:(I.M k).kind=0) (hne:unitP I.M (lmOf I) (f+1) d k≠.out) :
  Calls Tryz.prog 133 #[.pointer (some ⟨R,0,none⟩)] w (RA I R d w (unitP I.M (lmOf I) (f+1) d k)):=by
 have hr:unitP I.M (lmOf I) (f+1) d k=namedP I.M (lmOf I) f d k:=by rw[unitP,if_neg (by omega),if_pos hk]
 rw[hr] at hne ⊢
 have hlt:=h.lt
 have hk1:=hE.kd I.M hk (by decide) h.kn
 have hw:=w64k k (by have:=h.small;omega)
 have b2:((I.M k).kind==2)=false:=by simp[hk]
 have b0:((I.M k).kind==0)=true:=by simp[hk]
 clear hr hk
 have Q_1:=h.up (ae w (.cells ez 58))
 have U_1:=(But.refl R w).then (ae w (.cells ez 58))
 have B_1:=Bk.new w 58 ez
 have hcx:=aG
 go_enter Tryz.func133,Tryz.ntmps133
 go_wp2_with fail
 refine (az I (w.alloc (.cells ez 58)) R k 0 0 d Q_1).mono ?_
 rintro e w1 ⟨rfl,hb1⟩
 unfold mkV
 have Q_2:=Q_1.up hb1
 have U_2:=U_1.then hb1
 have B_2:=B_1.up hb1
 have lB_2:=B_2.lt
 have s_2:=hb1.size
 have Q_3:=Q_2.up (ae w1 (.cells mz 135))
 have U_3:=U_2.then (ae w1 (.cells mz 135))
 have B_3:=B_2.up (ae w1 (.cells mz 135))
 have M_3:=Bk.new w1 135 mz
 go_wp2_with (first
  |(refine af rfl 135 (.tmp 3) (.tmp 8) rfl w1.heap.size 0 (mkC (I.M k)) rfl rfl M_3 (Nat.le_refl 4) Tryz.infoM (aC _) ?_;intro w2 M_4 ho3;have Q_4:=Q_3.oth ho3 (by omega) (by omega);have U_4:=ho3.but U_3 (by omega);have B_4:=B_3.oth ho3 (by omega);have lB_4:=B_4.lt;have lM_4:=M_4.lt;obtain⟨m0,m1,m2,m3⟩:=Bk.four (show Bk w2 w1.heap.size _ [_,_,_,_] from M_4);obtain⟨-,c1,c2,-⟩:=Q_4.nine;have z1:=Q_4.blk.frz 1;have hdn:=Q_4.go (k+1) hk1;have hVn:=(But.refl R w2).setR (j:=1) (.int .i64 ((k+1:Nat):Int));have U_5:=U_4.trans hVn;have B_5:=B_4.but hVn (by omega);have M_5:=M_4.but hVn (by omega);have lB_5:=B_5.lt;have lM_5:=M_5.lt;have s_5:=hVn.size)
  |refine ah rfl 135 (.tmp 3) rfl w1.heap.size 0 rfl (mkC (I.M k)) _ (M_5.range 0 4) Tryz.underM Tryz.infoM ?_)
 refine ((ihs f (Nat.le_refl _)).named _ R k d hdn hne).mono ?_
 rintro e w3 ⟨us,rfl,sv2,hex2,hs2,hV3⟩
 obtain⟨b0,b1,b2,b3,b4,b5,b6,rfl⟩:=aP sv2.len
 have U_6:=U_5.trans hV3
 have B_6:=B_5.but hV3 (by omega)
 have lB_6:=B_6.lt
 have s_6:=hV3.size
 have hxb:=fun x j e=>(hex2 x j e).imp (A':=fun b=>w.heap.size<b) fun b hb hl=>by first|omega|(simp at hb;omega)
 go_wp2_with (first
  |(refine af rfl 58 (.tmp 2) (.tmp 44) rfl w.heap.size 0 [b0,b1,b2,b3,b4,b5,b6] rfl rfl B_6 (Nat.le_refl 7) Tryz.infoE sv2.one ?_;intro wz B_7 ho6;have U_7:=ho6.but U_6 (by omega);have Q_7:=hs2.oth ho6 (by omega) (by omega);have Y_7:=fun x j e=>(hxb x j e).oth2 ho6 (fun b hb=>by omega);have lB_7:=B_7.lt;obtain⟨q0,q1,q2,q3,q4,q5,q6⟩:=Bk.seven (show Bk wz w.heap.size _ [_,_,_,_,_,_,_] from B_7)))
 refine bodyPost_ret (v:=.agg #[b0,b1,b2,b3,b4,b5,b6]) (by simp[results,Tryz.results133,go_sem,q0,q1,q2,q3,q4,q5,q6]) rfl ⟨_,rfl,sv2,(fun x j e=>(Y_7 x j e).imp fun b hb _=>by omega),Q_7,U_7⟩
theorem runit_brack (I:Rdi) (hE:Ends I.M I.n) (hW:∀ s∈lks,Wm I.M s) (_hK:Kw I.M) (f:Nat) (ihs:∀ g,g≤f→AllR I g) (w:World) (R:Nat) (k d:Nat) (h:Rq I w R k 0 0 d) (hk0:(I.M k).kind≠0) (hk1:(I.M k).kind≠1) (hk2:(I.M k).kind≠2) (hne:unitP I.M (lmOf I) (f+1) d k≠.out) :
  Calls Tryz.prog 133 #[.pointer (some ⟨R,0,none⟩)] w (RA I R d w (unitP I.M (lmOf I) (f+1) d k)):=by
 obtain⟨r,hr⟩:∃ r,r=unitP I.M (lmOf I) (f+1) d k:=⟨_,rfl⟩
 rw[← hr] at hne ⊢
 rw[unitP,if_neg hk2,if_neg hk0,if_neg hk1] at hr
 obtain⟨f,rfl⟩:∃ f',f=f'+1:=by
  cases f with
  |zero=>exact absurd (by rw[hr,brackP]) hne
  |succ f=>exact⟨f,rfl⟩
 rw[brackP] at hr
 have HR:Hid (r=_):=hr
 clear hr
 have hlt:=h.lt
 have hW40:=hW [40] (by simp[lks])
 have hW41:=hW [41] (by simp[lks])
 have b2:((I.M k).kind==2)=false:=by simp[hk2]
 have b0:((I.M k).kind==0)=false:=by simp[hk0]
 have b1:((I.M k).kind != 1)=true:=by simp[hk1]
 clear hk0 hk1 hk2
 have Q_1:=h.up (ae w (.cells ez 58))
 have U_1:=(But.refl R w).then (ae w (.cells ez 58))
 have B_1:=Bk.new w 58 ez
 have hcx:=aG
 go_enter Tryz.func133,Tryz.ntmps133
 go_wp2_with fail
 refine (az I (w.alloc (.cells ez 58)) R k 0 0 d Q_1).mono ?_
 rintro e w1 ⟨rfl,hb1⟩
 unfold mkV
 have Q_2:=Q_1.up hb1
 have U_2:=U_1.then hb1
 have B_2:=B_1.up hb1
 have lB_2:=B_2.lt
 have s_2:=hb1.size
 have Q_3:=Q_2.up (ae w1 (.cells mz 135))
 have U_3:=U_2.then (ae w1 (.cells mz 135))
 have B_3:=B_2.up (ae w1 (.cells mz 135))
 have M_3:=Bk.new w1 135 mz
 cases t1:tk I.M [40] k with
 |false=>
  have HE:r=.bad 21 k:=by rw[show r=_ from HR];simp[ai,t1,Rs.bind]
  clear HR
  go_wp2_with (first
   |(refine af rfl 135 (.tmp 3) (.tmp 8) rfl w1.heap.size 0 (mkC (I.M k)) rfl rfl M_3 (Nat.le_refl 4) Tryz.infoM (aC _) ?_;intro w2 M_4 ho3;have Q_4:=Q_3.oth ho3 (by omega) (by omega);have U_4:=ho3.but U_3 (by omega);have B_4:=B_3.oth ho3 (by omega);have lB_4:=B_4.lt;have lM_4:=M_4.lt;obtain⟨m0,m1,m2,m3⟩:=Bk.four (show Bk w2 w1.heap.size _ [_,_,_,_] from M_4);obtain⟨-,c1,c2,-⟩:=Q_4.nine;have z1:=Q_4.blk.frz 1))
  refine (aT I [40] w2 R (t1 ▸ ay I [40] hW40 w2 R k 0 d Q_4)).mono ?_
  rintro e w3 ⟨rfl,hbw3⟩
  have Q_5:=Q_4.up hbw3
  have U_5:=U_4.then hbw3
  have B_5:=B_4.up hbw3
  have M_5:=M_4.up hbw3
  have lB_5:=B_5.lt
  have lM_5:=M_5.lt
  have s_5:=hbw3.size
  obtain⟨n0,n1,n2,n3⟩:=Bk.four (show Bk w3 w1.heap.size _ [_,_,_,_] from M_5)
  go_wp2_with fail
  refine (aY I w3 R k 21 d Q_5).mono ?_
  rintro e w4 ⟨rfl,hd4,hV4⟩
  have U_6:=U_5.trans hV4
  have B_6:=B_5.but hV4 (by omega)
  have M_6:=M_5.but hV4 (by omega)
  have lB_6:=B_6.lt
  have lM_6:=M_6.lt
  have s_6:=hV4.size
  go_wp2_with (first
   |(refine af rfl 58 (.tmp 2) (.tmp 65) rfl w.heap.size 0 [.int .i64 0,.string ⟨#[]⟩,.string ⟨#[]⟩,.int .i64 0,.complex .f64 0 0,.slice none 0 0,.int .i64 0] rfl rfl B_6 (Nat.le_refl 7) Tryz.infoE eQ.one ?_;intro wz B_7 ho6;have U_7:=ho6.but U_6 (by omega);have M_7:=M_6.oth ho6 (by omega);have Q_7:=hd4.oth ho6 (by omega) (by omega);have lM_7:=M_7.lt;have lB_7:=B_7.lt;obtain⟨q0,q1,q2,q3,q4,q5,q6⟩:=Bk.seven (show Bk wz w.heap.size _ [_,_,_,_,_,_,_] from B_7)))
  subst HE
  refine bodyPost_ret (v:=.agg #[.int .i64 0,.string ⟨#[]⟩,.string ⟨#[]⟩,.int .i64 0,.complex .f64 0 0,.slice none 0 0,.int .i64 0]) (by simp[results,Tryz.results133,go_sem,q0,q1,q2,q3,q4,q5,q6]) rfl ⟨_,rfl,eQ,(fun _ _ e=>by cases e),⟨by omega,k,d,Q_7⟩,U_7⟩
 |true=>
  have hk1:=hE.tk I.M t1 (by decide) h.kn
  have HR:Hid (r=(exprP I.M (lmOf I) f d (k+1)).bind fun e k2=>(ai I.M [41] k2).bind fun _ k3=>.ok e k3):=by
   show r=_
   rw[show r=_ from HR]
   simp only[ai,t1,if_true,Rs.bind]
  have hn2:=bJ HR hne
  go_wp2_with (first
   |(refine af rfl 135 (.tmp 3) (.tmp 8) rfl w1.heap.size 0 (mkC (I.M k)) rfl rfl M_3 (Nat.le_refl 4) Tryz.infoM (aC _) ?_;intro w2 M_4 ho3;have Q_4:=Q_3.oth ho3 (by omega) (by omega);have U_4:=ho3.but U_3 (by omega);have B_4:=B_3.oth ho3 (by omega);have lB_4:=B_4.lt;have lM_4:=M_4.lt;obtain⟨m0,m1,m2,m3⟩:=Bk.four (show Bk w2 w1.heap.size _ [_,_,_,_] from M_4);obtain⟨-,c1,c2,-⟩:=Q_4.nine;have z1:=Q_4.blk.frz 1))
  refine (cZ I [40] hW40 w2 R k d Q_4 t1 hk1).mono ?_
  rintro e w3 ⟨rfl,hd3,hV3⟩
  have U_5:=U_4.trans hV3
  have B_5:=B_4.but hV3 (by omega)
  have M_5:=M_4.but hV3 (by omega)
  have lB_5:=B_5.lt
  have lM_5:=M_5.lt
  have s_5:=hV3.size
  go_wp2_with fail
  refine ((ihs f (by omega)).expr (.ok () (k+1)) w3 R d hd3 hn2).mono ?_
  rintro e w4 ⟨us,rfl,sv2,hex2,hs2,hV4⟩
  rw[ax] at hex2 hs2
  obtain⟨b0,b1,b2,b3,b4,b5,b6,rfl⟩:=aP sv2.len
  have U_6:=U_5.trans hV4
  have B_6:=B_5.but hV4 (by omega)
  have lB_6:=B_6.lt
  have s_6:=hV4.size
  have hxb:=fun x j e=>(hex2 x j e).imp (A':=fun b=>w.heap.size<b∧b<w4.heap.size) fun b hb hl=>by first|omega|(simp at hb;omega)
  clear hex2
  have U_7:=U_6.then (ae w4 (.cells ez 58))
  have B_7:=B_6.up (ae w4 (.cells ez 58))
  have Q_7:=hs2.up (ae w4 (.cells ez 58))
  have Y_7:=fun x j e=>(hxb x j e).up (ae w4 (.cells ez 58))
  have C_7:=Bk.new w4 58 ez
  go_wp2_with (first
   |(refine af rfl 58 (.tmp 4) (.tmp 49) rfl w4.heap.size 0 [b0,b1,b2,b3,b4,b5,b6] rfl rfl C_7 (Nat.le_refl 7) Tryz.infoE sv2.one ?_;intro w5 C_8 ho7;have U_8:=ho7.but U_7 (by omega);have B_8:=B_7.oth ho7 (by omega);have Q_8:=Q_7.oth ho7 (by omega) (by omega);have Y_8:=fun x j e=>(Y_7 x j e).oth2 ho7 (fun b hb=>by omega);have lB_8:=B_8.lt;have lC_8:=C_8.lt))
  refine (aA I hE [41] hW41 _ w5 R d Q_8).mono ?_
  rintro e w6 ⟨rfl,hs6,hV6⟩
  have U_9:=U_8.trans hV6
  have B_9:=B_8.but hV6 (by omega)
  have Y_9:=fun x j e=>(Y_8 x j e).but2 hV6 (fun b hb=>by omega)
  have C_9:=C_8.but hV6 (by omega)
  have lB_9:=B_9.lt
  have lC_9:=C_9.lt
  have s_9:=hV6.size
  go_wp2_with (first
   |refine ah rfl 58 (.tmp 4) rfl w4.heap.size 0 rfl [b0,b1,b2,b3,b4,b5,b6] _ (C_9.range 0 7) Tryz.underE Tryz.infoE ?_
   |(refine af rfl 58 (.tmp 2) (.tmp 52) rfl w.heap.size 0 [b0,b1,b2,b3,b4,b5,b6] rfl rfl B_9 (Nat.le_refl 7) Tryz.infoE sv2.one ?_;intro wz B_10 ho9;have U_10:=ho9.but U_9 (by omega);have Y_10:=fun x j e=>(Y_9 x j e).oth2 ho9 (fun b hb=>by omega);have C_10:=C_9.oth ho9 (by omega);have Q_10:=hs6.oth ho9 (by omega) (by omega);have lC_10:=C_10.lt;have lB_10:=B_10.lt;obtain⟨q0,q1,q2,q3,q4,q5,q6⟩:=Bk.seven (show Bk wz w.heap.size _ [_,_,_,_,_,_,_] from B_10)))
  refine bodyPost_ret (v:=.agg #[b0,b1,b2,b3,b4,b5,b6]) (by simp[results,Tryz.results133,go_sem,q0,q1,q2,q3,q4,q5,q6]) rfl ⟨_,rfl,sv2,?_,?_,U_10⟩
  ·intro x j e
   rw[show r=_ from HR] at e
   obtain⟨x',k2,e1,e2⟩:=ak.1 e
   obtain⟨_,k3,_,e4⟩:=ak.1 e2
   cases e4
   exact (Y_10 x k2 e1).imp fun b hb _=>by omega
  ·rw[show r=_ from HR]
   have hz:=Q_10
   cases hq2:exprP I.M (lmOf I) f d (k+1) with
   |out=>exact absurd hq2 hn2
   |bad y j=>rw[hq2] at hz;exact hz
   |ok x k2=>
    rw[hq2,ax] at hz
    rw[aj rfl]
    cases hq3:ai I.M [41] k2 with
    |out=>rw[hq3] at hz;exact hz.elim
    |bad y j=>rw[hq3] at hz;exact hz
    |ok u k3=>rw[hq3] at hz;exact hz
theorem Rq.low {I:Rdi} {w w':World} {R k B:Nat} {y a d:Int} (h:Rq I w R k y a d) (hb:Below B w w') (hR:R<B) (hI:I.b<B):Rq I w' R k y a d:=by
 refine⟨?_,fun t ht=>(h.ms t ht).to hI hb,h.ne,h.kn,h.small⟩
 have:=h.blk
 unfold Bk at this ⊢
 rw[hb.block R hR]
 exact this
theorem St.low {I:Rdi} {w w':World} {R B:Nat} {d:Int} {α:Type} {q:Rs α} (h:St I w R d q) (hb:Below B w w') (hR:R<B) (hI:I.b<B):St I w' R d q:=by
 cases q with
 |out=>exact h.elim
 |ok a k=>exact Rq.low (show Rq I w R k 0 0 d from h) hb hR hI
 |bad y j=>
  obtain⟨hy,k,d',h⟩:=h
  exact⟨hy,k,d',h.low hb hR hI⟩
theorem Bk.low {w w':World} {b B:Nat} {t:TypeId} {vs:List Value} (h:Bk w b t vs) (hb:Below B w w') (hR:b<B):Bk w' b t vs:=by
 unfold Bk at h ⊢
 rw[hb.block b hR]
 exact h
theorem oG (I:Rdi) (hE:Ends I.M I.n) (hW:∀ s∈lks,Wm I.M s) (g:Nat) (ih:AllR I g) {α:Type} (q:Rs α) (w:World) (R d gS:Nat) (h:St I w R d q) (hS:Bk w gS 9 [.string ⟨#[61]⟩,.string ⟨#[105,110]⟩]) (hSR:gS≠R) (hne:(nx (nx (nx (nx q (ai I.M [61])) (exprP I.M (lmOf I) g d)) (ai I.M [105,110])) (exprP I.M (lmOf I) g d))≠.out) :
  Calls Tryz.prog 108 #[.pointer (some ⟨R,0,none⟩),.slice (some ⟨gS,0,none⟩) 2 2] w fun e w'=>∃ v,e=.returned v∧Rj w' w.heap.size v 2∧But R w w'∧St I w' R d (nx (nx (nx (nx q (ai I.M [61])) (exprP I.M (lmOf I) g d)) (ai I.M [105,110])) (exprP I.M (lmOf I) g d)) ∧
   ∀ a ka b kb,(nx (nx q (ai I.M [61])) (exprP I.M (lmOf I) g d))=.ok a ka→(nx (nx (nx (nx q (ai I.M [61])) (exprP I.M (lmOf I) g d)) (ai I.M [105,110])) (exprP I.M (lmOf I) g d))=.ok b kb→Row w' w.heap.size v [a,b]:=by
 have hlt:=h.lt
 have hSl:=hS.lt
 have m1:=hne
 have m0:(nx (nx q (ai I.M [61])) (exprP I.M (lmOf I) g d))≠.out:=by
  intro e
  apply m1
  rw[e]
  rfl
 have j0:=Rj.nil w w.heap.size
 have u0:=But.refl R w
 have x0:w.cell? ⟨gS,0,none⟩=some (.string ⟨#[61]⟩):=hS.cell 0
 go_enter Tryz.func108,Tryz.ntmps108
 go_wp2
 refine wp_loop_rounds 3 ?_
 rw[rounds_succ]
 go_wp2_with fail
 refine (aA I hE [61] (hW [61] (by simp[lks,ig,ik,tIn])) _ w R d h).mono ?_
 rintro e w1 ⟨rfl,hs1,hV1⟩
 have j1:=j0.but hV1 (by omega)
 have u1:=u0.trans hV1
 have bk1:=hS.but hV1 (by omega)
 have z1:=u1.size
 clear x0
 go_wp2_with fail
 refine (ih.expr _ w1 R d hs1 m0).mono ?_
 rintro e w2 ⟨us,rfl,sva,hexa,hs2,hV2⟩
 obtain⟨a0,a1,a2,a3,a4,a5,a6,rfl⟩:=aP sva.len
 have j2:=j1.but hV2 (by omega)
 have u2:=u1.trans hV2
 have bk2:=bk1.but hV2 (by omega)
 have z2:=u2.size
 go_wp2_with (first
  |(refine af rfl 58 (.tmp 7) (.tmp 26) rfl w2.heap.size 0 [a0,a1,a2,a3,a4,a5,a6] rfl rfl (Bk.new w2 58 ez) (Nat.le_refl 7) Tryz.infoE sva.one ?_;intro w3 hX3 ho3;have hb3:Below w2.heap.size w2 w3:=(ae w2 (.cells ez 58)).trans (ho3.below (Nat.le_refl _));have j3:=j2.up hb3;have u3:=u2.then hb3;have bk3:=bk2.up hb3;have s3:=hs2.up hb3;have z3:=u3.size;obtain⟨v3,W3,r3,J3,B3,T3⟩:=gK j3 z3 sva (by omega);have R3:Hid (_=_):=r3;clear r3)
  |refine ah rfl 58 (.tmp 7) rfl w2.heap.size 0 rfl [a0,a1,a2,a3,a4,a5,a6] _ (hX3.range 0 7) Tryz.underE Tryz.infoE ?_
  |(at_builtin;refine wpList_append_run rfl (.tmp 27) (.tmp 29) 56 rfl rfl _ _ rfl rfl _ _ (show _=_ from R3) ?_))
 have y4:=fun a ka ea=>T3 [] a (Row.nil w3 w.heap.size) rfl (((hexa a ka ea).up hb3).mono (by omega)) (fun nb hnb=>((hexa a ka ea).up hb3).imp fun nc hnc _=>by have:=(j1.has nb hnb).2;omega)
 have j4:=J3
 have u4:=u3.low B3
 have bk4:=bk3.low B3 hSl
 have hs4:=s3.low B3 hlt.1 hlt.2
 generalize W3=w4 at *
 generalize v3=vv3 at *
 have x1:w4.cell? ⟨gS,1,none⟩=some (.string ⟨#[105,110]⟩):=bk4.cell 1
 go_wp2_with fail
 rw[rounds_succ]
 go_wp2_with fail
 refine (aA I hE [105,110] (hW [105,110] (by simp[lks,ig,ik,tIn])) _ w4 R d hs4).mono ?_
 rintro e w5 ⟨rfl,hs5,hV5⟩
 have j5:=j4.but hV5 (by omega)
 have u5:=u4.trans hV5
 have bk5:=bk4.but hV5 (by omega)
 have z5:=u5.size
 clear x1
 have y5:=fun a ka ea=>(y4 a ka ea).but hV5 (by omega)
 go_wp2_with fail
 refine (ih.expr _ w5 R d hs5 m1).mono ?_
 rintro e w6 ⟨us,rfl,svb,hexb,hs6,hV6⟩
 obtain⟨b0,b1,b2,b3,b4,b5,b6,rfl⟩:=aP svb.len
 have j6:=j5.but hV6 (by omega)
 have u6:=u5.trans hV6
 have bk6:=bk5.but hV6 (by omega)
 have z6:=u6.size
 have y6:=fun a ka ea=>(y5 a ka ea).but hV6 (by omega)
 go_wp2_with (first
  |(refine af rfl 58 (.tmp 7) (.tmp 26) rfl w6.heap.size 0 [b0,b1,b2,b3,b4,b5,b6] rfl rfl (Bk.new w6 58 ez) (Nat.le_refl 7) Tryz.infoE svb.one ?_;intro w7 hX7 ho7;have hb7:Below w6.heap.size w6 w7:=(ae w6 (.cells ez 58)).trans (ho7.below (Nat.le_refl _));have j7:=j6.up hb7;have u7:=u6.then hb7;have bk7:=bk6.up hb7;have s7:=hs6.up hb7;have z7:=u7.size;obtain⟨v7,W7,r7,J7,B7,T7⟩:=gK j7 z7 svb (by omega);have R7:Hid (_=_):=r7;clear r7)
  |refine ah rfl 58 (.tmp 7) rfl w6.heap.size 0 rfl [b0,b1,b2,b3,b4,b5,b6] _ (hX7.range 0 7) Tryz.underE Tryz.infoE ?_
  |(at_builtin;refine wpList_append_run rfl (.tmp 27) (.tmp 29) 56 rfl rfl _ _ rfl rfl _ _ (show _=_ from R7) ?_))
 have y7:=fun a ka ea=>(y6 a ka ea).up hb7
 have y8:=fun a ka b kb ea eb=>T7 [a] b (y7 a ka ea) rfl (((hexb b kb eb).up hb7).mono (by omega)) (fun nb hnb=>((hexb b kb eb).up hb7).imp fun nc hnc _=>by have:=(j5.has nb hnb).2;omega)
 have j8:=J7
 have u8:=u7.low B7
 have bk8:=bk7.low B7 hSl
 have hs8:=s7.low B7 hlt.1 hlt.2
 generalize W7=w8 at *
 generalize v7=vv7 at *
 go_wp2_with fail
 rw[rounds_succ]
 go_wp2
 go_ret
 exact⟨_,rfl,j8,u8,hs8,y8⟩
theorem rparts3 (I:Rdi) (hE:Ends I.M I.n) (hW:∀ s∈lks,Wm I.M s) (g:Nat) (ih:AllR I g) {α:Type} (q:Rs α) (w:World) (R d gS:Nat) (h:St I w R d q) (hS:Bk w gS 9 [.string ⟨#[]⟩,.string ⟨#[116,104,101,110]⟩,.string ⟨#[101,108,115,101]⟩]) (hSR:gS≠R) (hne:(nx (nx (nx (nx (nx q (exprP I.M (lmOf I) g d)) (ai I.M [116,104,101,110])) (exprP I.M (lmOf I) g d)) (ai I.M [101,108,115,101])) (exprP I.M (lmOf I) g d))≠.out) :
  Calls Tryz.prog 108 #[.pointer (some ⟨R,0,none⟩),.slice (some ⟨gS,0,none⟩) 3 3] w fun e w'=>∃ v,e=.returned v∧Rj w' w.heap.size v 3∧But R w w'∧St I w' R d (nx (nx (nx (nx (nx q (exprP I.M (lmOf I) g d)) (ai I.M [116,104,101,110])) (exprP I.M (lmOf I) g d)) (ai I.M [101,108,115,101])) (exprP I.M (lmOf I) g d)) ∧
   ∀ a ka b kb c kc,(nx q (exprP I.M (lmOf I) g d))=.ok a ka→(nx (nx (nx q (exprP I.M (lmOf I) g d)) (ai I.M [116,104,101,110])) (exprP I.M (lmOf I) g d))=.ok b kb→(nx (nx (nx (nx (nx q (exprP I.M (lmOf I) g d)) (ai I.M [116,104,101,110])) (exprP I.M (lmOf I) g d)) (ai I.M [101,108,115,101])) (exprP I.M (lmOf I) g d))=.ok c kc→Row w' w.heap.size v [a,b,c]:=by
 have hlt:=h.lt
 have hSl:=hS.lt
 have m2:=hne
 have m1:(nx (nx (nx q (exprP I.M (lmOf I) g d)) (ai I.M [116,104,101,110])) (exprP I.M (lmOf I) g d))≠.out:=by
  intro e
  apply m2
  rw[e]
  rfl
 have m0:(nx q (exprP I.M (lmOf I) g d))≠.out:=by
  intro e
  apply m1
  rw[e]
  rfl
 have j0:=Rj.nil w w.heap.size
 have u0:=But.refl R w
 have x0:w.cell? ⟨gS,0,none⟩=some (.string ⟨#[]⟩):=hS.cell 0
 go_enter Tryz.func108,Tryz.ntmps108
 go_wp2
 refine wp_loop_rounds 4 ?_
 rw[rounds_succ]
 go_wp2_with fail
 refine (ih.expr _ w R d h m0).mono ?_
 rintro e w1 ⟨us,rfl,sva,hexa,hs1,hV1⟩
 obtain⟨a0,a1,a2,a3,a4,a5,a6,rfl⟩:=aP sva.len
 have j1:=j0.but hV1 (by omega)
 have u1:=u0.trans hV1
 have bk1:=hS.but hV1 (by omega)
 have z1:=u1.size
 go_wp2_with (first
  |(refine af rfl 58 (.tmp 7) (.tmp 26) rfl w1.heap.size 0 [a0,a1,a2,a3,a4,a5,a6] rfl rfl (Bk.new w1 58 ez) (Nat.le_refl 7) Tryz.infoE sva.one ?_;intro w2 hX2 ho2;have hb2:Below w1.heap.size w1 w2:=(ae w1 (.cells ez 58)).trans (ho2.below (Nat.le_refl _));have j2:=j1.up hb2;have u2:=u1.then hb2;have bk2:=bk1.up hb2;have s2:=hs1.up hb2;have z2:=u2.size;obtain⟨v2,W2,r2,J2,B2,T2⟩:=gK j2 z2 sva (by omega);have R2:Hid (_=_):=r2;clear r2)
  |refine ah rfl 58 (.tmp 7) rfl w1.heap.size 0 rfl [a0,a1,a2,a3,a4,a5,a6] _ (hX2.range 0 7) Tryz.underE Tryz.infoE ?_
  |(at_builtin;refine wpList_append_run rfl (.tmp 27) (.tmp 29) 56 rfl rfl _ _ rfl rfl _ _ (show _=_ from R2) ?_))
 have y3:=fun a ka ea=>T2 [] a (Row.nil w2 w.heap.size) rfl (((hexa a ka ea).up hb2).mono (by omega)) (fun nb hnb=>((hexa a ka ea).up hb2).imp fun nc hnc _=>by have:=(j0.has nb hnb).2;omega)
 have j3:=J2
 have u3:=u2.low B2
 have bk3:=bk2.low B2 hSl
 have hs3:=s2.low B2 hlt.1 hlt.2
 generalize W2=w3 at *
 generalize v2=vv2 at *
 have x1:w3.cell? ⟨gS,1,none⟩=some (.string ⟨#[116,104,101,110]⟩):=bk3.cell 1
 go_wp2_with fail
 rw[rounds_succ]
 go_wp2_with fail
 refine (aA I hE [116,104,101,110] (hW [116,104,101,110] (by simp[lks,ig,ik,tIn])) _ w3 R d hs3).mono ?_
 rintro e w4 ⟨rfl,hs4,hV4⟩
 have j4:=j3.but hV4 (by omega)
 have u4:=u3.trans hV4
 have bk4:=bk3.but hV4 (by omega)
 have z4:=u4.size
 clear x1
 have y4:=fun a ka ea=>(y3 a ka ea).but hV4 (by omega)
 go_wp2_with fail
 refine (ih.expr _ w4 R d hs4 m1).mono ?_
 rintro e w5 ⟨us,rfl,svb,hexb,hs5,hV5⟩
 obtain⟨b0,b1,b2,b3,b4,b5,b6,rfl⟩:=aP svb.len
 have j5:=j4.but hV5 (by omega)
 have u5:=u4.trans hV5
 have bk5:=bk4.but hV5 (by omega)
 have z5:=u5.size
 have y5:=fun a ka ea=>(y4 a ka ea).but hV5 (by omega)
 go_wp2_with (first
  |(refine af rfl 58 (.tmp 7) (.tmp 26) rfl w5.heap.size 0 [b0,b1,b2,b3,b4,b5,b6] rfl rfl (Bk.new w5 58 ez) (Nat.le_refl 7) Tryz.infoE svb.one ?_;intro w6 hX6 ho6;have hb6:Below w5.heap.size w5 w6:=(ae w5 (.cells ez 58)).trans (ho6.below (Nat.le_refl _));have j6:=j5.up hb6;have u6:=u5.then hb6;have bk6:=bk5.up hb6;have s6:=hs5.up hb6;have z6:=u6.size;obtain⟨v6,W6,r6,J6,B6,T6⟩:=gK j6 z6 svb (by omega);have R6:Hid (_=_):=r6;clear r6)
  |refine ah rfl 58 (.tmp 7) rfl w5.heap.size 0 rfl [b0,b1,b2,b3,b4,b5,b6] _ (hX6.range 0 7) Tryz.underE Tryz.infoE ?_
  |(at_builtin;refine wpList_append_run rfl (.tmp 27) (.tmp 29) 56 rfl rfl _ _ rfl rfl _ _ (show _=_ from R6) ?_))
 have y6:=fun a ka ea=>(y5 a ka ea).up hb6
 have y7:=fun a ka b kb ea eb=>T6 [a] b (y6 a ka ea) rfl (((hexb b kb eb).up hb6).mono (by omega)) (fun nb hnb=>((hexb b kb eb).up hb6).imp fun nc hnc _=>by have:=(j4.has nb hnb).2;omega)
 have j7:=J6
 have u7:=u6.low B6
 have bk7:=bk6.low B6 hSl
 have hs7:=s6.low B6 hlt.1 hlt.2
 generalize W6=w7 at *
 generalize v6=vv6 at *
 have x2:w7.cell? ⟨gS,2,none⟩=some (.string ⟨#[101,108,115,101]⟩):=bk7.cell 2
 go_wp2_with fail
 rw[rounds_succ]
 go_wp2_with fail
 refine (aA I hE [101,108,115,101] (hW [101,108,115,101] (by simp[lks,ig,ik,tIn])) _ w7 R d hs7).mono ?_
 rintro e w8 ⟨rfl,hs8,hV8⟩
 have j8:=j7.but hV8 (by omega)
 have u8:=u7.trans hV8
 have bk8:=bk7.but hV8 (by omega)
 have z8:=u8.size
 clear x2
 have y8:=fun a ka b kb ea eb=>(y7 a ka b kb ea eb).but hV8 (by omega)
 go_wp2_with fail
 refine (ih.expr _ w8 R d hs8 m2).mono ?_
 rintro e w9 ⟨us,rfl,svc,hexc,hs9,hV9⟩
 obtain⟨c0,c1,c2,c3,c4,c5,c6,rfl⟩:=aP svc.len
 have j9:=j8.but hV9 (by omega)
 have u9:=u8.trans hV9
 have bk9:=bk8.but hV9 (by omega)
 have z9:=u9.size
 have y9:=fun a ka b kb ea eb=>(y8 a ka b kb ea eb).but hV9 (by omega)
 go_wp2_with (first
  |(refine af rfl 58 (.tmp 7) (.tmp 26) rfl w9.heap.size 0 [c0,c1,c2,c3,c4,c5,c6] rfl rfl (Bk.new w9 58 ez) (Nat.le_refl 7) Tryz.infoE svc.one ?_;intro w10 hX10 ho10;have hb10:Below w9.heap.size w9 w10:=(ae w9 (.cells ez 58)).trans (ho10.below (Nat.le_refl _));have j10:=j9.up hb10;have u10:=u9.then hb10;have bk10:=bk9.up hb10;have s10:=hs9.up hb10;have z10:=u10.size;obtain⟨v10,W10,r10,J10,B10,T10⟩:=gK j10 z10 svc (by omega);have R10:Hid (_=_):=r10;clear r10)
  |refine ah rfl 58 (.tmp 7) rfl w9.heap.size 0 rfl [c0,c1,c2,c3,c4,c5,c6] _ (hX10.range 0 7) Tryz.underE Tryz.infoE ?_
  |(at_builtin;refine wpList_append_run rfl (.tmp 27) (.tmp 29) 56 rfl rfl _ _ rfl rfl _ _ (show _=_ from R10) ?_))
 have y10:=fun a ka b kb ea eb=>(y9 a ka b kb ea eb).up hb10
 have y11:=fun a ka b kb c kc ea eb ec=>T10 [a,b] c (y10 a ka b kb ea eb) rfl (((hexc c kc ec).up hb10).mono (by omega)) (fun nb hnb=>((hexc c kc ec).up hb10).imp fun nc hnc _=>by have:=(j8.has nb hnb).2;omega)
 have j11:=J10
 have u11:=u10.low B10
 have bk11:=bk10.low B10 hSl
 have hs11:=s10.low B10 hlt.1 hlt.2
 generalize W10=w11 at *
 generalize v10=vv10 at *
 go_wp2_with fail
 rw[rounds_succ]
 go_wp2
 go_ret
 exact⟨_,rfl,j11,u11,hs11,y11⟩
structure Bu2 (R E:Nat) (w w':World):Prop where
 os:w'.os=w.os
 tape:w'.tape=w.tape
 output:w'.output=w.output
 size:w.heap.size≤w'.heap.size
 block:∀ k,k<w.heap.size→k≠R→k≠E→w'.heap[k]?=w.heap[k]?
theorem Bu2.trans {R E:Nat} {a b c:World} (h:Bu2 R E a b) (k:But R b c):Bu2 R E a c:=
 ⟨k.os.trans h.os,k.tape.trans h.tape,k.output.trans h.output,Nat.le_trans h.size k.size,fun i hi hn hm=>(k.block i (Nat.lt_of_lt_of_le hi h.size) hn).trans (h.block i hi hn hm)⟩
theorem Bu2.then {R E:Nat} {a b c:World} (h:Bu2 R E a b) (k:Below b.heap.size b c):Bu2 R E a c:=h.trans (bN k R)
theorem Bu2.set {R E:Nat} {a b:World} (h:Bu2 R E a b) (j:Nat) (v:Value):Bu2 R E a (b.setCell ⟨E,j,none⟩ v):=by
 have ho:=(Oth.refl E b).set j v
 exact⟨ho.os.trans h.os,ho.tape.trans h.tape,ho.output.trans h.output,by rw[ho.size];exact h.size,fun i hi hn hm=>(ho.block i hm).trans (h.block i hi hn hm)⟩
theorem Bu2.refl (R E:Nat) (w:World):Bu2 R E w w:=⟨rfl,rfl,rfl,Nat.le_refl _,fun _ _ _ _=>rfl⟩
theorem Bu2.but {R E:Nat} {a b c:World} (h:But R a b) (k:Bu2 R E b c) (hE:a.heap.size≤E):But R a c:=
 ⟨k.os.trans h.os,k.tape.trans h.tape,k.output.trans h.output,Nat.le_trans h.size k.size,fun i hi hn=>(k.block i (Nat.lt_of_lt_of_le hi h.size) hn (by omega)).trans (h.block i hi hn)⟩
theorem bL {I:Rdi} {w w':World} {R g:Nat} {d:Int} {α:Type} {q:Rs α} (h:St I w R d q) (hb:But g w w') (hR:R≠g) (hI:I.b≠g):St I w' R d q:=by
 cases q with
 |out=>exact h.elim
 |ok a k=>exact Rq.but (show Rq I w R k 0 0 d from h) hb hR hI
 |bad y j=>
  obtain⟨hy,k,d',h⟩:=h
  exact⟨hy,k,d',h.but hb hR hI⟩
theorem rbranches_any (I:Rdi) (hE:Ends I.M I.n) (hW:∀ s∈lks,Wm I.M s) (g:Nat) (ih:AllR I g) {α:Type} (q:Rs α) (w:World) (R d gE:Nat) (at_:Nat) (h:St I w R d q) (hE0:Bk w gE 58 [.int .i64 0,.string ⟨#[]⟩,.string ⟨#[]⟩,.int .i64 0,.complex .f64 0 0,.slice none 0 0,.int .i64 at_]) (hER:gE≠R) (hEI:gE≠I.b) (hne:(nx (nx (nx (nx (nx (nx (nx (nx (nx (nx (nx q (exprP I.M (lmOf I) g d)) (ai I.M tOf)) (ai I.M tNil)) (ai I.M tArr)) (exprP I.M (lmOf I) g d)) (ai I.M [124])) (aJ I.M)) (ai I.M [58])) (aJ I.M)) (ai I.M tArr)) (exprP I.M (lmOf I) g d))≠.out) :
  Calls Tryz.prog 109 #[.pointer (some ⟨R,0,none⟩),.pointer (some ⟨gE,0,none⟩)] w fun e w'=>e=.returned (.tuple #[])∧∃ (m1 m2:Mk) (G:Nat),Bk w' gE 58 [.int .i64 20,.string (bs m1.text),.string (bs m2.text),.int .i64 0,.complex .f64 0 0,.slice (some ⟨G,0,none⟩) 3 3,.int .i64 at_]∧St I w' R d (nx (nx (nx (nx (nx (nx (nx (nx (nx (nx (nx q (exprP I.M (lmOf I) g d)) (ai I.M tOf)) (ai I.M tNil)) (ai I.M tArr)) (exprP I.M (lmOf I) g d)) (ai I.M [124])) (aJ I.M)) (ai I.M [58])) (aJ I.M)) (ai I.M tArr)) (exprP I.M (lmOf I) g d))∧Bu2 R gE w w' ∧
   Got (nx (nx (nx (nx (nx (nx (nx q (exprP I.M (lmOf I) g d)) (ai I.M tOf)) (ai I.M tNil)) (ai I.M tArr)) (exprP I.M (lmOf I) g d)) (ai I.M [124])) (aJ I.M)) m1∧Got (nx (nx (nx (nx (nx (nx (nx (nx (nx q (exprP I.M (lmOf I) g d)) (ai I.M tOf)) (ai I.M tNil)) (ai I.M tArr)) (exprP I.M (lmOf I) g d)) (ai I.M [124])) (aJ I.M)) (ai I.M [58])) (aJ I.M)) m2∧∀ a ka b kb c kc,(nx q (exprP I.M (lmOf I) g d))=.ok a ka→(nx (nx (nx (nx (nx q (exprP I.M (lmOf I) g d)) (ai I.M tOf)) (ai I.M tNil)) (ai I.M tArr)) (exprP I.M (lmOf I) g d))=.ok b kb→(nx (nx (nx (nx (nx (nx (nx (nx (nx (nx (nx q (exprP I.M (lmOf I) g d)) (ai I.M tOf)) (ai I.M tNil)) (ai I.M tArr)) (exprP I.M (lmOf I) g d)) (ai I.M [124])) (aJ I.M)) (ai I.M [58])) (aJ I.M)) (ai I.M tArr)) (exprP I.M (lmOf I) g d))=.ok c kc→ElW w' (fun b=>w.heap.size≤b) (some ⟨G,0,none⟩) [a,b,c]:=by
 have hlt:=h.lt
 have lE:=hE0.lt
 have n3:=hne
 have n2:(nx (nx (nx (nx (nx q (exprP I.M (lmOf I) g d)) (ai I.M tOf)) (ai I.M tNil)) (ai I.M tArr)) (exprP I.M (lmOf I) g d))≠.out:=by
  intro e
  apply n3
  rw[e]
  rfl
 have n1:(nx q (exprP I.M (lmOf I) g d))≠.out:=by
  intro e
  apply n2
  rw[e]
  rfl
 have x0:w.cell? ⟨gE,0,none⟩=some (.int .i64 0):=hE0.cell 0
 have z0:=hE0.frz 0
 have ho0:=(Oth.refl gE w).set 0 (.int .i64 20)
 have hE1:Bk (w.setCell ⟨gE,0,none⟩ (.int .i64 20)) gE 58 [.int .i64 20,.string ⟨#[]⟩,.string ⟨#[]⟩,.int .i64 0,.complex .f64 0 0,.slice none 0 0,.int .i64 at_]:=hE0.set 0 _
 have hS0:St I (w.setCell ⟨gE,0,none⟩ (.int .i64 20)) R d q:=by
  cases q with
  |out=>exact h.elim
  |ok a k=>
   have h':Rq I w R k 0 0 d:=h
   exact h'.but (g:=gE) ⟨ho0.os,ho0.tape,ho0.output,by rw[ho0.size];omega,fun i _ hn=>ho0.block i hn⟩ (by omega) (by omega)
  |bad y j=>
   obtain⟨hy,k,d',h'⟩:=h
   exact⟨hy,k,d',h'.but (g:=gE) ⟨ho0.os,ho0.tape,ho0.output,by rw[ho0.size];omega,fun i _ hn=>ho0.block i hn⟩ (by omega) (by omega)⟩
 have hU0:=(Bu2.refl R gE w).set 0 (.int .i64 20)
 have hsz0:w.heap.size≤(w.setCell ⟨gE,0,none⟩ (.int .i64 20)).heap.size:=by rw[ho0.size];omega
 go_enter Tryz.func109,Tryz.ntmps109
 go_wp2_with fail
 refine (ih.expr _ _ R d hS0 n1).mono ?_
 rintro e w1 ⟨us,rfl,sva,hexa,hs1,hV1⟩
 obtain⟨a0,a1,a2,a3,a4,a5,a6,rfl⟩:=aP sva.len
 have E_1:=hE1.but hV1 (by omega)
 have U_1:=hU0.trans hV1
 have lE_1:=E_1.lt
 have s_1:=hV1.size
 have hxa:=fun x j e=>(hexa x j e).imp (A':=fun b=>w.heap.size≤b∧b<w1.heap.size) fun b hb hl=>by omega
 clear hexa
 go_wp2_with (first
  |(refine af rfl 58 (.tmp 4) (.tmp 13) rfl w1.heap.size 0 [a0,a1,a2,a3,a4,a5,a6] rfl rfl (Bk.new w1 58 ez) (Nat.le_refl 7) Tryz.infoE sva.one ?_;intro w2 Xa_2 hoa2;have hba2:Below w1.heap.size w1 w2:=(ae w1 (.cells ez 58)).trans (hoa2.below (Nat.le_refl _));have E_2:=E_1.up hba2;have U_2:=U_1.then hba2;have Ya_2:=fun x j e=>(hxa x j e).up hba2;have S_2:=hs1.up hba2;have lE_2:=E_2.lt;have lXa_2:=Xa_2.lt;have s_2:=hba2.size))
 refine (aA I hE tOf (hW tOf (by simp[lks])) _ w2 R d S_2).mono ?_
 rintro e w3 ⟨rfl,hs3,hV3⟩
 have E_3:=E_2.but hV3 (by omega)
 have U_3:=U_2.trans hV3
 have Ya_3:=fun x j e=>(Ya_2 x j e).but2 hV3 (fun b hb=>by omega)
 have Xa_3:=Xa_2.but hV3 (by omega)
 have lE_3:=E_3.lt
 have lXa_3:=Xa_3.lt
 have s_3:=hV3.size
 go_wp2_with fail
 refine (aA I hE tNil (hW tNil (by simp[lks])) _ w3 R d hs3).mono ?_
 rintro e w4 ⟨rfl,hs4,hV4⟩
 have E_4:=E_3.but hV4 (by omega)
 have U_4:=U_3.trans hV4
 have Ya_4:=fun x j e=>(Ya_3 x j e).but2 hV4 (fun b hb=>by omega)
 have Xa_4:=Xa_3.but hV4 (by omega)
 have lE_4:=E_4.lt
 have lXa_4:=Xa_4.lt
 have s_4:=hV4.size
 go_wp2_with fail
 refine (aA I hE tArr (hW tArr (by simp[lks])) _ w4 R d hs4).mono ?_
 rintro e w5 ⟨rfl,hs5,hV5⟩
 have E_5:=E_4.but hV5 (by omega)
 have U_5:=U_4.trans hV5
 have Ya_5:=fun x j e=>(Ya_4 x j e).but2 hV5 (fun b hb=>by omega)
 have Xa_5:=Xa_4.but hV5 (by omega)
 have lE_5:=E_5.lt
 have lXa_5:=Xa_5.lt
 have s_5:=hV5.size
 go_wp2_with fail
 refine (ih.expr _ _ R d hs5 n2).mono ?_
 rintro e w6 ⟨us,rfl,svb,hexb,hs6,hV6⟩
 obtain⟨b0,b1,b2,b3,b4,b5,b6,rfl⟩:=aP svb.len
 have E_6:=E_5.but hV6 (by omega)
 have U_6:=U_5.trans hV6
 have Ya_6:=fun x j e=>(Ya_5 x j e).but2 hV6 (fun b hb=>by omega)
 have Xa_6:=Xa_5.but hV6 (by omega)
 have lE_6:=E_6.lt
 have lXa_6:=Xa_6.lt
 have s_6:=hV6.size
 have hxb:=fun x j e=>(hexb x j e).imp (A':=fun b=>w.heap.size≤b∧b<w6.heap.size) fun b hb hl=>by omega
 clear hexb
 go_wp2_with (first
  |(refine af rfl 58 (.tmp 5) (.tmp 21) rfl w6.heap.size 0 [b0,b1,b2,b3,b4,b5,b6] rfl rfl (Bk.new w6 58 ez) (Nat.le_refl 7) Tryz.infoE svb.one ?_;intro w7 Xb_7 hoa7;have hba7:Below w6.heap.size w6 w7:=(ae w6 (.cells ez 58)).trans (hoa7.below (Nat.le_refl _));have E_7:=E_6.up hba7;have U_7:=U_6.then hba7;have Ya_7:=fun x j e=>(Ya_6 x j e).up hba7;have Xa_7:=Xa_6.up hba7;have Yb_7:=fun x j e=>(hxb x j e).up hba7;have S_7:=hs6.up hba7;have lE_7:=E_7.lt;have lXa_7:=Xa_7.lt;have lXb_7:=Xb_7.lt;have s_7:=hba7.size))
 refine (aA I hE [124] (hW [124] (by simp[lks])) _ w7 R d S_7).mono ?_
 rintro e w8 ⟨rfl,hs8,hV8⟩
 have E_8:=E_7.but hV8 (by omega)
 have U_8:=U_7.trans hV8
 have Ya_8:=fun x j e=>(Ya_7 x j e).but2 hV8 (fun b hb=>by omega)
 have Xa_8:=Xa_7.but hV8 (by omega)
 have Yb_8:=fun x j e=>(Yb_7 x j e).but2 hV8 (fun b hb=>by omega)
 have Xb_8:=Xb_7.but hV8 (by omega)
 have lE_8:=E_8.lt
 have lXa_8:=Xa_8.lt
 have lXb_8:=Xb_8.lt
 have s_8:=hV8.size
 go_wp2_with fail
 refine (aW I hE _ w8 R d hs8).mono ?_
 rintro e w9 ⟨m1,rfl,hgm1,hs9,hV9⟩
 unfold mkV
 have E_9:=E_8.but hV9 (by omega)
 have U_9:=U_8.trans hV9
 have Ya_9:=fun x j e=>(Ya_8 x j e).but2 hV9 (fun b hb=>by omega)
 have Xa_9:=Xa_8.but hV9 (by omega)
 have Yb_9:=fun x j e=>(Yb_8 x j e).but2 hV9 (fun b hb=>by omega)
 have Xb_9:=Xb_8.but hV9 (by omega)
 have lE_9:=E_9.lt
 have lXa_9:=Xa_9.lt
 have lXb_9:=Xb_9.lt
 have s_9:=hV9.size
 go_wp2_with (first
  |(refine af rfl 135 (.tmp 6) (.tmp 25) rfl w9.heap.size 0 (mkC m1) rfl rfl (Bk.new w9 135 mz) (Nat.le_refl 4) Tryz.infoM (aC _) ?_;intro w10 Km1_10 hoa10;have hba10:Below w9.heap.size w9 w10:=(ae w9 (.cells mz 135)).trans (hoa10.below (Nat.le_refl _));have E_10:=E_9.up hba10;have U_10:=U_9.then hba10;have Ya_10:=fun x j e=>(Ya_9 x j e).up hba10;have Xa_10:=Xa_9.up hba10;have Yb_10:=fun x j e=>(Yb_9 x j e).up hba10;have Xb_10:=Xb_9.up hba10;have S_10:=hs9.up hba10;have lE_10:=E_10.lt;have lXa_10:=Xa_10.lt;have lXb_10:=Xb_10.lt;have lKm1_10:=Km1_10.lt;have s_10:=hba10.size))
 refine (aA I hE [58] (hW [58] (by simp[lks])) _ w10 R d S_10).mono ?_
 rintro e w11 ⟨rfl,hs11,hV11⟩
 have E_11:=E_10.but hV11 (by omega)
 have U_11:=U_10.trans hV11
 have Ya_11:=fun x j e=>(Ya_10 x j e).but2 hV11 (fun b hb=>by omega)
 have Xa_11:=Xa_10.but hV11 (by omega)
 have Yb_11:=fun x j e=>(Yb_10 x j e).but2 hV11 (fun b hb=>by omega)
 have Xb_11:=Xb_10.but hV11 (by omega)
 have Km1_11:=Km1_10.but hV11 (by omega)
 have lE_11:=E_11.lt
 have lXa_11:=Xa_11.lt
 have lXb_11:=Xb_11.lt
 have lKm1_11:=Km1_11.lt
 have s_11:=hV11.size
 go_wp2_with fail
 refine (aW I hE _ w11 R d hs11).mono ?_
 rintro e w12 ⟨m2,rfl,hgm2,hs12,hV12⟩
 unfold mkV
 have E_12:=E_11.but hV12 (by omega)
 have U_12:=U_11.trans hV12
 have Ya_12:=fun x j e=>(Ya_11 x j e).but2 hV12 (fun b hb=>by omega)
 have Xa_12:=Xa_11.but hV12 (by omega)
 have Yb_12:=fun x j e=>(Yb_11 x j e).but2 hV12 (fun b hb=>by omega)
 have Xb_12:=Xb_11.but hV12 (by omega)
 have Km1_12:=Km1_11.but hV12 (by omega)
 have lE_12:=E_12.lt
 have lXa_12:=Xa_12.lt
 have lXb_12:=Xb_12.lt
 have lKm1_12:=Km1_12.lt
 have s_12:=hV12.size
 go_wp2_with (first
  |(refine af rfl 135 (.tmp 7) (.tmp 29) rfl w12.heap.size 0 (mkC m2) rfl rfl (Bk.new w12 135 mz) (Nat.le_refl 4) Tryz.infoM (aC _) ?_;intro w13 Km2_13 hoa13;have hba13:Below w12.heap.size w12 w13:=(ae w12 (.cells mz 135)).trans (hoa13.below (Nat.le_refl _));have E_13:=E_12.up hba13;have U_13:=U_12.then hba13;have Ya_13:=fun x j e=>(Ya_12 x j e).up hba13;have Xa_13:=Xa_12.up hba13;have Yb_13:=fun x j e=>(Yb_12 x j e).up hba13;have Xb_13:=Xb_12.up hba13;have Km1_13:=Km1_12.up hba13;have S_13:=hs12.up hba13;have lE_13:=E_13.lt;have lXa_13:=Xa_13.lt;have lXb_13:=Xb_13.lt;have lKm1_13:=Km1_13.lt;have lKm2_13:=Km2_13.lt;have s_13:=hba13.size))
 refine (aA I hE tArr (hW tArr (by simp[lks])) _ w13 R d S_13).mono ?_
 rintro e w14 ⟨rfl,hs14,hV14⟩
 have E_14:=E_13.but hV14 (by omega)
 have U_14:=U_13.trans hV14
 have Ya_14:=fun x j e=>(Ya_13 x j e).but2 hV14 (fun b hb=>by omega)
 have Xa_14:=Xa_13.but hV14 (by omega)
 have Yb_14:=fun x j e=>(Yb_13 x j e).but2 hV14 (fun b hb=>by omega)
 have Xb_14:=Xb_13.but hV14 (by omega)
 have Km1_14:=Km1_13.but hV14 (by omega)
 have Km2_14:=Km2_13.but hV14 (by omega)
 have lE_14:=E_14.lt
 have lXa_14:=Xa_14.lt
 have lXb_14:=Xb_14.lt
 have lKm1_14:=Km1_14.lt
 have lKm2_14:=Km2_14.lt
 have s_14:=hV14.size
 go_wp2_with fail
 refine (ih.expr _ _ R d hs14 n3).mono ?_
 rintro e w15 ⟨us,rfl,svc,hexc,hs15,hV15⟩
 obtain⟨c0,c1,c2,c3,c4,c5,c6,rfl⟩:=aP svc.len
 have E_15:=E_14.but hV15 (by omega)
 have U_15:=U_14.trans hV15
 have Ya_15:=fun x j e=>(Ya_14 x j e).but2 hV15 (fun b hb=>by omega)
 have Xa_15:=Xa_14.but hV15 (by omega)
 have Yb_15:=fun x j e=>(Yb_14 x j e).but2 hV15 (fun b hb=>by omega)
 have Xb_15:=Xb_14.but hV15 (by omega)
 have Km1_15:=Km1_14.but hV15 (by omega)
 have Km2_15:=Km2_14.but hV15 (by omega)
 have lE_15:=E_15.lt
 have lXa_15:=Xa_15.lt
 have lXb_15:=Xb_15.lt
 have lKm1_15:=Km1_15.lt
 have lKm2_15:=Km2_15.lt
 have s_15:=hV15.size
 have hxc:=fun x j e=>(hexc x j e).imp (A':=fun b=>w.heap.size≤b∧b<w15.heap.size) fun b hb hl=>by omega
 clear hexc
 go_upto_region 12 with (refine af rfl 58 (.tmp 8) (.tmp 33) rfl w15.heap.size 0 [c0,c1,c2,c3,c4,c5,c6] rfl rfl (Bk.new w15 58 ez) (Nat.le_refl 7) Tryz.infoE svc.one ?_;intro w16 Xc_16 hoa16;have hba16:Below w15.heap.size w15 w16:=(ae w15 (.cells ez 58)).trans (hoa16.below (Nat.le_refl _));have E_16:=E_15.up hba16;have U_16:=U_15.then hba16;have Ya_16:=fun x j e=>(Ya_15 x j e).up hba16;have Xa_16:=Xa_15.up hba16;have Yb_16:=fun x j e=>(Yb_15 x j e).up hba16;have Xb_16:=Xb_15.up hba16;have Km1_16:=Km1_15.up hba16;have Km2_16:=Km2_15.up hba16;have Yc_16:=fun x j e=>(hxc x j e).up hba16;have S_16:=hs15.up hba16;have lE_16:=E_16.lt;have lXa_16:=Xa_16.lt;have lXb_16:=Xb_16.lt;have lKm1_16:=Km1_16.lt;have lKm2_16:=Km2_16.lt;have lXc_16:=Xc_16.lt;have s_16:=hba16.size)
 obtain⟨-,y1,-⟩:=Bk.four (show Bk w16 w9.heap.size _ [_,_,_,_] from Km1_16)
 have e1:w16.cell? ⟨gE,1,none⟩=some (.string ⟨#[]⟩):=E_16.cell 1
 have z1:=E_16.frz 1
 go_upto_region 13 with fail
 clear y1 e1 z1
 have hoE1:=(Oth.refl gE w16).set 1 (.string (bs m1.text))
 have hbE1:But gE w16 (w16.setCell ⟨gE,1,none⟩ (.string (bs m1.text))):=⟨hoE1.os,hoE1.tape,hoE1.output,by rw[hoE1.size];omega,fun i _ hn=>hoE1.block i hn⟩
 have Ya_17:=fun x j e=>(Ya_16 x j e).but2 hbE1 (fun b hb=>by omega)
 have Xa_17:=Xa_16.but hbE1 (by omega)
 have Yb_17:=fun x j e=>(Yb_16 x j e).but2 hbE1 (fun b hb=>by omega)
 have Xb_17:=Xb_16.but hbE1 (by omega)
 have Km1_17:=Km1_16.but hbE1 (by omega)
 have Km2_17:=Km2_16.but hbE1 (by omega)
 have Yc_17:=fun x j e=>(Yc_16 x j e).but2 hbE1 (fun b hb=>by omega)
 have Xc_17:=Xc_16.but hbE1 (by omega)
 have S_17:=bL S_16 hbE1 (by omega) (by omega)
 have hEn1:Bk (w16.setCell ⟨gE,1,none⟩ (.string (bs m1.text))) gE 58 [.int .i64 20,.string (bs m1.text),.string ⟨#[]⟩,.int .i64 0,.complex .f64 0 0,.slice none 0 0,.int .i64 at_]:=E_16.set 1 _
 have hUn1:=U_16.set 1 (.string (bs m1.text))
 obtain⟨wx1,hwx1⟩:∃ W,W=(w16.setCell ⟨gE,1,none⟩ (.string (bs m1.text))):=⟨_,rfl⟩
 rw[← hwx1] at Ya_17 Xa_17 Yb_17 Xb_17 Km1_17 Km2_17 Yc_17 Xc_17 S_17 hEn1 hUn1 ⊢
 have sx1:w16.heap.size≤wx1.heap.size:=by rw[hwx1];simp
 clear hwx1 hoE1 hbE1
 obtain⟨-,y2,-⟩:=Bk.four (show Bk wx1 w12.heap.size _ [_,_,_,_] from Km2_17)
 have e2:wx1.cell? ⟨gE,2,none⟩=some (.string ⟨#[]⟩):=hEn1.cell 2
 have z2:=hEn1.frz 2
 go_upto_region 14 with fail
 clear y2 e2 z2
 have hoE2:=(Oth.refl gE wx1).set 2 (.string (bs m2.text))
 have hbE2:But gE wx1 (wx1.setCell ⟨gE,2,none⟩ (.string (bs m2.text))):=⟨hoE2.os,hoE2.tape,hoE2.output,by rw[hoE2.size];omega,fun i _ hn=>hoE2.block i hn⟩
 have Ya_18:=fun x j e=>(Ya_17 x j e).but2 hbE2 (fun b hb=>by omega)
 have Xa_18:=Xa_17.but hbE2 (by omega)
 have Yb_18:=fun x j e=>(Yb_17 x j e).but2 hbE2 (fun b hb=>by omega)
 have Xb_18:=Xb_17.but hbE2 (by omega)
 have Km1_18:=Km1_17.but hbE2 (by omega)
 have Km2_18:=Km2_17.but hbE2 (by omega)
 have Yc_18:=fun x j e=>(Yc_17 x j e).but2 hbE2 (fun b hb=>by omega)
 have Xc_18:=Xc_17.but hbE2 (by omega)
 have S_18:=bL S_17 hbE2 (by omega) (by omega)
 have hEn2:Bk (wx1.setCell ⟨gE,2,none⟩ (.string (bs m2.text))) gE 58 [.int .i64 20,.string (bs m1.text),.string (bs m2.text),.int .i64 0,.complex .f64 0 0,.slice none 0 0,.int .i64 at_]:=hEn1.set 2 _
 have hUn2:=hUn1.set 2 (.string (bs m2.text))
 obtain⟨wx2,hwx2⟩:∃ W,W=(wx1.setCell ⟨gE,2,none⟩ (.string (bs m2.text))):=⟨_,rfl⟩
 rw[← hwx2] at Ya_18 Xa_18 Yb_18 Xb_18 Km1_18 Km2_18 Yc_18 Xc_18 S_18 hEn2 hUn2 ⊢
 have sx2:wx1.heap.size≤wx2.heap.size:=by rw[hwx2];simp
 clear hwx2 hoE2 hbE2
 have e5:(wx2.alloc (.cells #[a0,a1,a2,a3,a4,a5,a6,b0,b1,b2,b3,b4,b5,b6,c0,c1,c2,c3,c4,c5,c6] 58)).cell? ⟨gE,5,none⟩=some (.slice none 0 0):=Bk.cell (hEn2.up (ae wx2 (.cells #[a0,a1,a2,a3,a4,a5,a6,b0,b1,b2,b3,b4,b5,b6,c0,c1,c2,c3,c4,c5,c6] 58))) 5
 have z5:=Bk.frz (hEn2.up (ae wx2 (.cells #[a0,a1,a2,a3,a4,a5,a6,b0,b1,b2,b3,b4,b5,b6,c0,c1,c2,c3,c4,c5,c6] 58))) 5
 have lgE:=hEn2.lt
 go_wp2_with (first
  |refine ah rfl 58 (.tmp 4) rfl w1.heap.size 0 rfl [a0,a1,a2,a3,a4,a5,a6] _ (Xa_18.range 0 7) Tryz.underE Tryz.infoE ?_
  |refine ah rfl 58 (.tmp 5) rfl w6.heap.size 0 rfl [b0,b1,b2,b3,b4,b5,b6] _ (Xb_18.range 0 7) Tryz.underE Tryz.infoE ?_
  |refine ah rfl 58 (.tmp 8) rfl w15.heap.size 0 rfl [c0,c1,c2,c3,c4,c5,c6] _ (Xc_18.range 0 7) Tryz.underE Tryz.infoE ?_)
 have hoE3:=(Oth.refl gE wx2).set 5 (.slice (some ⟨wx2.heap.size,0,none⟩) 3 3)
 have hbE3:But gE wx2 (wx2.setCell ⟨gE,5,none⟩ (.slice (some ⟨wx2.heap.size,0,none⟩) 3 3)):=⟨hoE3.os,hoE3.tape,hoE3.output,by rw[hoE3.size];omega,fun i _ hn=>hoE3.block i hn⟩
 have Ya_19:=fun x j e=>(Ya_18 x j e).but2 hbE3 (fun b hb=>by omega)
 have Yb_19:=fun x j e=>(Yb_18 x j e).but2 hbE3 (fun b hb=>by omega)
 have Yc_19:=fun x j e=>(Yc_18 x j e).but2 hbE3 (fun b hb=>by omega)
 have S_19:=bL S_18 hbE3 (by omega) (by omega)
 have hEn3:Bk (wx2.setCell ⟨gE,5,none⟩ (.slice (some ⟨wx2.heap.size,0,none⟩) 3 3)) gE 58 [.int .i64 20,.string (bs m1.text),.string (bs m2.text),.int .i64 0,.complex .f64 0 0,.slice (some ⟨wx2.heap.size,0,none⟩) 3 3,.int .i64 at_]:=hEn2.set 5 _
 have hUn3:=hUn2.set 5 (.slice (some ⟨wx2.heap.size,0,none⟩) 3 3)
 have hbF:=ae (wx2.setCell ⟨gE,5,none⟩ (.slice (some ⟨wx2.heap.size,0,none⟩) 3 3)) (.cells #[a0,a1,a2,a3,a4,a5,a6,b0,b1,b2,b3,b4,b5,b6,c0,c1,c2,c3,c4,c5,c6] 58)
 have hG:Bk ((wx2.setCell ⟨gE,5,none⟩ (.slice (some ⟨wx2.heap.size,0,none⟩) 3 3)).alloc (.cells #[a0,a1,a2,a3,a4,a5,a6,b0,b1,b2,b3,b4,b5,b6,c0,c1,c2,c3,c4,c5,c6] 58)) wx2.heap.size 58 ([a0,a1,a2,a3,a4,a5,a6]++[b0,b1,b2,b3,b4,b5,b6]++[c0,c1,c2,c3,c4,c5,c6]):=Bk.newAt 58 #[a0,a1,a2,a3,a4,a5,a6,b0,b1,b2,b3,b4,b5,b6,c0,c1,c2,c3,c4,c5,c6] (by simp)
 go_end0
 refine⟨rfl,m1,m2,wx2.heap.size,hEn3.up hbF,S_19.up hbF,hUn3.then hbF,hgm1,hgm2,fun a ka b kb c kc ea eb ec=>?_⟩
 exact elv3 (by omega) hG (((Ya_19 a ka ea).up hbF).imp fun b hb _=>hb.1) (((Yb_19 b kb eb).up hbF).imp fun b hb _=>hb.1) (((Yc_19 c kc ec).up hbF).imp fun b hb _=>hb.1)
end Go.Proofs.YtimoappbefindaaGreat
