/-
  2 texts in one: what each proves stands at its head.
-/
import Derived.Test.YtimoappbefindaaGreatUS
import Derived.Deep.RegionWith
import Derived.Deep.DeepCutAuto
namespace Go.Proofs.YtimoappbefindaaGreat
open Go.RowKit
set_option maxRecDepth 100000
theorem lk3 {M:Nat→Mk} (hW:∀ s∈lks,Wm M s):∀ s∈[[78],[66],[76]],Wm M s:=fun s hs=>hW s (by
 simp only[List.mem_cons,List.not_mem_nil,or_false] at hs
 rcases hs with rfl|rfl|rfl<;>simp[lks])
theorem wordOp_vals (s:List UInt8):aW s=0∨aW s=2∨aW s=3∨aW s=4∨aW s=5∨aW s=14∨aW s=15∨aW s=16∨aW s=17:=by
 unfold aW
 repeat' split
 all_goals omega
set_option maxHeartbeats 8000000 in
theorem runit_word (I:Rdi) (hE:Ends I.M I.n) (hW:∀ s∈lks,Wm I.M s) (hK:Kw I.M) (f:Nat) (ihs:∀ g,g≤f→AllR I g) (w:World) (R:Nat) (k d:Nat) (h:Rq I w R k 0 0 d) (hk:(I.M k).kind=1) (hne:unitP I.M (lmOf I) (f+1) d k≠.out) :
  Calls Tryz.prog 133 #[.pointer (some ⟨R,0,none⟩)] w (RA I R d w (unitP I.M (lmOf I) (f+1) d k)):=by
 obtain⟨r,hr⟩:∃ r,r=unitP I.M (lmOf I) (f+1) d k:=⟨_,rfl⟩
 rw[← hr] at hne ⊢
 rw[unitP,if_neg (by omega),if_neg (by omega),if_pos hk] at hr
 obtain⟨f,rfl⟩:∃ f',f=f'+1:=by
  cases f with
  |zero=>exact absurd (by rw[hr,wordedP]) hne
  |succ f=>exact⟨f,rfl⟩
 rw[wordedP] at hr
 have HR:Hid (r=_):=hr
 clear hr
 have hlt:=h.lt
 have hW40:=hW [40] (by simp[lks])
 have hW41:=hW [41] (by simp[lks])
 have t1:=hK k hk
 have hk1:=hE.kd I.M hk (by decide) h.kn
 have hw:=w64k k (by have:=h.small;omega)
 have b2:((I.M k).kind==2)=false:=by simp[hk]
 have b0:((I.M k).kind==0)=false:=by simp[hk]
 have b1:((I.M k).kind != 1)=false:=by simp[hk]
 clear hk
 obtain⟨op,hop⟩:∃ op,op=aW (I.M k).text:=⟨_,rfl⟩
 have hwd:=rword_any (I.M k).text
 rw[← hop] at hwd
 have HR:Hid (r=if op=0 then .bad 21 k else if op=5 then (aK I.M (k+1)).bind fun t k1=>.ok (.mk 5 [] [] t 0 0 [] (I.M k).at_) k1 else
   if 14≤op then (brackP I.M (lmOf I) f d (k+1)).bind fun e k1=>.ok (.mk op [] [] 0 0 0 [e] (I.M k).at_) k1 else .ok (.mk op [] [] 0 0 0 [] (I.M k).at_) (k+1)):=by
  rw[hop];exact HR
 have hvs:=wordOp_vals (I.M k).text
 rw[← hop] at hvs
 clear hop
 have Q_1:=h.up (ae w (.cells ez 58))
 have U_1:=(But.refl R w).then (ae w (.cells ez 58))
 have B_1:=Bk.new w 58 ez
 have hcx:=aI
 go_enter Tryz.func133,Tryz.ntmps133
 go_wp2_with fail
 refine (aB I (w.alloc (.cells ez 58)) R k 0 0 d Q_1).mono ?_
 rintro e w1 ⟨rfl,hb1⟩
 unfold mkV
 have Q_2:=Q_1.up hb1
 have U_2:=U_1.then hb1
 have B_2:=B_1.up hb1
 have lB_2:=B_2.lt
 have s_2:=hb1.size
 have Q_3:=Q_2.up (ae w1 (.cells mz 135))
 have U_3:=U_2.then (ae w1 (.cells mz 135))
 have B_3:=B_2.up (ae w1 (.cells mz 135))
 have M_3:=Bk.new w1 135 mz
 go_wp2_with (first
  |(refine ah rfl 135 (.tmp 3) (.tmp 8) rfl w1.heap.size 0 (mkC (I.M k)) rfl rfl M_3 (Nat.le_refl 4) Tryz.infoM (aF _) ?_;intro w2 M_4 ho3;have Q_4:=Q_3.oth ho3 (by omega) (by omega);have U_4:=ho3.but U_3 (by omega);have B_4:=B_3.oth ho3 (by omega);have lB_4:=B_4.lt;have lM_4:=M_4.lt;obtain⟨m0,m1,m2,m3⟩:=Bk.four (show Bk w2 w1.heap.size _ [_,_,_,_] from M_4);obtain⟨-,c1,c2,-⟩:=Q_4.nine;have z1:=Q_4.blk.frz 1))
 refine (aU I [40] w2 R (t1 ▸ aA I [40] hW40 w2 R k 0 d Q_4)).mono ?_
 rintro e w3 ⟨rfl,hbw3⟩
 have Q_5:=Q_4.up hbw3
 have U_5:=U_4.then hbw3
 have B_5:=B_4.up hbw3
 have M_5:=M_4.up hbw3
 have lB_5:=B_5.lt
 have lM_5:=M_5.lt
 have s_5:=hbw3.size
 obtain⟨n0,n1,n2,n3⟩:=Bk.four (show Bk w3 w1.heap.size _ [_,_,_,_] from M_5)
 obtain⟨-,c1,c2,-⟩:=Q_5.nine
 have z1:=Q_5.blk.frz 1
 go_wp2_with fail
 refine (hwd w3).mono ?_
 rintro e w4 ⟨rfl,hw4⟩
 rw[hw4]
 clear hw4
 by_cases h0:op=0
 ·have e0:(op==0)=true:=by simp[h0]
  have HE:r=.bad 21 k:=by rw[show r=_ from HR,if_pos h0]
  clear HR h0 hwd
  go_wp2_with fail
  refine (bf I _ R k 21 d Q_5).mono ?_
  rintro e w5 ⟨rfl,hd5,hV5⟩
  have U_6:=U_5.trans hV5
  have B_6:=B_5.but hV5 (by omega)
  have M_6:=M_5.but hV5 (by omega)
  have lB_6:=B_6.lt
  have lM_6:=M_6.lt
  have s_6:=hV5.size
  go_wp2_with (first
   |(refine ah rfl 58 (.tmp 2) (.tmp 65) rfl w.heap.size 0 [.int .i64 0,.string ⟨#[]⟩,.string ⟨#[]⟩,.int .i64 0,.complex .f64 0 0,.slice none 0 0,.int .i64 0] rfl rfl B_6 (Nat.le_refl 7) Tryz.infoE gq.one ?_;intro wz B_7 ho6;have U_7:=ho6.but U_6 (by omega);have M_7:=M_6.oth ho6 (by omega);have Q_7:=hd5.oth ho6 (by omega) (by omega);have lM_7:=M_7.lt;have lB_7:=B_7.lt;obtain⟨q0,q1,q2,q3,q4,q5,q6⟩:=Bk.seven (show Bk wz w.heap.size _ [_,_,_,_,_,_,_] from B_7)))
  subst HE
  refine bodyPost_ret (v:=.agg #[.int .i64 0,.string ⟨#[]⟩,.string ⟨#[]⟩,.int .i64 0,.complex .f64 0 0,.slice none 0 0,.int .i64 0]) (by simp[results,Tryz.results133,go_sem,q0,q1,q2,q3,q4,q5,q6]) rfl ⟨_,rfl,gq,(fun _ _ e=>by cases e),⟨by omega,k,d,Q_7⟩,U_7⟩
 ·have e0:(op==0)=false:=by simp[h0]
  have HR:Hid (r=if op=5 then (aK I.M (k+1)).bind fun t k1=>.ok (.mk 5 [] [] t 0 0 [] (I.M k).at_) k1 else
    if 14≤op then (brackP I.M (lmOf I) f d (k+1)).bind fun e k1=>.ok (.mk op [] [] 0 0 0 [e] (I.M k).at_) k1 else .ok (.mk op [] [] 0 0 0 [] (I.M k).at_) (k+1)):=by
   show r=_
   rw[show r=_ from HR,if_neg h0]
  have hdn:=Q_5.go (k+1) hk1
  have hVn:=(But.refl R w3).setR (j:=1) (.int .i64 ((k+1:Nat):Int))
  have U_6:=U_5.trans hVn
  have B_6:=B_5.but hVn (by omega)
  have M_6:=M_5.but hVn (by omega)
  have lB_6:=B_6.lt
  have lM_6:=M_6.lt
  have s_6:=hVn.size
  obtain⟨p0,p1,p2,p3⟩:=Bk.four (show Bk (w3.setCell ⟨R,1,none⟩ (.int .i64 ((k+1:Nat):Int))) w1.heap.size _ [_,_,_,_] from M_6)
  go_upto_region 18 with fail
  go_cut [5] (fun v wx=>v=.pointer (some ⟨w3.heap.size,0,none⟩)∧wx=((w3.setCell ⟨R,1,none⟩ (.int .i64 ((k+1:Nat):Int))).alloc (.cells #[.int .i64 op,.string ⟨#[]⟩,.string ⟨#[]⟩,.int .i64 0,.complex .f64 0 0,.slice none 0 0,.int .i64 (I.M k).at_] 58)).drew)
  case first=>
   go_region_with (go_at_call 135;refine (hwd _).mono ?_;rintro e w5 ⟨rfl,hw5⟩;rw[hw5];clear hw5)
   all_goals
    go_wp2_with fail
    go_meet
    case rel=>exact⟨rfl,rfl⟩
  case rest=>
   obtain⟨rfl,hwc⟩:=hcut
   have hbE:Below (w3.setCell ⟨R,1,none⟩ (.int .i64 ((k+1:Nat):Int))).heap.size (w3.setCell ⟨R,1,none⟩ (.int .i64 ((k+1:Nat):Int))) wc:=by rw[hwc];exact (ae _ _).drew
   have hE0:Bk wc w3.heap.size 58 [.int .i64 op,.string ⟨#[]⟩,.string ⟨#[]⟩,.int .i64 0,.complex .f64 0 0,.slice none 0 0,.int .i64 (I.M k).at_]:=by rw[hwc];exact Bk.newAt 58 #[.int .i64 op,.string ⟨#[]⟩,.string ⟨#[]⟩,.int .i64 0,.complex .f64 0 0,.slice none 0 0,.int .i64 (I.M k).at_] (by simp)
   clear hwc
   have U_7:=U_6.then hbE
   have B_7:=B_6.up hbE
   have Q_7:=hdn.up hbE
   have lB_7:=B_7.lt
   have s_7:=hbE.size
   have lB_7:=B_7.lt
   have lE_7:=hE0.lt
   have hv:=hvs
   rcases (show op=5∨(op=2∨op=3∨op=4)∨op=14∨op=15∨op=16∨op=17 by omega) with rfl|h3|h4
   ·have HR:Hid (r=(aK I.M (k+1)).bind fun t k1=>.ok (.mk 5 [] [] t 0 0 [] (I.M k).at_) k1):=by
     show r=_
     rw[show r=_ from HR,if_pos rfl]
    obtain⟨x0,x1,x2,x3,x4,x5,x6⟩:=Bk.seven (show Bk wc w3.heap.size _ [_,_,_,_,_,_,_] from hE0)
    go_wp2_with fail
    refine (bD I hE (lk3 hW) (.ok () (k+1)) wc R d Q_7).mono ?_
    rintro e w6 ⟨t,rfl,hgt,hs6,hV6⟩
    rw[az] at hgt hs6
    have U_8:=U_7.trans hV6
    have B_8:=B_7.but hV6 (by omega)
    have E_8:=hE0.but hV6 (by omega)
    have lB_8:=B_8.lt
    have lE_8:=E_8.lt
    have s_8:=hV6.size
    obtain⟨x0,x1,x2,x3,x4,x5,x6⟩:=Bk.seven (show Bk w6 w3.heap.size _ [_,_,_,_,_,_,_] from E_8)
    have z3:=E_8.frz 3
    have hoE:=(Oth.refl w3.heap.size w6).set 3 (.int .i64 t)
    have U_9:=hoE.but U_8 (by omega)
    have B_9:=B_8.oth hoE (by omega)
    have Q_9:=hs6.oth hoE (by omega) (by omega)
    have hEn:Bk (w6.setCell ⟨w3.heap.size,3,none⟩ (.int .i64 t)) w3.heap.size 58 [.int .i64 5,.string ⟨#[]⟩,.string ⟨#[]⟩,.int .i64 t,.complex .f64 0 0,.slice none 0 0,.int .i64 (I.M k).at_]:=E_8.set 3 _
    have lB_9:=B_9.lt
    have lE_9:=hEn.lt
    go_wp2_with (first
     |refine ai rfl 58 (.tmp 5) rfl w3.heap.size 0 rfl [.int .i64 5,.string ⟨#[]⟩,.string ⟨#[]⟩,.int .i64 t,.complex .f64 0 0,.slice none 0 0,.int .i64 (I.M k).at_] _ (hEn.range 0 7) Tryz.underE Tryz.infoE ?_
     |(refine ah rfl 58 (.tmp 2) (.tmp 100) rfl w.heap.size 0 [.int .i64 5,.string ⟨#[]⟩,.string ⟨#[]⟩,.int .i64 t,.complex .f64 0 0,.slice none 0 0,.int .i64 (I.M k).at_] rfl rfl B_9 (Nat.le_refl 7) Tryz.infoE (show Sv [.int .i64 5,.string ⟨#[]⟩,.string ⟨#[]⟩,.int .i64 t,.complex .f64 0 0,.slice none 0 0,.int .i64 (I.M k).at_] from bX 5 t 0 0 ⟨#[]⟩ ⟨#[]⟩ (.slice none 0 0) rfl _).one ?_;intro wz B_10 ho9;have U_10:=ho9.but U_9 (by omega);have Q_10:=Q_9.oth ho9 (by omega) (by omega);have E_10:=hEn.oth ho9 (by omega);have lE_10:=E_10.lt;have lB_10:=B_10.lt;obtain⟨q0,q1,q2,q3,q4,q5,q6⟩:=Bk.seven (show Bk wz w.heap.size _ [_,_,_,_,_,_,_] from B_10)))
    refine bodyPost_ret (v:=.agg #[.int .i64 5,.string ⟨#[]⟩,.string ⟨#[]⟩,.int .i64 t,.complex .f64 0 0,.slice none 0 0,.int .i64 (I.M k).at_]) (by simp[results,Tryz.results133,go_sem,q0,q1,q2,q3,q4,q5,q6]) rfl ⟨_,rfl,(show Sv [.int .i64 5,.string ⟨#[]⟩,.string ⟨#[]⟩,.int .i64 t,.complex .f64 0 0,.slice none 0 0,.int .i64 (I.M k).at_] from bX 5 t 0 0 ⟨#[]⟩ ⟨#[]⟩ (.slice none 0 0) rfl _),?_,?_,U_10⟩
    ·intro x j e
     rw[show r=_ from HR] at e
     obtain⟨t',k2,e1,e2⟩:=au.1 e
     cases e2
     obtain rfl:=hgt t' _ e1
     exact dI .nil rfl
    ·rw[show r=_ from HR]
     have hz:=Q_10
     cases hq2:aK I.M (k+1) with
     |out=>rw[hq2] at hz;exact hz.elim
     |bad y j=>rw[hq2] at hz;exact hz
     |ok x k2=>rw[hq2] at hz;exact hz
   ·have HE:r=.ok (.mk op [] [] 0 0 0 [] (I.M k).at_) (k+1):=by rw[show r=_ from HR,if_neg (by omega),if_neg (by omega)]
    clear HR
    obtain⟨x0,x1,x2,x3,x4,x5,x6⟩:=Bk.seven (show Bk wc w3.heap.size _ [_,_,_,_,_,_,_] from hE0)
    have g5:(op==5)=false:=by rw[beq_eq_false_iff_ne];omega
    have g14:(op==14)=false:=by rw[beq_eq_false_iff_ne];omega
    have g15:(op==15)=false:=by rw[beq_eq_false_iff_ne];omega
    have g16:(op==16)=false:=by rw[beq_eq_false_iff_ne];omega
    have g17:(op==17)=false:=by rw[beq_eq_false_iff_ne];omega
    clear h3
    go_wp2_with (first
     |refine ai rfl 58 (.tmp 5) rfl w3.heap.size 0 rfl [.int .i64 op,.string ⟨#[]⟩,.string ⟨#[]⟩,.int .i64 0,.complex .f64 0 0,.slice none 0 0,.int .i64 (I.M k).at_] _ (hE0.range 0 7) Tryz.underE Tryz.infoE ?_
     |(refine ah rfl 58 (.tmp 2) (.tmp 100) rfl w.heap.size 0 [.int .i64 op,.string ⟨#[]⟩,.string ⟨#[]⟩,.int .i64 0,.complex .f64 0 0,.slice none 0 0,.int .i64 (I.M k).at_] rfl rfl B_7 (Nat.le_refl 7) Tryz.infoE (show Sv [.int .i64 op,.string ⟨#[]⟩,.string ⟨#[]⟩,.int .i64 0,.complex .f64 0 0,.slice none 0 0,.int .i64 (I.M k).at_] from bX op 0 0 0 ⟨#[]⟩ ⟨#[]⟩ (.slice none 0 0) rfl _).one ?_;intro wz B_8 ho7;have U_8:=ho7.but U_7 (by omega);have Q_8:=Q_7.oth ho7 (by omega) (by omega);have E_8:=hE0.oth ho7 (by omega);have lE_8:=E_8.lt;have lB_8:=B_8.lt;obtain⟨q0,q1,q2,q3,q4,q5,q6⟩:=Bk.seven (show Bk wz w.heap.size _ [_,_,_,_,_,_,_] from B_8)))
    refine bodyPost_ret (v:=.agg #[.int .i64 op,.string ⟨#[]⟩,.string ⟨#[]⟩,.int .i64 0,.complex .f64 0 0,.slice none 0 0,.int .i64 (I.M k).at_]) (by simp[results,Tryz.results133,go_sem,q0,q1,q2,q3,q4,q5,q6]) rfl ⟨_,rfl,(show Sv [.int .i64 op,.string ⟨#[]⟩,.string ⟨#[]⟩,.int .i64 0,.complex .f64 0 0,.slice none 0 0,.int .i64 (I.M k).at_] from bX op 0 0 0 ⟨#[]⟩ ⟨#[]⟩ (.slice none 0 0) rfl _),?_,?_,U_8⟩
    ·intro x j e
     rw[HE] at e
     cases e
     exact dI .nil rfl
    ·rw[HE]
     exact Q_8
   ·obtain⟨f,rfl⟩:∃ f',f=f'+1:=by
     cases f with
     |zero=>exact absurd (by rw[show r=_ from HR,if_neg (by omega),if_pos (by omega),brackP];rfl) hne
     |succ f=>exact⟨f,rfl⟩
    have HR:Hid (r=(brackP I.M (lmOf I) (f+1) d (k+1)).bind fun e k1=>.ok (.mk op [] [] 0 0 0 [e] (I.M k).at_) k1):=by
     show r=_
     rw[show r=_ from HR,if_neg (by omega),if_pos (by omega)]
    have hn2:nx (nx (.ok () (k+1)) (aj I.M [40])) (exprP I.M (lmOf I) f d)≠.out:=by
     intro e
     apply hne
     rw[show r=_ from HR,brackP]
     rw[az] at e
     cases hm:aj I.M [40] (k+1) with
     |out=>rfl
     |bad y j=>rw[hm] at e;cases e
     |ok u k1=>
      rw[hm,az] at e
      simp only[Rs.bind,e]
    have g5:(op==5)=false:=by rw[beq_eq_false_iff_ne];omega
    rcases h4 with h4|h4|h4|h4
    ·have g14:(op==14)=true:=by rw[h4];rfl
     clear h4
     obtain⟨x0,x1,x2,x3,x4,x5,x6⟩:=Bk.seven (show Bk wc w3.heap.size _ [_,_,_,_,_,_,_] from hE0)
     go_wp2_with fail
     refine (aC I hE [40] hW40 (.ok () (k+1)) wc R d Q_7).mono ?_
     rintro e w6 ⟨rfl,hs6,hV6⟩
     have U_8:=U_7.trans hV6
     have B_8:=B_7.but hV6 (by omega)
     have E_8:=hE0.but hV6 (by omega)
     have lB_8:=B_8.lt
     have lE_8:=E_8.lt
     have s_8:=hV6.size
     clear x0 x1 x2 x3 x4 x5 x6
     go_wp2_with fail
     refine ((ihs f (by omega)).expr _ w6 R d hs6 hn2).mono ?_
     rintro e w7 ⟨us,rfl,sv2,hex2,hs7,hV7⟩
     obtain⟨b0,b1,b2,b3,b4,b5,b6,rfl⟩:=aQ sv2.len
     have U_9:=U_8.trans hV7
     have B_9:=B_8.but hV7 (by omega)
     have E_9:=E_8.but hV7 (by omega)
     have lB_9:=B_9.lt
     have lE_9:=E_9.lt
     have s_9:=hV7.size
     have hxb:=fun x j e=>(hex2 x j e).imp (A':=fun b=>w.heap.size<b∧b≠w3.heap.size∧b<w7.heap.size) fun b hb hl=>by first|omega|(simp at hb;omega)
     clear hex2
     have U_10:=U_9.then (ae w7 (.cells ez 58))
     have B_10:=B_9.up (ae w7 (.cells ez 58))
     have E_10:=E_9.up (ae w7 (.cells ez 58))
     have Q_10:=hs7.up (ae w7 (.cells ez 58))
     have Y_10:=fun x j e=>(hxb x j e).up (ae w7 (.cells ez 58))
     have C_10:=Bk.new w7 58 ez
     go_wp2_with (first
      |(refine ah rfl 58 (.tmp 6) (.tmp 94) rfl w7.heap.size 0 [b0,b1,b2,b3,b4,b5,b6] rfl rfl C_10 (Nat.le_refl 7) Tryz.infoE sv2.one ?_;intro w8 C_11 ho10;have U_11:=ho10.but U_10 (by omega);have B_11:=B_10.oth ho10 (by omega);have E_11:=E_10.oth ho10 (by omega);have Q_11:=Q_10.oth ho10 (by omega) (by omega);have Y_11:=fun x j e=>(Y_10 x j e).oth2 ho10 (fun b hb=>by omega);have lB_11:=B_11.lt;have lE_11:=E_11.lt;have lC_11:=C_11.lt))
     refine (aC I hE [41] hW41 _ w8 R d Q_11).mono ?_
     rintro e w9 ⟨rfl,hs9,hV9⟩
     have U_12:=U_11.trans hV9
     have B_12:=B_11.but hV9 (by omega)
     have E_12:=E_11.but hV9 (by omega)
     have Y_12:=fun x j e=>(Y_11 x j e).but2 hV9 (fun b hb=>by omega)
     have C_12:=C_11.but hV9 (by omega)
     have lB_12:=B_12.lt
     have lE_12:=E_12.lt
     have lC_12:=C_12.lt
     have s_12:=hV9.size
     obtain⟨x0,x1,x2,x3,x4,x5,x6⟩:=Bk.seven (show Bk (w9.alloc (.cells #[b0,b1,b2,b3,b4,b5,b6] 58)) w3.heap.size _ [_,_,_,_,_,_,_] from E_12.up (ae w9 (.cells #[b0,b1,b2,b3,b4,b5,b6] 58)))
     have z5:=Bk.frz (E_12.up (ae w9 (.cells #[b0,b1,b2,b3,b4,b5,b6] 58))) 5
     have hoE:=(Oth.refl w3.heap.size w9).set 5 (.slice (some ⟨w9.heap.size,0,none⟩) 1 1)
     have U_13:=hoE.but U_12 (by omega)
     have B_13:=B_12.oth hoE (by omega)
     have Y_13:=fun x j e=>(Y_12 x j e).oth2 hoE (fun b hb=>by omega)
     have C_13:=C_12.oth hoE (by omega)
     have Q_13:=hs9.oth hoE (by omega) (by omega)
     have hEn:Bk (w9.setCell ⟨w3.heap.size,5,none⟩ (.slice (some ⟨w9.heap.size,0,none⟩) 1 1)) w3.heap.size 58 [.int .i64 op,.string ⟨#[]⟩,.string ⟨#[]⟩,.int .i64 0,.complex .f64 0 0,.slice (some ⟨w9.heap.size,0,none⟩) 1 1,.int .i64 (I.M k).at_]:=E_12.set 5 _
     have U_14:=U_13.then (ae (w9.setCell ⟨w3.heap.size,5,none⟩ (.slice (some ⟨w9.heap.size,0,none⟩) 1 1)) (.cells #[b0,b1,b2,b3,b4,b5,b6] 58))
     have B_14:=B_13.up (ae (w9.setCell ⟨w3.heap.size,5,none⟩ (.slice (some ⟨w9.heap.size,0,none⟩) 1 1)) (.cells #[b0,b1,b2,b3,b4,b5,b6] 58))
     have Y_14:=fun x j e=>(Y_13 x j e).up (ae (w9.setCell ⟨w3.heap.size,5,none⟩ (.slice (some ⟨w9.heap.size,0,none⟩) 1 1)) (.cells #[b0,b1,b2,b3,b4,b5,b6] 58))
     have C_14:=C_13.up (ae (w9.setCell ⟨w3.heap.size,5,none⟩ (.slice (some ⟨w9.heap.size,0,none⟩) 1 1)) (.cells #[b0,b1,b2,b3,b4,b5,b6] 58))
     have Q_14:=Q_13.up (ae (w9.setCell ⟨w3.heap.size,5,none⟩ (.slice (some ⟨w9.heap.size,0,none⟩) 1 1)) (.cells #[b0,b1,b2,b3,b4,b5,b6] 58))
     have E_14:=hEn.up (ae (w9.setCell ⟨w3.heap.size,5,none⟩ (.slice (some ⟨w9.heap.size,0,none⟩) 1 1)) (.cells #[b0,b1,b2,b3,b4,b5,b6] 58))
     have hDn:Bk ((w9.setCell ⟨w3.heap.size,5,none⟩ (.slice (some ⟨w9.heap.size,0,none⟩) 1 1)).alloc (.cells #[b0,b1,b2,b3,b4,b5,b6] 58)) w9.heap.size 58 [b0,b1,b2,b3,b4,b5,b6]:=Bk.newAt 58 #[b0,b1,b2,b3,b4,b5,b6] (by simp)
     have lB_14:=B_14.lt
     have lC_14:=C_14.lt
     have lE_14:=E_14.lt
     have lD_14:=hDn.lt
     have hz:=fun x j e=>dI (op:=op) (name:=[]) (tail:=[]) (ty:=0) (pos:=(I.M k).at_) (c:=1) (n:=1) (xs:=[x]) (elv1 (A:=fun c=>w.heap.size<c∧c≠w3.heap.size) (g:=w9.heap.size) (by omega) hDn ((Y_14 x j e).imp fun b hb _=>by omega)) rfl
     go_wp2_with (first
      |refine ai rfl 58 (.tmp 6) rfl w7.heap.size 0 rfl [b0,b1,b2,b3,b4,b5,b6] _ (C_12.range 0 7) Tryz.underE Tryz.infoE ?_
      |refine ai rfl 58 (.tmp 5) rfl w3.heap.size 0 rfl [.int .i64 op,.string ⟨#[]⟩,.string ⟨#[]⟩,.int .i64 0,.complex .f64 0 0,.slice (some ⟨w9.heap.size,0,none⟩) 1 1,.int .i64 (I.M k).at_] _ (E_14.range 0 7) Tryz.underE Tryz.infoE ?_
      |(refine ah rfl 58 (.tmp 2) (.tmp 100) rfl w.heap.size 0 [.int .i64 op,.string ⟨#[]⟩,.string ⟨#[]⟩,.int .i64 0,.complex .f64 0 0,.slice (some ⟨w9.heap.size,0,none⟩) 1 1,.int .i64 (I.M k).at_] rfl rfl B_14 (Nat.le_refl 7) Tryz.infoE (show Sv [.int .i64 op,.string ⟨#[]⟩,.string ⟨#[]⟩,.int .i64 0,.complex .f64 0 0,.slice (some ⟨w9.heap.size,0,none⟩) 1 1,.int .i64 (I.M k).at_] from bX op 0 0 0 ⟨#[]⟩ ⟨#[]⟩ (.slice (some ⟨w9.heap.size,0,none⟩) 1 1) rfl _).one ?_;intro wz B_15 ho14;have U_15:=ho14.but U_14 (by omega);have Q_15:=Q_14.oth ho14 (by omega) (by omega);have E_15:=E_14.oth ho14 (by omega);have Z_15:=fun x j e=>(hz x j e).oth2 ho14 (fun b hb=>by omega);have lE_15:=E_15.lt;have lB_15:=B_15.lt;obtain⟨q0,q1,q2,q3,q4,q5,q6⟩:=Bk.seven (show Bk wz w.heap.size _ [_,_,_,_,_,_,_] from B_15)))
     refine bodyPost_ret (v:=.agg #[.int .i64 op,.string ⟨#[]⟩,.string ⟨#[]⟩,.int .i64 0,.complex .f64 0 0,.slice (some ⟨w9.heap.size,0,none⟩) 1 1,.int .i64 (I.M k).at_]) (by simp[results,Tryz.results133,go_sem,q0,q1,q2,q3,q4,q5,q6]) rfl ⟨_,rfl,(show Sv [.int .i64 op,.string ⟨#[]⟩,.string ⟨#[]⟩,.int .i64 0,.complex .f64 0 0,.slice (some ⟨w9.heap.size,0,none⟩) 1 1,.int .i64 (I.M k).at_] from bX op 0 0 0 ⟨#[]⟩ ⟨#[]⟩ (.slice (some ⟨w9.heap.size,0,none⟩) 1 1) rfl _),?_,?_,U_15⟩
     ·intro x j e
      rw[show r=_ from HR] at e
      obtain⟨x',k2,e1,e2⟩:=au.1 e
      cases e2
      rw[brackP] at e1
      obtain⟨_,k3,e3,e4⟩:=au.1 e1
      obtain⟨x2,k4,e5,e6⟩:=au.1 e4
      obtain⟨_,k5,_,e8⟩:=au.1 e6
      cases e8
      exact (Z_15 x' k4 (by rw[az,e3,az];exact e5)).imp fun b hb _=>by omega
     ·rw[show r=_ from HR,brackP]
      have hz:=Q_15
      rw[az] at hz
      cases hq2:aj I.M [40] (k+1) with
      |out=>rw[hq2] at hz;exact hz.elim
      |bad y j=>rw[hq2] at hz;exact hz
      |ok u k2=>
       rw[hq2,az] at hz
       cases hq3:exprP I.M (lmOf I) f d k2 with
       |out=>rw[hq3] at hz;exact hz.elim
       |bad y j=>rw[hq3] at hz;simp only[Rs.bind,hq3];exact hz
       |ok x k3=>
        rw[hq3,az] at hz
        cases hq4:aj I.M [41] k3 with
        |out=>rw[hq4] at hz;exact hz.elim
        |bad y j=>rw[hq4] at hz;simp only[Rs.bind,hq3,hq4];exact hz
        |ok u k4=>rw[hq4] at hz;simp only[Rs.bind,hq3,hq4];exact hz
    ·have g14:(op==14)=false:=by rw[h4];rfl
     have g15:(op==15)=true:=by rw[h4];rfl
     clear h4
     obtain⟨x0,x1,x2,x3,x4,x5,x6⟩:=Bk.seven (show Bk wc w3.heap.size _ [_,_,_,_,_,_,_] from hE0)
     go_wp2_with fail
     refine (aC I hE [40] hW40 (.ok () (k+1)) wc R d Q_7).mono ?_
     rintro e w6 ⟨rfl,hs6,hV6⟩
     have U_8:=U_7.trans hV6
     have B_8:=B_7.but hV6 (by omega)
     have E_8:=hE0.but hV6 (by omega)
     have lB_8:=B_8.lt
     have lE_8:=E_8.lt
     have s_8:=hV6.size
     clear x0 x1 x2 x3 x4 x5 x6
     go_wp2_with fail
     refine ((ihs f (by omega)).expr _ w6 R d hs6 hn2).mono ?_
     rintro e w7 ⟨us,rfl,sv2,hex2,hs7,hV7⟩
     obtain⟨b0,b1,b2,b3,b4,b5,b6,rfl⟩:=aQ sv2.len
     have U_9:=U_8.trans hV7
     have B_9:=B_8.but hV7 (by omega)
     have E_9:=E_8.but hV7 (by omega)
     have lB_9:=B_9.lt
     have lE_9:=E_9.lt
     have s_9:=hV7.size
     have hxb:=fun x j e=>(hex2 x j e).imp (A':=fun b=>w.heap.size<b∧b≠w3.heap.size∧b<w7.heap.size) fun b hb hl=>by first|omega|(simp at hb;omega)
     clear hex2
     have U_10:=U_9.then (ae w7 (.cells ez 58))
     have B_10:=B_9.up (ae w7 (.cells ez 58))
     have E_10:=E_9.up (ae w7 (.cells ez 58))
     have Q_10:=hs7.up (ae w7 (.cells ez 58))
     have Y_10:=fun x j e=>(hxb x j e).up (ae w7 (.cells ez 58))
     have C_10:=Bk.new w7 58 ez
     go_wp2_with (first
      |(refine ah rfl 58 (.tmp 6) (.tmp 94) rfl w7.heap.size 0 [b0,b1,b2,b3,b4,b5,b6] rfl rfl C_10 (Nat.le_refl 7) Tryz.infoE sv2.one ?_;intro w8 C_11 ho10;have U_11:=ho10.but U_10 (by omega);have B_11:=B_10.oth ho10 (by omega);have E_11:=E_10.oth ho10 (by omega);have Q_11:=Q_10.oth ho10 (by omega) (by omega);have Y_11:=fun x j e=>(Y_10 x j e).oth2 ho10 (fun b hb=>by omega);have lB_11:=B_11.lt;have lE_11:=E_11.lt;have lC_11:=C_11.lt))
     refine (aC I hE [41] hW41 _ w8 R d Q_11).mono ?_
     rintro e w9 ⟨rfl,hs9,hV9⟩
     have U_12:=U_11.trans hV9
     have B_12:=B_11.but hV9 (by omega)
     have E_12:=E_11.but hV9 (by omega)
     have Y_12:=fun x j e=>(Y_11 x j e).but2 hV9 (fun b hb=>by omega)
     have C_12:=C_11.but hV9 (by omega)
     have lB_12:=B_12.lt
     have lE_12:=E_12.lt
     have lC_12:=C_12.lt
     have s_12:=hV9.size
     obtain⟨x0,x1,x2,x3,x4,x5,x6⟩:=Bk.seven (show Bk (w9.alloc (.cells #[b0,b1,b2,b3,b4,b5,b6] 58)) w3.heap.size _ [_,_,_,_,_,_,_] from E_12.up (ae w9 (.cells #[b0,b1,b2,b3,b4,b5,b6] 58)))
     have z5:=Bk.frz (E_12.up (ae w9 (.cells #[b0,b1,b2,b3,b4,b5,b6] 58))) 5
     have hoE:=(Oth.refl w3.heap.size w9).set 5 (.slice (some ⟨w9.heap.size,0,none⟩) 1 1)
     have U_13:=hoE.but U_12 (by omega)
     have B_13:=B_12.oth hoE (by omega)
     have Y_13:=fun x j e=>(Y_12 x j e).oth2 hoE (fun b hb=>by omega)
     have C_13:=C_12.oth hoE (by omega)
     have Q_13:=hs9.oth hoE (by omega) (by omega)
     have hEn:Bk (w9.setCell ⟨w3.heap.size,5,none⟩ (.slice (some ⟨w9.heap.size,0,none⟩) 1 1)) w3.heap.size 58 [.int .i64 op,.string ⟨#[]⟩,.string ⟨#[]⟩,.int .i64 0,.complex .f64 0 0,.slice (some ⟨w9.heap.size,0,none⟩) 1 1,.int .i64 (I.M k).at_]:=E_12.set 5 _
     have U_14:=U_13.then (ae (w9.setCell ⟨w3.heap.size,5,none⟩ (.slice (some ⟨w9.heap.size,0,none⟩) 1 1)) (.cells #[b0,b1,b2,b3,b4,b5,b6] 58))
     have B_14:=B_13.up (ae (w9.setCell ⟨w3.heap.size,5,none⟩ (.slice (some ⟨w9.heap.size,0,none⟩) 1 1)) (.cells #[b0,b1,b2,b3,b4,b5,b6] 58))
     have Y_14:=fun x j e=>(Y_13 x j e).up (ae (w9.setCell ⟨w3.heap.size,5,none⟩ (.slice (some ⟨w9.heap.size,0,none⟩) 1 1)) (.cells #[b0,b1,b2,b3,b4,b5,b6] 58))
     have C_14:=C_13.up (ae (w9.setCell ⟨w3.heap.size,5,none⟩ (.slice (some ⟨w9.heap.size,0,none⟩) 1 1)) (.cells #[b0,b1,b2,b3,b4,b5,b6] 58))
     have Q_14:=Q_13.up (ae (w9.setCell ⟨w3.heap.size,5,none⟩ (.slice (some ⟨w9.heap.size,0,none⟩) 1 1)) (.cells #[b0,b1,b2,b3,b4,b5,b6] 58))
     have E_14:=hEn.up (ae (w9.setCell ⟨w3.heap.size,5,none⟩ (.slice (some ⟨w9.heap.size,0,none⟩) 1 1)) (.cells #[b0,b1,b2,b3,b4,b5,b6] 58))
     have hDn:Bk ((w9.setCell ⟨w3.heap.size,5,none⟩ (.slice (some ⟨w9.heap.size,0,none⟩) 1 1)).alloc (.cells #[b0,b1,b2,b3,b4,b5,b6] 58)) w9.heap.size 58 [b0,b1,b2,b3,b4,b5,b6]:=Bk.newAt 58 #[b0,b1,b2,b3,b4,b5,b6] (by simp)
     have lB_14:=B_14.lt
     have lC_14:=C_14.lt
     have lE_14:=E_14.lt
     have lD_14:=hDn.lt
     have hz:=fun x j e=>dI (op:=op) (name:=[]) (tail:=[]) (ty:=0) (pos:=(I.M k).at_) (c:=1) (n:=1) (xs:=[x]) (elv1 (A:=fun c=>w.heap.size<c∧c≠w3.heap.size) (g:=w9.heap.size) (by omega) hDn ((Y_14 x j e).imp fun b hb _=>by omega)) rfl
     go_wp2_with (first
      |refine ai rfl 58 (.tmp 6) rfl w7.heap.size 0 rfl [b0,b1,b2,b3,b4,b5,b6] _ (C_12.range 0 7) Tryz.underE Tryz.infoE ?_
      |refine ai rfl 58 (.tmp 5) rfl w3.heap.size 0 rfl [.int .i64 op,.string ⟨#[]⟩,.string ⟨#[]⟩,.int .i64 0,.complex .f64 0 0,.slice (some ⟨w9.heap.size,0,none⟩) 1 1,.int .i64 (I.M k).at_] _ (E_14.range 0 7) Tryz.underE Tryz.infoE ?_
      |(refine ah rfl 58 (.tmp 2) (.tmp 100) rfl w.heap.size 0 [.int .i64 op,.string ⟨#[]⟩,.string ⟨#[]⟩,.int .i64 0,.complex .f64 0 0,.slice (some ⟨w9.heap.size,0,none⟩) 1 1,.int .i64 (I.M k).at_] rfl rfl B_14 (Nat.le_refl 7) Tryz.infoE (show Sv [.int .i64 op,.string ⟨#[]⟩,.string ⟨#[]⟩,.int .i64 0,.complex .f64 0 0,.slice (some ⟨w9.heap.size,0,none⟩) 1 1,.int .i64 (I.M k).at_] from bX op 0 0 0 ⟨#[]⟩ ⟨#[]⟩ (.slice (some ⟨w9.heap.size,0,none⟩) 1 1) rfl _).one ?_;intro wz B_15 ho14;have U_15:=ho14.but U_14 (by omega);have Q_15:=Q_14.oth ho14 (by omega) (by omega);have E_15:=E_14.oth ho14 (by omega);have Z_15:=fun x j e=>(hz x j e).oth2 ho14 (fun b hb=>by omega);have lE_15:=E_15.lt;have lB_15:=B_15.lt;obtain⟨q0,q1,q2,q3,q4,q5,q6⟩:=Bk.seven (show Bk wz w.heap.size _ [_,_,_,_,_,_,_] from B_15)))
     refine bodyPost_ret (v:=.agg #[.int .i64 op,.string ⟨#[]⟩,.string ⟨#[]⟩,.int .i64 0,.complex .f64 0 0,.slice (some ⟨w9.heap.size,0,none⟩) 1 1,.int .i64 (I.M k).at_]) (by simp[results,Tryz.results133,go_sem,q0,q1,q2,q3,q4,q5,q6]) rfl ⟨_,rfl,(show Sv [.int .i64 op,.string ⟨#[]⟩,.string ⟨#[]⟩,.int .i64 0,.complex .f64 0 0,.slice (some ⟨w9.heap.size,0,none⟩) 1 1,.int .i64 (I.M k).at_] from bX op 0 0 0 ⟨#[]⟩ ⟨#[]⟩ (.slice (some ⟨w9.heap.size,0,none⟩) 1 1) rfl _),?_,?_,U_15⟩
     ·intro x j e
      rw[show r=_ from HR] at e
      obtain⟨x',k2,e1,e2⟩:=au.1 e
      cases e2
      rw[brackP] at e1
      obtain⟨_,k3,e3,e4⟩:=au.1 e1
      obtain⟨x2,k4,e5,e6⟩:=au.1 e4
      obtain⟨_,k5,_,e8⟩:=au.1 e6
      cases e8
      exact (Z_15 x' k4 (by rw[az,e3,az];exact e5)).imp fun b hb _=>by omega
     ·rw[show r=_ from HR,brackP]
      have hz:=Q_15
      rw[az] at hz
      cases hq2:aj I.M [40] (k+1) with
      |out=>rw[hq2] at hz;exact hz.elim
      |bad y j=>rw[hq2] at hz;exact hz
      |ok u k2=>
       rw[hq2,az] at hz
       cases hq3:exprP I.M (lmOf I) f d k2 with
       |out=>rw[hq3] at hz;exact hz.elim
       |bad y j=>rw[hq3] at hz;simp only[Rs.bind,hq3];exact hz
       |ok x k3=>
        rw[hq3,az] at hz
        cases hq4:aj I.M [41] k3 with
        |out=>rw[hq4] at hz;exact hz.elim
        |bad y j=>rw[hq4] at hz;simp only[Rs.bind,hq3,hq4];exact hz
        |ok u k4=>rw[hq4] at hz;simp only[Rs.bind,hq3,hq4];exact hz
    ·have g14:(op==14)=false:=by rw[h4];rfl
     have g15:(op==15)=false:=by rw[h4];rfl
     have g16:(op==16)=true:=by rw[h4];rfl
     clear h4
     obtain⟨x0,x1,x2,x3,x4,x5,x6⟩:=Bk.seven (show Bk wc w3.heap.size _ [_,_,_,_,_,_,_] from hE0)
     go_wp2_with fail
     refine (aC I hE [40] hW40 (.ok () (k+1)) wc R d Q_7).mono ?_
     rintro e w6 ⟨rfl,hs6,hV6⟩
     have U_8:=U_7.trans hV6
     have B_8:=B_7.but hV6 (by omega)
     have E_8:=hE0.but hV6 (by omega)
     have lB_8:=B_8.lt
     have lE_8:=E_8.lt
     have s_8:=hV6.size
     clear x0 x1 x2 x3 x4 x5 x6
     go_wp2_with fail
     refine ((ihs f (by omega)).expr _ w6 R d hs6 hn2).mono ?_
     rintro e w7 ⟨us,rfl,sv2,hex2,hs7,hV7⟩
     obtain⟨b0,b1,b2,b3,b4,b5,b6,rfl⟩:=aQ sv2.len
     have U_9:=U_8.trans hV7
     have B_9:=B_8.but hV7 (by omega)
     have E_9:=E_8.but hV7 (by omega)
     have lB_9:=B_9.lt
     have lE_9:=E_9.lt
     have s_9:=hV7.size
     have hxb:=fun x j e=>(hex2 x j e).imp (A':=fun b=>w.heap.size<b∧b≠w3.heap.size∧b<w7.heap.size) fun b hb hl=>by first|omega|(simp at hb;omega)
     clear hex2
     have U_10:=U_9.then (ae w7 (.cells ez 58))
     have B_10:=B_9.up (ae w7 (.cells ez 58))
     have E_10:=E_9.up (ae w7 (.cells ez 58))
     have Q_10:=hs7.up (ae w7 (.cells ez 58))
     have Y_10:=fun x j e=>(hxb x j e).up (ae w7 (.cells ez 58))
     have C_10:=Bk.new w7 58 ez
     go_wp2_with (first
      |(refine ah rfl 58 (.tmp 6) (.tmp 94) rfl w7.heap.size 0 [b0,b1,b2,b3,b4,b5,b6] rfl rfl C_10 (Nat.le_refl 7) Tryz.infoE sv2.one ?_;intro w8 C_11 ho10;have U_11:=ho10.but U_10 (by omega);have B_11:=B_10.oth ho10 (by omega);have E_11:=E_10.oth ho10 (by omega);have Q_11:=Q_10.oth ho10 (by omega) (by omega);have Y_11:=fun x j e=>(Y_10 x j e).oth2 ho10 (fun b hb=>by omega);have lB_11:=B_11.lt;have lE_11:=E_11.lt;have lC_11:=C_11.lt))
     refine (aC I hE [41] hW41 _ w8 R d Q_11).mono ?_
     rintro e w9 ⟨rfl,hs9,hV9⟩
     have U_12:=U_11.trans hV9
     have B_12:=B_11.but hV9 (by omega)
     have E_12:=E_11.but hV9 (by omega)
     have Y_12:=fun x j e=>(Y_11 x j e).but2 hV9 (fun b hb=>by omega)
     have C_12:=C_11.but hV9 (by omega)
     have lB_12:=B_12.lt
     have lE_12:=E_12.lt
     have lC_12:=C_12.lt
     have s_12:=hV9.size
     obtain⟨x0,x1,x2,x3,x4,x5,x6⟩:=Bk.seven (show Bk (w9.alloc (.cells #[b0,b1,b2,b3,b4,b5,b6] 58)) w3.heap.size _ [_,_,_,_,_,_,_] from E_12.up (ae w9 (.cells #[b0,b1,b2,b3,b4,b5,b6] 58)))
     have z5:=Bk.frz (E_12.up (ae w9 (.cells #[b0,b1,b2,b3,b4,b5,b6] 58))) 5
     have hoE:=(Oth.refl w3.heap.size w9).set 5 (.slice (some ⟨w9.heap.size,0,none⟩) 1 1)
     have U_13:=hoE.but U_12 (by omega)
     have B_13:=B_12.oth hoE (by omega)
     have Y_13:=fun x j e=>(Y_12 x j e).oth2 hoE (fun b hb=>by omega)
     have C_13:=C_12.oth hoE (by omega)
     have Q_13:=hs9.oth hoE (by omega) (by omega)
     have hEn:Bk (w9.setCell ⟨w3.heap.size,5,none⟩ (.slice (some ⟨w9.heap.size,0,none⟩) 1 1)) w3.heap.size 58 [.int .i64 op,.string ⟨#[]⟩,.string ⟨#[]⟩,.int .i64 0,.complex .f64 0 0,.slice (some ⟨w9.heap.size,0,none⟩) 1 1,.int .i64 (I.M k).at_]:=E_12.set 5 _
     have U_14:=U_13.then (ae (w9.setCell ⟨w3.heap.size,5,none⟩ (.slice (some ⟨w9.heap.size,0,none⟩) 1 1)) (.cells #[b0,b1,b2,b3,b4,b5,b6] 58))
     have B_14:=B_13.up (ae (w9.setCell ⟨w3.heap.size,5,none⟩ (.slice (some ⟨w9.heap.size,0,none⟩) 1 1)) (.cells #[b0,b1,b2,b3,b4,b5,b6] 58))
     have Y_14:=fun x j e=>(Y_13 x j e).up (ae (w9.setCell ⟨w3.heap.size,5,none⟩ (.slice (some ⟨w9.heap.size,0,none⟩) 1 1)) (.cells #[b0,b1,b2,b3,b4,b5,b6] 58))
     have C_14:=C_13.up (ae (w9.setCell ⟨w3.heap.size,5,none⟩ (.slice (some ⟨w9.heap.size,0,none⟩) 1 1)) (.cells #[b0,b1,b2,b3,b4,b5,b6] 58))
     have Q_14:=Q_13.up (ae (w9.setCell ⟨w3.heap.size,5,none⟩ (.slice (some ⟨w9.heap.size,0,none⟩) 1 1)) (.cells #[b0,b1,b2,b3,b4,b5,b6] 58))
     have E_14:=hEn.up (ae (w9.setCell ⟨w3.heap.size,5,none⟩ (.slice (some ⟨w9.heap.size,0,none⟩) 1 1)) (.cells #[b0,b1,b2,b3,b4,b5,b6] 58))
     have hDn:Bk ((w9.setCell ⟨w3.heap.size,5,none⟩ (.slice (some ⟨w9.heap.size,0,none⟩) 1 1)).alloc (.cells #[b0,b1,b2,b3,b4,b5,b6] 58)) w9.heap.size 58 [b0,b1,b2,b3,b4,b5,b6]:=Bk.newAt 58 #[b0,b1,b2,b3,b4,b5,b6] (by simp)
     have lB_14:=B_14.lt
     have lC_14:=C_14.lt
     have lE_14:=E_14.lt
     have lD_14:=hDn.lt
     have hz:=fun x j e=>dI (op:=op) (name:=[]) (tail:=[]) (ty:=0) (pos:=(I.M k).at_) (c:=1) (n:=1) (xs:=[x]) (elv1 (A:=fun c=>w.heap.size<c∧c≠w3.heap.size) (g:=w9.heap.size) (by omega) hDn ((Y_14 x j e).imp fun b hb _=>by omega)) rfl
     go_wp2_with (first
      |refine ai rfl 58 (.tmp 6) rfl w7.heap.size 0 rfl [b0,b1,b2,b3,b4,b5,b6] _ (C_12.range 0 7) Tryz.underE Tryz.infoE ?_
      |refine ai rfl 58 (.tmp 5) rfl w3.heap.size 0 rfl [.int .i64 op,.string ⟨#[]⟩,.string ⟨#[]⟩,.int .i64 0,.complex .f64 0 0,.slice (some ⟨w9.heap.size,0,none⟩) 1 1,.int .i64 (I.M k).at_] _ (E_14.range 0 7) Tryz.underE Tryz.infoE ?_
      |(refine ah rfl 58 (.tmp 2) (.tmp 100) rfl w.heap.size 0 [.int .i64 op,.string ⟨#[]⟩,.string ⟨#[]⟩,.int .i64 0,.complex .f64 0 0,.slice (some ⟨w9.heap.size,0,none⟩) 1 1,.int .i64 (I.M k).at_] rfl rfl B_14 (Nat.le_refl 7) Tryz.infoE (show Sv [.int .i64 op,.string ⟨#[]⟩,.string ⟨#[]⟩,.int .i64 0,.complex .f64 0 0,.slice (some ⟨w9.heap.size,0,none⟩) 1 1,.int .i64 (I.M k).at_] from bX op 0 0 0 ⟨#[]⟩ ⟨#[]⟩ (.slice (some ⟨w9.heap.size,0,none⟩) 1 1) rfl _).one ?_;intro wz B_15 ho14;have U_15:=ho14.but U_14 (by omega);have Q_15:=Q_14.oth ho14 (by omega) (by omega);have E_15:=E_14.oth ho14 (by omega);have Z_15:=fun x j e=>(hz x j e).oth2 ho14 (fun b hb=>by omega);have lE_15:=E_15.lt;have lB_15:=B_15.lt;obtain⟨q0,q1,q2,q3,q4,q5,q6⟩:=Bk.seven (show Bk wz w.heap.size _ [_,_,_,_,_,_,_] from B_15)))
     refine bodyPost_ret (v:=.agg #[.int .i64 op,.string ⟨#[]⟩,.string ⟨#[]⟩,.int .i64 0,.complex .f64 0 0,.slice (some ⟨w9.heap.size,0,none⟩) 1 1,.int .i64 (I.M k).at_]) (by simp[results,Tryz.results133,go_sem,q0,q1,q2,q3,q4,q5,q6]) rfl ⟨_,rfl,(show Sv [.int .i64 op,.string ⟨#[]⟩,.string ⟨#[]⟩,.int .i64 0,.complex .f64 0 0,.slice (some ⟨w9.heap.size,0,none⟩) 1 1,.int .i64 (I.M k).at_] from bX op 0 0 0 ⟨#[]⟩ ⟨#[]⟩ (.slice (some ⟨w9.heap.size,0,none⟩) 1 1) rfl _),?_,?_,U_15⟩
     ·intro x j e
      rw[show r=_ from HR] at e
      obtain⟨x',k2,e1,e2⟩:=au.1 e
      cases e2
      rw[brackP] at e1
      obtain⟨_,k3,e3,e4⟩:=au.1 e1
      obtain⟨x2,k4,e5,e6⟩:=au.1 e4
      obtain⟨_,k5,_,e8⟩:=au.1 e6
      cases e8
      exact (Z_15 x' k4 (by rw[az,e3,az];exact e5)).imp fun b hb _=>by omega
     ·rw[show r=_ from HR,brackP]
      have hz:=Q_15
      rw[az] at hz
      cases hq2:aj I.M [40] (k+1) with
      |out=>rw[hq2] at hz;exact hz.elim
      |bad y j=>rw[hq2] at hz;exact hz
      |ok u k2=>
       rw[hq2,az] at hz
       cases hq3:exprP I.M (lmOf I) f d k2 with
       |out=>rw[hq3] at hz;exact hz.elim
       |bad y j=>rw[hq3] at hz;simp only[Rs.bind,hq3];exact hz
       |ok x k3=>
        rw[hq3,az] at hz
        cases hq4:aj I.M [41] k3 with
        |out=>rw[hq4] at hz;exact hz.elim
        |bad y j=>rw[hq4] at hz;simp only[Rs.bind,hq3,hq4];exact hz
        |ok u k4=>rw[hq4] at hz;simp only[Rs.bind,hq3,hq4];exact hz
    ·have g14:(op==14)=false:=by rw[h4];rfl
     have g15:(op==15)=false:=by rw[h4];rfl
     have g16:(op==16)=false:=by rw[h4];rfl
     have g17:(op==17)=true:=by rw[h4];rfl
     clear h4
     obtain⟨x0,x1,x2,x3,x4,x5,x6⟩:=Bk.seven (show Bk wc w3.heap.size _ [_,_,_,_,_,_,_] from hE0)
     go_wp2_with fail
     refine (aC I hE [40] hW40 (.ok () (k+1)) wc R d Q_7).mono ?_
     rintro e w6 ⟨rfl,hs6,hV6⟩
     have U_8:=U_7.trans hV6
     have B_8:=B_7.but hV6 (by omega)
     have E_8:=hE0.but hV6 (by omega)
     have lB_8:=B_8.lt
     have lE_8:=E_8.lt
     have s_8:=hV6.size
     clear x0 x1 x2 x3 x4 x5 x6
     go_wp2_with fail
     refine ((ihs f (by omega)).expr _ w6 R d hs6 hn2).mono ?_
     rintro e w7 ⟨us,rfl,sv2,hex2,hs7,hV7⟩
     obtain⟨b0,b1,b2,b3,b4,b5,b6,rfl⟩:=aQ sv2.len
     have U_9:=U_8.trans hV7
     have B_9:=B_8.but hV7 (by omega)
     have E_9:=E_8.but hV7 (by omega)
     have lB_9:=B_9.lt
     have lE_9:=E_9.lt
     have s_9:=hV7.size
     have hxb:=fun x j e=>(hex2 x j e).imp (A':=fun b=>w.heap.size<b∧b≠w3.heap.size∧b<w7.heap.size) fun b hb hl=>by first|omega|(simp at hb;omega)
     clear hex2
     have U_10:=U_9.then (ae w7 (.cells ez 58))
     have B_10:=B_9.up (ae w7 (.cells ez 58))
     have E_10:=E_9.up (ae w7 (.cells ez 58))
     have Q_10:=hs7.up (ae w7 (.cells ez 58))
     have Y_10:=fun x j e=>(hxb x j e).up (ae w7 (.cells ez 58))
     have C_10:=Bk.new w7 58 ez
     go_wp2_with (first
      |(refine ah rfl 58 (.tmp 6) (.tmp 94) rfl w7.heap.size 0 [b0,b1,b2,b3,b4,b5,b6] rfl rfl C_10 (Nat.le_refl 7) Tryz.infoE sv2.one ?_;intro w8 C_11 ho10;have U_11:=ho10.but U_10 (by omega);have B_11:=B_10.oth ho10 (by omega);have E_11:=E_10.oth ho10 (by omega);have Q_11:=Q_10.oth ho10 (by omega) (by omega);have Y_11:=fun x j e=>(Y_10 x j e).oth2 ho10 (fun b hb=>by omega);have lB_11:=B_11.lt;have lE_11:=E_11.lt;have lC_11:=C_11.lt))
     refine (aC I hE [41] hW41 _ w8 R d Q_11).mono ?_
     rintro e w9 ⟨rfl,hs9,hV9⟩
     have U_12:=U_11.trans hV9
     have B_12:=B_11.but hV9 (by omega)
     have E_12:=E_11.but hV9 (by omega)
     have Y_12:=fun x j e=>(Y_11 x j e).but2 hV9 (fun b hb=>by omega)
     have C_12:=C_11.but hV9 (by omega)
     have lB_12:=B_12.lt
     have lE_12:=E_12.lt
     have lC_12:=C_12.lt
     have s_12:=hV9.size
     obtain⟨x0,x1,x2,x3,x4,x5,x6⟩:=Bk.seven (show Bk (w9.alloc (.cells #[b0,b1,b2,b3,b4,b5,b6] 58)) w3.heap.size _ [_,_,_,_,_,_,_] from E_12.up (ae w9 (.cells #[b0,b1,b2,b3,b4,b5,b6] 58)))
     have z5:=Bk.frz (E_12.up (ae w9 (.cells #[b0,b1,b2,b3,b4,b5,b6] 58))) 5
     have hoE:=(Oth.refl w3.heap.size w9).set 5 (.slice (some ⟨w9.heap.size,0,none⟩) 1 1)
     have U_13:=hoE.but U_12 (by omega)
     have B_13:=B_12.oth hoE (by omega)
     have Y_13:=fun x j e=>(Y_12 x j e).oth2 hoE (fun b hb=>by omega)
     have C_13:=C_12.oth hoE (by omega)
     have Q_13:=hs9.oth hoE (by omega) (by omega)
     have hEn:Bk (w9.setCell ⟨w3.heap.size,5,none⟩ (.slice (some ⟨w9.heap.size,0,none⟩) 1 1)) w3.heap.size 58 [.int .i64 op,.string ⟨#[]⟩,.string ⟨#[]⟩,.int .i64 0,.complex .f64 0 0,.slice (some ⟨w9.heap.size,0,none⟩) 1 1,.int .i64 (I.M k).at_]:=E_12.set 5 _
     have U_14:=U_13.then (ae (w9.setCell ⟨w3.heap.size,5,none⟩ (.slice (some ⟨w9.heap.size,0,none⟩) 1 1)) (.cells #[b0,b1,b2,b3,b4,b5,b6] 58))
     have B_14:=B_13.up (ae (w9.setCell ⟨w3.heap.size,5,none⟩ (.slice (some ⟨w9.heap.size,0,none⟩) 1 1)) (.cells #[b0,b1,b2,b3,b4,b5,b6] 58))
     have Y_14:=fun x j e=>(Y_13 x j e).up (ae (w9.setCell ⟨w3.heap.size,5,none⟩ (.slice (some ⟨w9.heap.size,0,none⟩) 1 1)) (.cells #[b0,b1,b2,b3,b4,b5,b6] 58))
     have C_14:=C_13.up (ae (w9.setCell ⟨w3.heap.size,5,none⟩ (.slice (some ⟨w9.heap.size,0,none⟩) 1 1)) (.cells #[b0,b1,b2,b3,b4,b5,b6] 58))
     have Q_14:=Q_13.up (ae (w9.setCell ⟨w3.heap.size,5,none⟩ (.slice (some ⟨w9.heap.size,0,none⟩) 1 1)) (.cells #[b0,b1,b2,b3,b4,b5,b6] 58))
     have E_14:=hEn.up (ae (w9.setCell ⟨w3.heap.size,5,none⟩ (.slice (some ⟨w9.heap.size,0,none⟩) 1 1)) (.cells #[b0,b1,b2,b3,b4,b5,b6] 58))
     have hDn:Bk ((w9.setCell ⟨w3.heap.size,5,none⟩ (.slice (some ⟨w9.heap.size,0,none⟩) 1 1)).alloc (.cells #[b0,b1,b2,b3,b4,b5,b6] 58)) w9.heap.size 58 [b0,b1,b2,b3,b4,b5,b6]:=Bk.newAt 58 #[b0,b1,b2,b3,b4,b5,b6] (by simp)
     have lB_14:=B_14.lt
     have lC_14:=C_14.lt
     have lE_14:=E_14.lt
     have lD_14:=hDn.lt
     have hz:=fun x j e=>dI (op:=op) (name:=[]) (tail:=[]) (ty:=0) (pos:=(I.M k).at_) (c:=1) (n:=1) (xs:=[x]) (elv1 (A:=fun c=>w.heap.size<c∧c≠w3.heap.size) (g:=w9.heap.size) (by omega) hDn ((Y_14 x j e).imp fun b hb _=>by omega)) rfl
     go_wp2_with (first
      |refine ai rfl 58 (.tmp 6) rfl w7.heap.size 0 rfl [b0,b1,b2,b3,b4,b5,b6] _ (C_12.range 0 7) Tryz.underE Tryz.infoE ?_
      |refine ai rfl 58 (.tmp 5) rfl w3.heap.size 0 rfl [.int .i64 op,.string ⟨#[]⟩,.string ⟨#[]⟩,.int .i64 0,.complex .f64 0 0,.slice (some ⟨w9.heap.size,0,none⟩) 1 1,.int .i64 (I.M k).at_] _ (E_14.range 0 7) Tryz.underE Tryz.infoE ?_
      |(refine ah rfl 58 (.tmp 2) (.tmp 100) rfl w.heap.size 0 [.int .i64 op,.string ⟨#[]⟩,.string ⟨#[]⟩,.int .i64 0,.complex .f64 0 0,.slice (some ⟨w9.heap.size,0,none⟩) 1 1,.int .i64 (I.M k).at_] rfl rfl B_14 (Nat.le_refl 7) Tryz.infoE (show Sv [.int .i64 op,.string ⟨#[]⟩,.string ⟨#[]⟩,.int .i64 0,.complex .f64 0 0,.slice (some ⟨w9.heap.size,0,none⟩) 1 1,.int .i64 (I.M k).at_] from bX op 0 0 0 ⟨#[]⟩ ⟨#[]⟩ (.slice (some ⟨w9.heap.size,0,none⟩) 1 1) rfl _).one ?_;intro wz B_15 ho14;have U_15:=ho14.but U_14 (by omega);have Q_15:=Q_14.oth ho14 (by omega) (by omega);have E_15:=E_14.oth ho14 (by omega);have Z_15:=fun x j e=>(hz x j e).oth2 ho14 (fun b hb=>by omega);have lE_15:=E_15.lt;have lB_15:=B_15.lt;obtain⟨q0,q1,q2,q3,q4,q5,q6⟩:=Bk.seven (show Bk wz w.heap.size _ [_,_,_,_,_,_,_] from B_15)))
     refine bodyPost_ret (v:=.agg #[.int .i64 op,.string ⟨#[]⟩,.string ⟨#[]⟩,.int .i64 0,.complex .f64 0 0,.slice (some ⟨w9.heap.size,0,none⟩) 1 1,.int .i64 (I.M k).at_]) (by simp[results,Tryz.results133,go_sem,q0,q1,q2,q3,q4,q5,q6]) rfl ⟨_,rfl,(show Sv [.int .i64 op,.string ⟨#[]⟩,.string ⟨#[]⟩,.int .i64 0,.complex .f64 0 0,.slice (some ⟨w9.heap.size,0,none⟩) 1 1,.int .i64 (I.M k).at_] from bX op 0 0 0 ⟨#[]⟩ ⟨#[]⟩ (.slice (some ⟨w9.heap.size,0,none⟩) 1 1) rfl _),?_,?_,U_15⟩
     ·intro x j e
      rw[show r=_ from HR] at e
      obtain⟨x',k2,e1,e2⟩:=au.1 e
      cases e2
      rw[brackP] at e1
      obtain⟨_,k3,e3,e4⟩:=au.1 e1
      obtain⟨x2,k4,e5,e6⟩:=au.1 e4
      obtain⟨_,k5,_,e8⟩:=au.1 e6
      cases e8
      exact (Z_15 x' k4 (by rw[az,e3,az];exact e5)).imp fun b hb _=>by omega
     ·rw[show r=_ from HR,brackP]
      have hz:=Q_15
      rw[az] at hz
      cases hq2:aj I.M [40] (k+1) with
      |out=>rw[hq2] at hz;exact hz.elim
      |bad y j=>rw[hq2] at hz;exact hz
      |ok u k2=>
       rw[hq2,az] at hz
       cases hq3:exprP I.M (lmOf I) f d k2 with
       |out=>rw[hq3] at hz;exact hz.elim
       |bad y j=>rw[hq3] at hz;simp only[Rs.bind,hq3];exact hz
       |ok x k3=>
        rw[hq3,az] at hz
        cases hq4:aj I.M [41] k3 with
        |out=>rw[hq4] at hz;exact hz.elim
        |bad y j=>rw[hq4] at hz;simp only[Rs.bind,hq3,hq4];exact hz
        |ok u k4=>rw[hq4] at hz;simp only[Rs.bind,hq3,hq4];exact hz
theorem runit_step (I:Rdi) (hE:Ends I.M I.n) (hW:∀ s∈lks,Wm I.M s) (hK:Kw I.M) (f:Nat) (ihs:∀ g,g≤f→AllR I g) {α:Type} (q:Rs α) (w:World) (R d:Nat) (h:St I w R d q) (hne:nx q (unitP I.M (lmOf I) (f+1) d)≠.out) :
  Calls Tryz.prog 133 #[.pointer (some ⟨R,0,none⟩)] w (RA I R d w (nx q (unitP I.M (lmOf I) (f+1) d))):=by
 cases q with
 |out=>exact h.elim
 |bad y j=>
  obtain⟨hy,k,d',h⟩:=h
  exact jK I hE hW hK w R k j y hy d d' h
 |ok a k=>
  rw[az] at hne ⊢
  have h0:Rq I w R k 0 0 d:=h
  by_cases h2:(I.M k).kind=2
  ·exact runit_num I hE hW hK f ihs w R k d h0 h2
  ·by_cases h0':(I.M k).kind=0
   ·exact runit_name I hE hW hK f ihs w R k d h0 h0' hne
   ·by_cases h1:(I.M k).kind=1
    ·exact runit_word I hE hW hK f ihs w R k d h0 h1 hne
    ·exact runit_brack I hE hW hK f ihs w R k d h0 h0' h1 h2 hne
end Go.Proofs.YtimoappbefindaaGreat
