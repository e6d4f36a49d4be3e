/-
  6 texts in one: what each proves stands at its head.
-/
import Derived.Test.YtimoappbefindaaGreatYn
import Derived.Test.YtimoappbefindaaGreatUS
import Derived.Test.YtimoappbefindaaGreatUA
import Derived.Test.YtimoappbefindaaGreatUM
namespace Go.Proofs.YtimoappbefindaaGreat
set_option maxHeartbeats 8000000
open Go.RowKit
set_option maxRecDepth 100000
theorem rexpr_step (I:Rdi) (hE:Ends I.M I.n) (hW:∀ s∈lks,Wm I.M s) (hln:I.ln≤9223372036854775807) (f:Nat) (ihs:∀ g,g≤f→AllR I g) {α:Type} (q:Rs α) (w:World) (R d:Nat) (h:St I w R d q) (hne:nx q (exprP I.M (lmOf I) (f+1) d)≠.out) :
  Calls Tryz.prog 92 #[.pointer (some ⟨R,0,none⟩)] w (RA I R d w (nx q (exprP I.M (lmOf I) (f+1) d))):=by
 cases q with
 |out=>exact h.elim
 |bad y j=>
  obtain⟨hy,k,d',h⟩:=h
  exact iB I hE hW w R k j y hy d d' h
 |ok a k=>
  rw[ax] at hne ⊢
  have h0:Rq I w R k 0 0 d:=h
  rw[exprP] at hne ⊢
  cases t1:tk I.M tLet k with
  |true=>
   rw[t1,if_pos rfl] at hne
   rw[if_pos rfl]
   cases f with
   |zero=>exact absurd (by rw[bindP]) hne
   |succ f=>
    by_cases hn:I.ln≤d
    ·have hr:bindP I.M (lmOf I) (f+1) 21 d k=.bad 23 k:=by rw[bindP,if_pos (show (lmOf I).n≤(d:Int) from hn)]
     rw[hr]
     exact rexpr_let_deep I hE hW (f+1) ihs w R k d h0 t1 hn
    ·exact rexpr_let I hE hW f (fun g hg=>ihs g (by omega)) w R k d h0 hln t1 (by omega) hne
  |false=>
   rw[t1,if_neg (by simp)] at hne
   rw[if_neg (by simp)]
   cases t2:tk I.M aH k with
   |true=>
    rw[t2,if_pos rfl] at hne
    rw[if_pos rfl]
    cases f with
    |zero=>exact absurd (by rw[bindP]) hne
    |succ f=>
     by_cases hn:I.ln≤d
     ·have hr:bindP I.M (lmOf I) (f+1) 22 d k=.bad 23 k:=by rw[bindP,if_pos (show (lmOf I).n≤(d:Int) from hn)]
      rw[hr]
      exact rexpr_strict_deep I hE hW (f+1) ihs w R k d h0 t2 hn
     ·exact rexpr_strict I hE hW f (fun g hg=>ihs g (by omega)) w R k d h0 hln t2 (by omega) hne
   |false=>
    rw[t2,if_neg (by simp)] at hne
    rw[if_neg (by simp)]
    cases t4:tk I.M tIf k with
    |true=>
     rw[t4,if_pos rfl] at hne
     rw[if_pos rfl]
     cases f with
     |zero=>exact absurd (by rw[ifP]) hne
     |succ f=>exact rexpr_if I hE hW f (fun g hg=>ihs g (by omega)) w R k d h0 t4 hne
    |false=>
     rw[t4,if_neg (by simp)] at hne
     rw[if_neg (by simp)]
     cases t3:tk I.M bZ k with
     |true=>
      rw[t3,if_pos rfl] at hne
      rw[if_pos rfl]
      cases f with
      |zero=>exact absurd (by rw[caseP]) hne
      |succ f=>
       by_cases hn:I.ln≤d
       ·have hr:caseP I.M (lmOf I) (f+1) d k=.bad 23 k:=by rw[caseP,if_pos (show (lmOf I).n≤(d:Int) from hn)]
        rw[hr]
        exact rexpr_case_deep I hE hW (f+1) ihs w R k d h0 t3 hn
       ·exact rexpr_case I hE hW f (fun g hg=>ihs g (by omega)) w R k d h0 hln t3 (by omega) hne
     |false=>
      rw[t3,if_neg (by simp)] at hne
      rw[if_neg (by simp)]
      exact rexpr_cons I hE hW f ihs w R k d h0 t1 t2 t3 t4 hne
theorem Row.keep2 {w w':World} {B:Nat} {v:Value} {xs:List Ex} (h:Row w B v xs) (hk:∀ b,B≤b→b<w.heap.size→w'.heap[b]?=w.heap[b]?):Row w' B v xs:=by
 obtain⟨cs,h1,h2⟩:=h.cs
 exact⟨cs,bu h1 fun b hb=>hk b (aN h1 b hb).1 (aN h1 b hb).2,h2.keep fun b hb hl=>hk b hb.1 hl⟩
theorem ElW.up2 {w w':World} {A:Nat→Prop} {ao:Option Addr} {xs:List Ex} (h:ElW w A ao xs) (hb:Below w.heap.size w w'):ElW w' A ao xs:=h.keep fun b _ hl=>hb.block b hl
theorem row_elp {w:World} {B:Nat} {ao:Option Addr} {n c:Nat} {xs:List Ex} (h:Row w B (.slice ao n c) xs):ElV w B ao xs:=by
 obtain⟨ao',c',e,h'⟩:=h.el
 cases e
 exact h'
def NJ (I:Rdi) (f:Nat) (R d gE:Nat) (w:World) (tx:List UInt8) (at_:Nat) (C:Nat→List Ex→Nat→Prop) (D:Int→Nat→Prop) (wr:World):Prop:=
 Bk wr (w.heap.size+1) 58 [.int .i64 0,.string ⟨#[]⟩,.string ⟨#[]⟩,.int .i64 0,.complex .f64 0 0,.slice none 0 0,.int .i64 0]∧But R w wr∧∃ (ao:Option Addr) (n cc:Nat),Bk wr gE 58 [.int .i64 7,.string (bs tx),.string ⟨#[]⟩,.int .i64 0,.complex .f64 0 0,.slice ao n cc,.int .i64 at_]∧Rj wr (gE+1) (.slice ao n cc) n ∧
  ((∃ (g k:Nat) (xs:List Ex),C g xs k∧g≤f∧Rq I wr R k 0 0 d∧xs.length=n∧n≤k∧Row wr (gE+1) (.slice ao n cc) xs)∨(∃ (y:Int) (j k:Nat) (d':Int),D y j∧y≠0∧Rq I wr R k y (I.M j).at_ d'))
theorem rnamed_step (I:Rdi) (hE:Ends I.M I.n) (hW:∀ s∈lks,Wm I.M s) (f:Nat) (ihs:∀ g,g≤f→AllR I g) (w:World) (R k d:Nat) (h:Rq I w R (k+1) 0 0 d) (hne:namedP I.M (lmOf I) (f+1) d k≠.out) :
  Calls Tryz.prog 134 #[.pointer (some ⟨R,0,none⟩),mkV (I.M k)] w (RA I R d w (namedP I.M (lmOf I) (f+1) d k)):=by
 obtain⟨r,hr⟩:∃ r,r=namedP I.M (lmOf I) (f+1) d k:=⟨_,rfl⟩
 rw[← hr] at hne ⊢
 rw[namedP] at hr
 have HR:Hid (r=_):=hr
 clear hr
 have hlt:=h.lt
 have hcx:=aG
 have hW40:=hW [40] (by simp[lks])
 have hW41:=hW [41] (by simp[lks])
 have hW44:=hW [44] (by simp[lks])
 unfold mkV
 have Q_1:=h.up (ae w (.cells #[.int .i64 (I.M k).kind,.string (bs (I.M k).text),.complex .f64 (fl (I.M k).p) (fl (I.M k).q),.int .i64 (I.M k).at_] 135))
 have U_1:=(But.refl R w).then (ae w (.cells #[.int .i64 (I.M k).kind,.string (bs (I.M k).text),.complex .f64 (fl (I.M k).p) (fl (I.M k).q),.int .i64 (I.M k).at_] 135))
 have hM0:=Bk.new w 135 #[.int .i64 (I.M k).kind,.string (bs (I.M k).text),.complex .f64 (fl (I.M k).p) (fl (I.M k).q),.int .i64 (I.M k).at_]
 have Q_2:=Q_1.up (ae (w.alloc (.cells #[.int .i64 (I.M k).kind,.string (bs (I.M k).text),.complex .f64 (fl (I.M k).p) (fl (I.M k).q),.int .i64 (I.M k).at_] 135)) (.cells ez 58))
 have U_2:=U_1.then (ae (w.alloc (.cells #[.int .i64 (I.M k).kind,.string (bs (I.M k).text),.complex .f64 (fl (I.M k).p) (fl (I.M k).q),.int .i64 (I.M k).at_] 135)) (.cells ez 58))
 have M_2:=hM0.up (ae (w.alloc (.cells #[.int .i64 (I.M k).kind,.string (bs (I.M k).text),.complex .f64 (fl (I.M k).p) (fl (I.M k).q),.int .i64 (I.M k).at_] 135)) (.cells ez 58))
 have hB0:Bk ((w.alloc (.cells #[.int .i64 (I.M k).kind,.string (bs (I.M k).text),.complex .f64 (fl (I.M k).p) (fl (I.M k).q),.int .i64 (I.M k).at_] 135)).alloc (.cells ez 58)) (w.heap.size+1) 58 [.int .i64 0,.string ⟨#[]⟩,.string ⟨#[]⟩,.int .i64 0,.complex .f64 0 0,.slice none 0 0,.int .i64 0]:=Bk.newAt 58 ez (by simp)
 have lM_2:=M_2.lt
 have lB_2:=hB0.lt
 go_enter Tryz.func134,Tryz.ntmps134
 go_wp2_with fail
 cases t1:tk I.M [40] (k+1) with
 |false=>
  have HE:r=.ok (.mk 6 (I.M k).text [] 0 0 0 [] (I.M k).at_) (k+1):=by rw[show r=_ from HR,if_neg (by rw[t1];simp)]
  refine (aT I [40] ((w.alloc (.cells #[.int .i64 (I.M k).kind,.string (bs (I.M k).text),.complex .f64 (fl (I.M k).p) (fl (I.M k).q),.int .i64 (I.M k).at_] 135)).alloc (.cells ez 58)) R (t1 ▸ ay I [40] hW40 ((w.alloc (.cells #[.int .i64 (I.M k).kind,.string (bs (I.M k).text),.complex .f64 (fl (I.M k).p) (fl (I.M k).q),.int .i64 (I.M k).at_] 135)).alloc (.cells ez 58)) R (k+1) 0 d Q_2)).mono ?_
  rintro e w3 ⟨rfl,hb3⟩
  have Q_3:=Q_2.up hb3
  have U_3:=U_2.then hb3
  have M_3:=M_2.up hb3
  have B_3:=hB0.up hb3
  have lM_3:=M_3.lt
  have lB_3:=B_3.lt
  have s_3:=hb3.size
  obtain⟨m0,m1,m2,m3⟩:=Bk.four (show Bk w3 w.heap.size _ [_,_,_,_] from M_3)
  go_wp2_with (first
   |(refine af rfl 58 (.tmp 4) (.tmp 14) rfl (w.heap.size+1) 0 [.int .i64 6,.string (bs (I.M k).text),.string ⟨#[]⟩,.int .i64 0,.complex .f64 0 0,.slice none 0 0,.int .i64 (I.M k).at_] rfl rfl B_3 (Nat.le_refl 7) Tryz.infoE (show Sv [.int .i64 6,.string (bs (I.M k).text),.string ⟨#[]⟩,.int .i64 0,.complex .f64 0 0,.slice none 0 0,.int .i64 (I.M k).at_] from bR 6 0 0 0 (bs (I.M k).text) ⟨#[]⟩ (.slice none 0 0) rfl _).one ?_;intro wz B_4 ho3;have Q_4:=Q_3.oth ho3 (by omega) (by omega);have U_4:=ho3.but U_3 (by omega);have M_4:=M_3.oth ho3 (by omega);have lM_4:=M_4.lt;have lB_4:=B_4.lt;obtain⟨q0,q1,q2,q3,q4,q5,q6⟩:=Bk.seven (show Bk wz (w.heap.size+1) _ [_,_,_,_,_,_,_] from B_4)))
  subst HE
  refine bodyPost_ret (v:=.agg #[.int .i64 6,.string (bs (I.M k).text),.string ⟨#[]⟩,.int .i64 0,.complex .f64 0 0,.slice none 0 0,.int .i64 (I.M k).at_]) (by simp[results,Tryz.results134,go_sem,q0,q1,q2,q3,q4,q5,q6]) rfl ⟨_,rfl,(show Sv [.int .i64 6,.string (bs (I.M k).text),.string ⟨#[]⟩,.int .i64 0,.complex .f64 0 0,.slice none 0 0,.int .i64 (I.M k).at_] from bR 6 0 0 0 (bs (I.M k).text) ⟨#[]⟩ (.slice none 0 0) rfl _),(fun _ _ e=>by cases e;exact dm .nil rfl),Q_4,U_4⟩
 |true=>
  have hk1:=hE.tk I.M t1 (by decide) h.kn
  have HR:Hid (r=(argsP I.M (lmOf I) f d (k+1+1)).bind fun l k1=>.ok (.mk 7 (I.M k).text [] 0 0 0 l (I.M k).at_) k1):=by
   show r=_
   rw[show r=_ from HR,if_pos t1]
  obtain⟨ra,hra⟩:∃ ra,ra=argsP I.M (lmOf I) f d (k+1+1):=⟨_,rfl⟩
  rw[← hra] at HR
  have hna:=bJ HR hne
  have HA:Hid (ra=_):=hra
  clear hra
  refine (cZ I [40] hW40 ((w.alloc (.cells #[.int .i64 (I.M k).kind,.string (bs (I.M k).text),.complex .f64 (fl (I.M k).p) (fl (I.M k).q),.int .i64 (I.M k).at_] 135)).alloc (.cells ez 58)) R (k+1) d Q_2 t1 hk1).mono ?_
  rintro e w3 ⟨rfl,hd3,hV3⟩
  have U_3:=U_2.trans hV3
  have M_3:=M_2.but hV3 (by omega)
  have B_3:=hB0.but hV3 (by omega)
  have lM_3:=M_3.lt
  have lB_3:=B_3.lt
  have s_3:=hV3.size
  obtain⟨m0,m1,m2,m3⟩:=Bk.four (show Bk w3 w.heap.size _ [_,_,_,_] from M_3)
  have U_4:=U_3.then (ae w3 (.cells #[.int .i64 7,.string (bs (I.M k).text),.string ⟨#[]⟩,.int .i64 0,.complex .f64 0 0,.slice none 0 0,.int .i64 (I.M k).at_] 58))
  have B_4:=B_3.up (ae w3 (.cells #[.int .i64 7,.string (bs (I.M k).text),.string ⟨#[]⟩,.int .i64 0,.complex .f64 0 0,.slice none 0 0,.int .i64 (I.M k).at_] 58))
  have Q_4:=hd3.up (ae w3 (.cells #[.int .i64 7,.string (bs (I.M k).text),.string ⟨#[]⟩,.int .i64 0,.complex .f64 0 0,.slice none 0 0,.int .i64 (I.M k).at_] 58))
  have hE0:=Bk.new w3 58 #[.int .i64 7,.string (bs (I.M k).text),.string ⟨#[]⟩,.int .i64 0,.complex .f64 0 0,.slice none 0 0,.int .i64 (I.M k).at_]
  have hJ:NJ I f R d w3.heap.size w (I.M k).text (I.M k).at_ (fun g xs k2=>Hid ((xs=[]∧ra=argsP I.M (lmOf I) g d k2)∨(xs≠[]∧ra=argsL I.M (lmOf I) g d xs k2))) (fun y j=>Hid (ra=.bad y j)) (w3.alloc (.cells #[.int .i64 7,.string (bs (I.M k).text),.string ⟨#[]⟩,.int .i64 0,.complex .f64 0 0,.slice none 0 0,.int .i64 (I.M k).at_] 58)):=⟨B_4,U_4,none,0,0,hE0,Rj.nil _ _,.inl ⟨f,k+1+1,[],.inl ⟨rfl,HA⟩,Nat.le_refl _,Q_4,rfl,by omega,Row.nil _ _⟩⟩
  have hg0:w.heap.size+1<w3.heap.size:=lB_3
  obtain⟨gE,hgd⟩:∃ g,g=w3.heap.size:=⟨_,rfl⟩
  go_wp2_with fail
  rw[← hgd] at hJ hg0 ⊢
  clear B_4 U_4 Q_4 hE0 hgd m0 m1 m2 m3
  go_loopw [] (fun wr=>NJ I f R d gE w (I.M k).text (I.M k).at_ (fun g xs k2=>Hid ((xs=[]∧ra=argsP I.M (lmOf I) g d k2)∨(xs≠[]∧ra=argsL I.M (lmOf I) g d xs k2))) (fun y j=>Hid (ra=.bad y j)) wr) (fun wr=>msr I.n R wr)
  case atStart=>exact hJ
  case round=>
   obtain⟨hB,hU,ao,n,cc,hE0,hrj,hst⟩:=hrel
   have lB:=hB.lt
   have lE:=hE0.lt
   rcases hst with⟨g,k2,xs,HC,hg,hd,hxl,hnk,hrow⟩|⟨y,j,k2,d',HD,hy,hd⟩
   ·have hkn:=hd.kn
    have hsm:=hd.small
    obtain⟨g,rfl⟩:∃ g',g=g'+1:=by
     cases g with
     |zero=>
      rcases (show _∨_ from HC) with⟨_,e⟩|⟨_,e⟩
      ·exact absurd (by rw[e,argsP]) hna
      ·exact absurd (by rw[e,argsL]) hna
     |succ g=>exact⟨g,rfl⟩
    obtain⟨-,-,c2,-⟩:=hd.nine
    go_wp2_with fail
    cases t2:tk I.M [41] k2 with
    |true=>
     have hk3:=hE.tk I.M t2 (by decide) hkn
     have HE:ra=.ok xs (k2+1):=by
      rcases (show _∨_ from HC) with⟨e1,e⟩|⟨_,e⟩
      ·rw[e,argsP,if_pos t2,e1]
      ·have t3:tk I.M [44] k2=false:=by unfold tk at t2 ⊢;rw[eq_of_beq t2];rfl
       rw[e,argsL,if_neg (by rw[t3];simp)]
       simp[ai,t2,Rs.bind]
     have HF:r=.ok (.mk 7 (I.M k).text [] 0 0 0 xs (I.M k).at_) (k2+1):=by rw[show r=_ from HR,HE];rfl
     refine (t2 ▸ ay I [41] hW41 wr R k2 0 d hd:Calls Tryz.prog 90 #[.pointer (some ⟨R,0,none⟩),.string (bs [41])] wr fun e w'=>e=.returned (.bool true)∧Below wr.heap.size wr w').mono ?_
     rintro e w4 ⟨rfl,hb4⟩
     have B_1:=hB.up hb4
     have U_1:=hU.then hb4
     have E_1:=hE0.up hb4
     have Q_1:=hd.up hb4
     have lB_1:=B_1.lt
     have lE_1:=E_1.lt
     have s_1:=hb4.size
     go_wp2_with fail
     refine (aA I hE [41] hW41 (.ok () k2:Rs Unit) w4 R d Q_1).mono ?_
     rintro e w5 ⟨rfl,hs5,hV5⟩
     have hs5:Rq I w5 R (k2+1) 0 0 d:=by
      have:=hs5
      rw[ax] at this
      simp only[ai,t2,if_true] at this
      exact this
     have B_2:=B_1.but hV5 (by omega)
     have U_2:=U_1.trans hV5
     have E_2:=E_1.but hV5 (by omega)
     have lB_2:=B_2.lt
     have lE_2:=E_2.lt
     have s_2:=hV5.size
     go_wp2_with (first
      |refine ah rfl 58 (.tmp 5) rfl gE 0 rfl [.int .i64 7,.string (bs (I.M k).text),.string ⟨#[]⟩,.int .i64 0,.complex .f64 0 0,.slice ao n cc,.int .i64 (I.M k).at_] _ (E_2.range 0 7) Tryz.underE Tryz.infoE ?_
      |(refine af rfl 58 (.tmp 4) (.tmp 46) rfl (w.heap.size+1) 0 [.int .i64 7,.string (bs (I.M k).text),.string ⟨#[]⟩,.int .i64 0,.complex .f64 0 0,.slice ao n cc,.int .i64 (I.M k).at_] rfl rfl B_2 (Nat.le_refl 7) Tryz.infoE (show Sv [.int .i64 7,.string (bs (I.M k).text),.string ⟨#[]⟩,.int .i64 0,.complex .f64 0 0,.slice ao n cc,.int .i64 (I.M k).at_] from bR 7 0 0 0 (bs (I.M k).text) ⟨#[]⟩ (.slice ao n cc) rfl _).one ?_;intro wz B_3 ho2;have U_3:=ho2.but U_2 (by omega);have E_3:=E_2.oth ho2 (by omega);have Q_3:=hs5.oth ho2 (by omega) (by omega);have lE_3:=E_3.lt;have lB_3:=B_3.lt;obtain⟨q0,q1,q2,q3,q4,q5,q6⟩:=Bk.seven (show Bk wz (w.heap.size+1) _ [_,_,_,_,_,_,_] from B_3);have hel:=((((row_elp hrow).up2 hb4).keep (w':=w5) fun b hb hl=>hV5.block b hl (by omega)).keep (w':=wz) fun b hb hl=>ho2.block b (by omega))))
     refine bodyPost_ret (v:=.agg #[.int .i64 7,.string (bs (I.M k).text),.string ⟨#[]⟩,.int .i64 0,.complex .f64 0 0,.slice ao n cc,.int .i64 (I.M k).at_]) (by simp[results,Tryz.results134,go_sem,q0,q1,q2,q3,q4,q5,q6]) rfl ⟨_,rfl,(show Sv [.int .i64 7,.string (bs (I.M k).text),.string ⟨#[]⟩,.int .i64 0,.complex .f64 0 0,.slice ao n cc,.int .i64 (I.M k).at_] from bR 7 0 0 0 (bs (I.M k).text) ⟨#[]⟩ (.slice ao n cc) rfl _),?_,?_,U_3⟩
     ·intro x j e
      rw[HF] at e
      cases e
      subst hxl
      exact dm (hel.imp fun b hb _=>by omega) rfl
     ·rw[HF]
      exact Q_3
    |false=>
     refine (t2 ▸ ay I [41] hW41 wr R k2 0 d hd:Calls Tryz.prog 90 #[.pointer (some ⟨R,0,none⟩),.string (bs [41])] wr fun e w'=>e=.returned (.bool false)∧Below wr.heap.size wr w').mono ?_
     rintro e w4 ⟨rfl,hb4⟩
     have B_1:=hB.up hb4
     have U_1:=hU.then hb4
     have E_1:=hE0.up hb4
     have Q_1:=hd.up hb4
     have lB_1:=B_1.lt
     have lE_1:=E_1.lt
     have s_1:=hb4.size
     obtain⟨-,-,-,-,-,x5,-⟩:=Bk.seven (show Bk w4 gE _ [_,_,_,_,_,_,_] from E_1)
     have hrj4:=hrj.up hb4
     have hrow4:=hrow.up hb4
     have hgx:∀ (s:Rs Unit) (m:Nat) a j,s=.ok () m→nx s (exprP I.M (lmOf I) g d)=.ok a j→m+1≤j:=by
      intro s m a j e1 e2
      rw[e1,ax] at e2
      have:=(qg I.M (lmOf I) g).exprP d m a j e2
      have:=gJ a
      omega
     by_cases hx:xs=[]
     ·have hn0:n=0:=by rw[← hxl,hx];rfl
      have b0:decide (0<(n:Int))=false:=by rw[decide_eq_false_iff_not];omega
      have b1:decide (0<n)=false:=by rw[decide_eq_false_iff_not];omega
      have b2:¬ 0<n:=by omega
      have HX:Hid (ra=(nx (.ok () k2:Rs Unit) (exprP I.M (lmOf I) g d)).bind fun a k3=>argsL I.M (lmOf I) g d (xs++[a]) k3):=by
       show ra=_
       rcases (show _∨_ from HC) with⟨e1,e⟩|⟨e1,e⟩
       ·rw[e,argsP,if_neg (by rw[t2];simp),hx]
        rfl
       ·exact absurd hx e1
      have hn2:=bJ HX hna
      have hgg:∀ a j,nx (.ok () k2:Rs Unit) (exprP I.M (lmOf I) g d)=.ok a j→k2+1≤j:=fun a j e=>hgx _ _ a j rfl e
      clear hn0
      go_wp2_with fail
      refine ((ihs g (by omega)).expr (.ok () k2:Rs Unit) w4 R d Q_1 hn2).mono ?_
      rintro e w7 ⟨us,rfl,sv,hex,hs7,hV7⟩
      obtain⟨b0,b1,b2,b3,b4,b5,b6,rfl⟩:=aP sv.len
      have hrj7:=hrj4.but hV7 (by omega)
      have hrow7:=hrow4.but hV7 (by omega)
      have hhas:=hrj4.has
      have B_2:=B_1.but hV7 (by omega)
      have U_2:=U_1.trans hV7
      have E_2:=E_1.but hV7 (by omega)
      have lB_2:=B_2.lt
      have lE_2:=E_2.lt
      have s_2:=hV7.size
      go_wp2_with (first
       |(refine af rfl 58 (.tmp 6) (.tmp 37) rfl w7.heap.size 0 [b0,b1,b2,b3,b4,b5,b6] rfl rfl (Bk.new w7 58 ez) (Nat.le_refl 7) Tryz.infoE sv.one ?_;intro w8 X_3 hoa3;have hba3:Below w7.heap.size w7 w8:=(ae w7 (.cells ez 58)).trans (hoa3.below (Nat.le_refl _));have B_3:=B_2.up hba3;have U_3:=U_2.then hba3;have E_3:=E_2.up hba3;have Q_3:=hs7.up hba3;have lB_3:=B_3.lt;have lE_3:=E_3.lt;have lX_3:=X_3.lt;have s_3:=hba3.size;have hrj8:=hrj7.up hba3;have hrow8:=hrow7.up hba3;have hex8:=fun x j e=>(hex x j e).up hba3;obtain⟨-,-,-,-,-,y5,-⟩:=Bk.seven (show Bk w8 gE _ [_,_,_,_,_,_,_] from E_3);obtain⟨v9,w9,r9,j9,B9,T9⟩:=gK hrj8 (by omega) sv (by omega);obtain⟨ao9,cc9,hv9⟩:=j9.val;subst hv9;have hE9:=E_3.low B9 (by omega);have y9:w9.cell? ⟨gE,5,none⟩=some (.slice ao n cc):=hE9.cell 5;have z9:=hE9.frz 5;have R9:Hid (_=_):=r9;clear r9)
       |refine ah rfl 58 (.tmp 6) rfl w7.heap.size 0 rfl [b0,b1,b2,b3,b4,b5,b6] _ (X_3.range 0 7) Tryz.underE Tryz.infoE ?_
       |(at_builtin;refine wpList_append_run rfl (.tmp 39) (.tmp 41) 56 rfl rfl _ _ rfl rfl _ _ (show _=_ from R9) ?_))
      have hB9:=B_3.low B9 (by omega)
      have hs9:=Q_3.low B9 (by omega) (by omega)
      have hU9:=U_3.low (B9.mono (by omega))
      have hoE:=(Oth.refl gE w9).set 5 (.slice ao9 (n+1) cc9)
      have hB10:=hB9.oth hoE (by omega)
      have hE10:Bk (w9.setCell ⟨gE,5,none⟩ (.slice ao9 (n+1) cc9)) gE 58 [.int .i64 7,.string (bs (I.M k).text),.string ⟨#[]⟩,.int .i64 0,.complex .f64 0 0,.slice ao9 (n+1) cc9,.int .i64 (I.M k).at_]:=hE9.set 5 _
      have hU10:=hoE.but hU9 (by omega)
      have hbE:But gE w9 (w9.setCell ⟨gE,5,none⟩ (.slice ao9 (n+1) cc9)):=⟨hoE.os,hoE.tape,hoE.output,by rw[hoE.size];omega,fun i _ hn=>hoE.block i hn⟩
      have hs10:=bL hs9 hbE (by omega) (by omega)
      have hrj10:Rj (w9.setCell ⟨gE,5,none⟩ (.slice ao9 (n+1) cc9)) (gE+1) (.slice ao9 (n+1) cc9) (n+1):=j9.keep fun b hb _=>hoE.block b (by omega)
      have hrow10:=fun x j e=>Row.keep2 (T9 xs x hrow8 hxl ((hex8 x j e).mono (by omega)) (fun nb hnb=>(hex8 x j e).imp fun nc hnc _=>by have:=(hhas nb hnb).2;omega)) (w':=(w9.setCell ⟨gE,5,none⟩ (.slice ao9 (n+1) cc9))) fun b hb _=>hoE.block b (by omega)
      have ms1:=aR hd
      cases hq2:nx (.ok () k2:Rs Unit) (exprP I.M (lmOf I) g d) with
      |out=>exact absurd hq2 hn2
      |bad y j=>
       have HE:Hid (ra=.bad y j):=by show ra=_;rw[show ra=_ from HX,hq2];rfl
       rw[hq2] at hs10
       obtain⟨hy,kz,dz,hdz⟩:=hs10
       have ms2:=bI hy hdz
       try dsimp only[Act.put]
       go_roundw
       case rel=>exact⟨hB10,hU10,ao9,n+1,cc9,hE10,hrj10,.inr ⟨y,j,kz,dz,HE,hy,hdz⟩⟩
       case measure=>exact bf ms1 ms2 hkn
      |ok a k3=>
       have HE:Hid ((xs++[a]=[]∧ra=argsP I.M (lmOf I) g d k3)∨(xs++[a]≠[]∧ra=argsL I.M (lmOf I) g d (xs++[a]) k3)):=.inr ⟨by simp,by rw[show ra=_ from HX,hq2];rfl⟩
       rw[hq2] at hs10
       have hdz:Rq I (w9.setCell ⟨gE,5,none⟩ (.slice ao9 (n+1) cc9)) R k3 0 0 d:=hs10
       have hge:k2+1≤k3:=hgg a k3 hq2
       have ms2:=aR hdz
       try dsimp only[Act.put]
       go_roundw
       case rel=>exact⟨hB10,hU10,ao9,n+1,cc9,hE10,hrj10,.inl ⟨g,k3,xs++[a],HE,by omega,hdz,by rw[List.length_append,hxl];rfl,by omega,hrow10 a k3 hq2⟩⟩
       case measure=>exact aZ ms1 ms2 hkn hge
     ·have hn0:0<n:=by
       rw[← hxl]
       exact List.length_pos_iff.2 hx
      have b0:decide (0<(n:Int))=true:=by rw[decide_eq_true_eq];omega
      have HX:Hid (ra=(nx (nx (.ok () k2:Rs Unit) (ai I.M [44])) (exprP I.M (lmOf I) g d)).bind fun a k3=>argsL I.M (lmOf I) g d (xs++[a]) k3):=by
       show ra=_
       rcases (show _∨_ from HC) with⟨e1,e⟩|⟨e1,e⟩
       ·exact absurd e1 hx
       ·rw[e,argsL,ax]
        cases t3:tk I.M [44] k2 with
        |true=>simp only[ai,t3,if_true];rfl
        |false=>simp[ai,t3,t2,Rs.bind,nx]
      have hn2:=bJ HX hna
      have hgg:∀ a j,nx (nx (.ok () k2:Rs Unit) (ai I.M [44])) (exprP I.M (lmOf I) g d)=.ok a j→k2+1≤j:=by
       intro a j e
       rw[ax] at e
       cases hm:ai I.M [44] k2 with
       |out=>rw[hm] at e;cases e
       |bad y i=>rw[hm] at e;cases e
       |ok u i=>
        have hi:=(iV hm).2
        have:=hgx (.ok () i) i a j rfl (by rw[hm] at e;exact e)
        omega
      go_wp2_with fail
      refine (aA I hE [44] hW44 (.ok () k2:Rs Unit) w4 R d Q_1).mono ?_
      rintro e w5 ⟨rfl,hs5,hV5⟩
      have hrj5:=hrj4.but hV5 (by omega)
      have hrow5:=hrow4.but hV5 (by omega)
      have B_2:=B_1.but hV5 (by omega)
      have U_2:=U_1.trans hV5
      have E_2:=E_1.but hV5 (by omega)
      have lB_2:=B_2.lt
      have lE_2:=E_2.lt
      have s_2:=hV5.size
      go_wp2_with fail
      refine ((ihs g (by omega)).expr (nx (.ok () k2:Rs Unit) (ai I.M [44])) w5 R d hs5 hn2).mono ?_
      rintro e w7 ⟨us,rfl,sv,hex,hs7,hV7⟩
      obtain⟨b0,b1,b2,b3,b4,b5,b6,rfl⟩:=aP sv.len
      have hrj7:=hrj5.but hV7 (by omega)
      have hrow7:=hrow5.but hV7 (by omega)
      have hhas:=hrj5.has
      have B_3:=B_2.but hV7 (by omega)
      have U_3:=U_2.trans hV7
      have E_3:=E_2.but hV7 (by omega)
      have lB_3:=B_3.lt
      have lE_3:=E_3.lt
      have s_3:=hV7.size
      go_wp2_with (first
       |(refine af rfl 58 (.tmp 6) (.tmp 37) rfl w7.heap.size 0 [b0,b1,b2,b3,b4,b5,b6] rfl rfl (Bk.new w7 58 ez) (Nat.le_refl 7) Tryz.infoE sv.one ?_;intro w8 X_4 hoa4;have hba4:Below w7.heap.size w7 w8:=(ae w7 (.cells ez 58)).trans (hoa4.below (Nat.le_refl _));have B_4:=B_3.up hba4;have U_4:=U_3.then hba4;have E_4:=E_3.up hba4;have Q_4:=hs7.up hba4;have lB_4:=B_4.lt;have lE_4:=E_4.lt;have lX_4:=X_4.lt;have s_4:=hba4.size;have hrj8:=hrj7.up hba4;have hrow8:=hrow7.up hba4;have hex8:=fun x j e=>(hex x j e).up hba4;obtain⟨-,-,-,-,-,y5,-⟩:=Bk.seven (show Bk w8 gE _ [_,_,_,_,_,_,_] from E_4);obtain⟨v9,w9,r9,j9,B9,T9⟩:=gK hrj8 (by omega) sv (by omega);obtain⟨ao9,cc9,hv9⟩:=j9.val;subst hv9;have hE9:=E_4.low B9 (by omega);have y9:w9.cell? ⟨gE,5,none⟩=some (.slice ao n cc):=hE9.cell 5;have z9:=hE9.frz 5;have R9:Hid (_=_):=r9;clear r9)
       |refine ah rfl 58 (.tmp 6) rfl w7.heap.size 0 rfl [b0,b1,b2,b3,b4,b5,b6] _ (X_4.range 0 7) Tryz.underE Tryz.infoE ?_
       |(at_builtin;refine wpList_append_run rfl (.tmp 39) (.tmp 41) 56 rfl rfl _ _ rfl rfl _ _ (show _=_ from R9) ?_))
      have hB9:=B_4.low B9 (by omega)
      have hs9:=Q_4.low B9 (by omega) (by omega)
      have hU9:=U_4.low (B9.mono (by omega))
      have hoE:=(Oth.refl gE w9).set 5 (.slice ao9 (n+1) cc9)
      have hB10:=hB9.oth hoE (by omega)
      have hE10:Bk (w9.setCell ⟨gE,5,none⟩ (.slice ao9 (n+1) cc9)) gE 58 [.int .i64 7,.string (bs (I.M k).text),.string ⟨#[]⟩,.int .i64 0,.complex .f64 0 0,.slice ao9 (n+1) cc9,.int .i64 (I.M k).at_]:=hE9.set 5 _
      have hU10:=hoE.but hU9 (by omega)
      have hbE:But gE w9 (w9.setCell ⟨gE,5,none⟩ (.slice ao9 (n+1) cc9)):=⟨hoE.os,hoE.tape,hoE.output,by rw[hoE.size];omega,fun i _ hn=>hoE.block i hn⟩
      have hs10:=bL hs9 hbE (by omega) (by omega)
      have hrj10:Rj (w9.setCell ⟨gE,5,none⟩ (.slice ao9 (n+1) cc9)) (gE+1) (.slice ao9 (n+1) cc9) (n+1):=j9.keep fun b hb _=>hoE.block b (by omega)
      have hrow10:=fun x j e=>Row.keep2 (T9 xs x hrow8 hxl ((hex8 x j e).mono (by omega)) (fun nb hnb=>(hex8 x j e).imp fun nc hnc _=>by have:=(hhas nb hnb).2;omega)) (w':=(w9.setCell ⟨gE,5,none⟩ (.slice ao9 (n+1) cc9))) fun b hb _=>hoE.block b (by omega)
      have ms1:=aR hd
      cases hq2:nx (nx (.ok () k2:Rs Unit) (ai I.M [44])) (exprP I.M (lmOf I) g d) with
      |out=>exact absurd hq2 hn2
      |bad y j=>
       have HE:Hid (ra=.bad y j):=by show ra=_;rw[show ra=_ from HX,hq2];rfl
       rw[hq2] at hs10
       obtain⟨hy,kz,dz,hdz⟩:=hs10
       have ms2:=bI hy hdz
       try dsimp only[Act.put]
       go_roundw
       case rel=>exact⟨hB10,hU10,ao9,n+1,cc9,hE10,hrj10,.inr ⟨y,j,kz,dz,HE,hy,hdz⟩⟩
       case measure=>exact bf ms1 ms2 hkn
      |ok a k3=>
       have HE:Hid ((xs++[a]=[]∧ra=argsP I.M (lmOf I) g d k3)∨(xs++[a]≠[]∧ra=argsL I.M (lmOf I) g d (xs++[a]) k3)):=.inr ⟨by simp,by rw[show ra=_ from HX,hq2];rfl⟩
       rw[hq2] at hs10
       have hdz:Rq I (w9.setCell ⟨gE,5,none⟩ (.slice ao9 (n+1) cc9)) R k3 0 0 d:=hs10
       have hge:k2+1≤k3:=hgg a k3 hq2
       have ms2:=aR hdz
       try dsimp only[Act.put]
       go_roundw
       case rel=>exact⟨hB10,hU10,ao9,n+1,cc9,hE10,hrj10,.inl ⟨g,k3,xs++[a],HE,by omega,hdz,by rw[List.length_append,hxl];rfl,by omega,hrow10 a k3 hq2⟩⟩
       case measure=>exact aZ ms1 ms2 hkn hge
   ·have HF:r=.bad y j:=show r=_ from bH HR (show ra=_ from HD)
    obtain⟨-,-,c2,-⟩:=hd.nine
    have b0:(y==0)=false:=by rw[beq_eq_false_iff_ne];exact hy
    go_wp2_with fail
    refine (aA I hE [41] hW41 (.bad y j:Rs Unit) wr R d ⟨hy,k2,d',hd⟩).mono ?_
    rintro e w5 ⟨rfl,hs5,hV5⟩
    have B_1:=hB.but hV5 (by omega)
    have U_1:=hU.trans hV5
    have E_1:=hE0.but hV5 (by omega)
    have lB_1:=B_1.lt
    have lE_1:=E_1.lt
    have s_1:=hV5.size
    subst HF
    go_wp2_with (first
     |refine ah rfl 58 (.tmp 5) rfl gE 0 rfl [.int .i64 7,.string (bs (I.M k).text),.string ⟨#[]⟩,.int .i64 0,.complex .f64 0 0,.slice ao n cc,.int .i64 (I.M k).at_] _ (E_1.range 0 7) Tryz.underE Tryz.infoE ?_
     |(refine af rfl 58 (.tmp 4) (.tmp 46) rfl (w.heap.size+1) 0 [.int .i64 7,.string (bs (I.M k).text),.string ⟨#[]⟩,.int .i64 0,.complex .f64 0 0,.slice ao n cc,.int .i64 (I.M k).at_] rfl rfl B_1 (Nat.le_refl 7) Tryz.infoE (show Sv [.int .i64 7,.string (bs (I.M k).text),.string ⟨#[]⟩,.int .i64 0,.complex .f64 0 0,.slice ao n cc,.int .i64 (I.M k).at_] from bR 7 0 0 0 (bs (I.M k).text) ⟨#[]⟩ (.slice ao n cc) rfl _).one ?_;intro wz B_2 ho1;have U_2:=ho1.but U_1 (by omega);have E_2:=E_1.oth ho1 (by omega);have Q_2:=hs5.oth ho1 (by omega) (by omega);have lE_2:=E_2.lt;have lB_2:=B_2.lt;obtain⟨q0,q1,q2,q3,q4,q5,q6⟩:=Bk.seven (show Bk wz (w.heap.size+1) _ [_,_,_,_,_,_,_] from B_2)))
    refine bodyPost_ret (v:=.agg #[.int .i64 7,.string (bs (I.M k).text),.string ⟨#[]⟩,.int .i64 0,.complex .f64 0 0,.slice ao n cc,.int .i64 (I.M k).at_]) (by simp[results,Tryz.results134,go_sem,q0,q1,q2,q3,q4,q5,q6]) rfl ⟨_,rfl,(show Sv [.int .i64 7,.string (bs (I.M k).text),.string ⟨#[]⟩,.int .i64 0,.complex .f64 0 0,.slice ao n cc,.int .i64 (I.M k).at_] from bR 7 0 0 0 (bs (I.M k).text) ⟨#[]⟩ (.slice ao n cc) rfl _),(fun _ _ e=>by cases e),Q_2,U_2⟩
theorem rterm_dead (I:Rdi) (hsub:∀ (w:World) (R k j:Nat) (y:Int) (d:Nat) (d':Int),y≠0→Rq I w R k y (I.M j).at_ d'→Calls Tryz.prog 133 #[.pointer (some ⟨R,0,none⟩)] w (RA I R d w (.bad y j))):∀ (w:World) (R k j:Nat) (y:Int) (d:Nat) (d':Int),y≠0→Rq I w R k y (I.M j).at_ d'→Calls Tryz.prog 132 #[.pointer (some ⟨R,0,none⟩)] w (RA I R d w (.bad y j)):=by
 intro w R k j y d d' hy h
 have hlt:=h.lt
 have hcx:=aG
 have Q_1:=h.up (ae w (.cells ez 58))
 have U_1:=(But.refl R w).then (ae w (.cells ez 58))
 have B_1:=Bk.new w 58 ez
 have c1:=hsub _ R k j y d d' hy Q_1
 go_enter Tryz.func132,Tryz.ntmps132
 go_wp2_with fail
 refine c1.mono ?_
 rintro e w1 ⟨vs,rfl,sv,_,hs,hV⟩
 obtain⟨a0,a1,a2,a3,a4,a5,a6,rfl⟩:=aP sv.len
 obtain⟨hy2,k2,d2,hd⟩:=hs
 have U_2:=U_1.trans hV
 have B_2:=B_1.but hV (by omega)
 have lB_2:=B_2.lt
 have s_2:=hV.size
 clear c1
 go_wp2_with (first
  |(refine af rfl 58 (.tmp 3) (.tmp 8) rfl w1.heap.size 0 [a0,a1,a2,a3,a4,a5,a6] rfl rfl (Bk.new w1 58 ez) (Nat.le_refl 7) Tryz.infoE sv.one ?_;intro w2 A_3 hoa3;have hba3:Below w1.heap.size w1 w2:=(ae w1 (.cells ez 58)).trans (hoa3.below (Nat.le_refl _));have U_3:=U_2.then hba3;have B_3:=B_2.up hba3;have Q_3:=hd.up hba3;have lB_3:=B_3.lt;have lA_3:=A_3.lt;have s_3:=hba3.size))
 try dsimp only[Act.put]
 refine wp_loop_rounds 1 ?_
 rw[rounds_succ]
 go_wp2_with fail
 refine (aM I [42] w2 R k2 y _ d2 hy2 Q_3).mono ?_
 rintro e w3 ⟨rfl,hbw3⟩
 have U_4:=U_3.then hbw3
 have B_4:=B_3.up hbw3
 have Q_4:=Q_3.up hbw3
 have A_4:=A_3.up hbw3
 have lB_4:=B_4.lt
 have lA_4:=A_4.lt
 have s_4:=hbw3.size
 go_wp2_with fail
 refine (aM I [47] w3 R k2 y _ d2 hy2 Q_4).mono ?_
 rintro e w4 ⟨rfl,hbw4⟩
 have U_5:=U_4.then hbw4
 have B_5:=B_4.up hbw4
 have Q_5:=Q_4.up hbw4
 have A_5:=A_4.up hbw4
 have lB_5:=B_5.lt
 have lA_5:=A_5.lt
 have s_5:=hbw4.size
 go_wp2_with (first
  |refine ah rfl 58 (.tmp 3) rfl w1.heap.size 0 rfl [a0,a1,a2,a3,a4,a5,a6] _ (A_5.range 0 7) Tryz.underE Tryz.infoE ?_
  |(refine af rfl 58 (.tmp 2) (.tmp 34) rfl w.heap.size 0 [a0,a1,a2,a3,a4,a5,a6] rfl rfl B_5 (Nat.le_refl 7) Tryz.infoE sv.one ?_;intro wz B_6 ho5;have U_6:=ho5.but U_5 (by omega);have Q_6:=Q_5.oth ho5 (by omega) (by omega);have A_6:=A_5.oth ho5 (by omega);have lA_6:=A_6.lt;have lB_6:=B_6.lt;obtain⟨q0,q1,q2,q3,q4,q5,q6⟩:=Bk.seven (show Bk wz w.heap.size _ [_,_,_,_,_,_,_] from B_6)))
 refine bodyPost_ret (v:=.agg #[a0,a1,a2,a3,a4,a5,a6]) (by simp[results,Tryz.results132,go_sem,q0,q1,q2,q3,q4,q5,q6]) rfl ⟨_,rfl,sv,(fun _ _ e=>by cases e),⟨hy2,k2,d2,Q_6⟩,U_6⟩
theorem rsum_dead (I:Rdi) (hsub:∀ (w:World) (R k j:Nat) (y:Int) (d:Nat) (d':Int),y≠0→Rq I w R k y (I.M j).at_ d'→Calls Tryz.prog 132 #[.pointer (some ⟨R,0,none⟩)] w (RA I R d w (.bad y j))):∀ (w:World) (R k j:Nat) (y:Int) (d:Nat) (d':Int),y≠0→Rq I w R k y (I.M j).at_ d'→Calls Tryz.prog 130 #[.pointer (some ⟨R,0,none⟩)] w (RA I R d w (.bad y j)):=by
 intro w R k j y d d' hy h
 have hlt:=h.lt
 have hcx:=aG
 have Q_1:=h.up (ae w (.cells ez 58))
 have U_1:=(But.refl R w).then (ae w (.cells ez 58))
 have B_1:=Bk.new w 58 ez
 have c1:=hsub _ R k j y d d' hy Q_1
 go_enter Tryz.func130,Tryz.ntmps130
 go_wp2_with fail
 refine c1.mono ?_
 rintro e w1 ⟨vs,rfl,sv,_,hs,hV⟩
 obtain⟨a0,a1,a2,a3,a4,a5,a6,rfl⟩:=aP sv.len
 obtain⟨hy2,k2,d2,hd⟩:=hs
 have U_2:=U_1.trans hV
 have B_2:=B_1.but hV (by omega)
 have lB_2:=B_2.lt
 have s_2:=hV.size
 clear c1
 go_wp2_with (first
  |(refine af rfl 58 (.tmp 3) (.tmp 8) rfl w1.heap.size 0 [a0,a1,a2,a3,a4,a5,a6] rfl rfl (Bk.new w1 58 ez) (Nat.le_refl 7) Tryz.infoE sv.one ?_;intro w2 A_3 hoa3;have hba3:Below w1.heap.size w1 w2:=(ae w1 (.cells ez 58)).trans (hoa3.below (Nat.le_refl _));have U_3:=U_2.then hba3;have B_3:=B_2.up hba3;have Q_3:=hd.up hba3;have lB_3:=B_3.lt;have lA_3:=A_3.lt;have s_3:=hba3.size))
 try dsimp only[Act.put]
 refine wp_loop_rounds 1 ?_
 rw[rounds_succ]
 go_wp2_with fail
 refine (aM I [43] w2 R k2 y _ d2 hy2 Q_3).mono ?_
 rintro e w3 ⟨rfl,hbw3⟩
 have U_4:=U_3.then hbw3
 have B_4:=B_3.up hbw3
 have Q_4:=Q_3.up hbw3
 have A_4:=A_3.up hbw3
 have lB_4:=B_4.lt
 have lA_4:=A_4.lt
 have s_4:=hbw3.size
 go_wp2_with fail
 refine (aM I [45] w3 R k2 y _ d2 hy2 Q_4).mono ?_
 rintro e w4 ⟨rfl,hbw4⟩
 have U_5:=U_4.then hbw4
 have B_5:=B_4.up hbw4
 have Q_5:=Q_4.up hbw4
 have A_5:=A_4.up hbw4
 have lB_5:=B_5.lt
 have lA_5:=A_5.lt
 have s_5:=hbw4.size
 go_wp2_with (first
  |refine ah rfl 58 (.tmp 3) rfl w1.heap.size 0 rfl [a0,a1,a2,a3,a4,a5,a6] _ (A_5.range 0 7) Tryz.underE Tryz.infoE ?_
  |(refine af rfl 58 (.tmp 2) (.tmp 34) rfl w.heap.size 0 [a0,a1,a2,a3,a4,a5,a6] rfl rfl B_5 (Nat.le_refl 7) Tryz.infoE sv.one ?_;intro wz B_6 ho5;have U_6:=ho5.but U_5 (by omega);have Q_6:=Q_5.oth ho5 (by omega) (by omega);have A_6:=A_5.oth ho5 (by omega);have lA_6:=A_6.lt;have lB_6:=B_6.lt;obtain⟨q0,q1,q2,q3,q4,q5,q6⟩:=Bk.seven (show Bk wz w.heap.size _ [_,_,_,_,_,_,_] from B_6)))
 refine bodyPost_ret (v:=.agg #[a0,a1,a2,a3,a4,a5,a6]) (by simp[results,Tryz.results130,go_sem,q0,q1,q2,q3,q4,q5,q6]) rfl ⟨_,rfl,sv,(fun _ _ e=>by cases e),⟨hy2,k2,d2,Q_6⟩,U_6⟩
theorem rcomp_dead (I:Rdi) (hsub:∀ (w:World) (R k j:Nat) (y:Int) (d:Nat) (d':Int),y≠0→Rq I w R k y (I.M j).at_ d'→Calls Tryz.prog 130 #[.pointer (some ⟨R,0,none⟩)] w (RA I R d w (.bad y j))):∀ (w:World) (R k j:Nat) (y:Int) (d:Nat) (d':Int),y≠0→Rq I w R k y (I.M j).at_ d'→Calls Tryz.prog 122 #[.pointer (some ⟨R,0,none⟩)] w (RA I R d w (.bad y j)):=by
 intro w R k j y d d' hy h
 have hlt:=h.lt
 have hcx:=aG
 have Q_1:=h.up (ae w (.cells ez 58))
 have U_1:=(But.refl R w).then (ae w (.cells ez 58))
 have B_1:=Bk.new w 58 ez
 have c1:=hsub _ R k j y d d' hy Q_1
 go_enter Tryz.func122,Tryz.ntmps122
 go_wp2_with fail
 refine c1.mono ?_
 rintro e w1 ⟨vs,rfl,sv,_,hs,hV⟩
 obtain⟨a0,a1,a2,a3,a4,a5,a6,rfl⟩:=aP sv.len
 obtain⟨hy2,k2,d2,hd⟩:=hs
 have U_2:=U_1.trans hV
 have B_2:=B_1.but hV (by omega)
 have lB_2:=B_2.lt
 have s_2:=hV.size
 clear c1
 go_wp2_with (first
  |(refine af rfl 58 (.tmp 3) (.tmp 8) rfl w1.heap.size 0 [a0,a1,a2,a3,a4,a5,a6] rfl rfl (Bk.new w1 58 ez) (Nat.le_refl 7) Tryz.infoE sv.one ?_;intro w2 A_3 hoa3;have hba3:Below w1.heap.size w1 w2:=(ae w1 (.cells ez 58)).trans (hoa3.below (Nat.le_refl _));have U_3:=U_2.then hba3;have B_3:=B_2.up hba3;have Q_3:=hd.up hba3;have lB_3:=B_3.lt;have lA_3:=A_3.lt;have s_3:=hba3.size))
 refine (az I w2 R k2 y _ d2 Q_3).mono ?_
 rintro e w3 ⟨rfl,hb3⟩
 unfold mkV
 have U_4:=U_3.then hb3
 have B_4:=B_3.up hb3
 have Q_4:=Q_3.up hb3
 have A_4:=A_3.up hb3
 have lB_4:=B_4.lt
 have lA_4:=A_4.lt
 have s_4:=hb3.size
 go_wp2_with (first
  |(refine af rfl 135 (.tmp 4) (.tmp 10) rfl w3.heap.size 0 (mkC (I.M k2)) rfl rfl (Bk.new w3 135 mz) (Nat.le_refl 4) Tryz.infoM (aC _) ?_;intro w4 M_5 hoa5;have hba5:Below w3.heap.size w3 w4:=(ae w3 (.cells mz 135)).trans (hoa5.below (Nat.le_refl _));have U_5:=U_4.then hba5;have B_5:=B_4.up hba5;have Q_5:=Q_4.up hba5;have A_5:=A_4.up hba5;have lB_5:=B_5.lt;have lA_5:=A_5.lt;have lM_5:=M_5.lt;have s_5:=hba5.size))
 refine (aM I [60] w4 R k2 y _ d2 hy2 Q_5).mono ?_
 rintro e w5 ⟨rfl,hbw5⟩
 have U_6:=U_5.then hbw5
 have B_6:=B_5.up hbw5
 have Q_6:=Q_5.up hbw5
 have A_6:=A_5.up hbw5
 have M_6:=M_5.up hbw5
 have lB_6:=B_6.lt
 have lA_6:=A_6.lt
 have lM_6:=M_6.lt
 have s_6:=hbw5.size
 go_wp2_with fail
 refine (aT I [61,61] w5 R (aM I [61,61] w5 R k2 y _ d2 hy2 Q_6)).mono ?_
 rintro e w6 ⟨rfl,hbw6⟩
 have U_7:=U_6.then hbw6
 have B_7:=B_6.up hbw6
 have Q_7:=Q_6.up hbw6
 have A_7:=A_6.up hbw6
 have M_7:=M_6.up hbw6
 have lB_7:=B_7.lt
 have lA_7:=A_7.lt
 have lM_7:=M_7.lt
 have s_7:=hbw6.size
 go_wp2_with fail
 refine (aT I [60] w6 R (aM I [60] w6 R k2 y _ d2 hy2 Q_7)).mono ?_
 rintro e w7 ⟨rfl,hbw7⟩
 have U_8:=U_7.then hbw7
 have B_8:=B_7.up hbw7
 have Q_8:=Q_7.up hbw7
 have A_8:=A_7.up hbw7
 have M_8:=M_7.up hbw7
 have lB_8:=B_8.lt
 have lA_8:=A_8.lt
 have lM_8:=M_8.lt
 have s_8:=hbw7.size
 go_wp2_with (first
  |refine ah rfl 58 (.tmp 3) rfl w1.heap.size 0 rfl [a0,a1,a2,a3,a4,a5,a6] _ (A_8.range 0 7) Tryz.underE Tryz.infoE ?_
  |(refine af rfl 58 (.tmp 2) (.tmp 21) rfl w.heap.size 0 [a0,a1,a2,a3,a4,a5,a6] rfl rfl B_8 (Nat.le_refl 7) Tryz.infoE sv.one ?_;intro wz B_9 ho8;have U_9:=ho8.but U_8 (by omega);have Q_9:=Q_8.oth ho8 (by omega) (by omega);have A_9:=A_8.oth ho8 (by omega);have M_9:=M_8.oth ho8 (by omega);have lA_9:=A_9.lt;have lM_9:=M_9.lt;have lB_9:=B_9.lt;obtain⟨q0,q1,q2,q3,q4,q5,q6⟩:=Bk.seven (show Bk wz w.heap.size _ [_,_,_,_,_,_,_] from B_9)))
 refine bodyPost_ret (v:=.agg #[a0,a1,a2,a3,a4,a5,a6]) (by simp[results,Tryz.results122,go_sem,q0,q1,q2,q3,q4,q5,q6]) rfl ⟨_,rfl,sv,(fun _ _ e=>by cases e),⟨hy2,k2,d2,Q_9⟩,U_9⟩
theorem rcons_dead (I:Rdi) (hsub:∀ (w:World) (R k j:Nat) (y:Int) (d:Nat) (d':Int),y≠0→Rq I w R k y (I.M j).at_ d'→Calls Tryz.prog 122 #[.pointer (some ⟨R,0,none⟩)] w (RA I R d w (.bad y j))):∀ (w:World) (R k j:Nat) (y:Int) (d:Nat) (d':Int),y≠0→Rq I w R k y (I.M j).at_ d'→Calls Tryz.prog 107 #[.pointer (some ⟨R,0,none⟩)] w (RA I R d w (.bad y j)):=by
 intro w R k j y d d' hy h
 have hlt:=h.lt
 have hcx:=aG
 have Q_1:=h.up (ae w (.cells ez 58))
 have U_1:=(But.refl R w).then (ae w (.cells ez 58))
 have B_1:=Bk.new w 58 ez
 have c1:=hsub _ R k j y d d' hy Q_1
 go_enter Tryz.func107,Tryz.ntmps107
 go_wp2_with fail
 refine c1.mono ?_
 rintro e w1 ⟨vs,rfl,sv,_,hs,hV⟩
 obtain⟨a0,a1,a2,a3,a4,a5,a6,rfl⟩:=aP sv.len
 obtain⟨hy2,k2,d2,hd⟩:=hs
 have U_2:=U_1.trans hV
 have B_2:=B_1.but hV (by omega)
 have lB_2:=B_2.lt
 have s_2:=hV.size
 clear c1
 go_wp2_with (first
  |(refine af rfl 58 (.tmp 3) (.tmp 7) rfl w1.heap.size 0 [a0,a1,a2,a3,a4,a5,a6] rfl rfl (Bk.new w1 58 ez) (Nat.le_refl 7) Tryz.infoE sv.one ?_;intro w2 A_3 hoa3;have hba3:Below w1.heap.size w1 w2:=(ae w1 (.cells ez 58)).trans (hoa3.below (Nat.le_refl _));have U_3:=U_2.then hba3;have B_3:=B_2.up hba3;have Q_3:=hd.up hba3;have lB_3:=B_3.lt;have lA_3:=A_3.lt;have s_3:=hba3.size))
 refine (az I w2 R k2 y _ d2 Q_3).mono ?_
 rintro e w3 ⟨rfl,hb3⟩
 unfold mkV
 have U_4:=U_3.then hb3
 have B_4:=B_3.up hb3
 have Q_4:=Q_3.up hb3
 have A_4:=A_3.up hb3
 have lB_4:=B_4.lt
 have lA_4:=A_4.lt
 have s_4:=hb3.size
 go_wp2_with (first
  |(refine af rfl 135 (.tmp 4) (.tmp 9) rfl w3.heap.size 0 (mkC (I.M k2)) rfl rfl (Bk.new w3 135 mz) (Nat.le_refl 4) Tryz.infoM (aC _) ?_;intro w4 M_5 hoa5;have hba5:Below w3.heap.size w3 w4:=(ae w3 (.cells mz 135)).trans (hoa5.below (Nat.le_refl _));have U_5:=U_4.then hba5;have B_5:=B_4.up hba5;have Q_5:=Q_4.up hba5;have A_5:=A_4.up hba5;have lB_5:=B_5.lt;have lA_5:=A_5.lt;have lM_5:=M_5.lt;have s_5:=hba5.size))
 refine (aT I [58] w4 R (aM I [58] w4 R k2 y _ d2 hy2 Q_5)).mono ?_
 rintro e w5 ⟨rfl,hbw5⟩
 have U_6:=U_5.then hbw5
 have B_6:=B_5.up hbw5
 have Q_6:=Q_5.up hbw5
 have A_6:=A_5.up hbw5
 have M_6:=M_5.up hbw5
 have lB_6:=B_6.lt
 have lA_6:=A_6.lt
 have lM_6:=M_6.lt
 have s_6:=hbw5.size
 go_wp2_with (first
  |refine ah rfl 58 (.tmp 3) rfl w1.heap.size 0 rfl [a0,a1,a2,a3,a4,a5,a6] _ (A_6.range 0 7) Tryz.underE Tryz.infoE ?_
  |(refine af rfl 58 (.tmp 2) (.tmp 13) rfl w.heap.size 0 [a0,a1,a2,a3,a4,a5,a6] rfl rfl B_6 (Nat.le_refl 7) Tryz.infoE sv.one ?_;intro wz B_7 ho6;have U_7:=ho6.but U_6 (by omega);have Q_7:=Q_6.oth ho6 (by omega) (by omega);have A_7:=A_6.oth ho6 (by omega);have M_7:=M_6.oth ho6 (by omega);have lA_7:=A_7.lt;have lM_7:=M_7.lt;have lB_7:=B_7.lt;obtain⟨q0,q1,q2,q3,q4,q5,q6⟩:=Bk.seven (show Bk wz w.heap.size _ [_,_,_,_,_,_,_] from B_7)))
 refine bodyPost_ret (v:=.agg #[a0,a1,a2,a3,a4,a5,a6]) (by simp[results,Tryz.results107,go_sem,q0,q1,q2,q3,q4,q5,q6]) rfl ⟨_,rfl,sv,(fun _ _ e=>by cases e),⟨hy2,k2,d2,Q_7⟩,U_7⟩
theorem allR (I:Rdi) (hE:Ends I.M I.n) (hW:∀ s∈lks,Wm I.M s) (hK:Kw I.M) (hln:I.ln≤9223372036854775807):∀ f,AllR I f:=by
 have hu:∀ (w:World) (R k j:Nat) (y:Int) (d:Nat) (d':Int),y≠0→Rq I w R k y (I.M j).at_ d'→Calls Tryz.prog 133 #[.pointer (some ⟨R,0,none⟩)] w (RA I R d w (.bad y j)):=fun w R k j y d d' hy h=>iA I hE hW hK w R k j y hy d d' h
 have he:∀ (w:World) (R k j:Nat) (y:Int) (d:Nat) (d':Int),y≠0→Rq I w R k y (I.M j).at_ d'→Calls Tryz.prog 92 #[.pointer (some ⟨R,0,none⟩)] w (RA I R d w (.bad y j)):=fun w R k j y d d' hy h=>iB I hE hW w R k j y hy d d' h
 have ht:=rterm_dead I hu
 have hs:=rsum_dead I ht
 have hc:=rcomp_dead I hs
 have hn:=rcons_dead I hc
 have h0:AllR I 0:=by
  constructor
  ·intro α q w R d h hne
   cases q with
   |out=>exact h.elim
   |ok a k=>exact absurd (by rw[ax,exprP]) hne
   |bad y j=>
    obtain⟨hy,k,d',h⟩:=h
    exact he w R k j y d d' hy h
  ·intro α q w R d h hne
   cases q with
   |out=>exact h.elim
   |ok a k=>exact absurd (by rw[ax,consP]) hne
   |bad y j=>
    obtain⟨hy,k,d',h⟩:=h
    exact hn w R k j y d d' hy h
  ·intro α q w R d h hne
   cases q with
   |out=>exact h.elim
   |ok a k=>exact absurd (by rw[ax,compP]) hne
   |bad y j=>
    obtain⟨hy,k,d',h⟩:=h
    exact hc w R k j y d d' hy h
  ·intro α q w R d h hne
   cases q with
   |out=>exact h.elim
   |ok a k=>exact absurd (by rw[ax,sumP]) hne
   |bad y j=>
    obtain⟨hy,k,d',h⟩:=h
    exact hs w R k j y d d' hy h
  ·intro α q w R d h hne
   cases q with
   |out=>exact h.elim
   |ok a k=>exact absurd (by rw[ax,termP]) hne
   |bad y j=>
    obtain⟨hy,k,d',h⟩:=h
    exact ht w R k j y d d' hy h
  ·intro α q w R d h hne
   cases q with
   |out=>exact h.elim
   |ok a k=>exact absurd (by rw[ax,unitP]) hne
   |bad y j=>
    obtain⟨hy,k,d',h⟩:=h
    exact hu w R k j y d d' hy h
  ·intro w R k d h hne
   exact absurd (by rw[namedP]) hne
 have hstep:∀ f,(∀ g,g≤f→AllR I g)→AllR I (f+1):=fun f ihs=>
  ⟨fun q w R d h hne=>rexpr_step I hE hW hln f ihs q w R d h hne,fun q w R d h hne=>rcons_step I hE hW f ihs q w R d h hne,fun q w R d h hne=>rcomp_step I hE hW f ihs q w R d h hne,
  fun q w R d h hne=>rsum_step I hE hW f ihs q w R d h hne,fun q w R d h hne=>rterm_step I hE hW f ihs q w R d h hne,fun q w R d h hne=>runit_step I hE hW hK f ihs q w R d h hne,
  fun w R k d h hne=>rnamed_step I hE hW f ihs w R k d h hne⟩
 have hall:∀ f,∀ g,g≤f→AllR I g:=by
  intro f
  induction f with
  |zero=>intro g hg;rw[Nat.le_zero.1 hg];exact h0
  |succ f ih=>
   intro g hg
   rcases Nat.lt_or_ge g (f+1) with hx|hx
   ·exact ih g (by omega)
   ·rw[show g=f+1 by omega]
    exact hstep f ih
 exact fun f=>hall f f (Nat.le_refl _)
structure Se (vs:List Value):Prop where
 len:vs.length=11
 one:∀ v∈vs,v.oneCell'=true
def Fj (w:World) (B:Nat) (v:Value) (n:Nat):Prop:=∃ cs,w.ownsRow B 60 11 v n cs
theorem Fj.nil (w:World) (B:Nat):Fj w B (.slice none 0 0) 0:=⟨[],rfl,.inl ⟨rfl,rfl⟩⟩
theorem FRow.nil (w:World) (B:Nat):FRow w B (.slice none 0 0) []:=⟨[],⟨rfl,.inl ⟨rfl,rfl⟩⟩,.nil⟩
theorem Fj.keep {w w':World} {B:Nat} {v:Value} {n:Nat} (h:Fj w B v n) (hk:∀ b,B≤b→b<w.heap.size→w'.heap[b]?=w.heap[b]?):Fj w' B v n:=by
 obtain⟨cs,h1⟩:=h
 exact⟨cs,bu h1 fun b hb=>hk b (aN h1 b hb).1 (aN h1 b hb).2⟩
theorem Fj.up {w w':World} {B:Nat} {v:Value} {n:Nat} (h:Fj w B v n) (hb:Below w.heap.size w w'):Fj w' B v n:=h.keep fun b _ hl=>hb.block b hl
theorem Fj.but {w w':World} {B R:Nat} {v:Value} {n:Nat} (h:Fj w B v n) (hU:But R w w') (hR:R<B):Fj w' B v n:=h.keep fun b hb hl=>hU.block b hl (by omega)
theorem Fj.val {w:World} {B:Nat} {v:Value} {n:Nat} (h:Fj w B v n):∃ ao c,v=.slice ao n c:=by
 obtain⟨cs,h1⟩:=h
 rcases h1.2 with⟨rfl,h0⟩|⟨g,cap,cur,rfl,_⟩
 ·exact⟨none,0,by rw[h0]⟩
 ·exact⟨_,_,rfl⟩
theorem Fj.has {w:World} {B:Nat} {v:Value} {n:Nat} (h:Fj w B v n):∀ k,v.ownBlock=some k→B≤k∧k<w.heap.size:=by
 obtain⟨cs,h1⟩:=h
 exact aN h1
theorem oZ {w:World} {B:Nat} {v:Value} {n:Nat} {x0 x1 x2 x3 x4 x5 x6 x7 x8 x9 x10:Value} (h:Fj w B v n) (hB:B≤w.heap.size) (sv:Se [x0,x1,x2,x3,x4,x5,x6,x7,x8,x9,x10]) (hn:n≤10000000) :
  ∃ v' w',(Builtin.append_ #[24,24] 24 #[v,.slice (some ⟨w.heap.size,0,none⟩) 1 1]).run Tryz.prog (w.alloc (.cells #[x0,x1,x2,x3,x4,x5,x6,x7,x8,x9,x10] 60))=.ok v' w'∧Fj w' B v' (n+1)∧Below B w w' ∧
   ∀ (xs:List Fn1) (x:Fn1),FRow w B v xs→xs.length=n→FnW w (fun c=>B≤c∧v.ownBlock≠some c) x [x0,x1,x2,x3,x4,x5,x6,x7,x8,x9,x10]→FRow w' B v' (xs++[x]):=by
 obtain⟨i0,hi,hz0,hz1,hz2⟩:=info_parts Tryz.infoFs
 have hbA:=ae w (.cells #[x0,x1,x2,x3,x4,x5,x6,x7,x8,x9,x10] 60)
 have h2:=h.up hbA
 have hhas:=h2.has
 obtain⟨cs,ho⟩:=h2
 have hk:=Bk.new w 60 #[x0,x1,x2,x3,x4,x5,x6,x7,x8,x9,x10]
 have hnews:∀ j u,[x0,x1,x2,x3,x4,x5,x6,x7,x8,x9,x10][j]?=some u→(w.alloc (.cells #[x0,x1,x2,x3,x4,x5,x6,x7,x8,x9,x10] 60)).cell? ((⟨w.heap.size,0,none⟩:Addr).add j)=some u:=by
  intro j u hj
  rw[Addr.add_mid,Nat.zero_add,hk.cell]
  exact hj
 have hBs:B≤(w.alloc (.cells #[x0,x1,x2,x3,x4,x5,x6,x7,x8,x9,x10] 60)).heap.size:=by simp;omega
 obtain⟨v',w',hr,ho',hgr,_⟩:=dD Tryz.underFs hi hz0 hz1 hz2 rfl (by decide) ho ⟨w.heap.size,0,none⟩ [x0,x1,x2,x3,x4,x5,x6,x7,x8,x9,x10] rfl hnews sv.one hn (by omega) hBs
 refine⟨v',w',hr,⟨_,ho'⟩,(hbA.mono hB).trans ((Below.refl B _).grown hgr hBs fun k hk=>(hhas k hk).1),fun xs x hrow hl hx=>?_⟩
 obtain⟨v2,w2,hr2,hrow2,_⟩:=hrow.app hB hx (by omega)
 rw[hr] at hr2
 cases hr2
 exact hrow2
def DA (I:Rdi) (R z:Nat) (w:World) (r:Rs Fn1) (e:Ending) (w':World):Prop:=
 ∃ vs:List Value,e=.returned (.agg vs.toArray)∧Se vs∧(∀ x j,r=.ok x j→FnW w' (fun b=>w.heap.size≤b) x vs)∧St I w' R z r∧But R w w'
theorem pW (nm:ByteArray) (ao:Option Addr) (n c:Nat) (t a:Int) {b0 b1 b2 b3 b4 b5 b6:Value} (h:Sv [b0,b1,b2,b3,b4,b5,b6]):Se [.string nm,.slice ao n c,.int .i64 t,b0,b1,b2,b3,b4,b5,b6,.int .i64 a]:=by
 refine⟨rfl,fun v hv=>?_⟩
 have h1:=h.one
 simp only[List.mem_cons,List.not_mem_nil,or_false,forall_eq_or_imp,forall_eq] at h1
 obtain⟨q0,q1,q2,q3,q4,q5,q6⟩:=h1
 simp only[List.mem_cons,List.not_mem_nil,or_false] at hv
 rcases hv with rfl|rfl|rfl|rfl|rfl|rfl|rfl|rfl|rfl|rfl|rfl<;>first|rfl|assumption
theorem pO (nm:ByteArray) (ao:Option Addr) (n c:Nat) (t a:Int):∀ v∈[Value.string nm,.slice ao n c,.int .i64 t,.int .i64 0,.string ⟨#[]⟩,.string ⟨#[]⟩,.int .i64 0,.complex .f64 0 0,.slice none 0 0,.int .i64 0,.int .i64 a],v.oneCell'=true:=by
 intro v hv
 simp only[List.mem_cons,List.not_mem_nil,or_false] at hv
 rcases hv with rfl|rfl|rfl|rfl|rfl|rfl|rfl|rfl|rfl|rfl|rfl<;>rfl
def PrW (w:World) (B:Nat) (ao:Option Addr) (c:Nat) (ps:List Pm):Prop:=w.ownsRow B 125 3 (.slice ao ps.length c) ps.length (pmsC ps)
theorem PrW.nil (w:World) (B:Nat):PrW w B none 0 []:=⟨rfl,.inl ⟨rfl,rfl⟩⟩
theorem PrW.up {w w':World} {B c:Nat} {ao:Option Addr} {ps:List Pm} (h:PrW w B ao c ps) (hb:Below w.heap.size w w'):PrW w' B ao c ps:=prow_up h hb
theorem PrW.but {w w':World} {B R c:Nat} {ao:Option Addr} {ps:List Pm} (h:PrW w B ao c ps) (hU:But R w w') (hR:R<B):PrW w' B ao c ps:=prow_but h hU hR
theorem PrW.oth {w w':World} {B g c:Nat} {ao:Option Addr} {ps:List Pm} (h:PrW w B ao c ps) (hU:Oth g w w') (hR:g<B∨w.heap.size≤g):PrW w' B ao c ps:=bu h fun b hb=>hU.block b (by have:=aN h b hb;omega)
theorem PrW.read {w:World} {B c:Nat} {ao:Option Addr} {ps:List Pm} (h:PrW w B ao c ps):PlW w (fun b=>B≤b) ao ps:=by
 obtain⟨ao',c',e,h'⟩:=jW h
 cases e
 exact h'
theorem PrW.app {w:World} {B c:Nat} {ao:Option Addr} {ps:List Pm} (h:PrW w B ao c ps) (hB:B≤w.heap.size) (nm:List UInt8) (ty:Int) (pos:Nat) (hl:ps.length≤10000000) :
  ∃ ao' c' w',(Builtin.append_ #[52,52] 52 #[.slice ao ps.length c,.slice (some ⟨w.heap.size,0,none⟩) 1 1]).run Tryz.prog (w.alloc (.cells #[.string (bs nm),.int .i64 ty,.int .i64 pos] 125))=.ok (.slice ao' (ps.length+1) c') w'∧PrW w' B ao' c' (ps++[⟨nm,ty,pos⟩])∧Below B w w':=by
 obtain⟨v',w',hr,ho,hb⟩:=prow_app h hB ⟨nm,ty,pos⟩ hl
 obtain⟨ao',c',rfl,_⟩:=jW ho
 rw[List.length_append] at hr
 exact⟨ao',c',w',hr,ho,hb⟩
theorem jP (M:Nat→Mk) (L:Lm) (f num k:Nat) (rn:Rs Mk) (rp:Rs (List Pm)) (r3:Rs Int) (r5:Rs Ex) (r6:Rs Unit) (h1:rn=au M num L.f k) (h2:rp=nx rn (aV M L f)) (h3:r3=nx (nx rp (ai M [58])) (aK M)) (h5:r5=nx (nx r3 (ai M [61])) (exprP M L f 0)) (h6:r6=nx r5 (ai M [59])) :
  (∀ y j,r6=.bad y j→defP M L f num k=.bad y j)∧(rp=.out→defP M L f num k=.out)∧(r5=.out→defP M L f num k=.out) ∧
  (∀ u j,r6=.ok u j→∃ x k1 ps k2 t k4 b k6,rn=.ok x k1∧rp=.ok ps k2∧r3=.ok t k4∧r5=.ok b k6∧defP M L f num k=.ok ⟨x.text,ps,t,b,x.at_⟩ j):=by
 unfold defP
 rw[← h1]
 cases rn with
 |out=>subst h2;subst h3;subst h5;subst h6;simp[nx,Rs.bind]
 |bad y j=>subst h2;subst h3;subst h5;subst h6;simp[nx,Rs.bind]
 |ok x k1=>
  have h2':rp=aV M L f k1:=h2
  simp only[Rs.bind]
  rw[← h2']
  cases rp with
  |out=>subst h3;subst h5;subst h6;simp[nx,Rs.bind]
  |bad y j=>subst h3;subst h5;subst h6;simp[nx,Rs.bind]
  |ok ps k2=>
   have h3':r3=nx (ai M [58] k2) (aK M):=h3
   cases hm:ai M [58] k2 with
   |out=>rw[hm] at h3';subst h3';subst h5;subst h6;simp[nx,Rs.bind,hm]
   |bad y j=>rw[hm] at h3';subst h3';subst h5;subst h6;simp[nx,Rs.bind,hm]
   |ok u k3=>
    rw[hm] at h3'
    have h3':r3=aK M k3:=h3'
    simp only[hm]
    rw[← h3']
    cases r3 with
    |out=>subst h5;subst h6;simp[nx,Rs.bind]
    |bad y j=>subst h5;subst h6;simp[nx,Rs.bind]
    |ok t k4=>
     have h5':r5=nx (ai M [61] k4) (exprP M L f 0):=h5
     cases hm2:ai M [61] k4 with
     |out=>rw[hm2] at h5';subst h5';subst h6;simp[nx,Rs.bind,hm2]
     |bad y j=>rw[hm2] at h5';subst h5';subst h6;simp[nx,Rs.bind,hm2]
     |ok u k5=>
      rw[hm2] at h5'
      have h5':r5=exprP M L f 0 k5:=h5'
      simp only[hm2]
      rw[← h5']
      cases r5 with
      |out=>subst h6;simp[nx,Rs.bind]
      |bad y j=>subst h6;simp[nx,Rs.bind]
      |ok b k6=>
       have h6':r6=ai M [59] k6:=h6
       simp only
       rw[← h6']
       cases r6<;>simp
theorem dB {M:Nat→Mk} {L:Lm} {n:Nat} {s:Rs Unit} {m:Mk} {t t':Int} {k4:Nat} (hm:Got (nx s (au M n L.a)) m) (ht:Got (nx (nx s (au M n L.a)) (aK M)) t') (h:nx (nx s (au M n L.a)) (aK M)=.ok t k4):nx s (bg M L n)=.ok ⟨m.text,t',m.at_⟩ k4:=by
 have et:=ht _ _ h
 cases s with
 |out=>cases h
 |bad y j=>cases h
 |ok u k=>
  rw[ax] at *
  unfold bg
  cases hn:au M n L.a k with
  |out=>rw[hn] at h;cases h
  |bad y j=>rw[hn] at h;cases h
  |ok x k1=>
   rw[hn] at h
   have e:=hm x k1 hn
   subst e
   have h':aK M k1=.ok t k4:=h
   simp[Rs.bind,h',et]
theorem cO {M:Nat→Mk} {L:Lm} {n:Nat} {s:Rs Unit} {y:Int} {j:Nat} (h:nx (nx s (au M n L.a)) (aK M)=.bad y j):nx s (bg M L n)=.bad y j:=by
 cases s with
 |out=>cases h
 |bad y j=>cases h;rfl
 |ok u k=>
  rw[ax] at *
  unfold bg
  cases hn:au M n L.a k with
  |out=>rw[hn] at h;cases h
  |bad y j=>rw[hn] at h;cases h;rfl
  |ok x k1=>
   rw[hn] at h
   have h':aK M k1=.bad y j:=h
   simp[Rs.bind,h']
theorem cB {M:Nat→Mk} {L:Lm} {n:Nat} {s:Rs Unit} (hs:s≠.out):nx (nx s (au M n L.a)) (aK M)≠.out:=by
 cases s with
 |out=>exact absurd rfl hs
 |bad y j=>intro h;cases h
 |ok u k=>
  rw[ax]
  cases hn:au M n L.a k with
  |out=>exact absurd hn (nameOf_ne _ _ _ _)
  |bad y j=>intro h;cases h
  |ok x k1=>exact type_ne2 _ _
theorem dE {M:Nat→Mk} {L:Lm} {n:Nat} {s:Rs Unit} {k k4:Nat} {t:Int} (hs:∀ u j,s=.ok u j→k≤j) (h:nx (nx s (au M n L.a)) (aK M)=.ok t k4):k+1≤k4:=by
 cases s with
 |out=>cases h
 |bad y j=>cases h
 |ok u j=>
  have:=hs u j rfl
  rw[ax] at h
  cases hn:au M n L.a j with
  |out=>rw[hn] at h;cases h
  |bad y j=>rw[hn] at h;cases h
  |ok x k1=>
   rw[hn] at h
   have h':aK M k1=.ok t k4:=h
   have a1:k1=j+1:=by
    unfold au aJ at hn
    split at hn
    ·cases hn
    ·split at hn
     ·cases hn;rfl
     ·cases hn
   have a4:k1≤k4:=by have:=dJ M k1;rw[h'] at this;exact this
   omega
def Pg (M:Nat→Mk) (L:Lm) (f:Nat) (rp:Rs (List Pm)) (ps:List Pm) (k:Nat):Prop:=
 (ps=[]∧rp=if tk M [41] k then .ok [] (k+1) else (bg M L 0 k).bind fun a k3=>aS M L f [a] k3)∨(ps≠[]∧∃ g,rp=aS M L g ps k)
theorem pg_shut {M:Nat→Mk} {L:Lm} {f:Nat} {rp:Rs (List Pm)} {ps:List Pm} {k:Nat} (h:Pg M L f rp ps k) (ho:rp≠.out) (ht:tk M [41] k=true):rp=.ok ps (k+1):=by
 rcases h with⟨rfl,e⟩|⟨hn,g,e⟩
 ·rw[e,if_pos ht]
 ·cases g with
  |zero=>exact absurd e ho
  |succ g=>
   rw[e,aS]
   have t3:tk M [44] k=false:=by unfold tk at ht ⊢;rw[eq_of_beq ht];rfl
   rw[if_neg (by rw[t3];simp)]
   simp[ai,ht,Rs.bind]
theorem pg_first {M:Nat→Mk} {L:Lm} {f:Nat} {rp:Rs (List Pm)} {k:Nat} (h:Pg M L f rp [] k) (ht:tk M [41] k=false):rp=(nx (.ok () k:Rs Unit) (bg M L ([]:List Pm).length)).bind fun a k3=>aS M L f ([]++[a]) k3:=by
 rcases h with⟨_,e⟩|⟨hn,_⟩
 ·rw[e,if_neg (by rw[ht];simp)]
  rfl
 ·exact absurd rfl hn
theorem pg_more {M:Nat→Mk} {L:Lm} {f:Nat} {rp:Rs (List Pm)} {ps:List Pm} {k:Nat} (h:Pg M L f rp ps k) (hp:ps≠[]) (ho:rp≠.out) (ht:tk M [41] k=false):∃ g,rp=(nx (nx (.ok () k:Rs Unit) (ai M [44])) (bg M L ps.length)).bind fun a k3=>aS M L g (ps++[a]) k3:=by
 rcases h with⟨e,_⟩|⟨_,g,e⟩
 ·exact absurd e hp
 ·cases g with
  |zero=>exact absurd e ho
  |succ g=>
   refine⟨g,?_⟩
   rw[e,aS,ax]
   cases t3:tk M [44] k with
   |true=>simp only[ai,t3,if_true];rfl
   |false=>simp[ai,t3,ht,Rs.bind,nx]
theorem eD {M:Nat→Mk} {L:Lm} {f g:Nat} {rp:Rs (List Pm)} {ps:List Pm} {s:Rs Unit} {p:Pm} {k:Nat} (h:rp=(nx s (bg M L ps.length)).bind fun a k3=>aS M L g (ps++[a]) k3) (hp:nx s (bg M L ps.length)=.ok p k):Pg M L f rp (ps++[p]) k:=.inr ⟨by simp,g,by rw[h,hp];rfl⟩
theorem mD {M:Nat→Mk} {L:Lm} {f:Nat} {α:Type} {rn:Rs α} {rp:Rs (List Pm)} {u:Unit} {k:Nat} (h:rp=nx rn (aV M L f)) (h1:nx rn (ai M [40])=.ok u k):Pg M L f rp [] k:=by
 refine .inl ⟨rfl,?_⟩
 rw[h]
 cases rn with
 |out=>cases h1
 |bad y j=>cases h1
 |ok x k1=>
  have h1':ai M [40] k1=.ok u k:=h1
  rw[ax]
  unfold aV
  rw[h1']
  rfl
theorem mQ {M:Nat→Mk} {L:Lm} {f:Nat} {α:Type} {rn:Rs α} {rp:Rs (List Pm)} {y:Int} {j:Nat} (h:rp=nx rn (aV M L f)) (h1:nx rn (ai M [40])=.bad y j):rp=.bad y j:=by
 rw[h]
 cases rn with
 |out=>cases h1
 |bad y j=>cases h1;rfl
 |ok x k1=>
  have h1':ai M [40] k1=.bad y j:=h1
  rw[ax]
  unfold aV
  rw[h1']
  rfl
def LJ (I:Rdi) (f R z gF:Nat) (w:World) (m:Mk) (rp:Rs (List Pm)) (wr:World):Prop:=
 Bk wr w.heap.size 60 [.string ⟨#[]⟩,.slice none 0 0,.int .i64 0,.int .i64 0,.string ⟨#[]⟩,.string ⟨#[]⟩,.int .i64 0,.complex .f64 0 0,.slice none 0 0,.int .i64 0,.int .i64 0]∧But R w wr∧∃ (ao:Option Addr) (cc:Nat) (ps:List Pm),Bk wr gF 60 [.string (bs m.text),.slice ao ps.length cc,.int .i64 0,.int .i64 0,.string ⟨#[]⟩,.string ⟨#[]⟩,.int .i64 0,.complex .f64 0 0,.slice none 0 0,.int .i64 0,.int .i64 m.at_]∧PrW wr (gF+1) ao cc ps ∧
  ((∃ k:Nat,Hid (Pg I.M (lmOf I) f rp ps k)∧Rq I wr R k 0 0 z∧ps.length≤k)∨(∃ (y:Int) (j k:Nat) (d':Int),Hid (rp=.bad y j)∧y≠0∧Rq I wr R k y (I.M j).at_ d'))
structure OkMk (m:Mk):Prop where
 nm:m.kind=0→isWd m.text=false∧isLt (m.text.headD 0)=true
 wd:m.kind=1→isWd m.text=true
 nu:m.kind=2→isDg (m.text.headD 0)=true
 en:m.kind=4→m.text=[]
 kd:m.kind=0∨m.kind=1∨m.kind=2∨m.kind=3∨m.kind=4
section
variable (N:Num)
theorem runM_okM {l:List UInt8} {k:Nat} {m:Mk} (h:runM N l k=some m):OkMk m:=by
 unfold runM at h
 split at h
 ·rename_i hw
  cases h
  exact⟨fun e=>by simp at e,fun _=>hw,fun e=>by simp at e,fun e=>by simp at e,by simp⟩
 ·rename_i hw
  cases l with
  |nil=>cases h
  |cons c r=>
   dsimp only at h
   split at h
   ·rename_i hd
    split at h
    ·cases h
     exact⟨fun e=>by simp at e,fun e=>by simp at e,fun _=>hd,fun e=>by simp at e,by simp⟩
    ·cases h
   ·split at h
    ·rename_i hl
     cases h
     exact⟨fun _=>⟨by simpa using hw,hl⟩,fun e=>by simp at e,fun e=>by simp at e,fun e=>by simp at e,by simp⟩
    ·cases h
theorem stp_okM {l:List UInt8} {k:Nat} {m:Mk} (h:stp N l k=.mark m):OkMk m:=by
 unfold stp at h
 cases l with
 |nil=>cases h
 |cons c r=>
  dsimp only at h
  split at h
  ·cases h
  ·split at h
   ·cases h
   ·cases hm:oneM N (c::r) k with
    |none=>rw[hm] at h;cases h
    |some m'=>
     rw[hm] at h
     cases h
     unfold oneM at hm
     dsimp only at hm
     split at hm
     ·exact runM_okM N hm
     ·unfold mE at hm
      split at hm
      ·cases hm
      ·cases hm
       exact⟨fun e=>by simp at e,fun e=>by simp at e,fun e=>by simp at e,fun e=>by simp at e,by simp⟩
theorem end_okM (k:Nat):OkMk (endM k):=⟨fun e=>by simp[endM] at e,fun e=>by simp[endM] at e,fun e=>by simp[endM] at e,fun _=>rfl,by simp[endM]⟩
theorem cutF_okM:∀ f l k ms,cutF N f l k=.ok ms→∀ m∈ms,OkMk m:=by
 intro f
 induction f with
 |zero=>intro l k ms h;cases h
 |succ f ih=>
  intro l k ms h
  rw[cutF] at h
  cases hs:stp N l k with
  |stop=>
   rw[hs] at h
   cases h
   intro m hm
   obtain rfl:=List.mem_singleton.1 hm
   exact end_okM k
  |bad=>rw[hs] at h;cases h
  |skip n=>
   rw[hs] at h
   exact ih _ _ _ h
  |mark m0=>
   rw[hs] at h
   dsimp only at h
   cases hc:cutF N f (l.drop m0.text.length) (k+m0.text.length) with
   |bad j=>rw[hc] at h;cases h
   |ok ms'=>
    rw[hc] at h
    cases h
    intro m hm
    rcases List.mem_cons.1 hm with rfl|hm
    ·exact stp_okM N hs
    ·exact ih _ _ _ hc m hm
end
theorem oO {N:Num} {l:List UInt8} {k:Nat} {ms:List Mk} (h:cut N l k=.ok ms) (t:Nat):OkMk (mf ms t):=by
 rcases Nat.lt_or_ge t ms.length with hl|hl
 ·exact cutF_okM N _ _ _ _ h _ (List.mem_of_getElem? (oP hl))
 ·have e:mf ms t=⟨4,[],0,0,0⟩:=by
   unfold mf
   rw[List.getD_eq_getElem?_getD,List.getElem?_eq_none hl]
   rfl
  rw[e]
  exact⟨fun e=>by simp at e,fun e=>by simp at e,fun e=>by simp at e,fun _=>rfl,by simp⟩
theorem lks_shape:(lks.all fun s=>(isWd s||!isLt (s.headD 0))&&!isDg (s.headD 0)&&!s.isEmpty)=true:=by decide
theorem mf_wm {N:Num} {l:List UInt8} {k:Nat} {ms:List Mk} (h:cut N l k=.ok ms):∀ s∈lks,Wm (mf ms) s:=by
 intro s hs
 have hsh:=List.all_eq_true.1 lks_shape s hs
 simp only[Bool.and_eq_true,Bool.or_eq_true,Bool.not_eq_true'] at hsh
 obtain⟨⟨h1,h2⟩,h3⟩:=hsh
 refine⟨(by intro e;rw[e] at h3;cases h3),fun t ht=>?_⟩
 have hm:=oO h t
 unfold tk at ht
 have ht':=eq_of_beq ht
 rcases hm.kd with e|e|e|e|e
 ·obtain⟨a,b⟩:=hm.nm e
  rw[ht'] at a b
  rcases h1 with h1|h1
  ·rw[h1] at a;cases a
  ·rw[h1] at b;cases b
 ·exact .inl e
 ·have b:=hm.nu e
  rw[ht',h2] at b
  cases b
 ·exact .inr e
 ·have b:=hm.en e
  rw[ht'] at b
  rw[b] at h3
  cases h3
theorem mf_kw {N:Num} {l:List UInt8} {k:Nat} {ms:List Mk} (h:cut N l k=.ok ms):Kw (mf ms):=by
 intro t ht
 have hm:=(oO h t).wd ht
 cases e:tk (mf ms) [40] t with
 |false=>rfl
 |true=>
  unfold tk at e
  rw[eq_of_beq e] at hm
  exact absurd hm (by decide)
end Go.Proofs.YtimoappbefindaaGreat
