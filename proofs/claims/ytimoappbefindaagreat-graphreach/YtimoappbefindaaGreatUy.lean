/-
  2 texts in one: what each proves stands at its head.
-/
import Derived.Test.YtimoappbefindaaGreatUT
import Derived.Deep.RegionHeld3
namespace Go.Proofs.YtimoappbefindaaGreat
set_option maxHeartbeats 16000000
open Go.RowKit
set_option maxRecDepth 100000
theorem rdef_lim (I:Rdi) (hE:Ends I.M I.n) (hW:∀ s∈lks,Wm I.M s) (f:Nat) (hA:AllR I f) (num:Nat) (w:World) (R k z:Nat) (hz:z=0) (h:Rq I w R k 0 0 z) (hl:(I.M k).kind=0∧I.lf≤(num:Int)) (hne:defP I.M (lmOf I) f num k≠.out) :
  Calls Tryz.prog 68 #[.pointer (some ⟨R,0,none⟩),.int .i64 num] w (DA I R z w (defP I.M (lmOf I) f num k)):=by
 obtain⟨r,hr⟩:∃ r,r=defP I.M (lmOf I) f num k:=⟨_,rfl⟩
 rw[← hr] at hne ⊢
 have HR:Hid (r=_):=hr
 clear hr
 have hlt:=h.lt
 have hcx:=aG
 have hW3:∀ s∈[[78],[66],[76]],Wm I.M s:=fun s hs=>hW s (by simp only[List.mem_cons,List.not_mem_nil,or_false] at hs;rcases hs with rfl|rfl|rfl<;>simp[lks])
 have hW40:=hW [40] (by simp[lks])
 have hW41:=hW [41] (by simp[lks])
 have hW44:=hW [44] (by simp[lks])
 have hW58:=hW [58] (by simp[lks])
 have hW61:=hW [61] (by simp[lks])
 have hW59:=hW [59] (by simp[lks])
 have HZ:Hid (z=0):=hz
 clear hz
 obtain⟨rn,hrn⟩:∃ rn,rn=au I.M num (lmOf I).f k:=⟨_,rfl⟩
 obtain⟨rp,hrp⟩:∃ rp,rp=nx rn (aV I.M (lmOf I) f):=⟨_,rfl⟩
 obtain⟨r3,hr3⟩:∃ r3,r3=nx (nx rp (ai I.M [58])) (aK I.M):=⟨_,rfl⟩
 obtain⟨r5,hr5⟩:∃ r5,r5=nx (nx r3 (ai I.M [61])) (exprP I.M (lmOf I) f z):=⟨_,rfl⟩
 obtain⟨r6,hr6⟩:∃ r6,r6=nx r5 (ai I.M [59]):=⟨_,rfl⟩
 have HC:Hid _:=jP I.M (lmOf I) f num k rn rp r3 r5 r6 hrn hrp hr3 (by rw[hr5,show z=0 from HZ]) hr6
 have HN:Hid (rn=_):=hrn
 have HP:Hid (rp=_):=hrp
 have H3:Hid (r3=_):=hr3
 have H5:Hid (r5=_):=hr5
 have H6:Hid (r6=_):=hr6
 have hrpo:rp≠.out:=fun e=>hne (by rw[show r=_ from HR];exact (show _∧_ from HC).2.1 e)
 have hr5o:r5≠.out:=fun e=>hne (by rw[show r=_ from HR];exact (show _∧_ from HC).2.2.1 e)
 clear hrn hrp hr3 hr5 hr6
 have Q_1:=h.up (ae w (.cells fz 60))
 have U_1:=(But.refl R w).then (ae w (.cells fz 60))
 have hB0:Bk (w.alloc (.cells fz 60)) w.heap.size 60 [.string ⟨#[]⟩,.slice none 0 0,.int .i64 0,.int .i64 0,.string ⟨#[]⟩,.string ⟨#[]⟩,.int .i64 0,.complex .f64 0 0,.slice none 0 0,.int .i64 0,.int .i64 0]:=Bk.new w 60 fz
 have lB_1:=hB0.lt
 have hf:=fun W=>(fldM (I.M k) W).1
 obtain⟨-,-,c2,-,c5,-⟩:=Q_1.nine
 have b0:((I.M k).kind==0)=true:=by rw[hl.1];rfl
 have b1:decide (I.lf≤(num:Int))=true:=by rw[decide_eq_true_eq];exact hl.2
 have HL:Hid (rn=.bad 22 k):=by
  show rn=_
  rw[show rn=_ from HN,au]
  exact if_pos ⟨hl.2,hl.1⟩
 clear hl
 go_enter Tryz.func68,Tryz.ntmps68
 go_wp2_with fail
 refine (az I _ R k 0 0 z Q_1).mono ?_
 rintro e w1 ⟨rfl,hb1⟩
 have Q_2:=Q_1.up hb1
 have U_2:=U_1.then hb1
 have B_2:=hB0.up hb1
 have lB_2:=B_2.lt
 have s_2:=hb1.size
 unfold mkV
 obtain⟨-,-,d2,-,d5,-⟩:=Q_2.nine
 go_wp2_with fail
 refine (aY I w1 R k 22 z Q_2).mono ?_
 rintro e w2 ⟨rfl,hd2,hV2⟩
 have U_3:=U_2.trans hV2
 have B_3:=B_2.but hV2 (by omega)
 have lB_3:=B_3.lt
 have s_3:=hV2.size
 go_wp2_with fail
 refine (aW I hE (.bad 22 k:Rs Unit) w2 R z ⟨by decide,k,z,hd2⟩).mono ?_
 rintro e w3 ⟨m,rfl,hgm,hs3,hV3⟩
 have hgm:Got rn m:=fun x j e=>by rw[show rn=_ from HL] at e;cases e
 have hs3:St I w3 R z rn:=by rw[show rn=_ from HL];exact hs3
 have U_4:=U_3.trans hV3
 have B_4:=B_3.but hV3 (by omega)
 have lB_4:=B_4.lt
 have s_4:=hV3.size
 unfold mkV
 go_wp2_with (first
  |(refine af rfl 135 (.tmp 5) (.tmp 25) rfl w3.heap.size 0 (mkC m) rfl rfl (Bk.new w3 135 mz) (Nat.le_refl 4) Tryz.infoM (aC _) ?_;intro w4 M_5 hoa5;have hba5:Below w3.heap.size w3 w4:=(ae w3 (.cells mz 135)).trans (hoa5.below (Nat.le_refl _));have U_5:=U_4.then hba5;have B_5:=B_4.up hba5;have Q_5:=hs3.up hba5;have lB_5:=B_5.lt;have lM_5:=M_5.lt;have s_5:=hba5.size;obtain⟨m0,m1,m2,m3⟩:=Bk.four (show Bk w4 w3.heap.size _ [_,_,_,_] from M_5))
  |(refine af rfl 60 (.tmp 6) (.tmp 30) rfl w4.heap.size 0 [.string (bs m.text),.slice none 0 0,.int .i64 0,.int .i64 0,.string ⟨#[]⟩,.string ⟨#[]⟩,.int .i64 0,.complex .f64 0 0,.slice none 0 0,.int .i64 0,.int .i64 m.at_] rfl rfl (Bk.new w4 60 fz) (Nat.le_refl 11) Tryz.infoFn (pO _ _ _ _ _ _) ?_;intro w5 F_6 hoa6;have hba6:Below w4.heap.size w4 w5:=(ae w4 (.cells fz 60)).trans (hoa6.below (Nat.le_refl _));have U_6:=U_5.then hba6;have B_6:=B_5.up hba6;have Q_6:=Q_5.up hba6;have M_6:=M_5.up hba6;have lB_6:=B_6.lt;have lM_6:=M_6.lt;have lF_6:=F_6.lt;have s_6:=hba6.size))
 refine (aA I hE [40] hW40 rn w5 R z Q_6).mono ?_
 rintro e w6 ⟨rfl,hs6,hV6⟩
 have U_7:=U_6.trans hV6
 have B_7:=B_6.but hV6 (by omega)
 have F_7:=F_6.but hV6 (by omega)
 have lB_7:=B_7.lt
 have lF_7:=F_7.lt
 have s_7:=hV6.size
 have hdd:∃ (k0:Nat) (d0:Int),Rq I w6 R k0 22 (I.M k).at_ d0:=by
  rw[show rn=_ from HL] at hs6
  obtain⟨-,k0,d0,hd⟩:=hs6
  exact⟨k0,d0,hd⟩
 have hJ:LJ I f R z w4.heap.size w m rp w6:=by
  refine⟨B_7,U_7,none,0,[],F_7,PrW.nil _ _,?_⟩
  cases hq:nx rn (ai I.M [40]) with
  |out=>rw[hq] at hs6;exact hs6.elim
  |bad y j=>
   rw[hq] at hs6
   obtain⟨hy,k',d',hd⟩:=hs6
   exact .inr ⟨y,j,k',d',mQ (show rp=_ from HP) hq,hy,hd⟩
  |ok u k'=>
   rw[hq] at hs6
   exact .inl ⟨k',mD (show rp=_ from HP) hq,hs6,Nat.zero_le _⟩
 have hg0:w.heap.size<w4.heap.size:=by omega
 have hgR:R<w4.heap.size∧I.b<w4.heap.size:=by omega
 obtain⟨gF,hgd⟩:∃ g,g=w4.heap.size:=⟨_,rfl⟩
 go_wp2_with fail
 rw[← hgd] at hJ hg0 hgR ⊢
 clear hgd B_7 U_7 F_7 hs6 m0 m1 m2 m3 hs3 d2 d5 c2 c5
 go_loopw [] (fun wr=>LJ I f R z gF w m rp wr∧∃ (k0:Nat) (d0:Int),Rq I wr R k0 22 (I.M k).at_ d0) (fun wr=>msr I.n R wr)
 case atStart=>exact⟨hJ,hdd⟩
 case round=>
  obtain⟨⟨hB,hU,ao,cc,ps,hF0,hPr,hst⟩,k0,d0,hdq⟩:=hrel
  have lB:=hB.lt
  have lF:=hF0.lt
  rcases hst with⟨k2,HG,hd,hpk⟩|⟨y,j,k2,d',HD,hy,hd⟩
  ·exact absurd (hd.nine.2.2.1.symm.trans hdq.nine.2.2.1) (by simp)
  ·obtain⟨-,-,c2,-⟩:=hd.nine
   have b0:(y==0)=false:=by rw[beq_eq_false_iff_ne];exact hy
   go_wp2_with fail
   refine (aA I hE [41] hW41 (.bad y j:Rs Unit) wr R z ⟨hy,k2,d',hd⟩).mono ?_
   rintro e w7 ⟨rfl,hs7,hV7⟩
   have hs7:St I w7 R z rp:=by rw[show rp=_ from HD];exact hs7
   have hgp:∀ ps' j,rp=.ok ps' j→ps=ps':=by
    intro ps' j e
    rw[show rp=_ from HD] at e
    cases e
   have B_1:=hB.but hV7 (by omega)
   have U_1:=hU.trans hV7
   have F_1:=hF0.but hV7 (by omega)
   have P_1:=hPr.but hV7 (by omega)
   have lB_1:=B_1.lt
   have lF_1:=F_1.lt
   have s_1:=hV7.size
   go_wp2_with fail
   refine (aA I hE [58] hW58 rp w7 R z hs7).mono ?_
   rintro e w8 ⟨rfl,hs8,hV8⟩
   have B_2:=B_1.but hV8 (by omega)
   have U_2:=U_1.trans hV8
   have F_2:=F_1.but hV8 (by omega)
   have P_2:=P_1.but hV8 (by omega)
   have lB_2:=B_2.lt
   have lF_2:=F_2.lt
   have s_2:=hV8.size
   go_wp2_with fail
   refine (bv I hE hW3 (nx rp (ai I.M [58])) w8 R z hs8).mono ?_
   rintro e w9 ⟨t,rfl,hgt,hs9,hV9⟩
   have B_3:=B_2.but hV9 (by omega)
   have U_3:=U_2.trans hV9
   have F_3:=F_2.but hV9 (by omega)
   have P_3:=P_2.but hV9 (by omega)
   have lB_3:=B_3.lt
   have lF_3:=F_3.lt
   have s_3:=hV9.size
   obtain⟨-,-,x2,-⟩:=Bk.eleven (show Bk w9 gF _ [_,_,_,_,_,_,_,_,_,_,_] from F_3)
   have y2:=F_3.frz 2
   have hoT:=(Oth.refl gF w9).set 2 (.int .i64 t)
   have hF10:Bk (w9.setCell ⟨gF,2,none⟩ (.int .i64 t)) gF 60 [.string (bs m.text),.slice ao ps.length cc,.int .i64 t,.int .i64 0,.string ⟨#[]⟩,.string ⟨#[]⟩,.int .i64 0,.complex .f64 0 0,.slice none 0 0,.int .i64 0,.int .i64 m.at_]:=F_3.set 2 (.int .i64 t)
   have hs9:St I w9 R z r3:=by rw[show r3=_ from H3];exact hs9
   have hgt:Got r3 t:=fun x j e=>hgt x j (by rw[← show r3=_ from H3];exact e)
   have B_4:=B_3.oth hoT (by omega)
   have U_4:=hoT.but U_3 (by omega)
   have P_4:=P_3.oth hoT (by omega)
   have Q_4:=hs9.oth hoT (by omega) (by omega)
   have lB_4:=B_4.lt
   have lF_4:=hF10.lt
   go_wp2_with fail
   refine (aA I hE [61] hW61 r3 _ R z Q_4).mono ?_
   rintro e w11 ⟨rfl,hs11,hV11⟩
   have B_5:=B_4.but hV11 (by omega)
   have U_5:=U_4.trans hV11
   have P_5:=P_4.but hV11 (by omega)
   have F_5:=hF10.but hV11 (by omega)
   have lB_5:=B_5.lt
   have lF_5:=F_5.lt
   have s_5:=hV11.size
   go_wp2_with fail
   refine (hA.expr (nx r3 (ai I.M [61])) w11 R z hs11 (by rw[← show r5=_ from H5];exact hr5o)).mono ?_
   rintro e w12 ⟨us,rfl,sv,hex,hs12,hV12⟩
   obtain⟨e0,e1,e2,e3,e4,e5,e6,rfl⟩:=aP sv.len
   have B_6:=B_5.but hV12 (by omega)
   have U_6:=U_5.trans hV12
   have P_6:=P_5.but hV12 (by omega)
   have F_6:=F_5.but hV12 (by omega)
   have lB_6:=B_6.lt
   have lF_6:=F_6.lt
   have s_6:=hV12.size
   have hs12:St I w12 R z r5:=by rw[show r5=_ from H5];exact hs12
   have hex:∀ x j,r5=.ok x j→ExV w12 w11.heap.size x [e0,e1,e2,e3,e4,e5,e6]:=fun x j e=>hex x j (by rw[← show r5=_ from H5];exact e)
   go_wp2_with (first
    |(refine af rfl 58 (.tmp 99) (.tmp 98) rfl gF 3 [e0,e1,e2,e3,e4,e5,e6] rfl rfl F_6 (show (3+7:Nat)≤11 by decide) Tryz.infoE sv.one ?_;intro w13 hF13 ho13)
    |fail)
   have hF13:Bk w13 gF 60 [.string (bs m.text),.slice ao ps.length cc,.int .i64 t,e0,e1,e2,e3,e4,e5,e6,.int .i64 m.at_]:=hF13
   have B_7:=B_6.oth ho13 (by omega)
   have U_7:=ho13.but U_6 (by omega)
   have P_7:=P_6.oth ho13 (by omega)
   have Q_7:=hs12.oth ho13 (by omega) (by omega)
   have X_7:=fun x j e=>(hex x j e).oth2 ho13 (fun b hb=>by omega)
   have lB_7:=B_7.lt
   have lF_7:=hF13.lt
   refine (aA I hE [59] hW59 r5 w13 R z Q_7).mono ?_
   rintro e w14 ⟨rfl,hs14,hV14⟩
   have B_8:=B_7.but hV14 (by omega)
   have U_8:=U_7.trans hV14
   have P_8:=P_7.but hV14 (by omega)
   have X_8:=fun x j e=>(X_7 x j e).but2 hV14 (fun b hb=>by omega)
   have F_8:=hF13.but hV14 (by omega)
   have lB_8:=B_8.lt
   have lF_8:=F_8.lt
   have s_8:=hV14.size
   have hs14:St I w14 R z r6:=by rw[show r6=_ from H6];exact hs14
   have hse:=pW (bs m.text) ao ps.length cc t m.at_ sv
   go_wp2_with (first
    |refine ah rfl 60 (.tmp 6) rfl gF 0 rfl [.string (bs m.text),.slice ao ps.length cc,.int .i64 t,e0,e1,e2,e3,e4,e5,e6,.int .i64 m.at_] _ (F_8.range 0 11) Tryz.underFn Tryz.infoFn ?_
    |(refine af rfl 60 (.tmp 4) (.tmp 102) rfl w.heap.size 0 [.string (bs m.text),.slice ao ps.length cc,.int .i64 t,e0,e1,e2,e3,e4,e5,e6,.int .i64 m.at_] rfl rfl B_8 (Nat.le_refl 11) Tryz.infoFn hse.one ?_;intro wz hBz hoz;obtain⟨q0,q1,q2,q3,q4,q5,q6,q7,q8,q9,q10⟩:=Bk.eleven (show Bk wz w.heap.size _ [_,_,_,_,_,_,_,_,_,_,_] from hBz))
    |fail)
   have U_9:=hoz.but U_8 (by omega)
   have P_9:=P_8.oth hoz (by omega)
   have X_9:=fun x j e=>(X_8 x j e).oth2 hoz (fun b hb=>by omega)
   have F_9:=F_8.oth hoz (by omega)
   have Q_9:=hs14.oth hoz (by omega) (by omega)
   refine bodyPost_ret (v:=.agg #[.string (bs m.text),.slice ao ps.length cc,.int .i64 t,e0,e1,e2,e3,e4,e5,e6,.int .i64 m.at_]) (by simp[results,Tryz.results68,go_sem,q0,q1,q2,q3,q4,q5,q6,q7,q8,q9,q10]) rfl ⟨_,rfl,hse,?_,?_,U_9⟩
   ·intro x0 j0 e
    rw[show r=_ from HR] at e
    obtain⟨ch1,-,-,ch4⟩:=(show _∧_∧_∧_ from HC)
    cases hq6:r6 with
    |out=>rw[hq6] at hs14;exact hs14.elim
    |bad y' j'=>rw[ch1 y' j' hq6] at e;cases e
    |ok u j6=>
     obtain⟨x,i1,ps',i2,t',i4,b,i6,g1,g2,g3,g5,g6⟩:=ch4 u j6 hq6
     rw[g6] at e
     cases e
     obtain rfl:=hgm x i1 g1
     obtain rfl:=hgp ps' i2 g2
     obtain rfl:=hgt t' i4 g3
     exact⟨ao,cc,_,rfl,(P_9.read).imp fun b hb _=>by omega,(X_9 b i6 g5).imp fun b hb _=>by omega⟩
   ·rw[show r=_ from HR]
    obtain⟨ch1,-,-,ch4⟩:=(show _∧_∧_∧_ from HC)
    have hsz:=Q_9
    cases hq6:r6 with
    |out=>rw[hq6] at hsz;exact hsz.elim
    |bad y' j'=>rw[hq6] at hsz;rw[ch1 y' j' hq6];exact hsz
    |ok u j6=>
     obtain⟨x,i1,ps',i2,t',i4,b,i6,g1,g2,g3,g5,g6⟩:=ch4 u j6 hq6
     rw[hq6] at hsz
     rw[g6]
     exact hsz
theorem rdef_live (I:Rdi) (hE:Ends I.M I.n) (hW:∀ s∈lks,Wm I.M s) (f:Nat) (hA:AllR I f) (num:Nat) (w:World) (R k z:Nat) (hz:z=0) (h:Rq I w R k 0 0 z) (hl:¬ ((I.M k).kind=0∧I.lf≤(num:Int))) (hne:defP I.M (lmOf I) f num k≠.out) :
  Calls Tryz.prog 68 #[.pointer (some ⟨R,0,none⟩),.int .i64 num] w (DA I R z w (defP I.M (lmOf I) f num k)):=by
 obtain⟨r,hr⟩:∃ r,r=defP I.M (lmOf I) f num k:=⟨_,rfl⟩
 rw[← hr] at hne ⊢
 have HR:Hid (r=_):=hr
 clear hr
 have hlt:=h.lt
 have hcx:=aG
 have hW3:∀ s∈[[78],[66],[76]],Wm I.M s:=fun s hs=>hW s (by simp only[List.mem_cons,List.not_mem_nil,or_false] at hs;rcases hs with rfl|rfl|rfl<;>simp[lks])
 have hW40:=hW [40] (by simp[lks])
 have hW41:=hW [41] (by simp[lks])
 have hW44:=hW [44] (by simp[lks])
 have hW58:=hW [58] (by simp[lks])
 have hW61:=hW [61] (by simp[lks])
 have hW59:=hW [59] (by simp[lks])
 have HZ:Hid (z=0):=hz
 clear hz
 obtain⟨rn,hrn⟩:∃ rn,rn=au I.M num (lmOf I).f k:=⟨_,rfl⟩
 obtain⟨rp,hrp⟩:∃ rp,rp=nx rn (aV I.M (lmOf I) f):=⟨_,rfl⟩
 obtain⟨r3,hr3⟩:∃ r3,r3=nx (nx rp (ai I.M [58])) (aK I.M):=⟨_,rfl⟩
 obtain⟨r5,hr5⟩:∃ r5,r5=nx (nx r3 (ai I.M [61])) (exprP I.M (lmOf I) f z):=⟨_,rfl⟩
 obtain⟨r6,hr6⟩:∃ r6,r6=nx r5 (ai I.M [59]):=⟨_,rfl⟩
 have HC:Hid _:=jP I.M (lmOf I) f num k rn rp r3 r5 r6 hrn hrp hr3 (by rw[hr5,show z=0 from HZ]) hr6
 have HN:Hid (rn=_):=hrn
 have HP:Hid (rp=_):=hrp
 have H3:Hid (r3=_):=hr3
 have H5:Hid (r5=_):=hr5
 have H6:Hid (r6=_):=hr6
 have hrpo:rp≠.out:=fun e=>hne (by rw[show r=_ from HR];exact (show _∧_ from HC).2.1 e)
 have hr5o:r5≠.out:=fun e=>hne (by rw[show r=_ from HR];exact (show _∧_ from HC).2.2.1 e)
 clear hrn hrp hr3 hr5 hr6
 have Q_1:=h.up (ae w (.cells fz 60))
 have U_1:=(But.refl R w).then (ae w (.cells fz 60))
 have hB0:Bk (w.alloc (.cells fz 60)) w.heap.size 60 [.string ⟨#[]⟩,.slice none 0 0,.int .i64 0,.int .i64 0,.string ⟨#[]⟩,.string ⟨#[]⟩,.int .i64 0,.complex .f64 0 0,.slice none 0 0,.int .i64 0,.int .i64 0]:=Bk.new w 60 fz
 have lB_1:=hB0.lt
 have hf:=fun W=>(fldM (I.M k) W).1
 obtain⟨-,-,c2,-,c5,-⟩:=Q_1.nine
 have HL:Hid (rn=aJ I.M k):=by
  show rn=_
  rw[show rn=_ from HN,au]
  exact if_neg fun e=>hl ⟨e.2,e.1⟩
 go_enter Tryz.func68,Tryz.ntmps68
 go_wp2_with fail
 refine (az I _ R k 0 0 z Q_1).mono ?_
 rintro e w1 ⟨rfl,hb1⟩
 have Q_2:=Q_1.up hb1
 have U_2:=U_1.then hb1
 have B_2:=hB0.up hb1
 have lB_2:=B_2.lt
 have s_2:=hb1.size
 unfold mkV
 obtain⟨-,-,d2,-,d5,-⟩:=Q_2.nine
 have hb:(((I.M k).kind==0)=false∨(((I.M k).kind==0)=true∧decide (I.lf≤(num:Int))=false)):=by
  by_cases e:(I.M k).kind=0
  ·right
   refine⟨by rw[e];rfl,?_⟩
   rw[decide_eq_false_iff_not]
   exact fun e2=>hl ⟨e,e2⟩
  ·left
   rw[beq_eq_false_iff_ne]
   exact e
 clear hl
 rcases hb with b0|⟨b0,b1⟩
 all_goals
  go_wp2_with fail
  refine (aW I hE (.ok () k:Rs Unit) w1 R z Q_2).mono ?_
  rintro e w3 ⟨m,rfl,hgm,hs3,hV3⟩
  have hgm:Got rn m:=fun x j e=>hgm x j (by rw[ax,← show rn=_ from HL];exact e)
  have hs3:St I w3 R z rn:=by rw[show rn=_ from HL];exact hs3
  have U_3:=U_2.trans hV3
  have B_3:=B_2.but hV3 (by omega)
  have lB_3:=B_3.lt
  have s_3:=hV3.size
  unfold mkV
  go_wp2_with (first
   |(refine af rfl 135 (.tmp 5) (.tmp 25) rfl w3.heap.size 0 (mkC m) rfl rfl (Bk.new w3 135 mz) (Nat.le_refl 4) Tryz.infoM (aC _) ?_;intro w4 M_4 hoa4;have hba4:Below w3.heap.size w3 w4:=(ae w3 (.cells mz 135)).trans (hoa4.below (Nat.le_refl _));have U_4:=U_3.then hba4;have B_4:=B_3.up hba4;have Q_4:=hs3.up hba4;have lB_4:=B_4.lt;have lM_4:=M_4.lt;have s_4:=hba4.size;obtain⟨m0,m1,m2,m3⟩:=Bk.four (show Bk w4 w3.heap.size _ [_,_,_,_] from M_4))
   |(refine af rfl 60 (.tmp 6) (.tmp 30) rfl w4.heap.size 0 [.string (bs m.text),.slice none 0 0,.int .i64 0,.int .i64 0,.string ⟨#[]⟩,.string ⟨#[]⟩,.int .i64 0,.complex .f64 0 0,.slice none 0 0,.int .i64 0,.int .i64 m.at_] rfl rfl (Bk.new w4 60 fz) (Nat.le_refl 11) Tryz.infoFn (pO _ _ _ _ _ _) ?_;intro w5 F_5 hoa5;have hba5:Below w4.heap.size w4 w5:=(ae w4 (.cells fz 60)).trans (hoa5.below (Nat.le_refl _));have U_5:=U_4.then hba5;have B_5:=B_4.up hba5;have Q_5:=Q_4.up hba5;have M_5:=M_4.up hba5;have lB_5:=B_5.lt;have lM_5:=M_5.lt;have lF_5:=F_5.lt;have s_5:=hba5.size))
  refine (aA I hE [40] hW40 rn w5 R z Q_5).mono ?_
  rintro e w6 ⟨rfl,hs6,hV6⟩
  have U_6:=U_5.trans hV6
  have B_6:=B_5.but hV6 (by omega)
  have F_6:=F_5.but hV6 (by omega)
  have lB_6:=B_6.lt
  have lF_6:=F_6.lt
  have s_6:=hV6.size
  have hJ:LJ I f R z w4.heap.size w m rp w6:=by
   refine⟨B_6,U_6,none,0,[],F_6,PrW.nil _ _,?_⟩
   cases hq:nx rn (ai I.M [40]) with
   |out=>rw[hq] at hs6;exact hs6.elim
   |bad y j=>
    rw[hq] at hs6
    obtain⟨hy,k',d',hd⟩:=hs6
    exact .inr ⟨y,j,k',d',mQ (show rp=_ from HP) hq,hy,hd⟩
   |ok u k'=>
    rw[hq] at hs6
    exact .inl ⟨k',mD (show rp=_ from HP) hq,hs6,Nat.zero_le _⟩
  have hg0:w.heap.size<w4.heap.size:=by omega
  have hgR:R<w4.heap.size∧I.b<w4.heap.size:=by omega
  obtain⟨gF,hgd⟩:∃ g,g=w4.heap.size:=⟨_,rfl⟩
  go_wp2_with fail
  rw[← hgd] at hJ hg0 hgR ⊢
  clear hgd B_6 U_6 F_6 hs6 m0 m1 m2 m3 hs3 d2 d5 c2 c5
  go_loopw [] (fun wr=>LJ I f R z gF w m rp wr) (fun wr=>msr I.n R wr)
  case atStart=>exact hJ
  case round=>
   obtain⟨hB,hU,ao,cc,ps,hF0,hPr,hst⟩:=hrel
   have lB:=hB.lt
   have lF:=hF0.lt
   rcases hst with⟨k2,HG,hd,hpk⟩|⟨y,j,k2,d',HD,hy,hd⟩
   ·have hkn:=hd.kn
    have hsm:=hd.small
    obtain⟨-,-,c2,-⟩:=hd.nine
    go_wp2_with fail
    cases t2:tk I.M [41] k2 with
    |true=>
     have hk3:=hE.tk I.M t2 (by decide) hkn
     have HE:rp=.ok ps (k2+1):=pg_shut (show Pg _ _ _ _ _ _ from HG) hrpo t2
     refine (t2 ▸ ay I [41] hW41 wr R k2 0 z hd:Calls Tryz.prog 90 #[.pointer (some ⟨R,0,none⟩),.string (bs [41])] wr fun e w'=>e=.returned (.bool true)∧Below wr.heap.size wr w').mono ?_
     rintro e w6 ⟨rfl,hb6⟩
     have B_1:=hB.up hb6
     have U_1:=hU.then hb6
     have F_1:=hF0.up hb6
     have P_1:=hPr.up hb6
     have Q_1:=hd.up hb6
     have lB_1:=B_1.lt
     have lF_1:=F_1.lt
     have s_1:=hb6.size
     go_wp2_with fail
     refine (aA I hE [41] hW41 (.ok () k2:Rs Unit) w6 R z Q_1).mono ?_
     rintro e w7 ⟨rfl,hs7,hV7⟩
     have hs7:St I w7 R z rp:=by
      have:=hs7
      rw[ax] at this
      simp only[ai,t2,if_true] at this
      rw[HE]
      exact this
     have hgp:∀ ps' j,rp=.ok ps' j→ps=ps':=by
      intro ps' j e
      rw[HE] at e
      cases e
      rfl
     have B_2:=B_1.but hV7 (by omega)
     have U_2:=U_1.trans hV7
     have F_2:=F_1.but hV7 (by omega)
     have P_2:=P_1.but hV7 (by omega)
     have lB_2:=B_2.lt
     have lF_2:=F_2.lt
     have s_2:=hV7.size
     clear HE t2
     go_wp2_with fail
     refine (aA I hE [58] hW58 rp w7 R z hs7).mono ?_
     rintro e w8 ⟨rfl,hs8,hV8⟩
     have B_3:=B_2.but hV8 (by omega)
     have U_3:=U_2.trans hV8
     have F_3:=F_2.but hV8 (by omega)
     have P_3:=P_2.but hV8 (by omega)
     have lB_3:=B_3.lt
     have lF_3:=F_3.lt
     have s_3:=hV8.size
     go_wp2_with fail
     refine (bv I hE hW3 (nx rp (ai I.M [58])) w8 R z hs8).mono ?_
     rintro e w9 ⟨t,rfl,hgt,hs9,hV9⟩
     have B_4:=B_3.but hV9 (by omega)
     have U_4:=U_3.trans hV9
     have F_4:=F_3.but hV9 (by omega)
     have P_4:=P_3.but hV9 (by omega)
     have lB_4:=B_4.lt
     have lF_4:=F_4.lt
     have s_4:=hV9.size
     obtain⟨-,-,x2,-⟩:=Bk.eleven (show Bk w9 gF _ [_,_,_,_,_,_,_,_,_,_,_] from F_4)
     have y2:=F_4.frz 2
     have hoT:=(Oth.refl gF w9).set 2 (.int .i64 t)
     have hF10:Bk (w9.setCell ⟨gF,2,none⟩ (.int .i64 t)) gF 60 [.string (bs m.text),.slice ao ps.length cc,.int .i64 t,.int .i64 0,.string ⟨#[]⟩,.string ⟨#[]⟩,.int .i64 0,.complex .f64 0 0,.slice none 0 0,.int .i64 0,.int .i64 m.at_]:=F_4.set 2 (.int .i64 t)
     have hs9:St I w9 R z r3:=by rw[show r3=_ from H3];exact hs9
     have hgt:Got r3 t:=fun x j e=>hgt x j (by rw[← show r3=_ from H3];exact e)
     have B_5:=B_4.oth hoT (by omega)
     have U_5:=hoT.but U_4 (by omega)
     have P_5:=P_4.oth hoT (by omega)
     have Q_5:=hs9.oth hoT (by omega) (by omega)
     have lB_5:=B_5.lt
     have lF_5:=hF10.lt
     go_wp2_with fail
     refine (aA I hE [61] hW61 r3 _ R z Q_5).mono ?_
     rintro e w11 ⟨rfl,hs11,hV11⟩
     have B_6:=B_5.but hV11 (by omega)
     have U_6:=U_5.trans hV11
     have P_6:=P_5.but hV11 (by omega)
     have F_6:=hF10.but hV11 (by omega)
     have lB_6:=B_6.lt
     have lF_6:=F_6.lt
     have s_6:=hV11.size
     go_wp2_with fail
     refine (hA.expr (nx r3 (ai I.M [61])) w11 R z hs11 (by rw[← show r5=_ from H5];exact hr5o)).mono ?_
     rintro e w12 ⟨us,rfl,sv,hex,hs12,hV12⟩
     obtain⟨e0,e1,e2,e3,e4,e5,e6,rfl⟩:=aP sv.len
     have B_7:=B_6.but hV12 (by omega)
     have U_7:=U_6.trans hV12
     have P_7:=P_6.but hV12 (by omega)
     have F_7:=F_6.but hV12 (by omega)
     have lB_7:=B_7.lt
     have lF_7:=F_7.lt
     have s_7:=hV12.size
     have hs12:St I w12 R z r5:=by rw[show r5=_ from H5];exact hs12
     have hex:∀ x j,r5=.ok x j→ExV w12 w11.heap.size x [e0,e1,e2,e3,e4,e5,e6]:=fun x j e=>hex x j (by rw[← show r5=_ from H5];exact e)
     go_wp2_with (first
      |(refine af rfl 58 (.tmp 99) (.tmp 98) rfl gF 3 [e0,e1,e2,e3,e4,e5,e6] rfl rfl F_7 (show (3+7:Nat)≤11 by decide) Tryz.infoE sv.one ?_;intro w13 hF13 ho13)
      |fail)
     have hF13:Bk w13 gF 60 [.string (bs m.text),.slice ao ps.length cc,.int .i64 t,e0,e1,e2,e3,e4,e5,e6,.int .i64 m.at_]:=hF13
     have B_8:=B_7.oth ho13 (by omega)
     have U_8:=ho13.but U_7 (by omega)
     have P_8:=P_7.oth ho13 (by omega)
     have Q_8:=hs12.oth ho13 (by omega) (by omega)
     have X_8:=fun x j e=>(hex x j e).oth2 ho13 (fun b hb=>by omega)
     have lB_8:=B_8.lt
     have lF_8:=hF13.lt
     refine (aA I hE [59] hW59 r5 w13 R z Q_8).mono ?_
     rintro e w14 ⟨rfl,hs14,hV14⟩
     have B_9:=B_8.but hV14 (by omega)
     have U_9:=U_8.trans hV14
     have P_9:=P_8.but hV14 (by omega)
     have X_9:=fun x j e=>(X_8 x j e).but2 hV14 (fun b hb=>by omega)
     have F_9:=hF13.but hV14 (by omega)
     have lB_9:=B_9.lt
     have lF_9:=F_9.lt
     have s_9:=hV14.size
     have hs14:St I w14 R z r6:=by rw[show r6=_ from H6];exact hs14
     have hse:=pW (bs m.text) ao ps.length cc t m.at_ sv
     go_wp2_with (first
      |refine ah rfl 60 (.tmp 6) rfl gF 0 rfl [.string (bs m.text),.slice ao ps.length cc,.int .i64 t,e0,e1,e2,e3,e4,e5,e6,.int .i64 m.at_] _ (F_9.range 0 11) Tryz.underFn Tryz.infoFn ?_
      |(refine af rfl 60 (.tmp 4) (.tmp 102) rfl w.heap.size 0 [.string (bs m.text),.slice ao ps.length cc,.int .i64 t,e0,e1,e2,e3,e4,e5,e6,.int .i64 m.at_] rfl rfl B_9 (Nat.le_refl 11) Tryz.infoFn hse.one ?_;intro wz hBz hoz;obtain⟨q0,q1,q2,q3,q4,q5,q6,q7,q8,q9,q10⟩:=Bk.eleven (show Bk wz w.heap.size _ [_,_,_,_,_,_,_,_,_,_,_] from hBz))
      |fail)
     have U_10:=hoz.but U_9 (by omega)
     have P_10:=P_9.oth hoz (by omega)
     have X_10:=fun x j e=>(X_9 x j e).oth2 hoz (fun b hb=>by omega)
     have F_10:=F_9.oth hoz (by omega)
     have Q_10:=hs14.oth hoz (by omega) (by omega)
     refine bodyPost_ret (v:=.agg #[.string (bs m.text),.slice ao ps.length cc,.int .i64 t,e0,e1,e2,e3,e4,e5,e6,.int .i64 m.at_]) (by simp[results,Tryz.results68,go_sem,q0,q1,q2,q3,q4,q5,q6,q7,q8,q9,q10]) rfl ⟨_,rfl,hse,?_,?_,U_10⟩
     ·intro x0 j0 e
      rw[show r=_ from HR] at e
      obtain⟨ch1,-,-,ch4⟩:=(show _∧_∧_∧_ from HC)
      cases hq6:r6 with
      |out=>rw[hq6] at hs14;exact hs14.elim
      |bad y' j'=>rw[ch1 y' j' hq6] at e;cases e
      |ok u j6=>
       obtain⟨x,i1,ps',i2,t',i4,b,i6,g1,g2,g3,g5,g6⟩:=ch4 u j6 hq6
       rw[g6] at e
       cases e
       obtain rfl:=hgm x i1 g1
       obtain rfl:=hgp ps' i2 g2
       obtain rfl:=hgt t' i4 g3
       exact⟨ao,cc,_,rfl,(P_10.read).imp fun b hb _=>by omega,(X_10 b i6 g5).imp fun b hb _=>by omega⟩
     ·rw[show r=_ from HR]
      obtain⟨ch1,-,-,ch4⟩:=(show _∧_∧_∧_ from HC)
      have hsz:=Q_10
      cases hq6:r6 with
      |out=>rw[hq6] at hsz;exact hsz.elim
      |bad y' j'=>rw[hq6] at hsz;rw[ch1 y' j' hq6];exact hsz
      |ok u j6=>
       obtain⟨x,i1,ps',i2,t',i4,b,i6,g1,g2,g3,g5,g6⟩:=ch4 u j6 hq6
       rw[hq6] at hsz
       rw[g6]
       exact hsz
    |false=>
     refine (t2 ▸ ay I [41] hW41 wr R k2 0 z hd:Calls Tryz.prog 90 #[.pointer (some ⟨R,0,none⟩),.string (bs [41])] wr fun e w'=>e=.returned (.bool false)∧Below wr.heap.size wr w').mono ?_
     rintro e w6 ⟨rfl,hb6⟩
     have B_1:=hB.up hb6
     have U_1:=hU.then hb6
     have F_1:=hF0.up hb6
     have P_1:=hPr.up hb6
     have Q_1:=hd.up hb6
     have lB_1:=B_1.lt
     have lF_1:=F_1.lt
     have s_1:=hb6.size
     obtain⟨-,x1,-⟩:=Bk.eleven (show Bk w6 gF _ [_,_,_,_,_,_,_,_,_,_,_] from F_1)
     by_cases hx:ps=[]
     ·have hn0:ps.length=0:=by rw[hx];rfl
      have b3:decide (0<(ps.length:Int))=false:=by rw[decide_eq_false_iff_not];omega
      have b4:decide (0<ps.length)=false:=by rw[decide_eq_false_iff_not];omega
      have b5:¬ 0<ps.length:=by omega
      have HX:Hid (rp=(nx (.ok () k2:Rs Unit) (bg I.M (lmOf I) ps.length)).bind fun a k3=>aS I.M (lmOf I) f (ps++[a]) k3):=by
       show rp=_
       rw[hx]
       exact pg_first (hx ▸ show Pg _ _ _ _ _ _ from HG) t2
      clear hn0 hx
      go_wp2_with fail
      obtain⟨-,-,e2,-,-,e6,-⟩:=Q_1.nine
      obtain⟨-,f1,-⟩:=Bk.eleven (show Bk w6 gF _ [_,_,_,_,_,_,_,_,_,_,_] from F_1)
      have hfk:=fun W=>(fldM (I.M k2) W).1
      have hnx:=az I (World.drew w6) R k2 0 0 z (Q_1.up (Below.refl _ w6).drew)
      by_cases hlm:(I.M k2).kind=0∧I.la≤(ps.length:Int)
      ·have g0:((I.M k2).kind==0)=true:=by rw[hlm.1];rfl
       have g1:decide (I.la≤(ps.length:Int))=true:=by rw[decide_eq_true_eq];exact hlm.2
       have HM:nx (.ok () k2:Rs Unit) (au I.M ps.length (lmOf I).a)=.bad 22 k2:=by
        rw[ax,au]
        exact if_pos ⟨hlm.2,hlm.1⟩
       clear hlm
       go_wp2_with fail
       go_region_held3 (fun W=>W.cell? ⟨R,2,none⟩=some (.int .i64 0)∧W.cell? ⟨R,6,none⟩=some (.int .i64 I.la)∧W.cell? ⟨gF,1,none⟩=some (.slice ao ps.length cc)) (first|exact⟨e2,e6,f1⟩|exact sk|fail) (first
        |(go_at_call 67;refine hnx.mono ?_;rintro e wa ⟨rfl,hba⟩;unfold mkV;have hbw:=Below.thn (Below.refl _ w6).drew hba;have sk:wa.cell? ⟨R,2,none⟩=some (.int .i64 0)∧wa.cell? ⟨R,6,none⟩=some (.int .i64 I.la)∧wa.cell? ⟨gF,1,none⟩=some (.slice ao ps.length cc):=⟨(Q_1.up hbw).blk.cell 2,(Q_1.up hbw).blk.cell 6,(F_1.up hbw).cell 1⟩)
        |fail)
       have B_2:=B_1.up hbw
       have U_2:=U_1.then hbw
       have F_2:=F_1.up hbw
       have P_2:=P_1.up hbw
       have Q_2:=Q_1.up hbw
       have lB_2:=B_2.lt
       have lF_2:=F_2.lt
       have s_2:=hbw.size
       go_wp2_with fail
       refine (aY I wa R k2 22 z Q_2).mono ?_
       rintro e wb ⟨rfl,hdb,hVb⟩
       have B_3:=B_2.but hVb (by omega)
       have U_3:=U_2.trans hVb
       have F_3:=F_2.but hVb (by omega)
       have P_3:=P_2.but hVb (by omega)
       have lB_3:=B_3.lt
       have lF_3:=F_3.lt
       have s_3:=hVb.size
       go_wp2_with fail
       refine (aW I hE (.bad 22 k2:Rs Unit) wb R z ⟨by decide,k2,z,hdb⟩).mono ?_
       rintro e w7 ⟨m',rfl,hgn,hs7,hV7⟩
       have hgn:Got (nx (.ok () k2:Rs Unit) (au I.M ps.length (lmOf I).a)) m':=fun x j e=>hgn x j (by rw[HM] at e;exact e)
       have hs7:St I w7 R z (nx (.ok () k2:Rs Unit) (au I.M ps.length (lmOf I).a)):=by rw[HM];exact hs7
       have B_4:=B_3.but hV7 (by omega)
       have U_4:=U_3.trans hV7
       have F_4:=F_3.but hV7 (by omega)
       have P_4:=P_3.but hV7 (by omega)
       have lB_4:=B_4.lt
       have lF_4:=F_4.lt
       have s_4:=hV7.size
       unfold mkV
       go_wp2_with (first
        |(refine af rfl 135 (.tmp 7) (.tmp 74) rfl w7.heap.size 0 (mkC m') rfl rfl (Bk.new w7 135 mz) (Nat.le_refl 4) Tryz.infoM (aC _) ?_;intro w8 M_5 hoa5;have hba5:Below w7.heap.size w7 w8:=(ae w7 (.cells mz 135)).trans (hoa5.below (Nat.le_refl _));have B_5:=B_4.up hba5;have U_5:=U_4.then hba5;have F_5:=F_4.up hba5;have P_5:=P_4.up hba5;have Q_5:=hs7.up hba5;have lB_5:=B_5.lt;have lF_5:=F_5.lt;have lM_5:=M_5.lt;have s_5:=hba5.size)
        |fail)
       refine (bv I hE hW3 (nx (.ok () k2:Rs Unit) (au I.M ps.length (lmOf I).a)) w8 R z Q_5).mono ?_
       rintro e w9 ⟨t,rfl,hgt,hs9,hV9⟩
       have B_6:=B_5.but hV9 (by omega)
       have U_6:=U_5.trans hV9
       have F_6:=F_5.but hV9 (by omega)
       have P_6:=P_5.but hV9 (by omega)
       have M_6:=M_5.but hV9 (by omega)
       have lB_6:=B_6.lt
       have lF_6:=F_6.lt
       have lM_6:=M_6.lt
       have s_6:=hV9.size
       obtain⟨m0,m1,m2,m3⟩:=Bk.four (show Bk w9 w7.heap.size _ [_,_,_,_] from M_6)
       obtain⟨-,x3,-⟩:=Bk.eleven (show Bk w9 gF _ [_,_,_,_,_,_,_,_,_,_,_] from F_6)
       obtain⟨ao9,cc9,w10,r10,P10,B10⟩:=P_6.app (by omega) m'.text t m'.at_ (by omega)
       have hF10:=F_6.low B10 (by omega)
       have hB10:=B_6.low B10 (by omega)
       have hs10:=hs9.low B10 (by omega) (by omega)
       have hU10:=U_6.low (B10.mono (by omega))
       have y10:w10.cell? ⟨gF,1,none⟩=some (.slice ao ps.length cc):=hF10.cell 1
       have z10:=hF10.frz 1
       have R10:Hid (_=_):=r10
       clear r10
       go_wp2_with (first
        |(at_builtin;refine wpList_append_run rfl (.tmp 78) (.tmp 85) 52 rfl rfl _ _ rfl rfl _ _ (show _=_ from R10) ?_)
        |fail)
       have hoF:=(Oth.refl gF w10).set 1 (.slice ao9 (ps.length+1) cc9)
       have hB11:=hB10.oth hoF (by omega)
       have hF11:Bk (w10.setCell ⟨gF,1,none⟩ (.slice ao9 (ps.length+1) cc9)) gF 60 [.string (bs m.text),.slice ao9 (ps.length+1) cc9,.int .i64 0,.int .i64 0,.string ⟨#[]⟩,.string ⟨#[]⟩,.int .i64 0,.complex .f64 0 0,.slice none 0 0,.int .i64 0,.int .i64 m.at_]:=hF10.set 1 _
       have hU11:=hoF.but hU10 (by omega)
       have hbF:But gF w10 (w10.setCell ⟨gF,1,none⟩ (.slice ao9 (ps.length+1) cc9)):=⟨hoF.os,hoF.tape,hoF.output,by rw[hoF.size];omega,fun i _ hn=>hoF.block i hn⟩
       have hs11:=bL hs10 hbF (by omega) (by omega)
       have P11:PrW (w10.setCell ⟨gF,1,none⟩ (.slice ao9 (ps.length+1) cc9)) (gF+1) ao9 cc9 (ps++[⟨m'.text,t,m'.at_⟩]):=P10.oth hoF (by omega)
       have ms1:=aR hd
       have hsl:(ps++[(⟨m'.text,t,m'.at_⟩:Pm)]).length=ps.length+1:=by rw[List.length_append];rfl
       cases hq2:nx (nx (.ok () k2:Rs Unit) (au I.M ps.length (lmOf I).a)) (aK I.M) with
       |out=>exact absurd hq2 (cB (by simp))
       |bad y' j'=>
        have HE:Hid (rp=.bad y' j'):=by show rp=_;rw[show rp=_ from HX,cO hq2];rfl
        rw[hq2] at hs11
        obtain⟨hy,kz,dz,hdz⟩:=hs11
        have ms2:=bI hy hdz
        try dsimp only[Act.put]
        go_roundw
        case rel=>exact⟨hB11,hU11,ao9,cc9,ps++[⟨m'.text,t,m'.at_⟩],by rw[hsl];exact hF11,P11,.inr ⟨y',j',kz,dz,HE,hy,hdz⟩⟩
        case measure=>exact bf ms1 ms2 hkn
       |ok t' k3=>
        have HE:Hid (Pg I.M (lmOf I) f rp (ps++[⟨m'.text,t,m'.at_⟩]) k3):=eD (show rp=_ from HX) (dB hgn hgt hq2)
        rw[hq2] at hs11
        have hdz:Rq I (w10.setCell ⟨gF,1,none⟩ (.slice ao9 (ps.length+1) cc9)) R k3 0 0 z:=hs11
        have hge:k2+1≤k3:=dE (fun u j e=>by cases e;omega) hq2
        have ms2:=aR hdz
        try dsimp only[Act.put]
        go_roundw
        case rel=>exact⟨hB11,hU11,ao9,cc9,ps++[⟨m'.text,t,m'.at_⟩],by rw[hsl];exact hF11,P11,.inl ⟨k3,HE,hdz,by rw[hsl];omega⟩⟩
        case measure=>exact aZ ms1 ms2 hkn hge
      ·have HM:nx (.ok () k2:Rs Unit) (au I.M ps.length (lmOf I).a)=aJ I.M k2:=by
        rw[ax,au]
        exact if_neg fun e=>hlm ⟨e.2,e.1⟩
       by_cases hkd:(I.M k2).kind=0
       ·have g0:((I.M k2).kind==0)=true:=by rw[hkd];rfl
        have g1:decide (I.la≤(ps.length:Int))=false:=by
         rw[decide_eq_false_iff_not]
         exact fun e2=>hlm ⟨hkd,e2⟩
        clear hlm hkd
        go_wp2_with fail
        go_region_held3 (fun W=>W.cell? ⟨R,2,none⟩=some (.int .i64 0)∧W.cell? ⟨R,6,none⟩=some (.int .i64 I.la)∧W.cell? ⟨gF,1,none⟩=some (.slice ao ps.length cc)) (first|exact⟨e2,e6,f1⟩|exact sk|fail) (first
         |(go_at_call 67;refine hnx.mono ?_;rintro e wa ⟨rfl,hba⟩;unfold mkV;have hbw:=Below.thn (Below.refl _ w6).drew hba;have sk:wa.cell? ⟨R,2,none⟩=some (.int .i64 0)∧wa.cell? ⟨R,6,none⟩=some (.int .i64 I.la)∧wa.cell? ⟨gF,1,none⟩=some (.slice ao ps.length cc):=⟨(Q_1.up hbw).blk.cell 2,(Q_1.up hbw).blk.cell 6,(F_1.up hbw).cell 1⟩)
         |fail)
        have B_2:=B_1.up hbw
        have U_2:=U_1.then hbw
        have F_2:=F_1.up hbw
        have P_2:=P_1.up hbw
        have Q_2:=Q_1.up hbw
        have lB_2:=B_2.lt
        have lF_2:=F_2.lt
        have s_2:=hbw.size
        go_wp2_with fail
        refine (aW I hE (.ok () k2:Rs Unit) wa R z Q_2).mono ?_
        rintro e w7 ⟨m',rfl,hgn,hs7,hV7⟩
        have hgn:Got (nx (.ok () k2:Rs Unit) (au I.M ps.length (lmOf I).a)) m':=fun x j e=>hgn x j (by rw[HM] at e;exact e)
        have hs7:St I w7 R z (nx (.ok () k2:Rs Unit) (au I.M ps.length (lmOf I).a)):=by rw[HM];exact hs7
        have B_3:=B_2.but hV7 (by omega)
        have U_3:=U_2.trans hV7
        have F_3:=F_2.but hV7 (by omega)
        have P_3:=P_2.but hV7 (by omega)
        have lB_3:=B_3.lt
        have lF_3:=F_3.lt
        have s_3:=hV7.size
        unfold mkV
        go_wp2_with (first
         |(refine af rfl 135 (.tmp 7) (.tmp 74) rfl w7.heap.size 0 (mkC m') rfl rfl (Bk.new w7 135 mz) (Nat.le_refl 4) Tryz.infoM (aC _) ?_;intro w8 M_4 hoa4;have hba4:Below w7.heap.size w7 w8:=(ae w7 (.cells mz 135)).trans (hoa4.below (Nat.le_refl _));have B_4:=B_3.up hba4;have U_4:=U_3.then hba4;have F_4:=F_3.up hba4;have P_4:=P_3.up hba4;have Q_4:=hs7.up hba4;have lB_4:=B_4.lt;have lF_4:=F_4.lt;have lM_4:=M_4.lt;have s_4:=hba4.size)
         |fail)
        refine (bv I hE hW3 (nx (.ok () k2:Rs Unit) (au I.M ps.length (lmOf I).a)) w8 R z Q_4).mono ?_
        rintro e w9 ⟨t,rfl,hgt,hs9,hV9⟩
        have B_5:=B_4.but hV9 (by omega)
        have U_5:=U_4.trans hV9
        have F_5:=F_4.but hV9 (by omega)
        have P_5:=P_4.but hV9 (by omega)
        have M_5:=M_4.but hV9 (by omega)
        have lB_5:=B_5.lt
        have lF_5:=F_5.lt
        have lM_5:=M_5.lt
        have s_5:=hV9.size
        obtain⟨m0,m1,m2,m3⟩:=Bk.four (show Bk w9 w7.heap.size _ [_,_,_,_] from M_5)
        obtain⟨-,x3,-⟩:=Bk.eleven (show Bk w9 gF _ [_,_,_,_,_,_,_,_,_,_,_] from F_5)
        obtain⟨ao9,cc9,w10,r10,P10,B10⟩:=P_5.app (by omega) m'.text t m'.at_ (by omega)
        have hF10:=F_5.low B10 (by omega)
        have hB10:=B_5.low B10 (by omega)
        have hs10:=hs9.low B10 (by omega) (by omega)
        have hU10:=U_5.low (B10.mono (by omega))
        have y10:w10.cell? ⟨gF,1,none⟩=some (.slice ao ps.length cc):=hF10.cell 1
        have z10:=hF10.frz 1
        have R10:Hid (_=_):=r10
        clear r10
        go_wp2_with (first
         |(at_builtin;refine wpList_append_run rfl (.tmp 78) (.tmp 85) 52 rfl rfl _ _ rfl rfl _ _ (show _=_ from R10) ?_)
         |fail)
        have hoF:=(Oth.refl gF w10).set 1 (.slice ao9 (ps.length+1) cc9)
        have hB11:=hB10.oth hoF (by omega)
        have hF11:Bk (w10.setCell ⟨gF,1,none⟩ (.slice ao9 (ps.length+1) cc9)) gF 60 [.string (bs m.text),.slice ao9 (ps.length+1) cc9,.int .i64 0,.int .i64 0,.string ⟨#[]⟩,.string ⟨#[]⟩,.int .i64 0,.complex .f64 0 0,.slice none 0 0,.int .i64 0,.int .i64 m.at_]:=hF10.set 1 _
        have hU11:=hoF.but hU10 (by omega)
        have hbF:But gF w10 (w10.setCell ⟨gF,1,none⟩ (.slice ao9 (ps.length+1) cc9)):=⟨hoF.os,hoF.tape,hoF.output,by rw[hoF.size];omega,fun i _ hn=>hoF.block i hn⟩
        have hs11:=bL hs10 hbF (by omega) (by omega)
        have P11:PrW (w10.setCell ⟨gF,1,none⟩ (.slice ao9 (ps.length+1) cc9)) (gF+1) ao9 cc9 (ps++[⟨m'.text,t,m'.at_⟩]):=P10.oth hoF (by omega)
        have ms1:=aR hd
        have hsl:(ps++[(⟨m'.text,t,m'.at_⟩:Pm)]).length=ps.length+1:=by rw[List.length_append];rfl
        cases hq2:nx (nx (.ok () k2:Rs Unit) (au I.M ps.length (lmOf I).a)) (aK I.M) with
        |out=>exact absurd hq2 (cB (by simp))
        |bad y' j'=>
         have HE:Hid (rp=.bad y' j'):=by show rp=_;rw[show rp=_ from HX,cO hq2];rfl
         rw[hq2] at hs11
         obtain⟨hy,kz,dz,hdz⟩:=hs11
         have ms2:=bI hy hdz
         try dsimp only[Act.put]
         go_roundw
         case rel=>exact⟨hB11,hU11,ao9,cc9,ps++[⟨m'.text,t,m'.at_⟩],by rw[hsl];exact hF11,P11,.inr ⟨y',j',kz,dz,HE,hy,hdz⟩⟩
         case measure=>exact bf ms1 ms2 hkn
        |ok t' k3=>
         have HE:Hid (Pg I.M (lmOf I) f rp (ps++[⟨m'.text,t,m'.at_⟩]) k3):=eD (show rp=_ from HX) (dB hgn hgt hq2)
         rw[hq2] at hs11
         have hdz:Rq I (w10.setCell ⟨gF,1,none⟩ (.slice ao9 (ps.length+1) cc9)) R k3 0 0 z:=hs11
         have hge:k2+1≤k3:=dE (fun u j e=>by cases e;omega) hq2
         have ms2:=aR hdz
         try dsimp only[Act.put]
         go_roundw
         case rel=>exact⟨hB11,hU11,ao9,cc9,ps++[⟨m'.text,t,m'.at_⟩],by rw[hsl];exact hF11,P11,.inl ⟨k3,HE,hdz,by rw[hsl];omega⟩⟩
         case measure=>exact aZ ms1 ms2 hkn hge
       ·have g0:((I.M k2).kind==0)=false:=by
         rw[beq_eq_false_iff_ne]
         exact hkd
        clear hlm hkd
        go_wp2_with fail
        refine wp_region_any (by kernel_rfl) ?_
        change wpAny _ _ _ _ _ _ _ (World.drew _)
        refine wpAny_take (i:=0) (v:=?_) rfl (by kernel_rfl) (by kernel_rfl) (by kernel_rfl) (fun _ _ _ h=>h) (Or.inl ⟨by kernel_rfl,?_⟩) ?_
        rotate_left 1
        ·(intro w;go_simp;try with_reducible rfl)
        try simp only[Act.put,List.getElem_toArray,List.getElem_cons_zero,List.setIfInBounds_toArray,List.set_cons_zero,List.set_cons_succ]
        refine wpAny_take (i:=1) (v:=?_) rfl (by kernel_rfl) (by kernel_rfl) (by kernel_rfl) (fun _ _ _ h=>h) (Or.inl ⟨by kernel_rfl,?_⟩) ?_
        rotate_left 1
        ·(intro w;go_simp;try with_reducible rfl)
        try simp only[Act.put,List.getElem_toArray,List.getElem_cons_succ,List.getElem_cons_zero,List.setIfInBounds_toArray,List.set_cons_zero,List.set_cons_succ]
        refine wpAny_take (i:=2) (v:=?_) rfl (by kernel_rfl) (by kernel_rfl) (by kernel_rfl) (fun _ _ _ h=>h) (Or.inl ⟨by kernel_rfl,?_⟩) ?_
        rotate_left 1
        ·(intro w;go_simp;try with_reducible rfl)
        try simp only[Act.put,List.getElem_toArray,List.getElem_cons_succ,List.getElem_cons_zero,List.setIfInBounds_toArray,List.set_cons_zero,List.set_cons_succ]
        refine wpAny_ready (rs:=[3]) (by kernel_rfl) (by simp) ?_
        refine AllReady.cons rfl (fun K hK=>?_) AllReady.nil
        go_simp
        refine hK _ _ ?_
        clear hK K
        try simp only[Act.put,List.getElem_toArray,List.getElem_cons_succ,List.getElem_cons_zero,List.setIfInBounds_toArray,List.set_cons_zero,List.set_cons_succ]
        refine wpAny_take (i:=4) (v:=?_) rfl (by kernel_rfl) (by kernel_rfl) (by kernel_rfl) (fun _ _ _ h=>h) (Or.inl ⟨by kernel_rfl,?_⟩) ?_
        rotate_left 1
        ·(intro w;go_simp;try with_reducible rfl)
        try simp only[Act.put,List.getElem_toArray,List.getElem_cons_succ,List.getElem_cons_zero,List.setIfInBounds_toArray,List.set_cons_zero,List.set_cons_succ]
        refine wpAny_take (i:=5) (v:=?_) rfl (by kernel_rfl) (by kernel_rfl) (by kernel_rfl) (fun _ _ _ h=>h) (Or.inl ⟨by kernel_rfl,?_⟩) ?_
        rotate_left 1
        ·(intro w;go_simp;try with_reducible rfl)
        try simp only[Act.put,List.getElem_toArray,List.getElem_cons_succ,List.getElem_cons_zero,List.setIfInBounds_toArray,List.set_cons_zero,List.set_cons_succ]
        refine wpAny_take (i:=6) (v:=?_) rfl (by kernel_rfl) (by kernel_rfl) (by kernel_rfl) (fun _ _ _ h=>h) (Or.inl ⟨by kernel_rfl,?_⟩) ?_
        rotate_left 1
        ·(intro w;go_simp;try with_reducible rfl)
        try simp only[Act.put,List.getElem_toArray,List.getElem_cons_succ,List.getElem_cons_zero,List.setIfInBounds_toArray,List.set_cons_zero,List.set_cons_succ]
        refine wpAny_ready (rs:=[7]) (by kernel_rfl) (by simp) ?_
        refine AllReady.cons rfl (fun K hK=>?_) AllReady.nil
        go_simp
        go_wp2_with (go_at_call 67;refine hnx.mono ?_;rintro e wa ⟨rfl,hba⟩;unfold mkV;have hbw:=Below.thn (Below.refl _ w6).drew hba)
        try (refine hK _ _ ?_;clear hK K)
        try simp only[Act.put,List.getElem_toArray,List.getElem_cons_succ,List.getElem_cons_zero,List.setIfInBounds_toArray,List.set_cons_zero,List.set_cons_succ]
        refine wpAny_take (i:=8) (v:=?_) rfl (by kernel_rfl) (by kernel_rfl) (by kernel_rfl) (fun _ _ _ h=>h) (Or.inl ⟨by kernel_rfl,?_⟩) ?_
        rotate_left 1
        ·(intro w;go_simp;try with_reducible rfl)
        try simp only[Act.put,List.getElem_toArray,List.getElem_cons_succ,List.getElem_cons_zero,List.setIfInBounds_toArray,List.set_cons_zero,List.set_cons_succ]
        refine wpAny_take (i:=9) (v:=?_) rfl (by kernel_rfl) (by kernel_rfl) (by kernel_rfl) (fun _ _ _ h=>h) (Or.inl ⟨by kernel_rfl,?_⟩) ?_
        rotate_left 1
        ·(intro w;go_simp;try with_reducible rfl)
        try simp only[Act.put,List.getElem_toArray,List.getElem_cons_succ,List.getElem_cons_zero,List.setIfInBounds_toArray,List.set_cons_zero,List.set_cons_succ]
        refine wpAny_take (i:=10) (v:=?_) rfl (by kernel_rfl) (by kernel_rfl) (by kernel_rfl) (fun _ _ _ h=>h) (Or.inl ⟨by kernel_rfl,?_⟩) ?_
        rotate_left 1
        ·(intro w;go_simp;try with_reducible rfl)
        try simp only[Act.put,List.getElem_toArray,List.getElem_cons_succ,List.getElem_cons_zero,List.setIfInBounds_toArray,List.set_cons_zero,List.set_cons_succ]
        refine wpAny_take (i:=11) (v:=?_) rfl (by kernel_rfl) (by kernel_rfl) (by kernel_rfl) (fun _ _ _ h=>h) (Or.inl ⟨by kernel_rfl,?_⟩) ?_
        rotate_left 1
        ·(intro w;go_simp;try with_reducible rfl)
        try simp only[Act.put,List.getElem_toArray,List.getElem_cons_succ,List.getElem_cons_zero,List.setIfInBounds_toArray,List.set_cons_zero,List.set_cons_succ]
        refine wpAny_take (i:=12) (v:=undef) rfl (by kernel_rfl) (by kernel_rfl) (by kernel_rfl) (fun _ _ _ h=>h) (Or.inr ⟨by kernel_rfl,rfl⟩) ?_
        try simp only[Act.put,List.getElem_toArray,List.getElem_cons_succ,List.getElem_cons_zero,List.setIfInBounds_toArray,List.set_cons_zero,List.set_cons_succ]
        refine wpAny_take (i:=13) (v:=undef) rfl (by kernel_rfl) (by kernel_rfl) (by kernel_rfl) (fun _ _ _ h=>h) (Or.inr ⟨by kernel_rfl,rfl⟩) ?_
        try simp only[Act.put,List.getElem_toArray,List.getElem_cons_succ,List.getElem_cons_zero,List.setIfInBounds_toArray,List.set_cons_zero,List.set_cons_succ]
        refine wpAny_take (i:=14) (v:=undef) rfl (by kernel_rfl) (by kernel_rfl) (by kernel_rfl) (fun _ _ _ h=>h) (Or.inr ⟨by kernel_rfl,rfl⟩) ?_
        try simp only[Act.put,List.getElem_toArray,List.getElem_cons_succ,List.getElem_cons_zero,List.setIfInBounds_toArray,List.set_cons_zero,List.set_cons_succ]
        refine wpAny_take (i:=15) (v:=undef) rfl (by kernel_rfl) (by kernel_rfl) (by kernel_rfl) (fun _ _ _ h=>h) (Or.inr ⟨by kernel_rfl,rfl⟩) ?_
        try simp only[Act.put,List.getElem_toArray,List.getElem_cons_succ,List.getElem_cons_zero,List.setIfInBounds_toArray,List.set_cons_zero,List.set_cons_succ]
        refine wpAny_take (i:=16) (v:=undef) rfl (by kernel_rfl) (by kernel_rfl) (by kernel_rfl) (fun _ _ _ h=>h) (Or.inr ⟨by kernel_rfl,rfl⟩) ?_
        try simp only[Act.put,List.getElem_toArray,List.getElem_cons_succ,List.getElem_cons_zero,List.setIfInBounds_toArray,List.set_cons_zero,List.set_cons_succ]
        refine wpAny_take (i:=17) (v:=undef) rfl (by kernel_rfl) (by kernel_rfl) (by kernel_rfl) (fun _ _ _ h=>h) (Or.inr ⟨by kernel_rfl,rfl⟩) ?_
        try simp only[Act.put,List.getElem_toArray,List.getElem_cons_succ,List.getElem_cons_zero,List.setIfInBounds_toArray,List.set_cons_zero,List.set_cons_succ]
        refine wpAny_take (i:=18) (v:=undef) rfl (by kernel_rfl) (by kernel_rfl) (by kernel_rfl) (fun _ _ _ h=>h) (Or.inr ⟨by kernel_rfl,rfl⟩) ?_
        try simp only[Act.put,List.getElem_toArray,List.getElem_cons_succ,List.getElem_cons_zero,List.setIfInBounds_toArray,List.set_cons_zero,List.set_cons_succ]
        refine wpAny_take (i:=19) (v:=undef) rfl (by kernel_rfl) (by kernel_rfl) (by kernel_rfl) (fun _ _ _ h=>h) (Or.inr ⟨by kernel_rfl,rfl⟩) ?_
        try simp only[Act.put,List.getElem_toArray,List.getElem_cons_succ,List.getElem_cons_zero,List.setIfInBounds_toArray,List.set_cons_zero,List.set_cons_succ]
        refine wpAny_take (i:=20) (v:=undef) rfl (by kernel_rfl) (by kernel_rfl) (by kernel_rfl) (fun _ _ _ h=>h) (Or.inr ⟨by kernel_rfl,rfl⟩) ?_
        try simp only[Act.put,List.getElem_toArray,List.getElem_cons_succ,List.getElem_cons_zero,List.setIfInBounds_toArray,List.set_cons_zero,List.set_cons_succ]
        refine wpAny_take (i:=21) (v:=?_) rfl (by kernel_rfl) (by kernel_rfl) (by kernel_rfl) (fun _ _ _ h=>h) (Or.inl ⟨by kernel_rfl,?_⟩) ?_
        rotate_left 1
        ·(intro w;go_simp;try with_reducible rfl)
        try simp only[Act.put,List.getElem_toArray,List.getElem_cons_succ,List.getElem_cons_zero,List.setIfInBounds_toArray,List.set_cons_zero,List.set_cons_succ]
        refine wpAny_done (by kernel_rfl) ?_ _
        have B_2:=B_1.up hbw
        have U_2:=U_1.then hbw
        have F_2:=F_1.up hbw
        have P_2:=P_1.up hbw
        have Q_2:=Q_1.up hbw
        have lB_2:=B_2.lt
        have lF_2:=F_2.lt
        have s_2:=hbw.size
        go_wp2_with fail
        refine (aW I hE (.ok () k2:Rs Unit) wa R z Q_2).mono ?_
        rintro e w7 ⟨m',rfl,hgn,hs7,hV7⟩
        have hgn:Got (nx (.ok () k2:Rs Unit) (au I.M ps.length (lmOf I).a)) m':=fun x j e=>hgn x j (by rw[HM] at e;exact e)
        have hs7:St I w7 R z (nx (.ok () k2:Rs Unit) (au I.M ps.length (lmOf I).a)):=by rw[HM];exact hs7
        have B_3:=B_2.but hV7 (by omega)
        have U_3:=U_2.trans hV7
        have F_3:=F_2.but hV7 (by omega)
        have P_3:=P_2.but hV7 (by omega)
        have lB_3:=B_3.lt
        have lF_3:=F_3.lt
        have s_3:=hV7.size
        unfold mkV
        go_wp2_with (first
         |(refine af rfl 135 (.tmp 7) (.tmp 74) rfl w7.heap.size 0 (mkC m') rfl rfl (Bk.new w7 135 mz) (Nat.le_refl 4) Tryz.infoM (aC _) ?_;intro w8 M_4 hoa4;have hba4:Below w7.heap.size w7 w8:=(ae w7 (.cells mz 135)).trans (hoa4.below (Nat.le_refl _));have B_4:=B_3.up hba4;have U_4:=U_3.then hba4;have F_4:=F_3.up hba4;have P_4:=P_3.up hba4;have Q_4:=hs7.up hba4;have lB_4:=B_4.lt;have lF_4:=F_4.lt;have lM_4:=M_4.lt;have s_4:=hba4.size)
         |fail)
        refine (bv I hE hW3 (nx (.ok () k2:Rs Unit) (au I.M ps.length (lmOf I).a)) w8 R z Q_4).mono ?_
        rintro e w9 ⟨t,rfl,hgt,hs9,hV9⟩
        have B_5:=B_4.but hV9 (by omega)
        have U_5:=U_4.trans hV9
        have F_5:=F_4.but hV9 (by omega)
        have P_5:=P_4.but hV9 (by omega)
        have M_5:=M_4.but hV9 (by omega)
        have lB_5:=B_5.lt
        have lF_5:=F_5.lt
        have lM_5:=M_5.lt
        have s_5:=hV9.size
        obtain⟨m0,m1,m2,m3⟩:=Bk.four (show Bk w9 w7.heap.size _ [_,_,_,_] from M_5)
        obtain⟨-,x3,-⟩:=Bk.eleven (show Bk w9 gF _ [_,_,_,_,_,_,_,_,_,_,_] from F_5)
        obtain⟨ao9,cc9,w10,r10,P10,B10⟩:=P_5.app (by omega) m'.text t m'.at_ (by omega)
        have hF10:=F_5.low B10 (by omega)
        have hB10:=B_5.low B10 (by omega)
        have hs10:=hs9.low B10 (by omega) (by omega)
        have hU10:=U_5.low (B10.mono (by omega))
        have y10:w10.cell? ⟨gF,1,none⟩=some (.slice ao ps.length cc):=hF10.cell 1
        have z10:=hF10.frz 1
        have R10:Hid (_=_):=r10
        clear r10
        go_wp2_with (first
         |(at_builtin;refine wpList_append_run rfl (.tmp 78) (.tmp 85) 52 rfl rfl _ _ rfl rfl _ _ (show _=_ from R10) ?_)
         |fail)
        have hoF:=(Oth.refl gF w10).set 1 (.slice ao9 (ps.length+1) cc9)
        have hB11:=hB10.oth hoF (by omega)
        have hF11:Bk (w10.setCell ⟨gF,1,none⟩ (.slice ao9 (ps.length+1) cc9)) gF 60 [.string (bs m.text),.slice ao9 (ps.length+1) cc9,.int .i64 0,.int .i64 0,.string ⟨#[]⟩,.string ⟨#[]⟩,.int .i64 0,.complex .f64 0 0,.slice none 0 0,.int .i64 0,.int .i64 m.at_]:=hF10.set 1 _
        have hU11:=hoF.but hU10 (by omega)
        have hbF:But gF w10 (w10.setCell ⟨gF,1,none⟩ (.slice ao9 (ps.length+1) cc9)):=⟨hoF.os,hoF.tape,hoF.output,by rw[hoF.size];omega,fun i _ hn=>hoF.block i hn⟩
        have hs11:=bL hs10 hbF (by omega) (by omega)
        have P11:PrW (w10.setCell ⟨gF,1,none⟩ (.slice ao9 (ps.length+1) cc9)) (gF+1) ao9 cc9 (ps++[⟨m'.text,t,m'.at_⟩]):=P10.oth hoF (by omega)
        have ms1:=aR hd
        have hsl:(ps++[(⟨m'.text,t,m'.at_⟩:Pm)]).length=ps.length+1:=by rw[List.length_append];rfl
        cases hq2:nx (nx (.ok () k2:Rs Unit) (au I.M ps.length (lmOf I).a)) (aK I.M) with
        |out=>exact absurd hq2 (cB (by simp))
        |bad y' j'=>
         have HE:Hid (rp=.bad y' j'):=by show rp=_;rw[show rp=_ from HX,cO hq2];rfl
         rw[hq2] at hs11
         obtain⟨hy,kz,dz,hdz⟩:=hs11
         have ms2:=bI hy hdz
         try dsimp only[Act.put]
         go_roundw
         case rel=>exact⟨hB11,hU11,ao9,cc9,ps++[⟨m'.text,t,m'.at_⟩],by rw[hsl];exact hF11,P11,.inr ⟨y',j',kz,dz,HE,hy,hdz⟩⟩
         case measure=>exact bf ms1 ms2 hkn
        |ok t' k3=>
         have HE:Hid (Pg I.M (lmOf I) f rp (ps++[⟨m'.text,t,m'.at_⟩]) k3):=eD (show rp=_ from HX) (dB hgn hgt hq2)
         rw[hq2] at hs11
         have hdz:Rq I (w10.setCell ⟨gF,1,none⟩ (.slice ao9 (ps.length+1) cc9)) R k3 0 0 z:=hs11
         have hge:k2+1≤k3:=dE (fun u j e=>by cases e;omega) hq2
         have ms2:=aR hdz
         try dsimp only[Act.put]
         go_roundw
         case rel=>exact⟨hB11,hU11,ao9,cc9,ps++[⟨m'.text,t,m'.at_⟩],by rw[hsl];exact hF11,P11,.inl ⟨k3,HE,hdz,by rw[hsl];omega⟩⟩
         case measure=>exact aZ ms1 ms2 hkn hge
     ·have hn0:0<ps.length:=List.length_pos_iff.2 hx
      have b3:decide (0<(ps.length:Int))=true:=by rw[decide_eq_true_eq];omega
      obtain⟨g,HX⟩:=pg_more (show Pg _ _ _ _ _ _ from HG) hx hrpo t2
      have HX:Hid (rp=_):=HX
      clear hx
      go_wp2_with fail
      refine (aA I hE [44] hW44 (.ok () k2:Rs Unit) w6 R z Q_1).mono ?_
      rintro e w5 ⟨rfl,hs5,hV5⟩
      have B_2:=B_1.but hV5 (by omega)
      have U_2:=U_1.trans hV5
      have F_2:=F_1.but hV5 (by omega)
      have P_2:=P_1.but hV5 (by omega)
      have lB_2:=B_2.lt
      have lF_2:=F_2.lt
      have s_2:=hV5.size
      cases hs1:(nx (.ok () k2:Rs Unit) (ai I.M [44])) with
      |out=>rw[hs1] at hs5;exact hs5.elim
      |bad y5 j5=>
       rw[hs1] at hs5
       obtain⟨hy5,k5,d5,hdd⟩:=hs5
       rw[hs1] at HX
       obtain⟨-,-,e2,-⟩:=hdd.nine
       have g0:(y5==0)=false:=by rw[beq_eq_false_iff_ne];exact hy5
       have HM:nx (.bad y5 j5:Rs Unit) (au I.M ps.length (lmOf I).a)=.bad y5 j5:=rfl
       clear hs1
       have B_3:=B_2.up ((Below.refl _ w5).drew)
       have U_3:=U_2.then ((Below.refl _ w5).drew)
       have F_3:=F_2.up ((Below.refl _ w5).drew)
       have P_3:=P_2.up ((Below.refl _ w5).drew)
       have Q_3:=hdd.up ((Below.refl _ w5).drew)
       have s_3:w5.heap.size≤(World.drew w5).heap.size:=Nat.le_refl _
       have lB_3:=B_3.lt
       have lF_3:=F_3.lt
       go_wp2_with fail
       first|go_region|fail
       go_wp2_with fail
       refine (aW I hE (.bad y5 j5:Rs Unit) (World.drew w5) R z ⟨hy5,k5,d5,Q_3⟩).mono ?_
       rintro e w7 ⟨m',rfl,hgn,hs7,hV7⟩
       have hgn:Got (nx (.bad y5 j5:Rs Unit) (au I.M ps.length (lmOf I).a)) m':=fun x j e=>hgn x j (by rw[HM] at e;exact e)
       have hs7:St I w7 R z (nx (.bad y5 j5:Rs Unit) (au I.M ps.length (lmOf I).a)):=by rw[HM];exact hs7
       have B_4:=B_3.but hV7 (by omega)
       have U_4:=U_3.trans hV7
       have F_4:=F_3.but hV7 (by omega)
       have P_4:=P_3.but hV7 (by omega)
       have lB_4:=B_4.lt
       have lF_4:=F_4.lt
       have s_4:=hV7.size
       unfold mkV
       go_wp2_with (first
        |(refine af rfl 135 (.tmp 7) (.tmp 74) rfl w7.heap.size 0 (mkC m') rfl rfl (Bk.new w7 135 mz) (Nat.le_refl 4) Tryz.infoM (aC _) ?_;intro w8 M_5 hoa5;have hba5:Below w7.heap.size w7 w8:=(ae w7 (.cells mz 135)).trans (hoa5.below (Nat.le_refl _));have B_5:=B_4.up hba5;have U_5:=U_4.then hba5;have F_5:=F_4.up hba5;have P_5:=P_4.up hba5;have Q_5:=hs7.up hba5;have lB_5:=B_5.lt;have lF_5:=F_5.lt;have lM_5:=M_5.lt;have s_5:=hba5.size)
        |fail)
       refine (bv I hE hW3 (nx (.bad y5 j5:Rs Unit) (au I.M ps.length (lmOf I).a)) w8 R z Q_5).mono ?_
       rintro e w9 ⟨t,rfl,hgt,hs9,hV9⟩
       have B_6:=B_5.but hV9 (by omega)
       have U_6:=U_5.trans hV9
       have F_6:=F_5.but hV9 (by omega)
       have P_6:=P_5.but hV9 (by omega)
       have M_6:=M_5.but hV9 (by omega)
       have lB_6:=B_6.lt
       have lF_6:=F_6.lt
       have lM_6:=M_6.lt
       have s_6:=hV9.size
       obtain⟨m0,m1,m2,m3⟩:=Bk.four (show Bk w9 w7.heap.size _ [_,_,_,_] from M_6)
       obtain⟨-,x3,-⟩:=Bk.eleven (show Bk w9 gF _ [_,_,_,_,_,_,_,_,_,_,_] from F_6)
       obtain⟨ao9,cc9,w10,r10,P10,B10⟩:=P_6.app (by omega) m'.text t m'.at_ (by omega)
       have hF10:=F_6.low B10 (by omega)
       have hB10:=B_6.low B10 (by omega)
       have hs10:=hs9.low B10 (by omega) (by omega)
       have hU10:=U_6.low (B10.mono (by omega))
       have y10:w10.cell? ⟨gF,1,none⟩=some (.slice ao ps.length cc):=hF10.cell 1
       have z10:=hF10.frz 1
       have R10:Hid (_=_):=r10
       clear r10
       go_wp2_with (first
        |(at_builtin;refine wpList_append_run rfl (.tmp 78) (.tmp 85) 52 rfl rfl _ _ rfl rfl _ _ (show _=_ from R10) ?_)
        |fail)
       have hoF:=(Oth.refl gF w10).set 1 (.slice ao9 (ps.length+1) cc9)
       have hB11:=hB10.oth hoF (by omega)
       have hF11:Bk (w10.setCell ⟨gF,1,none⟩ (.slice ao9 (ps.length+1) cc9)) gF 60 [.string (bs m.text),.slice ao9 (ps.length+1) cc9,.int .i64 0,.int .i64 0,.string ⟨#[]⟩,.string ⟨#[]⟩,.int .i64 0,.complex .f64 0 0,.slice none 0 0,.int .i64 0,.int .i64 m.at_]:=hF10.set 1 _
       have hU11:=hoF.but hU10 (by omega)
       have hbF:But gF w10 (w10.setCell ⟨gF,1,none⟩ (.slice ao9 (ps.length+1) cc9)):=⟨hoF.os,hoF.tape,hoF.output,by rw[hoF.size];omega,fun i _ hn=>hoF.block i hn⟩
       have hs11:=bL hs10 hbF (by omega) (by omega)
       have P11:PrW (w10.setCell ⟨gF,1,none⟩ (.slice ao9 (ps.length+1) cc9)) (gF+1) ao9 cc9 (ps++[⟨m'.text,t,m'.at_⟩]):=P10.oth hoF (by omega)
       have ms1:=aR hd
       have hsl:(ps++[(⟨m'.text,t,m'.at_⟩:Pm)]).length=ps.length+1:=by rw[List.length_append];rfl
       cases hq2:nx (nx (.bad y5 j5:Rs Unit) (au I.M ps.length (lmOf I).a)) (aK I.M) with
       |out=>exact absurd hq2 (cB (by simp))
       |bad y' j'=>
        have HE:Hid (rp=.bad y' j'):=by show rp=_;rw[show rp=_ from HX,cO hq2];rfl
        rw[hq2] at hs11
        obtain⟨hy,kz,dz,hdz⟩:=hs11
        have ms2:=bI hy hdz
        try dsimp only[Act.put]
        go_roundw
        case rel=>exact⟨hB11,hU11,ao9,cc9,ps++[⟨m'.text,t,m'.at_⟩],by rw[hsl];exact hF11,P11,.inr ⟨y',j',kz,dz,HE,hy,hdz⟩⟩
        case measure=>exact bf ms1 ms2 hkn
       |ok t' k3=>
        have HE:Hid (Pg I.M (lmOf I) f rp (ps++[⟨m'.text,t,m'.at_⟩]) k3):=eD (show rp=_ from HX) (dB hgn hgt hq2)
        rw[hq2] at hs11
        have hdz:Rq I (w10.setCell ⟨gF,1,none⟩ (.slice ao9 (ps.length+1) cc9)) R k3 0 0 z:=hs11
        have hge:k2+1≤k3:=dE (fun u j e=>by cases e) hq2
        have ms2:=aR hdz
        try dsimp only[Act.put]
        go_roundw
        case rel=>exact⟨hB11,hU11,ao9,cc9,ps++[⟨m'.text,t,m'.at_⟩],by rw[hsl];exact hF11,P11,.inl ⟨k3,HE,hdz,by rw[hsl];omega⟩⟩
        case measure=>exact aZ ms1 ms2 hkn hge
      |ok u5 k5=>
       have hk5:k5=k2+1:=(iV (show ai I.M [44] k2=_ from hs1)).2
       rw[hs1] at hs5
       have hd5:Rq I w5 R k5 0 0 z:=hs5
       rw[hs1] at HX
       clear hs1
       subst hk5
       obtain⟨-,-,e2,-,-,e6,-⟩:=hd5.nine
       obtain⟨-,f1,-⟩:=Bk.eleven (show Bk w5 gF _ [_,_,_,_,_,_,_,_,_,_,_] from F_2)
       have hfk:=fun W=>(fldM (I.M (k2+1)) W).1
       have hnx:=az I (World.drew w5) R (k2+1) 0 0 z (hd5.up (Below.refl _ w5).drew)
       by_cases hlm:(I.M (k2+1)).kind=0∧I.la≤(ps.length:Int)
       ·have g0:((I.M (k2+1)).kind==0)=true:=by rw[hlm.1];rfl
        have g1:decide (I.la≤(ps.length:Int))=true:=by rw[decide_eq_true_eq];exact hlm.2
        have HM:nx (.ok u5 (k2+1):Rs Unit) (au I.M ps.length (lmOf I).a)=.bad 22 (k2+1):=by
         rw[ax,au]
         exact if_pos ⟨hlm.2,hlm.1⟩
        clear hlm
        go_wp2_with fail
        go_region_held3 (fun W=>W.cell? ⟨R,2,none⟩=some (.int .i64 0)∧W.cell? ⟨R,6,none⟩=some (.int .i64 I.la)∧W.cell? ⟨gF,1,none⟩=some (.slice ao ps.length cc)) (first|exact⟨e2,e6,f1⟩|exact sk|fail) (first
         |(go_at_call 67;refine hnx.mono ?_;rintro e wa ⟨rfl,hba⟩;unfold mkV;have hbw:=Below.thn (Below.refl _ w5).drew hba;have sk:wa.cell? ⟨R,2,none⟩=some (.int .i64 0)∧wa.cell? ⟨R,6,none⟩=some (.int .i64 I.la)∧wa.cell? ⟨gF,1,none⟩=some (.slice ao ps.length cc):=⟨(hd5.up hbw).blk.cell 2,(hd5.up hbw).blk.cell 6,(F_2.up hbw).cell 1⟩)
         |fail)
        have B_3:=B_2.up hbw
        have U_3:=U_2.then hbw
        have F_3:=F_2.up hbw
        have P_3:=P_2.up hbw
        have Q_3:=hd5.up hbw
        have lB_3:=B_3.lt
        have lF_3:=F_3.lt
        have s_3:=hbw.size
        go_wp2_with fail
        refine (aY I wa R (k2+1) 22 z Q_3).mono ?_
        rintro e wb ⟨rfl,hdb,hVb⟩
        have B_4:=B_3.but hVb (by omega)
        have U_4:=U_3.trans hVb
        have F_4:=F_3.but hVb (by omega)
        have P_4:=P_3.but hVb (by omega)
        have lB_4:=B_4.lt
        have lF_4:=F_4.lt
        have s_4:=hVb.size
        go_wp2_with fail
        refine (aW I hE (.bad 22 (k2+1):Rs Unit) wb R z ⟨by decide,(k2+1),z,hdb⟩).mono ?_
        rintro e w7 ⟨m',rfl,hgn,hs7,hV7⟩
        have hgn:Got (nx (.ok u5 (k2+1):Rs Unit) (au I.M ps.length (lmOf I).a)) m':=fun x j e=>hgn x j (by rw[HM] at e;exact e)
        have hs7:St I w7 R z (nx (.ok u5 (k2+1):Rs Unit) (au I.M ps.length (lmOf I).a)):=by rw[HM];exact hs7
        have B_5:=B_4.but hV7 (by omega)
        have U_5:=U_4.trans hV7
        have F_5:=F_4.but hV7 (by omega)
        have P_5:=P_4.but hV7 (by omega)
        have lB_5:=B_5.lt
        have lF_5:=F_5.lt
        have s_5:=hV7.size
        unfold mkV
        go_wp2_with (first
         |(refine af rfl 135 (.tmp 7) (.tmp 74) rfl w7.heap.size 0 (mkC m') rfl rfl (Bk.new w7 135 mz) (Nat.le_refl 4) Tryz.infoM (aC _) ?_;intro w8 M_6 hoa6;have hba6:Below w7.heap.size w7 w8:=(ae w7 (.cells mz 135)).trans (hoa6.below (Nat.le_refl _));have B_6:=B_5.up hba6;have U_6:=U_5.then hba6;have F_6:=F_5.up hba6;have P_6:=P_5.up hba6;have Q_6:=hs7.up hba6;have lB_6:=B_6.lt;have lF_6:=F_6.lt;have lM_6:=M_6.lt;have s_6:=hba6.size)
         |fail)
        refine (bv I hE hW3 (nx (.ok u5 (k2+1):Rs Unit) (au I.M ps.length (lmOf I).a)) w8 R z Q_6).mono ?_
        rintro e w9 ⟨t,rfl,hgt,hs9,hV9⟩
        have B_7:=B_6.but hV9 (by omega)
        have U_7:=U_6.trans hV9
        have F_7:=F_6.but hV9 (by omega)
        have P_7:=P_6.but hV9 (by omega)
        have M_7:=M_6.but hV9 (by omega)
        have lB_7:=B_7.lt
        have lF_7:=F_7.lt
        have lM_7:=M_7.lt
        have s_7:=hV9.size
        obtain⟨m0,m1,m2,m3⟩:=Bk.four (show Bk w9 w7.heap.size _ [_,_,_,_] from M_7)
        obtain⟨-,x3,-⟩:=Bk.eleven (show Bk w9 gF _ [_,_,_,_,_,_,_,_,_,_,_] from F_7)
        obtain⟨ao9,cc9,w10,r10,P10,B10⟩:=P_7.app (by omega) m'.text t m'.at_ (by omega)
        have hF10:=F_7.low B10 (by omega)
        have hB10:=B_7.low B10 (by omega)
        have hs10:=hs9.low B10 (by omega) (by omega)
        have hU10:=U_7.low (B10.mono (by omega))
        have y10:w10.cell? ⟨gF,1,none⟩=some (.slice ao ps.length cc):=hF10.cell 1
        have z10:=hF10.frz 1
        have R10:Hid (_=_):=r10
        clear r10
        go_wp2_with (first
         |(at_builtin;refine wpList_append_run rfl (.tmp 78) (.tmp 85) 52 rfl rfl _ _ rfl rfl _ _ (show _=_ from R10) ?_)
         |fail)
        have hoF:=(Oth.refl gF w10).set 1 (.slice ao9 (ps.length+1) cc9)
        have hB11:=hB10.oth hoF (by omega)
        have hF11:Bk (w10.setCell ⟨gF,1,none⟩ (.slice ao9 (ps.length+1) cc9)) gF 60 [.string (bs m.text),.slice ao9 (ps.length+1) cc9,.int .i64 0,.int .i64 0,.string ⟨#[]⟩,.string ⟨#[]⟩,.int .i64 0,.complex .f64 0 0,.slice none 0 0,.int .i64 0,.int .i64 m.at_]:=hF10.set 1 _
        have hU11:=hoF.but hU10 (by omega)
        have hbF:But gF w10 (w10.setCell ⟨gF,1,none⟩ (.slice ao9 (ps.length+1) cc9)):=⟨hoF.os,hoF.tape,hoF.output,by rw[hoF.size];omega,fun i _ hn=>hoF.block i hn⟩
        have hs11:=bL hs10 hbF (by omega) (by omega)
        have P11:PrW (w10.setCell ⟨gF,1,none⟩ (.slice ao9 (ps.length+1) cc9)) (gF+1) ao9 cc9 (ps++[⟨m'.text,t,m'.at_⟩]):=P10.oth hoF (by omega)
        have ms1:=aR hd
        have hsl:(ps++[(⟨m'.text,t,m'.at_⟩:Pm)]).length=ps.length+1:=by rw[List.length_append];rfl
        cases hq2:nx (nx (.ok u5 (k2+1):Rs Unit) (au I.M ps.length (lmOf I).a)) (aK I.M) with
        |out=>exact absurd hq2 (cB (by simp))
        |bad y' j'=>
         have HE:Hid (rp=.bad y' j'):=by show rp=_;rw[show rp=_ from HX,cO hq2];rfl
         rw[hq2] at hs11
         obtain⟨hy,kz,dz,hdz⟩:=hs11
         have ms2:=bI hy hdz
         try dsimp only[Act.put]
         go_roundw
         case rel=>exact⟨hB11,hU11,ao9,cc9,ps++[⟨m'.text,t,m'.at_⟩],by rw[hsl];exact hF11,P11,.inr ⟨y',j',kz,dz,HE,hy,hdz⟩⟩
         case measure=>exact bf ms1 ms2 hkn
        |ok t' k3=>
         have HE:Hid (Pg I.M (lmOf I) f rp (ps++[⟨m'.text,t,m'.at_⟩]) k3):=eD (show rp=_ from HX) (dB hgn hgt hq2)
         rw[hq2] at hs11
         have hdz:Rq I (w10.setCell ⟨gF,1,none⟩ (.slice ao9 (ps.length+1) cc9)) R k3 0 0 z:=hs11
         have hge:k2+1≤k3:=dE (fun u j e=>by cases e;omega) hq2
         have ms2:=aR hdz
         try dsimp only[Act.put]
         go_roundw
         case rel=>exact⟨hB11,hU11,ao9,cc9,ps++[⟨m'.text,t,m'.at_⟩],by rw[hsl];exact hF11,P11,.inl ⟨k3,HE,hdz,by rw[hsl];omega⟩⟩
         case measure=>exact aZ ms1 ms2 hkn hge
       ·have HM:nx (.ok u5 (k2+1):Rs Unit) (au I.M ps.length (lmOf I).a)=aJ I.M (k2+1):=by
         rw[ax,au]
         exact if_neg fun e=>hlm ⟨e.2,e.1⟩
        by_cases hkd:(I.M (k2+1)).kind=0
        ·have g0:((I.M (k2+1)).kind==0)=true:=by rw[hkd];rfl
         have g1:decide (I.la≤(ps.length:Int))=false:=by
          rw[decide_eq_false_iff_not]
          exact fun e2=>hlm ⟨hkd,e2⟩
         clear hlm hkd
         go_wp2_with fail
         go_region_held3 (fun W=>W.cell? ⟨R,2,none⟩=some (.int .i64 0)∧W.cell? ⟨R,6,none⟩=some (.int .i64 I.la)∧W.cell? ⟨gF,1,none⟩=some (.slice ao ps.length cc)) (first|exact⟨e2,e6,f1⟩|exact sk|fail) (first
          |(go_at_call 67;refine hnx.mono ?_;rintro e wa ⟨rfl,hba⟩;unfold mkV;have hbw:=Below.thn (Below.refl _ w5).drew hba;have sk:wa.cell? ⟨R,2,none⟩=some (.int .i64 0)∧wa.cell? ⟨R,6,none⟩=some (.int .i64 I.la)∧wa.cell? ⟨gF,1,none⟩=some (.slice ao ps.length cc):=⟨(hd5.up hbw).blk.cell 2,(hd5.up hbw).blk.cell 6,(F_2.up hbw).cell 1⟩)
          |fail)
         have B_3:=B_2.up hbw
         have U_3:=U_2.then hbw
         have F_3:=F_2.up hbw
         have P_3:=P_2.up hbw
         have Q_3:=hd5.up hbw
         have lB_3:=B_3.lt
         have lF_3:=F_3.lt
         have s_3:=hbw.size
         go_wp2_with fail
         refine (aW I hE (.ok () (k2+1):Rs Unit) wa R z Q_3).mono ?_
         rintro e w7 ⟨m',rfl,hgn,hs7,hV7⟩
         have hgn:Got (nx (.ok u5 (k2+1):Rs Unit) (au I.M ps.length (lmOf I).a)) m':=fun x j e=>hgn x j (by rw[HM] at e;exact e)
         have hs7:St I w7 R z (nx (.ok u5 (k2+1):Rs Unit) (au I.M ps.length (lmOf I).a)):=by rw[HM];exact hs7
         have B_4:=B_3.but hV7 (by omega)
         have U_4:=U_3.trans hV7
         have F_4:=F_3.but hV7 (by omega)
         have P_4:=P_3.but hV7 (by omega)
         have lB_4:=B_4.lt
         have lF_4:=F_4.lt
         have s_4:=hV7.size
         unfold mkV
         go_wp2_with (first
          |(refine af rfl 135 (.tmp 7) (.tmp 74) rfl w7.heap.size 0 (mkC m') rfl rfl (Bk.new w7 135 mz) (Nat.le_refl 4) Tryz.infoM (aC _) ?_;intro w8 M_5 hoa5;have hba5:Below w7.heap.size w7 w8:=(ae w7 (.cells mz 135)).trans (hoa5.below (Nat.le_refl _));have B_5:=B_4.up hba5;have U_5:=U_4.then hba5;have F_5:=F_4.up hba5;have P_5:=P_4.up hba5;have Q_5:=hs7.up hba5;have lB_5:=B_5.lt;have lF_5:=F_5.lt;have lM_5:=M_5.lt;have s_5:=hba5.size)
          |fail)
         refine (bv I hE hW3 (nx (.ok u5 (k2+1):Rs Unit) (au I.M ps.length (lmOf I).a)) w8 R z Q_5).mono ?_
         rintro e w9 ⟨t,rfl,hgt,hs9,hV9⟩
         have B_6:=B_5.but hV9 (by omega)
         have U_6:=U_5.trans hV9
         have F_6:=F_5.but hV9 (by omega)
         have P_6:=P_5.but hV9 (by omega)
         have M_6:=M_5.but hV9 (by omega)
         have lB_6:=B_6.lt
         have lF_6:=F_6.lt
         have lM_6:=M_6.lt
         have s_6:=hV9.size
         obtain⟨m0,m1,m2,m3⟩:=Bk.four (show Bk w9 w7.heap.size _ [_,_,_,_] from M_6)
         obtain⟨-,x3,-⟩:=Bk.eleven (show Bk w9 gF _ [_,_,_,_,_,_,_,_,_,_,_] from F_6)
         obtain⟨ao9,cc9,w10,r10,P10,B10⟩:=P_6.app (by omega) m'.text t m'.at_ (by omega)
         have hF10:=F_6.low B10 (by omega)
         have hB10:=B_6.low B10 (by omega)
         have hs10:=hs9.low B10 (by omega) (by omega)
         have hU10:=U_6.low (B10.mono (by omega))
         have y10:w10.cell? ⟨gF,1,none⟩=some (.slice ao ps.length cc):=hF10.cell 1
         have z10:=hF10.frz 1
         have R10:Hid (_=_):=r10
         clear r10
         go_wp2_with (first
          |(at_builtin;refine wpList_append_run rfl (.tmp 78) (.tmp 85) 52 rfl rfl _ _ rfl rfl _ _ (show _=_ from R10) ?_)
          |fail)
         have hoF:=(Oth.refl gF w10).set 1 (.slice ao9 (ps.length+1) cc9)
         have hB11:=hB10.oth hoF (by omega)
         have hF11:Bk (w10.setCell ⟨gF,1,none⟩ (.slice ao9 (ps.length+1) cc9)) gF 60 [.string (bs m.text),.slice ao9 (ps.length+1) cc9,.int .i64 0,.int .i64 0,.string ⟨#[]⟩,.string ⟨#[]⟩,.int .i64 0,.complex .f64 0 0,.slice none 0 0,.int .i64 0,.int .i64 m.at_]:=hF10.set 1 _
         have hU11:=hoF.but hU10 (by omega)
         have hbF:But gF w10 (w10.setCell ⟨gF,1,none⟩ (.slice ao9 (ps.length+1) cc9)):=⟨hoF.os,hoF.tape,hoF.output,by rw[hoF.size];omega,fun i _ hn=>hoF.block i hn⟩
         have hs11:=bL hs10 hbF (by omega) (by omega)
         have P11:PrW (w10.setCell ⟨gF,1,none⟩ (.slice ao9 (ps.length+1) cc9)) (gF+1) ao9 cc9 (ps++[⟨m'.text,t,m'.at_⟩]):=P10.oth hoF (by omega)
         have ms1:=aR hd
         have hsl:(ps++[(⟨m'.text,t,m'.at_⟩:Pm)]).length=ps.length+1:=by rw[List.length_append];rfl
         cases hq2:nx (nx (.ok u5 (k2+1):Rs Unit) (au I.M ps.length (lmOf I).a)) (aK I.M) with
         |out=>exact absurd hq2 (cB (by simp))
         |bad y' j'=>
          have HE:Hid (rp=.bad y' j'):=by show rp=_;rw[show rp=_ from HX,cO hq2];rfl
          rw[hq2] at hs11
          obtain⟨hy,kz,dz,hdz⟩:=hs11
          have ms2:=bI hy hdz
          try dsimp only[Act.put]
          go_roundw
          case rel=>exact⟨hB11,hU11,ao9,cc9,ps++[⟨m'.text,t,m'.at_⟩],by rw[hsl];exact hF11,P11,.inr ⟨y',j',kz,dz,HE,hy,hdz⟩⟩
          case measure=>exact bf ms1 ms2 hkn
         |ok t' k3=>
          have HE:Hid (Pg I.M (lmOf I) f rp (ps++[⟨m'.text,t,m'.at_⟩]) k3):=eD (show rp=_ from HX) (dB hgn hgt hq2)
          rw[hq2] at hs11
          have hdz:Rq I (w10.setCell ⟨gF,1,none⟩ (.slice ao9 (ps.length+1) cc9)) R k3 0 0 z:=hs11
          have hge:k2+1≤k3:=dE (fun u j e=>by cases e;omega) hq2
          have ms2:=aR hdz
          try dsimp only[Act.put]
          go_roundw
          case rel=>exact⟨hB11,hU11,ao9,cc9,ps++[⟨m'.text,t,m'.at_⟩],by rw[hsl];exact hF11,P11,.inl ⟨k3,HE,hdz,by rw[hsl];omega⟩⟩
          case measure=>exact aZ ms1 ms2 hkn hge
        ·have g0:((I.M (k2+1)).kind==0)=false:=by
          rw[beq_eq_false_iff_ne]
          exact hkd
         clear hlm hkd
         go_wp2_with fail
         refine wp_region_any (by kernel_rfl) ?_
         change wpAny _ _ _ _ _ _ _ (World.drew _)
         refine wpAny_take (i:=0) (v:=?_) rfl (by kernel_rfl) (by kernel_rfl) (by kernel_rfl) (fun _ _ _ h=>h) (Or.inl ⟨by kernel_rfl,?_⟩) ?_
         rotate_left 1
         ·(intro w;go_simp;try with_reducible rfl)
         try simp only[Act.put,List.getElem_toArray,List.getElem_cons_zero,List.setIfInBounds_toArray,List.set_cons_zero,List.set_cons_succ]
         refine wpAny_take (i:=1) (v:=?_) rfl (by kernel_rfl) (by kernel_rfl) (by kernel_rfl) (fun _ _ _ h=>h) (Or.inl ⟨by kernel_rfl,?_⟩) ?_
         rotate_left 1
         ·(intro w;go_simp;try with_reducible rfl)
         try simp only[Act.put,List.getElem_toArray,List.getElem_cons_succ,List.getElem_cons_zero,List.setIfInBounds_toArray,List.set_cons_zero,List.set_cons_succ]
         refine wpAny_take (i:=2) (v:=?_) rfl (by kernel_rfl) (by kernel_rfl) (by kernel_rfl) (fun _ _ _ h=>h) (Or.inl ⟨by kernel_rfl,?_⟩) ?_
         rotate_left 1
         ·(intro w;go_simp;try with_reducible rfl)
         try simp only[Act.put,List.getElem_toArray,List.getElem_cons_succ,List.getElem_cons_zero,List.setIfInBounds_toArray,List.set_cons_zero,List.set_cons_succ]
         refine wpAny_ready (rs:=[3]) (by kernel_rfl) (by simp) ?_
         refine AllReady.cons rfl (fun K hK=>?_) AllReady.nil
         go_simp
         refine hK _ _ ?_
         clear hK K
         try simp only[Act.put,List.getElem_toArray,List.getElem_cons_succ,List.getElem_cons_zero,List.setIfInBounds_toArray,List.set_cons_zero,List.set_cons_succ]
         refine wpAny_take (i:=4) (v:=?_) rfl (by kernel_rfl) (by kernel_rfl) (by kernel_rfl) (fun _ _ _ h=>h) (Or.inl ⟨by kernel_rfl,?_⟩) ?_
         rotate_left 1
         ·(intro w;go_simp;try with_reducible rfl)
         try simp only[Act.put,List.getElem_toArray,List.getElem_cons_succ,List.getElem_cons_zero,List.setIfInBounds_toArray,List.set_cons_zero,List.set_cons_succ]
         refine wpAny_take (i:=5) (v:=?_) rfl (by kernel_rfl) (by kernel_rfl) (by kernel_rfl) (fun _ _ _ h=>h) (Or.inl ⟨by kernel_rfl,?_⟩) ?_
         rotate_left 1
         ·(intro w;go_simp;try with_reducible rfl)
         try simp only[Act.put,List.getElem_toArray,List.getElem_cons_succ,List.getElem_cons_zero,List.setIfInBounds_toArray,List.set_cons_zero,List.set_cons_succ]
         refine wpAny_take (i:=6) (v:=?_) rfl (by kernel_rfl) (by kernel_rfl) (by kernel_rfl) (fun _ _ _ h=>h) (Or.inl ⟨by kernel_rfl,?_⟩) ?_
         rotate_left 1
         ·(intro w;go_simp;try with_reducible rfl)
         try simp only[Act.put,List.getElem_toArray,List.getElem_cons_succ,List.getElem_cons_zero,List.setIfInBounds_toArray,List.set_cons_zero,List.set_cons_succ]
         refine wpAny_ready (rs:=[7]) (by kernel_rfl) (by simp) ?_
         refine AllReady.cons rfl (fun K hK=>?_) AllReady.nil
         go_simp
         go_wp2_with (go_at_call 67;refine hnx.mono ?_;rintro e wa ⟨rfl,hba⟩;unfold mkV;have hbw:=Below.thn (Below.refl _ w5).drew hba)
         try (refine hK _ _ ?_;clear hK K)
         try simp only[Act.put,List.getElem_toArray,List.getElem_cons_succ,List.getElem_cons_zero,List.setIfInBounds_toArray,List.set_cons_zero,List.set_cons_succ]
         refine wpAny_take (i:=8) (v:=?_) rfl (by kernel_rfl) (by kernel_rfl) (by kernel_rfl) (fun _ _ _ h=>h) (Or.inl ⟨by kernel_rfl,?_⟩) ?_
         rotate_left 1
         ·(intro w;go_simp;try with_reducible rfl)
         try simp only[Act.put,List.getElem_toArray,List.getElem_cons_succ,List.getElem_cons_zero,List.setIfInBounds_toArray,List.set_cons_zero,List.set_cons_succ]
         refine wpAny_take (i:=9) (v:=?_) rfl (by kernel_rfl) (by kernel_rfl) (by kernel_rfl) (fun _ _ _ h=>h) (Or.inl ⟨by kernel_rfl,?_⟩) ?_
         rotate_left 1
         ·(intro w;go_simp;try with_reducible rfl)
         try simp only[Act.put,List.getElem_toArray,List.getElem_cons_succ,List.getElem_cons_zero,List.setIfInBounds_toArray,List.set_cons_zero,List.set_cons_succ]
         refine wpAny_take (i:=10) (v:=?_) rfl (by kernel_rfl) (by kernel_rfl) (by kernel_rfl) (fun _ _ _ h=>h) (Or.inl ⟨by kernel_rfl,?_⟩) ?_
         rotate_left 1
         ·(intro w;go_simp;try with_reducible rfl)
         try simp only[Act.put,List.getElem_toArray,List.getElem_cons_succ,List.getElem_cons_zero,List.setIfInBounds_toArray,List.set_cons_zero,List.set_cons_succ]
         refine wpAny_take (i:=11) (v:=?_) rfl (by kernel_rfl) (by kernel_rfl) (by kernel_rfl) (fun _ _ _ h=>h) (Or.inl ⟨by kernel_rfl,?_⟩) ?_
         rotate_left 1
         ·(intro w;go_simp;try with_reducible rfl)
         try simp only[Act.put,List.getElem_toArray,List.getElem_cons_succ,List.getElem_cons_zero,List.setIfInBounds_toArray,List.set_cons_zero,List.set_cons_succ]
         refine wpAny_take (i:=12) (v:=undef) rfl (by kernel_rfl) (by kernel_rfl) (by kernel_rfl) (fun _ _ _ h=>h) (Or.inr ⟨by kernel_rfl,rfl⟩) ?_
         try simp only[Act.put,List.getElem_toArray,List.getElem_cons_succ,List.getElem_cons_zero,List.setIfInBounds_toArray,List.set_cons_zero,List.set_cons_succ]
         refine wpAny_take (i:=13) (v:=undef) rfl (by kernel_rfl) (by kernel_rfl) (by kernel_rfl) (fun _ _ _ h=>h) (Or.inr ⟨by kernel_rfl,rfl⟩) ?_
         try simp only[Act.put,List.getElem_toArray,List.getElem_cons_succ,List.getElem_cons_zero,List.setIfInBounds_toArray,List.set_cons_zero,List.set_cons_succ]
         refine wpAny_take (i:=14) (v:=undef) rfl (by kernel_rfl) (by kernel_rfl) (by kernel_rfl) (fun _ _ _ h=>h) (Or.inr ⟨by kernel_rfl,rfl⟩) ?_
         try simp only[Act.put,List.getElem_toArray,List.getElem_cons_succ,List.getElem_cons_zero,List.setIfInBounds_toArray,List.set_cons_zero,List.set_cons_succ]
         refine wpAny_take (i:=15) (v:=undef) rfl (by kernel_rfl) (by kernel_rfl) (by kernel_rfl) (fun _ _ _ h=>h) (Or.inr ⟨by kernel_rfl,rfl⟩) ?_
         try simp only[Act.put,List.getElem_toArray,List.getElem_cons_succ,List.getElem_cons_zero,List.setIfInBounds_toArray,List.set_cons_zero,List.set_cons_succ]
         refine wpAny_take (i:=16) (v:=undef) rfl (by kernel_rfl) (by kernel_rfl) (by kernel_rfl) (fun _ _ _ h=>h) (Or.inr ⟨by kernel_rfl,rfl⟩) ?_
         try simp only[Act.put,List.getElem_toArray,List.getElem_cons_succ,List.getElem_cons_zero,List.setIfInBounds_toArray,List.set_cons_zero,List.set_cons_succ]
         refine wpAny_take (i:=17) (v:=undef) rfl (by kernel_rfl) (by kernel_rfl) (by kernel_rfl) (fun _ _ _ h=>h) (Or.inr ⟨by kernel_rfl,rfl⟩) ?_
         try simp only[Act.put,List.getElem_toArray,List.getElem_cons_succ,List.getElem_cons_zero,List.setIfInBounds_toArray,List.set_cons_zero,List.set_cons_succ]
         refine wpAny_take (i:=18) (v:=undef) rfl (by kernel_rfl) (by kernel_rfl) (by kernel_rfl) (fun _ _ _ h=>h) (Or.inr ⟨by kernel_rfl,rfl⟩) ?_
         try simp only[Act.put,List.getElem_toArray,List.getElem_cons_succ,List.getElem_cons_zero,List.setIfInBounds_toArray,List.set_cons_zero,List.set_cons_succ]
         refine wpAny_take (i:=19) (v:=undef) rfl (by kernel_rfl) (by kernel_rfl) (by kernel_rfl) (fun _ _ _ h=>h) (Or.inr ⟨by kernel_rfl,rfl⟩) ?_
         try simp only[Act.put,List.getElem_toArray,List.getElem_cons_succ,List.getElem_cons_zero,List.setIfInBounds_toArray,List.set_cons_zero,List.set_cons_succ]
         refine wpAny_take (i:=20) (v:=undef) rfl (by kernel_rfl) (by kernel_rfl) (by kernel_rfl) (fun _ _ _ h=>h) (Or.inr ⟨by kernel_rfl,rfl⟩) ?_
         try simp only[Act.put,List.getElem_toArray,List.getElem_cons_succ,List.getElem_cons_zero,List.setIfInBounds_toArray,List.set_cons_zero,List.set_cons_succ]
         refine wpAny_take (i:=21) (v:=?_) rfl (by kernel_rfl) (by kernel_rfl) (by kernel_rfl) (fun _ _ _ h=>h) (Or.inl ⟨by kernel_rfl,?_⟩) ?_
         rotate_left 1
         ·(intro w;go_simp;try with_reducible rfl)
         try simp only[Act.put,List.getElem_toArray,List.getElem_cons_succ,List.getElem_cons_zero,List.setIfInBounds_toArray,List.set_cons_zero,List.set_cons_succ]
         refine wpAny_done (by kernel_rfl) ?_ _
         have B_3:=B_2.up hbw
         have U_3:=U_2.then hbw
         have F_3:=F_2.up hbw
         have P_3:=P_2.up hbw
         have Q_3:=hd5.up hbw
         have lB_3:=B_3.lt
         have lF_3:=F_3.lt
         have s_3:=hbw.size
         go_wp2_with fail
         refine (aW I hE (.ok () (k2+1):Rs Unit) wa R z Q_3).mono ?_
         rintro e w7 ⟨m',rfl,hgn,hs7,hV7⟩
         have hgn:Got (nx (.ok u5 (k2+1):Rs Unit) (au I.M ps.length (lmOf I).a)) m':=fun x j e=>hgn x j (by rw[HM] at e;exact e)
         have hs7:St I w7 R z (nx (.ok u5 (k2+1):Rs Unit) (au I.M ps.length (lmOf I).a)):=by rw[HM];exact hs7
         have B_4:=B_3.but hV7 (by omega)
         have U_4:=U_3.trans hV7
         have F_4:=F_3.but hV7 (by omega)
         have P_4:=P_3.but hV7 (by omega)
         have lB_4:=B_4.lt
         have lF_4:=F_4.lt
         have s_4:=hV7.size
         unfold mkV
         go_wp2_with (first
          |(refine af rfl 135 (.tmp 7) (.tmp 74) rfl w7.heap.size 0 (mkC m') rfl rfl (Bk.new w7 135 mz) (Nat.le_refl 4) Tryz.infoM (aC _) ?_;intro w8 M_5 hoa5;have hba5:Below w7.heap.size w7 w8:=(ae w7 (.cells mz 135)).trans (hoa5.below (Nat.le_refl _));have B_5:=B_4.up hba5;have U_5:=U_4.then hba5;have F_5:=F_4.up hba5;have P_5:=P_4.up hba5;have Q_5:=hs7.up hba5;have lB_5:=B_5.lt;have lF_5:=F_5.lt;have lM_5:=M_5.lt;have s_5:=hba5.size)
          |fail)
         refine (bv I hE hW3 (nx (.ok u5 (k2+1):Rs Unit) (au I.M ps.length (lmOf I).a)) w8 R z Q_5).mono ?_
         rintro e w9 ⟨t,rfl,hgt,hs9,hV9⟩
         have B_6:=B_5.but hV9 (by omega)
         have U_6:=U_5.trans hV9
         have F_6:=F_5.but hV9 (by omega)
         have P_6:=P_5.but hV9 (by omega)
         have M_6:=M_5.but hV9 (by omega)
         have lB_6:=B_6.lt
         have lF_6:=F_6.lt
         have lM_6:=M_6.lt
         have s_6:=hV9.size
         obtain⟨m0,m1,m2,m3⟩:=Bk.four (show Bk w9 w7.heap.size _ [_,_,_,_] from M_6)
         obtain⟨-,x3,-⟩:=Bk.eleven (show Bk w9 gF _ [_,_,_,_,_,_,_,_,_,_,_] from F_6)
         obtain⟨ao9,cc9,w10,r10,P10,B10⟩:=P_6.app (by omega) m'.text t m'.at_ (by omega)
         have hF10:=F_6.low B10 (by omega)
         have hB10:=B_6.low B10 (by omega)
         have hs10:=hs9.low B10 (by omega) (by omega)
         have hU10:=U_6.low (B10.mono (by omega))
         have y10:w10.cell? ⟨gF,1,none⟩=some (.slice ao ps.length cc):=hF10.cell 1
         have z10:=hF10.frz 1
         have R10:Hid (_=_):=r10
         clear r10
         go_wp2_with (first
          |(at_builtin;refine wpList_append_run rfl (.tmp 78) (.tmp 85) 52 rfl rfl _ _ rfl rfl _ _ (show _=_ from R10) ?_)
          |fail)
         have hoF:=(Oth.refl gF w10).set 1 (.slice ao9 (ps.length+1) cc9)
         have hB11:=hB10.oth hoF (by omega)
         have hF11:Bk (w10.setCell ⟨gF,1,none⟩ (.slice ao9 (ps.length+1) cc9)) gF 60 [.string (bs m.text),.slice ao9 (ps.length+1) cc9,.int .i64 0,.int .i64 0,.string ⟨#[]⟩,.string ⟨#[]⟩,.int .i64 0,.complex .f64 0 0,.slice none 0 0,.int .i64 0,.int .i64 m.at_]:=hF10.set 1 _
         have hU11:=hoF.but hU10 (by omega)
         have hbF:But gF w10 (w10.setCell ⟨gF,1,none⟩ (.slice ao9 (ps.length+1) cc9)):=⟨hoF.os,hoF.tape,hoF.output,by rw[hoF.size];omega,fun i _ hn=>hoF.block i hn⟩
         have hs11:=bL hs10 hbF (by omega) (by omega)
         have P11:PrW (w10.setCell ⟨gF,1,none⟩ (.slice ao9 (ps.length+1) cc9)) (gF+1) ao9 cc9 (ps++[⟨m'.text,t,m'.at_⟩]):=P10.oth hoF (by omega)
         have ms1:=aR hd
         have hsl:(ps++[(⟨m'.text,t,m'.at_⟩:Pm)]).length=ps.length+1:=by rw[List.length_append];rfl
         cases hq2:nx (nx (.ok u5 (k2+1):Rs Unit) (au I.M ps.length (lmOf I).a)) (aK I.M) with
         |out=>exact absurd hq2 (cB (by simp))
         |bad y' j'=>
          have HE:Hid (rp=.bad y' j'):=by show rp=_;rw[show rp=_ from HX,cO hq2];rfl
          rw[hq2] at hs11
          obtain⟨hy,kz,dz,hdz⟩:=hs11
          have ms2:=bI hy hdz
          try dsimp only[Act.put]
          go_roundw
          case rel=>exact⟨hB11,hU11,ao9,cc9,ps++[⟨m'.text,t,m'.at_⟩],by rw[hsl];exact hF11,P11,.inr ⟨y',j',kz,dz,HE,hy,hdz⟩⟩
          case measure=>exact bf ms1 ms2 hkn
         |ok t' k3=>
          have HE:Hid (Pg I.M (lmOf I) f rp (ps++[⟨m'.text,t,m'.at_⟩]) k3):=eD (show rp=_ from HX) (dB hgn hgt hq2)
          rw[hq2] at hs11
          have hdz:Rq I (w10.setCell ⟨gF,1,none⟩ (.slice ao9 (ps.length+1) cc9)) R k3 0 0 z:=hs11
          have hge:k2+1≤k3:=dE (fun u j e=>by cases e;omega) hq2
          have ms2:=aR hdz
          try dsimp only[Act.put]
          go_roundw
          case rel=>exact⟨hB11,hU11,ao9,cc9,ps++[⟨m'.text,t,m'.at_⟩],by rw[hsl];exact hF11,P11,.inl ⟨k3,HE,hdz,by rw[hsl];omega⟩⟩
          case measure=>exact aZ ms1 ms2 hkn hge
   ·obtain⟨-,-,c2,-⟩:=hd.nine
    have b0:(y==0)=false:=by rw[beq_eq_false_iff_ne];exact hy
    go_wp2_with fail
    refine (aA I hE [41] hW41 (.bad y j:Rs Unit) wr R z ⟨hy,k2,d',hd⟩).mono ?_
    rintro e w7 ⟨rfl,hs7,hV7⟩
    have hs7:St I w7 R z rp:=by rw[show rp=_ from HD];exact hs7
    have hgp:∀ ps' j,rp=.ok ps' j→ps=ps':=by
     intro ps' j e
     rw[show rp=_ from HD] at e
     cases e
    have B_1:=hB.but hV7 (by omega)
    have U_1:=hU.trans hV7
    have F_1:=hF0.but hV7 (by omega)
    have P_1:=hPr.but hV7 (by omega)
    have lB_1:=B_1.lt
    have lF_1:=F_1.lt
    have s_1:=hV7.size
    go_wp2_with fail
    refine (aA I hE [58] hW58 rp w7 R z hs7).mono ?_
    rintro e w8 ⟨rfl,hs8,hV8⟩
    have B_2:=B_1.but hV8 (by omega)
    have U_2:=U_1.trans hV8
    have F_2:=F_1.but hV8 (by omega)
    have P_2:=P_1.but hV8 (by omega)
    have lB_2:=B_2.lt
    have lF_2:=F_2.lt
    have s_2:=hV8.size
    go_wp2_with fail
    refine (bv I hE hW3 (nx rp (ai I.M [58])) w8 R z hs8).mono ?_
    rintro e w9 ⟨t,rfl,hgt,hs9,hV9⟩
    have B_3:=B_2.but hV9 (by omega)
    have U_3:=U_2.trans hV9
    have F_3:=F_2.but hV9 (by omega)
    have P_3:=P_2.but hV9 (by omega)
    have lB_3:=B_3.lt
    have lF_3:=F_3.lt
    have s_3:=hV9.size
    obtain⟨-,-,x2,-⟩:=Bk.eleven (show Bk w9 gF _ [_,_,_,_,_,_,_,_,_,_,_] from F_3)
    have y2:=F_3.frz 2
    have hoT:=(Oth.refl gF w9).set 2 (.int .i64 t)
    have hF10:Bk (w9.setCell ⟨gF,2,none⟩ (.int .i64 t)) gF 60 [.string (bs m.text),.slice ao ps.length cc,.int .i64 t,.int .i64 0,.string ⟨#[]⟩,.string ⟨#[]⟩,.int .i64 0,.complex .f64 0 0,.slice none 0 0,.int .i64 0,.int .i64 m.at_]:=F_3.set 2 (.int .i64 t)
    have hs9:St I w9 R z r3:=by rw[show r3=_ from H3];exact hs9
    have hgt:Got r3 t:=fun x j e=>hgt x j (by rw[← show r3=_ from H3];exact e)
    have B_4:=B_3.oth hoT (by omega)
    have U_4:=hoT.but U_3 (by omega)
    have P_4:=P_3.oth hoT (by omega)
    have Q_4:=hs9.oth hoT (by omega) (by omega)
    have lB_4:=B_4.lt
    have lF_4:=hF10.lt
    go_wp2_with fail
    refine (aA I hE [61] hW61 r3 _ R z Q_4).mono ?_
    rintro e w11 ⟨rfl,hs11,hV11⟩
    have B_5:=B_4.but hV11 (by omega)
    have U_5:=U_4.trans hV11
    have P_5:=P_4.but hV11 (by omega)
    have F_5:=hF10.but hV11 (by omega)
    have lB_5:=B_5.lt
    have lF_5:=F_5.lt
    have s_5:=hV11.size
    go_wp2_with fail
    refine (hA.expr (nx r3 (ai I.M [61])) w11 R z hs11 (by rw[← show r5=_ from H5];exact hr5o)).mono ?_
    rintro e w12 ⟨us,rfl,sv,hex,hs12,hV12⟩
    obtain⟨e0,e1,e2,e3,e4,e5,e6,rfl⟩:=aP sv.len
    have B_6:=B_5.but hV12 (by omega)
    have U_6:=U_5.trans hV12
    have P_6:=P_5.but hV12 (by omega)
    have F_6:=F_5.but hV12 (by omega)
    have lB_6:=B_6.lt
    have lF_6:=F_6.lt
    have s_6:=hV12.size
    have hs12:St I w12 R z r5:=by rw[show r5=_ from H5];exact hs12
    have hex:∀ x j,r5=.ok x j→ExV w12 w11.heap.size x [e0,e1,e2,e3,e4,e5,e6]:=fun x j e=>hex x j (by rw[← show r5=_ from H5];exact e)
    go_wp2_with (first
     |(refine af rfl 58 (.tmp 99) (.tmp 98) rfl gF 3 [e0,e1,e2,e3,e4,e5,e6] rfl rfl F_6 (show (3+7:Nat)≤11 by decide) Tryz.infoE sv.one ?_;intro w13 hF13 ho13)
     |fail)
    have hF13:Bk w13 gF 60 [.string (bs m.text),.slice ao ps.length cc,.int .i64 t,e0,e1,e2,e3,e4,e5,e6,.int .i64 m.at_]:=hF13
    have B_7:=B_6.oth ho13 (by omega)
    have U_7:=ho13.but U_6 (by omega)
    have P_7:=P_6.oth ho13 (by omega)
    have Q_7:=hs12.oth ho13 (by omega) (by omega)
    have X_7:=fun x j e=>(hex x j e).oth2 ho13 (fun b hb=>by omega)
    have lB_7:=B_7.lt
    have lF_7:=hF13.lt
    refine (aA I hE [59] hW59 r5 w13 R z Q_7).mono ?_
    rintro e w14 ⟨rfl,hs14,hV14⟩
    have B_8:=B_7.but hV14 (by omega)
    have U_8:=U_7.trans hV14
    have P_8:=P_7.but hV14 (by omega)
    have X_8:=fun x j e=>(X_7 x j e).but2 hV14 (fun b hb=>by omega)
    have F_8:=hF13.but hV14 (by omega)
    have lB_8:=B_8.lt
    have lF_8:=F_8.lt
    have s_8:=hV14.size
    have hs14:St I w14 R z r6:=by rw[show r6=_ from H6];exact hs14
    have hse:=pW (bs m.text) ao ps.length cc t m.at_ sv
    go_wp2_with (first
     |refine ah rfl 60 (.tmp 6) rfl gF 0 rfl [.string (bs m.text),.slice ao ps.length cc,.int .i64 t,e0,e1,e2,e3,e4,e5,e6,.int .i64 m.at_] _ (F_8.range 0 11) Tryz.underFn Tryz.infoFn ?_
     |(refine af rfl 60 (.tmp 4) (.tmp 102) rfl w.heap.size 0 [.string (bs m.text),.slice ao ps.length cc,.int .i64 t,e0,e1,e2,e3,e4,e5,e6,.int .i64 m.at_] rfl rfl B_8 (Nat.le_refl 11) Tryz.infoFn hse.one ?_;intro wz hBz hoz;obtain⟨q0,q1,q2,q3,q4,q5,q6,q7,q8,q9,q10⟩:=Bk.eleven (show Bk wz w.heap.size _ [_,_,_,_,_,_,_,_,_,_,_] from hBz))
     |fail)
    have U_9:=hoz.but U_8 (by omega)
    have P_9:=P_8.oth hoz (by omega)
    have X_9:=fun x j e=>(X_8 x j e).oth2 hoz (fun b hb=>by omega)
    have F_9:=F_8.oth hoz (by omega)
    have Q_9:=hs14.oth hoz (by omega) (by omega)
    refine bodyPost_ret (v:=.agg #[.string (bs m.text),.slice ao ps.length cc,.int .i64 t,e0,e1,e2,e3,e4,e5,e6,.int .i64 m.at_]) (by simp[results,Tryz.results68,go_sem,q0,q1,q2,q3,q4,q5,q6,q7,q8,q9,q10]) rfl ⟨_,rfl,hse,?_,?_,U_9⟩
    ·intro x0 j0 e
     rw[show r=_ from HR] at e
     obtain⟨ch1,-,-,ch4⟩:=(show _∧_∧_∧_ from HC)
     cases hq6:r6 with
     |out=>rw[hq6] at hs14;exact hs14.elim
     |bad y' j'=>rw[ch1 y' j' hq6] at e;cases e
     |ok u j6=>
      obtain⟨x,i1,ps',i2,t',i4,b,i6,g1,g2,g3,g5,g6⟩:=ch4 u j6 hq6
      rw[g6] at e
      cases e
      obtain rfl:=hgm x i1 g1
      obtain rfl:=hgp ps' i2 g2
      obtain rfl:=hgt t' i4 g3
      exact⟨ao,cc,_,rfl,(P_9.read).imp fun b hb _=>by omega,(X_9 b i6 g5).imp fun b hb _=>by omega⟩
    ·rw[show r=_ from HR]
     obtain⟨ch1,-,-,ch4⟩:=(show _∧_∧_∧_ from HC)
     have hsz:=Q_9
     cases hq6:r6 with
     |out=>rw[hq6] at hsz;exact hsz.elim
     |bad y' j'=>rw[hq6] at hsz;rw[ch1 y' j' hq6];exact hsz
     |ok u j6=>
      obtain⟨x,i1,ps',i2,t',i4,b,i6,g1,g2,g3,g5,g6⟩:=ch4 u j6 hq6
      rw[hq6] at hsz
      rw[g6]
      exact hsz
end Go.Proofs.YtimoappbefindaaGreat
