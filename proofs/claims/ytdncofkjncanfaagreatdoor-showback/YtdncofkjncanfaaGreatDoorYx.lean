/-
  The walk of the document's Parse.
-/
import Derived.Test.YtdncofkjncanfaaGreatDoorYw
import Derived.Test.YtdncofkjncanfaaGreatDoorUI
import Derived.Test.YtdncofkjncanfaaGreatDoorUT
import Derived.Test.YtdncofkjncanfaaGreatDoorUM
import Derived.Test.YtdncofkjncanfaaGreatDoorUQ
import Derived.Test.YtdncofkjncanfaaGreatDoorUA
namespace Go.Proofs.YtdncofkjncanfaaGreatDoor
open Go.RowKit
set_option maxRecDepth 100000
set_option maxHeartbeats 2000000 in
theorem rparse_all (ao:Option Addr) (cap:Nat) (l:List UInt8) (hcap:l.length≤cap) (lt lf la ln:Int) (hln:ln≤9223372036854775807) (w:World) (hT:Bd w ao l) (f:Nat)
  (hf:∀ ms,cut rdN l 0=.ok ms→progL (mf ms) ⟨max lf 0,max la 0,max ln 0⟩ f [] 0≠.out) :
  Calls Tryz.prog 11 #[.slice ao l.length cap,.agg #[.int .i64 lt,.int .i64 lf,.int .i64 la,.int .i64 ln]] w fun e w'=>Below w.heap.size w w'∧paV l lt lf la ln f w.heap.size e w':=by
 have hL0:=((Bk.new w 25 #[.int .i64 lt,.int .i64 lf,.int .i64 la,.int .i64 ln]).up (below_alloc _ (.cells #[.slice none 0 0] 29))).up (below_alloc _ (.cells #[.int .i64 0,.int .i64 0] 32))
 have hP0:=(Bk.newAt (w:=w.alloc (.cells #[.int .i64 lt,.int .i64 lf,.int .i64 la,.int .i64 ln] 25)) (n:=w.heap.size+1) 29 #[.slice none 0 0] (by simp)).up (below_alloc _ (.cells #[.int .i64 0,.int .i64 0] 32))
 have hF0:=Bk.newAt (w:=(w.alloc (.cells #[.int .i64 lt,.int .i64 lf,.int .i64 la,.int .i64 ln] 25)).alloc (.cells #[.slice none 0 0] 29)) (n:=w.heap.size+1+1) 32 #[.int .i64 0,.int .i64 0] (by simp)
 have hB0:=Below.thn (below_two w (.cells #[.int .i64 lt,.int .i64 lf,.int .i64 la,.int .i64 ln] 25) (.cells #[.slice none 0 0] 29)) (below_alloc _ (.cells #[.int .i64 0,.int .i64 0] 32))
 obtain⟨W0,hW0⟩:∃ W0,W0=((w.alloc (.cells #[.int .i64 lt,.int .i64 lf,.int .i64 la,.int .i64 ln] 25)).alloc (.cells #[.slice none 0 0] 29)).alloc (.cells #[.int .i64 0,.int .i64 0] 32):=⟨_,rfl⟩
 rw[← hW0] at hL0 hP0 hF0 hB0
 go_enter Tryz.func11,Tryz.ntmps11
 go_upto_region 1 with fail
 rw[← hW0]
 clear hW0
 obtain⟨T,hTd⟩:∃ T,T=min (max lt 0) 32768:=⟨_,rfl⟩
 have c0:=(show Bk W0 w.heap.size _ [_,_,_,_] from hL0).four.1
 have z0:=hL0.frz 0
 have hL1:Bk (W0.setCell ⟨w.heap.size,0,none⟩ (.int .i64 T)) w.heap.size 25 [.int .i64 T,.int .i64 lf,.int .i64 la,.int .i64 ln]:=hL0.set 0 _
 have ho1:=(Oth.refl w.heap.size W0).set 0 (.int .i64 T)
 have hP1:=hP0.oth ho1 (by omega)
 have hF1:=hF0.oth ho1 (by omega)
 have hB1:Below w.heap.size w (W0.setCell ⟨w.heap.size,0,none⟩ (.int .i64 T)):=hB0.trans (ho1.below (Nat.le_refl _))
 go_upto_region 2 with fail
 rw[← hTd]
 obtain⟨W1,hW1⟩:∃ W1,W1=W0.setCell ⟨w.heap.size,0,none⟩ (.int .i64 T):=⟨_,rfl⟩
 rw[← hW1] at hL1 hP1 hF1 hB1 ⊢
 clear hW1 ho1 c0 z0 hL0 hP0 hF0 hB0
 have HT:Hid (T=cT lt):=hTd
 clear hTd
 have d0:=hL1.four.1
 have hPl:=hP1.lt
 have hFl:=hF1.lt
 by_cases hbig:T<l.length
 ·have hbd:decide (T<(l.length:Int))=true:=by rw[decide_eq_true_eq];exact hbig
  have e0:=hP1.cell 0
  have e1:=hP1.frz 0
  have d0':=hF1.cell 0
  have d1:=hF1.cell 1
  have d2:=hF1.frz 0
  have d3:=hF1.frz 1
  go_wp2_with fail
  go_region
  all_goals
   go_wp2
   have e1:Bk ((((W1.setCell ⟨w.heap.size+1,0,none⟩ (.slice none 0 0)).setCell ⟨w.heap.size+1+1,0,none⟩ (.int .i64 22)).setCell ⟨w.heap.size+1+1,1,none⟩ (.int .i64 T)).drew) (w.heap.size+1) 29 [.slice none 0 0]:=((hP1.set 0 _).out (by omega)).out (by omega)
   have e2:Bk ((((W1.setCell ⟨w.heap.size+1,0,none⟩ (.slice none 0 0)).setCell ⟨w.heap.size+1+1,0,none⟩ (.int .i64 22)).setCell ⟨w.heap.size+1+1,1,none⟩ (.int .i64 T)).drew) (w.heap.size+1+1) 32 [.int .i64 22,.int .i64 T]:=((hF1.out (by omega)).set 0 _).set 1 _
   have e3:=((((Two.refl (w.heap.size+1) (w.heap.size+1+1) W1).setP 0 (.slice none 0 0)).setQ 0 (.int .i64 22)).setQ 1 (.int .i64 T)).drew
   have p0:=e1.cell 0
   have f0:=e2.cell 0
   have f1:=e2.cell 1
   have hfin:Below w.heap.size w ((((W1.setCell ⟨w.heap.size+1,0,none⟩ (.slice none 0 0)).setCell ⟨w.heap.size+1+1,0,none⟩ (.int .i64 22)).setCell ⟨w.heap.size+1+1,1,none⟩ (.int .i64 T)).drew)∧paV l lt lf la ln f w.heap.size (.returned (noneV 22 T)) ((((W1.setCell ⟨w.heap.size+1,0,none⟩ (.slice none 0 0)).setCell ⟨w.heap.size+1+1,0,none⟩ (.int .i64 22)).setCell ⟨w.heap.size+1+1,1,none⟩ (.int .i64 T)).drew):=by
    refine⟨hB1.trans (e3.below (by omega) (by omega)),?_⟩
    unfold paV
    rw[if_pos (by rw[← show T=_ from HT];exact hbig),← show T=_ from HT]
   generalize hW:(((W1.setCell ⟨w.heap.size+1,0,none⟩ (.slice none 0 0)).setCell ⟨w.heap.size+1+1,0,none⟩ (.int .i64 22)).setCell ⟨w.heap.size+1+1,1,none⟩ (.int .i64 T)).drew=W at *
   refine bodyPost_ret (v:=noneV 22 T) (by simp[results,Tryz.results11,go_sem,noneV,show W.cell? ⟨w.heap.size+1,0,none⟩=some (.slice none 0 0) from p0,show W.cell? ⟨w.heap.size+1+1,0,none⟩=some (.int .i64 22) from f0,show W.cell? ⟨w.heap.size+1+1,1,none⟩=some (.int .i64 T) from f1]) rfl hfin
 ·have hbd:decide (T<(l.length:Int))=false:=by rw[decide_eq_false_iff_not];exact hbig
  have hlm:(l.length:Int)≤32768:=by have:=show T=_ from HT;unfold cT at this;omega
  have HB:Hid ((l.length:Int)≤cT lt):=by show _≤_;rw[← show T=_ from HT];omega
  clear hbig
  go_wp2_with fail
  refine (refMarks_any ao cap l (by omega) hcap W1 (hT.up hB1)).mono ?_
  rintro e w3 ⟨hra,hb3⟩
  have hL3:=hL1.up hb3
  have hP3:=hP1.up hb3
  have hF3:=hF1.up hb3
  have hB3:=Below.thn hB1 hb3
  have hz3:=hb3.size
  obtain⟨cA,hcA⟩:∃ c,c=cut rdN l 0:=⟨_,rfl⟩
  rw[← hcA] at hra
  clear hL1 hP1 hF1 hB1 d0 hbd
  cases cA with
  |bad k=>
   have HA:Hid (Cu.bad k=cut rdN l 0):=hcA
   clear hcA hf
   rw[show e=_ from hra]
   clear hra
   have b0:decide (0≤(k:Int))=true:=by rw[decide_eq_true_eq];omega
   go_wp2_with (first
    |(refine wpList_storeN rfl 29 (.tmp 4) (.tmp 31) rfl (w.heap.size+1) 0 [.slice none 0 0] rfl rfl hP3 (Nat.le_refl 1) Tryz.infoPr (onc1 _ rfl) ?_;intro w4 hP4 ho4;have hF4:=hF3.oth ho4 (by omega))
    |(refine wpList_storeN rfl 32 (.tmp 5) (.tmp 33) rfl (w.heap.size+1+1) 0 [.int .i64 20,.int .i64 k] rfl rfl hF4 (Nat.le_refl 2) Tryz.infoF (onc2 _ _ rfl rfl) ?_;intro w5 hF5 ho5;have hP5:=hP4.oth ho5 (by omega))
    |fail)
   have p0:w5.cell? ⟨w.heap.size+1,0,none⟩=some (.slice none 0 0):=hP5.cell 0
   obtain⟨f0,f1⟩:=Bk.two (show Bk w5 (w.heap.size+1+1) _ [_,_] from hF5)
   refine bodyPost_ret (v:=noneV 20 k) (by simp[results,Tryz.results11,go_sem,noneV,p0,f0,f1]) rfl ⟨(hB3.trans (ho4.below (by omega))).trans (ho5.below (by omega)),?_⟩
   unfold paV
   rw[if_neg (Int.not_lt.2 (show _≤_ from HB)),← show Cu.bad k=_ from HA]
  |ok ms=>
   have hrow:=cut_row rdN _ _ _ hcA.symm
   have hfew:=cut_few _ _ _ hcA.symm
   have hne:=hf ms hcA.symm
   have hwm:=mf_wm hcA.symm
   have hkw:=mf_kw hcA.symm
   have HA:Hid (Cu.ok ms=cut rdN l 0):=hcA
   clear hcA hf
   have hpos:=hrow.pos
   obtain⟨g,c,rfl,hown⟩:=hra
   have hmr:=Mr.of hown
   have hgl:=(owns_lt hown g rfl)
   have hgB:=owns_ge hown
   have hb4:=below_alloc w3 (.cells #[.slice (some ⟨g,0,none⟩) ms.length c,.int .i64 0,.int .i64 0,.int .i64 0,.int .i64 T,.int .i64 lf,.int .i64 la,.int .i64 ln,.int .i64 0] 70)
   obtain⟨I,hI⟩:∃ I:Rdi,I=⟨g,0,c,ms.length,mf ms,T,lf,la,ln⟩:=⟨_,rfl⟩
   obtain⟨z,hz⟩:∃ z:Nat,z=0:=⟨_,rfl⟩
   have hrq:Rq I (w3.alloc (.cells #[.slice (some ⟨g,0,none⟩) ms.length c,.int .i64 0,.int .i64 0,.int .i64 0,.int .i64 T,.int .i64 lf,.int .i64 la,.int .i64 ln,.int .i64 0] 70)) w3.heap.size 0 0 0 z:=by
    subst hI
    subst hz
    refine⟨Bk.new w3 70 #[.slice (some ⟨g,0,none⟩) ms.length c,.int .i64 0,.int .i64 0,.int .i64 0,.int .i64 T,.int .i64 lf,.int .i64 la,.int .i64 ln,.int .i64 0],fun t ht=>?_,Nat.ne_of_lt hgl,hpos,by show ms.length≤_;omega⟩
    have h1:=hmr.at t ht
    have e:mf ms t=ms.getD t md:=by unfold mf;simp[List.getD_eq_getElem?_getD,show t<ms.length from ht]
    show M4 _ g (0+t*4) (mf ms t)
    rw[e]
    exact h1.to h1.lt hb4
   have hIn:I.n=ms.length:=by rw[hI]
   have hIM:I.M=mf ms:=by rw[hI]
   have hIL:lmOf I=⟨lf,la,ln⟩:=by rw[hI];rfl
   have hEn:Ends I.M I.n:=by rw[hIn,hIM];exact hrow.ends
   have hpe:progL I.M (lmOf I) f [] 0=progL (mf ms) ⟨max lf 0,max la 0,max ln 0⟩ f [] 0:=by rw[hIM,hIL];exact clamped _ _ _ _ _ _ _
   have hWI:∀ s∈lks,Wm I.M s:=by rw[hIM];exact hwm
   have hKI:Kw I.M:=by rw[hIM];exact hkw
   have hpr:=rprogram_any I hEn hWI (allR I hEn hWI hKI (by rw[hI];exact hln)) f _ w3.heap.size 0 z hz hrq (by rw[hpe];exact hne)
   rw[hpe] at hpr
   have HIM:Hid (I.M=mf ms):=hIM
   have hP4:=hP3.up hb4
   have hF4:=hF3.up hb4
   have hB4:=Below.thn hB3 hb4
   clear hI hrq hIn hIM hIL hEn hpe hWI hKI hmr hown hwm hkw hrow
   have b0:decide (0≤(-1:Int))=false:=by decide
   go_wp2_with (first
    |refine wpList_loadN rfl 25 (.tmp 3) rfl w.heap.size 0 rfl [.int .i64 T,.int .i64 lf,.int .i64 la,.int .i64 ln] _ (hL3.range 0 4) Tryz.underL Tryz.infoL ?_
    |fail)
   refine hpr.mono ?_
   rintro e w6 ⟨ao',n,cc,rfl,hok,hst,hV6⟩
   have hz6:=hV6.size
   have es4:(w3.alloc (.cells #[.slice (some ⟨g,0,none⟩) ms.length c,.int .i64 0,.int .i64 0,.int .i64 0,.int .i64 T,.int .i64 lf,.int .i64 la,.int .i64 ln,.int .i64 0] 70)).heap.size=w3.heap.size+1:=by simp
   rw[es4] at hz6 hok
   have hP6:=hP4.but hV6 (by omega)
   have hF6:=hF4.but hV6 (by omega)
   have hB6:Below w.heap.size w w6:=hB4.trans (hV6.below (by omega) hB4.size)
   have hb7:=below_alloc w6 (.cells #[.slice ao' n cc] 29)
   have hN7:Bk (w6.alloc (.cells #[.slice ao' n cc] 29)) w6.heap.size 29 [.slice ao' n cc]:=Bk.new w6 29 #[.slice ao' n cc]
   have hP7:=hP6.up hb7
   have hF7:=hF6.up hb7
   have hB7:=Below.thn hB6 hb7
   clear hP3 hF3 hP4 hF4 hP6 hF6 hpr hL3
   obtain⟨W7,hW7⟩:∃ W7,W7=w6.alloc (.cells #[.slice ao' n cc] 29):=⟨_,rfl⟩
   have hs7:W7.heap.size=w6.heap.size+1:=by rw[hW7];simp
   cases hq:progL (mf ms) ⟨max lf 0,max la 0,max ln 0⟩ f [] 0 with
   |out=>exact absurd hq hne
   |bad y j=>
    rw[hq] at hst
    obtain⟨hy,k',d',hrq⟩:=hst
    have hr7:=hrq.up hb7
    rw[← hW7] at hN7 hP7 hF7 hB7 hr7
    obtain⟨-,-,c2,c3,-⟩:=hr7.nine
    have b1:(y != 0)=true:=by rw[bne_iff_ne];exact hy
    rw[show I.M=mf ms from HIM] at c3
    have e0:=hP7.cell 0
    have e1:=hP7.frz 0
    have d0:=hF7.cell 0
    have d1:=hF7.cell 1
    have d2:=hF7.frz 0
    have d3:=hF7.frz 1
    clear hok hrq hr7 hN7
    go_upto_region 9 with fail
    rw[← hW7]
    clear hW7
    go_wp2_with fail
    go_region
    all_goals
     go_wp2
     have e1:Bk ((((W7.setCell ⟨w.heap.size+1,0,none⟩ (.slice none 0 0)).setCell ⟨w.heap.size+1+1,0,none⟩ (.int .i64 y)).setCell ⟨w.heap.size+1+1,1,none⟩ (.int .i64 (mf ms j).at_)).drew) (w.heap.size+1) 29 [.slice none 0 0]:=((hP7.set 0 _).out (by omega)).out (by omega)
     have e2:Bk ((((W7.setCell ⟨w.heap.size+1,0,none⟩ (.slice none 0 0)).setCell ⟨w.heap.size+1+1,0,none⟩ (.int .i64 y)).setCell ⟨w.heap.size+1+1,1,none⟩ (.int .i64 (mf ms j).at_)).drew) (w.heap.size+1+1) 32 [.int .i64 y,.int .i64 (mf ms j).at_]:=((hF7.out (by omega)).set 0 _).set 1 _
     have e3:=((((Two.refl (w.heap.size+1) (w.heap.size+1+1) W7).setP 0 (.slice none 0 0)).setQ 0 (.int .i64 y)).setQ 1 (.int .i64 (mf ms j).at_)).drew
     have p0:=e1.cell 0
     have f0:=e2.cell 0
     have f1:=e2.cell 1
     have hfin:Below w.heap.size w ((((W7.setCell ⟨w.heap.size+1,0,none⟩ (.slice none 0 0)).setCell ⟨w.heap.size+1+1,0,none⟩ (.int .i64 y)).setCell ⟨w.heap.size+1+1,1,none⟩ (.int .i64 (mf ms j).at_)).drew)∧paV l lt lf la ln f w.heap.size (.returned (noneV y (mf ms j).at_)) ((((W7.setCell ⟨w.heap.size+1,0,none⟩ (.slice none 0 0)).setCell ⟨w.heap.size+1+1,0,none⟩ (.int .i64 y)).setCell ⟨w.heap.size+1+1,1,none⟩ (.int .i64 (mf ms j).at_)).drew):=by
      refine⟨hB7.trans (e3.below (by omega) (by omega)),?_⟩
      unfold paV
      rw[if_neg (Int.not_lt.2 (show _≤_ from HB)),← show Cu.ok ms=_ from HA]
      dsimp only
      rw[hq]
     generalize hW:(((W7.setCell ⟨w.heap.size+1,0,none⟩ (.slice none 0 0)).setCell ⟨w.heap.size+1+1,0,none⟩ (.int .i64 y)).setCell ⟨w.heap.size+1+1,1,none⟩ (.int .i64 (mf ms j).at_)).drew=W at *
     refine bodyPost_ret (v:=noneV y (mf ms j).at_) (by simp[results,Tryz.results11,go_sem,noneV,show W.cell? ⟨w.heap.size+1,0,none⟩=some (.slice none 0 0) from p0,show W.cell? ⟨w.heap.size+1+1,0,none⟩=some (.int .i64 y) from f0,show W.cell? ⟨w.heap.size+1+1,1,none⟩=some (.int .i64 (mf ms j).at_) from f1]) rfl hfin
   |ok gs j=>
    rw[hq] at hst hok
    have hrq:Rq I w6 w3.heap.size j 0 0 z:=hst
    obtain⟨hgn,hfl,hle⟩:=hok gs j rfl
    have hr7:=hrq.up hb7
    have hfl7:=hfl.keep (w':=w6.alloc (.cells #[.slice ao' n cc] 29)) (by simp) fun b _ hl=>hb7.block b hl
    rw[← hW7] at hN7 hP7 hF7 hB7 hr7 hfl7
    obtain⟨-,-,c2,-⟩:=hr7.nine
    have HGN:Hid (gs.length=n):=hgn
    have hNl:=hN7.lt
    clear hok hrq hr7 hgn hfl
    go_upto_region 9 with fail
    rw[← hW7]
    clear hW7
    go_wp2_with (first
     |refine wpList_loadN rfl 29 (.tmp 9) rfl w6.heap.size 0 rfl [.slice ao' n cc] _ (hN7.range 0 1) Tryz.underPr Tryz.infoPr ?_
     |(refine wpList_storeN rfl 29 (.tmp 4) (.tmp 55) rfl (w.heap.size+1) 0 [.slice ao' n cc] rfl rfl hP7 (Nat.le_refl 1) Tryz.infoPr (onc1 _ rfl) ?_;intro w8 hP8 ho8;have hF8:=hF7.oth ho8 (by omega))
     |(refine wpList_storeN rfl 32 (.tmp 5) (.tmp 56) rfl (w.heap.size+1+1) 0 [.int .i64 0,.int .i64 0] rfl rfl hF8 (Nat.le_refl 2) Tryz.infoF (onc2 _ _ rfl rfl) ?_;intro w9 hF9 ho9;have hP9:=hP8.oth ho9 (by omega))
     |fail)
    have p0:w9.cell? ⟨w.heap.size+1,0,none⟩=some (.slice ao' n cc):=hP9.cell 0
    obtain⟨f0,f1⟩:=Bk.two (show Bk w9 (w.heap.size+1+1) _ [_,_] from hF9)
    have hfl9:FlW w9 (fun b=>w.heap.size≤b) ao' gs:=((hfl7.keep (w':=w8) (Nat.le_of_eq ho8.size.symm) fun b hb _=>ho8.block b (by omega)).keep (w':=w9) (Nat.le_of_eq ho9.size.symm) fun b hb _=>ho9.block b (by omega)).imp fun b hb _=>by omega
    refine bodyPost_ret (v:=.tuple #[.agg #[.slice ao' n cc],.agg #[.int .i64 0,.int .i64 0]]) (by simp[results,Tryz.results11,go_sem,p0,f0,f1]) rfl ⟨(hB7.trans (ho8.below (by omega))).trans (ho9.below (by omega)),?_⟩
    unfold paV
    rw[if_neg (Int.not_lt.2 (show _≤_ from HB)),← show Cu.ok ms=_ from HA]
    dsimp only
    rw[hq]
    refine⟨ao',cc,?_,hfl9,by rw[show gs.length=n from HGN];exact hle⟩
    rw[show gs.length=n from HGN]
end Go.Proofs.YtdncofkjncanfaaGreatDoor
