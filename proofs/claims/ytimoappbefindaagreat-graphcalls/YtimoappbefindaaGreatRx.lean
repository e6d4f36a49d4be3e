/-
  The walk of the document's Parse.
-/
import Derived.Test.YtimoappbefindaaGreatUD
import Derived.Test.YtimoappbefindaaGreatUB
namespace Go.Proofs.YtimoappbefindaaGreat
set_option maxHeartbeats 2000000
open Go.RowKit
open Go.Lib
set_option maxRecDepth 100000
theorem mE {w W w1:World} {v:Value} (hb:Below W.heap.size W w1) (h:W.cell? ⟨w.heap.size,0,none⟩=some v):w1.cell? ⟨w.heap.size,0,none⟩=some v:=keep hb h
theorem mF {w W w1:World} {v:Value} (hb:Below W.heap.size W w1) (h:W.cell? ⟨w.heap.size,1,none⟩=some v):w1.cell? ⟨w.heap.size,1,none⟩=some v:=keep hb h
theorem lL {w W w1:World} {v:Value} (hb:Below W.heap.size W w1) (h:W.cell? ⟨w.heap.size+1,0,none⟩=some v):w1.cell? ⟨w.heap.size+1,0,none⟩=some v:=keep hb h
theorem lG {w W w1:World} {v:Value} (hb:Below W.heap.size W w1) (h:W.cell? ⟨w.heap.size+1,1,none⟩=some v):w1.cell? ⟨w.heap.size+1,1,none⟩=some v:=keep hb h
theorem frz {w W w1:World} {o:Nat} (hb:Below W.heap.size W w1) (hl:w.heap.size<W.heap.size) (h:W.frozen? ⟨w.heap.size,o,none⟩=false):w1.frozen? ⟨w.heap.size,o,none⟩=false:=by
 rw[(bcell hb).2 _ _ hl];exact h
theorem wide {w W w1:World} (hb:Below W.heap.size W w1) (h:Below w.heap.size w W):Below w.heap.size w w1:=h.trans (hb.mono h.size)
theorem bQ {w w1:World} (hB:Below w.heap.size w w1) (u v:Value):Below w.heap.size w ((w1.setCell ⟨w.heap.size,0,none⟩ u).setCell ⟨w.heap.size,1,none⟩ v):=
 Below.setCell (p:=⟨w.heap.size,1,none⟩) (Below.setCell (p:=⟨w.heap.size,0,none⟩) hB (Nat.le_refl _) u) (Nat.le_refl _) v
theorem refparse_none (l:List UInt8) (hl:l.length≤281474976710656) (h0:wL l=0) (w:World) :
  Calls Tryz.prog 83 #[.string (bs l)] w fun e w'=>e=.returned (.tuple #[.agg #[.int .i64 0,.int .i64 0],.int .i64 10])∧Below w.heap.size w w':=by
 have hw:=fun w=>iI l hl w
 rw[h0] at hw
 go_enter Tryz.func83,Tryz.ntmps83
 go_wp2_with (go_at_call 102;refine (hw _).mono ?_;rintro e w' ⟨rfl,rfl⟩)
 refine bodyPost_ret (v:=.tuple #[.agg #[.int .i64 0,.int .i64 0],.int .i64 10]) (by simp[results,Tryz.results83,go_sem]) rfl ⟨rfl,?_⟩
 exact bal (Below.refl _ _)
theorem refparse_iv (S R:ByteArray) (x:Int) (k:Nat) (hk:k≤S.size) (h1:((k:Int)==0)=false) (hR:S.extract k S.size=R) (h105:(R.toList==[105])=true)
  (hw:Hid (∀ w,Calls Tryz.prog 102 #[.string S] w fun e w'=>e=.returned (.tuple #[.int .i64 x,.int .i64 k])∧w'=w))
  (ho:okC 0 x=false) (w:World) :
  Calls Tryz.prog 83 #[.string S] w fun e w'=>e=.returned (.tuple #[.agg #[.int .i64 0,.int .i64 0],.int .i64 10])∧Below w.heap.size w w':=by
 have hk2:(k:Int)≤(S.size:Int):=by omega
 have e1:inX 0 x=0:=by unfold inX;rw[ho];rfl
 have e2:inY 0 x=0:=by unfold inY;rw[ho];rfl
 have e3:ansE 0 x=50:=by unfold ansE;rw[ho];rfl
 clear ho
 go_enter Tryz.func83,Tryz.ntmps83
 go_wp2_with fail
 refine (hw.out _).mono ?_
 rintro e w' ⟨rfl,rfl⟩
 go_wp2_with fail
 refine (dV _ _ _).mono ?_
 rintro e w' ⟨rfl,rfl⟩
 go_wp2_with fail
 refine bodyPost_ret (v:=.tuple #[.agg #[.int .i64 0,.int .i64 0],.int .i64 10]) (by simp[results,Tryz.results83,go_sem]) rfl ⟨rfl,?_⟩
 repeat (first|exact Below.refl _ _|refine bal ?_)
theorem refparse_in (S R T:ByteArray) (x:Int) (k:Nat) (hk:k≤S.size) (h1:((k:Int)==0)=false) (hR:S.extract k S.size=R) (h105:(R.toList==[105])=true)
  (hw:Hid (∀ w,Calls Tryz.prog 102 #[.string S] w fun e w'=>e=.returned (.tuple #[.int .i64 x,.int .i64 k])∧w'=w))
  (ht:Hid (∀ w,Calls Tryz.prog 104 #[.agg #[.int .i64 0,.int .i64 x]] w fun e w'=>e=.returned (.string T)∧Below w.heap.size w w'))
  (ho:okC 0 x=true) (hTS:(T.toList==S.toList)=false) (w:World) :
  Calls Tryz.prog 83 #[.string S] w fun e w'=>e=.returned (.tuple #[.agg #[.int .i64 0,.int .i64 0],.int .i64 10])∧Below w.heap.size w w':=by
 have hk2:(k:Int)≤(S.size:Int):=by omega
 have e1:inX 0 x=0:=by unfold inX;rw[ho];rfl
 have e2:inY 0 x=x:=by unfold inY;rw[ho];rfl
 have e3:ansE 0 x=0:=by unfold ansE;rw[ho];rfl
 clear ho
 go_enter Tryz.func83,Tryz.ntmps83
 go_wp2_with fail
 refine (hw.out _).mono ?_
 rintro e w' ⟨rfl,rfl⟩
 go_wp2_with fail
 refine (dV _ _ _).mono ?_
 rintro e w' ⟨rfl,rfl⟩
 go_wp2_with fail
 refine (ht.out _).mono ?_
 rintro e w1 ⟨rfl,hb⟩
 have c0:=mE (w:=w) (v:=.int .i64 0) hb (by go_simp)
 have c1:=mF (w:=w) (v:=.int .i64 0) hb (by go_simp)
 have d0:=lL (w:=w) (v:=.int .i64 0) hb (by go_simp)
 have d1:=lG (w:=w) (v:=.int .i64 x) hb (by go_simp)
 have f0:=frz (w:=w) (o:=0) hb (by simp;omega) (by go_simp)
 have f1:=frz (w:=w) (o:=1) hb (by simp;omega) (by go_simp)
 have g0:w.heap.size≤w1.heap.size:=Nat.le_trans (by simp;omega) hb.size
 have hB:=wide (w:=w) hb (by repeat (first|exact Below.refl _ _|refine bal ?_))
 go_wp2_with fail
 have s0:=World.cell?_setCell_same' w1 ⟨w.heap.size,0,none⟩ (.int .i64 0) (by rw[c0];rfl)
 have s1:((w1.setCell ⟨w.heap.size,0,none⟩ (.int .i64 0)).setCell ⟨w.heap.size,1,none⟩ (.int .i64 0)).cell? ⟨w.heap.size,1,none⟩=some (.int .i64 0):=World.cell?_setCell_same' _ _ _ (by obtain⟨v',hv⟩:=cell?_setCell_some (p:=⟨w.heap.size,0,none⟩) (x:=.int .i64 0) c1;rw[hv];rfl)
 refine bodyPost_ret (v:=.tuple #[.agg #[.int .i64 0,.int .i64 0],.int .i64 10]) (by simp[results,Tryz.results83,go_sem,s0,s1]) rfl ⟨rfl,?_⟩
 exact bQ hB _ _
theorem refparse_iy (S R T:ByteArray) (x:Int) (k:Nat) (hk:k≤S.size) (h1:((k:Int)==0)=false) (hR:S.extract k S.size=R) (h105:(R.toList==[105])=true)
  (hw:Hid (∀ w,Calls Tryz.prog 102 #[.string S] w fun e w'=>e=.returned (.tuple #[.int .i64 x,.int .i64 k])∧w'=w))
  (ht:Hid (∀ w,Calls Tryz.prog 104 #[.agg #[.int .i64 0,.int .i64 x]] w fun e w'=>e=.returned (.string T)∧Below w.heap.size w w'))
  (ho:okC 0 x=true) (hTS:(T.toList==S.toList)=true) (w:World) :
  Calls Tryz.prog 83 #[.string S] w fun e w'=>e=.returned (.tuple #[.agg #[.int .i64 0,.int .i64 x],.int .i64 0])∧Below w.heap.size w w':=by
 have hk2:(k:Int)≤(S.size:Int):=by omega
 have e1:inX 0 x=0:=by unfold inX;rw[ho];rfl
 have e2:inY 0 x=x:=by unfold inY;rw[ho];rfl
 have e3:ansE 0 x=0:=by unfold ansE;rw[ho];rfl
 clear ho
 go_enter Tryz.func83,Tryz.ntmps83
 go_wp2_with fail
 refine (hw.out _).mono ?_
 rintro e w' ⟨rfl,rfl⟩
 go_wp2_with fail
 refine (dV _ _ _).mono ?_
 rintro e w' ⟨rfl,rfl⟩
 go_wp2_with fail
 refine (ht.out _).mono ?_
 rintro e w1 ⟨rfl,hb⟩
 have c0:=mE (w:=w) (v:=.int .i64 0) hb (by go_simp)
 have c1:=mF (w:=w) (v:=.int .i64 0) hb (by go_simp)
 have d0:=lL (w:=w) (v:=.int .i64 0) hb (by go_simp)
 have d1:=lG (w:=w) (v:=.int .i64 x) hb (by go_simp)
 have f0:=frz (w:=w) (o:=0) hb (by simp;omega) (by go_simp)
 have f1:=frz (w:=w) (o:=1) hb (by simp;omega) (by go_simp)
 have g0:w.heap.size≤w1.heap.size:=Nat.le_trans (by simp;omega) hb.size
 have hB:=wide (w:=w) hb (by repeat (first|exact Below.refl _ _|refine bal ?_))
 go_wp2_with fail
 have s0:=World.cell?_setCell_same' w1 ⟨w.heap.size,0,none⟩ (.int .i64 0) (by rw[c0];rfl)
 have s1:((w1.setCell ⟨w.heap.size,0,none⟩ (.int .i64 0)).setCell ⟨w.heap.size,1,none⟩ (.int .i64 x)).cell? ⟨w.heap.size,1,none⟩=some (.int .i64 x):=World.cell?_setCell_same' _ _ _ (by obtain⟨v',hv⟩:=cell?_setCell_some (p:=⟨w.heap.size,0,none⟩) (x:=.int .i64 0) c1;rw[hv];rfl)
 refine bodyPost_ret (v:=.tuple #[.agg #[.int .i64 0,.int .i64 x],.int .i64 0]) (by simp[results,Tryz.results83,go_sem,s0,s1]) rfl ⟨rfl,?_⟩
 exact bQ hB _ _
theorem refparse_ev (S R:ByteArray) (x:Int) (k:Nat) (hk:k≤S.size) (h1:((k:Int)==0)=false) (hR:S.extract k S.size=R) (h105:(R.toList==[105])=false) (hre:R.toList.isEmpty=true)
  (hw:Hid (∀ w,Calls Tryz.prog 102 #[.string S] w fun e w'=>e=.returned (.tuple #[.int .i64 x,.int .i64 k])∧w'=w))
  (ho:okC x 0=false) (w:World) :
  Calls Tryz.prog 83 #[.string S] w fun e w'=>e=.returned (.tuple #[.agg #[.int .i64 0,.int .i64 0],.int .i64 10])∧Below w.heap.size w w':=by
 have hk2:(k:Int)≤(S.size:Int):=by omega
 have e1:inX x 0=0:=by unfold inX;rw[ho];rfl
 have e2:inY x 0=0:=by unfold inY;rw[ho];rfl
 have e3:ansE x 0=50:=by unfold ansE;rw[ho];rfl
 clear ho
 go_enter Tryz.func83,Tryz.ntmps83
 go_wp2_with fail
 refine (hw.out _).mono ?_
 rintro e w' ⟨rfl,rfl⟩
 go_wp2_with fail
 refine (dV _ _ _).mono ?_
 rintro e w' ⟨rfl,rfl⟩
 go_wp2_with fail
 refine bodyPost_ret (v:=.tuple #[.agg #[.int .i64 0,.int .i64 0],.int .i64 10]) (by simp[results,Tryz.results83,go_sem]) rfl ⟨rfl,?_⟩
 repeat (first|exact Below.refl _ _|refine bal ?_)
theorem refparse_en (S R T:ByteArray) (x:Int) (k:Nat) (hk:k≤S.size) (h1:((k:Int)==0)=false) (hR:S.extract k S.size=R) (h105:(R.toList==[105])=false) (hre:R.toList.isEmpty=true)
  (hw:Hid (∀ w,Calls Tryz.prog 102 #[.string S] w fun e w'=>e=.returned (.tuple #[.int .i64 x,.int .i64 k])∧w'=w))
  (ht:Hid (∀ w,Calls Tryz.prog 104 #[.agg #[.int .i64 x,.int .i64 0]] w fun e w'=>e=.returned (.string T)∧Below w.heap.size w w'))
  (ho:okC x 0=true) (hTS:(T.toList==S.toList)=false) (w:World) :
  Calls Tryz.prog 83 #[.string S] w fun e w'=>e=.returned (.tuple #[.agg #[.int .i64 0,.int .i64 0],.int .i64 10])∧Below w.heap.size w w':=by
 have hk2:(k:Int)≤(S.size:Int):=by omega
 have e1:inX x 0=x:=by unfold inX;rw[ho];rfl
 have e2:inY x 0=0:=by unfold inY;rw[ho];rfl
 have e3:ansE x 0=0:=by unfold ansE;rw[ho];rfl
 clear ho
 go_enter Tryz.func83,Tryz.ntmps83
 go_wp2_with fail
 refine (hw.out _).mono ?_
 rintro e w' ⟨rfl,rfl⟩
 go_wp2_with fail
 refine (dV _ _ _).mono ?_
 rintro e w' ⟨rfl,rfl⟩
 go_wp2_with fail
 refine (ht.out _).mono ?_
 rintro e w1 ⟨rfl,hb⟩
 have c0:=mE (w:=w) (v:=.int .i64 0) hb (by go_simp)
 have c1:=mF (w:=w) (v:=.int .i64 0) hb (by go_simp)
 have d0:=lL (w:=w) (v:=.int .i64 x) hb (by go_simp)
 have d1:=lG (w:=w) (v:=.int .i64 0) hb (by go_simp)
 have f0:=frz (w:=w) (o:=0) hb (by simp;omega) (by go_simp)
 have f1:=frz (w:=w) (o:=1) hb (by simp;omega) (by go_simp)
 have g0:w.heap.size≤w1.heap.size:=Nat.le_trans (by simp;omega) hb.size
 have hB:=wide (w:=w) hb (by repeat (first|exact Below.refl _ _|refine bal ?_))
 go_wp2_with fail
 have s0:=World.cell?_setCell_same' w1 ⟨w.heap.size,0,none⟩ (.int .i64 0) (by rw[c0];rfl)
 have s1:((w1.setCell ⟨w.heap.size,0,none⟩ (.int .i64 0)).setCell ⟨w.heap.size,1,none⟩ (.int .i64 0)).cell? ⟨w.heap.size,1,none⟩=some (.int .i64 0):=World.cell?_setCell_same' _ _ _ (by obtain⟨v',hv⟩:=cell?_setCell_some (p:=⟨w.heap.size,0,none⟩) (x:=.int .i64 0) c1;rw[hv];rfl)
 refine bodyPost_ret (v:=.tuple #[.agg #[.int .i64 0,.int .i64 0],.int .i64 10]) (by simp[results,Tryz.results83,go_sem,s0,s1]) rfl ⟨rfl,?_⟩
 exact bQ hB _ _
theorem refparse_ey (S R T:ByteArray) (x:Int) (k:Nat) (hk:k≤S.size) (h1:((k:Int)==0)=false) (hR:S.extract k S.size=R) (h105:(R.toList==[105])=false) (hre:R.toList.isEmpty=true)
  (hw:Hid (∀ w,Calls Tryz.prog 102 #[.string S] w fun e w'=>e=.returned (.tuple #[.int .i64 x,.int .i64 k])∧w'=w))
  (ht:Hid (∀ w,Calls Tryz.prog 104 #[.agg #[.int .i64 x,.int .i64 0]] w fun e w'=>e=.returned (.string T)∧Below w.heap.size w w'))
  (ho:okC x 0=true) (hTS:(T.toList==S.toList)=true) (w:World) :
  Calls Tryz.prog 83 #[.string S] w fun e w'=>e=.returned (.tuple #[.agg #[.int .i64 x,.int .i64 0],.int .i64 0])∧Below w.heap.size w w':=by
 have hk2:(k:Int)≤(S.size:Int):=by omega
 have e1:inX x 0=x:=by unfold inX;rw[ho];rfl
 have e2:inY x 0=0:=by unfold inY;rw[ho];rfl
 have e3:ansE x 0=0:=by unfold ansE;rw[ho];rfl
 clear ho
 go_enter Tryz.func83,Tryz.ntmps83
 go_wp2_with fail
 refine (hw.out _).mono ?_
 rintro e w' ⟨rfl,rfl⟩
 go_wp2_with fail
 refine (dV _ _ _).mono ?_
 rintro e w' ⟨rfl,rfl⟩
 go_wp2_with fail
 refine (ht.out _).mono ?_
 rintro e w1 ⟨rfl,hb⟩
 have c0:=mE (w:=w) (v:=.int .i64 0) hb (by go_simp)
 have c1:=mF (w:=w) (v:=.int .i64 0) hb (by go_simp)
 have d0:=lL (w:=w) (v:=.int .i64 x) hb (by go_simp)
 have d1:=lG (w:=w) (v:=.int .i64 0) hb (by go_simp)
 have f0:=frz (w:=w) (o:=0) hb (by simp;omega) (by go_simp)
 have f1:=frz (w:=w) (o:=1) hb (by simp;omega) (by go_simp)
 have g0:w.heap.size≤w1.heap.size:=Nat.le_trans (by simp;omega) hb.size
 have hB:=wide (w:=w) hb (by repeat (first|exact Below.refl _ _|refine bal ?_))
 go_wp2_with fail
 have s0:=World.cell?_setCell_same' w1 ⟨w.heap.size,0,none⟩ (.int .i64 x) (by rw[c0];rfl)
 have s1:((w1.setCell ⟨w.heap.size,0,none⟩ (.int .i64 x)).setCell ⟨w.heap.size,1,none⟩ (.int .i64 0)).cell? ⟨w.heap.size,1,none⟩=some (.int .i64 0):=World.cell?_setCell_same' _ _ _ (by obtain⟨v',hv⟩:=cell?_setCell_some (p:=⟨w.heap.size,0,none⟩) (x:=.int .i64 x) c1;rw[hv];rfl)
 refine bodyPost_ret (v:=.tuple #[.agg #[.int .i64 x,.int .i64 0],.int .i64 0]) (by simp[results,Tryz.results83,go_sem,s0,s1]) rfl ⟨rfl,?_⟩
 exact bQ hB _ _
theorem refparse_ov (S R:ByteArray) (x y:Int) (k2:Int) (k:Nat) (hk:k≤S.size) (h1:((k:Int)==0)=false) (hR:S.extract k S.size=R) (h105:(R.toList==[105])=false) (hre:R.toList.isEmpty=false) (h0:0<R.size) (h43:((R[0].toNat:Int)==43)=false)
  (hw:Hid (∀ w,Calls Tryz.prog 102 #[.string S] w fun e w'=>e=.returned (.tuple #[.int .i64 x,.int .i64 k])∧w'=w))
  (hw2:Hid (∀ w,Calls Tryz.prog 102 #[.string R] w fun e w'=>e=.returned (.tuple #[.int .i64 y,.int .i64 k2])∧w'=w))
  (ho:okC x y=false) (w:World) :
  Calls Tryz.prog 83 #[.string S] w fun e w'=>e=.returned (.tuple #[.agg #[.int .i64 0,.int .i64 0],.int .i64 10])∧Below w.heap.size w w':=by
 have hk2:(k:Int)≤(S.size:Int):=by omega
 have hRs:R.size≤S.size:=by rw[← hR,ByteArray.size_extract];omega
 have h1R:(1:Int)≤(R.size:Int):=by omega
 have e1:inX x y=0:=by unfold inX;rw[ho];rfl
 have e2:inY x y=0:=by unfold inY;rw[ho];rfl
 have e3:ansE x y=50:=by unfold ansE;rw[ho];rfl
 clear ho
 go_enter Tryz.func83,Tryz.ntmps83
 go_wp2_with fail
 refine (hw.out _).mono ?_
 rintro e w' ⟨rfl,rfl⟩
 go_wp2_with fail
 refine (hw2.out _).mono ?_
 rintro e w' ⟨rfl,rfl⟩
 go_wp2_with fail
 refine (dV _ _ _).mono ?_
 rintro e w' ⟨rfl,rfl⟩
 go_wp2_with fail
 refine bodyPost_ret (v:=.tuple #[.agg #[.int .i64 0,.int .i64 0],.int .i64 10]) (by simp[results,Tryz.results83,go_sem]) rfl ⟨rfl,?_⟩
 repeat (first|exact Below.refl _ _|refine bal ?_)
theorem refparse_on (S R T:ByteArray) (x y:Int) (k2:Int) (k:Nat) (hk:k≤S.size) (h1:((k:Int)==0)=false) (hR:S.extract k S.size=R) (h105:(R.toList==[105])=false) (hre:R.toList.isEmpty=false) (h0:0<R.size) (h43:((R[0].toNat:Int)==43)=false)
  (hw:Hid (∀ w,Calls Tryz.prog 102 #[.string S] w fun e w'=>e=.returned (.tuple #[.int .i64 x,.int .i64 k])∧w'=w))
  (hw2:Hid (∀ w,Calls Tryz.prog 102 #[.string R] w fun e w'=>e=.returned (.tuple #[.int .i64 y,.int .i64 k2])∧w'=w))
  (ht:Hid (∀ w,Calls Tryz.prog 104 #[.agg #[.int .i64 x,.int .i64 y]] w fun e w'=>e=.returned (.string T)∧Below w.heap.size w w'))
  (ho:okC x y=true) (hTS:(T.toList==S.toList)=false) (w:World) :
  Calls Tryz.prog 83 #[.string S] w fun e w'=>e=.returned (.tuple #[.agg #[.int .i64 0,.int .i64 0],.int .i64 10])∧Below w.heap.size w w':=by
 have hk2:(k:Int)≤(S.size:Int):=by omega
 have hRs:R.size≤S.size:=by rw[← hR,ByteArray.size_extract];omega
 have h1R:(1:Int)≤(R.size:Int):=by omega
 have e1:inX x y=x:=by unfold inX;rw[ho];rfl
 have e2:inY x y=y:=by unfold inY;rw[ho];rfl
 have e3:ansE x y=0:=by unfold ansE;rw[ho];rfl
 clear ho
 go_enter Tryz.func83,Tryz.ntmps83
 go_wp2_with fail
 refine (hw.out _).mono ?_
 rintro e w' ⟨rfl,rfl⟩
 go_wp2_with fail
 refine (hw2.out _).mono ?_
 rintro e w' ⟨rfl,rfl⟩
 go_wp2_with fail
 refine (dV _ _ _).mono ?_
 rintro e w' ⟨rfl,rfl⟩
 go_wp2_with fail
 refine (ht.out _).mono ?_
 rintro e w1 ⟨rfl,hb⟩
 have c0:=mE (w:=w) (v:=.int .i64 0) hb (by go_simp)
 have c1:=mF (w:=w) (v:=.int .i64 0) hb (by go_simp)
 have d0:=lL (w:=w) (v:=.int .i64 x) hb (by go_simp)
 have d1:=lG (w:=w) (v:=.int .i64 y) hb (by go_simp)
 have f0:=frz (w:=w) (o:=0) hb (by simp;omega) (by go_simp)
 have f1:=frz (w:=w) (o:=1) hb (by simp;omega) (by go_simp)
 have g0:w.heap.size≤w1.heap.size:=Nat.le_trans (by simp;omega) hb.size
 have hB:=wide (w:=w) hb (by repeat (first|exact Below.refl _ _|refine bal ?_))
 go_wp2_with fail
 have s0:=World.cell?_setCell_same' w1 ⟨w.heap.size,0,none⟩ (.int .i64 0) (by rw[c0];rfl)
 have s1:((w1.setCell ⟨w.heap.size,0,none⟩ (.int .i64 0)).setCell ⟨w.heap.size,1,none⟩ (.int .i64 0)).cell? ⟨w.heap.size,1,none⟩=some (.int .i64 0):=World.cell?_setCell_same' _ _ _ (by obtain⟨v',hv⟩:=cell?_setCell_some (p:=⟨w.heap.size,0,none⟩) (x:=.int .i64 0) c1;rw[hv];rfl)
 refine bodyPost_ret (v:=.tuple #[.agg #[.int .i64 0,.int .i64 0],.int .i64 10]) (by simp[results,Tryz.results83,go_sem,s0,s1]) rfl ⟨rfl,?_⟩
 exact bQ hB _ _
theorem refparse_oy (S R T:ByteArray) (x y:Int) (k2:Int) (k:Nat) (hk:k≤S.size) (h1:((k:Int)==0)=false) (hR:S.extract k S.size=R) (h105:(R.toList==[105])=false) (hre:R.toList.isEmpty=false) (h0:0<R.size) (h43:((R[0].toNat:Int)==43)=false)
  (hw:Hid (∀ w,Calls Tryz.prog 102 #[.string S] w fun e w'=>e=.returned (.tuple #[.int .i64 x,.int .i64 k])∧w'=w))
  (hw2:Hid (∀ w,Calls Tryz.prog 102 #[.string R] w fun e w'=>e=.returned (.tuple #[.int .i64 y,.int .i64 k2])∧w'=w))
  (ht:Hid (∀ w,Calls Tryz.prog 104 #[.agg #[.int .i64 x,.int .i64 y]] w fun e w'=>e=.returned (.string T)∧Below w.heap.size w w'))
  (ho:okC x y=true) (hTS:(T.toList==S.toList)=true) (w:World) :
  Calls Tryz.prog 83 #[.string S] w fun e w'=>e=.returned (.tuple #[.agg #[.int .i64 x,.int .i64 y],.int .i64 0])∧Below w.heap.size w w':=by
 have hk2:(k:Int)≤(S.size:Int):=by omega
 have hRs:R.size≤S.size:=by rw[← hR,ByteArray.size_extract];omega
 have h1R:(1:Int)≤(R.size:Int):=by omega
 have e1:inX x y=x:=by unfold inX;rw[ho];rfl
 have e2:inY x y=y:=by unfold inY;rw[ho];rfl
 have e3:ansE x y=0:=by unfold ansE;rw[ho];rfl
 clear ho
 go_enter Tryz.func83,Tryz.ntmps83
 go_wp2_with fail
 refine (hw.out _).mono ?_
 rintro e w' ⟨rfl,rfl⟩
 go_wp2_with fail
 refine (hw2.out _).mono ?_
 rintro e w' ⟨rfl,rfl⟩
 go_wp2_with fail
 refine (dV _ _ _).mono ?_
 rintro e w' ⟨rfl,rfl⟩
 go_wp2_with fail
 refine (ht.out _).mono ?_
 rintro e w1 ⟨rfl,hb⟩
 have c0:=mE (w:=w) (v:=.int .i64 0) hb (by go_simp)
 have c1:=mF (w:=w) (v:=.int .i64 0) hb (by go_simp)
 have d0:=lL (w:=w) (v:=.int .i64 x) hb (by go_simp)
 have d1:=lG (w:=w) (v:=.int .i64 y) hb (by go_simp)
 have f0:=frz (w:=w) (o:=0) hb (by simp;omega) (by go_simp)
 have f1:=frz (w:=w) (o:=1) hb (by simp;omega) (by go_simp)
 have g0:w.heap.size≤w1.heap.size:=Nat.le_trans (by simp;omega) hb.size
 have hB:=wide (w:=w) hb (by repeat (first|exact Below.refl _ _|refine bal ?_))
 go_wp2_with fail
 have s0:=World.cell?_setCell_same' w1 ⟨w.heap.size,0,none⟩ (.int .i64 x) (by rw[c0];rfl)
 have s1:((w1.setCell ⟨w.heap.size,0,none⟩ (.int .i64 x)).setCell ⟨w.heap.size,1,none⟩ (.int .i64 y)).cell? ⟨w.heap.size,1,none⟩=some (.int .i64 y):=World.cell?_setCell_same' _ _ _ (by obtain⟨v',hv⟩:=cell?_setCell_some (p:=⟨w.heap.size,0,none⟩) (x:=.int .i64 x) c1;rw[hv];rfl)
 refine bodyPost_ret (v:=.tuple #[.agg #[.int .i64 x,.int .i64 y],.int .i64 0]) (by simp[results,Tryz.results83,go_sem,s0,s1]) rfl ⟨rfl,?_⟩
 exact bQ hB _ _
theorem refparse_pv (S R R1:ByteArray) (x y:Int) (k2:Int) (k:Nat) (hk:k≤S.size) (h1:((k:Int)==0)=false) (hR:S.extract k S.size=R) (h105:(R.toList==[105])=false) (hre:R.toList.isEmpty=false) (h0:0<R.size) (h43:((R[0].toNat:Int)==43)=true) (hR1:R.extract 1 R.size=R1)
  (hw:Hid (∀ w,Calls Tryz.prog 102 #[.string S] w fun e w'=>e=.returned (.tuple #[.int .i64 x,.int .i64 k])∧w'=w))
  (hw2:Hid (∀ w,Calls Tryz.prog 102 #[.string R1] w fun e w'=>e=.returned (.tuple #[.int .i64 y,.int .i64 k2])∧w'=w))
  (ho:okC x y=false) (w:World) :
  Calls Tryz.prog 83 #[.string S] w fun e w'=>e=.returned (.tuple #[.agg #[.int .i64 0,.int .i64 0],.int .i64 10])∧Below w.heap.size w w':=by
 have hk2:(k:Int)≤(S.size:Int):=by omega
 have hRs:R.size≤S.size:=by rw[← hR,ByteArray.size_extract];omega
 have h1R:(1:Int)≤(R.size:Int):=by omega
 have e1:inX x y=0:=by unfold inX;rw[ho];rfl
 have e2:inY x y=0:=by unfold inY;rw[ho];rfl
 have e3:ansE x y=50:=by unfold ansE;rw[ho];rfl
 clear ho
 go_enter Tryz.func83,Tryz.ntmps83
 go_wp2_with fail
 refine (hw.out _).mono ?_
 rintro e w' ⟨rfl,rfl⟩
 go_wp2_with fail
 refine (hw2.out _).mono ?_
 rintro e w' ⟨rfl,rfl⟩
 go_wp2_with fail
 refine (dV _ _ _).mono ?_
 rintro e w' ⟨rfl,rfl⟩
 go_wp2_with fail
 refine bodyPost_ret (v:=.tuple #[.agg #[.int .i64 0,.int .i64 0],.int .i64 10]) (by simp[results,Tryz.results83,go_sem]) rfl ⟨rfl,?_⟩
 repeat (first|exact Below.refl _ _|refine bal ?_)
theorem refparse_pn (S R R1 T:ByteArray) (x y:Int) (k2:Int) (k:Nat) (hk:k≤S.size) (h1:((k:Int)==0)=false) (hR:S.extract k S.size=R) (h105:(R.toList==[105])=false) (hre:R.toList.isEmpty=false) (h0:0<R.size) (h43:((R[0].toNat:Int)==43)=true) (hR1:R.extract 1 R.size=R1)
  (hw:Hid (∀ w,Calls Tryz.prog 102 #[.string S] w fun e w'=>e=.returned (.tuple #[.int .i64 x,.int .i64 k])∧w'=w))
  (hw2:Hid (∀ w,Calls Tryz.prog 102 #[.string R1] w fun e w'=>e=.returned (.tuple #[.int .i64 y,.int .i64 k2])∧w'=w))
  (ht:Hid (∀ w,Calls Tryz.prog 104 #[.agg #[.int .i64 x,.int .i64 y]] w fun e w'=>e=.returned (.string T)∧Below w.heap.size w w'))
  (ho:okC x y=true) (hTS:(T.toList==S.toList)=false) (w:World) :
  Calls Tryz.prog 83 #[.string S] w fun e w'=>e=.returned (.tuple #[.agg #[.int .i64 0,.int .i64 0],.int .i64 10])∧Below w.heap.size w w':=by
 have hk2:(k:Int)≤(S.size:Int):=by omega
 have hRs:R.size≤S.size:=by rw[← hR,ByteArray.size_extract];omega
 have h1R:(1:Int)≤(R.size:Int):=by omega
 have e1:inX x y=x:=by unfold inX;rw[ho];rfl
 have e2:inY x y=y:=by unfold inY;rw[ho];rfl
 have e3:ansE x y=0:=by unfold ansE;rw[ho];rfl
 clear ho
 go_enter Tryz.func83,Tryz.ntmps83
 go_wp2_with fail
 refine (hw.out _).mono ?_
 rintro e w' ⟨rfl,rfl⟩
 go_wp2_with fail
 refine (hw2.out _).mono ?_
 rintro e w' ⟨rfl,rfl⟩
 go_wp2_with fail
 refine (dV _ _ _).mono ?_
 rintro e w' ⟨rfl,rfl⟩
 go_wp2_with fail
 refine (ht.out _).mono ?_
 rintro e w1 ⟨rfl,hb⟩
 have c0:=mE (w:=w) (v:=.int .i64 0) hb (by go_simp)
 have c1:=mF (w:=w) (v:=.int .i64 0) hb (by go_simp)
 have d0:=lL (w:=w) (v:=.int .i64 x) hb (by go_simp)
 have d1:=lG (w:=w) (v:=.int .i64 y) hb (by go_simp)
 have f0:=frz (w:=w) (o:=0) hb (by simp;omega) (by go_simp)
 have f1:=frz (w:=w) (o:=1) hb (by simp;omega) (by go_simp)
 have g0:w.heap.size≤w1.heap.size:=Nat.le_trans (by simp;omega) hb.size
 have hB:=wide (w:=w) hb (by repeat (first|exact Below.refl _ _|refine bal ?_))
 go_wp2_with fail
 have s0:=World.cell?_setCell_same' w1 ⟨w.heap.size,0,none⟩ (.int .i64 0) (by rw[c0];rfl)
 have s1:((w1.setCell ⟨w.heap.size,0,none⟩ (.int .i64 0)).setCell ⟨w.heap.size,1,none⟩ (.int .i64 0)).cell? ⟨w.heap.size,1,none⟩=some (.int .i64 0):=World.cell?_setCell_same' _ _ _ (by obtain⟨v',hv⟩:=cell?_setCell_some (p:=⟨w.heap.size,0,none⟩) (x:=.int .i64 0) c1;rw[hv];rfl)
 refine bodyPost_ret (v:=.tuple #[.agg #[.int .i64 0,.int .i64 0],.int .i64 10]) (by simp[results,Tryz.results83,go_sem,s0,s1]) rfl ⟨rfl,?_⟩
 exact bQ hB _ _
theorem refparse_py (S R R1 T:ByteArray) (x y:Int) (k2:Int) (k:Nat) (hk:k≤S.size) (h1:((k:Int)==0)=false) (hR:S.extract k S.size=R) (h105:(R.toList==[105])=false) (hre:R.toList.isEmpty=false) (h0:0<R.size) (h43:((R[0].toNat:Int)==43)=true) (hR1:R.extract 1 R.size=R1)
  (hw:Hid (∀ w,Calls Tryz.prog 102 #[.string S] w fun e w'=>e=.returned (.tuple #[.int .i64 x,.int .i64 k])∧w'=w))
  (hw2:Hid (∀ w,Calls Tryz.prog 102 #[.string R1] w fun e w'=>e=.returned (.tuple #[.int .i64 y,.int .i64 k2])∧w'=w))
  (ht:Hid (∀ w,Calls Tryz.prog 104 #[.agg #[.int .i64 x,.int .i64 y]] w fun e w'=>e=.returned (.string T)∧Below w.heap.size w w'))
  (ho:okC x y=true) (hTS:(T.toList==S.toList)=true) (w:World) :
  Calls Tryz.prog 83 #[.string S] w fun e w'=>e=.returned (.tuple #[.agg #[.int .i64 x,.int .i64 y],.int .i64 0])∧Below w.heap.size w w':=by
 have hk2:(k:Int)≤(S.size:Int):=by omega
 have hRs:R.size≤S.size:=by rw[← hR,ByteArray.size_extract];omega
 have h1R:(1:Int)≤(R.size:Int):=by omega
 have e1:inX x y=x:=by unfold inX;rw[ho];rfl
 have e2:inY x y=y:=by unfold inY;rw[ho];rfl
 have e3:ansE x y=0:=by unfold ansE;rw[ho];rfl
 clear ho
 go_enter Tryz.func83,Tryz.ntmps83
 go_wp2_with fail
 refine (hw.out _).mono ?_
 rintro e w' ⟨rfl,rfl⟩
 go_wp2_with fail
 refine (hw2.out _).mono ?_
 rintro e w' ⟨rfl,rfl⟩
 go_wp2_with fail
 refine (dV _ _ _).mono ?_
 rintro e w' ⟨rfl,rfl⟩
 go_wp2_with fail
 refine (ht.out _).mono ?_
 rintro e w1 ⟨rfl,hb⟩
 have c0:=mE (w:=w) (v:=.int .i64 0) hb (by go_simp)
 have c1:=mF (w:=w) (v:=.int .i64 0) hb (by go_simp)
 have d0:=lL (w:=w) (v:=.int .i64 x) hb (by go_simp)
 have d1:=lG (w:=w) (v:=.int .i64 y) hb (by go_simp)
 have f0:=frz (w:=w) (o:=0) hb (by simp;omega) (by go_simp)
 have f1:=frz (w:=w) (o:=1) hb (by simp;omega) (by go_simp)
 have g0:w.heap.size≤w1.heap.size:=Nat.le_trans (by simp;omega) hb.size
 have hB:=wide (w:=w) hb (by repeat (first|exact Below.refl _ _|refine bal ?_))
 go_wp2_with fail
 have s0:=World.cell?_setCell_same' w1 ⟨w.heap.size,0,none⟩ (.int .i64 x) (by rw[c0];rfl)
 have s1:((w1.setCell ⟨w.heap.size,0,none⟩ (.int .i64 x)).setCell ⟨w.heap.size,1,none⟩ (.int .i64 y)).cell? ⟨w.heap.size,1,none⟩=some (.int .i64 y):=World.cell?_setCell_same' _ _ _ (by obtain⟨v',hv⟩:=cell?_setCell_some (p:=⟨w.heap.size,0,none⟩) (x:=.int .i64 x) c1;rw[hv];rfl)
 refine bodyPost_ret (v:=.tuple #[.agg #[.int .i64 x,.int .i64 y],.int .i64 0]) (by simp[results,Tryz.results83,go_sem,s0,s1]) rfl ⟨rfl,?_⟩
 exact bQ hB _ _
def rdE (l:List UInt8):Int:=if rdOk l then 0 else 10
def rdP (l:List UInt8):Int:=if rdOk l then rdX l else 0
def rdQ (l:List UInt8):Int:=if rdOk l then rdY l else 0
theorem aG (l:List UInt8):(bs l).toList=l:=by rw[Lib.toList_data,gX]
theorem dJ (l:List UInt8) (p q:Int) (hp:rdX l=p) (hq:rdY l=q) (hk:wL l≠0) (w:World)
  (hv:okC p q=false→Calls Tryz.prog 83 #[.string (bs l)] w fun e w'=>e=.returned (.tuple #[.agg #[.int .i64 0,.int .i64 0],.int .i64 10])∧Below w.heap.size w w')
  (hn:okC p q=true→Hid (∀ w,Calls Tryz.prog 104 #[.agg #[.int .i64 p,.int .i64 q]] w fun e w'=>e=.returned (.string (bs (txt p q)))∧Below w.heap.size w w')→((bs (txt p q)).toList==(bs l).toList)=false →
   Calls Tryz.prog 83 #[.string (bs l)] w fun e w'=>e=.returned (.tuple #[.agg #[.int .i64 0,.int .i64 0],.int .i64 10])∧Below w.heap.size w w')
  (hy:okC p q=true→Hid (∀ w,Calls Tryz.prog 104 #[.agg #[.int .i64 p,.int .i64 q]] w fun e w'=>e=.returned (.string (bs (txt p q)))∧Below w.heap.size w w')→((bs (txt p q)).toList==(bs l).toList)=true →
   Calls Tryz.prog 83 #[.string (bs l)] w fun e w'=>e=.returned (.tuple #[.agg #[.int .i64 p,.int .i64 q],.int .i64 0])∧Below w.heap.size w w') :
  Calls Tryz.prog 83 #[.string (bs l)] w fun e w'=>e=.returned (.tuple #[.agg #[.int .i64 (rdP l),.int .i64 (rdQ l)],.int .i64 (rdE l)])∧Below w.heap.size w w':=by
 subst hp hq
 unfold rdP rdQ rdE
 by_cases ho:okC (rdX l) (rdY l)=true
 ·obtain⟨b1,b2⟩:=kQ.1 ho
  have ht:Hid (∀ w,Calls Tryz.prog 104 #[.agg #[.int .i64 (rdX l),.int .i64 (rdY l)]] w fun e w'=>e=.returned (.string (bs (txt (rdX l) (rdY l))))∧Below w.heap.size w w'):=fun w=>rtext_w _ _ w b1 b2
  by_cases hT:txt (rdX l) (rdY l)=l
  ·have hok:rdOk l=true:=by unfold rdOk;exact decide_eq_true ⟨hk,b1,b2,hT⟩
   rw[hok]
   exact hy ho ht (by rw[aG,aG,hT];exact beq_self_eq_true l)
  ·have hok:rdOk l=false:=by unfold rdOk;exact decide_eq_false fun h=>hT h.2.2.2
   rw[hok]
   exact hn ho ht (by rw[aG,aG,beq_eq_false_iff_ne];exact hT)
 ·have ho':okC (rdX l) (rdY l)=false:=by simpa using ho
  have hok:rdOk l=false:=by unfold rdOk;exact decide_eq_false fun h=>ho (kQ.2 ⟨h.2.1,h.2.2.1⟩)
  rw[hok]
  exact hv ho'
theorem refparse_w (l:List UInt8) (hl:l.length≤281474976710656) (w:World) :
  Calls Tryz.prog 83 #[.string (bs l)] w fun e w'=>e=.returned (.tuple #[.agg #[.int .i64 (rdP l),.int .i64 (rdQ l)],.int .i64 (rdE l)])∧Below w.heap.size w w':=by
 by_cases h0:wL l=0
 ·have hok:rdOk l=false:=by unfold rdOk;exact decide_eq_false fun h=>h.1 h0
  unfold rdP rdQ rdE
  rw[hok]
  exact refparse_none l hl h0 w
 ·have hk:wL l≤(bs l).size:=by rw[bH];exact wL_le l
  have h1:((wL l:Int)==0)=false:=by rw[beq_eq_false_iff_ne];omega
  have hR:(bs l).extract (wL l) (bs l).size=bs (rst l):=by
   rw[jD,bH]
   unfold rst
   rw[List.take_of_length_le (by simp)]
  have hw:Hid (∀ w,Calls Tryz.prog 102 #[.string (bs l)] w fun e w'=>e=.returned (.tuple #[.int .i64 (wX l),.int .i64 (wL l:Nat)])∧w'=w):=fun w=>iI l hl w
  have hrl:(rst l).length≤281474976710656:=by unfold rst;rw[List.length_drop];omega
  by_cases h105:rst l=[105]
  ·have e105:((bs (rst l)).toList==[105])=true:=by rw[aG,h105];rfl
   refine dJ l 0 (wX l) (by unfold rdX;rw[if_pos h105]) (by unfold rdY;rw[if_pos h105]) h0 w ?_ ?_ ?_
   ·exact fun ho=>refparse_iv (bs l) (bs (rst l)) (wX l) (wL l) hk h1 hR e105 hw ho w
   ·exact fun ho ht hT=>refparse_in (bs l) (bs (rst l)) _ (wX l) (wL l) hk h1 hR e105 hw ht ho hT w
   ·exact fun ho ht hT=>refparse_iy (bs l) (bs (rst l)) _ (wX l) (wL l) hk h1 hR e105 hw ht ho hT w
  ·have e105:((bs (rst l)).toList==[105])=false:=by rw[aG,beq_eq_false_iff_ne];exact h105
   by_cases he:rst l=[]
   ·have hre:(bs (rst l)).toList.isEmpty=true:=by rw[aG,he];rfl
    refine dJ l (wX l) 0 (by unfold rdX;rw[if_neg h105]) (by unfold rdY;rw[if_neg h105,if_pos he]) h0 w ?_ ?_ ?_
    ·exact fun ho=>refparse_ev (bs l) (bs (rst l)) (wX l) (wL l) hk h1 hR e105 hre hw ho w
    ·exact fun ho ht hT=>refparse_en (bs l) (bs (rst l)) _ (wX l) (wL l) hk h1 hR e105 hre hw ht ho hT w
    ·exact fun ho ht hT=>refparse_ey (bs l) (bs (rst l)) _ (wX l) (wL l) hk h1 hR e105 hre hw ht ho hT w
   ·have hre:(bs (rst l)).toList.isEmpty=false:=by rw[aG];simpa using he
    have hp0:0<(bs (rst l)).size:=by rw[bH];exact List.length_pos_iff.2 he
    obtain⟨b,t,hbt⟩:=List.exists_cons_of_ne_nil he
    have hb0:(bs (rst l))[0]=b:=by simp[bs,ByteArray.getElem_eq_getElem_data,hbt]
    by_cases h43:b=43
    ·have hh:(rst l).head?=some 43:=by rw[hbt,h43];rfl
     have e43:(((bs (rst l))[0].toNat:Int)==43)=true:=by rw[hb0,h43];rfl
     have hR1:(bs (rst l)).extract 1 (bs (rst l)).size=bs ((rst l).drop 1):=by
      rw[jD,bH,List.take_of_length_le (by simp)]
     have hw2:Hid (∀ w,Calls Tryz.prog 102 #[.string (bs ((rst l).drop 1))] w fun e w'=>e=.returned (.tuple #[.int .i64 (wX ((rst l).drop 1)),.int .i64 (wL ((rst l).drop 1):Nat)])∧w'=w):=fun w=>iI _ (by rw[List.length_drop];omega) w
     refine dJ l (wX l) (wX ((rst l).drop 1)) (by unfold rdX;rw[if_neg h105]) (by unfold rdY;rw[if_neg h105,if_neg he,if_pos hh]) h0 w ?_ ?_ ?_
     ·exact fun ho=>refparse_pv (bs l) (bs (rst l)) _ (wX l) _ _ (wL l) hk h1 hR e105 hre hp0 e43 hR1 hw hw2 ho w
     ·exact fun ho ht hT=>refparse_pn (bs l) (bs (rst l)) _ _ (wX l) _ _ (wL l) hk h1 hR e105 hre hp0 e43 hR1 hw hw2 ht ho hT w
     ·exact fun ho ht hT=>refparse_py (bs l) (bs (rst l)) _ _ (wX l) _ _ (wL l) hk h1 hR e105 hre hp0 e43 hR1 hw hw2 ht ho hT w
    ·have hh:¬ (rst l).head?=some 43:=by rw[hbt];simpa using h43
     have e43:(((bs (rst l))[0].toNat:Int)==43)=false:=by
      rw[hb0,beq_eq_false_iff_ne]
      intro e
      apply h43
      apply UInt8.toNat.inj
      show b.toNat=43
      omega
     have hw2:Hid (∀ w,Calls Tryz.prog 102 #[.string (bs (rst l))] w fun e w'=>e=.returned (.tuple #[.int .i64 (wX (rst l)),.int .i64 (wL (rst l):Nat)])∧w'=w):=fun w=>iI _ hrl w
     refine dJ l (wX l) (wX (rst l)) (by unfold rdX;rw[if_neg h105]) (by unfold rdY;rw[if_neg h105,if_neg he,if_neg hh]) h0 w ?_ ?_ ?_
     ·exact fun ho=>refparse_ov (bs l) (bs (rst l)) (wX l) _ _ (wL l) hk h1 hR e105 hre hp0 e43 hw hw2 ho w
     ·exact fun ho ht hT=>refparse_on (bs l) (bs (rst l)) _ (wX l) _ _ (wL l) hk h1 hR e105 hre hp0 e43 hw hw2 ht ho hT w
     ·exact fun ho ht hT=>refparse_oy (bs l) (bs (rst l)) _ (wX l) _ _ (wL l) hk h1 hR e105 hre hp0 e43 hw hw2 ht ho hT w
end Go.Proofs.YtimoappbefindaaGreat
