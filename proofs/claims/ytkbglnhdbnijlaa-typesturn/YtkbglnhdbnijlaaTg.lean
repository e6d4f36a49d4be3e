/-
  What TypesTurn tests, region by region (mul; the activation spelt out again).
-/
import Derived.Test.YtkbglnhdbnijlaaTu
namespace Go.Proofs.Ytkbglnhdbnijlaa
open Go.RowKit
set_option maxRecDepth 100000
def en0 : Oper := { dst := some 214, op := Op.move (Operand.tmp 20), type := 29, pos := "law.go:111", after := #[], guard := none }
def en1 : Oper := { dst := some 215, op := Op.binOp BinOp.eql 29 (Operand.tmp 214) (Operand.const (Value.int IntKind.i64 0)) 29, type := 4, pos := "law.go:111", after := #[{ on := 0, ground := Ground.data }], guard := none }
def en2 : Oper := { dst := some 216, op := Op.move (Operand.tmp 14), type := 29, pos := "law.go:111", after := #[], guard := none }
def en3 : Oper := { dst := some 217, op := Op.binOp BinOp.eql 29 (Operand.tmp 216) (Operand.const (Value.int IntKind.i64 0)) 29, type := 4, pos := "law.go:111", after := #[{ on := 2, ground := Ground.data }], guard := none }
def en4 : Oper := { dst := some 218, op := Op.move (Operand.tmp 217), type := 4, pos := "law.go:111", after := #[{ on := 3, ground := Ground.data }], guard := none }
def en5 : Oper := { dst := some 219, op := Op.move (Operand.tmp 13), type := 35, pos := "law.go:111", after := #[{ on := 4, ground := Ground.guard }], guard := some (4, true) }
def en6 : Oper := { dst := some 220, op := Op.binOp BinOp.eql 35 (Operand.tmp 219) (Operand.const (Value.int IntKind.i64 1)) 35, type := 4, pos := "law.go:111", after := #[{ on := 5, ground := Ground.data }, { on := 4, ground := Ground.guard }], guard := some (4, true) }
def en7 : Oper := { dst := some 221, op := Op.pick (Operand.tmp 218) (Operand.tmp 220) (Operand.const (Value.bool false)), type := 4, pos := "law.go:111", after := #[{ on := 4, ground := Ground.data }, { on := 6, ground := Ground.data }], guard := none }
def en8 : Oper := { dst := some 222, op := Op.move (Operand.tmp 221), type := 4, pos := "law.go:111", after := #[{ on := 7, ground := Ground.data }, { on := 4, ground := Ground.chain }], guard := none }
def en9 : Oper := { dst := some 223, op := Op.move (Operand.tmp 18), type := 29, pos := "law.go:111", after := #[{ on := 8, ground := Ground.guard }], guard := some (8, true) }
def en10 : Oper := { dst := some 224, op := Op.binOp BinOp.eql 29 (Operand.tmp 223) (Operand.const (Value.int IntKind.i64 0)) 29, type := 4, pos := "law.go:111", after := #[{ on := 9, ground := Ground.data }, { on := 8, ground := Ground.guard }], guard := some (8, true) }
def en11 : Oper := { dst := some 225, op := Op.pick (Operand.tmp 222) (Operand.tmp 224) (Operand.const (Value.bool false)), type := 4, pos := "law.go:111", after := #[{ on := 8, ground := Ground.data }, { on := 10, ground := Ground.data }], guard := none }
def en12 : Oper := { dst := some 226, op := Op.move (Operand.tmp 225), type := 4, pos := "law.go:111", after := #[{ on := 11, ground := Ground.data }, { on := 8, ground := Ground.chain }], guard := none }
def en13 : Oper := { dst := some 227, op := Op.move (Operand.tmp 17), type := 35, pos := "law.go:111", after := #[{ on := 12, ground := Ground.guard }], guard := some (12, true) }
def en14 : Oper := { dst := some 228, op := Op.binOp BinOp.eql 35 (Operand.tmp 227) (Operand.const (Value.int IntKind.i64 1)) 35, type := 4, pos := "law.go:111", after := #[{ on := 13, ground := Ground.data }, { on := 12, ground := Ground.guard }], guard := some (12, true) }
def en15 : Oper := { dst := some 229, op := Op.pick (Operand.tmp 226) (Operand.tmp 228) (Operand.const (Value.bool false)), type := 4, pos := "law.go:111", after := #[{ on := 12, ground := Ground.data }, { on := 14, ground := Ground.data }], guard := none }
def en16 : Oper := { dst := some 230, op := Op.binOp BinOp.eql 4 (Operand.tmp 215) (Operand.tmp 229) 4, type := 4, pos := "law.go:111", after := #[{ on := 1, ground := Ground.data }, { on := 15, ground := Ground.data }], guard := none }
def en17 : Oper := { dst := some 231, op := Op.move (Operand.tmp 230), type := 4, pos := "law.go:111", after := #[{ on := 16, ground := Ground.data }, { on := 12, ground := Ground.chain }], guard := none }
def en18 : Oper := { dst := some 232, op := Op.move (Operand.tmp 20), type := 29, pos := "law.go:111", after := #[{ on := 17, ground := Ground.guard }], guard := some (17, true) }
def en19 : Oper := { dst := some 233, op := Op.binOp BinOp.neq 29 (Operand.tmp 232) (Operand.const (Value.int IntKind.i64 0)) 29, type := 4, pos := "law.go:111", after := #[{ on := 18, ground := Ground.data }, { on := 17, ground := Ground.guard }], guard := some (17, true) }
def en20 : Oper := { dst := some 234, op := Op.move (Operand.tmp 233), type := 4, pos := "law.go:111", after := #[{ on := 19, ground := Ground.data }, { on := 17, ground := Ground.chain }, { on := 17, ground := Ground.guard }], guard := some (17, true) }
def en21 : Oper := { dst := some 235, op := Op.move (Operand.tmp 19), type := 35, pos := "law.go:111", after := #[{ on := 20, ground := Ground.guard }], guard := some (20, false) }
def en22 : Oper := { dst := some 236, op := Op.binOp BinOp.eql 35 (Operand.tmp 235) (Operand.const (Value.int IntKind.i64 1)) 35, type := 4, pos := "law.go:111", after := #[{ on := 21, ground := Ground.data }, { on := 20, ground := Ground.guard }], guard := some (20, false) }
def en23 : Oper := { dst := some 237, op := Op.pick (Operand.tmp 234) (Operand.const (Value.bool true)) (Operand.tmp 236), type := 4, pos := "law.go:111", after := #[{ on := 20, ground := Ground.data }, { on := 22, ground := Ground.data }, { on := 17, ground := Ground.guard }], guard := some (17, true) }
def en24 : Oper := { dst := some 238, op := Op.pick (Operand.tmp 231) (Operand.tmp 237) (Operand.const (Value.bool false)), type := 4, pos := "law.go:111", after := #[{ on := 17, ground := Ground.data }, { on := 23, ground := Ground.data }], guard := none }
def en25 : Oper := { dst := some 239, op := Op.move (Operand.tmp 238), type := 4, pos := "law.go:111", after := #[{ on := 24, ground := Ground.data }, { on := 20, ground := Ground.chain }], guard := none }
def en26 : Oper := { dst := some 240, op := Op.move (Operand.tmp 20), type := 29, pos := "law.go:111", after := #[{ on := 25, ground := Ground.guard }], guard := some (25, true) }
def en27 : Oper := { dst := some 241, op := Op.binOp BinOp.eql 29 (Operand.tmp 240) (Operand.const (Value.int IntKind.i64 0)) 29, type := 4, pos := "law.go:111", after := #[{ on := 26, ground := Ground.data }, { on := 25, ground := Ground.guard }], guard := some (25, true) }
def en28 : Oper := { dst := some 242, op := Op.move (Operand.tmp 241), type := 4, pos := "law.go:111", after := #[{ on := 27, ground := Ground.data }, { on := 25, ground := Ground.chain }, { on := 25, ground := Ground.guard }], guard := some (25, true) }
def en29 : Oper := { dst := some 243, op := Op.move (Operand.tmp 20), type := 29, pos := "law.go:111", after := #[{ on := 28, ground := Ground.guard }], guard := some (28, false) }
def en30 : Oper := { dst := some 244, op := Op.binOp BinOp.eql 29 (Operand.tmp 243) (Operand.const (Value.int IntKind.i64 34)) 29, type := 4, pos := "law.go:111", after := #[{ on := 29, ground := Ground.data }, { on := 28, ground := Ground.guard }], guard := some (28, false) }
def en31 : Oper := { dst := some 245, op := Op.move (Operand.tmp 244), type := 4, pos := "law.go:111", after := #[{ on := 30, ground := Ground.data }, { on := 28, ground := Ground.chain }, { on := 28, ground := Ground.guard }], guard := some (28, false) }
def en32 : Oper := { dst := some 246, op := Op.move (Operand.tmp 19), type := 35, pos := "law.go:111", after := #[{ on := 31, ground := Ground.guard }], guard := some (31, true) }
def en33 : Oper := { dst := some 247, op := Op.binOp BinOp.eql 35 (Operand.tmp 246) (Operand.const (Value.int IntKind.i64 0)) 35, type := 4, pos := "law.go:111", after := #[{ on := 32, ground := Ground.data }, { on := 31, ground := Ground.guard }], guard := some (31, true) }
def en34 : Oper := { dst := some 248, op := Op.pick (Operand.tmp 245) (Operand.tmp 247) (Operand.const (Value.bool false)), type := 4, pos := "law.go:111", after := #[{ on := 31, ground := Ground.data }, { on := 33, ground := Ground.data }, { on := 28, ground := Ground.guard }], guard := some (28, false) }
def en35 : Oper := { dst := some 249, op := Op.pick (Operand.tmp 242) (Operand.const (Value.bool true)) (Operand.tmp 248), type := 4, pos := "law.go:111", after := #[{ on := 28, ground := Ground.data }, { on := 34, ground := Ground.data }, { on := 25, ground := Ground.guard }], guard := some (25, true) }
def en36 : Oper := { dst := some 250, op := Op.pick (Operand.tmp 239) (Operand.tmp 249) (Operand.const (Value.bool false)), type := 4, pos := "law.go:111", after := #[{ on := 25, ground := Ground.data }, { on := 35, ground := Ground.data }], guard := none }
def en37 : Oper := { dst := some 6, op := Op.assign (Operand.tmp 250), type := 4, pos := "law.go:111", after := #[{ on := 36, ground := Ground.data }, { on := 31, ground := Ground.chain }, { on := 0, ground := Ground.phase }, { on := 1, ground := Ground.phase }, { on := 2, ground := Ground.phase }, { on := 3, ground := Ground.phase }, { on := 4, ground := Ground.phase }, { on := 5, ground := Ground.phase }, { on := 6, ground := Ground.phase }, { on := 7, ground := Ground.phase }, { on := 8, ground := Ground.phase }, { on := 9, ground := Ground.phase }, { on := 10, ground := Ground.phase }, { on := 11, ground := Ground.phase }, { on := 12, ground := Ground.phase }, { on := 13, ground := Ground.phase }, { on := 14, ground := Ground.phase }, { on := 15, ground := Ground.phase }, { on := 16, ground := Ground.phase }, { on := 17, ground := Ground.phase }, { on := 18, ground := Ground.phase }, { on := 19, ground := Ground.phase }, { on := 20, ground := Ground.phase }, { on := 21, ground := Ground.phase }, { on := 22, ground := Ground.phase }, { on := 23, ground := Ground.phase }, { on := 24, ground := Ground.phase }, { on := 25, ground := Ground.phase }, { on := 26, ground := Ground.phase }, { on := 27, ground := Ground.phase }, { on := 28, ground := Ground.phase }, { on := 29, ground := Ground.phase }, { on := 30, ground := Ground.phase }, { on := 31, ground := Ground.phase }, { on := 32, ground := Ground.phase }, { on := 33, ground := Ground.phase }, { on := 34, ground := Ground.phase }, { on := 35, ground := Ground.phase }, { on := 36, ground := Ground.phase }], guard := none }
def enops:Array Oper:=#[en0,en1,en2,en3,en4,en5,en6,en7,en8,en9,en10,en11,en12,en13,en14,en15,en16,en17,en18,en19,en20,en21,en22,en23,en24,en25,en26,en27,en28,en29,en30,en31,en32,en33,en34,en35,en36,en37]
def ensl (k:Nat):Nat:=if k=37 then 6 else 214+k
def enL0V (hh ww ex:Int):Nat→Value
 |0=>.int .i64 hh
 |1=>.bool false
 |2=>.int .i64 ex
 |3=>.bool false
 |4=>.bool false
 |5=>undef
 |6=>undef
 |7=>.bool false
 |8=>.bool false
 |9=>undef
 |10=>undef
 |11=>.bool false
 |12=>.bool false
 |13=>undef
 |14=>undef
 |15=>.bool false
 |16=>.bool true
 |17=>.bool true
 |18=>.int .i64 hh
 |19=>.bool true
 |20=>.bool true
 |21=>undef
 |22=>undef
 |23=>.bool true
 |24=>.bool true
 |25=>.bool true
 |26=>.int .i64 hh
 |27=>.bool false
 |28=>.bool false
 |29=>.int .i64 hh
 |30=>.bool true
 |31=>.bool true
 |32=>.int .i64 ww
 |33=>.bool true
 |34=>.bool true
 |35=>.bool true
 |36=>.bool true
 |_=>.bool true
section
variable {Q:Exit→Act→World→Prop} {X0 w0:World} {a0:Act}
set_option maxHeartbeats 4000000 in
theorem enL0 {hh ww ex tx ez tz:Int} (g0:(ex==0)=false) (g1:(hh==0)=false) (g2:(hh != 0)=true) (g3:(hh==34)=true) (g4:(ww==0)=true) (hs:251≤a0.tmps.size)
  (e20:Rv.ev a0 20=.int .i64 hh)
  (e19:Rv.ev a0 19=.int .i64 ww)
  (e14:Rv.ev a0 14=.int .i64 ex)
  (e13:Rv.ev a0 13=.int .i64 tx)
  (e18:Rv.ev a0 18=.int .i64 ez)
  (e17:Rv.ev a0 17=.int .i64 tz)
  (hw:Below X0.heap.size X0 w0)
  (hQ:∀ a w,Rv.Off 38 ensl a0 a→Below X0.heap.size X0 w→(∀ j,j<38→Rv.ev a (ensl j)=(enL0V hh ww ex) j)→Q .normal a w) :
  wpList Try.prog enops Q enops.toList a0 w0:=by
 refine Rv.list (X0:=X0) 38 ensl (enL0V hh ww ex) rfl (by decide) (by decide) (fun j hj=>Nat.lt_of_lt_of_le ((by decide:∀ j,j<38→ensl j<251) j hj) hs) hw ?_ hQ
 intro i a W hi hO hW hd
 have hev:∀ j,a.eval (.tmp j)=Rv.ev a j:=fun _=>rfl
 have hcn:∀ v,a.eval (.const v)=v:=fun _=>rfl
 have hfn:∀ v,a.eval (.func v)=.func (.func v) #[] #[]:=fun _=>rfl
 have hsz:∀ k,k<251→k<a.tmps.size:=fun k hk=>by rw[hO.size];omega
 have g20:Rv.ev a 20=.int .i64 hh:=(hO.same 20 (by decide)).trans e20
 have g19:Rv.ev a 19=.int .i64 ww:=(hO.same 19 (by decide)).trans e19
 have g14:Rv.ev a 14=.int .i64 ex:=(hO.same 14 (by decide)).trans e14
 have g13:Rv.ev a 13=.int .i64 tx:=(hO.same 13 (by decide)).trans e13
 have g18:Rv.ev a 18=.int .i64 ez:=(hO.same 18 (by decide)).trans e18
 have g17:Rv.ev a 17=.int .i64 tz:=(hO.same 17 (by decide)).trans e17
 have hN:i=0∨i=1∨i=2∨i=3∨i=4∨i=5∨i=6∨i=7∨i=8∨i=9∨i=10∨i=11∨i=12∨i=13∨i=14∨i=15∨i=16∨i=17∨i=18∨i=19∨i=20∨i=21∨i=22∨i=23∨i=24∨i=25∨i=26∨i=27∨i=28∨i=29∨i=30∨i=31∨i=32∨i=33∨i=34∨i=35∨i=36∨i=37:=by omega
 rcases hN with rfl|rfl|rfl|rfl|rfl|rfl|rfl|rfl|rfl|rfl|rfl|rfl|rfl|rfl|rfl|rfl|rfl|rfl|rfl|rfl|rfl|rfl|rfl|rfl|rfl|rfl|rfl|rfl|rfl|rfl|rfl|rfl|rfl|rfl|rfl|rfl|rfl|rfl
 ·exact Rv.run (o:=en0) rfl rfl (Rv.want_free rfl) (by unfold en0;simp only[execOp,hev,g20];rfl) hW
 ·have d214:Rv.ev a 214=.int .i64 hh:=hd 0 (by decide)
  exact Rv.run (o:=en1) rfl rfl (Rv.want_free rfl) (by unfold en1;simp only[execOp,hev,hcn,d214];go_simp<;>rfl) hW
 ·exact Rv.run (o:=en2) rfl rfl (Rv.want_free rfl) (by unfold en2;simp only[execOp,hev,g14];rfl) hW
 ·have d216:Rv.ev a 216=.int .i64 ex:=hd 2 (by decide)
  exact Rv.run (o:=en3) rfl rfl (Rv.want_free rfl) (by unfold en3;simp only[execOp,hev,hcn,d216];go_simp<;>rfl) hW
 ·have d217:Rv.ev a 217=.bool false:=hd 3 (by decide)
  exact Rv.run (o:=en4) rfl rfl (Rv.want_free rfl) (by unfold en4;simp only[execOp,hev,d217];rfl) hW
 ·have dg:Rv.ev a 218=.bool false:=hd 4 (by decide)
  exact Rv.skip (o:=en5) rfl rfl (by rw[Rv.want_if (o':=en4) rfl rfl rfl (hsz 218 (by decide)) dg];first|rfl|simp) hW
 ·have d219:Rv.ev a 219=undef:=hd 5 (by decide)
  have dg:Rv.ev a 218=.bool false:=hd 4 (by decide)
  exact Rv.skip (o:=en6) rfl rfl (by rw[Rv.want_if (o':=en4) rfl rfl rfl (hsz 218 (by decide)) dg];first|rfl|simp) hW
 ·have d218:Rv.ev a 218=.bool false:=hd 4 (by decide)
  have d220:Rv.ev a 220=undef:=hd 6 (by decide)
  exact Rv.run (o:=en7) rfl rfl (Rv.want_free rfl) (by unfold en7;simp only[execOp,hev,hcn,d218,d220];go_simp<;>rfl) hW
 ·have d221:Rv.ev a 221=.bool false:=hd 7 (by decide)
  exact Rv.run (o:=en8) rfl rfl (Rv.want_free rfl) (by unfold en8;simp only[execOp,hev,d221];rfl) hW
 ·have dg:Rv.ev a 222=.bool false:=hd 8 (by decide)
  exact Rv.skip (o:=en9) rfl rfl (by rw[Rv.want_if (o':=en8) rfl rfl rfl (hsz 222 (by decide)) dg];first|rfl|simp) hW
 ·have d223:Rv.ev a 223=undef:=hd 9 (by decide)
  have dg:Rv.ev a 222=.bool false:=hd 8 (by decide)
  exact Rv.skip (o:=en10) rfl rfl (by rw[Rv.want_if (o':=en8) rfl rfl rfl (hsz 222 (by decide)) dg];first|rfl|simp) hW
 ·have d222:Rv.ev a 222=.bool false:=hd 8 (by decide)
  have d224:Rv.ev a 224=undef:=hd 10 (by decide)
  exact Rv.run (o:=en11) rfl rfl (Rv.want_free rfl) (by unfold en11;simp only[execOp,hev,hcn,d222,d224];go_simp<;>rfl) hW
 ·have d225:Rv.ev a 225=.bool false:=hd 11 (by decide)
  exact Rv.run (o:=en12) rfl rfl (Rv.want_free rfl) (by unfold en12;simp only[execOp,hev,d225];rfl) hW
 ·have dg:Rv.ev a 226=.bool false:=hd 12 (by decide)
  exact Rv.skip (o:=en13) rfl rfl (by rw[Rv.want_if (o':=en12) rfl rfl rfl (hsz 226 (by decide)) dg];first|rfl|simp) hW
 ·have d227:Rv.ev a 227=undef:=hd 13 (by decide)
  have dg:Rv.ev a 226=.bool false:=hd 12 (by decide)
  exact Rv.skip (o:=en14) rfl rfl (by rw[Rv.want_if (o':=en12) rfl rfl rfl (hsz 226 (by decide)) dg];first|rfl|simp) hW
 ·have d226:Rv.ev a 226=.bool false:=hd 12 (by decide)
  have d228:Rv.ev a 228=undef:=hd 14 (by decide)
  exact Rv.run (o:=en15) rfl rfl (Rv.want_free rfl) (by unfold en15;simp only[execOp,hev,hcn,d226,d228];go_simp<;>rfl) hW
 ·have d215:Rv.ev a 215=.bool false:=hd 1 (by decide)
  have d229:Rv.ev a 229=.bool false:=hd 15 (by decide)
  exact Rv.run (o:=en16) rfl rfl (Rv.want_free rfl) (by unfold en16;simp only[execOp,hev,d215,d229];go_simp<;>rfl) hW
 ·have d230:Rv.ev a 230=.bool true:=hd 16 (by decide)
  exact Rv.run (o:=en17) rfl rfl (Rv.want_free rfl) (by unfold en17;simp only[execOp,hev,d230];rfl) hW
 ·have dg:Rv.ev a 231=.bool true:=hd 17 (by decide)
  exact Rv.run (o:=en18) rfl rfl (by rw[Rv.want_if (o':=en17) rfl rfl rfl (hsz 231 (by decide)) dg];first|rfl|simp) (by unfold en18;simp only[execOp,hev,g20];rfl) hW
 ·have d232:Rv.ev a 232=.int .i64 hh:=hd 18 (by decide)
  have dg:Rv.ev a 231=.bool true:=hd 17 (by decide)
  exact Rv.run (o:=en19) rfl rfl (by rw[Rv.want_if (o':=en17) rfl rfl rfl (hsz 231 (by decide)) dg];first|rfl|simp) (by unfold en19;simp only[execOp,hev,hcn,d232];go_simp<;>rfl) hW
 ·have d233:Rv.ev a 233=.bool true:=hd 19 (by decide)
  have dg:Rv.ev a 231=.bool true:=hd 17 (by decide)
  exact Rv.run (o:=en20) rfl rfl (by rw[Rv.want_if (o':=en17) rfl rfl rfl (hsz 231 (by decide)) dg];first|rfl|simp) (by unfold en20;simp only[execOp,hev,d233];rfl) hW
 ·have dg:Rv.ev a 234=.bool true:=hd 20 (by decide)
  exact Rv.skip (o:=en21) rfl rfl (by rw[Rv.want_if (o':=en20) rfl rfl rfl (hsz 234 (by decide)) dg];first|rfl|simp) hW
 ·have d235:Rv.ev a 235=undef:=hd 21 (by decide)
  have dg:Rv.ev a 234=.bool true:=hd 20 (by decide)
  exact Rv.skip (o:=en22) rfl rfl (by rw[Rv.want_if (o':=en20) rfl rfl rfl (hsz 234 (by decide)) dg];first|rfl|simp) hW
 ·have d234:Rv.ev a 234=.bool true:=hd 20 (by decide)
  have d236:Rv.ev a 236=undef:=hd 22 (by decide)
  have dg:Rv.ev a 231=.bool true:=hd 17 (by decide)
  exact Rv.run (o:=en23) rfl rfl (by rw[Rv.want_if (o':=en17) rfl rfl rfl (hsz 231 (by decide)) dg];first|rfl|simp) (by unfold en23;simp only[execOp,hev,hcn,d234,d236];go_simp<;>rfl) hW
 ·have d231:Rv.ev a 231=.bool true:=hd 17 (by decide)
  have d237:Rv.ev a 237=.bool true:=hd 23 (by decide)
  exact Rv.run (o:=en24) rfl rfl (Rv.want_free rfl) (by unfold en24;simp only[execOp,hev,hcn,d231,d237];go_simp<;>rfl) hW
 ·have d238:Rv.ev a 238=.bool true:=hd 24 (by decide)
  exact Rv.run (o:=en25) rfl rfl (Rv.want_free rfl) (by unfold en25;simp only[execOp,hev,d238];rfl) hW
 ·have dg:Rv.ev a 239=.bool true:=hd 25 (by decide)
  exact Rv.run (o:=en26) rfl rfl (by rw[Rv.want_if (o':=en25) rfl rfl rfl (hsz 239 (by decide)) dg];first|rfl|simp) (by unfold en26;simp only[execOp,hev,g20];rfl) hW
 ·have d240:Rv.ev a 240=.int .i64 hh:=hd 26 (by decide)
  have dg:Rv.ev a 239=.bool true:=hd 25 (by decide)
  exact Rv.run (o:=en27) rfl rfl (by rw[Rv.want_if (o':=en25) rfl rfl rfl (hsz 239 (by decide)) dg];first|rfl|simp) (by unfold en27;simp only[execOp,hev,hcn,d240];go_simp<;>rfl) hW
 ·have d241:Rv.ev a 241=.bool false:=hd 27 (by decide)
  have dg:Rv.ev a 239=.bool true:=hd 25 (by decide)
  exact Rv.run (o:=en28) rfl rfl (by rw[Rv.want_if (o':=en25) rfl rfl rfl (hsz 239 (by decide)) dg];first|rfl|simp) (by unfold en28;simp only[execOp,hev,d241];rfl) hW
 ·have dg:Rv.ev a 242=.bool false:=hd 28 (by decide)
  exact Rv.run (o:=en29) rfl rfl (by rw[Rv.want_if (o':=en28) rfl rfl rfl (hsz 242 (by decide)) dg];first|rfl|simp) (by unfold en29;simp only[execOp,hev,g20];rfl) hW
 ·have d243:Rv.ev a 243=.int .i64 hh:=hd 29 (by decide)
  have dg:Rv.ev a 242=.bool false:=hd 28 (by decide)
  exact Rv.run (o:=en30) rfl rfl (by rw[Rv.want_if (o':=en28) rfl rfl rfl (hsz 242 (by decide)) dg];first|rfl|simp) (by unfold en30;simp only[execOp,hev,hcn,d243];go_simp<;>rfl) hW
 ·have d244:Rv.ev a 244=.bool true:=hd 30 (by decide)
  have dg:Rv.ev a 242=.bool false:=hd 28 (by decide)
  exact Rv.run (o:=en31) rfl rfl (by rw[Rv.want_if (o':=en28) rfl rfl rfl (hsz 242 (by decide)) dg];first|rfl|simp) (by unfold en31;simp only[execOp,hev,d244];rfl) hW
 ·have dg:Rv.ev a 245=.bool true:=hd 31 (by decide)
  exact Rv.run (o:=en32) rfl rfl (by rw[Rv.want_if (o':=en31) rfl rfl rfl (hsz 245 (by decide)) dg];first|rfl|simp) (by unfold en32;simp only[execOp,hev,g19];rfl) hW
 ·have d246:Rv.ev a 246=.int .i64 ww:=hd 32 (by decide)
  have dg:Rv.ev a 245=.bool true:=hd 31 (by decide)
  exact Rv.run (o:=en33) rfl rfl (by rw[Rv.want_if (o':=en31) rfl rfl rfl (hsz 245 (by decide)) dg];first|rfl|simp) (by unfold en33;simp only[execOp,hev,hcn,d246];go_simp<;>rfl) hW
 ·have d245:Rv.ev a 245=.bool true:=hd 31 (by decide)
  have d247:Rv.ev a 247=.bool true:=hd 33 (by decide)
  have dg:Rv.ev a 242=.bool false:=hd 28 (by decide)
  exact Rv.run (o:=en34) rfl rfl (by rw[Rv.want_if (o':=en28) rfl rfl rfl (hsz 242 (by decide)) dg];first|rfl|simp) (by unfold en34;simp only[execOp,hev,hcn,d245,d247];go_simp<;>rfl) hW
 ·have d242:Rv.ev a 242=.bool false:=hd 28 (by decide)
  have d248:Rv.ev a 248=.bool true:=hd 34 (by decide)
  have dg:Rv.ev a 239=.bool true:=hd 25 (by decide)
  exact Rv.run (o:=en35) rfl rfl (by rw[Rv.want_if (o':=en25) rfl rfl rfl (hsz 239 (by decide)) dg];first|rfl|simp) (by unfold en35;simp only[execOp,hev,hcn,d242,d248];go_simp<;>rfl) hW
 ·have d239:Rv.ev a 239=.bool true:=hd 25 (by decide)
  have d249:Rv.ev a 249=.bool true:=hd 35 (by decide)
  exact Rv.run (o:=en36) rfl rfl (Rv.want_free rfl) (by unfold en36;simp only[execOp,hev,hcn,d239,d249];go_simp<;>rfl) hW
 ·have d250:Rv.ev a 250=.bool true:=hd 36 (by decide)
  exact Rv.run (o:=en37) rfl rfl (Rv.want_free rfl) (by unfold en37;simp only[execOp,hev,d250];rfl) hW
end
def enL1V (hh ww ex tx:Int):Nat→Value
 |0=>.int .i64 hh
 |1=>.bool false
 |2=>.int .i64 ex
 |3=>.bool true
 |4=>.bool true
 |5=>.int .i64 tx
 |6=>.bool false
 |7=>.bool false
 |8=>.bool false
 |9=>undef
 |10=>undef
 |11=>.bool false
 |12=>.bool false
 |13=>undef
 |14=>undef
 |15=>.bool false
 |16=>.bool true
 |17=>.bool true
 |18=>.int .i64 hh
 |19=>.bool true
 |20=>.bool true
 |21=>undef
 |22=>undef
 |23=>.bool true
 |24=>.bool true
 |25=>.bool true
 |26=>.int .i64 hh
 |27=>.bool false
 |28=>.bool false
 |29=>.int .i64 hh
 |30=>.bool true
 |31=>.bool true
 |32=>.int .i64 ww
 |33=>.bool true
 |34=>.bool true
 |35=>.bool true
 |36=>.bool true
 |_=>.bool true
section
variable {Q:Exit→Act→World→Prop} {X0 w0:World} {a0:Act}
set_option maxHeartbeats 4000000 in
theorem enL1 {hh ww ex tx ez tz:Int} (g0:(ex==0)=true) (g1:(hh==0)=false) (g2:(hh != 0)=true) (g3:(hh==34)=true) (g4:(tx==1)=false) (g5:(ww==0)=true) (hs:251≤a0.tmps.size)
  (e20:Rv.ev a0 20=.int .i64 hh)
  (e19:Rv.ev a0 19=.int .i64 ww)
  (e14:Rv.ev a0 14=.int .i64 ex)
  (e13:Rv.ev a0 13=.int .i64 tx)
  (e18:Rv.ev a0 18=.int .i64 ez)
  (e17:Rv.ev a0 17=.int .i64 tz)
  (hw:Below X0.heap.size X0 w0)
  (hQ:∀ a w,Rv.Off 38 ensl a0 a→Below X0.heap.size X0 w→(∀ j,j<38→Rv.ev a (ensl j)=(enL1V hh ww ex tx) j)→Q .normal a w) :
  wpList Try.prog enops Q enops.toList a0 w0:=by
 refine Rv.list (X0:=X0) 38 ensl (enL1V hh ww ex tx) rfl (by decide) (by decide) (fun j hj=>Nat.lt_of_lt_of_le ((by decide:∀ j,j<38→ensl j<251) j hj) hs) hw ?_ hQ
 intro i a W hi hO hW hd
 have hev:∀ j,a.eval (.tmp j)=Rv.ev a j:=fun _=>rfl
 have hcn:∀ v,a.eval (.const v)=v:=fun _=>rfl
 have hfn:∀ v,a.eval (.func v)=.func (.func v) #[] #[]:=fun _=>rfl
 have hsz:∀ k,k<251→k<a.tmps.size:=fun k hk=>by rw[hO.size];omega
 have g20:Rv.ev a 20=.int .i64 hh:=(hO.same 20 (by decide)).trans e20
 have g19:Rv.ev a 19=.int .i64 ww:=(hO.same 19 (by decide)).trans e19
 have g14:Rv.ev a 14=.int .i64 ex:=(hO.same 14 (by decide)).trans e14
 have g13:Rv.ev a 13=.int .i64 tx:=(hO.same 13 (by decide)).trans e13
 have g18:Rv.ev a 18=.int .i64 ez:=(hO.same 18 (by decide)).trans e18
 have g17:Rv.ev a 17=.int .i64 tz:=(hO.same 17 (by decide)).trans e17
 have hN:i=0∨i=1∨i=2∨i=3∨i=4∨i=5∨i=6∨i=7∨i=8∨i=9∨i=10∨i=11∨i=12∨i=13∨i=14∨i=15∨i=16∨i=17∨i=18∨i=19∨i=20∨i=21∨i=22∨i=23∨i=24∨i=25∨i=26∨i=27∨i=28∨i=29∨i=30∨i=31∨i=32∨i=33∨i=34∨i=35∨i=36∨i=37:=by omega
 rcases hN with rfl|rfl|rfl|rfl|rfl|rfl|rfl|rfl|rfl|rfl|rfl|rfl|rfl|rfl|rfl|rfl|rfl|rfl|rfl|rfl|rfl|rfl|rfl|rfl|rfl|rfl|rfl|rfl|rfl|rfl|rfl|rfl|rfl|rfl|rfl|rfl|rfl|rfl
 ·exact Rv.run (o:=en0) rfl rfl (Rv.want_free rfl) (by unfold en0;simp only[execOp,hev,g20];rfl) hW
 ·have d214:Rv.ev a 214=.int .i64 hh:=hd 0 (by decide)
  exact Rv.run (o:=en1) rfl rfl (Rv.want_free rfl) (by unfold en1;simp only[execOp,hev,hcn,d214];go_simp<;>rfl) hW
 ·exact Rv.run (o:=en2) rfl rfl (Rv.want_free rfl) (by unfold en2;simp only[execOp,hev,g14];rfl) hW
 ·have d216:Rv.ev a 216=.int .i64 ex:=hd 2 (by decide)
  exact Rv.run (o:=en3) rfl rfl (Rv.want_free rfl) (by unfold en3;simp only[execOp,hev,hcn,d216];go_simp<;>rfl) hW
 ·have d217:Rv.ev a 217=.bool true:=hd 3 (by decide)
  exact Rv.run (o:=en4) rfl rfl (Rv.want_free rfl) (by unfold en4;simp only[execOp,hev,d217];rfl) hW
 ·have dg:Rv.ev a 218=.bool true:=hd 4 (by decide)
  exact Rv.run (o:=en5) rfl rfl (by rw[Rv.want_if (o':=en4) rfl rfl rfl (hsz 218 (by decide)) dg];first|rfl|simp) (by unfold en5;simp only[execOp,hev,g13];rfl) hW
 ·have d219:Rv.ev a 219=.int .i64 tx:=hd 5 (by decide)
  have dg:Rv.ev a 218=.bool true:=hd 4 (by decide)
  exact Rv.run (o:=en6) rfl rfl (by rw[Rv.want_if (o':=en4) rfl rfl rfl (hsz 218 (by decide)) dg];first|rfl|simp) (by unfold en6;simp only[execOp,hev,hcn,d219];go_simp<;>rfl) hW
 ·have d218:Rv.ev a 218=.bool true:=hd 4 (by decide)
  have d220:Rv.ev a 220=.bool false:=hd 6 (by decide)
  exact Rv.run (o:=en7) rfl rfl (Rv.want_free rfl) (by unfold en7;simp only[execOp,hev,hcn,d218,d220];go_simp<;>rfl) hW
 ·have d221:Rv.ev a 221=.bool false:=hd 7 (by decide)
  exact Rv.run (o:=en8) rfl rfl (Rv.want_free rfl) (by unfold en8;simp only[execOp,hev,d221];rfl) hW
 ·have dg:Rv.ev a 222=.bool false:=hd 8 (by decide)
  exact Rv.skip (o:=en9) rfl rfl (by rw[Rv.want_if (o':=en8) rfl rfl rfl (hsz 222 (by decide)) dg];first|rfl|simp) hW
 ·have d223:Rv.ev a 223=undef:=hd 9 (by decide)
  have dg:Rv.ev a 222=.bool false:=hd 8 (by decide)
  exact Rv.skip (o:=en10) rfl rfl (by rw[Rv.want_if (o':=en8) rfl rfl rfl (hsz 222 (by decide)) dg];first|rfl|simp) hW
 ·have d222:Rv.ev a 222=.bool false:=hd 8 (by decide)
  have d224:Rv.ev a 224=undef:=hd 10 (by decide)
  exact Rv.run (o:=en11) rfl rfl (Rv.want_free rfl) (by unfold en11;simp only[execOp,hev,hcn,d222,d224];go_simp<;>rfl) hW
 ·have d225:Rv.ev a 225=.bool false:=hd 11 (by decide)
  exact Rv.run (o:=en12) rfl rfl (Rv.want_free rfl) (by unfold en12;simp only[execOp,hev,d225];rfl) hW
 ·have dg:Rv.ev a 226=.bool false:=hd 12 (by decide)
  exact Rv.skip (o:=en13) rfl rfl (by rw[Rv.want_if (o':=en12) rfl rfl rfl (hsz 226 (by decide)) dg];first|rfl|simp) hW
 ·have d227:Rv.ev a 227=undef:=hd 13 (by decide)
  have dg:Rv.ev a 226=.bool false:=hd 12 (by decide)
  exact Rv.skip (o:=en14) rfl rfl (by rw[Rv.want_if (o':=en12) rfl rfl rfl (hsz 226 (by decide)) dg];first|rfl|simp) hW
 ·have d226:Rv.ev a 226=.bool false:=hd 12 (by decide)
  have d228:Rv.ev a 228=undef:=hd 14 (by decide)
  exact Rv.run (o:=en15) rfl rfl (Rv.want_free rfl) (by unfold en15;simp only[execOp,hev,hcn,d226,d228];go_simp<;>rfl) hW
 ·have d215:Rv.ev a 215=.bool false:=hd 1 (by decide)
  have d229:Rv.ev a 229=.bool false:=hd 15 (by decide)
  exact Rv.run (o:=en16) rfl rfl (Rv.want_free rfl) (by unfold en16;simp only[execOp,hev,d215,d229];go_simp<;>rfl) hW
 ·have d230:Rv.ev a 230=.bool true:=hd 16 (by decide)
  exact Rv.run (o:=en17) rfl rfl (Rv.want_free rfl) (by unfold en17;simp only[execOp,hev,d230];rfl) hW
 ·have dg:Rv.ev a 231=.bool true:=hd 17 (by decide)
  exact Rv.run (o:=en18) rfl rfl (by rw[Rv.want_if (o':=en17) rfl rfl rfl (hsz 231 (by decide)) dg];first|rfl|simp) (by unfold en18;simp only[execOp,hev,g20];rfl) hW
 ·have d232:Rv.ev a 232=.int .i64 hh:=hd 18 (by decide)
  have dg:Rv.ev a 231=.bool true:=hd 17 (by decide)
  exact Rv.run (o:=en19) rfl rfl (by rw[Rv.want_if (o':=en17) rfl rfl rfl (hsz 231 (by decide)) dg];first|rfl|simp) (by unfold en19;simp only[execOp,hev,hcn,d232];go_simp<;>rfl) hW
 ·have d233:Rv.ev a 233=.bool true:=hd 19 (by decide)
  have dg:Rv.ev a 231=.bool true:=hd 17 (by decide)
  exact Rv.run (o:=en20) rfl rfl (by rw[Rv.want_if (o':=en17) rfl rfl rfl (hsz 231 (by decide)) dg];first|rfl|simp) (by unfold en20;simp only[execOp,hev,d233];rfl) hW
 ·have dg:Rv.ev a 234=.bool true:=hd 20 (by decide)
  exact Rv.skip (o:=en21) rfl rfl (by rw[Rv.want_if (o':=en20) rfl rfl rfl (hsz 234 (by decide)) dg];first|rfl|simp) hW
 ·have d235:Rv.ev a 235=undef:=hd 21 (by decide)
  have dg:Rv.ev a 234=.bool true:=hd 20 (by decide)
  exact Rv.skip (o:=en22) rfl rfl (by rw[Rv.want_if (o':=en20) rfl rfl rfl (hsz 234 (by decide)) dg];first|rfl|simp) hW
 ·have d234:Rv.ev a 234=.bool true:=hd 20 (by decide)
  have d236:Rv.ev a 236=undef:=hd 22 (by decide)
  have dg:Rv.ev a 231=.bool true:=hd 17 (by decide)
  exact Rv.run (o:=en23) rfl rfl (by rw[Rv.want_if (o':=en17) rfl rfl rfl (hsz 231 (by decide)) dg];first|rfl|simp) (by unfold en23;simp only[execOp,hev,hcn,d234,d236];go_simp<;>rfl) hW
 ·have d231:Rv.ev a 231=.bool true:=hd 17 (by decide)
  have d237:Rv.ev a 237=.bool true:=hd 23 (by decide)
  exact Rv.run (o:=en24) rfl rfl (Rv.want_free rfl) (by unfold en24;simp only[execOp,hev,hcn,d231,d237];go_simp<;>rfl) hW
 ·have d238:Rv.ev a 238=.bool true:=hd 24 (by decide)
  exact Rv.run (o:=en25) rfl rfl (Rv.want_free rfl) (by unfold en25;simp only[execOp,hev,d238];rfl) hW
 ·have dg:Rv.ev a 239=.bool true:=hd 25 (by decide)
  exact Rv.run (o:=en26) rfl rfl (by rw[Rv.want_if (o':=en25) rfl rfl rfl (hsz 239 (by decide)) dg];first|rfl|simp) (by unfold en26;simp only[execOp,hev,g20];rfl) hW
 ·have d240:Rv.ev a 240=.int .i64 hh:=hd 26 (by decide)
  have dg:Rv.ev a 239=.bool true:=hd 25 (by decide)
  exact Rv.run (o:=en27) rfl rfl (by rw[Rv.want_if (o':=en25) rfl rfl rfl (hsz 239 (by decide)) dg];first|rfl|simp) (by unfold en27;simp only[execOp,hev,hcn,d240];go_simp<;>rfl) hW
 ·have d241:Rv.ev a 241=.bool false:=hd 27 (by decide)
  have dg:Rv.ev a 239=.bool true:=hd 25 (by decide)
  exact Rv.run (o:=en28) rfl rfl (by rw[Rv.want_if (o':=en25) rfl rfl rfl (hsz 239 (by decide)) dg];first|rfl|simp) (by unfold en28;simp only[execOp,hev,d241];rfl) hW
 ·have dg:Rv.ev a 242=.bool false:=hd 28 (by decide)
  exact Rv.run (o:=en29) rfl rfl (by rw[Rv.want_if (o':=en28) rfl rfl rfl (hsz 242 (by decide)) dg];first|rfl|simp) (by unfold en29;simp only[execOp,hev,g20];rfl) hW
 ·have d243:Rv.ev a 243=.int .i64 hh:=hd 29 (by decide)
  have dg:Rv.ev a 242=.bool false:=hd 28 (by decide)
  exact Rv.run (o:=en30) rfl rfl (by rw[Rv.want_if (o':=en28) rfl rfl rfl (hsz 242 (by decide)) dg];first|rfl|simp) (by unfold en30;simp only[execOp,hev,hcn,d243];go_simp<;>rfl) hW
 ·have d244:Rv.ev a 244=.bool true:=hd 30 (by decide)
  have dg:Rv.ev a 242=.bool false:=hd 28 (by decide)
  exact Rv.run (o:=en31) rfl rfl (by rw[Rv.want_if (o':=en28) rfl rfl rfl (hsz 242 (by decide)) dg];first|rfl|simp) (by unfold en31;simp only[execOp,hev,d244];rfl) hW
 ·have dg:Rv.ev a 245=.bool true:=hd 31 (by decide)
  exact Rv.run (o:=en32) rfl rfl (by rw[Rv.want_if (o':=en31) rfl rfl rfl (hsz 245 (by decide)) dg];first|rfl|simp) (by unfold en32;simp only[execOp,hev,g19];rfl) hW
 ·have d246:Rv.ev a 246=.int .i64 ww:=hd 32 (by decide)
  have dg:Rv.ev a 245=.bool true:=hd 31 (by decide)
  exact Rv.run (o:=en33) rfl rfl (by rw[Rv.want_if (o':=en31) rfl rfl rfl (hsz 245 (by decide)) dg];first|rfl|simp) (by unfold en33;simp only[execOp,hev,hcn,d246];go_simp<;>rfl) hW
 ·have d245:Rv.ev a 245=.bool true:=hd 31 (by decide)
  have d247:Rv.ev a 247=.bool true:=hd 33 (by decide)
  have dg:Rv.ev a 242=.bool false:=hd 28 (by decide)
  exact Rv.run (o:=en34) rfl rfl (by rw[Rv.want_if (o':=en28) rfl rfl rfl (hsz 242 (by decide)) dg];first|rfl|simp) (by unfold en34;simp only[execOp,hev,hcn,d245,d247];go_simp<;>rfl) hW
 ·have d242:Rv.ev a 242=.bool false:=hd 28 (by decide)
  have d248:Rv.ev a 248=.bool true:=hd 34 (by decide)
  have dg:Rv.ev a 239=.bool true:=hd 25 (by decide)
  exact Rv.run (o:=en35) rfl rfl (by rw[Rv.want_if (o':=en25) rfl rfl rfl (hsz 239 (by decide)) dg];first|rfl|simp) (by unfold en35;simp only[execOp,hev,hcn,d242,d248];go_simp<;>rfl) hW
 ·have d239:Rv.ev a 239=.bool true:=hd 25 (by decide)
  have d249:Rv.ev a 249=.bool true:=hd 35 (by decide)
  exact Rv.run (o:=en36) rfl rfl (Rv.want_free rfl) (by unfold en36;simp only[execOp,hev,hcn,d239,d249];go_simp<;>rfl) hW
 ·have d250:Rv.ev a 250=.bool true:=hd 36 (by decide)
  exact Rv.run (o:=en37) rfl rfl (Rv.want_free rfl) (by unfold en37;simp only[execOp,hev,d250];rfl) hW
end
def enL2V (hh ww ex tx ez:Int):Nat→Value
 |0=>.int .i64 hh
 |1=>.bool false
 |2=>.int .i64 ex
 |3=>.bool true
 |4=>.bool true
 |5=>.int .i64 tx
 |6=>.bool true
 |7=>.bool true
 |8=>.bool true
 |9=>.int .i64 ez
 |10=>.bool false
 |11=>.bool false
 |12=>.bool false
 |13=>undef
 |14=>undef
 |15=>.bool false
 |16=>.bool true
 |17=>.bool true
 |18=>.int .i64 hh
 |19=>.bool true
 |20=>.bool true
 |21=>undef
 |22=>undef
 |23=>.bool true
 |24=>.bool true
 |25=>.bool true
 |26=>.int .i64 hh
 |27=>.bool false
 |28=>.bool false
 |29=>.int .i64 hh
 |30=>.bool true
 |31=>.bool true
 |32=>.int .i64 ww
 |33=>.bool true
 |34=>.bool true
 |35=>.bool true
 |36=>.bool true
 |_=>.bool true
section
variable {Q:Exit→Act→World→Prop} {X0 w0:World} {a0:Act}
set_option maxHeartbeats 4000000 in
theorem enL2 {hh ww ex tx ez tz:Int} (g0:(ex==0)=true) (g1:(ez==0)=false) (g2:(hh==0)=false) (g3:(hh != 0)=true) (g4:(hh==34)=true) (g5:(tx==1)=true) (g6:(ww==0)=true) (hs:251≤a0.tmps.size)
  (e20:Rv.ev a0 20=.int .i64 hh)
  (e19:Rv.ev a0 19=.int .i64 ww)
  (e14:Rv.ev a0 14=.int .i64 ex)
  (e13:Rv.ev a0 13=.int .i64 tx)
  (e18:Rv.ev a0 18=.int .i64 ez)
  (e17:Rv.ev a0 17=.int .i64 tz)
  (hw:Below X0.heap.size X0 w0)
  (hQ:∀ a w,Rv.Off 38 ensl a0 a→Below X0.heap.size X0 w→(∀ j,j<38→Rv.ev a (ensl j)=(enL2V hh ww ex tx ez) j)→Q .normal a w) :
  wpList Try.prog enops Q enops.toList a0 w0:=by
 refine Rv.list (X0:=X0) 38 ensl (enL2V hh ww ex tx ez) rfl (by decide) (by decide) (fun j hj=>Nat.lt_of_lt_of_le ((by decide:∀ j,j<38→ensl j<251) j hj) hs) hw ?_ hQ
 intro i a W hi hO hW hd
 have hev:∀ j,a.eval (.tmp j)=Rv.ev a j:=fun _=>rfl
 have hcn:∀ v,a.eval (.const v)=v:=fun _=>rfl
 have hfn:∀ v,a.eval (.func v)=.func (.func v) #[] #[]:=fun _=>rfl
 have hsz:∀ k,k<251→k<a.tmps.size:=fun k hk=>by rw[hO.size];omega
 have g20:Rv.ev a 20=.int .i64 hh:=(hO.same 20 (by decide)).trans e20
 have g19:Rv.ev a 19=.int .i64 ww:=(hO.same 19 (by decide)).trans e19
 have g14:Rv.ev a 14=.int .i64 ex:=(hO.same 14 (by decide)).trans e14
 have g13:Rv.ev a 13=.int .i64 tx:=(hO.same 13 (by decide)).trans e13
 have g18:Rv.ev a 18=.int .i64 ez:=(hO.same 18 (by decide)).trans e18
 have g17:Rv.ev a 17=.int .i64 tz:=(hO.same 17 (by decide)).trans e17
 have hN:i=0∨i=1∨i=2∨i=3∨i=4∨i=5∨i=6∨i=7∨i=8∨i=9∨i=10∨i=11∨i=12∨i=13∨i=14∨i=15∨i=16∨i=17∨i=18∨i=19∨i=20∨i=21∨i=22∨i=23∨i=24∨i=25∨i=26∨i=27∨i=28∨i=29∨i=30∨i=31∨i=32∨i=33∨i=34∨i=35∨i=36∨i=37:=by omega
 rcases hN with rfl|rfl|rfl|rfl|rfl|rfl|rfl|rfl|rfl|rfl|rfl|rfl|rfl|rfl|rfl|rfl|rfl|rfl|rfl|rfl|rfl|rfl|rfl|rfl|rfl|rfl|rfl|rfl|rfl|rfl|rfl|rfl|rfl|rfl|rfl|rfl|rfl|rfl
 ·exact Rv.run (o:=en0) rfl rfl (Rv.want_free rfl) (by unfold en0;simp only[execOp,hev,g20];rfl) hW
 ·have d214:Rv.ev a 214=.int .i64 hh:=hd 0 (by decide)
  exact Rv.run (o:=en1) rfl rfl (Rv.want_free rfl) (by unfold en1;simp only[execOp,hev,hcn,d214];go_simp<;>rfl) hW
 ·exact Rv.run (o:=en2) rfl rfl (Rv.want_free rfl) (by unfold en2;simp only[execOp,hev,g14];rfl) hW
 ·have d216:Rv.ev a 216=.int .i64 ex:=hd 2 (by decide)
  exact Rv.run (o:=en3) rfl rfl (Rv.want_free rfl) (by unfold en3;simp only[execOp,hev,hcn,d216];go_simp<;>rfl) hW
 ·have d217:Rv.ev a 217=.bool true:=hd 3 (by decide)
  exact Rv.run (o:=en4) rfl rfl (Rv.want_free rfl) (by unfold en4;simp only[execOp,hev,d217];rfl) hW
 ·have dg:Rv.ev a 218=.bool true:=hd 4 (by decide)
  exact Rv.run (o:=en5) rfl rfl (by rw[Rv.want_if (o':=en4) rfl rfl rfl (hsz 218 (by decide)) dg];first|rfl|simp) (by unfold en5;simp only[execOp,hev,g13];rfl) hW
 ·have d219:Rv.ev a 219=.int .i64 tx:=hd 5 (by decide)
  have dg:Rv.ev a 218=.bool true:=hd 4 (by decide)
  exact Rv.run (o:=en6) rfl rfl (by rw[Rv.want_if (o':=en4) rfl rfl rfl (hsz 218 (by decide)) dg];first|rfl|simp) (by unfold en6;simp only[execOp,hev,hcn,d219];go_simp<;>rfl) hW
 ·have d218:Rv.ev a 218=.bool true:=hd 4 (by decide)
  have d220:Rv.ev a 220=.bool true:=hd 6 (by decide)
  exact Rv.run (o:=en7) rfl rfl (Rv.want_free rfl) (by unfold en7;simp only[execOp,hev,hcn,d218,d220];go_simp<;>rfl) hW
 ·have d221:Rv.ev a 221=.bool true:=hd 7 (by decide)
  exact Rv.run (o:=en8) rfl rfl (Rv.want_free rfl) (by unfold en8;simp only[execOp,hev,d221];rfl) hW
 ·have dg:Rv.ev a 222=.bool true:=hd 8 (by decide)
  exact Rv.run (o:=en9) rfl rfl (by rw[Rv.want_if (o':=en8) rfl rfl rfl (hsz 222 (by decide)) dg];first|rfl|simp) (by unfold en9;simp only[execOp,hev,g18];rfl) hW
 ·have d223:Rv.ev a 223=.int .i64 ez:=hd 9 (by decide)
  have dg:Rv.ev a 222=.bool true:=hd 8 (by decide)
  exact Rv.run (o:=en10) rfl rfl (by rw[Rv.want_if (o':=en8) rfl rfl rfl (hsz 222 (by decide)) dg];first|rfl|simp) (by unfold en10;simp only[execOp,hev,hcn,d223];go_simp<;>rfl) hW
 ·have d222:Rv.ev a 222=.bool true:=hd 8 (by decide)
  have d224:Rv.ev a 224=.bool false:=hd 10 (by decide)
  exact Rv.run (o:=en11) rfl rfl (Rv.want_free rfl) (by unfold en11;simp only[execOp,hev,hcn,d222,d224];go_simp<;>rfl) hW
 ·have d225:Rv.ev a 225=.bool false:=hd 11 (by decide)
  exact Rv.run (o:=en12) rfl rfl (Rv.want_free rfl) (by unfold en12;simp only[execOp,hev,d225];rfl) hW
 ·have dg:Rv.ev a 226=.bool false:=hd 12 (by decide)
  exact Rv.skip (o:=en13) rfl rfl (by rw[Rv.want_if (o':=en12) rfl rfl rfl (hsz 226 (by decide)) dg];first|rfl|simp) hW
 ·have d227:Rv.ev a 227=undef:=hd 13 (by decide)
  have dg:Rv.ev a 226=.bool false:=hd 12 (by decide)
  exact Rv.skip (o:=en14) rfl rfl (by rw[Rv.want_if (o':=en12) rfl rfl rfl (hsz 226 (by decide)) dg];first|rfl|simp) hW
 ·have d226:Rv.ev a 226=.bool false:=hd 12 (by decide)
  have d228:Rv.ev a 228=undef:=hd 14 (by decide)
  exact Rv.run (o:=en15) rfl rfl (Rv.want_free rfl) (by unfold en15;simp only[execOp,hev,hcn,d226,d228];go_simp<;>rfl) hW
 ·have d215:Rv.ev a 215=.bool false:=hd 1 (by decide)
  have d229:Rv.ev a 229=.bool false:=hd 15 (by decide)
  exact Rv.run (o:=en16) rfl rfl (Rv.want_free rfl) (by unfold en16;simp only[execOp,hev,d215,d229];go_simp<;>rfl) hW
 ·have d230:Rv.ev a 230=.bool true:=hd 16 (by decide)
  exact Rv.run (o:=en17) rfl rfl (Rv.want_free rfl) (by unfold en17;simp only[execOp,hev,d230];rfl) hW
 ·have dg:Rv.ev a 231=.bool true:=hd 17 (by decide)
  exact Rv.run (o:=en18) rfl rfl (by rw[Rv.want_if (o':=en17) rfl rfl rfl (hsz 231 (by decide)) dg];first|rfl|simp) (by unfold en18;simp only[execOp,hev,g20];rfl) hW
 ·have d232:Rv.ev a 232=.int .i64 hh:=hd 18 (by decide)
  have dg:Rv.ev a 231=.bool true:=hd 17 (by decide)
  exact Rv.run (o:=en19) rfl rfl (by rw[Rv.want_if (o':=en17) rfl rfl rfl (hsz 231 (by decide)) dg];first|rfl|simp) (by unfold en19;simp only[execOp,hev,hcn,d232];go_simp<;>rfl) hW
 ·have d233:Rv.ev a 233=.bool true:=hd 19 (by decide)
  have dg:Rv.ev a 231=.bool true:=hd 17 (by decide)
  exact Rv.run (o:=en20) rfl rfl (by rw[Rv.want_if (o':=en17) rfl rfl rfl (hsz 231 (by decide)) dg];first|rfl|simp) (by unfold en20;simp only[execOp,hev,d233];rfl) hW
 ·have dg:Rv.ev a 234=.bool true:=hd 20 (by decide)
  exact Rv.skip (o:=en21) rfl rfl (by rw[Rv.want_if (o':=en20) rfl rfl rfl (hsz 234 (by decide)) dg];first|rfl|simp) hW
 ·have d235:Rv.ev a 235=undef:=hd 21 (by decide)
  have dg:Rv.ev a 234=.bool true:=hd 20 (by decide)
  exact Rv.skip (o:=en22) rfl rfl (by rw[Rv.want_if (o':=en20) rfl rfl rfl (hsz 234 (by decide)) dg];first|rfl|simp) hW
 ·have d234:Rv.ev a 234=.bool true:=hd 20 (by decide)
  have d236:Rv.ev a 236=undef:=hd 22 (by decide)
  have dg:Rv.ev a 231=.bool true:=hd 17 (by decide)
  exact Rv.run (o:=en23) rfl rfl (by rw[Rv.want_if (o':=en17) rfl rfl rfl (hsz 231 (by decide)) dg];first|rfl|simp) (by unfold en23;simp only[execOp,hev,hcn,d234,d236];go_simp<;>rfl) hW
 ·have d231:Rv.ev a 231=.bool true:=hd 17 (by decide)
  have d237:Rv.ev a 237=.bool true:=hd 23 (by decide)
  exact Rv.run (o:=en24) rfl rfl (Rv.want_free rfl) (by unfold en24;simp only[execOp,hev,hcn,d231,d237];go_simp<;>rfl) hW
 ·have d238:Rv.ev a 238=.bool true:=hd 24 (by decide)
  exact Rv.run (o:=en25) rfl rfl (Rv.want_free rfl) (by unfold en25;simp only[execOp,hev,d238];rfl) hW
 ·have dg:Rv.ev a 239=.bool true:=hd 25 (by decide)
  exact Rv.run (o:=en26) rfl rfl (by rw[Rv.want_if (o':=en25) rfl rfl rfl (hsz 239 (by decide)) dg];first|rfl|simp) (by unfold en26;simp only[execOp,hev,g20];rfl) hW
 ·have d240:Rv.ev a 240=.int .i64 hh:=hd 26 (by decide)
  have dg:Rv.ev a 239=.bool true:=hd 25 (by decide)
  exact Rv.run (o:=en27) rfl rfl (by rw[Rv.want_if (o':=en25) rfl rfl rfl (hsz 239 (by decide)) dg];first|rfl|simp) (by unfold en27;simp only[execOp,hev,hcn,d240];go_simp<;>rfl) hW
 ·have d241:Rv.ev a 241=.bool false:=hd 27 (by decide)
  have dg:Rv.ev a 239=.bool true:=hd 25 (by decide)
  exact Rv.run (o:=en28) rfl rfl (by rw[Rv.want_if (o':=en25) rfl rfl rfl (hsz 239 (by decide)) dg];first|rfl|simp) (by unfold en28;simp only[execOp,hev,d241];rfl) hW
 ·have dg:Rv.ev a 242=.bool false:=hd 28 (by decide)
  exact Rv.run (o:=en29) rfl rfl (by rw[Rv.want_if (o':=en28) rfl rfl rfl (hsz 242 (by decide)) dg];first|rfl|simp) (by unfold en29;simp only[execOp,hev,g20];rfl) hW
 ·have d243:Rv.ev a 243=.int .i64 hh:=hd 29 (by decide)
  have dg:Rv.ev a 242=.bool false:=hd 28 (by decide)
  exact Rv.run (o:=en30) rfl rfl (by rw[Rv.want_if (o':=en28) rfl rfl rfl (hsz 242 (by decide)) dg];first|rfl|simp) (by unfold en30;simp only[execOp,hev,hcn,d243];go_simp<;>rfl) hW
 ·have d244:Rv.ev a 244=.bool true:=hd 30 (by decide)
  have dg:Rv.ev a 242=.bool false:=hd 28 (by decide)
  exact Rv.run (o:=en31) rfl rfl (by rw[Rv.want_if (o':=en28) rfl rfl rfl (hsz 242 (by decide)) dg];first|rfl|simp) (by unfold en31;simp only[execOp,hev,d244];rfl) hW
 ·have dg:Rv.ev a 245=.bool true:=hd 31 (by decide)
  exact Rv.run (o:=en32) rfl rfl (by rw[Rv.want_if (o':=en31) rfl rfl rfl (hsz 245 (by decide)) dg];first|rfl|simp) (by unfold en32;simp only[execOp,hev,g19];rfl) hW
 ·have d246:Rv.ev a 246=.int .i64 ww:=hd 32 (by decide)
  have dg:Rv.ev a 245=.bool true:=hd 31 (by decide)
  exact Rv.run (o:=en33) rfl rfl (by rw[Rv.want_if (o':=en31) rfl rfl rfl (hsz 245 (by decide)) dg];first|rfl|simp) (by unfold en33;simp only[execOp,hev,hcn,d246];go_simp<;>rfl) hW
 ·have d245:Rv.ev a 245=.bool true:=hd 31 (by decide)
  have d247:Rv.ev a 247=.bool true:=hd 33 (by decide)
  have dg:Rv.ev a 242=.bool false:=hd 28 (by decide)
  exact Rv.run (o:=en34) rfl rfl (by rw[Rv.want_if (o':=en28) rfl rfl rfl (hsz 242 (by decide)) dg];first|rfl|simp) (by unfold en34;simp only[execOp,hev,hcn,d245,d247];go_simp<;>rfl) hW
 ·have d242:Rv.ev a 242=.bool false:=hd 28 (by decide)
  have d248:Rv.ev a 248=.bool true:=hd 34 (by decide)
  have dg:Rv.ev a 239=.bool true:=hd 25 (by decide)
  exact Rv.run (o:=en35) rfl rfl (by rw[Rv.want_if (o':=en25) rfl rfl rfl (hsz 239 (by decide)) dg];first|rfl|simp) (by unfold en35;simp only[execOp,hev,hcn,d242,d248];go_simp<;>rfl) hW
 ·have d239:Rv.ev a 239=.bool true:=hd 25 (by decide)
  have d249:Rv.ev a 249=.bool true:=hd 35 (by decide)
  exact Rv.run (o:=en36) rfl rfl (Rv.want_free rfl) (by unfold en36;simp only[execOp,hev,hcn,d239,d249];go_simp<;>rfl) hW
 ·have d250:Rv.ev a 250=.bool true:=hd 36 (by decide)
  exact Rv.run (o:=en37) rfl rfl (Rv.want_free rfl) (by unfold en37;simp only[execOp,hev,d250];rfl) hW
end
def enL3V (hh ww ex tx ez tz:Int):Nat→Value
 |0=>.int .i64 hh
 |1=>.bool false
 |2=>.int .i64 ex
 |3=>.bool true
 |4=>.bool true
 |5=>.int .i64 tx
 |6=>.bool true
 |7=>.bool true
 |8=>.bool true
 |9=>.int .i64 ez
 |10=>.bool true
 |11=>.bool true
 |12=>.bool true
 |13=>.int .i64 tz
 |14=>.bool false
 |15=>.bool false
 |16=>.bool true
 |17=>.bool true
 |18=>.int .i64 hh
 |19=>.bool true
 |20=>.bool true
 |21=>undef
 |22=>undef
 |23=>.bool true
 |24=>.bool true
 |25=>.bool true
 |26=>.int .i64 hh
 |27=>.bool false
 |28=>.bool false
 |29=>.int .i64 hh
 |30=>.bool true
 |31=>.bool true
 |32=>.int .i64 ww
 |33=>.bool true
 |34=>.bool true
 |35=>.bool true
 |36=>.bool true
 |_=>.bool true
section
variable {Q:Exit→Act→World→Prop} {X0 w0:World} {a0:Act}
set_option maxHeartbeats 4000000 in
theorem enL3 {hh ww ex tx ez tz:Int} (g0:(ex==0)=true) (g1:(ez==0)=true) (g2:(hh==0)=false) (g3:(hh != 0)=true) (g4:(hh==34)=true) (g5:(tx==1)=true) (g6:(tz==1)=false) (g7:(ww==0)=true) (hs:251≤a0.tmps.size)
  (e20:Rv.ev a0 20=.int .i64 hh)
  (e19:Rv.ev a0 19=.int .i64 ww)
  (e14:Rv.ev a0 14=.int .i64 ex)
  (e13:Rv.ev a0 13=.int .i64 tx)
  (e18:Rv.ev a0 18=.int .i64 ez)
  (e17:Rv.ev a0 17=.int .i64 tz)
  (hw:Below X0.heap.size X0 w0)
  (hQ:∀ a w,Rv.Off 38 ensl a0 a→Below X0.heap.size X0 w→(∀ j,j<38→Rv.ev a (ensl j)=(enL3V hh ww ex tx ez tz) j)→Q .normal a w) :
  wpList Try.prog enops Q enops.toList a0 w0:=by
 refine Rv.list (X0:=X0) 38 ensl (enL3V hh ww ex tx ez tz) rfl (by decide) (by decide) (fun j hj=>Nat.lt_of_lt_of_le ((by decide:∀ j,j<38→ensl j<251) j hj) hs) hw ?_ hQ
 intro i a W hi hO hW hd
 have hev:∀ j,a.eval (.tmp j)=Rv.ev a j:=fun _=>rfl
 have hcn:∀ v,a.eval (.const v)=v:=fun _=>rfl
 have hfn:∀ v,a.eval (.func v)=.func (.func v) #[] #[]:=fun _=>rfl
 have hsz:∀ k,k<251→k<a.tmps.size:=fun k hk=>by rw[hO.size];omega
 have g20:Rv.ev a 20=.int .i64 hh:=(hO.same 20 (by decide)).trans e20
 have g19:Rv.ev a 19=.int .i64 ww:=(hO.same 19 (by decide)).trans e19
 have g14:Rv.ev a 14=.int .i64 ex:=(hO.same 14 (by decide)).trans e14
 have g13:Rv.ev a 13=.int .i64 tx:=(hO.same 13 (by decide)).trans e13
 have g18:Rv.ev a 18=.int .i64 ez:=(hO.same 18 (by decide)).trans e18
 have g17:Rv.ev a 17=.int .i64 tz:=(hO.same 17 (by decide)).trans e17
 have hN:i=0∨i=1∨i=2∨i=3∨i=4∨i=5∨i=6∨i=7∨i=8∨i=9∨i=10∨i=11∨i=12∨i=13∨i=14∨i=15∨i=16∨i=17∨i=18∨i=19∨i=20∨i=21∨i=22∨i=23∨i=24∨i=25∨i=26∨i=27∨i=28∨i=29∨i=30∨i=31∨i=32∨i=33∨i=34∨i=35∨i=36∨i=37:=by omega
 rcases hN with rfl|rfl|rfl|rfl|rfl|rfl|rfl|rfl|rfl|rfl|rfl|rfl|rfl|rfl|rfl|rfl|rfl|rfl|rfl|rfl|rfl|rfl|rfl|rfl|rfl|rfl|rfl|rfl|rfl|rfl|rfl|rfl|rfl|rfl|rfl|rfl|rfl|rfl
 ·exact Rv.run (o:=en0) rfl rfl (Rv.want_free rfl) (by unfold en0;simp only[execOp,hev,g20];rfl) hW
 ·have d214:Rv.ev a 214=.int .i64 hh:=hd 0 (by decide)
  exact Rv.run (o:=en1) rfl rfl (Rv.want_free rfl) (by unfold en1;simp only[execOp,hev,hcn,d214];go_simp<;>rfl) hW
 ·exact Rv.run (o:=en2) rfl rfl (Rv.want_free rfl) (by unfold en2;simp only[execOp,hev,g14];rfl) hW
 ·have d216:Rv.ev a 216=.int .i64 ex:=hd 2 (by decide)
  exact Rv.run (o:=en3) rfl rfl (Rv.want_free rfl) (by unfold en3;simp only[execOp,hev,hcn,d216];go_simp<;>rfl) hW
 ·have d217:Rv.ev a 217=.bool true:=hd 3 (by decide)
  exact Rv.run (o:=en4) rfl rfl (Rv.want_free rfl) (by unfold en4;simp only[execOp,hev,d217];rfl) hW
 ·have dg:Rv.ev a 218=.bool true:=hd 4 (by decide)
  exact Rv.run (o:=en5) rfl rfl (by rw[Rv.want_if (o':=en4) rfl rfl rfl (hsz 218 (by decide)) dg];first|rfl|simp) (by unfold en5;simp only[execOp,hev,g13];rfl) hW
 ·have d219:Rv.ev a 219=.int .i64 tx:=hd 5 (by decide)
  have dg:Rv.ev a 218=.bool true:=hd 4 (by decide)
  exact Rv.run (o:=en6) rfl rfl (by rw[Rv.want_if (o':=en4) rfl rfl rfl (hsz 218 (by decide)) dg];first|rfl|simp) (by unfold en6;simp only[execOp,hev,hcn,d219];go_simp<;>rfl) hW
 ·have d218:Rv.ev a 218=.bool true:=hd 4 (by decide)
  have d220:Rv.ev a 220=.bool true:=hd 6 (by decide)
  exact Rv.run (o:=en7) rfl rfl (Rv.want_free rfl) (by unfold en7;simp only[execOp,hev,hcn,d218,d220];go_simp<;>rfl) hW
 ·have d221:Rv.ev a 221=.bool true:=hd 7 (by decide)
  exact Rv.run (o:=en8) rfl rfl (Rv.want_free rfl) (by unfold en8;simp only[execOp,hev,d221];rfl) hW
 ·have dg:Rv.ev a 222=.bool true:=hd 8 (by decide)
  exact Rv.run (o:=en9) rfl rfl (by rw[Rv.want_if (o':=en8) rfl rfl rfl (hsz 222 (by decide)) dg];first|rfl|simp) (by unfold en9;simp only[execOp,hev,g18];rfl) hW
 ·have d223:Rv.ev a 223=.int .i64 ez:=hd 9 (by decide)
  have dg:Rv.ev a 222=.bool true:=hd 8 (by decide)
  exact Rv.run (o:=en10) rfl rfl (by rw[Rv.want_if (o':=en8) rfl rfl rfl (hsz 222 (by decide)) dg];first|rfl|simp) (by unfold en10;simp only[execOp,hev,hcn,d223];go_simp<;>rfl) hW
 ·have d222:Rv.ev a 222=.bool true:=hd 8 (by decide)
  have d224:Rv.ev a 224=.bool true:=hd 10 (by decide)
  exact Rv.run (o:=en11) rfl rfl (Rv.want_free rfl) (by unfold en11;simp only[execOp,hev,hcn,d222,d224];go_simp<;>rfl) hW
 ·have d225:Rv.ev a 225=.bool true:=hd 11 (by decide)
  exact Rv.run (o:=en12) rfl rfl (Rv.want_free rfl) (by unfold en12;simp only[execOp,hev,d225];rfl) hW
 ·have dg:Rv.ev a 226=.bool true:=hd 12 (by decide)
  exact Rv.run (o:=en13) rfl rfl (by rw[Rv.want_if (o':=en12) rfl rfl rfl (hsz 226 (by decide)) dg];first|rfl|simp) (by unfold en13;simp only[execOp,hev,g17];rfl) hW
 ·have d227:Rv.ev a 227=.int .i64 tz:=hd 13 (by decide)
  have dg:Rv.ev a 226=.bool true:=hd 12 (by decide)
  exact Rv.run (o:=en14) rfl rfl (by rw[Rv.want_if (o':=en12) rfl rfl rfl (hsz 226 (by decide)) dg];first|rfl|simp) (by unfold en14;simp only[execOp,hev,hcn,d227];go_simp<;>rfl) hW
 ·have d226:Rv.ev a 226=.bool true:=hd 12 (by decide)
  have d228:Rv.ev a 228=.bool false:=hd 14 (by decide)
  exact Rv.run (o:=en15) rfl rfl (Rv.want_free rfl) (by unfold en15;simp only[execOp,hev,hcn,d226,d228];go_simp<;>rfl) hW
 ·have d215:Rv.ev a 215=.bool false:=hd 1 (by decide)
  have d229:Rv.ev a 229=.bool false:=hd 15 (by decide)
  exact Rv.run (o:=en16) rfl rfl (Rv.want_free rfl) (by unfold en16;simp only[execOp,hev,d215,d229];go_simp<;>rfl) hW
 ·have d230:Rv.ev a 230=.bool true:=hd 16 (by decide)
  exact Rv.run (o:=en17) rfl rfl (Rv.want_free rfl) (by unfold en17;simp only[execOp,hev,d230];rfl) hW
 ·have dg:Rv.ev a 231=.bool true:=hd 17 (by decide)
  exact Rv.run (o:=en18) rfl rfl (by rw[Rv.want_if (o':=en17) rfl rfl rfl (hsz 231 (by decide)) dg];first|rfl|simp) (by unfold en18;simp only[execOp,hev,g20];rfl) hW
 ·have d232:Rv.ev a 232=.int .i64 hh:=hd 18 (by decide)
  have dg:Rv.ev a 231=.bool true:=hd 17 (by decide)
  exact Rv.run (o:=en19) rfl rfl (by rw[Rv.want_if (o':=en17) rfl rfl rfl (hsz 231 (by decide)) dg];first|rfl|simp) (by unfold en19;simp only[execOp,hev,hcn,d232];go_simp<;>rfl) hW
 ·have d233:Rv.ev a 233=.bool true:=hd 19 (by decide)
  have dg:Rv.ev a 231=.bool true:=hd 17 (by decide)
  exact Rv.run (o:=en20) rfl rfl (by rw[Rv.want_if (o':=en17) rfl rfl rfl (hsz 231 (by decide)) dg];first|rfl|simp) (by unfold en20;simp only[execOp,hev,d233];rfl) hW
 ·have dg:Rv.ev a 234=.bool true:=hd 20 (by decide)
  exact Rv.skip (o:=en21) rfl rfl (by rw[Rv.want_if (o':=en20) rfl rfl rfl (hsz 234 (by decide)) dg];first|rfl|simp) hW
 ·have d235:Rv.ev a 235=undef:=hd 21 (by decide)
  have dg:Rv.ev a 234=.bool true:=hd 20 (by decide)
  exact Rv.skip (o:=en22) rfl rfl (by rw[Rv.want_if (o':=en20) rfl rfl rfl (hsz 234 (by decide)) dg];first|rfl|simp) hW
 ·have d234:Rv.ev a 234=.bool true:=hd 20 (by decide)
  have d236:Rv.ev a 236=undef:=hd 22 (by decide)
  have dg:Rv.ev a 231=.bool true:=hd 17 (by decide)
  exact Rv.run (o:=en23) rfl rfl (by rw[Rv.want_if (o':=en17) rfl rfl rfl (hsz 231 (by decide)) dg];first|rfl|simp) (by unfold en23;simp only[execOp,hev,hcn,d234,d236];go_simp<;>rfl) hW
 ·have d231:Rv.ev a 231=.bool true:=hd 17 (by decide)
  have d237:Rv.ev a 237=.bool true:=hd 23 (by decide)
  exact Rv.run (o:=en24) rfl rfl (Rv.want_free rfl) (by unfold en24;simp only[execOp,hev,hcn,d231,d237];go_simp<;>rfl) hW
 ·have d238:Rv.ev a 238=.bool true:=hd 24 (by decide)
  exact Rv.run (o:=en25) rfl rfl (Rv.want_free rfl) (by unfold en25;simp only[execOp,hev,d238];rfl) hW
 ·have dg:Rv.ev a 239=.bool true:=hd 25 (by decide)
  exact Rv.run (o:=en26) rfl rfl (by rw[Rv.want_if (o':=en25) rfl rfl rfl (hsz 239 (by decide)) dg];first|rfl|simp) (by unfold en26;simp only[execOp,hev,g20];rfl) hW
 ·have d240:Rv.ev a 240=.int .i64 hh:=hd 26 (by decide)
  have dg:Rv.ev a 239=.bool true:=hd 25 (by decide)
  exact Rv.run (o:=en27) rfl rfl (by rw[Rv.want_if (o':=en25) rfl rfl rfl (hsz 239 (by decide)) dg];first|rfl|simp) (by unfold en27;simp only[execOp,hev,hcn,d240];go_simp<;>rfl) hW
 ·have d241:Rv.ev a 241=.bool false:=hd 27 (by decide)
  have dg:Rv.ev a 239=.bool true:=hd 25 (by decide)
  exact Rv.run (o:=en28) rfl rfl (by rw[Rv.want_if (o':=en25) rfl rfl rfl (hsz 239 (by decide)) dg];first|rfl|simp) (by unfold en28;simp only[execOp,hev,d241];rfl) hW
 ·have dg:Rv.ev a 242=.bool false:=hd 28 (by decide)
  exact Rv.run (o:=en29) rfl rfl (by rw[Rv.want_if (o':=en28) rfl rfl rfl (hsz 242 (by decide)) dg];first|rfl|simp) (by unfold en29;simp only[execOp,hev,g20];rfl) hW
 ·have d243:Rv.ev a 243=.int .i64 hh:=hd 29 (by decide)
  have dg:Rv.ev a 242=.bool false:=hd 28 (by decide)
  exact Rv.run (o:=en30) rfl rfl (by rw[Rv.want_if (o':=en28) rfl rfl rfl (hsz 242 (by decide)) dg];first|rfl|simp) (by unfold en30;simp only[execOp,hev,hcn,d243];go_simp<;>rfl) hW
 ·have d244:Rv.ev a 244=.bool true:=hd 30 (by decide)
  have dg:Rv.ev a 242=.bool false:=hd 28 (by decide)
  exact Rv.run (o:=en31) rfl rfl (by rw[Rv.want_if (o':=en28) rfl rfl rfl (hsz 242 (by decide)) dg];first|rfl|simp) (by unfold en31;simp only[execOp,hev,d244];rfl) hW
 ·have dg:Rv.ev a 245=.bool true:=hd 31 (by decide)
  exact Rv.run (o:=en32) rfl rfl (by rw[Rv.want_if (o':=en31) rfl rfl rfl (hsz 245 (by decide)) dg];first|rfl|simp) (by unfold en32;simp only[execOp,hev,g19];rfl) hW
 ·have d246:Rv.ev a 246=.int .i64 ww:=hd 32 (by decide)
  have dg:Rv.ev a 245=.bool true:=hd 31 (by decide)
  exact Rv.run (o:=en33) rfl rfl (by rw[Rv.want_if (o':=en31) rfl rfl rfl (hsz 245 (by decide)) dg];first|rfl|simp) (by unfold en33;simp only[execOp,hev,hcn,d246];go_simp<;>rfl) hW
 ·have d245:Rv.ev a 245=.bool true:=hd 31 (by decide)
  have d247:Rv.ev a 247=.bool true:=hd 33 (by decide)
  have dg:Rv.ev a 242=.bool false:=hd 28 (by decide)
  exact Rv.run (o:=en34) rfl rfl (by rw[Rv.want_if (o':=en28) rfl rfl rfl (hsz 242 (by decide)) dg];first|rfl|simp) (by unfold en34;simp only[execOp,hev,hcn,d245,d247];go_simp<;>rfl) hW
 ·have d242:Rv.ev a 242=.bool false:=hd 28 (by decide)
  have d248:Rv.ev a 248=.bool true:=hd 34 (by decide)
  have dg:Rv.ev a 239=.bool true:=hd 25 (by decide)
  exact Rv.run (o:=en35) rfl rfl (by rw[Rv.want_if (o':=en25) rfl rfl rfl (hsz 239 (by decide)) dg];first|rfl|simp) (by unfold en35;simp only[execOp,hev,hcn,d242,d248];go_simp<;>rfl) hW
 ·have d239:Rv.ev a 239=.bool true:=hd 25 (by decide)
  have d249:Rv.ev a 249=.bool true:=hd 35 (by decide)
  exact Rv.run (o:=en36) rfl rfl (Rv.want_free rfl) (by unfold en36;simp only[execOp,hev,hcn,d239,d249];go_simp<;>rfl) hW
 ·have d250:Rv.ev a 250=.bool true:=hd 36 (by decide)
  exact Rv.run (o:=en37) rfl rfl (Rv.want_free rfl) (by unfold en37;simp only[execOp,hev,d250];rfl) hW
end
def enL4V (hh ww ex tx ez tz:Int):Nat→Value
 |0=>.int .i64 hh
 |1=>.bool true
 |2=>.int .i64 ex
 |3=>.bool true
 |4=>.bool true
 |5=>.int .i64 tx
 |6=>.bool true
 |7=>.bool true
 |8=>.bool true
 |9=>.int .i64 ez
 |10=>.bool true
 |11=>.bool true
 |12=>.bool true
 |13=>.int .i64 tz
 |14=>.bool true
 |15=>.bool true
 |16=>.bool true
 |17=>.bool true
 |18=>.int .i64 hh
 |19=>.bool false
 |20=>.bool false
 |21=>.int .i64 ww
 |22=>.bool true
 |23=>.bool true
 |24=>.bool true
 |25=>.bool true
 |26=>.int .i64 hh
 |27=>.bool true
 |28=>.bool true
 |29=>undef
 |30=>undef
 |31=>undef
 |32=>undef
 |33=>undef
 |34=>undef
 |35=>.bool true
 |36=>.bool true
 |_=>.bool true
section
variable {Q:Exit→Act→World→Prop} {X0 w0:World} {a0:Act}
set_option maxHeartbeats 4000000 in
theorem enL4 {hh ww ex tx ez tz:Int} (g0:(ex==0)=true) (g1:(ez==0)=true) (g2:(hh==0)=true) (g3:(hh != 0)=false) (g4:(tx==1)=true) (g5:(tz==1)=true) (g6:(ww==1)=true) (hs:251≤a0.tmps.size)
  (e20:Rv.ev a0 20=.int .i64 hh)
  (e19:Rv.ev a0 19=.int .i64 ww)
  (e14:Rv.ev a0 14=.int .i64 ex)
  (e13:Rv.ev a0 13=.int .i64 tx)
  (e18:Rv.ev a0 18=.int .i64 ez)
  (e17:Rv.ev a0 17=.int .i64 tz)
  (hw:Below X0.heap.size X0 w0)
  (hQ:∀ a w,Rv.Off 38 ensl a0 a→Below X0.heap.size X0 w→(∀ j,j<38→Rv.ev a (ensl j)=(enL4V hh ww ex tx ez tz) j)→Q .normal a w) :
  wpList Try.prog enops Q enops.toList a0 w0:=by
 refine Rv.list (X0:=X0) 38 ensl (enL4V hh ww ex tx ez tz) rfl (by decide) (by decide) (fun j hj=>Nat.lt_of_lt_of_le ((by decide:∀ j,j<38→ensl j<251) j hj) hs) hw ?_ hQ
 intro i a W hi hO hW hd
 have hev:∀ j,a.eval (.tmp j)=Rv.ev a j:=fun _=>rfl
 have hcn:∀ v,a.eval (.const v)=v:=fun _=>rfl
 have hfn:∀ v,a.eval (.func v)=.func (.func v) #[] #[]:=fun _=>rfl
 have hsz:∀ k,k<251→k<a.tmps.size:=fun k hk=>by rw[hO.size];omega
 have g20:Rv.ev a 20=.int .i64 hh:=(hO.same 20 (by decide)).trans e20
 have g19:Rv.ev a 19=.int .i64 ww:=(hO.same 19 (by decide)).trans e19
 have g14:Rv.ev a 14=.int .i64 ex:=(hO.same 14 (by decide)).trans e14
 have g13:Rv.ev a 13=.int .i64 tx:=(hO.same 13 (by decide)).trans e13
 have g18:Rv.ev a 18=.int .i64 ez:=(hO.same 18 (by decide)).trans e18
 have g17:Rv.ev a 17=.int .i64 tz:=(hO.same 17 (by decide)).trans e17
 have hN:i=0∨i=1∨i=2∨i=3∨i=4∨i=5∨i=6∨i=7∨i=8∨i=9∨i=10∨i=11∨i=12∨i=13∨i=14∨i=15∨i=16∨i=17∨i=18∨i=19∨i=20∨i=21∨i=22∨i=23∨i=24∨i=25∨i=26∨i=27∨i=28∨i=29∨i=30∨i=31∨i=32∨i=33∨i=34∨i=35∨i=36∨i=37:=by omega
 rcases hN with rfl|rfl|rfl|rfl|rfl|rfl|rfl|rfl|rfl|rfl|rfl|rfl|rfl|rfl|rfl|rfl|rfl|rfl|rfl|rfl|rfl|rfl|rfl|rfl|rfl|rfl|rfl|rfl|rfl|rfl|rfl|rfl|rfl|rfl|rfl|rfl|rfl|rfl
 ·exact Rv.run (o:=en0) rfl rfl (Rv.want_free rfl) (by unfold en0;simp only[execOp,hev,g20];rfl) hW
 ·have d214:Rv.ev a 214=.int .i64 hh:=hd 0 (by decide)
  exact Rv.run (o:=en1) rfl rfl (Rv.want_free rfl) (by unfold en1;simp only[execOp,hev,hcn,d214];go_simp<;>rfl) hW
 ·exact Rv.run (o:=en2) rfl rfl (Rv.want_free rfl) (by unfold en2;simp only[execOp,hev,g14];rfl) hW
 ·have d216:Rv.ev a 216=.int .i64 ex:=hd 2 (by decide)
  exact Rv.run (o:=en3) rfl rfl (Rv.want_free rfl) (by unfold en3;simp only[execOp,hev,hcn,d216];go_simp<;>rfl) hW
 ·have d217:Rv.ev a 217=.bool true:=hd 3 (by decide)
  exact Rv.run (o:=en4) rfl rfl (Rv.want_free rfl) (by unfold en4;simp only[execOp,hev,d217];rfl) hW
 ·have dg:Rv.ev a 218=.bool true:=hd 4 (by decide)
  exact Rv.run (o:=en5) rfl rfl (by rw[Rv.want_if (o':=en4) rfl rfl rfl (hsz 218 (by decide)) dg];first|rfl|simp) (by unfold en5;simp only[execOp,hev,g13];rfl) hW
 ·have d219:Rv.ev a 219=.int .i64 tx:=hd 5 (by decide)
  have dg:Rv.ev a 218=.bool true:=hd 4 (by decide)
  exact Rv.run (o:=en6) rfl rfl (by rw[Rv.want_if (o':=en4) rfl rfl rfl (hsz 218 (by decide)) dg];first|rfl|simp) (by unfold en6;simp only[execOp,hev,hcn,d219];go_simp<;>rfl) hW
 ·have d218:Rv.ev a 218=.bool true:=hd 4 (by decide)
  have d220:Rv.ev a 220=.bool true:=hd 6 (by decide)
  exact Rv.run (o:=en7) rfl rfl (Rv.want_free rfl) (by unfold en7;simp only[execOp,hev,hcn,d218,d220];go_simp<;>rfl) hW
 ·have d221:Rv.ev a 221=.bool true:=hd 7 (by decide)
  exact Rv.run (o:=en8) rfl rfl (Rv.want_free rfl) (by unfold en8;simp only[execOp,hev,d221];rfl) hW
 ·have dg:Rv.ev a 222=.bool true:=hd 8 (by decide)
  exact Rv.run (o:=en9) rfl rfl (by rw[Rv.want_if (o':=en8) rfl rfl rfl (hsz 222 (by decide)) dg];first|rfl|simp) (by unfold en9;simp only[execOp,hev,g18];rfl) hW
 ·have d223:Rv.ev a 223=.int .i64 ez:=hd 9 (by decide)
  have dg:Rv.ev a 222=.bool true:=hd 8 (by decide)
  exact Rv.run (o:=en10) rfl rfl (by rw[Rv.want_if (o':=en8) rfl rfl rfl (hsz 222 (by decide)) dg];first|rfl|simp) (by unfold en10;simp only[execOp,hev,hcn,d223];go_simp<;>rfl) hW
 ·have d222:Rv.ev a 222=.bool true:=hd 8 (by decide)
  have d224:Rv.ev a 224=.bool true:=hd 10 (by decide)
  exact Rv.run (o:=en11) rfl rfl (Rv.want_free rfl) (by unfold en11;simp only[execOp,hev,hcn,d222,d224];go_simp<;>rfl) hW
 ·have d225:Rv.ev a 225=.bool true:=hd 11 (by decide)
  exact Rv.run (o:=en12) rfl rfl (Rv.want_free rfl) (by unfold en12;simp only[execOp,hev,d225];rfl) hW
 ·have dg:Rv.ev a 226=.bool true:=hd 12 (by decide)
  exact Rv.run (o:=en13) rfl rfl (by rw[Rv.want_if (o':=en12) rfl rfl rfl (hsz 226 (by decide)) dg];first|rfl|simp) (by unfold en13;simp only[execOp,hev,g17];rfl) hW
 ·have d227:Rv.ev a 227=.int .i64 tz:=hd 13 (by decide)
  have dg:Rv.ev a 226=.bool true:=hd 12 (by decide)
  exact Rv.run (o:=en14) rfl rfl (by rw[Rv.want_if (o':=en12) rfl rfl rfl (hsz 226 (by decide)) dg];first|rfl|simp) (by unfold en14;simp only[execOp,hev,hcn,d227];go_simp<;>rfl) hW
 ·have d226:Rv.ev a 226=.bool true:=hd 12 (by decide)
  have d228:Rv.ev a 228=.bool true:=hd 14 (by decide)
  exact Rv.run (o:=en15) rfl rfl (Rv.want_free rfl) (by unfold en15;simp only[execOp,hev,hcn,d226,d228];go_simp<;>rfl) hW
 ·have d215:Rv.ev a 215=.bool true:=hd 1 (by decide)
  have d229:Rv.ev a 229=.bool true:=hd 15 (by decide)
  exact Rv.run (o:=en16) rfl rfl (Rv.want_free rfl) (by unfold en16;simp only[execOp,hev,d215,d229];go_simp<;>rfl) hW
 ·have d230:Rv.ev a 230=.bool true:=hd 16 (by decide)
  exact Rv.run (o:=en17) rfl rfl (Rv.want_free rfl) (by unfold en17;simp only[execOp,hev,d230];rfl) hW
 ·have dg:Rv.ev a 231=.bool true:=hd 17 (by decide)
  exact Rv.run (o:=en18) rfl rfl (by rw[Rv.want_if (o':=en17) rfl rfl rfl (hsz 231 (by decide)) dg];first|rfl|simp) (by unfold en18;simp only[execOp,hev,g20];rfl) hW
 ·have d232:Rv.ev a 232=.int .i64 hh:=hd 18 (by decide)
  have dg:Rv.ev a 231=.bool true:=hd 17 (by decide)
  exact Rv.run (o:=en19) rfl rfl (by rw[Rv.want_if (o':=en17) rfl rfl rfl (hsz 231 (by decide)) dg];first|rfl|simp) (by unfold en19;simp only[execOp,hev,hcn,d232];go_simp<;>rfl) hW
 ·have d233:Rv.ev a 233=.bool false:=hd 19 (by decide)
  have dg:Rv.ev a 231=.bool true:=hd 17 (by decide)
  exact Rv.run (o:=en20) rfl rfl (by rw[Rv.want_if (o':=en17) rfl rfl rfl (hsz 231 (by decide)) dg];first|rfl|simp) (by unfold en20;simp only[execOp,hev,d233];rfl) hW
 ·have dg:Rv.ev a 234=.bool false:=hd 20 (by decide)
  exact Rv.run (o:=en21) rfl rfl (by rw[Rv.want_if (o':=en20) rfl rfl rfl (hsz 234 (by decide)) dg];first|rfl|simp) (by unfold en21;simp only[execOp,hev,g19];rfl) hW
 ·have d235:Rv.ev a 235=.int .i64 ww:=hd 21 (by decide)
  have dg:Rv.ev a 234=.bool false:=hd 20 (by decide)
  exact Rv.run (o:=en22) rfl rfl (by rw[Rv.want_if (o':=en20) rfl rfl rfl (hsz 234 (by decide)) dg];first|rfl|simp) (by unfold en22;simp only[execOp,hev,hcn,d235];go_simp<;>rfl) hW
 ·have d234:Rv.ev a 234=.bool false:=hd 20 (by decide)
  have d236:Rv.ev a 236=.bool true:=hd 22 (by decide)
  have dg:Rv.ev a 231=.bool true:=hd 17 (by decide)
  exact Rv.run (o:=en23) rfl rfl (by rw[Rv.want_if (o':=en17) rfl rfl rfl (hsz 231 (by decide)) dg];first|rfl|simp) (by unfold en23;simp only[execOp,hev,hcn,d234,d236];go_simp<;>rfl) hW
 ·have d231:Rv.ev a 231=.bool true:=hd 17 (by decide)
  have d237:Rv.ev a 237=.bool true:=hd 23 (by decide)
  exact Rv.run (o:=en24) rfl rfl (Rv.want_free rfl) (by unfold en24;simp only[execOp,hev,hcn,d231,d237];go_simp<;>rfl) hW
 ·have d238:Rv.ev a 238=.bool true:=hd 24 (by decide)
  exact Rv.run (o:=en25) rfl rfl (Rv.want_free rfl) (by unfold en25;simp only[execOp,hev,d238];rfl) hW
 ·have dg:Rv.ev a 239=.bool true:=hd 25 (by decide)
  exact Rv.run (o:=en26) rfl rfl (by rw[Rv.want_if (o':=en25) rfl rfl rfl (hsz 239 (by decide)) dg];first|rfl|simp) (by unfold en26;simp only[execOp,hev,g20];rfl) hW
 ·have d240:Rv.ev a 240=.int .i64 hh:=hd 26 (by decide)
  have dg:Rv.ev a 239=.bool true:=hd 25 (by decide)
  exact Rv.run (o:=en27) rfl rfl (by rw[Rv.want_if (o':=en25) rfl rfl rfl (hsz 239 (by decide)) dg];first|rfl|simp) (by unfold en27;simp only[execOp,hev,hcn,d240];go_simp<;>rfl) hW
 ·have d241:Rv.ev a 241=.bool true:=hd 27 (by decide)
  have dg:Rv.ev a 239=.bool true:=hd 25 (by decide)
  exact Rv.run (o:=en28) rfl rfl (by rw[Rv.want_if (o':=en25) rfl rfl rfl (hsz 239 (by decide)) dg];first|rfl|simp) (by unfold en28;simp only[execOp,hev,d241];rfl) hW
 ·have dg:Rv.ev a 242=.bool true:=hd 28 (by decide)
  exact Rv.skip (o:=en29) rfl rfl (by rw[Rv.want_if (o':=en28) rfl rfl rfl (hsz 242 (by decide)) dg];first|rfl|simp) hW
 ·have d243:Rv.ev a 243=undef:=hd 29 (by decide)
  have dg:Rv.ev a 242=.bool true:=hd 28 (by decide)
  exact Rv.skip (o:=en30) rfl rfl (by rw[Rv.want_if (o':=en28) rfl rfl rfl (hsz 242 (by decide)) dg];first|rfl|simp) hW
 ·have d244:Rv.ev a 244=undef:=hd 30 (by decide)
  have dg:Rv.ev a 242=.bool true:=hd 28 (by decide)
  exact Rv.skip (o:=en31) rfl rfl (by rw[Rv.want_if (o':=en28) rfl rfl rfl (hsz 242 (by decide)) dg];first|rfl|simp) hW
 ·have dg:Rv.ev a 245=undef:=hd 31 (by decide)
  exact Rv.skip (o:=en32) rfl rfl (Rv.want_no (o':=en31) rfl rfl rfl (hsz 245 (by decide)) dg) hW
 ·have d246:Rv.ev a 246=undef:=hd 32 (by decide)
  have dg:Rv.ev a 245=undef:=hd 31 (by decide)
  exact Rv.skip (o:=en33) rfl rfl (Rv.want_no (o':=en31) rfl rfl rfl (hsz 245 (by decide)) dg) hW
 ·have d245:Rv.ev a 245=undef:=hd 31 (by decide)
  have d247:Rv.ev a 247=undef:=hd 33 (by decide)
  have dg:Rv.ev a 242=.bool true:=hd 28 (by decide)
  exact Rv.skip (o:=en34) rfl rfl (by rw[Rv.want_if (o':=en28) rfl rfl rfl (hsz 242 (by decide)) dg];first|rfl|simp) hW
 ·have d242:Rv.ev a 242=.bool true:=hd 28 (by decide)
  have d248:Rv.ev a 248=undef:=hd 34 (by decide)
  have dg:Rv.ev a 239=.bool true:=hd 25 (by decide)
  exact Rv.run (o:=en35) rfl rfl (by rw[Rv.want_if (o':=en25) rfl rfl rfl (hsz 239 (by decide)) dg];first|rfl|simp) (by unfold en35;simp only[execOp,hev,hcn,d242,d248];go_simp<;>rfl) hW
 ·have d239:Rv.ev a 239=.bool true:=hd 25 (by decide)
  have d249:Rv.ev a 249=.bool true:=hd 35 (by decide)
  exact Rv.run (o:=en36) rfl rfl (Rv.want_free rfl) (by unfold en36;simp only[execOp,hev,hcn,d239,d249];go_simp<;>rfl) hW
 ·have d250:Rv.ev a 250=.bool true:=hd 36 (by decide)
  exact Rv.run (o:=en37) rfl rfl (Rv.want_free rfl) (by unfold en37;simp only[execOp,hev,d250];rfl) hW
end
section
variable {Q:Exit→Act→World→Prop} {X0 w0:World} {a0:Act}
theorem enAll {hh ww ex tx ez tz:Int} (HI:(hh=0↔ez=0∧tz=1∧ex=0∧tx=1)∧(hh=0→ww=1)∧(¬ hh=0→hh=34∧ww=0)) (hs:251≤a0.tmps.size) (e20:Rv.ev a0 20=.int .i64 hh) (e19:Rv.ev a0 19=.int .i64 ww) (e14:Rv.ev a0 14=.int .i64 ex) (e13:Rv.ev a0 13=.int .i64 tx) (e18:Rv.ev a0 18=.int .i64 ez) (e17:Rv.ev a0 17=.int .i64 tz) (hw:Below X0.heap.size X0 w0)
  (hQ:∀ a w,Rv.Off 38 ensl a0 a→Below X0.heap.size X0 w→Rv.ev a 6=.bool true→Q .normal a w):wpList Try.prog enops Q enops.toList a0 w0:=by
 by_cases h0:ex=0
 ·by_cases h1:tx=1
  ·by_cases h2:ez=0
   ·by_cases h3:tz=1
    ·have hz0:hh=0:=HI.1.2 ⟨h2,h3,h0,h1⟩
     have hw0:ww=1:=HI.2.1 hz0
     clear HI
     exact enL4 (by simp_all) (by simp_all) (by simp_all) (by simp_all) (by simp_all) (by simp_all) (by simp_all) hs e20 e19 e14 e13 e18 e17 hw fun a w hO hB hv=>hQ a w hO hB (hv 37 (by decide))
    ·have hz0:¬ hh=0:=fun h=>h3 (by have k:=HI.1.1 h;exact k.2.1)
     obtain⟨r1,r2⟩:=HI.2.2 hz0
     clear HI
     exact enL3 (by simp_all) (by simp_all) (by simp_all) (by simp_all) (by simp_all) (by simp_all) (by simp_all) (by simp_all) hs e20 e19 e14 e13 e18 e17 hw fun a w hO hB hv=>hQ a w hO hB (hv 37 (by decide))
   ·have hz0:¬ hh=0:=fun h=>h2 (by have k:=HI.1.1 h;exact k.1)
    obtain⟨r1,r2⟩:=HI.2.2 hz0
    clear HI
    exact enL2 (by simp_all) (by simp_all) (by simp_all) (by simp_all) (by simp_all) (by simp_all) (by simp_all) hs e20 e19 e14 e13 e18 e17 hw fun a w hO hB hv=>hQ a w hO hB (hv 37 (by decide))
  ·have hz0:¬ hh=0:=fun h=>h1 (by have k:=HI.1.1 h;exact k.2.2.2)
   obtain⟨r1,r2⟩:=HI.2.2 hz0
   clear HI
   exact enL1 (by simp_all) (by simp_all) (by simp_all) (by simp_all) (by simp_all) (by simp_all) hs e20 e19 e14 e13 e18 e17 hw fun a w hO hB hv=>hQ a w hO hB (hv 37 (by decide))
 ·have hz0:¬ hh=0:=fun h=>h0 (by have k:=HI.1.1 h;exact k.2.2.1)
  obtain⟨r1,r2⟩:=HI.2.2 hz0
  clear HI
  exact enL0 (by simp_all) (by simp_all) (by simp_all) (by simp_all) (by simp_all) hs e20 e19 e14 e13 e18 e17 hw fun a w hO hB hv=>hQ a w hO hB (hv 37 (by decide))
end
end Go.Proofs.Ytkbglnhdbnijlaa
