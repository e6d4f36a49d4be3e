/-
  What TypesTurn tests, region by region (if, cons, less).
-/
import Derived.Test.YtkbglnhdbnijlaaUji
namespace Go.Proofs.Ytkbglnhdbnijlaa
open Go.RowKit
set_option maxRecDepth 100000
def ek0 : Oper := { dst := some 103, op := Op.move (Operand.tmp 20), type := 29, pos := "law.go:99", after := #[], guard := none }
def ek1 : Oper := { dst := some 104, op := Op.binOp BinOp.eql 29 (Operand.tmp 103) (Operand.const (Value.int IntKind.i64 0)) 29, type := 4, pos := "law.go:99", after := #[{ on := 0, ground := Ground.data }], guard := none }
def ek2 : Oper := { dst := some 105, op := Op.move (Operand.tmp 14), type := 29, pos := "law.go:99", after := #[], guard := none }
def ek3 : Oper := { dst := some 106, op := Op.binOp BinOp.eql 29 (Operand.tmp 105) (Operand.const (Value.int IntKind.i64 0)) 29, type := 4, pos := "law.go:99", after := #[{ on := 2, ground := Ground.data }], guard := none }
def ek4 : Oper := { dst := some 107, op := Op.move (Operand.tmp 106), type := 4, pos := "law.go:99", after := #[{ on := 3, ground := Ground.data }], guard := none }
def ek5 : Oper := { dst := some 108, op := Op.move (Operand.tmp 13), type := 35, pos := "law.go:99", after := #[{ on := 4, ground := Ground.guard }], guard := some (4, true) }
def ek6 : Oper := { dst := some 109, op := Op.binOp BinOp.eql 35 (Operand.tmp 108) (Operand.const (Value.int IntKind.i64 2)) 35, type := 4, pos := "law.go:99", after := #[{ on := 5, ground := Ground.data }, { on := 4, ground := Ground.guard }], guard := some (4, true) }
def ek7 : Oper := { dst := some 110, op := Op.pick (Operand.tmp 107) (Operand.tmp 109) (Operand.const (Value.bool false)), type := 4, pos := "law.go:99", after := #[{ on := 4, ground := Ground.data }, { on := 6, ground := Ground.data }], guard := none }
def ek8 : Oper := { dst := some 111, op := Op.move (Operand.tmp 110), type := 4, pos := "law.go:99", after := #[{ on := 7, ground := Ground.data }, { on := 4, ground := Ground.chain }], guard := none }
def ek9 : Oper := { dst := some 112, op := Op.move (Operand.tmp 16), type := 29, pos := "law.go:99", after := #[{ on := 8, ground := Ground.guard }], guard := some (8, true) }
def ek10 : Oper := { dst := some 113, op := Op.binOp BinOp.eql 29 (Operand.tmp 112) (Operand.const (Value.int IntKind.i64 0)) 29, type := 4, pos := "law.go:99", after := #[{ on := 9, ground := Ground.data }, { on := 8, ground := Ground.guard }], guard := some (8, true) }
def ek11 : Oper := { dst := some 114, op := Op.pick (Operand.tmp 111) (Operand.tmp 113) (Operand.const (Value.bool false)), type := 4, pos := "law.go:99", after := #[{ on := 8, ground := Ground.data }, { on := 10, ground := Ground.data }], guard := none }
def ek12 : Oper := { dst := some 115, op := Op.move (Operand.tmp 114), type := 4, pos := "law.go:99", after := #[{ on := 11, ground := Ground.data }, { on := 8, ground := Ground.chain }], guard := none }
def ek13 : Oper := { dst := some 116, op := Op.move (Operand.tmp 18), type := 29, pos := "law.go:99", after := #[{ on := 12, ground := Ground.guard }], guard := some (12, true) }
def ek14 : Oper := { dst := some 117, op := Op.binOp BinOp.eql 29 (Operand.tmp 116) (Operand.const (Value.int IntKind.i64 0)) 29, type := 4, pos := "law.go:99", after := #[{ on := 13, ground := Ground.data }, { on := 12, ground := Ground.guard }], guard := some (12, true) }
def ek15 : Oper := { dst := some 118, op := Op.pick (Operand.tmp 115) (Operand.tmp 117) (Operand.const (Value.bool false)), type := 4, pos := "law.go:99", after := #[{ on := 12, ground := Ground.data }, { on := 14, ground := Ground.data }], guard := none }
def ek16 : Oper := { dst := some 119, op := Op.move (Operand.tmp 118), type := 4, pos := "law.go:99", after := #[{ on := 15, ground := Ground.data }, { on := 12, ground := Ground.chain }], guard := none }
def ek17 : Oper := { dst := some 120, op := Op.move (Operand.tmp 15), type := 35, pos := "law.go:99", after := #[{ on := 16, ground := Ground.guard }], guard := some (16, true) }
def ek18 : Oper := { dst := some 121, op := Op.move (Operand.tmp 17), type := 35, pos := "law.go:99", after := #[{ on := 16, ground := Ground.guard }], guard := some (16, true) }
def ek19 : Oper := { dst := some 122, op := Op.binOp BinOp.eql 35 (Operand.tmp 120) (Operand.tmp 121) 35, type := 4, pos := "law.go:99", after := #[{ on := 17, ground := Ground.data }, { on := 18, ground := Ground.data }, { on := 16, ground := Ground.guard }], guard := some (16, true) }
def ek20 : Oper := { dst := some 123, op := Op.pick (Operand.tmp 119) (Operand.tmp 122) (Operand.const (Value.bool false)), type := 4, pos := "law.go:99", after := #[{ on := 16, ground := Ground.data }, { on := 19, ground := Ground.data }], guard := none }
def ek21 : Oper := { dst := some 124, op := Op.binOp BinOp.neq 4 (Operand.tmp 104) (Operand.tmp 123) 4, type := 4, pos := "law.go:99", after := #[{ on := 1, ground := Ground.data }, { on := 20, ground := Ground.data }], guard := none }
def ek22 : Oper := { dst := some 125, op := Op.move (Operand.tmp 124), type := 4, pos := "law.go:99", after := #[{ on := 21, ground := Ground.data }, { on := 16, ground := Ground.chain }], guard := none }
def ek23 : Oper := { dst := some 126, op := Op.move (Operand.tmp 20), type := 29, pos := "law.go:99", after := #[{ on := 22, ground := Ground.guard }], guard := some (22, false) }
def ek24 : Oper := { dst := some 127, op := Op.binOp BinOp.eql 29 (Operand.tmp 126) (Operand.const (Value.int IntKind.i64 0)) 29, type := 4, pos := "law.go:99", after := #[{ on := 23, ground := Ground.data }, { on := 22, ground := Ground.guard }], guard := some (22, false) }
def ek25 : Oper := { dst := some 128, op := Op.move (Operand.tmp 127), type := 4, pos := "law.go:99", after := #[{ on := 24, ground := Ground.data }, { on := 22, ground := Ground.chain }, { on := 22, ground := Ground.guard }], guard := some (22, false) }
def ek26 : Oper := { dst := some 129, op := Op.move (Operand.tmp 19), type := 35, pos := "law.go:99", after := #[{ on := 25, ground := Ground.guard }], guard := some (25, true) }
def ek27 : Oper := { dst := some 130, op := Op.move (Operand.tmp 15), type := 35, pos := "law.go:99", after := #[{ on := 25, ground := Ground.guard }], guard := some (25, true) }
def ek28 : Oper := { dst := some 131, op := Op.binOp BinOp.neq 35 (Operand.tmp 129) (Operand.tmp 130) 35, type := 4, pos := "law.go:99", after := #[{ on := 26, ground := Ground.data }, { on := 27, ground := Ground.data }, { on := 25, ground := Ground.guard }], guard := some (25, true) }
def ek29 : Oper := { dst := some 132, op := Op.pick (Operand.tmp 128) (Operand.tmp 131) (Operand.const (Value.bool false)), type := 4, pos := "law.go:99", after := #[{ on := 25, ground := Ground.data }, { on := 28, ground := Ground.data }, { on := 22, ground := Ground.guard }], guard := some (22, false) }
def ek30 : Oper := { dst := some 133, op := Op.pick (Operand.tmp 125) (Operand.const (Value.bool true)) (Operand.tmp 132), type := 4, pos := "law.go:99", after := #[{ on := 22, ground := Ground.data }, { on := 29, ground := Ground.data }], guard := none }
def ekops:Array Oper:=#[ek0,ek1,ek2,ek3,ek4,ek5,ek6,ek7,ek8,ek9,ek10,ek11,ek12,ek13,ek14,ek15,ek16,ek17,ek18,ek19,ek20,ek21,ek22,ek23,ek24,ek25,ek26,ek27,ek28,ek29,ek30]
def eksl (k:Nat):Nat:=103+k
def ekL0V (hh ex:Int):Nat→Value
 |0=>.int .i64 hh
 |1=>.bool false
 |2=>.int .i64 ex
 |3=>.bool false
 |4=>.bool false
 |5=>undef
 |6=>undef
 |7=>.bool false
 |8=>.bool false
 |9=>undef
 |10=>undef
 |11=>.bool false
 |12=>.bool false
 |13=>undef
 |14=>undef
 |15=>.bool false
 |16=>.bool false
 |17=>undef
 |18=>undef
 |19=>undef
 |20=>.bool false
 |21=>.bool false
 |22=>.bool false
 |23=>.int .i64 hh
 |24=>.bool false
 |25=>.bool false
 |26=>undef
 |27=>undef
 |28=>undef
 |29=>.bool false
 |_=>.bool false
section
variable {Q:Exit→Act→World→Prop} {X0 w0:World} {a0:Act}
set_option maxHeartbeats 4000000 in
theorem ekL0 {hh ww ex tx ey ty ez tz:Int} (g0:(ex==0)=false) (g1:(hh==0)=false) (hs:251≤a0.tmps.size)
  (e20:Rv.ev a0 20=.int .i64 hh)
  (e19:Rv.ev a0 19=.int .i64 ww)
  (e14:Rv.ev a0 14=.int .i64 ex)
  (e13:Rv.ev a0 13=.int .i64 tx)
  (e16:Rv.ev a0 16=.int .i64 ey)
  (e15:Rv.ev a0 15=.int .i64 ty)
  (e18:Rv.ev a0 18=.int .i64 ez)
  (e17:Rv.ev a0 17=.int .i64 tz)
  (hw:Below X0.heap.size X0 w0)
  (hQ:∀ a w,Rv.Off 31 eksl a0 a→Below X0.heap.size X0 w→(∀ j,j<31→Rv.ev a (eksl j)=(ekL0V hh ex) j)→Q .normal a w) :
  wpList Try.prog ekops Q ekops.toList a0 w0:=by
 refine Rv.list (X0:=X0) 31 eksl (ekL0V hh ex) rfl (by decide) (by decide) (fun j hj=>Nat.lt_of_lt_of_le ((by decide:∀ j,j<31→eksl j<251) j hj) hs) hw ?_ hQ
 intro i a W hi hO hW hd
 have hev:∀ j,a.eval (.tmp j)=Rv.ev a j:=fun _=>rfl
 have hcn:∀ v,a.eval (.const v)=v:=fun _=>rfl
 have hfn:∀ v,a.eval (.func v)=.func (.func v) #[] #[]:=fun _=>rfl
 have hsz:∀ k,k<251→k<a.tmps.size:=fun k hk=>by rw[hO.size];omega
 have g20:Rv.ev a 20=.int .i64 hh:=(hO.same 20 (by decide)).trans e20
 have g19:Rv.ev a 19=.int .i64 ww:=(hO.same 19 (by decide)).trans e19
 have g14:Rv.ev a 14=.int .i64 ex:=(hO.same 14 (by decide)).trans e14
 have g13:Rv.ev a 13=.int .i64 tx:=(hO.same 13 (by decide)).trans e13
 have g16:Rv.ev a 16=.int .i64 ey:=(hO.same 16 (by decide)).trans e16
 have g15:Rv.ev a 15=.int .i64 ty:=(hO.same 15 (by decide)).trans e15
 have g18:Rv.ev a 18=.int .i64 ez:=(hO.same 18 (by decide)).trans e18
 have g17:Rv.ev a 17=.int .i64 tz:=(hO.same 17 (by decide)).trans e17
 have hN:i=0∨i=1∨i=2∨i=3∨i=4∨i=5∨i=6∨i=7∨i=8∨i=9∨i=10∨i=11∨i=12∨i=13∨i=14∨i=15∨i=16∨i=17∨i=18∨i=19∨i=20∨i=21∨i=22∨i=23∨i=24∨i=25∨i=26∨i=27∨i=28∨i=29∨i=30:=by omega
 rcases hN with rfl|rfl|rfl|rfl|rfl|rfl|rfl|rfl|rfl|rfl|rfl|rfl|rfl|rfl|rfl|rfl|rfl|rfl|rfl|rfl|rfl|rfl|rfl|rfl|rfl|rfl|rfl|rfl|rfl|rfl|rfl
 ·exact Rv.run (o:=ek0) rfl rfl (Rv.want_free rfl) (by unfold ek0;simp only[execOp,hev,g20];rfl) hW
 ·have d103:Rv.ev a 103=.int .i64 hh:=hd 0 (by decide)
  exact Rv.run (o:=ek1) rfl rfl (Rv.want_free rfl) (by unfold ek1;simp only[execOp,hev,hcn,d103];go_simp<;>rfl) hW
 ·exact Rv.run (o:=ek2) rfl rfl (Rv.want_free rfl) (by unfold ek2;simp only[execOp,hev,g14];rfl) hW
 ·have d105:Rv.ev a 105=.int .i64 ex:=hd 2 (by decide)
  exact Rv.run (o:=ek3) rfl rfl (Rv.want_free rfl) (by unfold ek3;simp only[execOp,hev,hcn,d105];go_simp<;>rfl) hW
 ·have d106:Rv.ev a 106=.bool false:=hd 3 (by decide)
  exact Rv.run (o:=ek4) rfl rfl (Rv.want_free rfl) (by unfold ek4;simp only[execOp,hev,d106];rfl) hW
 ·have dg:Rv.ev a 107=.bool false:=hd 4 (by decide)
  exact Rv.skip (o:=ek5) rfl rfl (by rw[Rv.want_if (o':=ek4) rfl rfl rfl (hsz 107 (by decide)) dg];first|rfl|simp) hW
 ·have d108:Rv.ev a 108=undef:=hd 5 (by decide)
  have dg:Rv.ev a 107=.bool false:=hd 4 (by decide)
  exact Rv.skip (o:=ek6) rfl rfl (by rw[Rv.want_if (o':=ek4) rfl rfl rfl (hsz 107 (by decide)) dg];first|rfl|simp) hW
 ·have d107:Rv.ev a 107=.bool false:=hd 4 (by decide)
  have d109:Rv.ev a 109=undef:=hd 6 (by decide)
  exact Rv.run (o:=ek7) rfl rfl (Rv.want_free rfl) (by unfold ek7;simp only[execOp,hev,hcn,d107,d109];go_simp<;>rfl) hW
 ·have d110:Rv.ev a 110=.bool false:=hd 7 (by decide)
  exact Rv.run (o:=ek8) rfl rfl (Rv.want_free rfl) (by unfold ek8;simp only[execOp,hev,d110];rfl) hW
 ·have dg:Rv.ev a 111=.bool false:=hd 8 (by decide)
  exact Rv.skip (o:=ek9) rfl rfl (by rw[Rv.want_if (o':=ek8) rfl rfl rfl (hsz 111 (by decide)) dg];first|rfl|simp) hW
 ·have d112:Rv.ev a 112=undef:=hd 9 (by decide)
  have dg:Rv.ev a 111=.bool false:=hd 8 (by decide)
  exact Rv.skip (o:=ek10) rfl rfl (by rw[Rv.want_if (o':=ek8) rfl rfl rfl (hsz 111 (by decide)) dg];first|rfl|simp) hW
 ·have d111:Rv.ev a 111=.bool false:=hd 8 (by decide)
  have d113:Rv.ev a 113=undef:=hd 10 (by decide)
  exact Rv.run (o:=ek11) rfl rfl (Rv.want_free rfl) (by unfold ek11;simp only[execOp,hev,hcn,d111,d113];go_simp<;>rfl) hW
 ·have d114:Rv.ev a 114=.bool false:=hd 11 (by decide)
  exact Rv.run (o:=ek12) rfl rfl (Rv.want_free rfl) (by unfold ek12;simp only[execOp,hev,d114];rfl) hW
 ·have dg:Rv.ev a 115=.bool false:=hd 12 (by decide)
  exact Rv.skip (o:=ek13) rfl rfl (by rw[Rv.want_if (o':=ek12) rfl rfl rfl (hsz 115 (by decide)) dg];first|rfl|simp) hW
 ·have d116:Rv.ev a 116=undef:=hd 13 (by decide)
  have dg:Rv.ev a 115=.bool false:=hd 12 (by decide)
  exact Rv.skip (o:=ek14) rfl rfl (by rw[Rv.want_if (o':=ek12) rfl rfl rfl (hsz 115 (by decide)) dg];first|rfl|simp) hW
 ·have d115:Rv.ev a 115=.bool false:=hd 12 (by decide)
  have d117:Rv.ev a 117=undef:=hd 14 (by decide)
  exact Rv.run (o:=ek15) rfl rfl (Rv.want_free rfl) (by unfold ek15;simp only[execOp,hev,hcn,d115,d117];go_simp<;>rfl) hW
 ·have d118:Rv.ev a 118=.bool false:=hd 15 (by decide)
  exact Rv.run (o:=ek16) rfl rfl (Rv.want_free rfl) (by unfold ek16;simp only[execOp,hev,d118];rfl) hW
 ·have dg:Rv.ev a 119=.bool false:=hd 16 (by decide)
  exact Rv.skip (o:=ek17) rfl rfl (by rw[Rv.want_if (o':=ek16) rfl rfl rfl (hsz 119 (by decide)) dg];first|rfl|simp) hW
 ·have dg:Rv.ev a 119=.bool false:=hd 16 (by decide)
  exact Rv.skip (o:=ek18) rfl rfl (by rw[Rv.want_if (o':=ek16) rfl rfl rfl (hsz 119 (by decide)) dg];first|rfl|simp) hW
 ·have d120:Rv.ev a 120=undef:=hd 17 (by decide)
  have d121:Rv.ev a 121=undef:=hd 18 (by decide)
  have dg:Rv.ev a 119=.bool false:=hd 16 (by decide)
  exact Rv.skip (o:=ek19) rfl rfl (by rw[Rv.want_if (o':=ek16) rfl rfl rfl (hsz 119 (by decide)) dg];first|rfl|simp) hW
 ·have d119:Rv.ev a 119=.bool false:=hd 16 (by decide)
  have d122:Rv.ev a 122=undef:=hd 19 (by decide)
  exact Rv.run (o:=ek20) rfl rfl (Rv.want_free rfl) (by unfold ek20;simp only[execOp,hev,hcn,d119,d122];go_simp<;>rfl) hW
 ·have d104:Rv.ev a 104=.bool false:=hd 1 (by decide)
  have d123:Rv.ev a 123=.bool false:=hd 20 (by decide)
  exact Rv.run (o:=ek21) rfl rfl (Rv.want_free rfl) (by unfold ek21;simp only[execOp,hev,d104,d123];go_simp<;>rfl) hW
 ·have d124:Rv.ev a 124=.bool false:=hd 21 (by decide)
  exact Rv.run (o:=ek22) rfl rfl (Rv.want_free rfl) (by unfold ek22;simp only[execOp,hev,d124];rfl) hW
 ·have dg:Rv.ev a 125=.bool false:=hd 22 (by decide)
  exact Rv.run (o:=ek23) rfl rfl (by rw[Rv.want_if (o':=ek22) rfl rfl rfl (hsz 125 (by decide)) dg];first|rfl|simp) (by unfold ek23;simp only[execOp,hev,g20];rfl) hW
 ·have d126:Rv.ev a 126=.int .i64 hh:=hd 23 (by decide)
  have dg:Rv.ev a 125=.bool false:=hd 22 (by decide)
  exact Rv.run (o:=ek24) rfl rfl (by rw[Rv.want_if (o':=ek22) rfl rfl rfl (hsz 125 (by decide)) dg];first|rfl|simp) (by unfold ek24;simp only[execOp,hev,hcn,d126];go_simp<;>rfl) hW
 ·have d127:Rv.ev a 127=.bool false:=hd 24 (by decide)
  have dg:Rv.ev a 125=.bool false:=hd 22 (by decide)
  exact Rv.run (o:=ek25) rfl rfl (by rw[Rv.want_if (o':=ek22) rfl rfl rfl (hsz 125 (by decide)) dg];first|rfl|simp) (by unfold ek25;simp only[execOp,hev,d127];rfl) hW
 ·have dg:Rv.ev a 128=.bool false:=hd 25 (by decide)
  exact Rv.skip (o:=ek26) rfl rfl (by rw[Rv.want_if (o':=ek25) rfl rfl rfl (hsz 128 (by decide)) dg];first|rfl|simp) hW
 ·have dg:Rv.ev a 128=.bool false:=hd 25 (by decide)
  exact Rv.skip (o:=ek27) rfl rfl (by rw[Rv.want_if (o':=ek25) rfl rfl rfl (hsz 128 (by decide)) dg];first|rfl|simp) hW
 ·have d129:Rv.ev a 129=undef:=hd 26 (by decide)
  have d130:Rv.ev a 130=undef:=hd 27 (by decide)
  have dg:Rv.ev a 128=.bool false:=hd 25 (by decide)
  exact Rv.skip (o:=ek28) rfl rfl (by rw[Rv.want_if (o':=ek25) rfl rfl rfl (hsz 128 (by decide)) dg];first|rfl|simp) hW
 ·have d128:Rv.ev a 128=.bool false:=hd 25 (by decide)
  have d131:Rv.ev a 131=undef:=hd 28 (by decide)
  have dg:Rv.ev a 125=.bool false:=hd 22 (by decide)
  exact Rv.run (o:=ek29) rfl rfl (by rw[Rv.want_if (o':=ek22) rfl rfl rfl (hsz 125 (by decide)) dg];first|rfl|simp) (by unfold ek29;simp only[execOp,hev,hcn,d128,d131];go_simp<;>rfl) hW
 ·have d125:Rv.ev a 125=.bool false:=hd 22 (by decide)
  have d132:Rv.ev a 132=.bool false:=hd 29 (by decide)
  exact Rv.run (o:=ek30) rfl rfl (Rv.want_free rfl) (by unfold ek30;simp only[execOp,hev,hcn,d125,d132];go_simp<;>rfl) hW
end
def ekL1V (hh ex tx:Int):Nat→Value
 |0=>.int .i64 hh
 |1=>.bool false
 |2=>.int .i64 ex
 |3=>.bool true
 |4=>.bool true
 |5=>.int .i64 tx
 |6=>.bool false
 |7=>.bool false
 |8=>.bool false
 |9=>undef
 |10=>undef
 |11=>.bool false
 |12=>.bool false
 |13=>undef
 |14=>undef
 |15=>.bool false
 |16=>.bool false
 |17=>undef
 |18=>undef
 |19=>undef
 |20=>.bool false
 |21=>.bool false
 |22=>.bool false
 |23=>.int .i64 hh
 |24=>.bool false
 |25=>.bool false
 |26=>undef
 |27=>undef
 |28=>undef
 |29=>.bool false
 |_=>.bool false
section
variable {Q:Exit→Act→World→Prop} {X0 w0:World} {a0:Act}
set_option maxHeartbeats 4000000 in
theorem ekL1 {hh ww ex tx ey ty ez tz:Int} (g0:(ex==0)=true) (g1:(hh==0)=false) (g2:(tx==2)=false) (hs:251≤a0.tmps.size)
  (e20:Rv.ev a0 20=.int .i64 hh)
  (e19:Rv.ev a0 19=.int .i64 ww)
  (e14:Rv.ev a0 14=.int .i64 ex)
  (e13:Rv.ev a0 13=.int .i64 tx)
  (e16:Rv.ev a0 16=.int .i64 ey)
  (e15:Rv.ev a0 15=.int .i64 ty)
  (e18:Rv.ev a0 18=.int .i64 ez)
  (e17:Rv.ev a0 17=.int .i64 tz)
  (hw:Below X0.heap.size X0 w0)
  (hQ:∀ a w,Rv.Off 31 eksl a0 a→Below X0.heap.size X0 w→(∀ j,j<31→Rv.ev a (eksl j)=(ekL1V hh ex tx) j)→Q .normal a w) :
  wpList Try.prog ekops Q ekops.toList a0 w0:=by
 refine Rv.list (X0:=X0) 31 eksl (ekL1V hh ex tx) rfl (by decide) (by decide) (fun j hj=>Nat.lt_of_lt_of_le ((by decide:∀ j,j<31→eksl j<251) j hj) hs) hw ?_ hQ
 intro i a W hi hO hW hd
 have hev:∀ j,a.eval (.tmp j)=Rv.ev a j:=fun _=>rfl
 have hcn:∀ v,a.eval (.const v)=v:=fun _=>rfl
 have hfn:∀ v,a.eval (.func v)=.func (.func v) #[] #[]:=fun _=>rfl
 have hsz:∀ k,k<251→k<a.tmps.size:=fun k hk=>by rw[hO.size];omega
 have g20:Rv.ev a 20=.int .i64 hh:=(hO.same 20 (by decide)).trans e20
 have g19:Rv.ev a 19=.int .i64 ww:=(hO.same 19 (by decide)).trans e19
 have g14:Rv.ev a 14=.int .i64 ex:=(hO.same 14 (by decide)).trans e14
 have g13:Rv.ev a 13=.int .i64 tx:=(hO.same 13 (by decide)).trans e13
 have g16:Rv.ev a 16=.int .i64 ey:=(hO.same 16 (by decide)).trans e16
 have g15:Rv.ev a 15=.int .i64 ty:=(hO.same 15 (by decide)).trans e15
 have g18:Rv.ev a 18=.int .i64 ez:=(hO.same 18 (by decide)).trans e18
 have g17:Rv.ev a 17=.int .i64 tz:=(hO.same 17 (by decide)).trans e17
 have hN:i=0∨i=1∨i=2∨i=3∨i=4∨i=5∨i=6∨i=7∨i=8∨i=9∨i=10∨i=11∨i=12∨i=13∨i=14∨i=15∨i=16∨i=17∨i=18∨i=19∨i=20∨i=21∨i=22∨i=23∨i=24∨i=25∨i=26∨i=27∨i=28∨i=29∨i=30:=by omega
 rcases hN with rfl|rfl|rfl|rfl|rfl|rfl|rfl|rfl|rfl|rfl|rfl|rfl|rfl|rfl|rfl|rfl|rfl|rfl|rfl|rfl|rfl|rfl|rfl|rfl|rfl|rfl|rfl|rfl|rfl|rfl|rfl
 ·exact Rv.run (o:=ek0) rfl rfl (Rv.want_free rfl) (by unfold ek0;simp only[execOp,hev,g20];rfl) hW
 ·have d103:Rv.ev a 103=.int .i64 hh:=hd 0 (by decide)
  exact Rv.run (o:=ek1) rfl rfl (Rv.want_free rfl) (by unfold ek1;simp only[execOp,hev,hcn,d103];go_simp<;>rfl) hW
 ·exact Rv.run (o:=ek2) rfl rfl (Rv.want_free rfl) (by unfold ek2;simp only[execOp,hev,g14];rfl) hW
 ·have d105:Rv.ev a 105=.int .i64 ex:=hd 2 (by decide)
  exact Rv.run (o:=ek3) rfl rfl (Rv.want_free rfl) (by unfold ek3;simp only[execOp,hev,hcn,d105];go_simp<;>rfl) hW
 ·have d106:Rv.ev a 106=.bool true:=hd 3 (by decide)
  exact Rv.run (o:=ek4) rfl rfl (Rv.want_free rfl) (by unfold ek4;simp only[execOp,hev,d106];rfl) hW
 ·have dg:Rv.ev a 107=.bool true:=hd 4 (by decide)
  exact Rv.run (o:=ek5) rfl rfl (by rw[Rv.want_if (o':=ek4) rfl rfl rfl (hsz 107 (by decide)) dg];first|rfl|simp) (by unfold ek5;simp only[execOp,hev,g13];rfl) hW
 ·have d108:Rv.ev a 108=.int .i64 tx:=hd 5 (by decide)
  have dg:Rv.ev a 107=.bool true:=hd 4 (by decide)
  exact Rv.run (o:=ek6) rfl rfl (by rw[Rv.want_if (o':=ek4) rfl rfl rfl (hsz 107 (by decide)) dg];first|rfl|simp) (by unfold ek6;simp only[execOp,hev,hcn,d108];go_simp<;>rfl) hW
 ·have d107:Rv.ev a 107=.bool true:=hd 4 (by decide)
  have d109:Rv.ev a 109=.bool false:=hd 6 (by decide)
  exact Rv.run (o:=ek7) rfl rfl (Rv.want_free rfl) (by unfold ek7;simp only[execOp,hev,hcn,d107,d109];go_simp<;>rfl) hW
 ·have d110:Rv.ev a 110=.bool false:=hd 7 (by decide)
  exact Rv.run (o:=ek8) rfl rfl (Rv.want_free rfl) (by unfold ek8;simp only[execOp,hev,d110];rfl) hW
 ·have dg:Rv.ev a 111=.bool false:=hd 8 (by decide)
  exact Rv.skip (o:=ek9) rfl rfl (by rw[Rv.want_if (o':=ek8) rfl rfl rfl (hsz 111 (by decide)) dg];first|rfl|simp) hW
 ·have d112:Rv.ev a 112=undef:=hd 9 (by decide)
  have dg:Rv.ev a 111=.bool false:=hd 8 (by decide)
  exact Rv.skip (o:=ek10) rfl rfl (by rw[Rv.want_if (o':=ek8) rfl rfl rfl (hsz 111 (by decide)) dg];first|rfl|simp) hW
 ·have d111:Rv.ev a 111=.bool false:=hd 8 (by decide)
  have d113:Rv.ev a 113=undef:=hd 10 (by decide)
  exact Rv.run (o:=ek11) rfl rfl (Rv.want_free rfl) (by unfold ek11;simp only[execOp,hev,hcn,d111,d113];go_simp<;>rfl) hW
 ·have d114:Rv.ev a 114=.bool false:=hd 11 (by decide)
  exact Rv.run (o:=ek12) rfl rfl (Rv.want_free rfl) (by unfold ek12;simp only[execOp,hev,d114];rfl) hW
 ·have dg:Rv.ev a 115=.bool false:=hd 12 (by decide)
  exact Rv.skip (o:=ek13) rfl rfl (by rw[Rv.want_if (o':=ek12) rfl rfl rfl (hsz 115 (by decide)) dg];first|rfl|simp) hW
 ·have d116:Rv.ev a 116=undef:=hd 13 (by decide)
  have dg:Rv.ev a 115=.bool false:=hd 12 (by decide)
  exact Rv.skip (o:=ek14) rfl rfl (by rw[Rv.want_if (o':=ek12) rfl rfl rfl (hsz 115 (by decide)) dg];first|rfl|simp) hW
 ·have d115:Rv.ev a 115=.bool false:=hd 12 (by decide)
  have d117:Rv.ev a 117=undef:=hd 14 (by decide)
  exact Rv.run (o:=ek15) rfl rfl (Rv.want_free rfl) (by unfold ek15;simp only[execOp,hev,hcn,d115,d117];go_simp<;>rfl) hW
 ·have d118:Rv.ev a 118=.bool false:=hd 15 (by decide)
  exact Rv.run (o:=ek16) rfl rfl (Rv.want_free rfl) (by unfold ek16;simp only[execOp,hev,d118];rfl) hW
 ·have dg:Rv.ev a 119=.bool false:=hd 16 (by decide)
  exact Rv.skip (o:=ek17) rfl rfl (by rw[Rv.want_if (o':=ek16) rfl rfl rfl (hsz 119 (by decide)) dg];first|rfl|simp) hW
 ·have dg:Rv.ev a 119=.bool false:=hd 16 (by decide)
  exact Rv.skip (o:=ek18) rfl rfl (by rw[Rv.want_if (o':=ek16) rfl rfl rfl (hsz 119 (by decide)) dg];first|rfl|simp) hW
 ·have d120:Rv.ev a 120=undef:=hd 17 (by decide)
  have d121:Rv.ev a 121=undef:=hd 18 (by decide)
  have dg:Rv.ev a 119=.bool false:=hd 16 (by decide)
  exact Rv.skip (o:=ek19) rfl rfl (by rw[Rv.want_if (o':=ek16) rfl rfl rfl (hsz 119 (by decide)) dg];first|rfl|simp) hW
 ·have d119:Rv.ev a 119=.bool false:=hd 16 (by decide)
  have d122:Rv.ev a 122=undef:=hd 19 (by decide)
  exact Rv.run (o:=ek20) rfl rfl (Rv.want_free rfl) (by unfold ek20;simp only[execOp,hev,hcn,d119,d122];go_simp<;>rfl) hW
 ·have d104:Rv.ev a 104=.bool false:=hd 1 (by decide)
  have d123:Rv.ev a 123=.bool false:=hd 20 (by decide)
  exact Rv.run (o:=ek21) rfl rfl (Rv.want_free rfl) (by unfold ek21;simp only[execOp,hev,d104,d123];go_simp<;>rfl) hW
 ·have d124:Rv.ev a 124=.bool false:=hd 21 (by decide)
  exact Rv.run (o:=ek22) rfl rfl (Rv.want_free rfl) (by unfold ek22;simp only[execOp,hev,d124];rfl) hW
 ·have dg:Rv.ev a 125=.bool false:=hd 22 (by decide)
  exact Rv.run (o:=ek23) rfl rfl (by rw[Rv.want_if (o':=ek22) rfl rfl rfl (hsz 125 (by decide)) dg];first|rfl|simp) (by unfold ek23;simp only[execOp,hev,g20];rfl) hW
 ·have d126:Rv.ev a 126=.int .i64 hh:=hd 23 (by decide)
  have dg:Rv.ev a 125=.bool false:=hd 22 (by decide)
  exact Rv.run (o:=ek24) rfl rfl (by rw[Rv.want_if (o':=ek22) rfl rfl rfl (hsz 125 (by decide)) dg];first|rfl|simp) (by unfold ek24;simp only[execOp,hev,hcn,d126];go_simp<;>rfl) hW
 ·have d127:Rv.ev a 127=.bool false:=hd 24 (by decide)
  have dg:Rv.ev a 125=.bool false:=hd 22 (by decide)
  exact Rv.run (o:=ek25) rfl rfl (by rw[Rv.want_if (o':=ek22) rfl rfl rfl (hsz 125 (by decide)) dg];first|rfl|simp) (by unfold ek25;simp only[execOp,hev,d127];rfl) hW
 ·have dg:Rv.ev a 128=.bool false:=hd 25 (by decide)
  exact Rv.skip (o:=ek26) rfl rfl (by rw[Rv.want_if (o':=ek25) rfl rfl rfl (hsz 128 (by decide)) dg];first|rfl|simp) hW
 ·have dg:Rv.ev a 128=.bool false:=hd 25 (by decide)
  exact Rv.skip (o:=ek27) rfl rfl (by rw[Rv.want_if (o':=ek25) rfl rfl rfl (hsz 128 (by decide)) dg];first|rfl|simp) hW
 ·have d129:Rv.ev a 129=undef:=hd 26 (by decide)
  have d130:Rv.ev a 130=undef:=hd 27 (by decide)
  have dg:Rv.ev a 128=.bool false:=hd 25 (by decide)
  exact Rv.skip (o:=ek28) rfl rfl (by rw[Rv.want_if (o':=ek25) rfl rfl rfl (hsz 128 (by decide)) dg];first|rfl|simp) hW
 ·have d128:Rv.ev a 128=.bool false:=hd 25 (by decide)
  have d131:Rv.ev a 131=undef:=hd 28 (by decide)
  have dg:Rv.ev a 125=.bool false:=hd 22 (by decide)
  exact Rv.run (o:=ek29) rfl rfl (by rw[Rv.want_if (o':=ek22) rfl rfl rfl (hsz 125 (by decide)) dg];first|rfl|simp) (by unfold ek29;simp only[execOp,hev,hcn,d128,d131];go_simp<;>rfl) hW
 ·have d125:Rv.ev a 125=.bool false:=hd 22 (by decide)
  have d132:Rv.ev a 132=.bool false:=hd 29 (by decide)
  exact Rv.run (o:=ek30) rfl rfl (Rv.want_free rfl) (by unfold ek30;simp only[execOp,hev,hcn,d125,d132];go_simp<;>rfl) hW
end
def ekL2V (hh ex tx ey:Int):Nat→Value
 |0=>.int .i64 hh
 |1=>.bool false
 |2=>.int .i64 ex
 |3=>.bool true
 |4=>.bool true
 |5=>.int .i64 tx
 |6=>.bool true
 |7=>.bool true
 |8=>.bool true
 |9=>.int .i64 ey
 |10=>.bool false
 |11=>.bool false
 |12=>.bool false
 |13=>undef
 |14=>undef
 |15=>.bool false
 |16=>.bool false
 |17=>undef
 |18=>undef
 |19=>undef
 |20=>.bool false
 |21=>.bool false
 |22=>.bool false
 |23=>.int .i64 hh
 |24=>.bool false
 |25=>.bool false
 |26=>undef
 |27=>undef
 |28=>undef
 |29=>.bool false
 |_=>.bool false
section
variable {Q:Exit→Act→World→Prop} {X0 w0:World} {a0:Act}
set_option maxHeartbeats 4000000 in
theorem ekL2 {hh ww ex tx ey ty ez tz:Int} (g0:(ex==0)=true) (g1:(ey==0)=false) (g2:(hh==0)=false) (g3:(tx==2)=true) (hs:251≤a0.tmps.size)
  (e20:Rv.ev a0 20=.int .i64 hh)
  (e19:Rv.ev a0 19=.int .i64 ww)
  (e14:Rv.ev a0 14=.int .i64 ex)
  (e13:Rv.ev a0 13=.int .i64 tx)
  (e16:Rv.ev a0 16=.int .i64 ey)
  (e15:Rv.ev a0 15=.int .i64 ty)
  (e18:Rv.ev a0 18=.int .i64 ez)
  (e17:Rv.ev a0 17=.int .i64 tz)
  (hw:Below X0.heap.size X0 w0)
  (hQ:∀ a w,Rv.Off 31 eksl a0 a→Below X0.heap.size X0 w→(∀ j,j<31→Rv.ev a (eksl j)=(ekL2V hh ex tx ey) j)→Q .normal a w) :
  wpList Try.prog ekops Q ekops.toList a0 w0:=by
 refine Rv.list (X0:=X0) 31 eksl (ekL2V hh ex tx ey) rfl (by decide) (by decide) (fun j hj=>Nat.lt_of_lt_of_le ((by decide:∀ j,j<31→eksl j<251) j hj) hs) hw ?_ hQ
 intro i a W hi hO hW hd
 have hev:∀ j,a.eval (.tmp j)=Rv.ev a j:=fun _=>rfl
 have hcn:∀ v,a.eval (.const v)=v:=fun _=>rfl
 have hfn:∀ v,a.eval (.func v)=.func (.func v) #[] #[]:=fun _=>rfl
 have hsz:∀ k,k<251→k<a.tmps.size:=fun k hk=>by rw[hO.size];omega
 have g20:Rv.ev a 20=.int .i64 hh:=(hO.same 20 (by decide)).trans e20
 have g19:Rv.ev a 19=.int .i64 ww:=(hO.same 19 (by decide)).trans e19
 have g14:Rv.ev a 14=.int .i64 ex:=(hO.same 14 (by decide)).trans e14
 have g13:Rv.ev a 13=.int .i64 tx:=(hO.same 13 (by decide)).trans e13
 have g16:Rv.ev a 16=.int .i64 ey:=(hO.same 16 (by decide)).trans e16
 have g15:Rv.ev a 15=.int .i64 ty:=(hO.same 15 (by decide)).trans e15
 have g18:Rv.ev a 18=.int .i64 ez:=(hO.same 18 (by decide)).trans e18
 have g17:Rv.ev a 17=.int .i64 tz:=(hO.same 17 (by decide)).trans e17
 have hN:i=0∨i=1∨i=2∨i=3∨i=4∨i=5∨i=6∨i=7∨i=8∨i=9∨i=10∨i=11∨i=12∨i=13∨i=14∨i=15∨i=16∨i=17∨i=18∨i=19∨i=20∨i=21∨i=22∨i=23∨i=24∨i=25∨i=26∨i=27∨i=28∨i=29∨i=30:=by omega
 rcases hN with rfl|rfl|rfl|rfl|rfl|rfl|rfl|rfl|rfl|rfl|rfl|rfl|rfl|rfl|rfl|rfl|rfl|rfl|rfl|rfl|rfl|rfl|rfl|rfl|rfl|rfl|rfl|rfl|rfl|rfl|rfl
 ·exact Rv.run (o:=ek0) rfl rfl (Rv.want_free rfl) (by unfold ek0;simp only[execOp,hev,g20];rfl) hW
 ·have d103:Rv.ev a 103=.int .i64 hh:=hd 0 (by decide)
  exact Rv.run (o:=ek1) rfl rfl (Rv.want_free rfl) (by unfold ek1;simp only[execOp,hev,hcn,d103];go_simp<;>rfl) hW
 ·exact Rv.run (o:=ek2) rfl rfl (Rv.want_free rfl) (by unfold ek2;simp only[execOp,hev,g14];rfl) hW
 ·have d105:Rv.ev a 105=.int .i64 ex:=hd 2 (by decide)
  exact Rv.run (o:=ek3) rfl rfl (Rv.want_free rfl) (by unfold ek3;simp only[execOp,hev,hcn,d105];go_simp<;>rfl) hW
 ·have d106:Rv.ev a 106=.bool true:=hd 3 (by decide)
  exact Rv.run (o:=ek4) rfl rfl (Rv.want_free rfl) (by unfold ek4;simp only[execOp,hev,d106];rfl) hW
 ·have dg:Rv.ev a 107=.bool true:=hd 4 (by decide)
  exact Rv.run (o:=ek5) rfl rfl (by rw[Rv.want_if (o':=ek4) rfl rfl rfl (hsz 107 (by decide)) dg];first|rfl|simp) (by unfold ek5;simp only[execOp,hev,g13];rfl) hW
 ·have d108:Rv.ev a 108=.int .i64 tx:=hd 5 (by decide)
  have dg:Rv.ev a 107=.bool true:=hd 4 (by decide)
  exact Rv.run (o:=ek6) rfl rfl (by rw[Rv.want_if (o':=ek4) rfl rfl rfl (hsz 107 (by decide)) dg];first|rfl|simp) (by unfold ek6;simp only[execOp,hev,hcn,d108];go_simp<;>rfl) hW
 ·have d107:Rv.ev a 107=.bool true:=hd 4 (by decide)
  have d109:Rv.ev a 109=.bool true:=hd 6 (by decide)
  exact Rv.run (o:=ek7) rfl rfl (Rv.want_free rfl) (by unfold ek7;simp only[execOp,hev,hcn,d107,d109];go_simp<;>rfl) hW
 ·have d110:Rv.ev a 110=.bool true:=hd 7 (by decide)
  exact Rv.run (o:=ek8) rfl rfl (Rv.want_free rfl) (by unfold ek8;simp only[execOp,hev,d110];rfl) hW
 ·have dg:Rv.ev a 111=.bool true:=hd 8 (by decide)
  exact Rv.run (o:=ek9) rfl rfl (by rw[Rv.want_if (o':=ek8) rfl rfl rfl (hsz 111 (by decide)) dg];first|rfl|simp) (by unfold ek9;simp only[execOp,hev,g16];rfl) hW
 ·have d112:Rv.ev a 112=.int .i64 ey:=hd 9 (by decide)
  have dg:Rv.ev a 111=.bool true:=hd 8 (by decide)
  exact Rv.run (o:=ek10) rfl rfl (by rw[Rv.want_if (o':=ek8) rfl rfl rfl (hsz 111 (by decide)) dg];first|rfl|simp) (by unfold ek10;simp only[execOp,hev,hcn,d112];go_simp<;>rfl) hW
 ·have d111:Rv.ev a 111=.bool true:=hd 8 (by decide)
  have d113:Rv.ev a 113=.bool false:=hd 10 (by decide)
  exact Rv.run (o:=ek11) rfl rfl (Rv.want_free rfl) (by unfold ek11;simp only[execOp,hev,hcn,d111,d113];go_simp<;>rfl) hW
 ·have d114:Rv.ev a 114=.bool false:=hd 11 (by decide)
  exact Rv.run (o:=ek12) rfl rfl (Rv.want_free rfl) (by unfold ek12;simp only[execOp,hev,d114];rfl) hW
 ·have dg:Rv.ev a 115=.bool false:=hd 12 (by decide)
  exact Rv.skip (o:=ek13) rfl rfl (by rw[Rv.want_if (o':=ek12) rfl rfl rfl (hsz 115 (by decide)) dg];first|rfl|simp) hW
 ·have d116:Rv.ev a 116=undef:=hd 13 (by decide)
  have dg:Rv.ev a 115=.bool false:=hd 12 (by decide)
  exact Rv.skip (o:=ek14) rfl rfl (by rw[Rv.want_if (o':=ek12) rfl rfl rfl (hsz 115 (by decide)) dg];first|rfl|simp) hW
 ·have d115:Rv.ev a 115=.bool false:=hd 12 (by decide)
  have d117:Rv.ev a 117=undef:=hd 14 (by decide)
  exact Rv.run (o:=ek15) rfl rfl (Rv.want_free rfl) (by unfold ek15;simp only[execOp,hev,hcn,d115,d117];go_simp<;>rfl) hW
 ·have d118:Rv.ev a 118=.bool false:=hd 15 (by decide)
  exact Rv.run (o:=ek16) rfl rfl (Rv.want_free rfl) (by unfold ek16;simp only[execOp,hev,d118];rfl) hW
 ·have dg:Rv.ev a 119=.bool false:=hd 16 (by decide)
  exact Rv.skip (o:=ek17) rfl rfl (by rw[Rv.want_if (o':=ek16) rfl rfl rfl (hsz 119 (by decide)) dg];first|rfl|simp) hW
 ·have dg:Rv.ev a 119=.bool false:=hd 16 (by decide)
  exact Rv.skip (o:=ek18) rfl rfl (by rw[Rv.want_if (o':=ek16) rfl rfl rfl (hsz 119 (by decide)) dg];first|rfl|simp) hW
 ·have d120:Rv.ev a 120=undef:=hd 17 (by decide)
  have d121:Rv.ev a 121=undef:=hd 18 (by decide)
  have dg:Rv.ev a 119=.bool false:=hd 16 (by decide)
  exact Rv.skip (o:=ek19) rfl rfl (by rw[Rv.want_if (o':=ek16) rfl rfl rfl (hsz 119 (by decide)) dg];first|rfl|simp) hW
 ·have d119:Rv.ev a 119=.bool false:=hd 16 (by decide)
  have d122:Rv.ev a 122=undef:=hd 19 (by decide)
  exact Rv.run (o:=ek20) rfl rfl (Rv.want_free rfl) (by unfold ek20;simp only[execOp,hev,hcn,d119,d122];go_simp<;>rfl) hW
 ·have d104:Rv.ev a 104=.bool false:=hd 1 (by decide)
  have d123:Rv.ev a 123=.bool false:=hd 20 (by decide)
  exact Rv.run (o:=ek21) rfl rfl (Rv.want_free rfl) (by unfold ek21;simp only[execOp,hev,d104,d123];go_simp<;>rfl) hW
 ·have d124:Rv.ev a 124=.bool false:=hd 21 (by decide)
  exact Rv.run (o:=ek22) rfl rfl (Rv.want_free rfl) (by unfold ek22;simp only[execOp,hev,d124];rfl) hW
 ·have dg:Rv.ev a 125=.bool false:=hd 22 (by decide)
  exact Rv.run (o:=ek23) rfl rfl (by rw[Rv.want_if (o':=ek22) rfl rfl rfl (hsz 125 (by decide)) dg];first|rfl|simp) (by unfold ek23;simp only[execOp,hev,g20];rfl) hW
 ·have d126:Rv.ev a 126=.int .i64 hh:=hd 23 (by decide)
  have dg:Rv.ev a 125=.bool false:=hd 22 (by decide)
  exact Rv.run (o:=ek24) rfl rfl (by rw[Rv.want_if (o':=ek22) rfl rfl rfl (hsz 125 (by decide)) dg];first|rfl|simp) (by unfold ek24;simp only[execOp,hev,hcn,d126];go_simp<;>rfl) hW
 ·have d127:Rv.ev a 127=.bool false:=hd 24 (by decide)
  have dg:Rv.ev a 125=.bool false:=hd 22 (by decide)
  exact Rv.run (o:=ek25) rfl rfl (by rw[Rv.want_if (o':=ek22) rfl rfl rfl (hsz 125 (by decide)) dg];first|rfl|simp) (by unfold ek25;simp only[execOp,hev,d127];rfl) hW
 ·have dg:Rv.ev a 128=.bool false:=hd 25 (by decide)
  exact Rv.skip (o:=ek26) rfl rfl (by rw[Rv.want_if (o':=ek25) rfl rfl rfl (hsz 128 (by decide)) dg];first|rfl|simp) hW
 ·have dg:Rv.ev a 128=.bool false:=hd 25 (by decide)
  exact Rv.skip (o:=ek27) rfl rfl (by rw[Rv.want_if (o':=ek25) rfl rfl rfl (hsz 128 (by decide)) dg];first|rfl|simp) hW
 ·have d129:Rv.ev a 129=undef:=hd 26 (by decide)
  have d130:Rv.ev a 130=undef:=hd 27 (by decide)
  have dg:Rv.ev a 128=.bool false:=hd 25 (by decide)
  exact Rv.skip (o:=ek28) rfl rfl (by rw[Rv.want_if (o':=ek25) rfl rfl rfl (hsz 128 (by decide)) dg];first|rfl|simp) hW
 ·have d128:Rv.ev a 128=.bool false:=hd 25 (by decide)
  have d131:Rv.ev a 131=undef:=hd 28 (by decide)
  have dg:Rv.ev a 125=.bool false:=hd 22 (by decide)
  exact Rv.run (o:=ek29) rfl rfl (by rw[Rv.want_if (o':=ek22) rfl rfl rfl (hsz 125 (by decide)) dg];first|rfl|simp) (by unfold ek29;simp only[execOp,hev,hcn,d128,d131];go_simp<;>rfl) hW
 ·have d125:Rv.ev a 125=.bool false:=hd 22 (by decide)
  have d132:Rv.ev a 132=.bool false:=hd 29 (by decide)
  exact Rv.run (o:=ek30) rfl rfl (Rv.want_free rfl) (by unfold ek30;simp only[execOp,hev,hcn,d125,d132];go_simp<;>rfl) hW
end
def ekL3V (hh ex tx ey ez:Int):Nat→Value
 |0=>.int .i64 hh
 |1=>.bool false
 |2=>.int .i64 ex
 |3=>.bool true
 |4=>.bool true
 |5=>.int .i64 tx
 |6=>.bool true
 |7=>.bool true
 |8=>.bool true
 |9=>.int .i64 ey
 |10=>.bool true
 |11=>.bool true
 |12=>.bool true
 |13=>.int .i64 ez
 |14=>.bool false
 |15=>.bool false
 |16=>.bool false
 |17=>undef
 |18=>undef
 |19=>undef
 |20=>.bool false
 |21=>.bool false
 |22=>.bool false
 |23=>.int .i64 hh
 |24=>.bool false
 |25=>.bool false
 |26=>undef
 |27=>undef
 |28=>undef
 |29=>.bool false
 |_=>.bool false
section
variable {Q:Exit→Act→World→Prop} {X0 w0:World} {a0:Act}
set_option maxHeartbeats 4000000 in
theorem ekL3 {hh ww ex tx ey ty ez tz:Int} (g0:(ex==0)=true) (g1:(ey==0)=true) (g2:(ez==0)=false) (g3:(hh==0)=false) (g4:(tx==2)=true) (hs:251≤a0.tmps.size)
  (e20:Rv.ev a0 20=.int .i64 hh)
  (e19:Rv.ev a0 19=.int .i64 ww)
  (e14:Rv.ev a0 14=.int .i64 ex)
  (e13:Rv.ev a0 13=.int .i64 tx)
  (e16:Rv.ev a0 16=.int .i64 ey)
  (e15:Rv.ev a0 15=.int .i64 ty)
  (e18:Rv.ev a0 18=.int .i64 ez)
  (e17:Rv.ev a0 17=.int .i64 tz)
  (hw:Below X0.heap.size X0 w0)
  (hQ:∀ a w,Rv.Off 31 eksl a0 a→Below X0.heap.size X0 w→(∀ j,j<31→Rv.ev a (eksl j)=(ekL3V hh ex tx ey ez) j)→Q .normal a w) :
  wpList Try.prog ekops Q ekops.toList a0 w0:=by
 refine Rv.list (X0:=X0) 31 eksl (ekL3V hh ex tx ey ez) rfl (by decide) (by decide) (fun j hj=>Nat.lt_of_lt_of_le ((by decide:∀ j,j<31→eksl j<251) j hj) hs) hw ?_ hQ
 intro i a W hi hO hW hd
 have hev:∀ j,a.eval (.tmp j)=Rv.ev a j:=fun _=>rfl
 have hcn:∀ v,a.eval (.const v)=v:=fun _=>rfl
 have hfn:∀ v,a.eval (.func v)=.func (.func v) #[] #[]:=fun _=>rfl
 have hsz:∀ k,k<251→k<a.tmps.size:=fun k hk=>by rw[hO.size];omega
 have g20:Rv.ev a 20=.int .i64 hh:=(hO.same 20 (by decide)).trans e20
 have g19:Rv.ev a 19=.int .i64 ww:=(hO.same 19 (by decide)).trans e19
 have g14:Rv.ev a 14=.int .i64 ex:=(hO.same 14 (by decide)).trans e14
 have g13:Rv.ev a 13=.int .i64 tx:=(hO.same 13 (by decide)).trans e13
 have g16:Rv.ev a 16=.int .i64 ey:=(hO.same 16 (by decide)).trans e16
 have g15:Rv.ev a 15=.int .i64 ty:=(hO.same 15 (by decide)).trans e15
 have g18:Rv.ev a 18=.int .i64 ez:=(hO.same 18 (by decide)).trans e18
 have g17:Rv.ev a 17=.int .i64 tz:=(hO.same 17 (by decide)).trans e17
 have hN:i=0∨i=1∨i=2∨i=3∨i=4∨i=5∨i=6∨i=7∨i=8∨i=9∨i=10∨i=11∨i=12∨i=13∨i=14∨i=15∨i=16∨i=17∨i=18∨i=19∨i=20∨i=21∨i=22∨i=23∨i=24∨i=25∨i=26∨i=27∨i=28∨i=29∨i=30:=by omega
 rcases hN with rfl|rfl|rfl|rfl|rfl|rfl|rfl|rfl|rfl|rfl|rfl|rfl|rfl|rfl|rfl|rfl|rfl|rfl|rfl|rfl|rfl|rfl|rfl|rfl|rfl|rfl|rfl|rfl|rfl|rfl|rfl
 ·exact Rv.run (o:=ek0) rfl rfl (Rv.want_free rfl) (by unfold ek0;simp only[execOp,hev,g20];rfl) hW
 ·have d103:Rv.ev a 103=.int .i64 hh:=hd 0 (by decide)
  exact Rv.run (o:=ek1) rfl rfl (Rv.want_free rfl) (by unfold ek1;simp only[execOp,hev,hcn,d103];go_simp<;>rfl) hW
 ·exact Rv.run (o:=ek2) rfl rfl (Rv.want_free rfl) (by unfold ek2;simp only[execOp,hev,g14];rfl) hW
 ·have d105:Rv.ev a 105=.int .i64 ex:=hd 2 (by decide)
  exact Rv.run (o:=ek3) rfl rfl (Rv.want_free rfl) (by unfold ek3;simp only[execOp,hev,hcn,d105];go_simp<;>rfl) hW
 ·have d106:Rv.ev a 106=.bool true:=hd 3 (by decide)
  exact Rv.run (o:=ek4) rfl rfl (Rv.want_free rfl) (by unfold ek4;simp only[execOp,hev,d106];rfl) hW
 ·have dg:Rv.ev a 107=.bool true:=hd 4 (by decide)
  exact Rv.run (o:=ek5) rfl rfl (by rw[Rv.want_if (o':=ek4) rfl rfl rfl (hsz 107 (by decide)) dg];first|rfl|simp) (by unfold ek5;simp only[execOp,hev,g13];rfl) hW
 ·have d108:Rv.ev a 108=.int .i64 tx:=hd 5 (by decide)
  have dg:Rv.ev a 107=.bool true:=hd 4 (by decide)
  exact Rv.run (o:=ek6) rfl rfl (by rw[Rv.want_if (o':=ek4) rfl rfl rfl (hsz 107 (by decide)) dg];first|rfl|simp) (by unfold ek6;simp only[execOp,hev,hcn,d108];go_simp<;>rfl) hW
 ·have d107:Rv.ev a 107=.bool true:=hd 4 (by decide)
  have d109:Rv.ev a 109=.bool true:=hd 6 (by decide)
  exact Rv.run (o:=ek7) rfl rfl (Rv.want_free rfl) (by unfold ek7;simp only[execOp,hev,hcn,d107,d109];go_simp<;>rfl) hW
 ·have d110:Rv.ev a 110=.bool true:=hd 7 (by decide)
  exact Rv.run (o:=ek8) rfl rfl (Rv.want_free rfl) (by unfold ek8;simp only[execOp,hev,d110];rfl) hW
 ·have dg:Rv.ev a 111=.bool true:=hd 8 (by decide)
  exact Rv.run (o:=ek9) rfl rfl (by rw[Rv.want_if (o':=ek8) rfl rfl rfl (hsz 111 (by decide)) dg];first|rfl|simp) (by unfold ek9;simp only[execOp,hev,g16];rfl) hW
 ·have d112:Rv.ev a 112=.int .i64 ey:=hd 9 (by decide)
  have dg:Rv.ev a 111=.bool true:=hd 8 (by decide)
  exact Rv.run (o:=ek10) rfl rfl (by rw[Rv.want_if (o':=ek8) rfl rfl rfl (hsz 111 (by decide)) dg];first|rfl|simp) (by unfold ek10;simp only[execOp,hev,hcn,d112];go_simp<;>rfl) hW
 ·have d111:Rv.ev a 111=.bool true:=hd 8 (by decide)
  have d113:Rv.ev a 113=.bool true:=hd 10 (by decide)
  exact Rv.run (o:=ek11) rfl rfl (Rv.want_free rfl) (by unfold ek11;simp only[execOp,hev,hcn,d111,d113];go_simp<;>rfl) hW
 ·have d114:Rv.ev a 114=.bool true:=hd 11 (by decide)
  exact Rv.run (o:=ek12) rfl rfl (Rv.want_free rfl) (by unfold ek12;simp only[execOp,hev,d114];rfl) hW
 ·have dg:Rv.ev a 115=.bool true:=hd 12 (by decide)
  exact Rv.run (o:=ek13) rfl rfl (by rw[Rv.want_if (o':=ek12) rfl rfl rfl (hsz 115 (by decide)) dg];first|rfl|simp) (by unfold ek13;simp only[execOp,hev,g18];rfl) hW
 ·have d116:Rv.ev a 116=.int .i64 ez:=hd 13 (by decide)
  have dg:Rv.ev a 115=.bool true:=hd 12 (by decide)
  exact Rv.run (o:=ek14) rfl rfl (by rw[Rv.want_if (o':=ek12) rfl rfl rfl (hsz 115 (by decide)) dg];first|rfl|simp) (by unfold ek14;simp only[execOp,hev,hcn,d116];go_simp<;>rfl) hW
 ·have d115:Rv.ev a 115=.bool true:=hd 12 (by decide)
  have d117:Rv.ev a 117=.bool false:=hd 14 (by decide)
  exact Rv.run (o:=ek15) rfl rfl (Rv.want_free rfl) (by unfold ek15;simp only[execOp,hev,hcn,d115,d117];go_simp<;>rfl) hW
 ·have d118:Rv.ev a 118=.bool false:=hd 15 (by decide)
  exact Rv.run (o:=ek16) rfl rfl (Rv.want_free rfl) (by unfold ek16;simp only[execOp,hev,d118];rfl) hW
 ·have dg:Rv.ev a 119=.bool false:=hd 16 (by decide)
  exact Rv.skip (o:=ek17) rfl rfl (by rw[Rv.want_if (o':=ek16) rfl rfl rfl (hsz 119 (by decide)) dg];first|rfl|simp) hW
 ·have dg:Rv.ev a 119=.bool false:=hd 16 (by decide)
  exact Rv.skip (o:=ek18) rfl rfl (by rw[Rv.want_if (o':=ek16) rfl rfl rfl (hsz 119 (by decide)) dg];first|rfl|simp) hW
 ·have d120:Rv.ev a 120=undef:=hd 17 (by decide)
  have d121:Rv.ev a 121=undef:=hd 18 (by decide)
  have dg:Rv.ev a 119=.bool false:=hd 16 (by decide)
  exact Rv.skip (o:=ek19) rfl rfl (by rw[Rv.want_if (o':=ek16) rfl rfl rfl (hsz 119 (by decide)) dg];first|rfl|simp) hW
 ·have d119:Rv.ev a 119=.bool false:=hd 16 (by decide)
  have d122:Rv.ev a 122=undef:=hd 19 (by decide)
  exact Rv.run (o:=ek20) rfl rfl (Rv.want_free rfl) (by unfold ek20;simp only[execOp,hev,hcn,d119,d122];go_simp<;>rfl) hW
 ·have d104:Rv.ev a 104=.bool false:=hd 1 (by decide)
  have d123:Rv.ev a 123=.bool false:=hd 20 (by decide)
  exact Rv.run (o:=ek21) rfl rfl (Rv.want_free rfl) (by unfold ek21;simp only[execOp,hev,d104,d123];go_simp<;>rfl) hW
 ·have d124:Rv.ev a 124=.bool false:=hd 21 (by decide)
  exact Rv.run (o:=ek22) rfl rfl (Rv.want_free rfl) (by unfold ek22;simp only[execOp,hev,d124];rfl) hW
 ·have dg:Rv.ev a 125=.bool false:=hd 22 (by decide)
  exact Rv.run (o:=ek23) rfl rfl (by rw[Rv.want_if (o':=ek22) rfl rfl rfl (hsz 125 (by decide)) dg];first|rfl|simp) (by unfold ek23;simp only[execOp,hev,g20];rfl) hW
 ·have d126:Rv.ev a 126=.int .i64 hh:=hd 23 (by decide)
  have dg:Rv.ev a 125=.bool false:=hd 22 (by decide)
  exact Rv.run (o:=ek24) rfl rfl (by rw[Rv.want_if (o':=ek22) rfl rfl rfl (hsz 125 (by decide)) dg];first|rfl|simp) (by unfold ek24;simp only[execOp,hev,hcn,d126];go_simp<;>rfl) hW
 ·have d127:Rv.ev a 127=.bool false:=hd 24 (by decide)
  have dg:Rv.ev a 125=.bool false:=hd 22 (by decide)
  exact Rv.run (o:=ek25) rfl rfl (by rw[Rv.want_if (o':=ek22) rfl rfl rfl (hsz 125 (by decide)) dg];first|rfl|simp) (by unfold ek25;simp only[execOp,hev,d127];rfl) hW
 ·have dg:Rv.ev a 128=.bool false:=hd 25 (by decide)
  exact Rv.skip (o:=ek26) rfl rfl (by rw[Rv.want_if (o':=ek25) rfl rfl rfl (hsz 128 (by decide)) dg];first|rfl|simp) hW
 ·have dg:Rv.ev a 128=.bool false:=hd 25 (by decide)
  exact Rv.skip (o:=ek27) rfl rfl (by rw[Rv.want_if (o':=ek25) rfl rfl rfl (hsz 128 (by decide)) dg];first|rfl|simp) hW
 ·have d129:Rv.ev a 129=undef:=hd 26 (by decide)
  have d130:Rv.ev a 130=undef:=hd 27 (by decide)
  have dg:Rv.ev a 128=.bool false:=hd 25 (by decide)
  exact Rv.skip (o:=ek28) rfl rfl (by rw[Rv.want_if (o':=ek25) rfl rfl rfl (hsz 128 (by decide)) dg];first|rfl|simp) hW
 ·have d128:Rv.ev a 128=.bool false:=hd 25 (by decide)
  have d131:Rv.ev a 131=undef:=hd 28 (by decide)
  have dg:Rv.ev a 125=.bool false:=hd 22 (by decide)
  exact Rv.run (o:=ek29) rfl rfl (by rw[Rv.want_if (o':=ek22) rfl rfl rfl (hsz 125 (by decide)) dg];first|rfl|simp) (by unfold ek29;simp only[execOp,hev,hcn,d128,d131];go_simp<;>rfl) hW
 ·have d125:Rv.ev a 125=.bool false:=hd 22 (by decide)
  have d132:Rv.ev a 132=.bool false:=hd 29 (by decide)
  exact Rv.run (o:=ek30) rfl rfl (Rv.want_free rfl) (by unfold ek30;simp only[execOp,hev,hcn,d125,d132];go_simp<;>rfl) hW
end
def ekL4V (hh ex tx ey ty ez tz:Int):Nat→Value
 |0=>.int .i64 hh
 |1=>.bool false
 |2=>.int .i64 ex
 |3=>.bool true
 |4=>.bool true
 |5=>.int .i64 tx
 |6=>.bool true
 |7=>.bool true
 |8=>.bool true
 |9=>.int .i64 ey
 |10=>.bool true
 |11=>.bool true
 |12=>.bool true
 |13=>.int .i64 ez
 |14=>.bool true
 |15=>.bool true
 |16=>.bool true
 |17=>.int .i64 ty
 |18=>.int .i64 tz
 |19=>.bool false
 |20=>.bool false
 |21=>.bool false
 |22=>.bool false
 |23=>.int .i64 hh
 |24=>.bool false
 |25=>.bool false
 |26=>undef
 |27=>undef
 |28=>undef
 |29=>.bool false
 |_=>.bool false
section
variable {Q:Exit→Act→World→Prop} {X0 w0:World} {a0:Act}
set_option maxHeartbeats 4000000 in
theorem ekL4 {hh ww ex tx ey ty ez tz:Int} (g0:(ex==0)=true) (g1:(ey==0)=true) (g2:(ez==0)=true) (g3:(hh==0)=false) (g4:(tx==2)=true) (g5:(ty==tz)=false) (hs:251≤a0.tmps.size)
  (e20:Rv.ev a0 20=.int .i64 hh)
  (e19:Rv.ev a0 19=.int .i64 ww)
  (e14:Rv.ev a0 14=.int .i64 ex)
  (e13:Rv.ev a0 13=.int .i64 tx)
  (e16:Rv.ev a0 16=.int .i64 ey)
  (e15:Rv.ev a0 15=.int .i64 ty)
  (e18:Rv.ev a0 18=.int .i64 ez)
  (e17:Rv.ev a0 17=.int .i64 tz)
  (hw:Below X0.heap.size X0 w0)
  (hQ:∀ a w,Rv.Off 31 eksl a0 a→Below X0.heap.size X0 w→(∀ j,j<31→Rv.ev a (eksl j)=(ekL4V hh ex tx ey ty ez tz) j)→Q .normal a w) :
  wpList Try.prog ekops Q ekops.toList a0 w0:=by
 refine Rv.list (X0:=X0) 31 eksl (ekL4V hh ex tx ey ty ez tz) rfl (by decide) (by decide) (fun j hj=>Nat.lt_of_lt_of_le ((by decide:∀ j,j<31→eksl j<251) j hj) hs) hw ?_ hQ
 intro i a W hi hO hW hd
 have hev:∀ j,a.eval (.tmp j)=Rv.ev a j:=fun _=>rfl
 have hcn:∀ v,a.eval (.const v)=v:=fun _=>rfl
 have hfn:∀ v,a.eval (.func v)=.func (.func v) #[] #[]:=fun _=>rfl
 have hsz:∀ k,k<251→k<a.tmps.size:=fun k hk=>by rw[hO.size];omega
 have g20:Rv.ev a 20=.int .i64 hh:=(hO.same 20 (by decide)).trans e20
 have g19:Rv.ev a 19=.int .i64 ww:=(hO.same 19 (by decide)).trans e19
 have g14:Rv.ev a 14=.int .i64 ex:=(hO.same 14 (by decide)).trans e14
 have g13:Rv.ev a 13=.int .i64 tx:=(hO.same 13 (by decide)).trans e13
 have g16:Rv.ev a 16=.int .i64 ey:=(hO.same 16 (by decide)).trans e16
 have g15:Rv.ev a 15=.int .i64 ty:=(hO.same 15 (by decide)).trans e15
 have g18:Rv.ev a 18=.int .i64 ez:=(hO.same 18 (by decide)).trans e18
 have g17:Rv.ev a 17=.int .i64 tz:=(hO.same 17 (by decide)).trans e17
 have hN:i=0∨i=1∨i=2∨i=3∨i=4∨i=5∨i=6∨i=7∨i=8∨i=9∨i=10∨i=11∨i=12∨i=13∨i=14∨i=15∨i=16∨i=17∨i=18∨i=19∨i=20∨i=21∨i=22∨i=23∨i=24∨i=25∨i=26∨i=27∨i=28∨i=29∨i=30:=by omega
 rcases hN with rfl|rfl|rfl|rfl|rfl|rfl|rfl|rfl|rfl|rfl|rfl|rfl|rfl|rfl|rfl|rfl|rfl|rfl|rfl|rfl|rfl|rfl|rfl|rfl|rfl|rfl|rfl|rfl|rfl|rfl|rfl
 ·exact Rv.run (o:=ek0) rfl rfl (Rv.want_free rfl) (by unfold ek0;simp only[execOp,hev,g20];rfl) hW
 ·have d103:Rv.ev a 103=.int .i64 hh:=hd 0 (by decide)
  exact Rv.run (o:=ek1) rfl rfl (Rv.want_free rfl) (by unfold ek1;simp only[execOp,hev,hcn,d103];go_simp<;>rfl) hW
 ·exact Rv.run (o:=ek2) rfl rfl (Rv.want_free rfl) (by unfold ek2;simp only[execOp,hev,g14];rfl) hW
 ·have d105:Rv.ev a 105=.int .i64 ex:=hd 2 (by decide)
  exact Rv.run (o:=ek3) rfl rfl (Rv.want_free rfl) (by unfold ek3;simp only[execOp,hev,hcn,d105];go_simp<;>rfl) hW
 ·have d106:Rv.ev a 106=.bool true:=hd 3 (by decide)
  exact Rv.run (o:=ek4) rfl rfl (Rv.want_free rfl) (by unfold ek4;simp only[execOp,hev,d106];rfl) hW
 ·have dg:Rv.ev a 107=.bool true:=hd 4 (by decide)
  exact Rv.run (o:=ek5) rfl rfl (by rw[Rv.want_if (o':=ek4) rfl rfl rfl (hsz 107 (by decide)) dg];first|rfl|simp) (by unfold ek5;simp only[execOp,hev,g13];rfl) hW
 ·have d108:Rv.ev a 108=.int .i64 tx:=hd 5 (by decide)
  have dg:Rv.ev a 107=.bool true:=hd 4 (by decide)
  exact Rv.run (o:=ek6) rfl rfl (by rw[Rv.want_if (o':=ek4) rfl rfl rfl (hsz 107 (by decide)) dg];first|rfl|simp) (by unfold ek6;simp only[execOp,hev,hcn,d108];go_simp<;>rfl) hW
 ·have d107:Rv.ev a 107=.bool true:=hd 4 (by decide)
  have d109:Rv.ev a 109=.bool true:=hd 6 (by decide)
  exact Rv.run (o:=ek7) rfl rfl (Rv.want_free rfl) (by unfold ek7;simp only[execOp,hev,hcn,d107,d109];go_simp<;>rfl) hW
 ·have d110:Rv.ev a 110=.bool true:=hd 7 (by decide)
  exact Rv.run (o:=ek8) rfl rfl (Rv.want_free rfl) (by unfold ek8;simp only[execOp,hev,d110];rfl) hW
 ·have dg:Rv.ev a 111=.bool true:=hd 8 (by decide)
  exact Rv.run (o:=ek9) rfl rfl (by rw[Rv.want_if (o':=ek8) rfl rfl rfl (hsz 111 (by decide)) dg];first|rfl|simp) (by unfold ek9;simp only[execOp,hev,g16];rfl) hW
 ·have d112:Rv.ev a 112=.int .i64 ey:=hd 9 (by decide)
  have dg:Rv.ev a 111=.bool true:=hd 8 (by decide)
  exact Rv.run (o:=ek10) rfl rfl (by rw[Rv.want_if (o':=ek8) rfl rfl rfl (hsz 111 (by decide)) dg];first|rfl|simp) (by unfold ek10;simp only[execOp,hev,hcn,d112];go_simp<;>rfl) hW
 ·have d111:Rv.ev a 111=.bool true:=hd 8 (by decide)
  have d113:Rv.ev a 113=.bool true:=hd 10 (by decide)
  exact Rv.run (o:=ek11) rfl rfl (Rv.want_free rfl) (by unfold ek11;simp only[execOp,hev,hcn,d111,d113];go_simp<;>rfl) hW
 ·have d114:Rv.ev a 114=.bool true:=hd 11 (by decide)
  exact Rv.run (o:=ek12) rfl rfl (Rv.want_free rfl) (by unfold ek12;simp only[execOp,hev,d114];rfl) hW
 ·have dg:Rv.ev a 115=.bool true:=hd 12 (by decide)
  exact Rv.run (o:=ek13) rfl rfl (by rw[Rv.want_if (o':=ek12) rfl rfl rfl (hsz 115 (by decide)) dg];first|rfl|simp) (by unfold ek13;simp only[execOp,hev,g18];rfl) hW
 ·have d116:Rv.ev a 116=.int .i64 ez:=hd 13 (by decide)
  have dg:Rv.ev a 115=.bool true:=hd 12 (by decide)
  exact Rv.run (o:=ek14) rfl rfl (by rw[Rv.want_if (o':=ek12) rfl rfl rfl (hsz 115 (by decide)) dg];first|rfl|simp) (by unfold ek14;simp only[execOp,hev,hcn,d116];go_simp<;>rfl) hW
 ·have d115:Rv.ev a 115=.bool true:=hd 12 (by decide)
  have d117:Rv.ev a 117=.bool true:=hd 14 (by decide)
  exact Rv.run (o:=ek15) rfl rfl (Rv.want_free rfl) (by unfold ek15;simp only[execOp,hev,hcn,d115,d117];go_simp<;>rfl) hW
 ·have d118:Rv.ev a 118=.bool true:=hd 15 (by decide)
  exact Rv.run (o:=ek16) rfl rfl (Rv.want_free rfl) (by unfold ek16;simp only[execOp,hev,d118];rfl) hW
 ·have dg:Rv.ev a 119=.bool true:=hd 16 (by decide)
  exact Rv.run (o:=ek17) rfl rfl (by rw[Rv.want_if (o':=ek16) rfl rfl rfl (hsz 119 (by decide)) dg];first|rfl|simp) (by unfold ek17;simp only[execOp,hev,g15];rfl) hW
 ·have dg:Rv.ev a 119=.bool true:=hd 16 (by decide)
  exact Rv.run (o:=ek18) rfl rfl (by rw[Rv.want_if (o':=ek16) rfl rfl rfl (hsz 119 (by decide)) dg];first|rfl|simp) (by unfold ek18;simp only[execOp,hev,g17];rfl) hW
 ·have d120:Rv.ev a 120=.int .i64 ty:=hd 17 (by decide)
  have d121:Rv.ev a 121=.int .i64 tz:=hd 18 (by decide)
  have dg:Rv.ev a 119=.bool true:=hd 16 (by decide)
  exact Rv.run (o:=ek19) rfl rfl (by rw[Rv.want_if (o':=ek16) rfl rfl rfl (hsz 119 (by decide)) dg];first|rfl|simp) (by unfold ek19;simp only[execOp,hev,d120,d121];go_simp<;>rfl) hW
 ·have d119:Rv.ev a 119=.bool true:=hd 16 (by decide)
  have d122:Rv.ev a 122=.bool false:=hd 19 (by decide)
  exact Rv.run (o:=ek20) rfl rfl (Rv.want_free rfl) (by unfold ek20;simp only[execOp,hev,hcn,d119,d122];go_simp<;>rfl) hW
 ·have d104:Rv.ev a 104=.bool false:=hd 1 (by decide)
  have d123:Rv.ev a 123=.bool false:=hd 20 (by decide)
  exact Rv.run (o:=ek21) rfl rfl (Rv.want_free rfl) (by unfold ek21;simp only[execOp,hev,d104,d123];go_simp<;>rfl) hW
 ·have d124:Rv.ev a 124=.bool false:=hd 21 (by decide)
  exact Rv.run (o:=ek22) rfl rfl (Rv.want_free rfl) (by unfold ek22;simp only[execOp,hev,d124];rfl) hW
 ·have dg:Rv.ev a 125=.bool false:=hd 22 (by decide)
  exact Rv.run (o:=ek23) rfl rfl (by rw[Rv.want_if (o':=ek22) rfl rfl rfl (hsz 125 (by decide)) dg];first|rfl|simp) (by unfold ek23;simp only[execOp,hev,g20];rfl) hW
 ·have d126:Rv.ev a 126=.int .i64 hh:=hd 23 (by decide)
  have dg:Rv.ev a 125=.bool false:=hd 22 (by decide)
  exact Rv.run (o:=ek24) rfl rfl (by rw[Rv.want_if (o':=ek22) rfl rfl rfl (hsz 125 (by decide)) dg];first|rfl|simp) (by unfold ek24;simp only[execOp,hev,hcn,d126];go_simp<;>rfl) hW
 ·have d127:Rv.ev a 127=.bool false:=hd 24 (by decide)
  have dg:Rv.ev a 125=.bool false:=hd 22 (by decide)
  exact Rv.run (o:=ek25) rfl rfl (by rw[Rv.want_if (o':=ek22) rfl rfl rfl (hsz 125 (by decide)) dg];first|rfl|simp) (by unfold ek25;simp only[execOp,hev,d127];rfl) hW
 ·have dg:Rv.ev a 128=.bool false:=hd 25 (by decide)
  exact Rv.skip (o:=ek26) rfl rfl (by rw[Rv.want_if (o':=ek25) rfl rfl rfl (hsz 128 (by decide)) dg];first|rfl|simp) hW
 ·have dg:Rv.ev a 128=.bool false:=hd 25 (by decide)
  exact Rv.skip (o:=ek27) rfl rfl (by rw[Rv.want_if (o':=ek25) rfl rfl rfl (hsz 128 (by decide)) dg];first|rfl|simp) hW
 ·have d129:Rv.ev a 129=undef:=hd 26 (by decide)
  have d130:Rv.ev a 130=undef:=hd 27 (by decide)
  have dg:Rv.ev a 128=.bool false:=hd 25 (by decide)
  exact Rv.skip (o:=ek28) rfl rfl (by rw[Rv.want_if (o':=ek25) rfl rfl rfl (hsz 128 (by decide)) dg];first|rfl|simp) hW
 ·have d128:Rv.ev a 128=.bool false:=hd 25 (by decide)
  have d131:Rv.ev a 131=undef:=hd 28 (by decide)
  have dg:Rv.ev a 125=.bool false:=hd 22 (by decide)
  exact Rv.run (o:=ek29) rfl rfl (by rw[Rv.want_if (o':=ek22) rfl rfl rfl (hsz 125 (by decide)) dg];first|rfl|simp) (by unfold ek29;simp only[execOp,hev,hcn,d128,d131];go_simp<;>rfl) hW
 ·have d125:Rv.ev a 125=.bool false:=hd 22 (by decide)
  have d132:Rv.ev a 132=.bool false:=hd 29 (by decide)
  exact Rv.run (o:=ek30) rfl rfl (Rv.want_free rfl) (by unfold ek30;simp only[execOp,hev,hcn,d125,d132];go_simp<;>rfl) hW
end
def ekL5V (hh ww ex tx ey ty ez tz:Int):Nat→Value
 |0=>.int .i64 hh
 |1=>.bool true
 |2=>.int .i64 ex
 |3=>.bool true
 |4=>.bool true
 |5=>.int .i64 tx
 |6=>.bool true
 |7=>.bool true
 |8=>.bool true
 |9=>.int .i64 ey
 |10=>.bool true
 |11=>.bool true
 |12=>.bool true
 |13=>.int .i64 ez
 |14=>.bool true
 |15=>.bool true
 |16=>.bool true
 |17=>.int .i64 ty
 |18=>.int .i64 tz
 |19=>.bool true
 |20=>.bool true
 |21=>.bool false
 |22=>.bool false
 |23=>.int .i64 hh
 |24=>.bool true
 |25=>.bool true
 |26=>.int .i64 ww
 |27=>.int .i64 ty
 |28=>.bool false
 |29=>.bool false
 |_=>.bool false
section
variable {Q:Exit→Act→World→Prop} {X0 w0:World} {a0:Act}
set_option maxHeartbeats 4000000 in
theorem ekL5 {hh ww ex tx ey ty ez tz:Int} (g0:(ex==0)=true) (g1:(ey==0)=true) (g2:(ez==0)=true) (g3:(hh==0)=true) (g4:(tx==2)=true) (g5:(ty==tz)=true) (g6:(ww != ty)=false) (hs:251≤a0.tmps.size)
  (e20:Rv.ev a0 20=.int .i64 hh)
  (e19:Rv.ev a0 19=.int .i64 ww)
  (e14:Rv.ev a0 14=.int .i64 ex)
  (e13:Rv.ev a0 13=.int .i64 tx)
  (e16:Rv.ev a0 16=.int .i64 ey)
  (e15:Rv.ev a0 15=.int .i64 ty)
  (e18:Rv.ev a0 18=.int .i64 ez)
  (e17:Rv.ev a0 17=.int .i64 tz)
  (hw:Below X0.heap.size X0 w0)
  (hQ:∀ a w,Rv.Off 31 eksl a0 a→Below X0.heap.size X0 w→(∀ j,j<31→Rv.ev a (eksl j)=(ekL5V hh ww ex tx ey ty ez tz) j)→Q .normal a w) :
  wpList Try.prog ekops Q ekops.toList a0 w0:=by
 refine Rv.list (X0:=X0) 31 eksl (ekL5V hh ww ex tx ey ty ez tz) rfl (by decide) (by decide) (fun j hj=>Nat.lt_of_lt_of_le ((by decide:∀ j,j<31→eksl j<251) j hj) hs) hw ?_ hQ
 intro i a W hi hO hW hd
 have hev:∀ j,a.eval (.tmp j)=Rv.ev a j:=fun _=>rfl
 have hcn:∀ v,a.eval (.const v)=v:=fun _=>rfl
 have hfn:∀ v,a.eval (.func v)=.func (.func v) #[] #[]:=fun _=>rfl
 have hsz:∀ k,k<251→k<a.tmps.size:=fun k hk=>by rw[hO.size];omega
 have g20:Rv.ev a 20=.int .i64 hh:=(hO.same 20 (by decide)).trans e20
 have g19:Rv.ev a 19=.int .i64 ww:=(hO.same 19 (by decide)).trans e19
 have g14:Rv.ev a 14=.int .i64 ex:=(hO.same 14 (by decide)).trans e14
 have g13:Rv.ev a 13=.int .i64 tx:=(hO.same 13 (by decide)).trans e13
 have g16:Rv.ev a 16=.int .i64 ey:=(hO.same 16 (by decide)).trans e16
 have g15:Rv.ev a 15=.int .i64 ty:=(hO.same 15 (by decide)).trans e15
 have g18:Rv.ev a 18=.int .i64 ez:=(hO.same 18 (by decide)).trans e18
 have g17:Rv.ev a 17=.int .i64 tz:=(hO.same 17 (by decide)).trans e17
 have hN:i=0∨i=1∨i=2∨i=3∨i=4∨i=5∨i=6∨i=7∨i=8∨i=9∨i=10∨i=11∨i=12∨i=13∨i=14∨i=15∨i=16∨i=17∨i=18∨i=19∨i=20∨i=21∨i=22∨i=23∨i=24∨i=25∨i=26∨i=27∨i=28∨i=29∨i=30:=by omega
 rcases hN with rfl|rfl|rfl|rfl|rfl|rfl|rfl|rfl|rfl|rfl|rfl|rfl|rfl|rfl|rfl|rfl|rfl|rfl|rfl|rfl|rfl|rfl|rfl|rfl|rfl|rfl|rfl|rfl|rfl|rfl|rfl
 ·exact Rv.run (o:=ek0) rfl rfl (Rv.want_free rfl) (by unfold ek0;simp only[execOp,hev,g20];rfl) hW
 ·have d103:Rv.ev a 103=.int .i64 hh:=hd 0 (by decide)
  exact Rv.run (o:=ek1) rfl rfl (Rv.want_free rfl) (by unfold ek1;simp only[execOp,hev,hcn,d103];go_simp<;>rfl) hW
 ·exact Rv.run (o:=ek2) rfl rfl (Rv.want_free rfl) (by unfold ek2;simp only[execOp,hev,g14];rfl) hW
 ·have d105:Rv.ev a 105=.int .i64 ex:=hd 2 (by decide)
  exact Rv.run (o:=ek3) rfl rfl (Rv.want_free rfl) (by unfold ek3;simp only[execOp,hev,hcn,d105];go_simp<;>rfl) hW
 ·have d106:Rv.ev a 106=.bool true:=hd 3 (by decide)
  exact Rv.run (o:=ek4) rfl rfl (Rv.want_free rfl) (by unfold ek4;simp only[execOp,hev,d106];rfl) hW
 ·have dg:Rv.ev a 107=.bool true:=hd 4 (by decide)
  exact Rv.run (o:=ek5) rfl rfl (by rw[Rv.want_if (o':=ek4) rfl rfl rfl (hsz 107 (by decide)) dg];first|rfl|simp) (by unfold ek5;simp only[execOp,hev,g13];rfl) hW
 ·have d108:Rv.ev a 108=.int .i64 tx:=hd 5 (by decide)
  have dg:Rv.ev a 107=.bool true:=hd 4 (by decide)
  exact Rv.run (o:=ek6) rfl rfl (by rw[Rv.want_if (o':=ek4) rfl rfl rfl (hsz 107 (by decide)) dg];first|rfl|simp) (by unfold ek6;simp only[execOp,hev,hcn,d108];go_simp<;>rfl) hW
 ·have d107:Rv.ev a 107=.bool true:=hd 4 (by decide)
  have d109:Rv.ev a 109=.bool true:=hd 6 (by decide)
  exact Rv.run (o:=ek7) rfl rfl (Rv.want_free rfl) (by unfold ek7;simp only[execOp,hev,hcn,d107,d109];go_simp<;>rfl) hW
 ·have d110:Rv.ev a 110=.bool true:=hd 7 (by decide)
  exact Rv.run (o:=ek8) rfl rfl (Rv.want_free rfl) (by unfold ek8;simp only[execOp,hev,d110];rfl) hW
 ·have dg:Rv.ev a 111=.bool true:=hd 8 (by decide)
  exact Rv.run (o:=ek9) rfl rfl (by rw[Rv.want_if (o':=ek8) rfl rfl rfl (hsz 111 (by decide)) dg];first|rfl|simp) (by unfold ek9;simp only[execOp,hev,g16];rfl) hW
 ·have d112:Rv.ev a 112=.int .i64 ey:=hd 9 (by decide)
  have dg:Rv.ev a 111=.bool true:=hd 8 (by decide)
  exact Rv.run (o:=ek10) rfl rfl (by rw[Rv.want_if (o':=ek8) rfl rfl rfl (hsz 111 (by decide)) dg];first|rfl|simp) (by unfold ek10;simp only[execOp,hev,hcn,d112];go_simp<;>rfl) hW
 ·have d111:Rv.ev a 111=.bool true:=hd 8 (by decide)
  have d113:Rv.ev a 113=.bool true:=hd 10 (by decide)
  exact Rv.run (o:=ek11) rfl rfl (Rv.want_free rfl) (by unfold ek11;simp only[execOp,hev,hcn,d111,d113];go_simp<;>rfl) hW
 ·have d114:Rv.ev a 114=.bool true:=hd 11 (by decide)
  exact Rv.run (o:=ek12) rfl rfl (Rv.want_free rfl) (by unfold ek12;simp only[execOp,hev,d114];rfl) hW
 ·have dg:Rv.ev a 115=.bool true:=hd 12 (by decide)
  exact Rv.run (o:=ek13) rfl rfl (by rw[Rv.want_if (o':=ek12) rfl rfl rfl (hsz 115 (by decide)) dg];first|rfl|simp) (by unfold ek13;simp only[execOp,hev,g18];rfl) hW
 ·have d116:Rv.ev a 116=.int .i64 ez:=hd 13 (by decide)
  have dg:Rv.ev a 115=.bool true:=hd 12 (by decide)
  exact Rv.run (o:=ek14) rfl rfl (by rw[Rv.want_if (o':=ek12) rfl rfl rfl (hsz 115 (by decide)) dg];first|rfl|simp) (by unfold ek14;simp only[execOp,hev,hcn,d116];go_simp<;>rfl) hW
 ·have d115:Rv.ev a 115=.bool true:=hd 12 (by decide)
  have d117:Rv.ev a 117=.bool true:=hd 14 (by decide)
  exact Rv.run (o:=ek15) rfl rfl (Rv.want_free rfl) (by unfold ek15;simp only[execOp,hev,hcn,d115,d117];go_simp<;>rfl) hW
 ·have d118:Rv.ev a 118=.bool true:=hd 15 (by decide)
  exact Rv.run (o:=ek16) rfl rfl (Rv.want_free rfl) (by unfold ek16;simp only[execOp,hev,d118];rfl) hW
 ·have dg:Rv.ev a 119=.bool true:=hd 16 (by decide)
  exact Rv.run (o:=ek17) rfl rfl (by rw[Rv.want_if (o':=ek16) rfl rfl rfl (hsz 119 (by decide)) dg];first|rfl|simp) (by unfold ek17;simp only[execOp,hev,g15];rfl) hW
 ·have dg:Rv.ev a 119=.bool true:=hd 16 (by decide)
  exact Rv.run (o:=ek18) rfl rfl (by rw[Rv.want_if (o':=ek16) rfl rfl rfl (hsz 119 (by decide)) dg];first|rfl|simp) (by unfold ek18;simp only[execOp,hev,g17];rfl) hW
 ·have d120:Rv.ev a 120=.int .i64 ty:=hd 17 (by decide)
  have d121:Rv.ev a 121=.int .i64 tz:=hd 18 (by decide)
  have dg:Rv.ev a 119=.bool true:=hd 16 (by decide)
  exact Rv.run (o:=ek19) rfl rfl (by rw[Rv.want_if (o':=ek16) rfl rfl rfl (hsz 119 (by decide)) dg];first|rfl|simp) (by unfold ek19;simp only[execOp,hev,d120,d121];go_simp<;>rfl) hW
 ·have d119:Rv.ev a 119=.bool true:=hd 16 (by decide)
  have d122:Rv.ev a 122=.bool true:=hd 19 (by decide)
  exact Rv.run (o:=ek20) rfl rfl (Rv.want_free rfl) (by unfold ek20;simp only[execOp,hev,hcn,d119,d122];go_simp<;>rfl) hW
 ·have d104:Rv.ev a 104=.bool true:=hd 1 (by decide)
  have d123:Rv.ev a 123=.bool true:=hd 20 (by decide)
  exact Rv.run (o:=ek21) rfl rfl (Rv.want_free rfl) (by unfold ek21;simp only[execOp,hev,d104,d123];go_simp<;>rfl) hW
 ·have d124:Rv.ev a 124=.bool false:=hd 21 (by decide)
  exact Rv.run (o:=ek22) rfl rfl (Rv.want_free rfl) (by unfold ek22;simp only[execOp,hev,d124];rfl) hW
 ·have dg:Rv.ev a 125=.bool false:=hd 22 (by decide)
  exact Rv.run (o:=ek23) rfl rfl (by rw[Rv.want_if (o':=ek22) rfl rfl rfl (hsz 125 (by decide)) dg];first|rfl|simp) (by unfold ek23;simp only[execOp,hev,g20];rfl) hW
 ·have d126:Rv.ev a 126=.int .i64 hh:=hd 23 (by decide)
  have dg:Rv.ev a 125=.bool false:=hd 22 (by decide)
  exact Rv.run (o:=ek24) rfl rfl (by rw[Rv.want_if (o':=ek22) rfl rfl rfl (hsz 125 (by decide)) dg];first|rfl|simp) (by unfold ek24;simp only[execOp,hev,hcn,d126];go_simp<;>rfl) hW
 ·have d127:Rv.ev a 127=.bool true:=hd 24 (by decide)
  have dg:Rv.ev a 125=.bool false:=hd 22 (by decide)
  exact Rv.run (o:=ek25) rfl rfl (by rw[Rv.want_if (o':=ek22) rfl rfl rfl (hsz 125 (by decide)) dg];first|rfl|simp) (by unfold ek25;simp only[execOp,hev,d127];rfl) hW
 ·have dg:Rv.ev a 128=.bool true:=hd 25 (by decide)
  exact Rv.run (o:=ek26) rfl rfl (by rw[Rv.want_if (o':=ek25) rfl rfl rfl (hsz 128 (by decide)) dg];first|rfl|simp) (by unfold ek26;simp only[execOp,hev,g19];rfl) hW
 ·have dg:Rv.ev a 128=.bool true:=hd 25 (by decide)
  exact Rv.run (o:=ek27) rfl rfl (by rw[Rv.want_if (o':=ek25) rfl rfl rfl (hsz 128 (by decide)) dg];first|rfl|simp) (by unfold ek27;simp only[execOp,hev,g15];rfl) hW
 ·have d129:Rv.ev a 129=.int .i64 ww:=hd 26 (by decide)
  have d130:Rv.ev a 130=.int .i64 ty:=hd 27 (by decide)
  have dg:Rv.ev a 128=.bool true:=hd 25 (by decide)
  exact Rv.run (o:=ek28) rfl rfl (by rw[Rv.want_if (o':=ek25) rfl rfl rfl (hsz 128 (by decide)) dg];first|rfl|simp) (by unfold ek28;simp only[execOp,hev,d129,d130];go_simp<;>rfl) hW
 ·have d128:Rv.ev a 128=.bool true:=hd 25 (by decide)
  have d131:Rv.ev a 131=.bool false:=hd 28 (by decide)
  have dg:Rv.ev a 125=.bool false:=hd 22 (by decide)
  exact Rv.run (o:=ek29) rfl rfl (by rw[Rv.want_if (o':=ek22) rfl rfl rfl (hsz 125 (by decide)) dg];first|rfl|simp) (by unfold ek29;simp only[execOp,hev,hcn,d128,d131];go_simp<;>rfl) hW
 ·have d125:Rv.ev a 125=.bool false:=hd 22 (by decide)
  have d132:Rv.ev a 132=.bool false:=hd 29 (by decide)
  exact Rv.run (o:=ek30) rfl rfl (Rv.want_free rfl) (by unfold ek30;simp only[execOp,hev,hcn,d125,d132];go_simp<;>rfl) hW
end
section
variable {Q:Exit→Act→World→Prop} {X0 w0:World} {a0:Act}
theorem ekAll {hh ww ex tx ey ty ez tz:Int} (HI:(hh=0↔ex=0∧tx=2∧ey=0∧ez=0∧ty=tz)∧(hh=0→ww=ty)) (hs:251≤a0.tmps.size) (e20:Rv.ev a0 20=.int .i64 hh) (e19:Rv.ev a0 19=.int .i64 ww) (e14:Rv.ev a0 14=.int .i64 ex) (e13:Rv.ev a0 13=.int .i64 tx) (e16:Rv.ev a0 16=.int .i64 ey) (e15:Rv.ev a0 15=.int .i64 ty) (e18:Rv.ev a0 18=.int .i64 ez) (e17:Rv.ev a0 17=.int .i64 tz) (hw:Below X0.heap.size X0 w0)
  (hQ:∀ a w,Rv.Off 31 eksl a0 a→Below X0.heap.size X0 w→Rv.ev a 133=.bool false→Q .normal a w):wpList Try.prog ekops Q ekops.toList a0 w0:=by
 by_cases h0:ex=0
 ·by_cases h1:tx=2
  ·by_cases h2:ey=0
   ·by_cases h3:ez=0
    ·by_cases h4:ty=tz
     ·have hz0:hh=0:=HI.1.2 ⟨h0,h1,h2,h3,h4⟩
      have hw0:ww=ty:=HI.2 hz0
      clear HI
      exact ekL5 (by simp_all) (by simp_all) (by simp_all) (by simp_all) (by simp_all) (by simp_all) (by simp_all) hs e20 e19 e14 e13 e16 e15 e18 e17 hw fun a w hO hB hv=>hQ a w hO hB (hv 30 (by decide))
     ·have hz0:¬ hh=0:=fun h=>h4 (by have k:=HI.1.1 h;exact k.2.2.2.2)
      clear HI
      exact ekL4 (by simp_all) (by simp_all) (by simp_all) (by simp_all) (by simp_all) (by simp_all) hs e20 e19 e14 e13 e16 e15 e18 e17 hw fun a w hO hB hv=>hQ a w hO hB (hv 30 (by decide))
    ·have hz0:¬ hh=0:=fun h=>h3 (by have k:=HI.1.1 h;exact k.2.2.2.1)
     clear HI
     exact ekL3 (by simp_all) (by simp_all) (by simp_all) (by simp_all) (by simp_all) hs e20 e19 e14 e13 e16 e15 e18 e17 hw fun a w hO hB hv=>hQ a w hO hB (hv 30 (by decide))
   ·have hz0:¬ hh=0:=fun h=>h2 (by have k:=HI.1.1 h;exact k.2.2.1)
    clear HI
    exact ekL2 (by simp_all) (by simp_all) (by simp_all) (by simp_all) hs e20 e19 e14 e13 e16 e15 e18 e17 hw fun a w hO hB hv=>hQ a w hO hB (hv 30 (by decide))
  ·have hz0:¬ hh=0:=fun h=>h1 (by have k:=HI.1.1 h;exact k.2.1)
   clear HI
   exact ekL1 (by simp_all) (by simp_all) (by simp_all) hs e20 e19 e14 e13 e16 e15 e18 e17 hw fun a w hO hB hv=>hQ a w hO hB (hv 30 (by decide))
 ·have hz0:¬ hh=0:=fun h=>h0 (by have k:=HI.1.1 h;exact k.1)
  clear HI
  exact ekL0 (by simp_all) (by simp_all) hs e20 e19 e14 e13 e16 e15 e18 e17 hw fun a w hO hB hv=>hQ a w hO hB (hv 30 (by decide))
end
def el0 : Oper := { dst := some 144, op := Op.move (Operand.tmp 20), type := 29, pos := "law.go:103", after := #[], guard := none }
def el1 : Oper := { dst := some 145, op := Op.binOp BinOp.eql 29 (Operand.tmp 144) (Operand.const (Value.int IntKind.i64 0)) 29, type := 4, pos := "law.go:103", after := #[{ on := 0, ground := Ground.data }], guard := none }
def el2 : Oper := { dst := some 146, op := Op.move (Operand.tmp 14), type := 29, pos := "law.go:103", after := #[], guard := none }
def el3 : Oper := { dst := some 147, op := Op.binOp BinOp.eql 29 (Operand.tmp 146) (Operand.const (Value.int IntKind.i64 0)) 29, type := 4, pos := "law.go:103", after := #[{ on := 2, ground := Ground.data }], guard := none }
def el4 : Oper := { dst := some 148, op := Op.move (Operand.tmp 147), type := 4, pos := "law.go:103", after := #[{ on := 3, ground := Ground.data }], guard := none }
def el5 : Oper := { dst := some 149, op := Op.move (Operand.tmp 13), type := 35, pos := "law.go:103", after := #[{ on := 4, ground := Ground.guard }], guard := some (4, true) }
def el6 : Oper := { dst := some 150, op := Op.binOp BinOp.eql 35 (Operand.tmp 149) (Operand.const (Value.int IntKind.i64 1)) 35, type := 4, pos := "law.go:103", after := #[{ on := 5, ground := Ground.data }, { on := 4, ground := Ground.guard }], guard := some (4, true) }
def el7 : Oper := { dst := some 151, op := Op.pick (Operand.tmp 148) (Operand.tmp 150) (Operand.const (Value.bool false)), type := 4, pos := "law.go:103", after := #[{ on := 4, ground := Ground.data }, { on := 6, ground := Ground.data }], guard := none }
def el8 : Oper := { dst := some 152, op := Op.move (Operand.tmp 151), type := 4, pos := "law.go:103", after := #[{ on := 7, ground := Ground.data }, { on := 4, ground := Ground.chain }], guard := none }
def el9 : Oper := { dst := some 153, op := Op.move (Operand.tmp 16), type := 29, pos := "law.go:103", after := #[{ on := 8, ground := Ground.guard }], guard := some (8, true) }
def el10 : Oper := { dst := some 154, op := Op.binOp BinOp.eql 29 (Operand.tmp 153) (Operand.const (Value.int IntKind.i64 0)) 29, type := 4, pos := "law.go:103", after := #[{ on := 9, ground := Ground.data }, { on := 8, ground := Ground.guard }], guard := some (8, true) }
def el11 : Oper := { dst := some 155, op := Op.pick (Operand.tmp 152) (Operand.tmp 154) (Operand.const (Value.bool false)), type := 4, pos := "law.go:103", after := #[{ on := 8, ground := Ground.data }, { on := 10, ground := Ground.data }], guard := none }
def el12 : Oper := { dst := some 156, op := Op.move (Operand.tmp 155), type := 4, pos := "law.go:103", after := #[{ on := 11, ground := Ground.data }, { on := 8, ground := Ground.chain }], guard := none }
def el13 : Oper := { dst := some 157, op := Op.move (Operand.tmp 15), type := 35, pos := "law.go:103", after := #[{ on := 12, ground := Ground.guard }], guard := some (12, true) }
def el14 : Oper := { dst := some 158, op := Op.binOp BinOp.eql 35 (Operand.tmp 157) (Operand.const (Value.int IntKind.i64 3)) 35, type := 4, pos := "law.go:103", after := #[{ on := 13, ground := Ground.data }, { on := 12, ground := Ground.guard }], guard := some (12, true) }
def el15 : Oper := { dst := some 159, op := Op.pick (Operand.tmp 156) (Operand.tmp 158) (Operand.const (Value.bool false)), type := 4, pos := "law.go:103", after := #[{ on := 12, ground := Ground.data }, { on := 14, ground := Ground.data }], guard := none }
def el16 : Oper := { dst := some 160, op := Op.binOp BinOp.neq 4 (Operand.tmp 145) (Operand.tmp 159) 4, type := 4, pos := "law.go:103", after := #[{ on := 1, ground := Ground.data }, { on := 15, ground := Ground.data }], guard := none }
def el17 : Oper := { dst := some 161, op := Op.move (Operand.tmp 160), type := 4, pos := "law.go:103", after := #[{ on := 16, ground := Ground.data }, { on := 12, ground := Ground.chain }], guard := none }
def el18 : Oper := { dst := some 162, op := Op.move (Operand.tmp 20), type := 29, pos := "law.go:103", after := #[{ on := 17, ground := Ground.guard }], guard := some (17, false) }
def el19 : Oper := { dst := some 163, op := Op.binOp BinOp.eql 29 (Operand.tmp 162) (Operand.const (Value.int IntKind.i64 0)) 29, type := 4, pos := "law.go:103", after := #[{ on := 18, ground := Ground.data }, { on := 17, ground := Ground.guard }], guard := some (17, false) }
def el20 : Oper := { dst := some 164, op := Op.move (Operand.tmp 163), type := 4, pos := "law.go:103", after := #[{ on := 19, ground := Ground.data }, { on := 17, ground := Ground.chain }, { on := 17, ground := Ground.guard }], guard := some (17, false) }
def el21 : Oper := { dst := some 165, op := Op.move (Operand.tmp 19), type := 35, pos := "law.go:103", after := #[{ on := 20, ground := Ground.guard }], guard := some (20, true) }
def el22 : Oper := { dst := some 166, op := Op.binOp BinOp.neq 35 (Operand.tmp 165) (Operand.const (Value.int IntKind.i64 3)) 35, type := 4, pos := "law.go:103", after := #[{ on := 21, ground := Ground.data }, { on := 20, ground := Ground.guard }], guard := some (20, true) }
def el23 : Oper := { dst := some 167, op := Op.pick (Operand.tmp 164) (Operand.tmp 166) (Operand.const (Value.bool false)), type := 4, pos := "law.go:103", after := #[{ on := 20, ground := Ground.data }, { on := 22, ground := Ground.data }, { on := 17, ground := Ground.guard }], guard := some (17, false) }
def el24 : Oper := { dst := some 168, op := Op.pick (Operand.tmp 161) (Operand.const (Value.bool true)) (Operand.tmp 167), type := 4, pos := "law.go:103", after := #[{ on := 17, ground := Ground.data }, { on := 23, ground := Ground.data }], guard := none }
def elops:Array Oper:=#[el0,el1,el2,el3,el4,el5,el6,el7,el8,el9,el10,el11,el12,el13,el14,el15,el16,el17,el18,el19,el20,el21,el22,el23,el24]
def elsl (k:Nat):Nat:=144+k
def elL0V (hh ex:Int):Nat→Value
 |0=>.int .i64 hh
 |1=>.bool false
 |2=>.int .i64 ex
 |3=>.bool false
 |4=>.bool false
 |5=>undef
 |6=>undef
 |7=>.bool false
 |8=>.bool false
 |9=>undef
 |10=>undef
 |11=>.bool false
 |12=>.bool false
 |13=>undef
 |14=>undef
 |15=>.bool false
 |16=>.bool false
 |17=>.bool false
 |18=>.int .i64 hh
 |19=>.bool false
 |20=>.bool false
 |21=>undef
 |22=>undef
 |23=>.bool false
 |_=>.bool false
section
variable {Q:Exit→Act→World→Prop} {X0 w0:World} {a0:Act}
set_option maxHeartbeats 4000000 in
theorem elL0 {hh ww ex tx ey ty:Int} (g0:(ex==0)=false) (g1:(hh==0)=false) (hs:251≤a0.tmps.size)
  (e20:Rv.ev a0 20=.int .i64 hh)
  (e19:Rv.ev a0 19=.int .i64 ww)
  (e14:Rv.ev a0 14=.int .i64 ex)
  (e13:Rv.ev a0 13=.int .i64 tx)
  (e16:Rv.ev a0 16=.int .i64 ey)
  (e15:Rv.ev a0 15=.int .i64 ty)
  (hw:Below X0.heap.size X0 w0)
  (hQ:∀ a w,Rv.Off 25 elsl a0 a→Below X0.heap.size X0 w→(∀ j,j<25→Rv.ev a (elsl j)=(elL0V hh ex) j)→Q .normal a w) :
  wpList Try.prog elops Q elops.toList a0 w0:=by
 refine Rv.list (X0:=X0) 25 elsl (elL0V hh ex) rfl (by decide) (by decide) (fun j hj=>Nat.lt_of_lt_of_le ((by decide:∀ j,j<25→elsl j<251) j hj) hs) hw ?_ hQ
 intro i a W hi hO hW hd
 have hev:∀ j,a.eval (.tmp j)=Rv.ev a j:=fun _=>rfl
 have hcn:∀ v,a.eval (.const v)=v:=fun _=>rfl
 have hfn:∀ v,a.eval (.func v)=.func (.func v) #[] #[]:=fun _=>rfl
 have hsz:∀ k,k<251→k<a.tmps.size:=fun k hk=>by rw[hO.size];omega
 have g20:Rv.ev a 20=.int .i64 hh:=(hO.same 20 (by decide)).trans e20
 have g19:Rv.ev a 19=.int .i64 ww:=(hO.same 19 (by decide)).trans e19
 have g14:Rv.ev a 14=.int .i64 ex:=(hO.same 14 (by decide)).trans e14
 have g13:Rv.ev a 13=.int .i64 tx:=(hO.same 13 (by decide)).trans e13
 have g16:Rv.ev a 16=.int .i64 ey:=(hO.same 16 (by decide)).trans e16
 have g15:Rv.ev a 15=.int .i64 ty:=(hO.same 15 (by decide)).trans e15
 have hN:i=0∨i=1∨i=2∨i=3∨i=4∨i=5∨i=6∨i=7∨i=8∨i=9∨i=10∨i=11∨i=12∨i=13∨i=14∨i=15∨i=16∨i=17∨i=18∨i=19∨i=20∨i=21∨i=22∨i=23∨i=24:=by omega
 rcases hN with rfl|rfl|rfl|rfl|rfl|rfl|rfl|rfl|rfl|rfl|rfl|rfl|rfl|rfl|rfl|rfl|rfl|rfl|rfl|rfl|rfl|rfl|rfl|rfl|rfl
 ·exact Rv.run (o:=el0) rfl rfl (Rv.want_free rfl) (by unfold el0;simp only[execOp,hev,g20];rfl) hW
 ·have d144:Rv.ev a 144=.int .i64 hh:=hd 0 (by decide)
  exact Rv.run (o:=el1) rfl rfl (Rv.want_free rfl) (by unfold el1;simp only[execOp,hev,hcn,d144];go_simp<;>rfl) hW
 ·exact Rv.run (o:=el2) rfl rfl (Rv.want_free rfl) (by unfold el2;simp only[execOp,hev,g14];rfl) hW
 ·have d146:Rv.ev a 146=.int .i64 ex:=hd 2 (by decide)
  exact Rv.run (o:=el3) rfl rfl (Rv.want_free rfl) (by unfold el3;simp only[execOp,hev,hcn,d146];go_simp<;>rfl) hW
 ·have d147:Rv.ev a 147=.bool false:=hd 3 (by decide)
  exact Rv.run (o:=el4) rfl rfl (Rv.want_free rfl) (by unfold el4;simp only[execOp,hev,d147];rfl) hW
 ·have dg:Rv.ev a 148=.bool false:=hd 4 (by decide)
  exact Rv.skip (o:=el5) rfl rfl (by rw[Rv.want_if (o':=el4) rfl rfl rfl (hsz 148 (by decide)) dg];first|rfl|simp) hW
 ·have d149:Rv.ev a 149=undef:=hd 5 (by decide)
  have dg:Rv.ev a 148=.bool false:=hd 4 (by decide)
  exact Rv.skip (o:=el6) rfl rfl (by rw[Rv.want_if (o':=el4) rfl rfl rfl (hsz 148 (by decide)) dg];first|rfl|simp) hW
 ·have d148:Rv.ev a 148=.bool false:=hd 4 (by decide)
  have d150:Rv.ev a 150=undef:=hd 6 (by decide)
  exact Rv.run (o:=el7) rfl rfl (Rv.want_free rfl) (by unfold el7;simp only[execOp,hev,hcn,d148,d150];go_simp<;>rfl) hW
 ·have d151:Rv.ev a 151=.bool false:=hd 7 (by decide)
  exact Rv.run (o:=el8) rfl rfl (Rv.want_free rfl) (by unfold el8;simp only[execOp,hev,d151];rfl) hW
 ·have dg:Rv.ev a 152=.bool false:=hd 8 (by decide)
  exact Rv.skip (o:=el9) rfl rfl (by rw[Rv.want_if (o':=el8) rfl rfl rfl (hsz 152 (by decide)) dg];first|rfl|simp) hW
 ·have d153:Rv.ev a 153=undef:=hd 9 (by decide)
  have dg:Rv.ev a 152=.bool false:=hd 8 (by decide)
  exact Rv.skip (o:=el10) rfl rfl (by rw[Rv.want_if (o':=el8) rfl rfl rfl (hsz 152 (by decide)) dg];first|rfl|simp) hW
 ·have d152:Rv.ev a 152=.bool false:=hd 8 (by decide)
  have d154:Rv.ev a 154=undef:=hd 10 (by decide)
  exact Rv.run (o:=el11) rfl rfl (Rv.want_free rfl) (by unfold el11;simp only[execOp,hev,hcn,d152,d154];go_simp<;>rfl) hW
 ·have d155:Rv.ev a 155=.bool false:=hd 11 (by decide)
  exact Rv.run (o:=el12) rfl rfl (Rv.want_free rfl) (by unfold el12;simp only[execOp,hev,d155];rfl) hW
 ·have dg:Rv.ev a 156=.bool false:=hd 12 (by decide)
  exact Rv.skip (o:=el13) rfl rfl (by rw[Rv.want_if (o':=el12) rfl rfl rfl (hsz 156 (by decide)) dg];first|rfl|simp) hW
 ·have d157:Rv.ev a 157=undef:=hd 13 (by decide)
  have dg:Rv.ev a 156=.bool false:=hd 12 (by decide)
  exact Rv.skip (o:=el14) rfl rfl (by rw[Rv.want_if (o':=el12) rfl rfl rfl (hsz 156 (by decide)) dg];first|rfl|simp) hW
 ·have d156:Rv.ev a 156=.bool false:=hd 12 (by decide)
  have d158:Rv.ev a 158=undef:=hd 14 (by decide)
  exact Rv.run (o:=el15) rfl rfl (Rv.want_free rfl) (by unfold el15;simp only[execOp,hev,hcn,d156,d158];go_simp<;>rfl) hW
 ·have d145:Rv.ev a 145=.bool false:=hd 1 (by decide)
  have d159:Rv.ev a 159=.bool false:=hd 15 (by decide)
  exact Rv.run (o:=el16) rfl rfl (Rv.want_free rfl) (by unfold el16;simp only[execOp,hev,d145,d159];go_simp<;>rfl) hW
 ·have d160:Rv.ev a 160=.bool false:=hd 16 (by decide)
  exact Rv.run (o:=el17) rfl rfl (Rv.want_free rfl) (by unfold el17;simp only[execOp,hev,d160];rfl) hW
 ·have dg:Rv.ev a 161=.bool false:=hd 17 (by decide)
  exact Rv.run (o:=el18) rfl rfl (by rw[Rv.want_if (o':=el17) rfl rfl rfl (hsz 161 (by decide)) dg];first|rfl|simp) (by unfold el18;simp only[execOp,hev,g20];rfl) hW
 ·have d162:Rv.ev a 162=.int .i64 hh:=hd 18 (by decide)
  have dg:Rv.ev a 161=.bool false:=hd 17 (by decide)
  exact Rv.run (o:=el19) rfl rfl (by rw[Rv.want_if (o':=el17) rfl rfl rfl (hsz 161 (by decide)) dg];first|rfl|simp) (by unfold el19;simp only[execOp,hev,hcn,d162];go_simp<;>rfl) hW
 ·have d163:Rv.ev a 163=.bool false:=hd 19 (by decide)
  have dg:Rv.ev a 161=.bool false:=hd 17 (by decide)
  exact Rv.run (o:=el20) rfl rfl (by rw[Rv.want_if (o':=el17) rfl rfl rfl (hsz 161 (by decide)) dg];first|rfl|simp) (by unfold el20;simp only[execOp,hev,d163];rfl) hW
 ·have dg:Rv.ev a 164=.bool false:=hd 20 (by decide)
  exact Rv.skip (o:=el21) rfl rfl (by rw[Rv.want_if (o':=el20) rfl rfl rfl (hsz 164 (by decide)) dg];first|rfl|simp) hW
 ·have d165:Rv.ev a 165=undef:=hd 21 (by decide)
  have dg:Rv.ev a 164=.bool false:=hd 20 (by decide)
  exact Rv.skip (o:=el22) rfl rfl (by rw[Rv.want_if (o':=el20) rfl rfl rfl (hsz 164 (by decide)) dg];first|rfl|simp) hW
 ·have d164:Rv.ev a 164=.bool false:=hd 20 (by decide)
  have d166:Rv.ev a 166=undef:=hd 22 (by decide)
  have dg:Rv.ev a 161=.bool false:=hd 17 (by decide)
  exact Rv.run (o:=el23) rfl rfl (by rw[Rv.want_if (o':=el17) rfl rfl rfl (hsz 161 (by decide)) dg];first|rfl|simp) (by unfold el23;simp only[execOp,hev,hcn,d164,d166];go_simp<;>rfl) hW
 ·have d161:Rv.ev a 161=.bool false:=hd 17 (by decide)
  have d167:Rv.ev a 167=.bool false:=hd 23 (by decide)
  exact Rv.run (o:=el24) rfl rfl (Rv.want_free rfl) (by unfold el24;simp only[execOp,hev,hcn,d161,d167];go_simp<;>rfl) hW
end
def elL1V (hh ex tx:Int):Nat→Value
 |0=>.int .i64 hh
 |1=>.bool false
 |2=>.int .i64 ex
 |3=>.bool true
 |4=>.bool true
 |5=>.int .i64 tx
 |6=>.bool false
 |7=>.bool false
 |8=>.bool false
 |9=>undef
 |10=>undef
 |11=>.bool false
 |12=>.bool false
 |13=>undef
 |14=>undef
 |15=>.bool false
 |16=>.bool false
 |17=>.bool false
 |18=>.int .i64 hh
 |19=>.bool false
 |20=>.bool false
 |21=>undef
 |22=>undef
 |23=>.bool false
 |_=>.bool false
section
variable {Q:Exit→Act→World→Prop} {X0 w0:World} {a0:Act}
set_option maxHeartbeats 4000000 in
theorem elL1 {hh ww ex tx ey ty:Int} (g0:(ex==0)=true) (g1:(hh==0)=false) (g2:(tx==1)=false) (hs:251≤a0.tmps.size)
  (e20:Rv.ev a0 20=.int .i64 hh)
  (e19:Rv.ev a0 19=.int .i64 ww)
  (e14:Rv.ev a0 14=.int .i64 ex)
  (e13:Rv.ev a0 13=.int .i64 tx)
  (e16:Rv.ev a0 16=.int .i64 ey)
  (e15:Rv.ev a0 15=.int .i64 ty)
  (hw:Below X0.heap.size X0 w0)
  (hQ:∀ a w,Rv.Off 25 elsl a0 a→Below X0.heap.size X0 w→(∀ j,j<25→Rv.ev a (elsl j)=(elL1V hh ex tx) j)→Q .normal a w) :
  wpList Try.prog elops Q elops.toList a0 w0:=by
 refine Rv.list (X0:=X0) 25 elsl (elL1V hh ex tx) rfl (by decide) (by decide) (fun j hj=>Nat.lt_of_lt_of_le ((by decide:∀ j,j<25→elsl j<251) j hj) hs) hw ?_ hQ
 intro i a W hi hO hW hd
 have hev:∀ j,a.eval (.tmp j)=Rv.ev a j:=fun _=>rfl
 have hcn:∀ v,a.eval (.const v)=v:=fun _=>rfl
 have hfn:∀ v,a.eval (.func v)=.func (.func v) #[] #[]:=fun _=>rfl
 have hsz:∀ k,k<251→k<a.tmps.size:=fun k hk=>by rw[hO.size];omega
 have g20:Rv.ev a 20=.int .i64 hh:=(hO.same 20 (by decide)).trans e20
 have g19:Rv.ev a 19=.int .i64 ww:=(hO.same 19 (by decide)).trans e19
 have g14:Rv.ev a 14=.int .i64 ex:=(hO.same 14 (by decide)).trans e14
 have g13:Rv.ev a 13=.int .i64 tx:=(hO.same 13 (by decide)).trans e13
 have g16:Rv.ev a 16=.int .i64 ey:=(hO.same 16 (by decide)).trans e16
 have g15:Rv.ev a 15=.int .i64 ty:=(hO.same 15 (by decide)).trans e15
 have hN:i=0∨i=1∨i=2∨i=3∨i=4∨i=5∨i=6∨i=7∨i=8∨i=9∨i=10∨i=11∨i=12∨i=13∨i=14∨i=15∨i=16∨i=17∨i=18∨i=19∨i=20∨i=21∨i=22∨i=23∨i=24:=by omega
 rcases hN with rfl|rfl|rfl|rfl|rfl|rfl|rfl|rfl|rfl|rfl|rfl|rfl|rfl|rfl|rfl|rfl|rfl|rfl|rfl|rfl|rfl|rfl|rfl|rfl|rfl
 ·exact Rv.run (o:=el0) rfl rfl (Rv.want_free rfl) (by unfold el0;simp only[execOp,hev,g20];rfl) hW
 ·have d144:Rv.ev a 144=.int .i64 hh:=hd 0 (by decide)
  exact Rv.run (o:=el1) rfl rfl (Rv.want_free rfl) (by unfold el1;simp only[execOp,hev,hcn,d144];go_simp<;>rfl) hW
 ·exact Rv.run (o:=el2) rfl rfl (Rv.want_free rfl) (by unfold el2;simp only[execOp,hev,g14];rfl) hW
 ·have d146:Rv.ev a 146=.int .i64 ex:=hd 2 (by decide)
  exact Rv.run (o:=el3) rfl rfl (Rv.want_free rfl) (by unfold el3;simp only[execOp,hev,hcn,d146];go_simp<;>rfl) hW
 ·have d147:Rv.ev a 147=.bool true:=hd 3 (by decide)
  exact Rv.run (o:=el4) rfl rfl (Rv.want_free rfl) (by unfold el4;simp only[execOp,hev,d147];rfl) hW
 ·have dg:Rv.ev a 148=.bool true:=hd 4 (by decide)
  exact Rv.run (o:=el5) rfl rfl (by rw[Rv.want_if (o':=el4) rfl rfl rfl (hsz 148 (by decide)) dg];first|rfl|simp) (by unfold el5;simp only[execOp,hev,g13];rfl) hW
 ·have d149:Rv.ev a 149=.int .i64 tx:=hd 5 (by decide)
  have dg:Rv.ev a 148=.bool true:=hd 4 (by decide)
  exact Rv.run (o:=el6) rfl rfl (by rw[Rv.want_if (o':=el4) rfl rfl rfl (hsz 148 (by decide)) dg];first|rfl|simp) (by unfold el6;simp only[execOp,hev,hcn,d149];go_simp<;>rfl) hW
 ·have d148:Rv.ev a 148=.bool true:=hd 4 (by decide)
  have d150:Rv.ev a 150=.bool false:=hd 6 (by decide)
  exact Rv.run (o:=el7) rfl rfl (Rv.want_free rfl) (by unfold el7;simp only[execOp,hev,hcn,d148,d150];go_simp<;>rfl) hW
 ·have d151:Rv.ev a 151=.bool false:=hd 7 (by decide)
  exact Rv.run (o:=el8) rfl rfl (Rv.want_free rfl) (by unfold el8;simp only[execOp,hev,d151];rfl) hW
 ·have dg:Rv.ev a 152=.bool false:=hd 8 (by decide)
  exact Rv.skip (o:=el9) rfl rfl (by rw[Rv.want_if (o':=el8) rfl rfl rfl (hsz 152 (by decide)) dg];first|rfl|simp) hW
 ·have d153:Rv.ev a 153=undef:=hd 9 (by decide)
  have dg:Rv.ev a 152=.bool false:=hd 8 (by decide)
  exact Rv.skip (o:=el10) rfl rfl (by rw[Rv.want_if (o':=el8) rfl rfl rfl (hsz 152 (by decide)) dg];first|rfl|simp) hW
 ·have d152:Rv.ev a 152=.bool false:=hd 8 (by decide)
  have d154:Rv.ev a 154=undef:=hd 10 (by decide)
  exact Rv.run (o:=el11) rfl rfl (Rv.want_free rfl) (by unfold el11;simp only[execOp,hev,hcn,d152,d154];go_simp<;>rfl) hW
 ·have d155:Rv.ev a 155=.bool false:=hd 11 (by decide)
  exact Rv.run (o:=el12) rfl rfl (Rv.want_free rfl) (by unfold el12;simp only[execOp,hev,d155];rfl) hW
 ·have dg:Rv.ev a 156=.bool false:=hd 12 (by decide)
  exact Rv.skip (o:=el13) rfl rfl (by rw[Rv.want_if (o':=el12) rfl rfl rfl (hsz 156 (by decide)) dg];first|rfl|simp) hW
 ·have d157:Rv.ev a 157=undef:=hd 13 (by decide)
  have dg:Rv.ev a 156=.bool false:=hd 12 (by decide)
  exact Rv.skip (o:=el14) rfl rfl (by rw[Rv.want_if (o':=el12) rfl rfl rfl (hsz 156 (by decide)) dg];first|rfl|simp) hW
 ·have d156:Rv.ev a 156=.bool false:=hd 12 (by decide)
  have d158:Rv.ev a 158=undef:=hd 14 (by decide)
  exact Rv.run (o:=el15) rfl rfl (Rv.want_free rfl) (by unfold el15;simp only[execOp,hev,hcn,d156,d158];go_simp<;>rfl) hW
 ·have d145:Rv.ev a 145=.bool false:=hd 1 (by decide)
  have d159:Rv.ev a 159=.bool false:=hd 15 (by decide)
  exact Rv.run (o:=el16) rfl rfl (Rv.want_free rfl) (by unfold el16;simp only[execOp,hev,d145,d159];go_simp<;>rfl) hW
 ·have d160:Rv.ev a 160=.bool false:=hd 16 (by decide)
  exact Rv.run (o:=el17) rfl rfl (Rv.want_free rfl) (by unfold el17;simp only[execOp,hev,d160];rfl) hW
 ·have dg:Rv.ev a 161=.bool false:=hd 17 (by decide)
  exact Rv.run (o:=el18) rfl rfl (by rw[Rv.want_if (o':=el17) rfl rfl rfl (hsz 161 (by decide)) dg];first|rfl|simp) (by unfold el18;simp only[execOp,hev,g20];rfl) hW
 ·have d162:Rv.ev a 162=.int .i64 hh:=hd 18 (by decide)
  have dg:Rv.ev a 161=.bool false:=hd 17 (by decide)
  exact Rv.run (o:=el19) rfl rfl (by rw[Rv.want_if (o':=el17) rfl rfl rfl (hsz 161 (by decide)) dg];first|rfl|simp) (by unfold el19;simp only[execOp,hev,hcn,d162];go_simp<;>rfl) hW
 ·have d163:Rv.ev a 163=.bool false:=hd 19 (by decide)
  have dg:Rv.ev a 161=.bool false:=hd 17 (by decide)
  exact Rv.run (o:=el20) rfl rfl (by rw[Rv.want_if (o':=el17) rfl rfl rfl (hsz 161 (by decide)) dg];first|rfl|simp) (by unfold el20;simp only[execOp,hev,d163];rfl) hW
 ·have dg:Rv.ev a 164=.bool false:=hd 20 (by decide)
  exact Rv.skip (o:=el21) rfl rfl (by rw[Rv.want_if (o':=el20) rfl rfl rfl (hsz 164 (by decide)) dg];first|rfl|simp) hW
 ·have d165:Rv.ev a 165=undef:=hd 21 (by decide)
  have dg:Rv.ev a 164=.bool false:=hd 20 (by decide)
  exact Rv.skip (o:=el22) rfl rfl (by rw[Rv.want_if (o':=el20) rfl rfl rfl (hsz 164 (by decide)) dg];first|rfl|simp) hW
 ·have d164:Rv.ev a 164=.bool false:=hd 20 (by decide)
  have d166:Rv.ev a 166=undef:=hd 22 (by decide)
  have dg:Rv.ev a 161=.bool false:=hd 17 (by decide)
  exact Rv.run (o:=el23) rfl rfl (by rw[Rv.want_if (o':=el17) rfl rfl rfl (hsz 161 (by decide)) dg];first|rfl|simp) (by unfold el23;simp only[execOp,hev,hcn,d164,d166];go_simp<;>rfl) hW
 ·have d161:Rv.ev a 161=.bool false:=hd 17 (by decide)
  have d167:Rv.ev a 167=.bool false:=hd 23 (by decide)
  exact Rv.run (o:=el24) rfl rfl (Rv.want_free rfl) (by unfold el24;simp only[execOp,hev,hcn,d161,d167];go_simp<;>rfl) hW
end
def elL2V (hh ex tx ey:Int):Nat→Value
 |0=>.int .i64 hh
 |1=>.bool false
 |2=>.int .i64 ex
 |3=>.bool true
 |4=>.bool true
 |5=>.int .i64 tx
 |6=>.bool true
 |7=>.bool true
 |8=>.bool true
 |9=>.int .i64 ey
 |10=>.bool false
 |11=>.bool false
 |12=>.bool false
 |13=>undef
 |14=>undef
 |15=>.bool false
 |16=>.bool false
 |17=>.bool false
 |18=>.int .i64 hh
 |19=>.bool false
 |20=>.bool false
 |21=>undef
 |22=>undef
 |23=>.bool false
 |_=>.bool false
section
variable {Q:Exit→Act→World→Prop} {X0 w0:World} {a0:Act}
set_option maxHeartbeats 4000000 in
theorem elL2 {hh ww ex tx ey ty:Int} (g0:(ex==0)=true) (g1:(ey==0)=false) (g2:(hh==0)=false) (g3:(tx==1)=true) (hs:251≤a0.tmps.size)
  (e20:Rv.ev a0 20=.int .i64 hh)
  (e19:Rv.ev a0 19=.int .i64 ww)
  (e14:Rv.ev a0 14=.int .i64 ex)
  (e13:Rv.ev a0 13=.int .i64 tx)
  (e16:Rv.ev a0 16=.int .i64 ey)
  (e15:Rv.ev a0 15=.int .i64 ty)
  (hw:Below X0.heap.size X0 w0)
  (hQ:∀ a w,Rv.Off 25 elsl a0 a→Below X0.heap.size X0 w→(∀ j,j<25→Rv.ev a (elsl j)=(elL2V hh ex tx ey) j)→Q .normal a w) :
  wpList Try.prog elops Q elops.toList a0 w0:=by
 refine Rv.list (X0:=X0) 25 elsl (elL2V hh ex tx ey) rfl (by decide) (by decide) (fun j hj=>Nat.lt_of_lt_of_le ((by decide:∀ j,j<25→elsl j<251) j hj) hs) hw ?_ hQ
 intro i a W hi hO hW hd
 have hev:∀ j,a.eval (.tmp j)=Rv.ev a j:=fun _=>rfl
 have hcn:∀ v,a.eval (.const v)=v:=fun _=>rfl
 have hfn:∀ v,a.eval (.func v)=.func (.func v) #[] #[]:=fun _=>rfl
 have hsz:∀ k,k<251→k<a.tmps.size:=fun k hk=>by rw[hO.size];omega
 have g20:Rv.ev a 20=.int .i64 hh:=(hO.same 20 (by decide)).trans e20
 have g19:Rv.ev a 19=.int .i64 ww:=(hO.same 19 (by decide)).trans e19
 have g14:Rv.ev a 14=.int .i64 ex:=(hO.same 14 (by decide)).trans e14
 have g13:Rv.ev a 13=.int .i64 tx:=(hO.same 13 (by decide)).trans e13
 have g16:Rv.ev a 16=.int .i64 ey:=(hO.same 16 (by decide)).trans e16
 have g15:Rv.ev a 15=.int .i64 ty:=(hO.same 15 (by decide)).trans e15
 have hN:i=0∨i=1∨i=2∨i=3∨i=4∨i=5∨i=6∨i=7∨i=8∨i=9∨i=10∨i=11∨i=12∨i=13∨i=14∨i=15∨i=16∨i=17∨i=18∨i=19∨i=20∨i=21∨i=22∨i=23∨i=24:=by omega
 rcases hN with rfl|rfl|rfl|rfl|rfl|rfl|rfl|rfl|rfl|rfl|rfl|rfl|rfl|rfl|rfl|rfl|rfl|rfl|rfl|rfl|rfl|rfl|rfl|rfl|rfl
 ·exact Rv.run (o:=el0) rfl rfl (Rv.want_free rfl) (by unfold el0;simp only[execOp,hev,g20];rfl) hW
 ·have d144:Rv.ev a 144=.int .i64 hh:=hd 0 (by decide)
  exact Rv.run (o:=el1) rfl rfl (Rv.want_free rfl) (by unfold el1;simp only[execOp,hev,hcn,d144];go_simp<;>rfl) hW
 ·exact Rv.run (o:=el2) rfl rfl (Rv.want_free rfl) (by unfold el2;simp only[execOp,hev,g14];rfl) hW
 ·have d146:Rv.ev a 146=.int .i64 ex:=hd 2 (by decide)
  exact Rv.run (o:=el3) rfl rfl (Rv.want_free rfl) (by unfold el3;simp only[execOp,hev,hcn,d146];go_simp<;>rfl) hW
 ·have d147:Rv.ev a 147=.bool true:=hd 3 (by decide)
  exact Rv.run (o:=el4) rfl rfl (Rv.want_free rfl) (by unfold el4;simp only[execOp,hev,d147];rfl) hW
 ·have dg:Rv.ev a 148=.bool true:=hd 4 (by decide)
  exact Rv.run (o:=el5) rfl rfl (by rw[Rv.want_if (o':=el4) rfl rfl rfl (hsz 148 (by decide)) dg];first|rfl|simp) (by unfold el5;simp only[execOp,hev,g13];rfl) hW
 ·have d149:Rv.ev a 149=.int .i64 tx:=hd 5 (by decide)
  have dg:Rv.ev a 148=.bool true:=hd 4 (by decide)
  exact Rv.run (o:=el6) rfl rfl (by rw[Rv.want_if (o':=el4) rfl rfl rfl (hsz 148 (by decide)) dg];first|rfl|simp) (by unfold el6;simp only[execOp,hev,hcn,d149];go_simp<;>rfl) hW
 ·have d148:Rv.ev a 148=.bool true:=hd 4 (by decide)
  have d150:Rv.ev a 150=.bool true:=hd 6 (by decide)
  exact Rv.run (o:=el7) rfl rfl (Rv.want_free rfl) (by unfold el7;simp only[execOp,hev,hcn,d148,d150];go_simp<;>rfl) hW
 ·have d151:Rv.ev a 151=.bool true:=hd 7 (by decide)
  exact Rv.run (o:=el8) rfl rfl (Rv.want_free rfl) (by unfold el8;simp only[execOp,hev,d151];rfl) hW
 ·have dg:Rv.ev a 152=.bool true:=hd 8 (by decide)
  exact Rv.run (o:=el9) rfl rfl (by rw[Rv.want_if (o':=el8) rfl rfl rfl (hsz 152 (by decide)) dg];first|rfl|simp) (by unfold el9;simp only[execOp,hev,g16];rfl) hW
 ·have d153:Rv.ev a 153=.int .i64 ey:=hd 9 (by decide)
  have dg:Rv.ev a 152=.bool true:=hd 8 (by decide)
  exact Rv.run (o:=el10) rfl rfl (by rw[Rv.want_if (o':=el8) rfl rfl rfl (hsz 152 (by decide)) dg];first|rfl|simp) (by unfold el10;simp only[execOp,hev,hcn,d153];go_simp<;>rfl) hW
 ·have d152:Rv.ev a 152=.bool true:=hd 8 (by decide)
  have d154:Rv.ev a 154=.bool false:=hd 10 (by decide)
  exact Rv.run (o:=el11) rfl rfl (Rv.want_free rfl) (by unfold el11;simp only[execOp,hev,hcn,d152,d154];go_simp<;>rfl) hW
 ·have d155:Rv.ev a 155=.bool false:=hd 11 (by decide)
  exact Rv.run (o:=el12) rfl rfl (Rv.want_free rfl) (by unfold el12;simp only[execOp,hev,d155];rfl) hW
 ·have dg:Rv.ev a 156=.bool false:=hd 12 (by decide)
  exact Rv.skip (o:=el13) rfl rfl (by rw[Rv.want_if (o':=el12) rfl rfl rfl (hsz 156 (by decide)) dg];first|rfl|simp) hW
 ·have d157:Rv.ev a 157=undef:=hd 13 (by decide)
  have dg:Rv.ev a 156=.bool false:=hd 12 (by decide)
  exact Rv.skip (o:=el14) rfl rfl (by rw[Rv.want_if (o':=el12) rfl rfl rfl (hsz 156 (by decide)) dg];first|rfl|simp) hW
 ·have d156:Rv.ev a 156=.bool false:=hd 12 (by decide)
  have d158:Rv.ev a 158=undef:=hd 14 (by decide)
  exact Rv.run (o:=el15) rfl rfl (Rv.want_free rfl) (by unfold el15;simp only[execOp,hev,hcn,d156,d158];go_simp<;>rfl) hW
 ·have d145:Rv.ev a 145=.bool false:=hd 1 (by decide)
  have d159:Rv.ev a 159=.bool false:=hd 15 (by decide)
  exact Rv.run (o:=el16) rfl rfl (Rv.want_free rfl) (by unfold el16;simp only[execOp,hev,d145,d159];go_simp<;>rfl) hW
 ·have d160:Rv.ev a 160=.bool false:=hd 16 (by decide)
  exact Rv.run (o:=el17) rfl rfl (Rv.want_free rfl) (by unfold el17;simp only[execOp,hev,d160];rfl) hW
 ·have dg:Rv.ev a 161=.bool false:=hd 17 (by decide)
  exact Rv.run (o:=el18) rfl rfl (by rw[Rv.want_if (o':=el17) rfl rfl rfl (hsz 161 (by decide)) dg];first|rfl|simp) (by unfold el18;simp only[execOp,hev,g20];rfl) hW
 ·have d162:Rv.ev a 162=.int .i64 hh:=hd 18 (by decide)
  have dg:Rv.ev a 161=.bool false:=hd 17 (by decide)
  exact Rv.run (o:=el19) rfl rfl (by rw[Rv.want_if (o':=el17) rfl rfl rfl (hsz 161 (by decide)) dg];first|rfl|simp) (by unfold el19;simp only[execOp,hev,hcn,d162];go_simp<;>rfl) hW
 ·have d163:Rv.ev a 163=.bool false:=hd 19 (by decide)
  have dg:Rv.ev a 161=.bool false:=hd 17 (by decide)
  exact Rv.run (o:=el20) rfl rfl (by rw[Rv.want_if (o':=el17) rfl rfl rfl (hsz 161 (by decide)) dg];first|rfl|simp) (by unfold el20;simp only[execOp,hev,d163];rfl) hW
 ·have dg:Rv.ev a 164=.bool false:=hd 20 (by decide)
  exact Rv.skip (o:=el21) rfl rfl (by rw[Rv.want_if (o':=el20) rfl rfl rfl (hsz 164 (by decide)) dg];first|rfl|simp) hW
 ·have d165:Rv.ev a 165=undef:=hd 21 (by decide)
  have dg:Rv.ev a 164=.bool false:=hd 20 (by decide)
  exact Rv.skip (o:=el22) rfl rfl (by rw[Rv.want_if (o':=el20) rfl rfl rfl (hsz 164 (by decide)) dg];first|rfl|simp) hW
 ·have d164:Rv.ev a 164=.bool false:=hd 20 (by decide)
  have d166:Rv.ev a 166=undef:=hd 22 (by decide)
  have dg:Rv.ev a 161=.bool false:=hd 17 (by decide)
  exact Rv.run (o:=el23) rfl rfl (by rw[Rv.want_if (o':=el17) rfl rfl rfl (hsz 161 (by decide)) dg];first|rfl|simp) (by unfold el23;simp only[execOp,hev,hcn,d164,d166];go_simp<;>rfl) hW
 ·have d161:Rv.ev a 161=.bool false:=hd 17 (by decide)
  have d167:Rv.ev a 167=.bool false:=hd 23 (by decide)
  exact Rv.run (o:=el24) rfl rfl (Rv.want_free rfl) (by unfold el24;simp only[execOp,hev,hcn,d161,d167];go_simp<;>rfl) hW
end
def elL3V (hh ex tx ey ty:Int):Nat→Value
 |0=>.int .i64 hh
 |1=>.bool false
 |2=>.int .i64 ex
 |3=>.bool true
 |4=>.bool true
 |5=>.int .i64 tx
 |6=>.bool true
 |7=>.bool true
 |8=>.bool true
 |9=>.int .i64 ey
 |10=>.bool true
 |11=>.bool true
 |12=>.bool true
 |13=>.int .i64 ty
 |14=>.bool false
 |15=>.bool false
 |16=>.bool false
 |17=>.bool false
 |18=>.int .i64 hh
 |19=>.bool false
 |20=>.bool false
 |21=>undef
 |22=>undef
 |23=>.bool false
 |_=>.bool false
section
variable {Q:Exit→Act→World→Prop} {X0 w0:World} {a0:Act}
set_option maxHeartbeats 4000000 in
theorem elL3 {hh ww ex tx ey ty:Int} (g0:(ex==0)=true) (g1:(ey==0)=true) (g2:(hh==0)=false) (g3:(tx==1)=true) (g4:(ty==3)=false) (hs:251≤a0.tmps.size)
  (e20:Rv.ev a0 20=.int .i64 hh)
  (e19:Rv.ev a0 19=.int .i64 ww)
  (e14:Rv.ev a0 14=.int .i64 ex)
  (e13:Rv.ev a0 13=.int .i64 tx)
  (e16:Rv.ev a0 16=.int .i64 ey)
  (e15:Rv.ev a0 15=.int .i64 ty)
  (hw:Below X0.heap.size X0 w0)
  (hQ:∀ a w,Rv.Off 25 elsl a0 a→Below X0.heap.size X0 w→(∀ j,j<25→Rv.ev a (elsl j)=(elL3V hh ex tx ey ty) j)→Q .normal a w) :
  wpList Try.prog elops Q elops.toList a0 w0:=by
 refine Rv.list (X0:=X0) 25 elsl (elL3V hh ex tx ey ty) rfl (by decide) (by decide) (fun j hj=>Nat.lt_of_lt_of_le ((by decide:∀ j,j<25→elsl j<251) j hj) hs) hw ?_ hQ
 intro i a W hi hO hW hd
 have hev:∀ j,a.eval (.tmp j)=Rv.ev a j:=fun _=>rfl
 have hcn:∀ v,a.eval (.const v)=v:=fun _=>rfl
 have hfn:∀ v,a.eval (.func v)=.func (.func v) #[] #[]:=fun _=>rfl
 have hsz:∀ k,k<251→k<a.tmps.size:=fun k hk=>by rw[hO.size];omega
 have g20:Rv.ev a 20=.int .i64 hh:=(hO.same 20 (by decide)).trans e20
 have g19:Rv.ev a 19=.int .i64 ww:=(hO.same 19 (by decide)).trans e19
 have g14:Rv.ev a 14=.int .i64 ex:=(hO.same 14 (by decide)).trans e14
 have g13:Rv.ev a 13=.int .i64 tx:=(hO.same 13 (by decide)).trans e13
 have g16:Rv.ev a 16=.int .i64 ey:=(hO.same 16 (by decide)).trans e16
 have g15:Rv.ev a 15=.int .i64 ty:=(hO.same 15 (by decide)).trans e15
 have hN:i=0∨i=1∨i=2∨i=3∨i=4∨i=5∨i=6∨i=7∨i=8∨i=9∨i=10∨i=11∨i=12∨i=13∨i=14∨i=15∨i=16∨i=17∨i=18∨i=19∨i=20∨i=21∨i=22∨i=23∨i=24:=by omega
 rcases hN with rfl|rfl|rfl|rfl|rfl|rfl|rfl|rfl|rfl|rfl|rfl|rfl|rfl|rfl|rfl|rfl|rfl|rfl|rfl|rfl|rfl|rfl|rfl|rfl|rfl
 ·exact Rv.run (o:=el0) rfl rfl (Rv.want_free rfl) (by unfold el0;simp only[execOp,hev,g20];rfl) hW
 ·have d144:Rv.ev a 144=.int .i64 hh:=hd 0 (by decide)
  exact Rv.run (o:=el1) rfl rfl (Rv.want_free rfl) (by unfold el1;simp only[execOp,hev,hcn,d144];go_simp<;>rfl) hW
 ·exact Rv.run (o:=el2) rfl rfl (Rv.want_free rfl) (by unfold el2;simp only[execOp,hev,g14];rfl) hW
 ·have d146:Rv.ev a 146=.int .i64 ex:=hd 2 (by decide)
  exact Rv.run (o:=el3) rfl rfl (Rv.want_free rfl) (by unfold el3;simp only[execOp,hev,hcn,d146];go_simp<;>rfl) hW
 ·have d147:Rv.ev a 147=.bool true:=hd 3 (by decide)
  exact Rv.run (o:=el4) rfl rfl (Rv.want_free rfl) (by unfold el4;simp only[execOp,hev,d147];rfl) hW
 ·have dg:Rv.ev a 148=.bool true:=hd 4 (by decide)
  exact Rv.run (o:=el5) rfl rfl (by rw[Rv.want_if (o':=el4) rfl rfl rfl (hsz 148 (by decide)) dg];first|rfl|simp) (by unfold el5;simp only[execOp,hev,g13];rfl) hW
 ·have d149:Rv.ev a 149=.int .i64 tx:=hd 5 (by decide)
  have dg:Rv.ev a 148=.bool true:=hd 4 (by decide)
  exact Rv.run (o:=el6) rfl rfl (by rw[Rv.want_if (o':=el4) rfl rfl rfl (hsz 148 (by decide)) dg];first|rfl|simp) (by unfold el6;simp only[execOp,hev,hcn,d149];go_simp<;>rfl) hW
 ·have d148:Rv.ev a 148=.bool true:=hd 4 (by decide)
  have d150:Rv.ev a 150=.bool true:=hd 6 (by decide)
  exact Rv.run (o:=el7) rfl rfl (Rv.want_free rfl) (by unfold el7;simp only[execOp,hev,hcn,d148,d150];go_simp<;>rfl) hW
 ·have d151:Rv.ev a 151=.bool true:=hd 7 (by decide)
  exact Rv.run (o:=el8) rfl rfl (Rv.want_free rfl) (by unfold el8;simp only[execOp,hev,d151];rfl) hW
 ·have dg:Rv.ev a 152=.bool true:=hd 8 (by decide)
  exact Rv.run (o:=el9) rfl rfl (by rw[Rv.want_if (o':=el8) rfl rfl rfl (hsz 152 (by decide)) dg];first|rfl|simp) (by unfold el9;simp only[execOp,hev,g16];rfl) hW
 ·have d153:Rv.ev a 153=.int .i64 ey:=hd 9 (by decide)
  have dg:Rv.ev a 152=.bool true:=hd 8 (by decide)
  exact Rv.run (o:=el10) rfl rfl (by rw[Rv.want_if (o':=el8) rfl rfl rfl (hsz 152 (by decide)) dg];first|rfl|simp) (by unfold el10;simp only[execOp,hev,hcn,d153];go_simp<;>rfl) hW
 ·have d152:Rv.ev a 152=.bool true:=hd 8 (by decide)
  have d154:Rv.ev a 154=.bool true:=hd 10 (by decide)
  exact Rv.run (o:=el11) rfl rfl (Rv.want_free rfl) (by unfold el11;simp only[execOp,hev,hcn,d152,d154];go_simp<;>rfl) hW
 ·have d155:Rv.ev a 155=.bool true:=hd 11 (by decide)
  exact Rv.run (o:=el12) rfl rfl (Rv.want_free rfl) (by unfold el12;simp only[execOp,hev,d155];rfl) hW
 ·have dg:Rv.ev a 156=.bool true:=hd 12 (by decide)
  exact Rv.run (o:=el13) rfl rfl (by rw[Rv.want_if (o':=el12) rfl rfl rfl (hsz 156 (by decide)) dg];first|rfl|simp) (by unfold el13;simp only[execOp,hev,g15];rfl) hW
 ·have d157:Rv.ev a 157=.int .i64 ty:=hd 13 (by decide)
  have dg:Rv.ev a 156=.bool true:=hd 12 (by decide)
  exact Rv.run (o:=el14) rfl rfl (by rw[Rv.want_if (o':=el12) rfl rfl rfl (hsz 156 (by decide)) dg];first|rfl|simp) (by unfold el14;simp only[execOp,hev,hcn,d157];go_simp<;>rfl) hW
 ·have d156:Rv.ev a 156=.bool true:=hd 12 (by decide)
  have d158:Rv.ev a 158=.bool false:=hd 14 (by decide)
  exact Rv.run (o:=el15) rfl rfl (Rv.want_free rfl) (by unfold el15;simp only[execOp,hev,hcn,d156,d158];go_simp<;>rfl) hW
 ·have d145:Rv.ev a 145=.bool false:=hd 1 (by decide)
  have d159:Rv.ev a 159=.bool false:=hd 15 (by decide)
  exact Rv.run (o:=el16) rfl rfl (Rv.want_free rfl) (by unfold el16;simp only[execOp,hev,d145,d159];go_simp<;>rfl) hW
 ·have d160:Rv.ev a 160=.bool false:=hd 16 (by decide)
  exact Rv.run (o:=el17) rfl rfl (Rv.want_free rfl) (by unfold el17;simp only[execOp,hev,d160];rfl) hW
 ·have dg:Rv.ev a 161=.bool false:=hd 17 (by decide)
  exact Rv.run (o:=el18) rfl rfl (by rw[Rv.want_if (o':=el17) rfl rfl rfl (hsz 161 (by decide)) dg];first|rfl|simp) (by unfold el18;simp only[execOp,hev,g20];rfl) hW
 ·have d162:Rv.ev a 162=.int .i64 hh:=hd 18 (by decide)
  have dg:Rv.ev a 161=.bool false:=hd 17 (by decide)
  exact Rv.run (o:=el19) rfl rfl (by rw[Rv.want_if (o':=el17) rfl rfl rfl (hsz 161 (by decide)) dg];first|rfl|simp) (by unfold el19;simp only[execOp,hev,hcn,d162];go_simp<;>rfl) hW
 ·have d163:Rv.ev a 163=.bool false:=hd 19 (by decide)
  have dg:Rv.ev a 161=.bool false:=hd 17 (by decide)
  exact Rv.run (o:=el20) rfl rfl (by rw[Rv.want_if (o':=el17) rfl rfl rfl (hsz 161 (by decide)) dg];first|rfl|simp) (by unfold el20;simp only[execOp,hev,d163];rfl) hW
 ·have dg:Rv.ev a 164=.bool false:=hd 20 (by decide)
  exact Rv.skip (o:=el21) rfl rfl (by rw[Rv.want_if (o':=el20) rfl rfl rfl (hsz 164 (by decide)) dg];first|rfl|simp) hW
 ·have d165:Rv.ev a 165=undef:=hd 21 (by decide)
  have dg:Rv.ev a 164=.bool false:=hd 20 (by decide)
  exact Rv.skip (o:=el22) rfl rfl (by rw[Rv.want_if (o':=el20) rfl rfl rfl (hsz 164 (by decide)) dg];first|rfl|simp) hW
 ·have d164:Rv.ev a 164=.bool false:=hd 20 (by decide)
  have d166:Rv.ev a 166=undef:=hd 22 (by decide)
  have dg:Rv.ev a 161=.bool false:=hd 17 (by decide)
  exact Rv.run (o:=el23) rfl rfl (by rw[Rv.want_if (o':=el17) rfl rfl rfl (hsz 161 (by decide)) dg];first|rfl|simp) (by unfold el23;simp only[execOp,hev,hcn,d164,d166];go_simp<;>rfl) hW
 ·have d161:Rv.ev a 161=.bool false:=hd 17 (by decide)
  have d167:Rv.ev a 167=.bool false:=hd 23 (by decide)
  exact Rv.run (o:=el24) rfl rfl (Rv.want_free rfl) (by unfold el24;simp only[execOp,hev,hcn,d161,d167];go_simp<;>rfl) hW
end
def elL4V (hh ww ex tx ey ty:Int):Nat→Value
 |0=>.int .i64 hh
 |1=>.bool true
 |2=>.int .i64 ex
 |3=>.bool true
 |4=>.bool true
 |5=>.int .i64 tx
 |6=>.bool true
 |7=>.bool true
 |8=>.bool true
 |9=>.int .i64 ey
 |10=>.bool true
 |11=>.bool true
 |12=>.bool true
 |13=>.int .i64 ty
 |14=>.bool true
 |15=>.bool true
 |16=>.bool false
 |17=>.bool false
 |18=>.int .i64 hh
 |19=>.bool true
 |20=>.bool true
 |21=>.int .i64 ww
 |22=>.bool false
 |23=>.bool false
 |_=>.bool false
section
variable {Q:Exit→Act→World→Prop} {X0 w0:World} {a0:Act}
set_option maxHeartbeats 4000000 in
theorem elL4 {hh ww ex tx ey ty:Int} (g0:(ex==0)=true) (g1:(ey==0)=true) (g2:(hh==0)=true) (g3:(tx==1)=true) (g4:(ty==3)=true) (g5:(ww != 3)=false) (hs:251≤a0.tmps.size)
  (e20:Rv.ev a0 20=.int .i64 hh)
  (e19:Rv.ev a0 19=.int .i64 ww)
  (e14:Rv.ev a0 14=.int .i64 ex)
  (e13:Rv.ev a0 13=.int .i64 tx)
  (e16:Rv.ev a0 16=.int .i64 ey)
  (e15:Rv.ev a0 15=.int .i64 ty)
  (hw:Below X0.heap.size X0 w0)
  (hQ:∀ a w,Rv.Off 25 elsl a0 a→Below X0.heap.size X0 w→(∀ j,j<25→Rv.ev a (elsl j)=(elL4V hh ww ex tx ey ty) j)→Q .normal a w) :
  wpList Try.prog elops Q elops.toList a0 w0:=by
 refine Rv.list (X0:=X0) 25 elsl (elL4V hh ww ex tx ey ty) rfl (by decide) (by decide) (fun j hj=>Nat.lt_of_lt_of_le ((by decide:∀ j,j<25→elsl j<251) j hj) hs) hw ?_ hQ
 intro i a W hi hO hW hd
 have hev:∀ j,a.eval (.tmp j)=Rv.ev a j:=fun _=>rfl
 have hcn:∀ v,a.eval (.const v)=v:=fun _=>rfl
 have hfn:∀ v,a.eval (.func v)=.func (.func v) #[] #[]:=fun _=>rfl
 have hsz:∀ k,k<251→k<a.tmps.size:=fun k hk=>by rw[hO.size];omega
 have g20:Rv.ev a 20=.int .i64 hh:=(hO.same 20 (by decide)).trans e20
 have g19:Rv.ev a 19=.int .i64 ww:=(hO.same 19 (by decide)).trans e19
 have g14:Rv.ev a 14=.int .i64 ex:=(hO.same 14 (by decide)).trans e14
 have g13:Rv.ev a 13=.int .i64 tx:=(hO.same 13 (by decide)).trans e13
 have g16:Rv.ev a 16=.int .i64 ey:=(hO.same 16 (by decide)).trans e16
 have g15:Rv.ev a 15=.int .i64 ty:=(hO.same 15 (by decide)).trans e15
 have hN:i=0∨i=1∨i=2∨i=3∨i=4∨i=5∨i=6∨i=7∨i=8∨i=9∨i=10∨i=11∨i=12∨i=13∨i=14∨i=15∨i=16∨i=17∨i=18∨i=19∨i=20∨i=21∨i=22∨i=23∨i=24:=by omega
 rcases hN with rfl|rfl|rfl|rfl|rfl|rfl|rfl|rfl|rfl|rfl|rfl|rfl|rfl|rfl|rfl|rfl|rfl|rfl|rfl|rfl|rfl|rfl|rfl|rfl|rfl
 ·exact Rv.run (o:=el0) rfl rfl (Rv.want_free rfl) (by unfold el0;simp only[execOp,hev,g20];rfl) hW
 ·have d144:Rv.ev a 144=.int .i64 hh:=hd 0 (by decide)
  exact Rv.run (o:=el1) rfl rfl (Rv.want_free rfl) (by unfold el1;simp only[execOp,hev,hcn,d144];go_simp<;>rfl) hW
 ·exact Rv.run (o:=el2) rfl rfl (Rv.want_free rfl) (by unfold el2;simp only[execOp,hev,g14];rfl) hW
 ·have d146:Rv.ev a 146=.int .i64 ex:=hd 2 (by decide)
  exact Rv.run (o:=el3) rfl rfl (Rv.want_free rfl) (by unfold el3;simp only[execOp,hev,hcn,d146];go_simp<;>rfl) hW
 ·have d147:Rv.ev a 147=.bool true:=hd 3 (by decide)
  exact Rv.run (o:=el4) rfl rfl (Rv.want_free rfl) (by unfold el4;simp only[execOp,hev,d147];rfl) hW
 ·have dg:Rv.ev a 148=.bool true:=hd 4 (by decide)
  exact Rv.run (o:=el5) rfl rfl (by rw[Rv.want_if (o':=el4) rfl rfl rfl (hsz 148 (by decide)) dg];first|rfl|simp) (by unfold el5;simp only[execOp,hev,g13];rfl) hW
 ·have d149:Rv.ev a 149=.int .i64 tx:=hd 5 (by decide)
  have dg:Rv.ev a 148=.bool true:=hd 4 (by decide)
  exact Rv.run (o:=el6) rfl rfl (by rw[Rv.want_if (o':=el4) rfl rfl rfl (hsz 148 (by decide)) dg];first|rfl|simp) (by unfold el6;simp only[execOp,hev,hcn,d149];go_simp<;>rfl) hW
 ·have d148:Rv.ev a 148=.bool true:=hd 4 (by decide)
  have d150:Rv.ev a 150=.bool true:=hd 6 (by decide)
  exact Rv.run (o:=el7) rfl rfl (Rv.want_free rfl) (by unfold el7;simp only[execOp,hev,hcn,d148,d150];go_simp<;>rfl) hW
 ·have d151:Rv.ev a 151=.bool true:=hd 7 (by decide)
  exact Rv.run (o:=el8) rfl rfl (Rv.want_free rfl) (by unfold el8;simp only[execOp,hev,d151];rfl) hW
 ·have dg:Rv.ev a 152=.bool true:=hd 8 (by decide)
  exact Rv.run (o:=el9) rfl rfl (by rw[Rv.want_if (o':=el8) rfl rfl rfl (hsz 152 (by decide)) dg];first|rfl|simp) (by unfold el9;simp only[execOp,hev,g16];rfl) hW
 ·have d153:Rv.ev a 153=.int .i64 ey:=hd 9 (by decide)
  have dg:Rv.ev a 152=.bool true:=hd 8 (by decide)
  exact Rv.run (o:=el10) rfl rfl (by rw[Rv.want_if (o':=el8) rfl rfl rfl (hsz 152 (by decide)) dg];first|rfl|simp) (by unfold el10;simp only[execOp,hev,hcn,d153];go_simp<;>rfl) hW
 ·have d152:Rv.ev a 152=.bool true:=hd 8 (by decide)
  have d154:Rv.ev a 154=.bool true:=hd 10 (by decide)
  exact Rv.run (o:=el11) rfl rfl (Rv.want_free rfl) (by unfold el11;simp only[execOp,hev,hcn,d152,d154];go_simp<;>rfl) hW
 ·have d155:Rv.ev a 155=.bool true:=hd 11 (by decide)
  exact Rv.run (o:=el12) rfl rfl (Rv.want_free rfl) (by unfold el12;simp only[execOp,hev,d155];rfl) hW
 ·have dg:Rv.ev a 156=.bool true:=hd 12 (by decide)
  exact Rv.run (o:=el13) rfl rfl (by rw[Rv.want_if (o':=el12) rfl rfl rfl (hsz 156 (by decide)) dg];first|rfl|simp) (by unfold el13;simp only[execOp,hev,g15];rfl) hW
 ·have d157:Rv.ev a 157=.int .i64 ty:=hd 13 (by decide)
  have dg:Rv.ev a 156=.bool true:=hd 12 (by decide)
  exact Rv.run (o:=el14) rfl rfl (by rw[Rv.want_if (o':=el12) rfl rfl rfl (hsz 156 (by decide)) dg];first|rfl|simp) (by unfold el14;simp only[execOp,hev,hcn,d157];go_simp<;>rfl) hW
 ·have d156:Rv.ev a 156=.bool true:=hd 12 (by decide)
  have d158:Rv.ev a 158=.bool true:=hd 14 (by decide)
  exact Rv.run (o:=el15) rfl rfl (Rv.want_free rfl) (by unfold el15;simp only[execOp,hev,hcn,d156,d158];go_simp<;>rfl) hW
 ·have d145:Rv.ev a 145=.bool true:=hd 1 (by decide)
  have d159:Rv.ev a 159=.bool true:=hd 15 (by decide)
  exact Rv.run (o:=el16) rfl rfl (Rv.want_free rfl) (by unfold el16;simp only[execOp,hev,d145,d159];go_simp<;>rfl) hW
 ·have d160:Rv.ev a 160=.bool false:=hd 16 (by decide)
  exact Rv.run (o:=el17) rfl rfl (Rv.want_free rfl) (by unfold el17;simp only[execOp,hev,d160];rfl) hW
 ·have dg:Rv.ev a 161=.bool false:=hd 17 (by decide)
  exact Rv.run (o:=el18) rfl rfl (by rw[Rv.want_if (o':=el17) rfl rfl rfl (hsz 161 (by decide)) dg];first|rfl|simp) (by unfold el18;simp only[execOp,hev,g20];rfl) hW
 ·have d162:Rv.ev a 162=.int .i64 hh:=hd 18 (by decide)
  have dg:Rv.ev a 161=.bool false:=hd 17 (by decide)
  exact Rv.run (o:=el19) rfl rfl (by rw[Rv.want_if (o':=el17) rfl rfl rfl (hsz 161 (by decide)) dg];first|rfl|simp) (by unfold el19;simp only[execOp,hev,hcn,d162];go_simp<;>rfl) hW
 ·have d163:Rv.ev a 163=.bool true:=hd 19 (by decide)
  have dg:Rv.ev a 161=.bool false:=hd 17 (by decide)
  exact Rv.run (o:=el20) rfl rfl (by rw[Rv.want_if (o':=el17) rfl rfl rfl (hsz 161 (by decide)) dg];first|rfl|simp) (by unfold el20;simp only[execOp,hev,d163];rfl) hW
 ·have dg:Rv.ev a 164=.bool true:=hd 20 (by decide)
  exact Rv.run (o:=el21) rfl rfl (by rw[Rv.want_if (o':=el20) rfl rfl rfl (hsz 164 (by decide)) dg];first|rfl|simp) (by unfold el21;simp only[execOp,hev,g19];rfl) hW
 ·have d165:Rv.ev a 165=.int .i64 ww:=hd 21 (by decide)
  have dg:Rv.ev a 164=.bool true:=hd 20 (by decide)
  exact Rv.run (o:=el22) rfl rfl (by rw[Rv.want_if (o':=el20) rfl rfl rfl (hsz 164 (by decide)) dg];first|rfl|simp) (by unfold el22;simp only[execOp,hev,hcn,d165];go_simp<;>rfl) hW
 ·have d164:Rv.ev a 164=.bool true:=hd 20 (by decide)
  have d166:Rv.ev a 166=.bool false:=hd 22 (by decide)
  have dg:Rv.ev a 161=.bool false:=hd 17 (by decide)
  exact Rv.run (o:=el23) rfl rfl (by rw[Rv.want_if (o':=el17) rfl rfl rfl (hsz 161 (by decide)) dg];first|rfl|simp) (by unfold el23;simp only[execOp,hev,hcn,d164,d166];go_simp<;>rfl) hW
 ·have d161:Rv.ev a 161=.bool false:=hd 17 (by decide)
  have d167:Rv.ev a 167=.bool false:=hd 23 (by decide)
  exact Rv.run (o:=el24) rfl rfl (Rv.want_free rfl) (by unfold el24;simp only[execOp,hev,hcn,d161,d167];go_simp<;>rfl) hW
end
section
variable {Q:Exit→Act→World→Prop} {X0 w0:World} {a0:Act}
theorem elAll {hh ww ex tx ey ty:Int} (HI:(hh=0↔ex=0∧tx=1∧ey=0∧ty=3)∧(hh=0→ww=3)∧(¬ hh=0→hh=34∧ww=0)) (hs:251≤a0.tmps.size) (e20:Rv.ev a0 20=.int .i64 hh) (e19:Rv.ev a0 19=.int .i64 ww) (e14:Rv.ev a0 14=.int .i64 ex) (e13:Rv.ev a0 13=.int .i64 tx) (e16:Rv.ev a0 16=.int .i64 ey) (e15:Rv.ev a0 15=.int .i64 ty) (hw:Below X0.heap.size X0 w0)
  (hQ:∀ a w,Rv.Off 25 elsl a0 a→Below X0.heap.size X0 w→Rv.ev a 168=.bool false→Q .normal a w):wpList Try.prog elops Q elops.toList a0 w0:=by
 by_cases h0:ex=0
 ·by_cases h1:tx=1
  ·by_cases h2:ey=0
   ·by_cases h3:ty=3
    ·have hz0:hh=0:=HI.1.2 ⟨h0,h1,h2,h3⟩
     have hw0:ww=3:=HI.2.1 hz0
     clear HI
     exact elL4 (by simp_all) (by simp_all) (by simp_all) (by simp_all) (by simp_all) (by simp_all) hs e20 e19 e14 e13 e16 e15 hw fun a w hO hB hv=>hQ a w hO hB (hv 24 (by decide))
    ·have hz0:¬ hh=0:=fun h=>h3 (by have k:=HI.1.1 h;exact k.2.2.2)
     clear HI
     exact elL3 (by simp_all) (by simp_all) (by simp_all) (by simp_all) (by simp_all) hs e20 e19 e14 e13 e16 e15 hw fun a w hO hB hv=>hQ a w hO hB (hv 24 (by decide))
   ·have hz0:¬ hh=0:=fun h=>h2 (by have k:=HI.1.1 h;exact k.2.2.1)
    clear HI
    exact elL2 (by simp_all) (by simp_all) (by simp_all) (by simp_all) hs e20 e19 e14 e13 e16 e15 hw fun a w hO hB hv=>hQ a w hO hB (hv 24 (by decide))
  ·have hz0:¬ hh=0:=fun h=>h1 (by have k:=HI.1.1 h;exact k.2.1)
   clear HI
   exact elL1 (by simp_all) (by simp_all) (by simp_all) hs e20 e19 e14 e13 e16 e15 hw fun a w hO hB hv=>hQ a w hO hB (hv 24 (by decide))
 ·have hz0:¬ hh=0:=fun h=>h0 (by have k:=HI.1.1 h;exact k.1)
  clear HI
  exact elL0 (by simp_all) (by simp_all) hs e20 e19 e14 e13 e16 e15 hw fun a w hO hB hv=>hQ a w hO hB (hv 24 (by decide))
end
def em0 : Oper := { dst := some 179, op := Op.move (Operand.tmp 20), type := 29, pos := "law.go:107", after := #[], guard := none }
def em1 : Oper := { dst := some 180, op := Op.binOp BinOp.eql 29 (Operand.tmp 179) (Operand.const (Value.int IntKind.i64 0)) 29, type := 4, pos := "law.go:107", after := #[{ on := 0, ground := Ground.data }], guard := none }
def em2 : Oper := { dst := some 181, op := Op.move (Operand.tmp 14), type := 29, pos := "law.go:107", after := #[], guard := none }
def em3 : Oper := { dst := some 182, op := Op.binOp BinOp.eql 29 (Operand.tmp 181) (Operand.const (Value.int IntKind.i64 0)) 29, type := 4, pos := "law.go:107", after := #[{ on := 2, ground := Ground.data }], guard := none }
def em4 : Oper := { dst := some 183, op := Op.move (Operand.tmp 182), type := 4, pos := "law.go:107", after := #[{ on := 3, ground := Ground.data }], guard := none }
def em5 : Oper := { dst := some 184, op := Op.move (Operand.tmp 13), type := 35, pos := "law.go:107", after := #[{ on := 4, ground := Ground.guard }], guard := some (4, true) }
def em6 : Oper := { dst := some 185, op := Op.binOp BinOp.eql 35 (Operand.tmp 184) (Operand.const (Value.int IntKind.i64 1)) 35, type := 4, pos := "law.go:107", after := #[{ on := 5, ground := Ground.data }, { on := 4, ground := Ground.guard }], guard := some (4, true) }
def em7 : Oper := { dst := some 186, op := Op.pick (Operand.tmp 183) (Operand.tmp 185) (Operand.const (Value.bool false)), type := 4, pos := "law.go:107", after := #[{ on := 4, ground := Ground.data }, { on := 6, ground := Ground.data }], guard := none }
def em8 : Oper := { dst := some 187, op := Op.move (Operand.tmp 186), type := 4, pos := "law.go:107", after := #[{ on := 7, ground := Ground.data }, { on := 4, ground := Ground.chain }], guard := none }
def em9 : Oper := { dst := some 188, op := Op.move (Operand.tmp 18), type := 29, pos := "law.go:107", after := #[{ on := 8, ground := Ground.guard }], guard := some (8, true) }
def em10 : Oper := { dst := some 189, op := Op.binOp BinOp.eql 29 (Operand.tmp 188) (Operand.const (Value.int IntKind.i64 0)) 29, type := 4, pos := "law.go:107", after := #[{ on := 9, ground := Ground.data }, { on := 8, ground := Ground.guard }], guard := some (8, true) }
def em11 : Oper := { dst := some 190, op := Op.pick (Operand.tmp 187) (Operand.tmp 189) (Operand.const (Value.bool false)), type := 4, pos := "law.go:107", after := #[{ on := 8, ground := Ground.data }, { on := 10, ground := Ground.data }], guard := none }
def em12 : Oper := { dst := some 191, op := Op.move (Operand.tmp 190), type := 4, pos := "law.go:107", after := #[{ on := 11, ground := Ground.data }, { on := 8, ground := Ground.chain }], guard := none }
def em13 : Oper := { dst := some 192, op := Op.move (Operand.tmp 17), type := 35, pos := "law.go:107", after := #[{ on := 12, ground := Ground.guard }], guard := some (12, true) }
def em14 : Oper := { dst := some 193, op := Op.binOp BinOp.eql 35 (Operand.tmp 192) (Operand.const (Value.int IntKind.i64 1)) 35, type := 4, pos := "law.go:107", after := #[{ on := 13, ground := Ground.data }, { on := 12, ground := Ground.guard }], guard := some (12, true) }
def em15 : Oper := { dst := some 194, op := Op.pick (Operand.tmp 191) (Operand.tmp 193) (Operand.const (Value.bool false)), type := 4, pos := "law.go:107", after := #[{ on := 12, ground := Ground.data }, { on := 14, ground := Ground.data }], guard := none }
def em16 : Oper := { dst := some 195, op := Op.binOp BinOp.neq 4 (Operand.tmp 180) (Operand.tmp 194) 4, type := 4, pos := "law.go:107", after := #[{ on := 1, ground := Ground.data }, { on := 15, ground := Ground.data }], guard := none }
def em17 : Oper := { dst := some 196, op := Op.move (Operand.tmp 195), type := 4, pos := "law.go:107", after := #[{ on := 16, ground := Ground.data }, { on := 12, ground := Ground.chain }], guard := none }
def em18 : Oper := { dst := some 197, op := Op.move (Operand.tmp 20), type := 29, pos := "law.go:107", after := #[{ on := 17, ground := Ground.guard }], guard := some (17, false) }
def em19 : Oper := { dst := some 198, op := Op.binOp BinOp.eql 29 (Operand.tmp 197) (Operand.const (Value.int IntKind.i64 0)) 29, type := 4, pos := "law.go:107", after := #[{ on := 18, ground := Ground.data }, { on := 17, ground := Ground.guard }], guard := some (17, false) }
def em20 : Oper := { dst := some 199, op := Op.move (Operand.tmp 198), type := 4, pos := "law.go:107", after := #[{ on := 19, ground := Ground.data }, { on := 17, ground := Ground.chain }, { on := 17, ground := Ground.guard }], guard := some (17, false) }
def em21 : Oper := { dst := some 200, op := Op.move (Operand.tmp 19), type := 35, pos := "law.go:107", after := #[{ on := 20, ground := Ground.guard }], guard := some (20, true) }
def em22 : Oper := { dst := some 201, op := Op.binOp BinOp.neq 35 (Operand.tmp 200) (Operand.const (Value.int IntKind.i64 2)) 35, type := 4, pos := "law.go:107", after := #[{ on := 21, ground := Ground.data }, { on := 20, ground := Ground.guard }], guard := some (20, true) }
def em23 : Oper := { dst := some 202, op := Op.pick (Operand.tmp 199) (Operand.tmp 201) (Operand.const (Value.bool false)), type := 4, pos := "law.go:107", after := #[{ on := 20, ground := Ground.data }, { on := 22, ground := Ground.data }, { on := 17, ground := Ground.guard }], guard := some (17, false) }
def em24 : Oper := { dst := some 203, op := Op.pick (Operand.tmp 196) (Operand.const (Value.bool true)) (Operand.tmp 202), type := 4, pos := "law.go:107", after := #[{ on := 17, ground := Ground.data }, { on := 23, ground := Ground.data }], guard := none }
def emops:Array Oper:=#[em0,em1,em2,em3,em4,em5,em6,em7,em8,em9,em10,em11,em12,em13,em14,em15,em16,em17,em18,em19,em20,em21,em22,em23,em24]
def emsl (k:Nat):Nat:=179+k
def emL0V (hh ex:Int):Nat→Value
 |0=>.int .i64 hh
 |1=>.bool false
 |2=>.int .i64 ex
 |3=>.bool false
 |4=>.bool false
 |5=>undef
 |6=>undef
 |7=>.bool false
 |8=>.bool false
 |9=>undef
 |10=>undef
 |11=>.bool false
 |12=>.bool false
 |13=>undef
 |14=>undef
 |15=>.bool false
 |16=>.bool false
 |17=>.bool false
 |18=>.int .i64 hh
 |19=>.bool false
 |20=>.bool false
 |21=>undef
 |22=>undef
 |23=>.bool false
 |_=>.bool false
section
variable {Q:Exit→Act→World→Prop} {X0 w0:World} {a0:Act}
set_option maxHeartbeats 4000000 in
theorem emL0 {hh ww ex tx ez tz:Int} (g0:(ex==0)=false) (g1:(hh==0)=false) (hs:251≤a0.tmps.size)
  (e20:Rv.ev a0 20=.int .i64 hh)
  (e19:Rv.ev a0 19=.int .i64 ww)
  (e14:Rv.ev a0 14=.int .i64 ex)
  (e13:Rv.ev a0 13=.int .i64 tx)
  (e18:Rv.ev a0 18=.int .i64 ez)
  (e17:Rv.ev a0 17=.int .i64 tz)
  (hw:Below X0.heap.size X0 w0)
  (hQ:∀ a w,Rv.Off 25 emsl a0 a→Below X0.heap.size X0 w→(∀ j,j<25→Rv.ev a (emsl j)=(emL0V hh ex) j)→Q .normal a w) :
  wpList Try.prog emops Q emops.toList a0 w0:=by
 refine Rv.list (X0:=X0) 25 emsl (emL0V hh ex) rfl (by decide) (by decide) (fun j hj=>Nat.lt_of_lt_of_le ((by decide:∀ j,j<25→emsl j<251) j hj) hs) hw ?_ hQ
 intro i a W hi hO hW hd
 have hev:∀ j,a.eval (.tmp j)=Rv.ev a j:=fun _=>rfl
 have hcn:∀ v,a.eval (.const v)=v:=fun _=>rfl
 have hfn:∀ v,a.eval (.func v)=.func (.func v) #[] #[]:=fun _=>rfl
 have hsz:∀ k,k<251→k<a.tmps.size:=fun k hk=>by rw[hO.size];omega
 have g20:Rv.ev a 20=.int .i64 hh:=(hO.same 20 (by decide)).trans e20
 have g19:Rv.ev a 19=.int .i64 ww:=(hO.same 19 (by decide)).trans e19
 have g14:Rv.ev a 14=.int .i64 ex:=(hO.same 14 (by decide)).trans e14
 have g13:Rv.ev a 13=.int .i64 tx:=(hO.same 13 (by decide)).trans e13
 have g18:Rv.ev a 18=.int .i64 ez:=(hO.same 18 (by decide)).trans e18
 have g17:Rv.ev a 17=.int .i64 tz:=(hO.same 17 (by decide)).trans e17
 have hN:i=0∨i=1∨i=2∨i=3∨i=4∨i=5∨i=6∨i=7∨i=8∨i=9∨i=10∨i=11∨i=12∨i=13∨i=14∨i=15∨i=16∨i=17∨i=18∨i=19∨i=20∨i=21∨i=22∨i=23∨i=24:=by omega
 rcases hN with rfl|rfl|rfl|rfl|rfl|rfl|rfl|rfl|rfl|rfl|rfl|rfl|rfl|rfl|rfl|rfl|rfl|rfl|rfl|rfl|rfl|rfl|rfl|rfl|rfl
 ·exact Rv.run (o:=em0) rfl rfl (Rv.want_free rfl) (by unfold em0;simp only[execOp,hev,g20];rfl) hW
 ·have d179:Rv.ev a 179=.int .i64 hh:=hd 0 (by decide)
  exact Rv.run (o:=em1) rfl rfl (Rv.want_free rfl) (by unfold em1;simp only[execOp,hev,hcn,d179];go_simp<;>rfl) hW
 ·exact Rv.run (o:=em2) rfl rfl (Rv.want_free rfl) (by unfold em2;simp only[execOp,hev,g14];rfl) hW
 ·have d181:Rv.ev a 181=.int .i64 ex:=hd 2 (by decide)
  exact Rv.run (o:=em3) rfl rfl (Rv.want_free rfl) (by unfold em3;simp only[execOp,hev,hcn,d181];go_simp<;>rfl) hW
 ·have d182:Rv.ev a 182=.bool false:=hd 3 (by decide)
  exact Rv.run (o:=em4) rfl rfl (Rv.want_free rfl) (by unfold em4;simp only[execOp,hev,d182];rfl) hW
 ·have dg:Rv.ev a 183=.bool false:=hd 4 (by decide)
  exact Rv.skip (o:=em5) rfl rfl (by rw[Rv.want_if (o':=em4) rfl rfl rfl (hsz 183 (by decide)) dg];first|rfl|simp) hW
 ·have d184:Rv.ev a 184=undef:=hd 5 (by decide)
  have dg:Rv.ev a 183=.bool false:=hd 4 (by decide)
  exact Rv.skip (o:=em6) rfl rfl (by rw[Rv.want_if (o':=em4) rfl rfl rfl (hsz 183 (by decide)) dg];first|rfl|simp) hW
 ·have d183:Rv.ev a 183=.bool false:=hd 4 (by decide)
  have d185:Rv.ev a 185=undef:=hd 6 (by decide)
  exact Rv.run (o:=em7) rfl rfl (Rv.want_free rfl) (by unfold em7;simp only[execOp,hev,hcn,d183,d185];go_simp<;>rfl) hW
 ·have d186:Rv.ev a 186=.bool false:=hd 7 (by decide)
  exact Rv.run (o:=em8) rfl rfl (Rv.want_free rfl) (by unfold em8;simp only[execOp,hev,d186];rfl) hW
 ·have dg:Rv.ev a 187=.bool false:=hd 8 (by decide)
  exact Rv.skip (o:=em9) rfl rfl (by rw[Rv.want_if (o':=em8) rfl rfl rfl (hsz 187 (by decide)) dg];first|rfl|simp) hW
 ·have d188:Rv.ev a 188=undef:=hd 9 (by decide)
  have dg:Rv.ev a 187=.bool false:=hd 8 (by decide)
  exact Rv.skip (o:=em10) rfl rfl (by rw[Rv.want_if (o':=em8) rfl rfl rfl (hsz 187 (by decide)) dg];first|rfl|simp) hW
 ·have d187:Rv.ev a 187=.bool false:=hd 8 (by decide)
  have d189:Rv.ev a 189=undef:=hd 10 (by decide)
  exact Rv.run (o:=em11) rfl rfl (Rv.want_free rfl) (by unfold em11;simp only[execOp,hev,hcn,d187,d189];go_simp<;>rfl) hW
 ·have d190:Rv.ev a 190=.bool false:=hd 11 (by decide)
  exact Rv.run (o:=em12) rfl rfl (Rv.want_free rfl) (by unfold em12;simp only[execOp,hev,d190];rfl) hW
 ·have dg:Rv.ev a 191=.bool false:=hd 12 (by decide)
  exact Rv.skip (o:=em13) rfl rfl (by rw[Rv.want_if (o':=em12) rfl rfl rfl (hsz 191 (by decide)) dg];first|rfl|simp) hW
 ·have d192:Rv.ev a 192=undef:=hd 13 (by decide)
  have dg:Rv.ev a 191=.bool false:=hd 12 (by decide)
  exact Rv.skip (o:=em14) rfl rfl (by rw[Rv.want_if (o':=em12) rfl rfl rfl (hsz 191 (by decide)) dg];first|rfl|simp) hW
 ·have d191:Rv.ev a 191=.bool false:=hd 12 (by decide)
  have d193:Rv.ev a 193=undef:=hd 14 (by decide)
  exact Rv.run (o:=em15) rfl rfl (Rv.want_free rfl) (by unfold em15;simp only[execOp,hev,hcn,d191,d193];go_simp<;>rfl) hW
 ·have d180:Rv.ev a 180=.bool false:=hd 1 (by decide)
  have d194:Rv.ev a 194=.bool false:=hd 15 (by decide)
  exact Rv.run (o:=em16) rfl rfl (Rv.want_free rfl) (by unfold em16;simp only[execOp,hev,d180,d194];go_simp<;>rfl) hW
 ·have d195:Rv.ev a 195=.bool false:=hd 16 (by decide)
  exact Rv.run (o:=em17) rfl rfl (Rv.want_free rfl) (by unfold em17;simp only[execOp,hev,d195];rfl) hW
 ·have dg:Rv.ev a 196=.bool false:=hd 17 (by decide)
  exact Rv.run (o:=em18) rfl rfl (by rw[Rv.want_if (o':=em17) rfl rfl rfl (hsz 196 (by decide)) dg];first|rfl|simp) (by unfold em18;simp only[execOp,hev,g20];rfl) hW
 ·have d197:Rv.ev a 197=.int .i64 hh:=hd 18 (by decide)
  have dg:Rv.ev a 196=.bool false:=hd 17 (by decide)
  exact Rv.run (o:=em19) rfl rfl (by rw[Rv.want_if (o':=em17) rfl rfl rfl (hsz 196 (by decide)) dg];first|rfl|simp) (by unfold em19;simp only[execOp,hev,hcn,d197];go_simp<;>rfl) hW
 ·have d198:Rv.ev a 198=.bool false:=hd 19 (by decide)
  have dg:Rv.ev a 196=.bool false:=hd 17 (by decide)
  exact Rv.run (o:=em20) rfl rfl (by rw[Rv.want_if (o':=em17) rfl rfl rfl (hsz 196 (by decide)) dg];first|rfl|simp) (by unfold em20;simp only[execOp,hev,d198];rfl) hW
 ·have dg:Rv.ev a 199=.bool false:=hd 20 (by decide)
  exact Rv.skip (o:=em21) rfl rfl (by rw[Rv.want_if (o':=em20) rfl rfl rfl (hsz 199 (by decide)) dg];first|rfl|simp) hW
 ·have d200:Rv.ev a 200=undef:=hd 21 (by decide)
  have dg:Rv.ev a 199=.bool false:=hd 20 (by decide)
  exact Rv.skip (o:=em22) rfl rfl (by rw[Rv.want_if (o':=em20) rfl rfl rfl (hsz 199 (by decide)) dg];first|rfl|simp) hW
 ·have d199:Rv.ev a 199=.bool false:=hd 20 (by decide)
  have d201:Rv.ev a 201=undef:=hd 22 (by decide)
  have dg:Rv.ev a 196=.bool false:=hd 17 (by decide)
  exact Rv.run (o:=em23) rfl rfl (by rw[Rv.want_if (o':=em17) rfl rfl rfl (hsz 196 (by decide)) dg];first|rfl|simp) (by unfold em23;simp only[execOp,hev,hcn,d199,d201];go_simp<;>rfl) hW
 ·have d196:Rv.ev a 196=.bool false:=hd 17 (by decide)
  have d202:Rv.ev a 202=.bool false:=hd 23 (by decide)
  exact Rv.run (o:=em24) rfl rfl (Rv.want_free rfl) (by unfold em24;simp only[execOp,hev,hcn,d196,d202];go_simp<;>rfl) hW
end
def emL1V (hh ex tx:Int):Nat→Value
 |0=>.int .i64 hh
 |1=>.bool false
 |2=>.int .i64 ex
 |3=>.bool true
 |4=>.bool true
 |5=>.int .i64 tx
 |6=>.bool false
 |7=>.bool false
 |8=>.bool false
 |9=>undef
 |10=>undef
 |11=>.bool false
 |12=>.bool false
 |13=>undef
 |14=>undef
 |15=>.bool false
 |16=>.bool false
 |17=>.bool false
 |18=>.int .i64 hh
 |19=>.bool false
 |20=>.bool false
 |21=>undef
 |22=>undef
 |23=>.bool false
 |_=>.bool false
section
variable {Q:Exit→Act→World→Prop} {X0 w0:World} {a0:Act}
set_option maxHeartbeats 4000000 in
theorem emL1 {hh ww ex tx ez tz:Int} (g0:(ex==0)=true) (g1:(hh==0)=false) (g2:(tx==1)=false) (hs:251≤a0.tmps.size)
  (e20:Rv.ev a0 20=.int .i64 hh)
  (e19:Rv.ev a0 19=.int .i64 ww)
  (e14:Rv.ev a0 14=.int .i64 ex)
  (e13:Rv.ev a0 13=.int .i64 tx)
  (e18:Rv.ev a0 18=.int .i64 ez)
  (e17:Rv.ev a0 17=.int .i64 tz)
  (hw:Below X0.heap.size X0 w0)
  (hQ:∀ a w,Rv.Off 25 emsl a0 a→Below X0.heap.size X0 w→(∀ j,j<25→Rv.ev a (emsl j)=(emL1V hh ex tx) j)→Q .normal a w) :
  wpList Try.prog emops Q emops.toList a0 w0:=by
 refine Rv.list (X0:=X0) 25 emsl (emL1V hh ex tx) rfl (by decide) (by decide) (fun j hj=>Nat.lt_of_lt_of_le ((by decide:∀ j,j<25→emsl j<251) j hj) hs) hw ?_ hQ
 intro i a W hi hO hW hd
 have hev:∀ j,a.eval (.tmp j)=Rv.ev a j:=fun _=>rfl
 have hcn:∀ v,a.eval (.const v)=v:=fun _=>rfl
 have hfn:∀ v,a.eval (.func v)=.func (.func v) #[] #[]:=fun _=>rfl
 have hsz:∀ k,k<251→k<a.tmps.size:=fun k hk=>by rw[hO.size];omega
 have g20:Rv.ev a 20=.int .i64 hh:=(hO.same 20 (by decide)).trans e20
 have g19:Rv.ev a 19=.int .i64 ww:=(hO.same 19 (by decide)).trans e19
 have g14:Rv.ev a 14=.int .i64 ex:=(hO.same 14 (by decide)).trans e14
 have g13:Rv.ev a 13=.int .i64 tx:=(hO.same 13 (by decide)).trans e13
 have g18:Rv.ev a 18=.int .i64 ez:=(hO.same 18 (by decide)).trans e18
 have g17:Rv.ev a 17=.int .i64 tz:=(hO.same 17 (by decide)).trans e17
 have hN:i=0∨i=1∨i=2∨i=3∨i=4∨i=5∨i=6∨i=7∨i=8∨i=9∨i=10∨i=11∨i=12∨i=13∨i=14∨i=15∨i=16∨i=17∨i=18∨i=19∨i=20∨i=21∨i=22∨i=23∨i=24:=by omega
 rcases hN with rfl|rfl|rfl|rfl|rfl|rfl|rfl|rfl|rfl|rfl|rfl|rfl|rfl|rfl|rfl|rfl|rfl|rfl|rfl|rfl|rfl|rfl|rfl|rfl|rfl
 ·exact Rv.run (o:=em0) rfl rfl (Rv.want_free rfl) (by unfold em0;simp only[execOp,hev,g20];rfl) hW
 ·have d179:Rv.ev a 179=.int .i64 hh:=hd 0 (by decide)
  exact Rv.run (o:=em1) rfl rfl (Rv.want_free rfl) (by unfold em1;simp only[execOp,hev,hcn,d179];go_simp<;>rfl) hW
 ·exact Rv.run (o:=em2) rfl rfl (Rv.want_free rfl) (by unfold em2;simp only[execOp,hev,g14];rfl) hW
 ·have d181:Rv.ev a 181=.int .i64 ex:=hd 2 (by decide)
  exact Rv.run (o:=em3) rfl rfl (Rv.want_free rfl) (by unfold em3;simp only[execOp,hev,hcn,d181];go_simp<;>rfl) hW
 ·have d182:Rv.ev a 182=.bool true:=hd 3 (by decide)
  exact Rv.run (o:=em4) rfl rfl (Rv.want_free rfl) (by unfold em4;simp only[execOp,hev,d182];rfl) hW
 ·have dg:Rv.ev a 183=.bool true:=hd 4 (by decide)
  exact Rv.run (o:=em5) rfl rfl (by rw[Rv.want_if (o':=em4) rfl rfl rfl (hsz 183 (by decide)) dg];first|rfl|simp) (by unfold em5;simp only[execOp,hev,g13];rfl) hW
 ·have d184:Rv.ev a 184=.int .i64 tx:=hd 5 (by decide)
  have dg:Rv.ev a 183=.bool true:=hd 4 (by decide)
  exact Rv.run (o:=em6) rfl rfl (by rw[Rv.want_if (o':=em4) rfl rfl rfl (hsz 183 (by decide)) dg];first|rfl|simp) (by unfold em6;simp only[execOp,hev,hcn,d184];go_simp<;>rfl) hW
 ·have d183:Rv.ev a 183=.bool true:=hd 4 (by decide)
  have d185:Rv.ev a 185=.bool false:=hd 6 (by decide)
  exact Rv.run (o:=em7) rfl rfl (Rv.want_free rfl) (by unfold em7;simp only[execOp,hev,hcn,d183,d185];go_simp<;>rfl) hW
 ·have d186:Rv.ev a 186=.bool false:=hd 7 (by decide)
  exact Rv.run (o:=em8) rfl rfl (Rv.want_free rfl) (by unfold em8;simp only[execOp,hev,d186];rfl) hW
 ·have dg:Rv.ev a 187=.bool false:=hd 8 (by decide)
  exact Rv.skip (o:=em9) rfl rfl (by rw[Rv.want_if (o':=em8) rfl rfl rfl (hsz 187 (by decide)) dg];first|rfl|simp) hW
 ·have d188:Rv.ev a 188=undef:=hd 9 (by decide)
  have dg:Rv.ev a 187=.bool false:=hd 8 (by decide)
  exact Rv.skip (o:=em10) rfl rfl (by rw[Rv.want_if (o':=em8) rfl rfl rfl (hsz 187 (by decide)) dg];first|rfl|simp) hW
 ·have d187:Rv.ev a 187=.bool false:=hd 8 (by decide)
  have d189:Rv.ev a 189=undef:=hd 10 (by decide)
  exact Rv.run (o:=em11) rfl rfl (Rv.want_free rfl) (by unfold em11;simp only[execOp,hev,hcn,d187,d189];go_simp<;>rfl) hW
 ·have d190:Rv.ev a 190=.bool false:=hd 11 (by decide)
  exact Rv.run (o:=em12) rfl rfl (Rv.want_free rfl) (by unfold em12;simp only[execOp,hev,d190];rfl) hW
 ·have dg:Rv.ev a 191=.bool false:=hd 12 (by decide)
  exact Rv.skip (o:=em13) rfl rfl (by rw[Rv.want_if (o':=em12) rfl rfl rfl (hsz 191 (by decide)) dg];first|rfl|simp) hW
 ·have d192:Rv.ev a 192=undef:=hd 13 (by decide)
  have dg:Rv.ev a 191=.bool false:=hd 12 (by decide)
  exact Rv.skip (o:=em14) rfl rfl (by rw[Rv.want_if (o':=em12) rfl rfl rfl (hsz 191 (by decide)) dg];first|rfl|simp) hW
 ·have d191:Rv.ev a 191=.bool false:=hd 12 (by decide)
  have d193:Rv.ev a 193=undef:=hd 14 (by decide)
  exact Rv.run (o:=em15) rfl rfl (Rv.want_free rfl) (by unfold em15;simp only[execOp,hev,hcn,d191,d193];go_simp<;>rfl) hW
 ·have d180:Rv.ev a 180=.bool false:=hd 1 (by decide)
  have d194:Rv.ev a 194=.bool false:=hd 15 (by decide)
  exact Rv.run (o:=em16) rfl rfl (Rv.want_free rfl) (by unfold em16;simp only[execOp,hev,d180,d194];go_simp<;>rfl) hW
 ·have d195:Rv.ev a 195=.bool false:=hd 16 (by decide)
  exact Rv.run (o:=em17) rfl rfl (Rv.want_free rfl) (by unfold em17;simp only[execOp,hev,d195];rfl) hW
 ·have dg:Rv.ev a 196=.bool false:=hd 17 (by decide)
  exact Rv.run (o:=em18) rfl rfl (by rw[Rv.want_if (o':=em17) rfl rfl rfl (hsz 196 (by decide)) dg];first|rfl|simp) (by unfold em18;simp only[execOp,hev,g20];rfl) hW
 ·have d197:Rv.ev a 197=.int .i64 hh:=hd 18 (by decide)
  have dg:Rv.ev a 196=.bool false:=hd 17 (by decide)
  exact Rv.run (o:=em19) rfl rfl (by rw[Rv.want_if (o':=em17) rfl rfl rfl (hsz 196 (by decide)) dg];first|rfl|simp) (by unfold em19;simp only[execOp,hev,hcn,d197];go_simp<;>rfl) hW
 ·have d198:Rv.ev a 198=.bool false:=hd 19 (by decide)
  have dg:Rv.ev a 196=.bool false:=hd 17 (by decide)
  exact Rv.run (o:=em20) rfl rfl (by rw[Rv.want_if (o':=em17) rfl rfl rfl (hsz 196 (by decide)) dg];first|rfl|simp) (by unfold em20;simp only[execOp,hev,d198];rfl) hW
 ·have dg:Rv.ev a 199=.bool false:=hd 20 (by decide)
  exact Rv.skip (o:=em21) rfl rfl (by rw[Rv.want_if (o':=em20) rfl rfl rfl (hsz 199 (by decide)) dg];first|rfl|simp) hW
 ·have d200:Rv.ev a 200=undef:=hd 21 (by decide)
  have dg:Rv.ev a 199=.bool false:=hd 20 (by decide)
  exact Rv.skip (o:=em22) rfl rfl (by rw[Rv.want_if (o':=em20) rfl rfl rfl (hsz 199 (by decide)) dg];first|rfl|simp) hW
 ·have d199:Rv.ev a 199=.bool false:=hd 20 (by decide)
  have d201:Rv.ev a 201=undef:=hd 22 (by decide)
  have dg:Rv.ev a 196=.bool false:=hd 17 (by decide)
  exact Rv.run (o:=em23) rfl rfl (by rw[Rv.want_if (o':=em17) rfl rfl rfl (hsz 196 (by decide)) dg];first|rfl|simp) (by unfold em23;simp only[execOp,hev,hcn,d199,d201];go_simp<;>rfl) hW
 ·have d196:Rv.ev a 196=.bool false:=hd 17 (by decide)
  have d202:Rv.ev a 202=.bool false:=hd 23 (by decide)
  exact Rv.run (o:=em24) rfl rfl (Rv.want_free rfl) (by unfold em24;simp only[execOp,hev,hcn,d196,d202];go_simp<;>rfl) hW
end
def emL2V (hh ex tx ez:Int):Nat→Value
 |0=>.int .i64 hh
 |1=>.bool false
 |2=>.int .i64 ex
 |3=>.bool true
 |4=>.bool true
 |5=>.int .i64 tx
 |6=>.bool true
 |7=>.bool true
 |8=>.bool true
 |9=>.int .i64 ez
 |10=>.bool false
 |11=>.bool false
 |12=>.bool false
 |13=>undef
 |14=>undef
 |15=>.bool false
 |16=>.bool false
 |17=>.bool false
 |18=>.int .i64 hh
 |19=>.bool false
 |20=>.bool false
 |21=>undef
 |22=>undef
 |23=>.bool false
 |_=>.bool false
section
variable {Q:Exit→Act→World→Prop} {X0 w0:World} {a0:Act}
set_option maxHeartbeats 4000000 in
theorem emL2 {hh ww ex tx ez tz:Int} (g0:(ex==0)=true) (g1:(ez==0)=false) (g2:(hh==0)=false) (g3:(tx==1)=true) (hs:251≤a0.tmps.size)
  (e20:Rv.ev a0 20=.int .i64 hh)
  (e19:Rv.ev a0 19=.int .i64 ww)
  (e14:Rv.ev a0 14=.int .i64 ex)
  (e13:Rv.ev a0 13=.int .i64 tx)
  (e18:Rv.ev a0 18=.int .i64 ez)
  (e17:Rv.ev a0 17=.int .i64 tz)
  (hw:Below X0.heap.size X0 w0)
  (hQ:∀ a w,Rv.Off 25 emsl a0 a→Below X0.heap.size X0 w→(∀ j,j<25→Rv.ev a (emsl j)=(emL2V hh ex tx ez) j)→Q .normal a w) :
  wpList Try.prog emops Q emops.toList a0 w0:=by
 refine Rv.list (X0:=X0) 25 emsl (emL2V hh ex tx ez) rfl (by decide) (by decide) (fun j hj=>Nat.lt_of_lt_of_le ((by decide:∀ j,j<25→emsl j<251) j hj) hs) hw ?_ hQ
 intro i a W hi hO hW hd
 have hev:∀ j,a.eval (.tmp j)=Rv.ev a j:=fun _=>rfl
 have hcn:∀ v,a.eval (.const v)=v:=fun _=>rfl
 have hfn:∀ v,a.eval (.func v)=.func (.func v) #[] #[]:=fun _=>rfl
 have hsz:∀ k,k<251→k<a.tmps.size:=fun k hk=>by rw[hO.size];omega
 have g20:Rv.ev a 20=.int .i64 hh:=(hO.same 20 (by decide)).trans e20
 have g19:Rv.ev a 19=.int .i64 ww:=(hO.same 19 (by decide)).trans e19
 have g14:Rv.ev a 14=.int .i64 ex:=(hO.same 14 (by decide)).trans e14
 have g13:Rv.ev a 13=.int .i64 tx:=(hO.same 13 (by decide)).trans e13
 have g18:Rv.ev a 18=.int .i64 ez:=(hO.same 18 (by decide)).trans e18
 have g17:Rv.ev a 17=.int .i64 tz:=(hO.same 17 (by decide)).trans e17
 have hN:i=0∨i=1∨i=2∨i=3∨i=4∨i=5∨i=6∨i=7∨i=8∨i=9∨i=10∨i=11∨i=12∨i=13∨i=14∨i=15∨i=16∨i=17∨i=18∨i=19∨i=20∨i=21∨i=22∨i=23∨i=24:=by omega
 rcases hN with rfl|rfl|rfl|rfl|rfl|rfl|rfl|rfl|rfl|rfl|rfl|rfl|rfl|rfl|rfl|rfl|rfl|rfl|rfl|rfl|rfl|rfl|rfl|rfl|rfl
 ·exact Rv.run (o:=em0) rfl rfl (Rv.want_free rfl) (by unfold em0;simp only[execOp,hev,g20];rfl) hW
 ·have d179:Rv.ev a 179=.int .i64 hh:=hd 0 (by decide)
  exact Rv.run (o:=em1) rfl rfl (Rv.want_free rfl) (by unfold em1;simp only[execOp,hev,hcn,d179];go_simp<;>rfl) hW
 ·exact Rv.run (o:=em2) rfl rfl (Rv.want_free rfl) (by unfold em2;simp only[execOp,hev,g14];rfl) hW
 ·have d181:Rv.ev a 181=.int .i64 ex:=hd 2 (by decide)
  exact Rv.run (o:=em3) rfl rfl (Rv.want_free rfl) (by unfold em3;simp only[execOp,hev,hcn,d181];go_simp<;>rfl) hW
 ·have d182:Rv.ev a 182=.bool true:=hd 3 (by decide)
  exact Rv.run (o:=em4) rfl rfl (Rv.want_free rfl) (by unfold em4;simp only[execOp,hev,d182];rfl) hW
 ·have dg:Rv.ev a 183=.bool true:=hd 4 (by decide)
  exact Rv.run (o:=em5) rfl rfl (by rw[Rv.want_if (o':=em4) rfl rfl rfl (hsz 183 (by decide)) dg];first|rfl|simp) (by unfold em5;simp only[execOp,hev,g13];rfl) hW
 ·have d184:Rv.ev a 184=.int .i64 tx:=hd 5 (by decide)
  have dg:Rv.ev a 183=.bool true:=hd 4 (by decide)
  exact Rv.run (o:=em6) rfl rfl (by rw[Rv.want_if (o':=em4) rfl rfl rfl (hsz 183 (by decide)) dg];first|rfl|simp) (by unfold em6;simp only[execOp,hev,hcn,d184];go_simp<;>rfl) hW
 ·have d183:Rv.ev a 183=.bool true:=hd 4 (by decide)
  have d185:Rv.ev a 185=.bool true:=hd 6 (by decide)
  exact Rv.run (o:=em7) rfl rfl (Rv.want_free rfl) (by unfold em7;simp only[execOp,hev,hcn,d183,d185];go_simp<;>rfl) hW
 ·have d186:Rv.ev a 186=.bool true:=hd 7 (by decide)
  exact Rv.run (o:=em8) rfl rfl (Rv.want_free rfl) (by unfold em8;simp only[execOp,hev,d186];rfl) hW
 ·have dg:Rv.ev a 187=.bool true:=hd 8 (by decide)
  exact Rv.run (o:=em9) rfl rfl (by rw[Rv.want_if (o':=em8) rfl rfl rfl (hsz 187 (by decide)) dg];first|rfl|simp) (by unfold em9;simp only[execOp,hev,g18];rfl) hW
 ·have d188:Rv.ev a 188=.int .i64 ez:=hd 9 (by decide)
  have dg:Rv.ev a 187=.bool true:=hd 8 (by decide)
  exact Rv.run (o:=em10) rfl rfl (by rw[Rv.want_if (o':=em8) rfl rfl rfl (hsz 187 (by decide)) dg];first|rfl|simp) (by unfold em10;simp only[execOp,hev,hcn,d188];go_simp<;>rfl) hW
 ·have d187:Rv.ev a 187=.bool true:=hd 8 (by decide)
  have d189:Rv.ev a 189=.bool false:=hd 10 (by decide)
  exact Rv.run (o:=em11) rfl rfl (Rv.want_free rfl) (by unfold em11;simp only[execOp,hev,hcn,d187,d189];go_simp<;>rfl) hW
 ·have d190:Rv.ev a 190=.bool false:=hd 11 (by decide)
  exact Rv.run (o:=em12) rfl rfl (Rv.want_free rfl) (by unfold em12;simp only[execOp,hev,d190];rfl) hW
 ·have dg:Rv.ev a 191=.bool false:=hd 12 (by decide)
  exact Rv.skip (o:=em13) rfl rfl (by rw[Rv.want_if (o':=em12) rfl rfl rfl (hsz 191 (by decide)) dg];first|rfl|simp) hW
 ·have d192:Rv.ev a 192=undef:=hd 13 (by decide)
  have dg:Rv.ev a 191=.bool false:=hd 12 (by decide)
  exact Rv.skip (o:=em14) rfl rfl (by rw[Rv.want_if (o':=em12) rfl rfl rfl (hsz 191 (by decide)) dg];first|rfl|simp) hW
 ·have d191:Rv.ev a 191=.bool false:=hd 12 (by decide)
  have d193:Rv.ev a 193=undef:=hd 14 (by decide)
  exact Rv.run (o:=em15) rfl rfl (Rv.want_free rfl) (by unfold em15;simp only[execOp,hev,hcn,d191,d193];go_simp<;>rfl) hW
 ·have d180:Rv.ev a 180=.bool false:=hd 1 (by decide)
  have d194:Rv.ev a 194=.bool false:=hd 15 (by decide)
  exact Rv.run (o:=em16) rfl rfl (Rv.want_free rfl) (by unfold em16;simp only[execOp,hev,d180,d194];go_simp<;>rfl) hW
 ·have d195:Rv.ev a 195=.bool false:=hd 16 (by decide)
  exact Rv.run (o:=em17) rfl rfl (Rv.want_free rfl) (by unfold em17;simp only[execOp,hev,d195];rfl) hW
 ·have dg:Rv.ev a 196=.bool false:=hd 17 (by decide)
  exact Rv.run (o:=em18) rfl rfl (by rw[Rv.want_if (o':=em17) rfl rfl rfl (hsz 196 (by decide)) dg];first|rfl|simp) (by unfold em18;simp only[execOp,hev,g20];rfl) hW
 ·have d197:Rv.ev a 197=.int .i64 hh:=hd 18 (by decide)
  have dg:Rv.ev a 196=.bool false:=hd 17 (by decide)
  exact Rv.run (o:=em19) rfl rfl (by rw[Rv.want_if (o':=em17) rfl rfl rfl (hsz 196 (by decide)) dg];first|rfl|simp) (by unfold em19;simp only[execOp,hev,hcn,d197];go_simp<;>rfl) hW
 ·have d198:Rv.ev a 198=.bool false:=hd 19 (by decide)
  have dg:Rv.ev a 196=.bool false:=hd 17 (by decide)
  exact Rv.run (o:=em20) rfl rfl (by rw[Rv.want_if (o':=em17) rfl rfl rfl (hsz 196 (by decide)) dg];first|rfl|simp) (by unfold em20;simp only[execOp,hev,d198];rfl) hW
 ·have dg:Rv.ev a 199=.bool false:=hd 20 (by decide)
  exact Rv.skip (o:=em21) rfl rfl (by rw[Rv.want_if (o':=em20) rfl rfl rfl (hsz 199 (by decide)) dg];first|rfl|simp) hW
 ·have d200:Rv.ev a 200=undef:=hd 21 (by decide)
  have dg:Rv.ev a 199=.bool false:=hd 20 (by decide)
  exact Rv.skip (o:=em22) rfl rfl (by rw[Rv.want_if (o':=em20) rfl rfl rfl (hsz 199 (by decide)) dg];first|rfl|simp) hW
 ·have d199:Rv.ev a 199=.bool false:=hd 20 (by decide)
  have d201:Rv.ev a 201=undef:=hd 22 (by decide)
  have dg:Rv.ev a 196=.bool false:=hd 17 (by decide)
  exact Rv.run (o:=em23) rfl rfl (by rw[Rv.want_if (o':=em17) rfl rfl rfl (hsz 196 (by decide)) dg];first|rfl|simp) (by unfold em23;simp only[execOp,hev,hcn,d199,d201];go_simp<;>rfl) hW
 ·have d196:Rv.ev a 196=.bool false:=hd 17 (by decide)
  have d202:Rv.ev a 202=.bool false:=hd 23 (by decide)
  exact Rv.run (o:=em24) rfl rfl (Rv.want_free rfl) (by unfold em24;simp only[execOp,hev,hcn,d196,d202];go_simp<;>rfl) hW
end
def emL3V (hh ex tx ez tz:Int):Nat→Value
 |0=>.int .i64 hh
 |1=>.bool false
 |2=>.int .i64 ex
 |3=>.bool true
 |4=>.bool true
 |5=>.int .i64 tx
 |6=>.bool true
 |7=>.bool true
 |8=>.bool true
 |9=>.int .i64 ez
 |10=>.bool true
 |11=>.bool true
 |12=>.bool true
 |13=>.int .i64 tz
 |14=>.bool false
 |15=>.bool false
 |16=>.bool false
 |17=>.bool false
 |18=>.int .i64 hh
 |19=>.bool false
 |20=>.bool false
 |21=>undef
 |22=>undef
 |23=>.bool false
 |_=>.bool false
section
variable {Q:Exit→Act→World→Prop} {X0 w0:World} {a0:Act}
set_option maxHeartbeats 4000000 in
theorem emL3 {hh ww ex tx ez tz:Int} (g0:(ex==0)=true) (g1:(ez==0)=true) (g2:(hh==0)=false) (g3:(tx==1)=true) (g4:(tz==1)=false) (hs:251≤a0.tmps.size)
  (e20:Rv.ev a0 20=.int .i64 hh)
  (e19:Rv.ev a0 19=.int .i64 ww)
  (e14:Rv.ev a0 14=.int .i64 ex)
  (e13:Rv.ev a0 13=.int .i64 tx)
  (e18:Rv.ev a0 18=.int .i64 ez)
  (e17:Rv.ev a0 17=.int .i64 tz)
  (hw:Below X0.heap.size X0 w0)
  (hQ:∀ a w,Rv.Off 25 emsl a0 a→Below X0.heap.size X0 w→(∀ j,j<25→Rv.ev a (emsl j)=(emL3V hh ex tx ez tz) j)→Q .normal a w) :
  wpList Try.prog emops Q emops.toList a0 w0:=by
 refine Rv.list (X0:=X0) 25 emsl (emL3V hh ex tx ez tz) rfl (by decide) (by decide) (fun j hj=>Nat.lt_of_lt_of_le ((by decide:∀ j,j<25→emsl j<251) j hj) hs) hw ?_ hQ
 intro i a W hi hO hW hd
 have hev:∀ j,a.eval (.tmp j)=Rv.ev a j:=fun _=>rfl
 have hcn:∀ v,a.eval (.const v)=v:=fun _=>rfl
 have hfn:∀ v,a.eval (.func v)=.func (.func v) #[] #[]:=fun _=>rfl
 have hsz:∀ k,k<251→k<a.tmps.size:=fun k hk=>by rw[hO.size];omega
 have g20:Rv.ev a 20=.int .i64 hh:=(hO.same 20 (by decide)).trans e20
 have g19:Rv.ev a 19=.int .i64 ww:=(hO.same 19 (by decide)).trans e19
 have g14:Rv.ev a 14=.int .i64 ex:=(hO.same 14 (by decide)).trans e14
 have g13:Rv.ev a 13=.int .i64 tx:=(hO.same 13 (by decide)).trans e13
 have g18:Rv.ev a 18=.int .i64 ez:=(hO.same 18 (by decide)).trans e18
 have g17:Rv.ev a 17=.int .i64 tz:=(hO.same 17 (by decide)).trans e17
 have hN:i=0∨i=1∨i=2∨i=3∨i=4∨i=5∨i=6∨i=7∨i=8∨i=9∨i=10∨i=11∨i=12∨i=13∨i=14∨i=15∨i=16∨i=17∨i=18∨i=19∨i=20∨i=21∨i=22∨i=23∨i=24:=by omega
 rcases hN with rfl|rfl|rfl|rfl|rfl|rfl|rfl|rfl|rfl|rfl|rfl|rfl|rfl|rfl|rfl|rfl|rfl|rfl|rfl|rfl|rfl|rfl|rfl|rfl|rfl
 ·exact Rv.run (o:=em0) rfl rfl (Rv.want_free rfl) (by unfold em0;simp only[execOp,hev,g20];rfl) hW
 ·have d179:Rv.ev a 179=.int .i64 hh:=hd 0 (by decide)
  exact Rv.run (o:=em1) rfl rfl (Rv.want_free rfl) (by unfold em1;simp only[execOp,hev,hcn,d179];go_simp<;>rfl) hW
 ·exact Rv.run (o:=em2) rfl rfl (Rv.want_free rfl) (by unfold em2;simp only[execOp,hev,g14];rfl) hW
 ·have d181:Rv.ev a 181=.int .i64 ex:=hd 2 (by decide)
  exact Rv.run (o:=em3) rfl rfl (Rv.want_free rfl) (by unfold em3;simp only[execOp,hev,hcn,d181];go_simp<;>rfl) hW
 ·have d182:Rv.ev a 182=.bool true:=hd 3 (by decide)
  exact Rv.run (o:=em4) rfl rfl (Rv.want_free rfl) (by unfold em4;simp only[execOp,hev,d182];rfl) hW
 ·have dg:Rv.ev a 183=.bool true:=hd 4 (by decide)
  exact Rv.run (o:=em5) rfl rfl (by rw[Rv.want_if (o':=em4) rfl rfl rfl (hsz 183 (by decide)) dg];first|rfl|simp) (by unfold em5;simp only[execOp,hev,g13];rfl) hW
 ·have d184:Rv.ev a 184=.int .i64 tx:=hd 5 (by decide)
  have dg:Rv.ev a 183=.bool true:=hd 4 (by decide)
  exact Rv.run (o:=em6) rfl rfl (by rw[Rv.want_if (o':=em4) rfl rfl rfl (hsz 183 (by decide)) dg];first|rfl|simp) (by unfold em6;simp only[execOp,hev,hcn,d184];go_simp<;>rfl) hW
 ·have d183:Rv.ev a 183=.bool true:=hd 4 (by decide)
  have d185:Rv.ev a 185=.bool true:=hd 6 (by decide)
  exact Rv.run (o:=em7) rfl rfl (Rv.want_free rfl) (by unfold em7;simp only[execOp,hev,hcn,d183,d185];go_simp<;>rfl) hW
 ·have d186:Rv.ev a 186=.bool true:=hd 7 (by decide)
  exact Rv.run (o:=em8) rfl rfl (Rv.want_free rfl) (by unfold em8;simp only[execOp,hev,d186];rfl) hW
 ·have dg:Rv.ev a 187=.bool true:=hd 8 (by decide)
  exact Rv.run (o:=em9) rfl rfl (by rw[Rv.want_if (o':=em8) rfl rfl rfl (hsz 187 (by decide)) dg];first|rfl|simp) (by unfold em9;simp only[execOp,hev,g18];rfl) hW
 ·have d188:Rv.ev a 188=.int .i64 ez:=hd 9 (by decide)
  have dg:Rv.ev a 187=.bool true:=hd 8 (by decide)
  exact Rv.run (o:=em10) rfl rfl (by rw[Rv.want_if (o':=em8) rfl rfl rfl (hsz 187 (by decide)) dg];first|rfl|simp) (by unfold em10;simp only[execOp,hev,hcn,d188];go_simp<;>rfl) hW
 ·have d187:Rv.ev a 187=.bool true:=hd 8 (by decide)
  have d189:Rv.ev a 189=.bool true:=hd 10 (by decide)
  exact Rv.run (o:=em11) rfl rfl (Rv.want_free rfl) (by unfold em11;simp only[execOp,hev,hcn,d187,d189];go_simp<;>rfl) hW
 ·have d190:Rv.ev a 190=.bool true:=hd 11 (by decide)
  exact Rv.run (o:=em12) rfl rfl (Rv.want_free rfl) (by unfold em12;simp only[execOp,hev,d190];rfl) hW
 ·have dg:Rv.ev a 191=.bool true:=hd 12 (by decide)
  exact Rv.run (o:=em13) rfl rfl (by rw[Rv.want_if (o':=em12) rfl rfl rfl (hsz 191 (by decide)) dg];first|rfl|simp) (by unfold em13;simp only[execOp,hev,g17];rfl) hW
 ·have d192:Rv.ev a 192=.int .i64 tz:=hd 13 (by decide)
  have dg:Rv.ev a 191=.bool true:=hd 12 (by decide)
  exact Rv.run (o:=em14) rfl rfl (by rw[Rv.want_if (o':=em12) rfl rfl rfl (hsz 191 (by decide)) dg];first|rfl|simp) (by unfold em14;simp only[execOp,hev,hcn,d192];go_simp<;>rfl) hW
 ·have d191:Rv.ev a 191=.bool true:=hd 12 (by decide)
  have d193:Rv.ev a 193=.bool false:=hd 14 (by decide)
  exact Rv.run (o:=em15) rfl rfl (Rv.want_free rfl) (by unfold em15;simp only[execOp,hev,hcn,d191,d193];go_simp<;>rfl) hW
 ·have d180:Rv.ev a 180=.bool false:=hd 1 (by decide)
  have d194:Rv.ev a 194=.bool false:=hd 15 (by decide)
  exact Rv.run (o:=em16) rfl rfl (Rv.want_free rfl) (by unfold em16;simp only[execOp,hev,d180,d194];go_simp<;>rfl) hW
 ·have d195:Rv.ev a 195=.bool false:=hd 16 (by decide)
  exact Rv.run (o:=em17) rfl rfl (Rv.want_free rfl) (by unfold em17;simp only[execOp,hev,d195];rfl) hW
 ·have dg:Rv.ev a 196=.bool false:=hd 17 (by decide)
  exact Rv.run (o:=em18) rfl rfl (by rw[Rv.want_if (o':=em17) rfl rfl rfl (hsz 196 (by decide)) dg];first|rfl|simp) (by unfold em18;simp only[execOp,hev,g20];rfl) hW
 ·have d197:Rv.ev a 197=.int .i64 hh:=hd 18 (by decide)
  have dg:Rv.ev a 196=.bool false:=hd 17 (by decide)
  exact Rv.run (o:=em19) rfl rfl (by rw[Rv.want_if (o':=em17) rfl rfl rfl (hsz 196 (by decide)) dg];first|rfl|simp) (by unfold em19;simp only[execOp,hev,hcn,d197];go_simp<;>rfl) hW
 ·have d198:Rv.ev a 198=.bool false:=hd 19 (by decide)
  have dg:Rv.ev a 196=.bool false:=hd 17 (by decide)
  exact Rv.run (o:=em20) rfl rfl (by rw[Rv.want_if (o':=em17) rfl rfl rfl (hsz 196 (by decide)) dg];first|rfl|simp) (by unfold em20;simp only[execOp,hev,d198];rfl) hW
 ·have dg:Rv.ev a 199=.bool false:=hd 20 (by decide)
  exact Rv.skip (o:=em21) rfl rfl (by rw[Rv.want_if (o':=em20) rfl rfl rfl (hsz 199 (by decide)) dg];first|rfl|simp) hW
 ·have d200:Rv.ev a 200=undef:=hd 21 (by decide)
  have dg:Rv.ev a 199=.bool false:=hd 20 (by decide)
  exact Rv.skip (o:=em22) rfl rfl (by rw[Rv.want_if (o':=em20) rfl rfl rfl (hsz 199 (by decide)) dg];first|rfl|simp) hW
 ·have d199:Rv.ev a 199=.bool false:=hd 20 (by decide)
  have d201:Rv.ev a 201=undef:=hd 22 (by decide)
  have dg:Rv.ev a 196=.bool false:=hd 17 (by decide)
  exact Rv.run (o:=em23) rfl rfl (by rw[Rv.want_if (o':=em17) rfl rfl rfl (hsz 196 (by decide)) dg];first|rfl|simp) (by unfold em23;simp only[execOp,hev,hcn,d199,d201];go_simp<;>rfl) hW
 ·have d196:Rv.ev a 196=.bool false:=hd 17 (by decide)
  have d202:Rv.ev a 202=.bool false:=hd 23 (by decide)
  exact Rv.run (o:=em24) rfl rfl (Rv.want_free rfl) (by unfold em24;simp only[execOp,hev,hcn,d196,d202];go_simp<;>rfl) hW
end
def emL4V (hh ww ex tx ez tz:Int):Nat→Value
 |0=>.int .i64 hh
 |1=>.bool true
 |2=>.int .i64 ex
 |3=>.bool true
 |4=>.bool true
 |5=>.int .i64 tx
 |6=>.bool true
 |7=>.bool true
 |8=>.bool true
 |9=>.int .i64 ez
 |10=>.bool true
 |11=>.bool true
 |12=>.bool true
 |13=>.int .i64 tz
 |14=>.bool true
 |15=>.bool true
 |16=>.bool false
 |17=>.bool false
 |18=>.int .i64 hh
 |19=>.bool true
 |20=>.bool true
 |21=>.int .i64 ww
 |22=>.bool false
 |23=>.bool false
 |_=>.bool false
section
variable {Q:Exit→Act→World→Prop} {X0 w0:World} {a0:Act}
set_option maxHeartbeats 4000000 in
theorem emL4 {hh ww ex tx ez tz:Int} (g0:(ex==0)=true) (g1:(ez==0)=true) (g2:(hh==0)=true) (g3:(tx==1)=true) (g4:(tz==1)=true) (g5:(ww != 2)=false) (hs:251≤a0.tmps.size)
  (e20:Rv.ev a0 20=.int .i64 hh)
  (e19:Rv.ev a0 19=.int .i64 ww)
  (e14:Rv.ev a0 14=.int .i64 ex)
  (e13:Rv.ev a0 13=.int .i64 tx)
  (e18:Rv.ev a0 18=.int .i64 ez)
  (e17:Rv.ev a0 17=.int .i64 tz)
  (hw:Below X0.heap.size X0 w0)
  (hQ:∀ a w,Rv.Off 25 emsl a0 a→Below X0.heap.size X0 w→(∀ j,j<25→Rv.ev a (emsl j)=(emL4V hh ww ex tx ez tz) j)→Q .normal a w) :
  wpList Try.prog emops Q emops.toList a0 w0:=by
 refine Rv.list (X0:=X0) 25 emsl (emL4V hh ww ex tx ez tz) rfl (by decide) (by decide) (fun j hj=>Nat.lt_of_lt_of_le ((by decide:∀ j,j<25→emsl j<251) j hj) hs) hw ?_ hQ
 intro i a W hi hO hW hd
 have hev:∀ j,a.eval (.tmp j)=Rv.ev a j:=fun _=>rfl
 have hcn:∀ v,a.eval (.const v)=v:=fun _=>rfl
 have hfn:∀ v,a.eval (.func v)=.func (.func v) #[] #[]:=fun _=>rfl
 have hsz:∀ k,k<251→k<a.tmps.size:=fun k hk=>by rw[hO.size];omega
 have g20:Rv.ev a 20=.int .i64 hh:=(hO.same 20 (by decide)).trans e20
 have g19:Rv.ev a 19=.int .i64 ww:=(hO.same 19 (by decide)).trans e19
 have g14:Rv.ev a 14=.int .i64 ex:=(hO.same 14 (by decide)).trans e14
 have g13:Rv.ev a 13=.int .i64 tx:=(hO.same 13 (by decide)).trans e13
 have g18:Rv.ev a 18=.int .i64 ez:=(hO.same 18 (by decide)).trans e18
 have g17:Rv.ev a 17=.int .i64 tz:=(hO.same 17 (by decide)).trans e17
 have hN:i=0∨i=1∨i=2∨i=3∨i=4∨i=5∨i=6∨i=7∨i=8∨i=9∨i=10∨i=11∨i=12∨i=13∨i=14∨i=15∨i=16∨i=17∨i=18∨i=19∨i=20∨i=21∨i=22∨i=23∨i=24:=by omega
 rcases hN with rfl|rfl|rfl|rfl|rfl|rfl|rfl|rfl|rfl|rfl|rfl|rfl|rfl|rfl|rfl|rfl|rfl|rfl|rfl|rfl|rfl|rfl|rfl|rfl|rfl
 ·exact Rv.run (o:=em0) rfl rfl (Rv.want_free rfl) (by unfold em0;simp only[execOp,hev,g20];rfl) hW
 ·have d179:Rv.ev a 179=.int .i64 hh:=hd 0 (by decide)
  exact Rv.run (o:=em1) rfl rfl (Rv.want_free rfl) (by unfold em1;simp only[execOp,hev,hcn,d179];go_simp<;>rfl) hW
 ·exact Rv.run (o:=em2) rfl rfl (Rv.want_free rfl) (by unfold em2;simp only[execOp,hev,g14];rfl) hW
 ·have d181:Rv.ev a 181=.int .i64 ex:=hd 2 (by decide)
  exact Rv.run (o:=em3) rfl rfl (Rv.want_free rfl) (by unfold em3;simp only[execOp,hev,hcn,d181];go_simp<;>rfl) hW
 ·have d182:Rv.ev a 182=.bool true:=hd 3 (by decide)
  exact Rv.run (o:=em4) rfl rfl (Rv.want_free rfl) (by unfold em4;simp only[execOp,hev,d182];rfl) hW
 ·have dg:Rv.ev a 183=.bool true:=hd 4 (by decide)
  exact Rv.run (o:=em5) rfl rfl (by rw[Rv.want_if (o':=em4) rfl rfl rfl (hsz 183 (by decide)) dg];first|rfl|simp) (by unfold em5;simp only[execOp,hev,g13];rfl) hW
 ·have d184:Rv.ev a 184=.int .i64 tx:=hd 5 (by decide)
  have dg:Rv.ev a 183=.bool true:=hd 4 (by decide)
  exact Rv.run (o:=em6) rfl rfl (by rw[Rv.want_if (o':=em4) rfl rfl rfl (hsz 183 (by decide)) dg];first|rfl|simp) (by unfold em6;simp only[execOp,hev,hcn,d184];go_simp<;>rfl) hW
 ·have d183:Rv.ev a 183=.bool true:=hd 4 (by decide)
  have d185:Rv.ev a 185=.bool true:=hd 6 (by decide)
  exact Rv.run (o:=em7) rfl rfl (Rv.want_free rfl) (by unfold em7;simp only[execOp,hev,hcn,d183,d185];go_simp<;>rfl) hW
 ·have d186:Rv.ev a 186=.bool true:=hd 7 (by decide)
  exact Rv.run (o:=em8) rfl rfl (Rv.want_free rfl) (by unfold em8;simp only[execOp,hev,d186];rfl) hW
 ·have dg:Rv.ev a 187=.bool true:=hd 8 (by decide)
  exact Rv.run (o:=em9) rfl rfl (by rw[Rv.want_if (o':=em8) rfl rfl rfl (hsz 187 (by decide)) dg];first|rfl|simp) (by unfold em9;simp only[execOp,hev,g18];rfl) hW
 ·have d188:Rv.ev a 188=.int .i64 ez:=hd 9 (by decide)
  have dg:Rv.ev a 187=.bool true:=hd 8 (by decide)
  exact Rv.run (o:=em10) rfl rfl (by rw[Rv.want_if (o':=em8) rfl rfl rfl (hsz 187 (by decide)) dg];first|rfl|simp) (by unfold em10;simp only[execOp,hev,hcn,d188];go_simp<;>rfl) hW
 ·have d187:Rv.ev a 187=.bool true:=hd 8 (by decide)
  have d189:Rv.ev a 189=.bool true:=hd 10 (by decide)
  exact Rv.run (o:=em11) rfl rfl (Rv.want_free rfl) (by unfold em11;simp only[execOp,hev,hcn,d187,d189];go_simp<;>rfl) hW
 ·have d190:Rv.ev a 190=.bool true:=hd 11 (by decide)
  exact Rv.run (o:=em12) rfl rfl (Rv.want_free rfl) (by unfold em12;simp only[execOp,hev,d190];rfl) hW
 ·have dg:Rv.ev a 191=.bool true:=hd 12 (by decide)
  exact Rv.run (o:=em13) rfl rfl (by rw[Rv.want_if (o':=em12) rfl rfl rfl (hsz 191 (by decide)) dg];first|rfl|simp) (by unfold em13;simp only[execOp,hev,g17];rfl) hW
 ·have d192:Rv.ev a 192=.int .i64 tz:=hd 13 (by decide)
  have dg:Rv.ev a 191=.bool true:=hd 12 (by decide)
  exact Rv.run (o:=em14) rfl rfl (by rw[Rv.want_if (o':=em12) rfl rfl rfl (hsz 191 (by decide)) dg];first|rfl|simp) (by unfold em14;simp only[execOp,hev,hcn,d192];go_simp<;>rfl) hW
 ·have d191:Rv.ev a 191=.bool true:=hd 12 (by decide)
  have d193:Rv.ev a 193=.bool true:=hd 14 (by decide)
  exact Rv.run (o:=em15) rfl rfl (Rv.want_free rfl) (by unfold em15;simp only[execOp,hev,hcn,d191,d193];go_simp<;>rfl) hW
 ·have d180:Rv.ev a 180=.bool true:=hd 1 (by decide)
  have d194:Rv.ev a 194=.bool true:=hd 15 (by decide)
  exact Rv.run (o:=em16) rfl rfl (Rv.want_free rfl) (by unfold em16;simp only[execOp,hev,d180,d194];go_simp<;>rfl) hW
 ·have d195:Rv.ev a 195=.bool false:=hd 16 (by decide)
  exact Rv.run (o:=em17) rfl rfl (Rv.want_free rfl) (by unfold em17;simp only[execOp,hev,d195];rfl) hW
 ·have dg:Rv.ev a 196=.bool false:=hd 17 (by decide)
  exact Rv.run (o:=em18) rfl rfl (by rw[Rv.want_if (o':=em17) rfl rfl rfl (hsz 196 (by decide)) dg];first|rfl|simp) (by unfold em18;simp only[execOp,hev,g20];rfl) hW
 ·have d197:Rv.ev a 197=.int .i64 hh:=hd 18 (by decide)
  have dg:Rv.ev a 196=.bool false:=hd 17 (by decide)
  exact Rv.run (o:=em19) rfl rfl (by rw[Rv.want_if (o':=em17) rfl rfl rfl (hsz 196 (by decide)) dg];first|rfl|simp) (by unfold em19;simp only[execOp,hev,hcn,d197];go_simp<;>rfl) hW
 ·have d198:Rv.ev a 198=.bool true:=hd 19 (by decide)
  have dg:Rv.ev a 196=.bool false:=hd 17 (by decide)
  exact Rv.run (o:=em20) rfl rfl (by rw[Rv.want_if (o':=em17) rfl rfl rfl (hsz 196 (by decide)) dg];first|rfl|simp) (by unfold em20;simp only[execOp,hev,d198];rfl) hW
 ·have dg:Rv.ev a 199=.bool true:=hd 20 (by decide)
  exact Rv.run (o:=em21) rfl rfl (by rw[Rv.want_if (o':=em20) rfl rfl rfl (hsz 199 (by decide)) dg];first|rfl|simp) (by unfold em21;simp only[execOp,hev,g19];rfl) hW
 ·have d200:Rv.ev a 200=.int .i64 ww:=hd 21 (by decide)
  have dg:Rv.ev a 199=.bool true:=hd 20 (by decide)
  exact Rv.run (o:=em22) rfl rfl (by rw[Rv.want_if (o':=em20) rfl rfl rfl (hsz 199 (by decide)) dg];first|rfl|simp) (by unfold em22;simp only[execOp,hev,hcn,d200];go_simp<;>rfl) hW
 ·have d199:Rv.ev a 199=.bool true:=hd 20 (by decide)
  have d201:Rv.ev a 201=.bool false:=hd 22 (by decide)
  have dg:Rv.ev a 196=.bool false:=hd 17 (by decide)
  exact Rv.run (o:=em23) rfl rfl (by rw[Rv.want_if (o':=em17) rfl rfl rfl (hsz 196 (by decide)) dg];first|rfl|simp) (by unfold em23;simp only[execOp,hev,hcn,d199,d201];go_simp<;>rfl) hW
 ·have d196:Rv.ev a 196=.bool false:=hd 17 (by decide)
  have d202:Rv.ev a 202=.bool false:=hd 23 (by decide)
  exact Rv.run (o:=em24) rfl rfl (Rv.want_free rfl) (by unfold em24;simp only[execOp,hev,hcn,d196,d202];go_simp<;>rfl) hW
end
section
variable {Q:Exit→Act→World→Prop} {X0 w0:World} {a0:Act}
theorem emAll {hh ww ex tx ez tz:Int} (HI:(hh=0↔ex=0∧tx=1∧ez=0∧tz=1)∧(hh=0→ww=2)∧(¬ hh=0→hh=34∧ww=0)) (hs:251≤a0.tmps.size) (e20:Rv.ev a0 20=.int .i64 hh) (e19:Rv.ev a0 19=.int .i64 ww) (e14:Rv.ev a0 14=.int .i64 ex) (e13:Rv.ev a0 13=.int .i64 tx) (e18:Rv.ev a0 18=.int .i64 ez) (e17:Rv.ev a0 17=.int .i64 tz) (hw:Below X0.heap.size X0 w0)
  (hQ:∀ a w,Rv.Off 25 emsl a0 a→Below X0.heap.size X0 w→Rv.ev a 203=.bool false→Q .normal a w):wpList Try.prog emops Q emops.toList a0 w0:=by
 by_cases h0:ex=0
 ·by_cases h1:tx=1
  ·by_cases h2:ez=0
   ·by_cases h3:tz=1
    ·have hz0:hh=0:=HI.1.2 ⟨h0,h1,h2,h3⟩
     have hw0:ww=2:=HI.2.1 hz0
     clear HI
     exact emL4 (by simp_all) (by simp_all) (by simp_all) (by simp_all) (by simp_all) (by simp_all) hs e20 e19 e14 e13 e18 e17 hw fun a w hO hB hv=>hQ a w hO hB (hv 24 (by decide))
    ·have hz0:¬ hh=0:=fun h=>h3 (by have k:=HI.1.1 h;exact k.2.2.2)
     clear HI
     exact emL3 (by simp_all) (by simp_all) (by simp_all) (by simp_all) (by simp_all) hs e20 e19 e14 e13 e18 e17 hw fun a w hO hB hv=>hQ a w hO hB (hv 24 (by decide))
   ·have hz0:¬ hh=0:=fun h=>h2 (by have k:=HI.1.1 h;exact k.2.2.1)
    clear HI
    exact emL2 (by simp_all) (by simp_all) (by simp_all) (by simp_all) hs e20 e19 e14 e13 e18 e17 hw fun a w hO hB hv=>hQ a w hO hB (hv 24 (by decide))
  ·have hz0:¬ hh=0:=fun h=>h1 (by have k:=HI.1.1 h;exact k.2.1)
   clear HI
   exact emL1 (by simp_all) (by simp_all) (by simp_all) hs e20 e19 e14 e13 e18 e17 hw fun a w hO hB hv=>hQ a w hO hB (hv 24 (by decide))
 ·have hz0:¬ hh=0:=fun h=>h0 (by have k:=HI.1.1 h;exact k.1)
  clear HI
  exact emL0 (by simp_all) (by simp_all) hs e20 e19 e14 e13 e18 e17 hw fun a w hO hB hv=>hQ a w hO hB (hv 24 (by decide))
end
end Go.Proofs.Ytkbglnhdbnijlaa
