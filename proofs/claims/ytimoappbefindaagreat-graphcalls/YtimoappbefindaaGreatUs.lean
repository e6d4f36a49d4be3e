/-
  2 texts in one: what each proves stands at its head.
-/
import Derived.Test.YtimoappbefindaaGreatUe
import Derived.Test.YtimoappbefindaaGreatLs
namespace Go.Proofs.YtimoappbefindaaGreat
set_option maxHeartbeats 8000000
open Go.RowKit
set_option maxRecDepth 100000
def ef0 : Oper := { dst := some 14, op := Op.fieldAddr 49 (Operand.tmp 4) 0, type := 0, pos := "ref.go:115", after := #[], guard := none }
def ef1 : Oper := { dst := some 15, op := Op.load 30 (Operand.tmp 14), type := 30, pos := "ref.go:115", after := #[{ on := 0, ground := Ground.data }], guard := none }
def ef2 : Oper := { dst := some 16, op := Op.binOp BinOp.eql 30 (Operand.tmp 15) (Operand.const (Value.int IntKind.i64 0)) 30, type := 4, pos := "ref.go:115", after := #[{ on := 1, ground := Ground.data }], guard := none }
def ef3 : Oper := { dst := some 17, op := Op.move (Operand.tmp 16), type := 4, pos := "ref.go:115", after := #[{ on := 2, ground := Ground.data }], guard := none }
def ef4 : Oper := { dst := some 18, op := Op.move (Operand.tmp 3), type := 102, pos := "ref.go:115", after := #[{ on := 3, ground := Ground.guard }], guard := some (3, false) }
def ef5 : Oper := { dst := some 19, op := Op.move (Operand.tmp 5), type := 3, pos := "ref.go:115", after := #[{ on := 3, ground := Ground.guard }], guard := some (3, false) }
def ef6 : Oper := { dst := some 20, op := Op.indexAddr 102 (Operand.tmp 18) (Operand.tmp 19), type := 0, pos := "ref.go:115", after := #[{ on := 4, ground := Ground.data }, { on := 5, ground := Ground.data }, { on := 3, ground := Ground.guard }], guard := some (3, false) }
def ef7 : Oper := { dst := some 21, op := Op.fieldAddr 49 (Operand.tmp 20) 1, type := 0, pos := "ref.go:115", after := #[{ on := 6, ground := Ground.data }, { on := 3, ground := Ground.guard }], guard := some (3, false) }
def ef8 : Oper := { dst := some 22, op := Op.load 3 (Operand.tmp 21), type := 3, pos := "ref.go:115", after := #[{ on := 7, ground := Ground.data }, { on := 3, ground := Ground.guard }], guard := some (3, false) }
def ef9 : Oper := { dst := some 23, op := Op.fieldAddr 49 (Operand.tmp 4) 1, type := 0, pos := "ref.go:115", after := #[{ on := 3, ground := Ground.guard }], guard := some (3, false) }
def ef10 : Oper := { dst := some 24, op := Op.load 3 (Operand.tmp 23), type := 3, pos := "ref.go:115", after := #[{ on := 9, ground := Ground.data }, { on := 3, ground := Ground.guard }], guard := some (3, false) }
def ef11 : Oper := { dst := some 25, op := Op.binOp BinOp.lss 3 (Operand.tmp 22) (Operand.tmp 24) 3, type := 4, pos := "ref.go:115", after := #[{ on := 8, ground := Ground.data }, { on := 10, ground := Ground.data }, { on := 3, ground := Ground.guard }], guard := some (3, false) }
def ef12 : Oper := { dst := some 26, op := Op.pick (Operand.tmp 17) (Operand.const (Value.bool true)) (Operand.tmp 25), type := 4, pos := "ref.go:115", after := #[{ on := 3, ground := Ground.data }, { on := 11, ground := Ground.data }], guard := none }
def efops:Array Oper:=#[ef0,ef1,ef2,ef3,ef4,ef5,ef6,ef7,ef8,ef9,ef10,ef11,ef12]
def efsl (k:Nat):Nat:=14+k
def efV (b4:Nat) (l1:Int):Nat→Value
 |0=>.pointer (some ⟨b4,0,none⟩)
 |1=>.int .i64 l1
 |2=>.bool true
 |3=>.bool true
 |4=>undef
 |5=>undef
 |6=>undef
 |7=>undef
 |8=>undef
 |9=>undef
 |10=>undef
 |11=>undef
 |_=>.bool true
section
variable {Q:Exit→Act→World→Prop} {X0 w0:World} {a0:Act}
theorem chk6t {b4 g n cf k:Nat} {l1 l2 f2:Int} (_hk:k<n) (hc:∀ w,Below X0.heap.size X0 w→w.cell? ⟨b4,0,none⟩=some (.int .i64 l1)∧w.cell? ⟨b4,1,none⟩=some (.int .i64 l2)∧w.cell? ⟨g,k*2+1,none⟩=some (.int .i64 f2)) (h0:l1=0) (hs:32≤a0.tmps.size)
  (e4:Rv.ev a0 4=.pointer (some ⟨b4,0,none⟩))
  (e3:Rv.ev a0 3=.slice (some ⟨g,0,none⟩) n cf)
  (e5:Rv.ev a0 5=.int .i64 k)
  (hw:Below X0.heap.size X0 w0)
  (hQ:∀ a w,Rv.Off 13 efsl a0 a→Below X0.heap.size X0 w→(∀ j,j<13→Rv.ev a (efsl j)=(efV b4 l1) j)→Q .normal a w) :
  wpAny Tryz.prog .any efops Q 13 (Array.replicate 13 false) a0 w0:=by
 refine Rv.region (X0:=X0) 13 efsl (efV b4 l1) rfl (by decide) (by decide) (fun j hj=>Nat.lt_of_lt_of_le ((by decide:∀ j,j<13→efsl j<32) j hj) hs) hw ?_ hQ
 intro i a W hi hO hW hd
 have hev:∀ j,a.eval (.tmp j)=Rv.ev a j:=fun _=>rfl
 have hcn:∀ v,a.eval (.const v)=v:=fun _=>rfl
 have hfn:∀ v,a.eval (.func v)=.func (.func v) #[] #[]:=fun _=>rfl
 have hsz:∀ k,k<32→k<a.tmps.size:=fun k hk=>by rw[hO.size];omega
 have g4:Rv.ev a 4=.pointer (some ⟨b4,0,none⟩):=(hO.same 4 (by decide)).trans e4
 have g3:Rv.ev a 3=.slice (some ⟨g,0,none⟩) n cf:=(hO.same 3 (by decide)).trans e3
 have g5:Rv.ev a 5=.int .i64 k:=(hO.same 5 (by decide)).trans e5
 obtain⟨r0,r1,r2⟩:=hc W hW
 have hz:(l1==0)=true:=by simpa using h0
 have hN:i=0∨i=1∨i=2∨i=3∨i=4∨i=5∨i=6∨i=7∨i=8∨i=9∨i=10∨i=11∨i=12:=by omega
 rcases hN with rfl|rfl|rfl|rfl|rfl|rfl|rfl|rfl|rfl|rfl|rfl|rfl|rfl
 ·exact Rv.run (o:=ef0) rfl rfl (Rv.want_free rfl) (by unfold ef0;simp only[execOp,hev,g4];go_simp<;>rfl) hW
 ·have d14:Rv.ev a 14=.pointer (some ⟨b4,0,none⟩):=hd 0 (by decide)
  exact Rv.run (o:=ef1) rfl rfl (Rv.want_free rfl) (by unfold ef1;simp only[execOp,hev,d14];go_simp<;>rfl) hW
 ·have d15:Rv.ev a 15=.int .i64 l1:=hd 1 (by decide)
  exact Rv.run (o:=ef2) rfl rfl (Rv.want_free rfl) (by unfold ef2;simp only[execOp,hev,hcn,d15];go_simp<;>rfl) hW
 ·have d16:Rv.ev a 16=.bool true:=hd 2 (by decide)
  exact Rv.run (o:=ef3) rfl rfl (Rv.want_free rfl) (by unfold ef3;simp only[execOp,hev,d16];rfl) hW
 ·have dg:Rv.ev a 17=.bool true:=hd 3 (by decide)
  exact Rv.skip (o:=ef4) rfl rfl (by rw[Rv.want_if (o':=ef3) rfl rfl rfl (hsz 17 (by decide)) dg];first|rfl|simp) hW
 ·have dg:Rv.ev a 17=.bool true:=hd 3 (by decide)
  exact Rv.skip (o:=ef5) rfl rfl (by rw[Rv.want_if (o':=ef3) rfl rfl rfl (hsz 17 (by decide)) dg];first|rfl|simp) hW
 ·have d18:Rv.ev a 18=undef:=hd 4 (by decide)
  have d19:Rv.ev a 19=undef:=hd 5 (by decide)
  have dg:Rv.ev a 17=.bool true:=hd 3 (by decide)
  exact Rv.skip (o:=ef6) rfl rfl (by rw[Rv.want_if (o':=ef3) rfl rfl rfl (hsz 17 (by decide)) dg];first|rfl|simp) hW
 ·have d20:Rv.ev a 20=undef:=hd 6 (by decide)
  have dg:Rv.ev a 17=.bool true:=hd 3 (by decide)
  exact Rv.skip (o:=ef7) rfl rfl (by rw[Rv.want_if (o':=ef3) rfl rfl rfl (hsz 17 (by decide)) dg];first|rfl|simp) hW
 ·have d21:Rv.ev a 21=undef:=hd 7 (by decide)
  have dg:Rv.ev a 17=.bool true:=hd 3 (by decide)
  exact Rv.skip (o:=ef8) rfl rfl (by rw[Rv.want_if (o':=ef3) rfl rfl rfl (hsz 17 (by decide)) dg];first|rfl|simp) hW
 ·have dg:Rv.ev a 17=.bool true:=hd 3 (by decide)
  exact Rv.skip (o:=ef9) rfl rfl (by rw[Rv.want_if (o':=ef3) rfl rfl rfl (hsz 17 (by decide)) dg];first|rfl|simp) hW
 ·have d23:Rv.ev a 23=undef:=hd 9 (by decide)
  have dg:Rv.ev a 17=.bool true:=hd 3 (by decide)
  exact Rv.skip (o:=ef10) rfl rfl (by rw[Rv.want_if (o':=ef3) rfl rfl rfl (hsz 17 (by decide)) dg];first|rfl|simp) hW
 ·have d22:Rv.ev a 22=undef:=hd 8 (by decide)
  have d24:Rv.ev a 24=undef:=hd 10 (by decide)
  have dg:Rv.ev a 17=.bool true:=hd 3 (by decide)
  exact Rv.skip (o:=ef11) rfl rfl (by rw[Rv.want_if (o':=ef3) rfl rfl rfl (hsz 17 (by decide)) dg];first|rfl|simp) hW
 ·have d17:Rv.ev a 17=.bool true:=hd 3 (by decide)
  have d25:Rv.ev a 25=undef:=hd 11 (by decide)
  exact Rv.run (o:=ef12) rfl rfl (Rv.want_free rfl) (by unfold ef12;simp only[execOp,hev,hcn,d17,d25];go_simp<;>rfl) hW
end
def eg0 : Oper := { dst := some 14, op := Op.fieldAddr 49 (Operand.tmp 4) 0, type := 0, pos := "ref.go:115", after := #[], guard := none }
def eg1 : Oper := { dst := some 15, op := Op.load 30 (Operand.tmp 14), type := 30, pos := "ref.go:115", after := #[{ on := 0, ground := Ground.data }], guard := none }
def eg2 : Oper := { dst := some 16, op := Op.binOp BinOp.eql 30 (Operand.tmp 15) (Operand.const (Value.int IntKind.i64 0)) 30, type := 4, pos := "ref.go:115", after := #[{ on := 1, ground := Ground.data }], guard := none }
def eg3 : Oper := { dst := some 17, op := Op.move (Operand.tmp 16), type := 4, pos := "ref.go:115", after := #[{ on := 2, ground := Ground.data }], guard := none }
def eg4 : Oper := { dst := some 18, op := Op.move (Operand.tmp 3), type := 102, pos := "ref.go:115", after := #[{ on := 3, ground := Ground.guard }], guard := some (3, false) }
def eg5 : Oper := { dst := some 19, op := Op.move (Operand.tmp 5), type := 3, pos := "ref.go:115", after := #[{ on := 3, ground := Ground.guard }], guard := some (3, false) }
def eg6 : Oper := { dst := some 20, op := Op.indexAddr 102 (Operand.tmp 18) (Operand.tmp 19), type := 0, pos := "ref.go:115", after := #[{ on := 4, ground := Ground.data }, { on := 5, ground := Ground.data }, { on := 3, ground := Ground.guard }], guard := some (3, false) }
def eg7 : Oper := { dst := some 21, op := Op.fieldAddr 49 (Operand.tmp 20) 1, type := 0, pos := "ref.go:115", after := #[{ on := 6, ground := Ground.data }, { on := 3, ground := Ground.guard }], guard := some (3, false) }
def eg8 : Oper := { dst := some 22, op := Op.load 3 (Operand.tmp 21), type := 3, pos := "ref.go:115", after := #[{ on := 7, ground := Ground.data }, { on := 3, ground := Ground.guard }], guard := some (3, false) }
def eg9 : Oper := { dst := some 23, op := Op.fieldAddr 49 (Operand.tmp 4) 1, type := 0, pos := "ref.go:115", after := #[{ on := 3, ground := Ground.guard }], guard := some (3, false) }
def eg10 : Oper := { dst := some 24, op := Op.load 3 (Operand.tmp 23), type := 3, pos := "ref.go:115", after := #[{ on := 9, ground := Ground.data }, { on := 3, ground := Ground.guard }], guard := some (3, false) }
def eg11 : Oper := { dst := some 25, op := Op.binOp BinOp.lss 3 (Operand.tmp 22) (Operand.tmp 24) 3, type := 4, pos := "ref.go:115", after := #[{ on := 8, ground := Ground.data }, { on := 10, ground := Ground.data }, { on := 3, ground := Ground.guard }], guard := some (3, false) }
def eg12 : Oper := { dst := some 26, op := Op.pick (Operand.tmp 17) (Operand.const (Value.bool true)) (Operand.tmp 25), type := 4, pos := "ref.go:115", after := #[{ on := 3, ground := Ground.data }, { on := 11, ground := Ground.data }], guard := none }
def egops:Array Oper:=#[eg0,eg1,eg2,eg3,eg4,eg5,eg6,eg7,eg8,eg9,eg10,eg11,eg12]
def egsl (k:Nat):Nat:=14+k
def egV (b4 g n cf k:Nat) (l1 l2 f2:Int):Nat→Value
 |0=>.pointer (some ⟨b4,0,none⟩)
 |1=>.int .i64 l1
 |2=>.bool false
 |3=>.bool false
 |4=>.slice (some ⟨g,0,none⟩) n cf
 |5=>.int .i64 k
 |6=>.pointer (some ⟨g,k*2,none⟩)
 |7=>.pointer (some ⟨g,k*2+1,none⟩)
 |8=>.int .i64 f2
 |9=>.pointer (some ⟨b4,1,none⟩)
 |10=>.int .i64 l2
 |11=>.bool (decide (f2<l2))
 |_=>.bool (decide (f2<l2))
section
variable {Q:Exit→Act→World→Prop} {X0 w0:World} {a0:Act}
theorem chk6f {b4 g n cf k:Nat} {l1 l2 f2:Int} (hk:k<n) (hc:∀ w,Below X0.heap.size X0 w→w.cell? ⟨b4,0,none⟩=some (.int .i64 l1)∧w.cell? ⟨b4,1,none⟩=some (.int .i64 l2)∧w.cell? ⟨g,k*2+1,none⟩=some (.int .i64 f2)) (h0:¬ l1=0) (hs:32≤a0.tmps.size)
  (e4:Rv.ev a0 4=.pointer (some ⟨b4,0,none⟩))
  (e3:Rv.ev a0 3=.slice (some ⟨g,0,none⟩) n cf)
  (e5:Rv.ev a0 5=.int .i64 k)
  (hw:Below X0.heap.size X0 w0)
  (hQ:∀ a w,Rv.Off 13 egsl a0 a→Below X0.heap.size X0 w→(∀ j,j<13→Rv.ev a (egsl j)=(egV b4 g n cf k l1 l2 f2) j)→Q .normal a w) :
  wpAny Tryz.prog .any egops Q 13 (Array.replicate 13 false) a0 w0:=by
 refine Rv.region (X0:=X0) 13 egsl (egV b4 g n cf k l1 l2 f2) rfl (by decide) (by decide) (fun j hj=>Nat.lt_of_lt_of_le ((by decide:∀ j,j<13→egsl j<32) j hj) hs) hw ?_ hQ
 intro i a W hi hO hW hd
 have hev:∀ j,a.eval (.tmp j)=Rv.ev a j:=fun _=>rfl
 have hcn:∀ v,a.eval (.const v)=v:=fun _=>rfl
 have hfn:∀ v,a.eval (.func v)=.func (.func v) #[] #[]:=fun _=>rfl
 have hsz:∀ k,k<32→k<a.tmps.size:=fun k hk=>by rw[hO.size];omega
 have g4:Rv.ev a 4=.pointer (some ⟨b4,0,none⟩):=(hO.same 4 (by decide)).trans e4
 have g3:Rv.ev a 3=.slice (some ⟨g,0,none⟩) n cf:=(hO.same 3 (by decide)).trans e3
 have g5:Rv.ev a 5=.int .i64 k:=(hO.same 5 (by decide)).trans e5
 obtain⟨r0,r1,r2⟩:=hc W hW
 have hz:(l1==0)=false:=by simpa using h0
 have hN:i=0∨i=1∨i=2∨i=3∨i=4∨i=5∨i=6∨i=7∨i=8∨i=9∨i=10∨i=11∨i=12:=by omega
 rcases hN with rfl|rfl|rfl|rfl|rfl|rfl|rfl|rfl|rfl|rfl|rfl|rfl|rfl
 ·exact Rv.run (o:=eg0) rfl rfl (Rv.want_free rfl) (by unfold eg0;simp only[execOp,hev,g4];go_simp<;>rfl) hW
 ·have d14:Rv.ev a 14=.pointer (some ⟨b4,0,none⟩):=hd 0 (by decide)
  exact Rv.run (o:=eg1) rfl rfl (Rv.want_free rfl) (by unfold eg1;simp only[execOp,hev,d14];go_simp<;>rfl) hW
 ·have d15:Rv.ev a 15=.int .i64 l1:=hd 1 (by decide)
  exact Rv.run (o:=eg2) rfl rfl (Rv.want_free rfl) (by unfold eg2;simp only[execOp,hev,hcn,d15];go_simp<;>rfl) hW
 ·have d16:Rv.ev a 16=.bool false:=hd 2 (by decide)
  exact Rv.run (o:=eg3) rfl rfl (Rv.want_free rfl) (by unfold eg3;simp only[execOp,hev,d16];rfl) hW
 ·have dg:Rv.ev a 17=.bool false:=hd 3 (by decide)
  exact Rv.run (o:=eg4) rfl rfl (by rw[Rv.want_if (o':=eg3) rfl rfl rfl (hsz 17 (by decide)) dg];first|rfl|simp) (by unfold eg4;simp only[execOp,hev,g3];rfl) hW
 ·have dg:Rv.ev a 17=.bool false:=hd 3 (by decide)
  exact Rv.run (o:=eg5) rfl rfl (by rw[Rv.want_if (o':=eg3) rfl rfl rfl (hsz 17 (by decide)) dg];first|rfl|simp) (by unfold eg5;simp only[execOp,hev,g5];rfl) hW
 ·have d18:Rv.ev a 18=.slice (some ⟨g,0,none⟩) n cf:=hd 4 (by decide)
  have d19:Rv.ev a 19=.int .i64 k:=hd 5 (by decide)
  have dg:Rv.ev a 17=.bool false:=hd 3 (by decide)
  exact Rv.run (o:=eg6) rfl rfl (by rw[Rv.want_if (o':=eg3) rfl rfl rfl (hsz 17 (by decide)) dg];first|rfl|simp) (by unfold eg6;simp only[execOp,hev,d18,d19];go_simp<;>rfl) hW
 ·have d20:Rv.ev a 20=.pointer (some ⟨g,k*2,none⟩):=hd 6 (by decide)
  have dg:Rv.ev a 17=.bool false:=hd 3 (by decide)
  exact Rv.run (o:=eg7) rfl rfl (by rw[Rv.want_if (o':=eg3) rfl rfl rfl (hsz 17 (by decide)) dg];first|rfl|simp) (by unfold eg7;simp only[execOp,hev,d20];go_simp<;>rfl) hW
 ·have d21:Rv.ev a 21=.pointer (some ⟨g,k*2+1,none⟩):=hd 7 (by decide)
  have dg:Rv.ev a 17=.bool false:=hd 3 (by decide)
  exact Rv.run (o:=eg8) rfl rfl (by rw[Rv.want_if (o':=eg3) rfl rfl rfl (hsz 17 (by decide)) dg];first|rfl|simp) (by unfold eg8;simp only[execOp,hev,d21];go_simp<;>rfl) hW
 ·have dg:Rv.ev a 17=.bool false:=hd 3 (by decide)
  exact Rv.run (o:=eg9) rfl rfl (by rw[Rv.want_if (o':=eg3) rfl rfl rfl (hsz 17 (by decide)) dg];first|rfl|simp) (by unfold eg9;simp only[execOp,hev,g4];go_simp<;>rfl) hW
 ·have d23:Rv.ev a 23=.pointer (some ⟨b4,1,none⟩):=hd 9 (by decide)
  have dg:Rv.ev a 17=.bool false:=hd 3 (by decide)
  exact Rv.run (o:=eg10) rfl rfl (by rw[Rv.want_if (o':=eg3) rfl rfl rfl (hsz 17 (by decide)) dg];first|rfl|simp) (by unfold eg10;simp only[execOp,hev,d23];go_simp<;>rfl) hW
 ·have d22:Rv.ev a 22=.int .i64 f2:=hd 8 (by decide)
  have d24:Rv.ev a 24=.int .i64 l2:=hd 10 (by decide)
  have dg:Rv.ev a 17=.bool false:=hd 3 (by decide)
  exact Rv.run (o:=eg11) rfl rfl (by rw[Rv.want_if (o':=eg3) rfl rfl rfl (hsz 17 (by decide)) dg];first|rfl|simp) (by unfold eg11;simp only[execOp,hev,d22,d24];go_simp<;>rfl) hW
 ·have d17:Rv.ev a 17=.bool false:=hd 3 (by decide)
  have d25:Rv.ev a 25=.bool (decide (f2<l2)):=hd 11 (by decide)
  exact Rv.run (o:=eg12) rfl rfl (Rv.want_free rfl) (by unfold eg12;simp only[execOp,hev,hcn,d17,d25];go_simp<;>rfl) hW
end
theorem tV (f:Nat→Value):((List.range 32).map f).toArray=#[f 0,f 1,f 2,f 3,f 4,f 5,f 6,f 7,f 8,f 9,f 10,f 11,f 12,f 13,f 14,f 15,f 16,f 17,f 18,f 19,f 20,f 21,f 22,f 23,f 24,f 25,f 26,f 27,f 28,f 29,f 30,f 31]:=rfl
theorem tF (a:Act) (h:a.tmps.size=32):a.tmps=((List.range 32).map (Rv.ev a)).toArray:=by
 apply Array.ext
 ·simp[h]
 ·intro i h1 h2
  simp[Rv.ev,Act.eval,h1]
theorem offF {x0 x1 x2 x3 x4 x5 x6 x7 x8 x9 x10 x11 x12 x13 x14 x15 x16 x17 x18 x19 x20 x21 x22 x23 x24 x25 x26 x27 x28 x29 x30 x31:Value} {a:Act} (h:Rv.Off 13 efsl { tmps:=#[x0,x1,x2,x3,x4,x5,x6,x7,x8,x9,x10,x11,x12,x13,x14,x15,x16,x17,x18,x19,x20,x21,x22,x23,x24,x25,x26,x27,x28,x29,x30,x31],defers:=[] } a):∃ y14 y15 y16 y17 y18 y19 y20 y21 y22 y23 y24 y25 y26,(Rv.ev a 14=y14∧Rv.ev a 15=y15∧Rv.ev a 16=y16∧Rv.ev a 17=y17∧Rv.ev a 18=y18∧Rv.ev a 19=y19∧Rv.ev a 20=y20∧Rv.ev a 21=y21∧Rv.ev a 22=y22∧Rv.ev a 23=y23∧Rv.ev a 24=y24∧Rv.ev a 25=y25∧Rv.ev a 26=y26)∧a={ tmps:=#[x0,x1,x2,x3,x4,x5,x6,x7,x8,x9,x10,x11,x12,x13,y14,y15,y16,y17,y18,y19,y20,y21,y22,y23,y24,y25,y26,x27,x28,x29,x30,x31],defers:=[] }:=by
 refine⟨Rv.ev a 14,Rv.ev a 15,Rv.ev a 16,Rv.ev a 17,Rv.ev a 18,Rv.ev a 19,Rv.ev a 20,Rv.ev a 21,Rv.ev a 22,Rv.ev a 23,Rv.ev a 24,Rv.ev a 25,Rv.ev a 26,⟨rfl,rfl,rfl,rfl,rfl,rfl,rfl,rfl,rfl,rfl,rfl,rfl,rfl⟩,?_⟩
 have e:=tF a h.size
 rw[tV] at e
 have h0:Rv.ev a 0=x0:=h.same 0 (by decide)
 have h1:Rv.ev a 1=x1:=h.same 1 (by decide)
 have h2:Rv.ev a 2=x2:=h.same 2 (by decide)
 have h3:Rv.ev a 3=x3:=h.same 3 (by decide)
 have h4:Rv.ev a 4=x4:=h.same 4 (by decide)
 have h5:Rv.ev a 5=x5:=h.same 5 (by decide)
 have h6:Rv.ev a 6=x6:=h.same 6 (by decide)
 have h7:Rv.ev a 7=x7:=h.same 7 (by decide)
 have h8:Rv.ev a 8=x8:=h.same 8 (by decide)
 have h9:Rv.ev a 9=x9:=h.same 9 (by decide)
 have h10:Rv.ev a 10=x10:=h.same 10 (by decide)
 have h11:Rv.ev a 11=x11:=h.same 11 (by decide)
 have h12:Rv.ev a 12=x12:=h.same 12 (by decide)
 have h13:Rv.ev a 13=x13:=h.same 13 (by decide)
 have h27:Rv.ev a 27=x27:=h.same 27 (by decide)
 have h28:Rv.ev a 28=x28:=h.same 28 (by decide)
 have h29:Rv.ev a 29=x29:=h.same 29 (by decide)
 have h30:Rv.ev a 30=x30:=h.same 30 (by decide)
 have h31:Rv.ev a 31=x31:=h.same 31 (by decide)
 rw[h0,h1,h2,h3,h4,h5,h6,h7,h8,h9,h10,h11,h12,h13,h27,h28,h29,h30,h31] at e
 have hd:a.defers=[]:=h.def_
 cases a
 simp only at e hd
 rw[hd]
 exact congrArg (fun t=>({ tmps:=t,defers:=[] }:Act)) e
theorem offG {x0 x1 x2 x3 x4 x5 x6 x7 x8 x9 x10 x11 x12 x13 x14 x15 x16 x17 x18 x19 x20 x21 x22 x23 x24 x25 x26 x27 x28 x29 x30 x31:Value} {a:Act} (h:Rv.Off 13 egsl { tmps:=#[x0,x1,x2,x3,x4,x5,x6,x7,x8,x9,x10,x11,x12,x13,x14,x15,x16,x17,x18,x19,x20,x21,x22,x23,x24,x25,x26,x27,x28,x29,x30,x31],defers:=[] } a):∃ y14 y15 y16 y17 y18 y19 y20 y21 y22 y23 y24 y25 y26,(Rv.ev a 14=y14∧Rv.ev a 15=y15∧Rv.ev a 16=y16∧Rv.ev a 17=y17∧Rv.ev a 18=y18∧Rv.ev a 19=y19∧Rv.ev a 20=y20∧Rv.ev a 21=y21∧Rv.ev a 22=y22∧Rv.ev a 23=y23∧Rv.ev a 24=y24∧Rv.ev a 25=y25∧Rv.ev a 26=y26)∧a={ tmps:=#[x0,x1,x2,x3,x4,x5,x6,x7,x8,x9,x10,x11,x12,x13,y14,y15,y16,y17,y18,y19,y20,y21,y22,y23,y24,y25,y26,x27,x28,x29,x30,x31],defers:=[] }:=by
 refine⟨Rv.ev a 14,Rv.ev a 15,Rv.ev a 16,Rv.ev a 17,Rv.ev a 18,Rv.ev a 19,Rv.ev a 20,Rv.ev a 21,Rv.ev a 22,Rv.ev a 23,Rv.ev a 24,Rv.ev a 25,Rv.ev a 26,⟨rfl,rfl,rfl,rfl,rfl,rfl,rfl,rfl,rfl,rfl,rfl,rfl,rfl⟩,?_⟩
 have e:=tF a h.size
 rw[tV] at e
 have h0:Rv.ev a 0=x0:=h.same 0 (by decide)
 have h1:Rv.ev a 1=x1:=h.same 1 (by decide)
 have h2:Rv.ev a 2=x2:=h.same 2 (by decide)
 have h3:Rv.ev a 3=x3:=h.same 3 (by decide)
 have h4:Rv.ev a 4=x4:=h.same 4 (by decide)
 have h5:Rv.ev a 5=x5:=h.same 5 (by decide)
 have h6:Rv.ev a 6=x6:=h.same 6 (by decide)
 have h7:Rv.ev a 7=x7:=h.same 7 (by decide)
 have h8:Rv.ev a 8=x8:=h.same 8 (by decide)
 have h9:Rv.ev a 9=x9:=h.same 9 (by decide)
 have h10:Rv.ev a 10=x10:=h.same 10 (by decide)
 have h11:Rv.ev a 11=x11:=h.same 11 (by decide)
 have h12:Rv.ev a 12=x12:=h.same 12 (by decide)
 have h13:Rv.ev a 13=x13:=h.same 13 (by decide)
 have h27:Rv.ev a 27=x27:=h.same 27 (by decide)
 have h28:Rv.ev a 28=x28:=h.same 28 (by decide)
 have h29:Rv.ev a 29=x29:=h.same 29 (by decide)
 have h30:Rv.ev a 30=x30:=h.same 30 (by decide)
 have h31:Rv.ev a 31=x31:=h.same 31 (by decide)
 rw[h0,h1,h2,h3,h4,h5,h6,h7,h8,h9,h10,h11,h12,h13,h27,h28,h29,h30,h31] at e
 have hd:a.defers=[]:=h.def_
 cases a
 simp only at e hd
 rw[hd]
 exact congrArg (fun t=>({ tmps:=t,defers:=[] }:Act)) e
open Go.RowKit Go.Maps
theorem fP {w:World} {A:Nat→Prop} {ao:Option Addr} {gs:List Fn1} {c:Nat} (hF:FlW w A ao gs) (hA:∀ k,A k→k<w.heap.size) (hsz:∀ g∈gs,szE g.body≤65536) (hps:∀ g∈gs,g.pms.length≤65536) (hgs:gs.length≤65536) :
  Calls Tryz.prog 28 #[.agg #[.slice ao gs.length c]] w fun e w'=>e=.returned (.agg #[.int .i64 (lsP (ftP gs)).1,.int .i64 (lsP (ftP gs)).2])∧Below w.heap.size w w':=by
 have hb0:=bC w (.cells #[.slice ao gs.length c] 26) (.cells #[.int .i64 0,.int .i64 0] 49)
 have hL0:=(Bk.new w 26 #[.slice ao gs.length c]).up (ae _ (.cells #[.int .i64 0,.int .i64 0] 49))
 have hR0:=Bk.newAt (w:=w.alloc (.cells #[.slice ao gs.length c] 26)) (n:=w.heap.size+1) 49 #[.int .i64 0,.int .i64 0] (by simp)
 have hl0:=ni gs hsz hps gs.length (Nat.le_refl _)
 obtain⟨fs,hfs⟩:∃ fs,fs=ftP gs:=⟨_,rfl⟩
 rw[← hfs]
 go_enter Tryz.func28,Tryz.ntmps28
 go_upto_region 1 with fail
 obtain⟨W,hW⟩:∃ W,W=(w.alloc (.cells #[.slice ao gs.length c] 26)).alloc (.cells #[.int .i64 0,.int .i64 0] 49):=⟨_,rfl⟩
 rw[← hW] at hb0 hL0 hR0 ⊢
 clear hW
 have hwW:w.heap.size+1<W.heap.size:=hR0.lt
 have c0:W.cell? ⟨w.heap.size,0,none⟩=some (.slice ao gs.length c):=hL0.cell 0
 have hfa:=faults_any (c:=c) (hF.up hb0) (fun k h=>by have:=hA k h;omega) hsz hps hgs
 have hl1:fs.length≤gs.length*200000:=by rw[hfs];exact hl0
 rw[← hfs] at hfa
 clear hfs hl0 hsz hps
 go_wp2_with fail
 refine hfa.mono ?_
 rintro e w1 ⟨⟨v,rfl,hv⟩,hb1⟩
 obtain⟨af,cf,rfl,hrow⟩:=hv.row
 have hB1:=Below.thn hb0 hb1
 have hR1:=hR0.up hb1
 have hw1:=hb1.size
 have hZ:=Bk.new w1 49 #[.int .i64 0,.int .i64 0]
 clear hfa hb0 hb1 hL0 hR0 c0
 go_upto_region 3 with fail
 have hb2:=ae w1 (.cells #[.int .i64 0,.int .i64 0] 49)
 have hB2:=Below.thn hB1 hb2
 have hR2:=hR1.up hb2
 have hrow2:∀ k,k<fs.length→∃ g,af=some ⟨g,0,none⟩∧g<w1.heap.size∧(w1.alloc (.cells #[.int .i64 0,.int .i64 0] 49)).cell? ⟨g,k*2,none⟩=some (.int .i64 (fs.getD k (0,0)).1)∧(w1.alloc (.cells #[.int .i64 0,.int .i64 0] 49)).cell? ⟨g,k*2+1,none⟩=some (.int .i64 (fs.getD k (0,0)).2):=fun k hk=>by
  obtain⟨g,e,h1,h2⟩:=hrow k hk
  have hg:=cu h1
  refine⟨g,e,hg,?_,?_⟩
  ·rw[← h1];exact World.cell?_of_block (hb2.block g hg)
  ·rw[← h2];exact World.cell?_of_block (hb2.block g hg)
 have hs2:=hb2.size
 have hb4:w1.heap.size<(w1.alloc (.cells #[.int .i64 0,.int .i64 0] 49)).heap.size:=hZ.lt
 obtain⟨Y,hY⟩:∃ Y,Y=w1.alloc (.cells #[.int .i64 0,.int .i64 0] 49):=⟨_,rfl⟩
 rw[← hY] at hZ hb2 hB2 hR2 hrow2 hs2 hb4 ⊢
 obtain⟨b4,hb4e⟩:∃ b4,b4=w1.heap.size:=⟨_,rfl⟩
 rw[← hb4e] at hZ hrow2 hw1 hb4 ⊢
 have HR:Hid (∀ k,k<fs.length→∃ g,af=some ⟨g,0,none⟩∧g<b4∧Y.cell? ⟨g,k*2,none⟩=some (.int .i64 (fs.getD k (0,0)).1)∧Y.cell? ⟨g,k*2+1,none⟩=some (.int .i64 (fs.getD k (0,0)).2)):=hrow2
 clear hY hb4e hrow hrow2 hv hR1 hB1 hb2 hs2
 go_wp2_with fail
 go_loopw [5] (fun v wr=>∃ k:Nat,k≤fs.length∧v=.int .i64 k∧Bk wr b4 49 [.int .i64 (lsP (fs.take k)).1,.int .i64 (lsP (fs.take k)).2]∧ButS (·=b4) Y wr) (fun v _=>fs.length-(intOf v).toNat)
 case atStart=>exact⟨0,Nat.zero_le _,rfl,hZ,.refl _ _⟩
 case round=>
  obtain⟨k,hkn,rfl,hBk,hUk⟩:=hrel
  by_cases hlt:k<fs.length
  ·obtain⟨g,rfl,hg,h1,h2⟩:=HR.out k hlt
   have d1:wr.cell? ⟨g,k*2,none⟩=some (.int .i64 (fs.getD k (0,0)).1):=by rw[← h1];exact World.cell?_of_block (hUk.block g (by omega) (by omega))
   have d2:wr.cell? ⟨g,k*2+1,none⟩=some (.int .i64 (fs.getD k (0,0)).2):=by rw[← h2];exact World.cell?_of_block (hUk.block g (by omega) (by omega))
   have hst:=lsP_step fs k hlt
   obtain⟨⟨f1,f2⟩,hf⟩:∃ f,f=fs.getD k (0,0):=⟨_,rfl⟩
   obtain⟨⟨l1,l2⟩,hl⟩:∃ l,l=lsP (fs.take k):=⟨_,rfl⟩
   rw[← hf] at d1 d2 hst
   rw[← hl] at hst hBk
   dsimp only at d1 d2 hst hBk
   have c1:wr.cell? ⟨b4,0,none⟩=some (.int .i64 l1):=hBk.cell 0
   have c2:wr.cell? ⟨b4,1,none⟩=some (.int .i64 l2):=hBk.cell 1
   have HS:Hid (lsP (fs.take (k+1))=if l1=0∨f2<l2 then (f1,f2) else (l1,l2)):=hst
   clear h1 h2 hst hf hl
   have hwr:=hUk.size
   go_upto_region 6 with fail
   go_cut [26] (fun v wx=>v=.bool (decide (l1=0∨f2<l2))∧Below wr.heap.size wr wx)
   case first=>
    by_cases h0:l1=0
    ·skip
     refine wp_region_any (by kernel_rfl) ?_
     refine chk6t (X0:=wr) (b4:=b4) (g:=g) (n:=fs.length) (cf:=cf) (k:=k) (l1:=l1) (l2:=l2) (f2:=f2) hlt (fun W hW=>⟨(World.cell?_of_block (hW.block b4 (by omega))).trans c1,(World.cell?_of_block (hW.block b4 (by omega))).trans c2,(World.cell?_of_block (hW.block g (by omega))).trans d2⟩) h0 (by show 32≤32;decide) rfl rfl rfl (Below.refl _ _).drew ?_
     intro a W hO hW hv
     obtain⟨y14,y15,y16,y17,y18,y19,y20,y21,y22,y23,y24,y25,y26,⟨_,_,_,_,_,_,_,_,_,_,_,_,e26⟩,rfl⟩:=offF hO
     have f26:y26=.bool true:=e26.symm.trans (hv 12 (by decide))
     subst f26
     clear hO hv e26
     go_wp2_with fail
     go_meet
     case rel=>exact⟨by rw[decide_eq_true (Or.inl h0)],hW⟩
    ·skip
     refine wp_region_any (by kernel_rfl) ?_
     refine chk6f (X0:=wr) (b4:=b4) (g:=g) (n:=fs.length) (cf:=cf) (k:=k) (l1:=l1) (l2:=l2) (f2:=f2) hlt (fun W hW=>⟨(World.cell?_of_block (hW.block b4 (by omega))).trans c1,(World.cell?_of_block (hW.block b4 (by omega))).trans c2,(World.cell?_of_block (hW.block g (by omega))).trans d2⟩) h0 (by show 32≤32;decide) rfl rfl rfl (Below.refl _ _).drew ?_
     intro a W hO hW hv
     obtain⟨y14,y15,y16,y17,y18,y19,y20,y21,y22,y23,y24,y25,y26,⟨_,_,_,_,_,_,_,_,_,_,_,_,e26⟩,rfl⟩:=offG hO
     have f26:y26=.bool (decide (f2<l2)):=e26.symm.trans (hv 12 (by decide))
     subst f26
     clear hO hv e26
     go_wp2_with fail
     go_meet
     case rel=>exact⟨by simp[h0],hW⟩
   case rest=>
    obtain⟨rfl,hbx⟩:=hcut
    have hBx:=hBk.up hbx
    have hUx:=hUk.trans (.below hbx)
    have x1:wc.cell? ⟨g,k*2,none⟩=some (.int .i64 f1):=(World.cell?_of_block (hbx.block g (by omega))).trans d1
    have x2:wc.cell? ⟨g,k*2+1,none⟩=some (.int .i64 f2):=(World.cell?_of_block (hbx.block g (by omega))).trans d2
    clear c1 c2 d1 d2 hBk hUk hbx
    by_cases hb:l1=0∨f2<l2
    ·rw[decide_eq_true hb]
     have e:lsP (fs.take (k+1))=(f1,f2):=by rw[HS.out,if_pos hb]
     go_wp2_with (refine ah rfl 49 (.tmp 4) (.tmp 30) rfl b4 0 [.int .i64 f1,.int .i64 f2] rfl rfl hBx (Nat.le_refl 2) Tryz.infoFt (by intro v hv;simp only[List.mem_cons,List.not_mem_nil,or_false] at hv;rcases hv with rfl|rfl<;>rfl) ?_;intro w9 hB9 hO9)
     have hB9':Bk w9 b4 49 [.int .i64 f1,.int .i64 f2]:=hB9
     have hU9:=hUx.trans (.oth hO9)
     go_roundw
     case rel=>exact⟨k+1,by omega,by go_num,by rw[e];exact hB9',hU9⟩
     case measure=>simp[intOf];omega
    ·rw[decide_eq_false hb]
     have e:lsP (fs.take (k+1))=(l1,l2):=by rw[HS.out,if_neg hb]
     have HX:Hid (Bk wc b4 49 [.int .i64 (lsP (fs.take (k+1))).1,.int .i64 (lsP (fs.take (k+1))).2]):=by rw[e];exact hBx
     clear e hb HS
     go_wp2_with fail
     go_roundw
     case rel=>exact⟨k+1,by omega,by go_num,HX.out,hUx⟩
     case measure=>simp[intOf];omega
  ·have hke:k=fs.length:=by omega
   subst hke
   rw[List.take_length] at hBk
   obtain⟨⟨py,pa⟩,hp⟩:∃ p,p=lsP fs:=⟨_,rfl⟩
   have HE:Hid ((py,pa)=lsP fs):=hp
   rw[← hp] at hBk
   clear hp
   have hRk:=hUk.bk hR2 (by omega)
   have c1:wr.cell? ⟨b4,0,none⟩=some (.int .i64 py):=hBk.cell 0
   have c2:wr.cell? ⟨b4,1,none⟩=some (.int .i64 pa):=hBk.cell 1
   have r0:wr.cell? ⟨w.heap.size+1,0,none⟩=some (.int .i64 0):=hRk.cell 0
   have r1:wr.cell? ⟨w.heap.size+1,1,none⟩=some (.int .i64 0):=hRk.cell 1
   have f0:=hRk.frz 0
   have f1:=hRk.frz 1
   have hBw:Below w.heap.size w wr:=⟨hUk.os.trans hB2.os,hUk.tape.trans hB2.tape,hUk.output.trans hB2.output,Nat.le_trans hB2.size hUk.size,fun k hk=>(hUk.block k (by have:=hB2.size;omega) (by omega)).trans (hB2.block k hk)⟩
   obtain⟨q0,q1,HB⟩:=fin2 hRk hBw (by omega) (.int .i64 py) (.int .i64 pa)
   have HB:Hid (Below w.heap.size w ((wr.setCell ⟨w.heap.size+1,0,none⟩ (.int .i64 py)).setCell ⟨w.heap.size+1,1,none⟩ (.int .i64 pa))):=HB
   clear hBk hUk hRk hBw
   go_wp2_with fail
   exact bodyPost_ret (v:=.agg #[.int .i64 py,.int .i64 pa]) (by simp[results,Tryz.results28,go_sem,q0,q1]) rfl ⟨by rw[← HE.out],HB.out⟩
end Go.Proofs.YtimoappbefindaaGreat
