/-
  2 texts in one: what each proves stands at its head.
-/
import Derived.Test.YtkbglnhdbnijlaaUe
import Derived.Test.YtkbglnhdbnijlaaUp
import Derived.Test.YtkbglnhdbnijlaaUt
import Derived.Lib.SlBytesConst
import Derived.Deep.RegionWith
import Derived.Deep.DeepCutAuto
namespace Go.Proofs.Ytkbglnhdbnijlaa
open Go.RowKit
set_option maxRecDepth 100000
def ed0 : Oper := { dst := some 20, op := Op.load 26 (Operand.tmp 1), type := 26, pos := "law.go:22", after := #[], guard := none }
def ed1 : Oper := { dst := some 21, op := Op.fieldAddr 26 (Operand.tmp 1) 0, type := 0, pos := "law.go:22", after := #[], guard := none }
def ed2 : Oper := { dst := some 22, op := Op.load 24 (Operand.tmp 21), type := 24, pos := "law.go:22", after := #[{ on := 1, ground := Ground.data }], guard := none }
def ed3 : Oper := { dst := some 23, op := Op.indexAddr 24 (Operand.tmp 22) (Operand.const (Value.int IntKind.i64 0)), type := 0, pos := "law.go:22", after := #[{ on := 2, ground := Ground.data }], guard := none }
def ed4 : Oper := { dst := some 24, op := Op.fieldAddr 42 (Operand.tmp 23) 1, type := 0, pos := "law.go:22", after := #[{ on := 3, ground := Ground.data }], guard := none }
def ed5 : Oper := { dst := some 25, op := Op.load 34 (Operand.tmp 24), type := 34, pos := "law.go:22", after := #[{ on := 4, ground := Ground.data }], guard := none }
def ed6 : Oper := { dst := some 26, op := Op.fieldAddr 26 (Operand.tmp 1) 0, type := 0, pos := "law.go:22", after := #[], guard := none }
def ed7 : Oper := { dst := some 27, op := Op.load 24 (Operand.tmp 26), type := 24, pos := "law.go:22", after := #[{ on := 6, ground := Ground.data }], guard := none }
def ed8 : Oper := { dst := some 28, op := Op.indexAddr 24 (Operand.tmp 27) (Operand.const (Value.int IntKind.i64 0)), type := 0, pos := "law.go:22", after := #[{ on := 7, ground := Ground.data }], guard := none }
def ed9 : Oper := { dst := some 29, op := Op.fieldAddr 42 (Operand.tmp 28) 3, type := 0, pos := "law.go:22", after := #[{ on := 8, ground := Ground.data }], guard := none }
def ed10 : Oper := { dst := some 30, op := Op.load 40 (Operand.tmp 29), type := 40, pos := "law.go:22", after := #[{ on := 9, ground := Ground.data }], guard := none }
def ed11 : Oper := { dst := some 31, op := Op.call { callee := Callee.value (Operand.func 13), args := #[Operand.tmp 20, Operand.tmp 25, Operand.tmp 30], argTypes := #[26, 34, 40] }, type := 43, pos := "law.go:22", after := #[{ on := 0, ground := Ground.data }, { on := 5, ground := Ground.data }, { on := 10, ground := Ground.data }], guard := none }
def ed12 : Oper := { dst := some 19, op := Op.move (Operand.tmp 31), type := 43, pos := "law.go:22", after := #[{ on := 11, ground := Ground.data }], guard := none }
def ed13 : Oper := { dst := some 32, op := Op.extract (Operand.tmp 19) 0, type := 35, pos := "law.go:22", after := #[{ on := 12, ground := Ground.data }], guard := none }
def ed14 : Oper := { dst := some 33, op := Op.extract (Operand.tmp 19) 1, type := 29, pos := "law.go:22", after := #[{ on := 12, ground := Ground.data }, { on := 15, ground := Ground.gcOnly Departure.lateStores }], guard := none }
def ed15 : Oper := { dst := some 5, op := Op.assign (Operand.tmp 32), type := 35, pos := "law.go:22", after := #[{ on := 13, ground := Ground.data }, { on := 11, ground := Ground.chain }, { on := 0, ground := Ground.phase }, { on := 1, ground := Ground.phase }, { on := 2, ground := Ground.phase }, { on := 3, ground := Ground.phase }, { on := 4, ground := Ground.phase }, { on := 5, ground := Ground.phase }, { on := 6, ground := Ground.phase }, { on := 7, ground := Ground.phase }, { on := 8, ground := Ground.phase }, { on := 9, ground := Ground.phase }, { on := 10, ground := Ground.phase }, { on := 11, ground := Ground.phase }, { on := 12, ground := Ground.phase }, { on := 13, ground := Ground.phase }, { on := 14, ground := Ground.textOnly Departure.lateStores }], guard := none }
def ed16 : Oper := { dst := some 6, op := Op.assign (Operand.tmp 33), type := 29, pos := "law.go:22", after := #[{ on := 14, ground := Ground.data }, { on := 15, ground := Ground.chain }, { on := 0, ground := Ground.phase }, { on := 1, ground := Ground.phase }, { on := 2, ground := Ground.phase }, { on := 3, ground := Ground.phase }, { on := 4, ground := Ground.phase }, { on := 5, ground := Ground.phase }, { on := 6, ground := Ground.phase }, { on := 7, ground := Ground.phase }, { on := 8, ground := Ground.phase }, { on := 9, ground := Ground.phase }, { on := 10, ground := Ground.phase }, { on := 11, ground := Ground.phase }, { on := 12, ground := Ground.phase }, { on := 13, ground := Ground.phase }, { on := 14, ground := Ground.phase }, { on := 15, ground := Ground.phase }], guard := none }
def edops:Array Oper:=#[ed0,ed1,ed2,ed3,ed4,ed5,ed6,ed7,ed8,ed9,ed10,ed11,ed12,ed13,ed14,ed15,ed16]
def edsl (k:Nat):Nat:=if k=12 then 19 else if k=13 then 32 else if k=14 then 33 else if k=15 then 5 else if k=16 then 6 else 20+k
def edV (b1 G c:Nat) (ap:Option Addr) (cp:Nat) (x0 x1 x2 x3 x4 x5 x6:Value):Nat→Value
 |0=>.agg #[.slice (some ⟨G,0,none⟩) 1 c]
 |1=>.pointer (some ⟨b1,0,none⟩)
 |2=>.slice (some ⟨G,0,none⟩) 1 c
 |3=>.pointer (some ⟨G,0,none⟩)
 |4=>.pointer (some ⟨G,1,none⟩)
 |5=>.slice ap 1 cp
 |6=>.pointer (some ⟨b1,0,none⟩)
 |7=>.slice (some ⟨G,0,none⟩) 1 c
 |8=>.pointer (some ⟨G,0,none⟩)
 |9=>.pointer (some ⟨G,3,none⟩)
 |10=>.agg #[x0,x1,x2,x3,x4,x5,x6]
 |11=>.tuple #[.int .i64 2,.int .i64 0]
 |12=>.tuple #[.int .i64 2,.int .i64 0]
 |13=>.int .i64 2
 |14=>.int .i64 0
 |15=>.int .i64 2
 |_=>.int .i64 0
section
variable {Q:Exit→Act→World→Prop} {X0 w0:World} {a0:Act}
set_option maxHeartbeats 4000000 in
theorem awake3 {b1 G c:Nat} {ap:Option Addr} {cp:Nat} {x0 x1 x2 x3 x4 x5 x6:Value} (h1:∀ w,Below X0.heap.size X0 w→w.cell? ⟨b1,0,none⟩=some (.slice (some ⟨G,0,none⟩) 1 c)) (hr:∀ w,Below X0.heap.size X0 w→w.cell? ⟨G,1,none⟩=some (.slice ap 1 cp)∧w.cell? ⟨G,3,none⟩=some x0∧w.cell? ⟨G,4,none⟩=some x1∧w.cell? ⟨G,5,none⟩=some x2∧w.cell? ⟨G,6,none⟩=some x3∧w.cell? ⟨G,7,none⟩=some x4∧w.cell? ⟨G,8,none⟩=some x5∧w.cell? ⟨G,9,none⟩=some x6)
  (hc:∀ w,Below X0.heap.size X0 w→Calls Try.prog 13 #[.agg #[.slice (some ⟨G,0,none⟩) 1 c],.slice ap 1 cp,.agg #[x0,x1,x2,x3,x4,x5,x6]] w fun e w'=>e=.returned (.tuple #[.int .i64 2,.int .i64 0])∧Below w.heap.size w w') (hs:55≤a0.tmps.size)
  (e1:Rv.ev a0 1=.pointer (some ⟨b1,0,none⟩))
  (hw:Below X0.heap.size X0 w0)
  (hQ:∀ a w,Rv.Off 17 edsl a0 a→Below X0.heap.size X0 w→(∀ j,j<17→Rv.ev a (edsl j)=(edV b1 G c ap cp x0 x1 x2 x3 x4 x5 x6) j)→Q .normal a w) :
  wpAny Try.prog .any edops Q 17 (Array.replicate 17 false) a0 w0:=by
 refine Rv.region (X0:=X0) 17 edsl (edV b1 G c ap cp x0 x1 x2 x3 x4 x5 x6) rfl (by decide) (by decide) (fun j hj=>Nat.lt_of_lt_of_le ((by decide:∀ j,j<17→edsl j<55) j hj) hs) hw ?_ hQ
 intro i a W hi hO hW hd
 have hev:∀ j,a.eval (.tmp j)=Rv.ev a j:=fun _=>rfl
 have hcn:∀ v,a.eval (.const v)=v:=fun _=>rfl
 have hfn:∀ v,a.eval (.func v)=.func (.func v) #[] #[]:=fun _=>rfl
 have hsz:∀ k,k<55→k<a.tmps.size:=fun k hk=>by rw[hO.size];omega
 have g1:Rv.ev a 1=.pointer (some ⟨b1,0,none⟩):=(hO.same 1 (by decide)).trans e1
 have k1:=h1 W hW
 obtain⟨r1,r3,r4,r5,r6,r7,r8,r9⟩:=hr W hW
 have hN:i=0∨i=1∨i=2∨i=3∨i=4∨i=5∨i=6∨i=7∨i=8∨i=9∨i=10∨i=11∨i=12∨i=13∨i=14∨i=15∨i=16:=by omega
 rcases hN with rfl|rfl|rfl|rfl|rfl|rfl|rfl|rfl|rfl|rfl|rfl|rfl|rfl|rfl|rfl|rfl|rfl
 ·exact Rv.run (o:=ed0) rfl rfl (Rv.want_free rfl) (by unfold ed0;simp only[execOp,hev,g1];go_simp<;>rfl) hW
 ·exact Rv.run (o:=ed1) rfl rfl (Rv.want_free rfl) (by unfold ed1;simp only[execOp,hev,g1];go_simp<;>rfl) hW
 ·have d21:Rv.ev a 21=.pointer (some ⟨b1,0,none⟩):=hd 1 (by decide)
  exact Rv.run (o:=ed2) rfl rfl (Rv.want_free rfl) (by unfold ed2;simp only[execOp,hev,d21];go_simp<;>rfl) hW
 ·have d22:Rv.ev a 22=.slice (some ⟨G,0,none⟩) 1 c:=hd 2 (by decide)
  exact Rv.run (o:=ed3) rfl rfl (Rv.want_free rfl) (by unfold ed3;simp only[execOp,hev,hcn,d22];go_simp<;>rfl) hW
 ·have d23:Rv.ev a 23=.pointer (some ⟨G,0,none⟩):=hd 3 (by decide)
  exact Rv.run (o:=ed4) rfl rfl (Rv.want_free rfl) (by unfold ed4;simp only[execOp,hev,d23];go_simp<;>rfl) hW
 ·have d24:Rv.ev a 24=.pointer (some ⟨G,1,none⟩):=hd 4 (by decide)
  exact Rv.run (o:=ed5) rfl rfl (Rv.want_free rfl) (by unfold ed5;simp only[execOp,hev,d24];go_simp<;>rfl) hW
 ·exact Rv.run (o:=ed6) rfl rfl (Rv.want_free rfl) (by unfold ed6;simp only[execOp,hev,g1];go_simp<;>rfl) hW
 ·have d26:Rv.ev a 26=.pointer (some ⟨b1,0,none⟩):=hd 6 (by decide)
  exact Rv.run (o:=ed7) rfl rfl (Rv.want_free rfl) (by unfold ed7;simp only[execOp,hev,d26];go_simp<;>rfl) hW
 ·have d27:Rv.ev a 27=.slice (some ⟨G,0,none⟩) 1 c:=hd 7 (by decide)
  exact Rv.run (o:=ed8) rfl rfl (Rv.want_free rfl) (by unfold ed8;simp only[execOp,hev,hcn,d27];go_simp<;>rfl) hW
 ·have d28:Rv.ev a 28=.pointer (some ⟨G,0,none⟩):=hd 8 (by decide)
  exact Rv.run (o:=ed9) rfl rfl (Rv.want_free rfl) (by unfold ed9;simp only[execOp,hev,d28];go_simp<;>rfl) hW
 ·have d29:Rv.ev a 29=.pointer (some ⟨G,3,none⟩):=hd 9 (by decide)
  exact Rv.run (o:=ed10) rfl rfl (Rv.want_free rfl) (by unfold ed10;simp only[execOp,hev,d29];go_simp<;>rfl) hW
 ·have d20:Rv.ev a 20=.agg #[.slice (some ⟨G,0,none⟩) 1 c]:=hd 0 (by decide)
  have d25:Rv.ev a 25=.slice ap 1 cp:=hd 5 (by decide)
  have d30:Rv.ev a 30=.agg #[x0,x1,x2,x3,x4,x5,x6]:=hd 10 (by decide)
  refine Rv.call (o:=ed11) (f:=13) (vs:=#[.agg #[.slice (some ⟨G,0,none⟩) 1 c],.slice ap 1 cp,.agg #[x0,x1,x2,x3,x4,x5,x6]]) rfl rfl (Rv.want_free rfl) ?_ hW (hc W hW)
  unfold ed11
  simp only[execOp,resolve,invoke,Sem.run_bind,List.map_toArray,List.map_cons,List.map_nil,hev,hfn,d20,d25,d30]
  go_simp
 ·have d31:Rv.ev a 31=.tuple #[.int .i64 2,.int .i64 0]:=hd 11 (by decide)
  exact Rv.run (o:=ed12) rfl rfl (Rv.want_free rfl) (by unfold ed12;simp only[execOp,hev,d31];rfl) hW
 ·have d19:Rv.ev a 19=.tuple #[.int .i64 2,.int .i64 0]:=hd 12 (by decide)
  exact Rv.run (o:=ed13) rfl rfl (Rv.want_free rfl) (by unfold ed13;simp only[execOp,hev,d19];rfl) hW
 ·have d19:Rv.ev a 19=.tuple #[.int .i64 2,.int .i64 0]:=hd 12 (by decide)
  exact Rv.run (o:=ed14) rfl rfl (Rv.want_free rfl) (by unfold ed14;simp only[execOp,hev,d19];rfl) hW
 ·have d32:Rv.ev a 32=.int .i64 2:=hd 13 (by decide)
  exact Rv.run (o:=ed15) rfl rfl (Rv.want_free rfl) (by unfold ed15;simp only[execOp,hev,d32];rfl) hW
 ·have d33:Rv.ev a 33=.int .i64 0:=hd 14 (by decide)
  exact Rv.run (o:=ed16) rfl rfl (Rv.want_free rfl) (by unfold ed16;simp only[execOp,hev,d33];rfl) hW
end
theorem litD (f:Nat→Value):((List.range 55).map f).toArray=#[f 0,f 1,f 2,f 3,f 4,f 5,f 6,f 7,f 8,f 9,f 10,f 11,f 12,f 13,f 14,f 15,f 16,f 17,f 18,f 19,f 20,f 21,f 22,f 23,f 24,f 25,f 26,f 27,f 28,f 29,f 30,f 31,f 32,f 33,f 34,f 35,f 36,f 37,f 38,f 39,f 40,f 41,f 42,f 43,f 44,f 45,f 46,f 47,f 48,f 49,f 50,f 51,f 52,f 53,f 54]:=rfl
theorem tmpsD (a:Act) (h:a.tmps.size=55):a.tmps=((List.range 55).map (Rv.ev a)).toArray:=by
 apply Array.ext
 ·simp[h]
 ·intro i h1 h2
  simp[Rv.ev,Act.eval,h1]
theorem offD {x0 x1 x2 x3 x4 x5 x6 x7 x8 x9 x10 x11 x12 x13 x14 x15 x16 x17 x18 x19 x20 x21 x22 x23 x24 x25 x26 x27 x28 x29 x30 x31 x32 x33 x34 x35 x36 x37 x38 x39 x40 x41 x42 x43 x44 x45 x46 x47 x48 x49 x50 x51 x52 x53 x54:Value} {a:Act} (h:Rv.Off 17 edsl { tmps:=#[x0,x1,x2,x3,x4,x5,x6,x7,x8,x9,x10,x11,x12,x13,x14,x15,x16,x17,x18,x19,x20,x21,x22,x23,x24,x25,x26,x27,x28,x29,x30,x31,x32,x33,x34,x35,x36,x37,x38,x39,x40,x41,x42,x43,x44,x45,x46,x47,x48,x49,x50,x51,x52,x53,x54],defers:=[] } a):∃ y5 y6 y19 y20 y21 y22 y23 y24 y25 y26 y27 y28 y29 y30 y31 y32 y33,(Rv.ev a 5=y5∧Rv.ev a 6=y6∧Rv.ev a 19=y19∧Rv.ev a 20=y20∧Rv.ev a 21=y21∧Rv.ev a 22=y22∧Rv.ev a 23=y23∧Rv.ev a 24=y24∧Rv.ev a 25=y25∧Rv.ev a 26=y26∧Rv.ev a 27=y27∧Rv.ev a 28=y28∧Rv.ev a 29=y29∧Rv.ev a 30=y30∧Rv.ev a 31=y31∧Rv.ev a 32=y32∧Rv.ev a 33=y33)∧a={ tmps:=#[x0,x1,x2,x3,x4,y5,y6,x7,x8,x9,x10,x11,x12,x13,x14,x15,x16,x17,x18,y19,y20,y21,y22,y23,y24,y25,y26,y27,y28,y29,y30,y31,y32,y33,x34,x35,x36,x37,x38,x39,x40,x41,x42,x43,x44,x45,x46,x47,x48,x49,x50,x51,x52,x53,x54],defers:=[] }:=by
 refine⟨Rv.ev a 5,Rv.ev a 6,Rv.ev a 19,Rv.ev a 20,Rv.ev a 21,Rv.ev a 22,Rv.ev a 23,Rv.ev a 24,Rv.ev a 25,Rv.ev a 26,Rv.ev a 27,Rv.ev a 28,Rv.ev a 29,Rv.ev a 30,Rv.ev a 31,Rv.ev a 32,Rv.ev a 33,⟨rfl,rfl,rfl,rfl,rfl,rfl,rfl,rfl,rfl,rfl,rfl,rfl,rfl,rfl,rfl,rfl,rfl⟩,?_⟩
 have e:=tmpsD a h.size
 rw[litD] at e
 have h0:Rv.ev a 0=x0:=h.same 0 (by decide)
 have h1:Rv.ev a 1=x1:=h.same 1 (by decide)
 have h2:Rv.ev a 2=x2:=h.same 2 (by decide)
 have h3:Rv.ev a 3=x3:=h.same 3 (by decide)
 have h4:Rv.ev a 4=x4:=h.same 4 (by decide)
 have h7:Rv.ev a 7=x7:=h.same 7 (by decide)
 have h8:Rv.ev a 8=x8:=h.same 8 (by decide)
 have h9:Rv.ev a 9=x9:=h.same 9 (by decide)
 have h10:Rv.ev a 10=x10:=h.same 10 (by decide)
 have h11:Rv.ev a 11=x11:=h.same 11 (by decide)
 have h12:Rv.ev a 12=x12:=h.same 12 (by decide)
 have h13:Rv.ev a 13=x13:=h.same 13 (by decide)
 have h14:Rv.ev a 14=x14:=h.same 14 (by decide)
 have h15:Rv.ev a 15=x15:=h.same 15 (by decide)
 have h16:Rv.ev a 16=x16:=h.same 16 (by decide)
 have h17:Rv.ev a 17=x17:=h.same 17 (by decide)
 have h18:Rv.ev a 18=x18:=h.same 18 (by decide)
 have h34:Rv.ev a 34=x34:=h.same 34 (by decide)
 have h35:Rv.ev a 35=x35:=h.same 35 (by decide)
 have h36:Rv.ev a 36=x36:=h.same 36 (by decide)
 have h37:Rv.ev a 37=x37:=h.same 37 (by decide)
 have h38:Rv.ev a 38=x38:=h.same 38 (by decide)
 have h39:Rv.ev a 39=x39:=h.same 39 (by decide)
 have h40:Rv.ev a 40=x40:=h.same 40 (by decide)
 have h41:Rv.ev a 41=x41:=h.same 41 (by decide)
 have h42:Rv.ev a 42=x42:=h.same 42 (by decide)
 have h43:Rv.ev a 43=x43:=h.same 43 (by decide)
 have h44:Rv.ev a 44=x44:=h.same 44 (by decide)
 have h45:Rv.ev a 45=x45:=h.same 45 (by decide)
 have h46:Rv.ev a 46=x46:=h.same 46 (by decide)
 have h47:Rv.ev a 47=x47:=h.same 47 (by decide)
 have h48:Rv.ev a 48=x48:=h.same 48 (by decide)
 have h49:Rv.ev a 49=x49:=h.same 49 (by decide)
 have h50:Rv.ev a 50=x50:=h.same 50 (by decide)
 have h51:Rv.ev a 51=x51:=h.same 51 (by decide)
 have h52:Rv.ev a 52=x52:=h.same 52 (by decide)
 have h53:Rv.ev a 53=x53:=h.same 53 (by decide)
 have h54:Rv.ev a 54=x54:=h.same 54 (by decide)
 rw[h0,h1,h2,h3,h4,h7,h8,h9,h10,h11,h12,h13,h14,h15,h16,h17,h18,h34,h35,h36,h37,h38,h39,h40,h41,h42,h43,h44,h45,h46,h47,h48,h49,h50,h51,h52,h53,h54] at e
 have hd:a.defers=[]:=h.def_
 cases a
 simp only at e hd
 rw[hd]
 exact congrArg (fun t=>({ tmps:=t,defers:=[] }:Act)) e
end Go.Proofs.Ytkbglnhdbnijlaa
namespace Go.Proofs.Ytkbglnhdbnijlaa
open Go.RowKit
set_option maxRecDepth 100000
theorem prgLn {l:List UInt8} {ms:List Mk} {f:Nat} {gs:List Fn1} {j:Nat} (hl:l.length≤32768) (hc:cut rdN l 0=.ok ms) (hp:progL (mf ms) LW5 f [] 0=.ok gs j):∀ g∈gs,lnF g:=
 al_prog (mf ms) LW5 (fun k _=>Nat.le_trans (mf_len hc k) (by omega)) (fun _ _=>trivial) f [] 0 (by simp) gs j hp
def tA7:List UInt8:=[102,40,120,32,78,41,58,66,61,120,61,61,49,59]
def tB7:List UInt8:=[102,40,120,32,66,41,58,78,61,120,43,49,59]
def msA7:List Mk:=match cut rdN tA7 0 with|.ok ms=>ms|.bad _=>[]
def msB7:List Mk:=match cut rdN tB7 0 with|.ok ms=>ms|.bad _=>[]
def gA7:Fn1:=⟨[102],[⟨[120],1,2⟩],2,.mk 12 [] [] 0 0 0 [.mk 6 [120] [] 0 0 0 [] 9,.mk 1 [] [] 0 1 0 [] 12] 10,0⟩
def gB7:Fn1:=⟨[102],[⟨[120],2,2⟩],1,.mk 8 [] [] 0 0 0 [.mk 6 [120] [] 0 0 0 [] 9,.mk 1 [] [] 0 1 0 [] 11] 10,0⟩
theorem cutA7:cut rdN tA7 0=.ok msA7:=by kernel_rfl
theorem cutB7:cut rdN tB7 0=.ok msB7:=by kernel_rfl
theorem progA7:progL (mf msA7) LW5 400 [] 0=.ok [gA7] 12:=by kernel_rfl
theorem progB7:progL (mf msB7) LW5 400 [] 0=.ok [gB7] 12:=by kernel_rfl
theorem tyA7:tyP [gA7]=(0,0):=by kernel_rfl
theorem tyB7:tyP [gB7]=(34,9):=by kernel_rfl
theorem ofA7:ofP (funF [gA7]) gA7.pms gA7.body=(2,0):=by kernel_rfl
theorem rdA7 {B:Nat} {e:Ending} {w':World} (h:rdV tA7 400 B e w'):∃ ao c,e=.returned (.tuple #[.agg #[.slice ao 1 c],.bool true])∧FlW w' (fun b=>B≤b) ao [gA7]:=by
 rcases h with⟨ms,gs,j,ao,c,h1,h2,h3,h4,h5⟩|⟨h,_⟩
 ·rw[cutA7] at h2
  cases h2
  rw[progA7] at h3
  cases h3
  exact⟨ao,c,h4,h5⟩
 ·exact absurd ⟨by decide,cutA7,progA7⟩ (h _ _ _)
theorem rdB7 {B:Nat} {e:Ending} {w':World} (h:rdV tB7 400 B e w'):∃ ao c,e=.returned (.tuple #[.agg #[.slice ao 1 c],.bool true])∧FlW w' (fun b=>B≤b) ao [gB7]:=by
 rcases h with⟨ms,gs,j,ao,c,h1,h2,h3,h4,h5⟩|⟨h,_⟩
 ·rw[cutB7] at h2
  cases h2
  rw[progB7] at h3
  cases h3
  exact⟨ao,c,h4,h5⟩
 ·exact absurd ⟨by decide,cutB7,progB7⟩ (h _ _ _)
theorem okA7:PrgOk [gA7]:=prgOk (l:=tA7) (f:=400) (by decide) (by decide) cutA7 progA7
theorem okB7:PrgOk [gB7]:=prgOk (l:=tB7) (f:=400) (by decide) (by decide) cutB7 progB7
theorem lnA7:∀ g∈[gA7],lnF g:=prgLn (l:=tA7) (f:=400) (by decide) cutA7 progA7
theorem lnB7:∀ g∈[gB7],lnF g:=prgLn (l:=tB7) (f:=400) (by decide) cutB7 progB7
theorem PqW.imp {w:World} {A A':Nat→Prop} {ao:Option Addr} {ps:List Pm} (h:PqW w A ao ps) (hk:∀ b,A b→b<w.heap.size→A' b):PqW w A' ao ps:=by
 rcases h with h|⟨g,e,ha,hl,hr⟩
 ·exact .inl h
 ·exact .inr ⟨g,e,hk g ha hl,hl,hr⟩
theorem check_ok {w:World} {A:Nat→Prop} {ao:Option Addr} {gs:List Fn1} {c:Nat} (ho:PrgOk gs) (hln:∀ g∈gs,lnF g) (hF:FlW w A ao gs) :
  Calls Try.prog 10 #[.agg #[.slice ao gs.length c]] w fun e w'=>e=.returned (.agg #[.int .i64 (tyP gs).1,.int .i64 (tyP gs).2])∧Below w.heap.size w w':=
 typesCheck_any (A:=fun b=>A b∧b<w.heap.size) (hF.imp fun b h hl=>⟨h,hl⟩) (fun _ h=>h.2) hln (fun g hg=>by have:=ho.sz g hg;omega) (fun g hg=>by have:=ho.pms g hg;omega) (by have:=ho.num;omega)
theorem of_ok {w:World} {A:Nat→Prop} {ao:Option Addr} {gs:List Fn1} {c:Nat} (ho:PrgOk gs) (hln:∀ g∈gs,lnF g) (hF:FlW w A ao gs) {Ap:Nat→Prop} {ap:Option Addr} {cap:Nat} {ps:List Pm} (hP:PqW w Ap ap ps) (hlp:∀ p∈ps,p.name.length≤140737488355328) (hl:ps.length≤8796093022208)
  {Ax:Nat→Prop} {x:Ex} {us:List Value} (hx:ExW w Ax x us) (hw:lnE x) (hsz:szE x≤1048576) :
  Calls Try.prog 13 #[.agg #[.slice ao gs.length c],.slice ap ps.length cap,.agg us.toArray] w fun e w'=>e=.returned (.tuple #[.int .i64 (ofP (funF gs) ps x).1,.int .i64 (ofP (funF gs) ps x).2])∧Below w.heap.size w w':=
 typesOf_any (A:=fun b=>A b∧b<w.heap.size) (hF.imp fun b h hl=>⟨h,hl⟩) (fun _ h=>h.2) hln (by have:=ho.num;omega) (Ap:=fun b=>Ap b∧b<w.heap.size) (hP.imp fun b h hl=>⟨h,hl⟩) (fun _ h=>h.2) (Ax:=fun b=>Ax b∧b<w.heap.size) (hx.imp fun b h hl=>⟨h,hl⟩) (fun _ h=>h.2) hw hsz hlp hl
set_option maxHeartbeats 4000000 in
theorem awake7_any (w:World) :
  Calls Try.prog 8 #[] w fun e w'=>e=.returned (.bool true)∧Below w.heap.size w w':=by
 have hcs:=Lib.run_convert_bytes_const (P:=Try.prog) w 22 5 #[.int .u8 102,.int .u8 40,.int .u8 120,.int .u8 32,.int .u8 78,.int .u8 41,.int .u8 58,.int .u8 66,.int .u8 61,.int .u8 120,.int .u8 61,.int .u8 61,.int .u8 49,.int .u8 59] 14 14 (by kernel_rfl) (by kernel_rfl)
 have hbd:=Bd.new w tA7 5 (14,15)
 have hb1:=below_alloc w (.cells #[.int .u8 102,.int .u8 40,.int .u8 120,.int .u8 32,.int .u8 78,.int .u8 41,.int .u8 58,.int .u8 66,.int .u8 61,.int .u8 120,.int .u8 61,.int .u8 61,.int .u8 49,.int .u8 59] 5 (14,15))
 have m1:=read5_any (some ⟨w.heap.size,0,none⟩) 14 tA7 (by decide) _ hbd 400 (fun ms e=>by rw[cutA7] at e;cases e;rw[progA7];simp)
 go_enter Try.func8,Try.ntmps8
 go_wp2_with fail
 refine m1.mono ?_
 rintro e w2 ⟨hb2,hrd⟩
 obtain⟨ao,c,rfl,hfl⟩:=rdA7 hrd
 have hB2:=Below.thn hb1 hb2
 clear m1 hcs hbd hrd hb2 hb1
 have hb3:=below_alloc w2 (.cells #[.slice ao 1 c] 26)
 have hP3:=Bk.new w2 26 #[.slice ao 1 c]
 have hB3:=Below.thn hB2 hb3
 have hf3:=hfl.up hb3
 go_upto_region 2 with fail
 generalize hW:w2.alloc (.cells #[.slice ao 1 c] 26)=W3 at *
 clear hW hfl hB2 hb3
 have hcs:=Lib.run_convert_bytes_const (P:=Try.prog) W3 22 5 #[.int .u8 102,.int .u8 40,.int .u8 120,.int .u8 32,.int .u8 66,.int .u8 41,.int .u8 58,.int .u8 78,.int .u8 61,.int .u8 120,.int .u8 43,.int .u8 49,.int .u8 59] 13 13 (by kernel_rfl) (by kernel_rfl)
 have hbd:=Bd.new W3 tB7 5 (13,14)
 have hb1:=below_alloc W3 (.cells #[.int .u8 102,.int .u8 40,.int .u8 120,.int .u8 32,.int .u8 66,.int .u8 41,.int .u8 58,.int .u8 78,.int .u8 61,.int .u8 120,.int .u8 43,.int .u8 49,.int .u8 59] 5 (13,14))
 have m1:=read5_any (some ⟨W3.heap.size,0,none⟩) 13 tB7 (by decide) _ hbd 400 (fun ms e=>by rw[cutB7] at e;cases e;rw[progB7];simp)
 go_wp2_with fail
 refine m1.mono ?_
 rintro e w4 ⟨hb4,hrd⟩
 obtain⟨ao',c',rfl,hfl⟩:=rdB7 hrd
 have hB4:=Below.thn hb1 hb4
 clear m1 hcs hbd hrd hb4 hb1
 have hb5:=below_alloc w4 (.cells #[.slice ao' 1 c'] 26)
 have hP5:=Bk.new w4 26 #[.slice ao' 1 c']
 have hB5:=Below.thn hB4 hb5
 have hf5:=hfl.up hb5
 go_upto_region 3 with fail
 generalize hW:w4.alloc (.cells #[.slice ao' 1 c'] 26)=W5 at *
 clear hW hfl hB4 hb5
 have hP3':=hP3.up hB5
 have hf3':=hf3.up hB5
 have HB5:Hid (Below w.heap.size w W5):=Below.thn hB3 hB5
 clear hP3 hf3 hB3 hB5
 have p0:W5.cell? ⟨w2.heap.size,0,none⟩=some (.slice ao 1 c):=hP3'.cell 0
 have q0:W5.cell? ⟨w4.heap.size,0,none⟩=some (.slice ao' 1 c'):=hP5.cell 0
 obtain⟨G,vs,rfl,_,hv,hxv⟩:=hf3'.at 0 (by decide)
 obtain⟨ap,cp,es,rfl,hp1,hx1⟩:=hxv
 obtain⟨x0,x1,x2,x3,x4,x5,x6,rfl⟩:=list7 hx1.len
 have d1:W5.cell? ⟨G,1,none⟩=some (.slice ap 1 cp):=hv 1 _ rfl
 have d3:W5.cell? ⟨G,3,none⟩=some x0:=hv 3 _ rfl
 have d4:W5.cell? ⟨G,4,none⟩=some x1:=hv 4 _ rfl
 have d5:W5.cell? ⟨G,5,none⟩=some x2:=hv 5 _ rfl
 have d6:W5.cell? ⟨G,6,none⟩=some x3:=hv 6 _ rfl
 have d7:W5.cell? ⟨G,7,none⟩=some x4:=hv 7 _ rfl
 have d8:W5.cell? ⟨G,8,none⟩=some x5:=hv 8 _ rfl
 have d9:W5.cell? ⟨G,9,none⟩=some x6:=hv 9 _ rfl
 have hG:G<W5.heap.size:=cell_lt d1
 have m3:Hid (∀ W,Below W5.heap.size W5 W→Calls Try.prog 13 #[.agg #[.slice (some ⟨G,0,none⟩) 1 c],.slice ap 1 cp,.agg #[x0,x1,x2,x3,x4,x5,x6]] W fun e w'=>e=.returned (.tuple #[.int .i64 2,.int .i64 0])∧Below W.heap.size W w'):=fun W hW=>by
  have:=of_ok (c:=c) (cap:=cp) okA7 lnA7 (hf3'.up hW) (hp1.q.up hW) (fun p h=>((lnA7 gA7 (by simp)).pms p h).1) (by decide) (hx1.up hW) (lnA7 gA7 (by simp)).body (by decide)
  rw[show [gA7].getD 0 fd=gA7 from rfl,ofA7] at this
  exact this
 have HF3:Hid (FlW W5 _ (some ⟨G,0,none⟩) [gA7]):=hf3'
 have HF5:Hid (FlW W5 _ ao' [gB7]):=hf5
 have HP3:Hid (Bk W5 w2.heap.size 26 [.slice (some ⟨G,0,none⟩) 1 c]):=hP3'
 have HP5:Hid (Bk W5 w4.heap.size 26 [.slice ao' 1 c']):=hP5
 clear hx1 hp1 hv hf3' hf5 hP3' hP5
 go_cut [5,6] (fun x y wx=>x=.int .i64 2∧y=.int .i64 0∧Below W5.heap.size W5 wx)
 case first=>
  refine wp_region_any (by kernel_rfl) ?_
  refine awake3 (X0:=W5) (b1:=w2.heap.size) (G:=G) (c:=c) (ap:=ap) (cp:=cp) (x0:=x0) (x1:=x1) (x2:=x2) (x3:=x3) (x4:=x4) (x5:=x5) (x6:=x6) (fun W hW=>(HP3.out.up hW).cell 0) (fun W hW=>?_) (fun W hW=>?_) (by show 55≤55;decide) rfl (Below.refl _ _).drew ?_
  ·have hk:∀ o,W.cell? ⟨G,o,none⟩=W5.cell? ⟨G,o,none⟩:=fun o=>World.cell?_of_block (hW.block G hG)
   exact⟨(hk 1).trans d1,(hk 3).trans d3,(hk 4).trans d4,(hk 5).trans d5,(hk 6).trans d6,(hk 7).trans d7,(hk 8).trans d8,(hk 9).trans d9⟩
  ·exact m3.out W hW
  ·intro a W hO hW hv
   obtain⟨y5,y6,y19,y20,y21,y22,y23,y24,y25,y26,y27,y28,y29,y30,y31,y32,y33,⟨e5,e6,_,_,_,_,_,_,_,_,_,_,_,_,_,_,_⟩,rfl⟩:=offD hO
   have f5:y5=.int .i64 2:=e5.symm.trans (hv 15 (by decide))
   have f6:y6=.int .i64 0:=e6.symm.trans (hv 16 (by decide))
   subst f5 f6
   clear hO hv e5 e6
   go_wp2_with fail
   go_meet
   case rel=>exact⟨rfl,rfl,hW⟩
 case rest=>
  obtain⟨rfl,rfl,hbc⟩:=hcut
  have p1:wc.cell? ⟨w2.heap.size,0,none⟩=some (.slice (some ⟨G,0,none⟩) 1 c):=(HP3.out.up hbc).cell 0
  have m4:=check_ok (c:=c) okA7 lnA7 (HF3.out.up hbc)
  rw[tyA7] at m4
  have HBC:Hid (Below W5.heap.size W5 wc):=hbc
  clear p0 q0 hbc d1 d3 d4 d5 d6 d7 d8 d9
  go_wp2_with fail
  refine m4.mono ?_
  rintro e w7 ⟨rfl,hb7⟩
  have hB7:=Below.thn HBC.out hb7
  have q1:w7.cell? ⟨w4.heap.size,0,none⟩=some (.slice ao' 1 c'):=(HP5.out.up hB7).cell 0
  have m5:=check_ok (c:=c') okB7 lnB7 (HF5.out.up hB7)
  rw[tyB7] at m5
  have HB7:Hid (Below w.heap.size w w7):=Below.thn HB5.out hB7
  clear m4 p1 hb7 hB7
  go_wp2_with fail
  refine m5.mono ?_
  rintro e w8 ⟨rfl,hb8⟩
  have HB8:Hid (Below w.heap.size w w8):=Below.thn HB7.out hb8
  clear m5 q1 hb8
  go_wp2
  go_ret
  exact⟨rfl,HB8.out⟩
end Go.Proofs.Ytkbglnhdbnijlaa
