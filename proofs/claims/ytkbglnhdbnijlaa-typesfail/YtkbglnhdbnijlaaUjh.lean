/-
  2 texts in one: what each proves stands at its head.
-/
import Derived.Test.YtkbglnhdbnijlaaUjg
import Derived.Test.YtkbglnhdbnijlaaUjf
import Derived.Test.YtkbglnhdbnijlaaTy
import Derived.DataShut
namespace Go.Proofs.Ytkbglnhdbnijlaa
open Go.RowKit
set_option maxRecDepth 100000
def em_0 : Oper := { dst := some 36, op := Op.move (Operand.tmp 1), type := 3, pos := "law.go:148", after := #[], guard := none }
def em_1 : Oper := { dst := some 37, op := Op.fieldAddr 26 (Operand.tmp 7) 0, type := 0, pos := "law.go:148", after := #[], guard := none }
def em_2 : Oper := { dst := some 38, op := Op.load 24 (Operand.tmp 37), type := 24, pos := "law.go:148", after := #[{ on := 1, ground := Ground.data }], guard := none }
def em_3 : Oper := { dst := some 39, op := Op.call { callee := Callee.builtin Builtin.len, args := #[Operand.tmp 38], argTypes := #[24] }, type := 3, pos := "law.go:148", after := #[{ on := 2, ground := Ground.data }], guard := none }
def em_4 : Oper := { dst := some 40, op := Op.binOp BinOp.rem 3 (Operand.tmp 36) (Operand.tmp 39) 3, type := 3, pos := "law.go:148", after := #[{ on := 0, ground := Ground.data }, { on := 3, ground := Ground.data }], guard := none }
def em_5 : Oper := { dst := some 41, op := Op.fieldAddr 26 (Operand.tmp 7) 0, type := 0, pos := "law.go:148", after := #[], guard := none }
def em_6 : Oper := { dst := some 42, op := Op.load 24 (Operand.tmp 41), type := 24, pos := "law.go:148", after := #[{ on := 5, ground := Ground.data }], guard := none }
def em_7 : Oper := { dst := some 43, op := Op.call { callee := Callee.builtin Builtin.len, args := #[Operand.tmp 42], argTypes := #[24] }, type := 3, pos := "law.go:148", after := #[{ on := 6, ground := Ground.data }], guard := none }
def em_8 : Oper := { dst := some 44, op := Op.binOp BinOp.add 3 (Operand.tmp 40) (Operand.tmp 43) 3, type := 3, pos := "law.go:148", after := #[{ on := 4, ground := Ground.data }, { on := 7, ground := Ground.data }], guard := none }
def em_9 : Oper := { dst := some 45, op := Op.fieldAddr 26 (Operand.tmp 7) 0, type := 0, pos := "law.go:148", after := #[], guard := none }
def em_10 : Oper := { dst := some 46, op := Op.load 24 (Operand.tmp 45), type := 24, pos := "law.go:148", after := #[{ on := 9, ground := Ground.data }], guard := none }
def em_11 : Oper := { dst := some 47, op := Op.call { callee := Callee.builtin Builtin.len, args := #[Operand.tmp 46], argTypes := #[24] }, type := 3, pos := "law.go:148", after := #[{ on := 10, ground := Ground.data }], guard := none }
def em_12 : Oper := { dst := some 48, op := Op.binOp BinOp.rem 3 (Operand.tmp 44) (Operand.tmp 47) 3, type := 3, pos := "law.go:148", after := #[{ on := 8, ground := Ground.data }, { on := 11, ground := Ground.data }], guard := none }
def em_13 : Oper := { dst := some 10, op := Op.assign (Operand.tmp 48), type := 3, pos := "law.go:148", after := #[{ on := 12, ground := Ground.data }, { on := 0, ground := Ground.phase }, { on := 1, ground := Ground.phase }, { on := 2, ground := Ground.phase }, { on := 3, ground := Ground.phase }, { on := 4, ground := Ground.phase }, { on := 5, ground := Ground.phase }, { on := 6, ground := Ground.phase }, { on := 7, ground := Ground.phase }, { on := 8, ground := Ground.phase }, { on := 9, ground := Ground.phase }, { on := 10, ground := Ground.phase }, { on := 11, ground := Ground.phase }, { on := 12, ground := Ground.phase }], guard := none }
def em_ops:Array Oper:=#[em_0,em_1,em_2,em_3,em_4,em_5,em_6,em_7,em_8,em_9,em_10,em_11,em_12,em_13]
def em_sl (k:Nat):Nat:=if k=13 then 10 else 36+k
def em_V (b7 L c k:Nat) (ao:Option Addr) (n a1 a2:Int):Nat→Value
 |0=>.int .i64 n
 |1=>.pointer (some ⟨b7,0,none⟩)
 |2=>.slice ao L c
 |3=>.int .i64 L
 |4=>.int .i64 a1
 |5=>.pointer (some ⟨b7,0,none⟩)
 |6=>.slice ao L c
 |7=>.int .i64 L
 |8=>.int .i64 a2
 |9=>.pointer (some ⟨b7,0,none⟩)
 |10=>.slice ao L c
 |11=>.int .i64 L
 |12=>.int .i64 k
 |_=>.int .i64 k
section
variable {Q:Exit→Act→World→Prop} {X0 w0:World} {a0:Act}
set_option maxHeartbeats 4000000 in
theorem fail7 {b7 L c k:Nat} {ao:Option Addr} {n a1 a2:Int} (t1:Int.tmod n (L:Int)=a1) (_w1:IntKind.i64.wrap a1=a1) (w2:IntKind.i64.wrap (a1+(L:Int))=a2) (t2:Int.tmod a2 (L:Int)=(k:Int)) (_w3:IntKind.i64.wrap (k:Int)=(k:Int)) (hL:¬ L=0) (h1:∀ w,Below X0.heap.size X0 w→w.cell? ⟨b7,0,none⟩=some (.slice ao L c)) (hs:121≤a0.tmps.size)
  (e1:Rv.ev a0 1=.int .i64 n)
  (e7:Rv.ev a0 7=.pointer (some ⟨b7,0,none⟩))
  (hw:Below X0.heap.size X0 w0)
  (hQ:∀ a w,Rv.Off 14 em_sl a0 a→Below X0.heap.size X0 w→(∀ j,j<14→Rv.ev a (em_sl j)=(em_V b7 L c k ao n a1 a2) j)→Q .normal a w) :
  wpAny Try.prog .any em_ops Q 14 (Array.replicate 14 false) a0 w0:=by
 refine Rv.region (X0:=X0) 14 em_sl (em_V b7 L c k ao n a1 a2) rfl (by decide) (by decide) (fun j hj=>Nat.lt_of_lt_of_le ((by decide:∀ j,j<14→em_sl j<121) j hj) hs) hw ?_ hQ
 intro i a W hi hO hW hd
 have hev:∀ j,a.eval (.tmp j)=Rv.ev a j:=fun _=>rfl
 have hcn:∀ v,a.eval (.const v)=v:=fun _=>rfl
 have hfn:∀ v,a.eval (.func v)=.func (.func v) #[] #[]:=fun _=>rfl
 have hsz:∀ k,k<121→k<a.tmps.size:=fun k hk=>by rw[hO.size];omega
 have g1:Rv.ev a 1=.int .i64 n:=(hO.same 1 (by decide)).trans e1
 have g7:Rv.ev a 7=.pointer (some ⟨b7,0,none⟩):=(hO.same 7 (by decide)).trans e7
 have k1:=h1 W hW
 have hN:i=0∨i=1∨i=2∨i=3∨i=4∨i=5∨i=6∨i=7∨i=8∨i=9∨i=10∨i=11∨i=12∨i=13:=by omega
 rcases hN with rfl|rfl|rfl|rfl|rfl|rfl|rfl|rfl|rfl|rfl|rfl|rfl|rfl|rfl
 ·exact Rv.run (o:=em_0) rfl rfl (Rv.want_free rfl) (by unfold em_0;simp only[execOp,hev,g1];rfl) hW
 ·exact Rv.run (o:=em_1) rfl rfl (Rv.want_free rfl) (by unfold em_1;simp only[execOp,hev,g7];go_simp<;>rfl) hW
 ·have d37:Rv.ev a 37=.pointer (some ⟨b7,0,none⟩):=hd 1 (by decide)
  exact Rv.run (o:=em_2) rfl rfl (Rv.want_free rfl) (by unfold em_2;simp only[execOp,hev,d37];go_simp<;>rfl) hW
 ·have d38:Rv.ev a 38=.slice ao L c:=hd 2 (by decide)
  exact Rv.run (o:=em_3) rfl rfl (Rv.want_free rfl) (by unfold em_3;simp only[execOp,resolve,invoke,builtin,Sem.run_bind,Sem.run_pure,List.map_toArray,List.map_cons,List.map_nil,hev,d38];go_simp<;>rfl) hW
 ·have d36:Rv.ev a 36=.int .i64 n:=hd 0 (by decide)
  have d39:Rv.ev a 39=.int .i64 L:=hd 3 (by decide)
  exact Rv.run (o:=em_4) rfl rfl (Rv.want_free rfl) (by unfold em_4;simp only[execOp,hev,d36,d39];go_simp<;>rfl) hW
 ·exact Rv.run (o:=em_5) rfl rfl (Rv.want_free rfl) (by unfold em_5;simp only[execOp,hev,g7];go_simp<;>rfl) hW
 ·have d41:Rv.ev a 41=.pointer (some ⟨b7,0,none⟩):=hd 5 (by decide)
  exact Rv.run (o:=em_6) rfl rfl (Rv.want_free rfl) (by unfold em_6;simp only[execOp,hev,d41];go_simp<;>rfl) hW
 ·have d42:Rv.ev a 42=.slice ao L c:=hd 6 (by decide)
  exact Rv.run (o:=em_7) rfl rfl (Rv.want_free rfl) (by unfold em_7;simp only[execOp,resolve,invoke,builtin,Sem.run_bind,Sem.run_pure,List.map_toArray,List.map_cons,List.map_nil,hev,d42];go_simp<;>rfl) hW
 ·have d40:Rv.ev a 40=.int .i64 a1:=hd 4 (by decide)
  have d43:Rv.ev a 43=.int .i64 L:=hd 7 (by decide)
  exact Rv.run (o:=em_8) rfl rfl (Rv.want_free rfl) (by unfold em_8;simp only[execOp,hev,d40,d43];go_simp<;>rfl) hW
 ·exact Rv.run (o:=em_9) rfl rfl (Rv.want_free rfl) (by unfold em_9;simp only[execOp,hev,g7];go_simp<;>rfl) hW
 ·have d45:Rv.ev a 45=.pointer (some ⟨b7,0,none⟩):=hd 9 (by decide)
  exact Rv.run (o:=em_10) rfl rfl (Rv.want_free rfl) (by unfold em_10;simp only[execOp,hev,d45];go_simp<;>rfl) hW
 ·have d46:Rv.ev a 46=.slice ao L c:=hd 10 (by decide)
  exact Rv.run (o:=em_11) rfl rfl (Rv.want_free rfl) (by unfold em_11;simp only[execOp,resolve,invoke,builtin,Sem.run_bind,Sem.run_pure,List.map_toArray,List.map_cons,List.map_nil,hev,d46];go_simp<;>rfl) hW
 ·have d44:Rv.ev a 44=.int .i64 a2:=hd 8 (by decide)
  have d47:Rv.ev a 47=.int .i64 L:=hd 11 (by decide)
  exact Rv.run (o:=em_12) rfl rfl (Rv.want_free rfl) (by unfold em_12;simp only[execOp,hev,d44,d47];go_simp<;>rfl) hW
 ·have d48:Rv.ev a 48=.int .i64 k:=hd 12 (by decide)
  exact Rv.run (o:=em_13) rfl rfl (Rv.want_free rfl) (by unfold em_13;simp only[execOp,hev,d48];rfl) hW
end
theorem lit121 (f:Nat→Value):((List.range 121).map f).toArray=#[f 0,f 1,f 2,f 3,f 4,f 5,f 6,f 7,f 8,f 9,f 10,f 11,f 12,f 13,f 14,f 15,f 16,f 17,f 18,f 19,f 20,f 21,f 22,f 23,f 24,f 25,f 26,f 27,f 28,f 29,f 30,f 31,f 32,f 33,f 34,f 35,f 36,f 37,f 38,f 39,f 40,f 41,f 42,f 43,f 44,f 45,f 46,f 47,f 48,f 49,f 50,f 51,f 52,f 53,f 54,f 55,f 56,f 57,f 58,f 59,f 60,f 61,f 62,f 63,f 64,f 65,f 66,f 67,f 68,f 69,f 70,f 71,f 72,f 73,f 74,f 75,f 76,f 77,f 78,f 79,f 80,f 81,f 82,f 83,f 84,f 85,f 86,f 87,f 88,f 89,f 90,f 91,f 92,f 93,f 94,f 95,f 96,f 97,f 98,f 99,f 100,f 101,f 102,f 103,f 104,f 105,f 106,f 107,f 108,f 109,f 110,f 111,f 112,f 113,f 114,f 115,f 116,f 117,f 118,f 119,f 120]:=rfl
theorem tmps121 (a:Act) (h:a.tmps.size=121):a.tmps=((List.range 121).map (Rv.ev a)).toArray:=by
 apply Array.ext
 ·simp[h]
 ·intro i h1 h2
  simp[Rv.ev,Act.eval,h1]
set_option maxHeartbeats 16000000 in
theorem offM {x0 x1 x2 x3 x4 x5 x6 x7 x8 x9 x10 x11 x12 x13 x14 x15 x16 x17 x18 x19 x20 x21 x22 x23 x24 x25 x26 x27 x28 x29 x30 x31 x32 x33 x34 x35 x36 x37 x38 x39 x40 x41 x42 x43 x44 x45 x46 x47 x48 x49 x50 x51 x52 x53 x54 x55 x56 x57 x58 x59 x60 x61 x62 x63 x64 x65 x66 x67 x68 x69 x70 x71 x72 x73 x74 x75 x76 x77 x78 x79 x80 x81 x82 x83 x84 x85 x86 x87 x88 x89 x90 x91 x92 x93 x94 x95 x96 x97 x98 x99 x100 x101 x102 x103 x104 x105 x106 x107 x108 x109 x110 x111 x112 x113 x114 x115 x116 x117 x118 x119 x120:Value} {a:Act} (h:Rv.Off 14 em_sl { tmps:=#[x0,x1,x2,x3,x4,x5,x6,x7,x8,x9,x10,x11,x12,x13,x14,x15,x16,x17,x18,x19,x20,x21,x22,x23,x24,x25,x26,x27,x28,x29,x30,x31,x32,x33,x34,x35,x36,x37,x38,x39,x40,x41,x42,x43,x44,x45,x46,x47,x48,x49,x50,x51,x52,x53,x54,x55,x56,x57,x58,x59,x60,x61,x62,x63,x64,x65,x66,x67,x68,x69,x70,x71,x72,x73,x74,x75,x76,x77,x78,x79,x80,x81,x82,x83,x84,x85,x86,x87,x88,x89,x90,x91,x92,x93,x94,x95,x96,x97,x98,x99,x100,x101,x102,x103,x104,x105,x106,x107,x108,x109,x110,x111,x112,x113,x114,x115,x116,x117,x118,x119,x120],defers:=[] } a):∃ y10 y36 y37 y38 y39 y40 y41 y42 y43 y44 y45 y46 y47 y48,(Rv.ev a 10=y10∧Rv.ev a 36=y36∧Rv.ev a 37=y37∧Rv.ev a 38=y38∧Rv.ev a 39=y39∧Rv.ev a 40=y40∧Rv.ev a 41=y41∧Rv.ev a 42=y42∧Rv.ev a 43=y43∧Rv.ev a 44=y44∧Rv.ev a 45=y45∧Rv.ev a 46=y46∧Rv.ev a 47=y47∧Rv.ev a 48=y48)∧a={ tmps:=#[x0,x1,x2,x3,x4,x5,x6,x7,x8,x9,y10,x11,x12,x13,x14,x15,x16,x17,x18,x19,x20,x21,x22,x23,x24,x25,x26,x27,x28,x29,x30,x31,x32,x33,x34,x35,y36,y37,y38,y39,y40,y41,y42,y43,y44,y45,y46,y47,y48,x49,x50,x51,x52,x53,x54,x55,x56,x57,x58,x59,x60,x61,x62,x63,x64,x65,x66,x67,x68,x69,x70,x71,x72,x73,x74,x75,x76,x77,x78,x79,x80,x81,x82,x83,x84,x85,x86,x87,x88,x89,x90,x91,x92,x93,x94,x95,x96,x97,x98,x99,x100,x101,x102,x103,x104,x105,x106,x107,x108,x109,x110,x111,x112,x113,x114,x115,x116,x117,x118,x119,x120],defers:=[] }:=by
 refine⟨Rv.ev a 10,Rv.ev a 36,Rv.ev a 37,Rv.ev a 38,Rv.ev a 39,Rv.ev a 40,Rv.ev a 41,Rv.ev a 42,Rv.ev a 43,Rv.ev a 44,Rv.ev a 45,Rv.ev a 46,Rv.ev a 47,Rv.ev a 48,⟨rfl,rfl,rfl,rfl,rfl,rfl,rfl,rfl,rfl,rfl,rfl,rfl,rfl,rfl⟩,?_⟩
 have e:=tmps121 a h.size
 rw[lit121] at e
 have h0:Rv.ev a 0=x0:=h.same 0 (by decide)
 have h1:Rv.ev a 1=x1:=h.same 1 (by decide)
 have h2:Rv.ev a 2=x2:=h.same 2 (by decide)
 have h3:Rv.ev a 3=x3:=h.same 3 (by decide)
 have h4:Rv.ev a 4=x4:=h.same 4 (by decide)
 have h5:Rv.ev a 5=x5:=h.same 5 (by decide)
 have h6:Rv.ev a 6=x6:=h.same 6 (by decide)
 have h7:Rv.ev a 7=x7:=h.same 7 (by decide)
 have h8:Rv.ev a 8=x8:=h.same 8 (by decide)
 have h9:Rv.ev a 9=x9:=h.same 9 (by decide)
 have h11:Rv.ev a 11=x11:=h.same 11 (by decide)
 have h12:Rv.ev a 12=x12:=h.same 12 (by decide)
 have h13:Rv.ev a 13=x13:=h.same 13 (by decide)
 have h14:Rv.ev a 14=x14:=h.same 14 (by decide)
 have h15:Rv.ev a 15=x15:=h.same 15 (by decide)
 have h16:Rv.ev a 16=x16:=h.same 16 (by decide)
 have h17:Rv.ev a 17=x17:=h.same 17 (by decide)
 have h18:Rv.ev a 18=x18:=h.same 18 (by decide)
 have h19:Rv.ev a 19=x19:=h.same 19 (by decide)
 have h20:Rv.ev a 20=x20:=h.same 20 (by decide)
 have h21:Rv.ev a 21=x21:=h.same 21 (by decide)
 have h22:Rv.ev a 22=x22:=h.same 22 (by decide)
 have h23:Rv.ev a 23=x23:=h.same 23 (by decide)
 have h24:Rv.ev a 24=x24:=h.same 24 (by decide)
 have h25:Rv.ev a 25=x25:=h.same 25 (by decide)
 have h26:Rv.ev a 26=x26:=h.same 26 (by decide)
 have h27:Rv.ev a 27=x27:=h.same 27 (by decide)
 have h28:Rv.ev a 28=x28:=h.same 28 (by decide)
 have h29:Rv.ev a 29=x29:=h.same 29 (by decide)
 have h30:Rv.ev a 30=x30:=h.same 30 (by decide)
 have h31:Rv.ev a 31=x31:=h.same 31 (by decide)
 have h32:Rv.ev a 32=x32:=h.same 32 (by decide)
 have h33:Rv.ev a 33=x33:=h.same 33 (by decide)
 have h34:Rv.ev a 34=x34:=h.same 34 (by decide)
 have h35:Rv.ev a 35=x35:=h.same 35 (by decide)
 have h49:Rv.ev a 49=x49:=h.same 49 (by decide)
 have h50:Rv.ev a 50=x50:=h.same 50 (by decide)
 have h51:Rv.ev a 51=x51:=h.same 51 (by decide)
 have h52:Rv.ev a 52=x52:=h.same 52 (by decide)
 have h53:Rv.ev a 53=x53:=h.same 53 (by decide)
 have h54:Rv.ev a 54=x54:=h.same 54 (by decide)
 have h55:Rv.ev a 55=x55:=h.same 55 (by decide)
 have h56:Rv.ev a 56=x56:=h.same 56 (by decide)
 have h57:Rv.ev a 57=x57:=h.same 57 (by decide)
 have h58:Rv.ev a 58=x58:=h.same 58 (by decide)
 have h59:Rv.ev a 59=x59:=h.same 59 (by decide)
 have h60:Rv.ev a 60=x60:=h.same 60 (by decide)
 have h61:Rv.ev a 61=x61:=h.same 61 (by decide)
 have h62:Rv.ev a 62=x62:=h.same 62 (by decide)
 have h63:Rv.ev a 63=x63:=h.same 63 (by decide)
 have h64:Rv.ev a 64=x64:=h.same 64 (by decide)
 have h65:Rv.ev a 65=x65:=h.same 65 (by decide)
 have h66:Rv.ev a 66=x66:=h.same 66 (by decide)
 have h67:Rv.ev a 67=x67:=h.same 67 (by decide)
 have h68:Rv.ev a 68=x68:=h.same 68 (by decide)
 have h69:Rv.ev a 69=x69:=h.same 69 (by decide)
 have h70:Rv.ev a 70=x70:=h.same 70 (by decide)
 have h71:Rv.ev a 71=x71:=h.same 71 (by decide)
 have h72:Rv.ev a 72=x72:=h.same 72 (by decide)
 have h73:Rv.ev a 73=x73:=h.same 73 (by decide)
 have h74:Rv.ev a 74=x74:=h.same 74 (by decide)
 have h75:Rv.ev a 75=x75:=h.same 75 (by decide)
 have h76:Rv.ev a 76=x76:=h.same 76 (by decide)
 have h77:Rv.ev a 77=x77:=h.same 77 (by decide)
 have h78:Rv.ev a 78=x78:=h.same 78 (by decide)
 have h79:Rv.ev a 79=x79:=h.same 79 (by decide)
 have h80:Rv.ev a 80=x80:=h.same 80 (by decide)
 have h81:Rv.ev a 81=x81:=h.same 81 (by decide)
 have h82:Rv.ev a 82=x82:=h.same 82 (by decide)
 have h83:Rv.ev a 83=x83:=h.same 83 (by decide)
 have h84:Rv.ev a 84=x84:=h.same 84 (by decide)
 have h85:Rv.ev a 85=x85:=h.same 85 (by decide)
 have h86:Rv.ev a 86=x86:=h.same 86 (by decide)
 have h87:Rv.ev a 87=x87:=h.same 87 (by decide)
 have h88:Rv.ev a 88=x88:=h.same 88 (by decide)
 have h89:Rv.ev a 89=x89:=h.same 89 (by decide)
 have h90:Rv.ev a 90=x90:=h.same 90 (by decide)
 have h91:Rv.ev a 91=x91:=h.same 91 (by decide)
 have h92:Rv.ev a 92=x92:=h.same 92 (by decide)
 have h93:Rv.ev a 93=x93:=h.same 93 (by decide)
 have h94:Rv.ev a 94=x94:=h.same 94 (by decide)
 have h95:Rv.ev a 95=x95:=h.same 95 (by decide)
 have h96:Rv.ev a 96=x96:=h.same 96 (by decide)
 have h97:Rv.ev a 97=x97:=h.same 97 (by decide)
 have h98:Rv.ev a 98=x98:=h.same 98 (by decide)
 have h99:Rv.ev a 99=x99:=h.same 99 (by decide)
 have h100:Rv.ev a 100=x100:=h.same 100 (by decide)
 have h101:Rv.ev a 101=x101:=h.same 101 (by decide)
 have h102:Rv.ev a 102=x102:=h.same 102 (by decide)
 have h103:Rv.ev a 103=x103:=h.same 103 (by decide)
 have h104:Rv.ev a 104=x104:=h.same 104 (by decide)
 have h105:Rv.ev a 105=x105:=h.same 105 (by decide)
 have h106:Rv.ev a 106=x106:=h.same 106 (by decide)
 have h107:Rv.ev a 107=x107:=h.same 107 (by decide)
 have h108:Rv.ev a 108=x108:=h.same 108 (by decide)
 have h109:Rv.ev a 109=x109:=h.same 109 (by decide)
 have h110:Rv.ev a 110=x110:=h.same 110 (by decide)
 have h111:Rv.ev a 111=x111:=h.same 111 (by decide)
 have h112:Rv.ev a 112=x112:=h.same 112 (by decide)
 have h113:Rv.ev a 113=x113:=h.same 113 (by decide)
 have h114:Rv.ev a 114=x114:=h.same 114 (by decide)
 have h115:Rv.ev a 115=x115:=h.same 115 (by decide)
 have h116:Rv.ev a 116=x116:=h.same 116 (by decide)
 have h117:Rv.ev a 117=x117:=h.same 117 (by decide)
 have h118:Rv.ev a 118=x118:=h.same 118 (by decide)
 have h119:Rv.ev a 119=x119:=h.same 119 (by decide)
 have h120:Rv.ev a 120=x120:=h.same 120 (by decide)
 rw[h0,h1,h2,h3,h4,h5,h6,h7,h8,h9,h11,h12,h13,h14,h15,h16,h17,h18,h19,h20,h21,h22,h23,h24,h25,h26,h27,h28,h29,h30,h31,h32,h33,h34,h35,h49,h50,h51,h52,h53,h54,h55,h56,h57,h58,h59,h60,h61,h62,h63,h64,h65,h66,h67,h68,h69,h70,h71,h72,h73,h74,h75,h76,h77,h78,h79,h80,h81,h82,h83,h84,h85,h86,h87,h88,h89,h90,h91,h92,h93,h94,h95,h96,h97,h98,h99,h100,h101,h102,h103,h104,h105,h106,h107,h108,h109,h110,h111,h112,h113,h114,h115,h116,h117,h118,h119,h120] at e
 have hd:a.defers=[]:=h.def_
 cases a
 simp only at e hd
 rw[hd]
 exact congrArg (fun t=>({ tmps:=t,defers:=[] }:Act)) e
def en_0 : Oper := { dst := some 68, op := Op.fieldAddr 26 (Operand.tmp 9) 0, type := 0, pos := "law.go:152", after := #[], guard := none }
def en_1 : Oper := { dst := some 69, op := Op.load 24 (Operand.tmp 68), type := 24, pos := "law.go:152", after := #[{ on := 0, ground := Ground.data }], guard := none }
def en_2 : Oper := { dst := some 70, op := Op.move (Operand.tmp 10), type := 3, pos := "law.go:152", after := #[], guard := none }
def en_3 : Oper := { dst := some 71, op := Op.fieldAddr 42 (Operand.tmp 11) 3, type := 0, pos := "law.go:152", after := #[], guard := none }
def en_4 : Oper := { dst := some 72, op := Op.load 40 (Operand.tmp 71), type := 40, pos := "law.go:152", after := #[{ on := 3, ground := Ground.data }], guard := none }
def en_5 : Oper := { dst := some 73, op := Op.move (Operand.tmp 2), type := 3, pos := "law.go:152", after := #[], guard := none }
def en_6 : Oper := { dst := some 74, op := Op.move (Operand.tmp 14), type := 35, pos := "law.go:152", after := #[], guard := none }
def en_7 : Oper := { dst := some 75, op := Op.fieldAddr 40 (Operand.tmp 12) 6, type := 0, pos := "law.go:152", after := #[], guard := none }
def en_8 : Oper := { dst := some 76, op := Op.load 3 (Operand.tmp 75), type := 3, pos := "law.go:152", after := #[{ on := 7, ground := Ground.data }], guard := none }
def en_9 : Oper := { dst := some 77, op := Op.build 40 #[(0, Operand.const (Value.int IntKind.i64 5)), (3, Operand.tmp 74), (6, Operand.tmp 76)], type := 40, pos := "law.go:152", after := #[{ on := 6, ground := Ground.data }, { on := 8, ground := Ground.data }], guard := none }
def en_10 : Oper := { dst := some 78, op := Op.call { callee := Callee.value (Operand.func 16), args := #[Operand.tmp 72, Operand.tmp 73, Operand.tmp 77], argTypes := #[40, 3, 40] }, type := 40, pos := "law.go:152", after := #[{ on := 4, ground := Ground.data }, { on := 5, ground := Ground.data }, { on := 9, ground := Ground.data }], guard := none }
def en_11 : Oper := { dst := some 79, op := Op.indexAddr 24 (Operand.tmp 69) (Operand.tmp 70), type := 0, pos := "law.go:152", after := #[{ on := 1, ground := Ground.data }, { on := 2, ground := Ground.data }, { on := 0, ground := Ground.phase }, { on := 1, ground := Ground.phase }, { on := 2, ground := Ground.phase }, { on := 3, ground := Ground.phase }, { on := 4, ground := Ground.phase }, { on := 5, ground := Ground.phase }, { on := 6, ground := Ground.phase }, { on := 7, ground := Ground.phase }, { on := 8, ground := Ground.phase }, { on := 9, ground := Ground.phase }, { on := 10, ground := Ground.phase }], guard := none }
def en_12 : Oper := { dst := some 80, op := Op.fieldAddr 42 (Operand.tmp 79) 3, type := 0, pos := "law.go:152", after := #[{ on := 11, ground := Ground.data }, { on := 0, ground := Ground.phase }, { on := 1, ground := Ground.phase }, { on := 2, ground := Ground.phase }, { on := 3, ground := Ground.phase }, { on := 4, ground := Ground.phase }, { on := 5, ground := Ground.phase }, { on := 6, ground := Ground.phase }, { on := 7, ground := Ground.phase }, { on := 8, ground := Ground.phase }, { on := 9, ground := Ground.phase }, { on := 10, ground := Ground.phase }], guard := none }
def en_13 : Oper := { dst := none, op := Op.store 40 (Operand.tmp 80) (Operand.tmp 78), type := 0, pos := "law.go:152", after := #[{ on := 12, ground := Ground.data }, { on := 10, ground := Ground.data }, { on := 10, ground := Ground.chain }, { on := 0, ground := Ground.phase }, { on := 1, ground := Ground.phase }, { on := 2, ground := Ground.phase }, { on := 3, ground := Ground.phase }, { on := 4, ground := Ground.phase }, { on := 5, ground := Ground.phase }, { on := 6, ground := Ground.phase }, { on := 7, ground := Ground.phase }, { on := 8, ground := Ground.phase }, { on := 9, ground := Ground.phase }, { on := 10, ground := Ground.phase }], guard := none }
def en_ops:Array Oper:=#[en_0,en_1,en_2,en_3,en_4,en_5,en_6,en_7,en_8,en_9,en_10,en_11,en_12,en_13]
def en_sl (k:Nat):Nat:=68+k
def en_V (b9 b11 b12 g L c7 k:Nat) (path u at_:Int) (y0 y1 y2 y3 y4 y5 y6:Value):Nat→Value
 |0=>.pointer (some ⟨b9,0,none⟩)
 |1=>.slice (some ⟨g,0,none⟩) L c7
 |2=>.int .i64 k
 |3=>.pointer (some ⟨b11,3,none⟩)
 |4=>.agg #[y0,y1,y2,y3,y4,y5,y6]
 |5=>.int .i64 path
 |6=>.int .i64 u
 |7=>.pointer (some ⟨b12,6,none⟩)
 |8=>.int .i64 at_
 |9=>.agg #[.int .i64 5,.string ⟨#[]⟩,.string ⟨#[]⟩,.int .i64 u,.complex .f64 0 0,.slice none 0 0,.int .i64 at_]
 |10=>undef
 |11=>.pointer (some ⟨g,k*11,none⟩)
 |_=>.pointer (some ⟨g,k*11+3,none⟩)
section
variable {Q:Exit→Act→World→Prop} {X0:World} {a0:Act}
set_option maxHeartbeats 4000000 in
theorem fail13 {b9 b11 b12 g L c7 k:Nat} {path u at_:Int} {y0 y1 y2 y3 y4 y5 y6:Value} (hkn:k<L) (hS:∀ w,Below X0.heap.size X0 w→w.cell? ⟨b9,0,none⟩=some (.slice (some ⟨g,0,none⟩) L c7)∧w.cell? ⟨b12,6,none⟩=some (.int .i64 at_)∧w.cell? ⟨b11,3,none⟩=some y0∧w.cell? ⟨b11,4,none⟩=some y1∧w.cell? ⟨b11,5,none⟩=some y2∧w.cell? ⟨b11,6,none⟩=some y3∧w.cell? ⟨b11,7,none⟩=some y4∧w.cell? ⟨b11,8,none⟩=some y5∧w.cell? ⟨b11,9,none⟩=some y6) (G:Value→World→Prop) (K:World→Prop) (hG:∀ v w,G v w→Below X0.heap.size X0 w)
  (hc:Calls Try.prog 16 #[.agg #[y0,y1,y2,y3,y4,y5,y6],.int .i64 path,.agg #[.int .i64 5,.string ⟨#[]⟩,.string ⟨#[]⟩,.int .i64 u,.complex .f64 0 0,.slice none 0 0,.int .i64 at_]] X0 fun e w'=>∃ v,e=.returned v∧G v w')
  (hst:∀ v w,G v w→∃ A w',v=.agg A∧A.size=7∧(storeCells ⟨g,k*11+3,none⟩ A.toList).run Try.prog w=.ok () w'∧K w') (hs:121≤a0.tmps.size)
  (e9:Rv.ev a0 9=.pointer (some ⟨b9,0,none⟩))
  (e10:Rv.ev a0 10=.int .i64 k)
  (e11:Rv.ev a0 11=.pointer (some ⟨b11,0,none⟩))
  (e2:Rv.ev a0 2=.int .i64 path)
  (e14:Rv.ev a0 14=.int .i64 u)
  (e12:Rv.ev a0 12=.pointer (some ⟨b12,0,none⟩))
  (hQ:∀ a w,Rv.Off 13 en_sl a0 a→K w→Q .normal a w) :
  wpAny Try.prog .any en_ops Q 14 (Array.replicate 14 false) a0 X0:=by
 refine Rv.cs (X0:=X0) 13 10 en_sl (en_V b9 b11 b12 g L c7 k path u at_ y0 y1 y2 y3 y4 y5 y6) G K rfl (by decide) (by decide) (by decide) (fun j hj=>Nat.lt_of_lt_of_le ((by decide:∀ j,j<13→en_sl j<121) j hj) hs) (by decide) hG ?_ ?_ ?_ hQ
 ·intro i a W hi hic hO hW hd
  have hev:∀ j,a.eval (.tmp j)=Rv.ev a j:=fun _=>rfl
  have hcn:∀ v,a.eval (.const v)=v:=fun _=>rfl
  have hfn:∀ v,a.eval (.func v)=.func (.func v) #[] #[]:=fun _=>rfl
  have g9:Rv.ev a 9=.pointer (some ⟨b9,0,none⟩):=(hO.same 9 (by decide)).trans e9
  have g10:Rv.ev a 10=.int .i64 k:=(hO.same 10 (by decide)).trans e10
  have g11:Rv.ev a 11=.pointer (some ⟨b11,0,none⟩):=(hO.same 11 (by decide)).trans e11
  have g2:Rv.ev a 2=.int .i64 path:=(hO.same 2 (by decide)).trans e2
  have g14:Rv.ev a 14=.int .i64 u:=(hO.same 14 (by decide)).trans e14
  have g12:Rv.ev a 12=.pointer (some ⟨b12,0,none⟩):=(hO.same 12 (by decide)).trans e12
  obtain⟨z1,z2,p0,p1,p2,p3,p4,p5,p6⟩:=hS W hW
  have hN:i=0∨i=1∨i=2∨i=3∨i=4∨i=5∨i=6∨i=7∨i=8∨i=9∨i=11∨i=12:=by omega
  rcases hN with rfl|rfl|rfl|rfl|rfl|rfl|rfl|rfl|rfl|rfl|rfl|rfl
  ·exact Rv.runq (o:=en_0) rfl rfl (Rv.want_free rfl) (by unfold en_0;simp only[execOp,hev,g9];go_simp<;>rfl)
  ·have d68:Rv.ev a 68=.pointer (some ⟨b9,0,none⟩):=hd 0 (by decide) (by decide)
   exact Rv.runq (o:=en_1) rfl rfl (Rv.want_free rfl) (by unfold en_1;simp only[execOp,hev,d68];go_simp<;>rfl)
  ·exact Rv.runq (o:=en_2) rfl rfl (Rv.want_free rfl) (by unfold en_2;simp only[execOp,hev,g10];rfl)
  ·exact Rv.runq (o:=en_3) rfl rfl (Rv.want_free rfl) (by unfold en_3;simp only[execOp,hev,g11];go_simp<;>rfl)
  ·have d71:Rv.ev a 71=.pointer (some ⟨b11,3,none⟩):=hd 3 (by decide) (by decide)
   exact Rv.runq (o:=en_4) rfl rfl (Rv.want_free rfl) (by unfold en_4;simp only[execOp,hev,d71];go_simp<;>rfl)
  ·exact Rv.runq (o:=en_5) rfl rfl (Rv.want_free rfl) (by unfold en_5;simp only[execOp,hev,g2];rfl)
  ·exact Rv.runq (o:=en_6) rfl rfl (Rv.want_free rfl) (by unfold en_6;simp only[execOp,hev,g14];rfl)
  ·exact Rv.runq (o:=en_7) rfl rfl (Rv.want_free rfl) (by unfold en_7;simp only[execOp,hev,g12];go_simp<;>rfl)
  ·have d75:Rv.ev a 75=.pointer (some ⟨b12,6,none⟩):=hd 7 (by decide) (by decide)
   exact Rv.runq (o:=en_8) rfl rfl (Rv.want_free rfl) (by unfold en_8;simp only[execOp,hev,d75];go_simp<;>rfl)
  ·have d74:Rv.ev a 74=.int .i64 u:=hd 6 (by decide) (by decide)
   have d76:Rv.ev a 76=.int .i64 at_:=hd 8 (by decide) (by decide)
   exact Rv.runq (o:=en_9) rfl rfl (Rv.want_free rfl) (by unfold en_9;simp only[execOp,List.map_toArray,List.map_cons,List.map_nil,hev,hcn,d74,d76];go_simp<;>rfl)
  ·have d69:Rv.ev a 69=.slice (some ⟨g,0,none⟩) L c7:=hd 1 (by decide) (by decide)
   have d70:Rv.ev a 70=.int .i64 k:=hd 2 (by decide) (by decide)
   exact Rv.runq (o:=en_11) rfl rfl (Rv.want_free rfl) (by unfold en_11;simp only[execOp,hev,d69,d70];go_simp<;>rfl)
  ·have d79:Rv.ev a 79=.pointer (some ⟨g,k*11,none⟩):=hd 11 (by decide) (by decide)
   exact Rv.runq (o:=en_12) rfl rfl (Rv.want_free rfl) (by unfold en_12;simp only[execOp,hev,d79];go_simp<;>rfl)
 ·intro a hO hd
  have hev:∀ j,a.eval (.tmp j)=Rv.ev a j:=fun _=>rfl
  have hcn:∀ v,a.eval (.const v)=v:=fun _=>rfl
  have hfn:∀ v,a.eval (.func v)=.func (.func v) #[] #[]:=fun _=>rfl
  have g9:Rv.ev a 9=.pointer (some ⟨b9,0,none⟩):=(hO.same 9 (by decide)).trans e9
  have g10:Rv.ev a 10=.int .i64 k:=(hO.same 10 (by decide)).trans e10
  have g11:Rv.ev a 11=.pointer (some ⟨b11,0,none⟩):=(hO.same 11 (by decide)).trans e11
  have g2:Rv.ev a 2=.int .i64 path:=(hO.same 2 (by decide)).trans e2
  have g14:Rv.ev a 14=.int .i64 u:=(hO.same 14 (by decide)).trans e14
  have g12:Rv.ev a 12=.pointer (some ⟨b12,0,none⟩):=(hO.same 12 (by decide)).trans e12
  have d72:Rv.ev a 72=.agg #[y0,y1,y2,y3,y4,y5,y6]:=hd 4 (by decide) (by decide)
  have d73:Rv.ev a 73=.int .i64 path:=hd 5 (by decide) (by decide)
  have d77:Rv.ev a 77=.agg #[.int .i64 5,.string ⟨#[]⟩,.string ⟨#[]⟩,.int .i64 u,.complex .f64 0 0,.slice none 0 0,.int .i64 at_]:=hd 9 (by decide) (by decide)
  refine Rv.callq (o:=en_10) (f:=16) (vs:=#[.agg #[y0,y1,y2,y3,y4,y5,y6],.int .i64 path,.agg #[.int .i64 5,.string ⟨#[]⟩,.string ⟨#[]⟩,.int .i64 u,.complex .f64 0 0,.slice none 0 0,.int .i64 at_]]) rfl rfl (Rv.want_free rfl) ?_ hc
  unfold en_10
  simp only[execOp,resolve,invoke,Sem.run_bind,List.map_toArray,List.map_cons,List.map_nil,hev,hfn,d72,d73,d77]
  go_simp
 ·intro a W v hO hd hv hg
  have hev:∀ j,a.eval (.tmp j)=Rv.ev a j:=fun _=>rfl
  obtain⟨A,w',rfl,hA7,hrun,hK⟩:=hst v W hg
  have d80:Rv.ev a 80=.pointer (some ⟨g,k*11+3,none⟩):=hd 12 (by decide) (by decide)
  have d78:Rv.ev a 78=.agg A:=hv
  exact Rv.storeq (o:=en_13) rfl rfl (Rv.want_free rfl) (by unfold en_13;simp only[execOp,hev,d80,d78];go_simp<;>rfl) hK
end
set_option maxHeartbeats 16000000 in
theorem offN {x0 x1 x2 x3 x4 x5 x6 x7 x8 x9 x10 x11 x12 x13 x14 x15 x16 x17 x18 x19 x20 x21 x22 x23 x24 x25 x26 x27 x28 x29 x30 x31 x32 x33 x34 x35 x36 x37 x38 x39 x40 x41 x42 x43 x44 x45 x46 x47 x48 x49 x50 x51 x52 x53 x54 x55 x56 x57 x58 x59 x60 x61 x62 x63 x64 x65 x66 x67 x68 x69 x70 x71 x72 x73 x74 x75 x76 x77 x78 x79 x80 x81 x82 x83 x84 x85 x86 x87 x88 x89 x90 x91 x92 x93 x94 x95 x96 x97 x98 x99 x100 x101 x102 x103 x104 x105 x106 x107 x108 x109 x110 x111 x112 x113 x114 x115 x116 x117 x118 x119 x120:Value} {a:Act} (h:Rv.Off 13 en_sl { tmps:=#[x0,x1,x2,x3,x4,x5,x6,x7,x8,x9,x10,x11,x12,x13,x14,x15,x16,x17,x18,x19,x20,x21,x22,x23,x24,x25,x26,x27,x28,x29,x30,x31,x32,x33,x34,x35,x36,x37,x38,x39,x40,x41,x42,x43,x44,x45,x46,x47,x48,x49,x50,x51,x52,x53,x54,x55,x56,x57,x58,x59,x60,x61,x62,x63,x64,x65,x66,x67,x68,x69,x70,x71,x72,x73,x74,x75,x76,x77,x78,x79,x80,x81,x82,x83,x84,x85,x86,x87,x88,x89,x90,x91,x92,x93,x94,x95,x96,x97,x98,x99,x100,x101,x102,x103,x104,x105,x106,x107,x108,x109,x110,x111,x112,x113,x114,x115,x116,x117,x118,x119,x120],defers:=[] } a):∃ y68 y69 y70 y71 y72 y73 y74 y75 y76 y77 y78 y79 y80,(Rv.ev a 68=y68∧Rv.ev a 69=y69∧Rv.ev a 70=y70∧Rv.ev a 71=y71∧Rv.ev a 72=y72∧Rv.ev a 73=y73∧Rv.ev a 74=y74∧Rv.ev a 75=y75∧Rv.ev a 76=y76∧Rv.ev a 77=y77∧Rv.ev a 78=y78∧Rv.ev a 79=y79∧Rv.ev a 80=y80)∧a={ tmps:=#[x0,x1,x2,x3,x4,x5,x6,x7,x8,x9,x10,x11,x12,x13,x14,x15,x16,x17,x18,x19,x20,x21,x22,x23,x24,x25,x26,x27,x28,x29,x30,x31,x32,x33,x34,x35,x36,x37,x38,x39,x40,x41,x42,x43,x44,x45,x46,x47,x48,x49,x50,x51,x52,x53,x54,x55,x56,x57,x58,x59,x60,x61,x62,x63,x64,x65,x66,x67,y68,y69,y70,y71,y72,y73,y74,y75,y76,y77,y78,y79,y80,x81,x82,x83,x84,x85,x86,x87,x88,x89,x90,x91,x92,x93,x94,x95,x96,x97,x98,x99,x100,x101,x102,x103,x104,x105,x106,x107,x108,x109,x110,x111,x112,x113,x114,x115,x116,x117,x118,x119,x120],defers:=[] }:=by
 refine⟨Rv.ev a 68,Rv.ev a 69,Rv.ev a 70,Rv.ev a 71,Rv.ev a 72,Rv.ev a 73,Rv.ev a 74,Rv.ev a 75,Rv.ev a 76,Rv.ev a 77,Rv.ev a 78,Rv.ev a 79,Rv.ev a 80,⟨rfl,rfl,rfl,rfl,rfl,rfl,rfl,rfl,rfl,rfl,rfl,rfl,rfl⟩,?_⟩
 have e:=tmps121 a h.size
 rw[lit121] at e
 have h0:Rv.ev a 0=x0:=h.same 0 (by decide)
 have h1:Rv.ev a 1=x1:=h.same 1 (by decide)
 have h2:Rv.ev a 2=x2:=h.same 2 (by decide)
 have h3:Rv.ev a 3=x3:=h.same 3 (by decide)
 have h4:Rv.ev a 4=x4:=h.same 4 (by decide)
 have h5:Rv.ev a 5=x5:=h.same 5 (by decide)
 have h6:Rv.ev a 6=x6:=h.same 6 (by decide)
 have h7:Rv.ev a 7=x7:=h.same 7 (by decide)
 have h8:Rv.ev a 8=x8:=h.same 8 (by decide)
 have h9:Rv.ev a 9=x9:=h.same 9 (by decide)
 have h10:Rv.ev a 10=x10:=h.same 10 (by decide)
 have h11:Rv.ev a 11=x11:=h.same 11 (by decide)
 have h12:Rv.ev a 12=x12:=h.same 12 (by decide)
 have h13:Rv.ev a 13=x13:=h.same 13 (by decide)
 have h14:Rv.ev a 14=x14:=h.same 14 (by decide)
 have h15:Rv.ev a 15=x15:=h.same 15 (by decide)
 have h16:Rv.ev a 16=x16:=h.same 16 (by decide)
 have h17:Rv.ev a 17=x17:=h.same 17 (by decide)
 have h18:Rv.ev a 18=x18:=h.same 18 (by decide)
 have h19:Rv.ev a 19=x19:=h.same 19 (by decide)
 have h20:Rv.ev a 20=x20:=h.same 20 (by decide)
 have h21:Rv.ev a 21=x21:=h.same 21 (by decide)
 have h22:Rv.ev a 22=x22:=h.same 22 (by decide)
 have h23:Rv.ev a 23=x23:=h.same 23 (by decide)
 have h24:Rv.ev a 24=x24:=h.same 24 (by decide)
 have h25:Rv.ev a 25=x25:=h.same 25 (by decide)
 have h26:Rv.ev a 26=x26:=h.same 26 (by decide)
 have h27:Rv.ev a 27=x27:=h.same 27 (by decide)
 have h28:Rv.ev a 28=x28:=h.same 28 (by decide)
 have h29:Rv.ev a 29=x29:=h.same 29 (by decide)
 have h30:Rv.ev a 30=x30:=h.same 30 (by decide)
 have h31:Rv.ev a 31=x31:=h.same 31 (by decide)
 have h32:Rv.ev a 32=x32:=h.same 32 (by decide)
 have h33:Rv.ev a 33=x33:=h.same 33 (by decide)
 have h34:Rv.ev a 34=x34:=h.same 34 (by decide)
 have h35:Rv.ev a 35=x35:=h.same 35 (by decide)
 have h36:Rv.ev a 36=x36:=h.same 36 (by decide)
 have h37:Rv.ev a 37=x37:=h.same 37 (by decide)
 have h38:Rv.ev a 38=x38:=h.same 38 (by decide)
 have h39:Rv.ev a 39=x39:=h.same 39 (by decide)
 have h40:Rv.ev a 40=x40:=h.same 40 (by decide)
 have h41:Rv.ev a 41=x41:=h.same 41 (by decide)
 have h42:Rv.ev a 42=x42:=h.same 42 (by decide)
 have h43:Rv.ev a 43=x43:=h.same 43 (by decide)
 have h44:Rv.ev a 44=x44:=h.same 44 (by decide)
 have h45:Rv.ev a 45=x45:=h.same 45 (by decide)
 have h46:Rv.ev a 46=x46:=h.same 46 (by decide)
 have h47:Rv.ev a 47=x47:=h.same 47 (by decide)
 have h48:Rv.ev a 48=x48:=h.same 48 (by decide)
 have h49:Rv.ev a 49=x49:=h.same 49 (by decide)
 have h50:Rv.ev a 50=x50:=h.same 50 (by decide)
 have h51:Rv.ev a 51=x51:=h.same 51 (by decide)
 have h52:Rv.ev a 52=x52:=h.same 52 (by decide)
 have h53:Rv.ev a 53=x53:=h.same 53 (by decide)
 have h54:Rv.ev a 54=x54:=h.same 54 (by decide)
 have h55:Rv.ev a 55=x55:=h.same 55 (by decide)
 have h56:Rv.ev a 56=x56:=h.same 56 (by decide)
 have h57:Rv.ev a 57=x57:=h.same 57 (by decide)
 have h58:Rv.ev a 58=x58:=h.same 58 (by decide)
 have h59:Rv.ev a 59=x59:=h.same 59 (by decide)
 have h60:Rv.ev a 60=x60:=h.same 60 (by decide)
 have h61:Rv.ev a 61=x61:=h.same 61 (by decide)
 have h62:Rv.ev a 62=x62:=h.same 62 (by decide)
 have h63:Rv.ev a 63=x63:=h.same 63 (by decide)
 have h64:Rv.ev a 64=x64:=h.same 64 (by decide)
 have h65:Rv.ev a 65=x65:=h.same 65 (by decide)
 have h66:Rv.ev a 66=x66:=h.same 66 (by decide)
 have h67:Rv.ev a 67=x67:=h.same 67 (by decide)
 have h81:Rv.ev a 81=x81:=h.same 81 (by decide)
 have h82:Rv.ev a 82=x82:=h.same 82 (by decide)
 have h83:Rv.ev a 83=x83:=h.same 83 (by decide)
 have h84:Rv.ev a 84=x84:=h.same 84 (by decide)
 have h85:Rv.ev a 85=x85:=h.same 85 (by decide)
 have h86:Rv.ev a 86=x86:=h.same 86 (by decide)
 have h87:Rv.ev a 87=x87:=h.same 87 (by decide)
 have h88:Rv.ev a 88=x88:=h.same 88 (by decide)
 have h89:Rv.ev a 89=x89:=h.same 89 (by decide)
 have h90:Rv.ev a 90=x90:=h.same 90 (by decide)
 have h91:Rv.ev a 91=x91:=h.same 91 (by decide)
 have h92:Rv.ev a 92=x92:=h.same 92 (by decide)
 have h93:Rv.ev a 93=x93:=h.same 93 (by decide)
 have h94:Rv.ev a 94=x94:=h.same 94 (by decide)
 have h95:Rv.ev a 95=x95:=h.same 95 (by decide)
 have h96:Rv.ev a 96=x96:=h.same 96 (by decide)
 have h97:Rv.ev a 97=x97:=h.same 97 (by decide)
 have h98:Rv.ev a 98=x98:=h.same 98 (by decide)
 have h99:Rv.ev a 99=x99:=h.same 99 (by decide)
 have h100:Rv.ev a 100=x100:=h.same 100 (by decide)
 have h101:Rv.ev a 101=x101:=h.same 101 (by decide)
 have h102:Rv.ev a 102=x102:=h.same 102 (by decide)
 have h103:Rv.ev a 103=x103:=h.same 103 (by decide)
 have h104:Rv.ev a 104=x104:=h.same 104 (by decide)
 have h105:Rv.ev a 105=x105:=h.same 105 (by decide)
 have h106:Rv.ev a 106=x106:=h.same 106 (by decide)
 have h107:Rv.ev a 107=x107:=h.same 107 (by decide)
 have h108:Rv.ev a 108=x108:=h.same 108 (by decide)
 have h109:Rv.ev a 109=x109:=h.same 109 (by decide)
 have h110:Rv.ev a 110=x110:=h.same 110 (by decide)
 have h111:Rv.ev a 111=x111:=h.same 111 (by decide)
 have h112:Rv.ev a 112=x112:=h.same 112 (by decide)
 have h113:Rv.ev a 113=x113:=h.same 113 (by decide)
 have h114:Rv.ev a 114=x114:=h.same 114 (by decide)
 have h115:Rv.ev a 115=x115:=h.same 115 (by decide)
 have h116:Rv.ev a 116=x116:=h.same 116 (by decide)
 have h117:Rv.ev a 117=x117:=h.same 117 (by decide)
 have h118:Rv.ev a 118=x118:=h.same 118 (by decide)
 have h119:Rv.ev a 119=x119:=h.same 119 (by decide)
 have h120:Rv.ev a 120=x120:=h.same 120 (by decide)
 rw[h0,h1,h2,h3,h4,h5,h6,h7,h8,h9,h10,h11,h12,h13,h14,h15,h16,h17,h18,h19,h20,h21,h22,h23,h24,h25,h26,h27,h28,h29,h30,h31,h32,h33,h34,h35,h36,h37,h38,h39,h40,h41,h42,h43,h44,h45,h46,h47,h48,h49,h50,h51,h52,h53,h54,h55,h56,h57,h58,h59,h60,h61,h62,h63,h64,h65,h66,h67,h81,h82,h83,h84,h85,h86,h87,h88,h89,h90,h91,h92,h93,h94,h95,h96,h97,h98,h99,h100,h101,h102,h103,h104,h105,h106,h107,h108,h109,h110,h111,h112,h113,h114,h115,h116,h117,h118,h119,h120] at e
 have hd:a.defers=[]:=h.def_
 cases a
 simp only at e hd
 rw[hd]
 exact congrArg (fun t=>({ tmps:=t,defers:=[] }:Act)) e
def eo_0 : Oper := { dst := some 102, op := Op.fieldAddr 26 (Operand.tmp 9) 0, type := 0, pos := "law.go:158", after := #[], guard := none }
def eo_1 : Oper := { dst := some 103, op := Op.load 24 (Operand.tmp 102), type := 24, pos := "law.go:158", after := #[{ on := 0, ground := Ground.data }], guard := none }
def eo_2 : Oper := { dst := some 104, op := Op.move (Operand.tmp 10), type := 3, pos := "law.go:158", after := #[], guard := none }
def eo_3 : Oper := { dst := some 105, op := Op.fieldAddr 42 (Operand.tmp 11) 3, type := 0, pos := "law.go:158", after := #[], guard := none }
def eo_4 : Oper := { dst := some 106, op := Op.load 40 (Operand.tmp 105), type := 40, pos := "law.go:158", after := #[{ on := 3, ground := Ground.data }], guard := none }
def eo_5 : Oper := { dst := some 107, op := Op.move (Operand.tmp 2), type := 3, pos := "law.go:158", after := #[], guard := none }
def eo_6 : Oper := { dst := some 108, op := Op.load 40 (Operand.tmp 12), type := 40, pos := "law.go:158", after := #[], guard := none }
def eo_7 : Oper := { dst := some 109, op := Op.call { callee := Callee.value (Operand.func 16), args := #[Operand.tmp 106, Operand.tmp 107, Operand.tmp 108], argTypes := #[40, 3, 40] }, type := 40, pos := "law.go:158", after := #[{ on := 4, ground := Ground.data }, { on := 5, ground := Ground.data }, { on := 6, ground := Ground.data }], guard := none }
def eo_8 : Oper := { dst := some 110, op := Op.indexAddr 24 (Operand.tmp 103) (Operand.tmp 104), type := 0, pos := "law.go:158", after := #[{ on := 1, ground := Ground.data }, { on := 2, ground := Ground.data }, { on := 0, ground := Ground.phase }, { on := 1, ground := Ground.phase }, { on := 2, ground := Ground.phase }, { on := 3, ground := Ground.phase }, { on := 4, ground := Ground.phase }, { on := 5, ground := Ground.phase }, { on := 6, ground := Ground.phase }, { on := 7, ground := Ground.phase }], guard := none }
def eo_9 : Oper := { dst := some 111, op := Op.fieldAddr 42 (Operand.tmp 110) 3, type := 0, pos := "law.go:158", after := #[{ on := 8, ground := Ground.data }, { on := 0, ground := Ground.phase }, { on := 1, ground := Ground.phase }, { on := 2, ground := Ground.phase }, { on := 3, ground := Ground.phase }, { on := 4, ground := Ground.phase }, { on := 5, ground := Ground.phase }, { on := 6, ground := Ground.phase }, { on := 7, ground := Ground.phase }], guard := none }
def eo_10 : Oper := { dst := none, op := Op.store 40 (Operand.tmp 111) (Operand.tmp 109), type := 0, pos := "law.go:158", after := #[{ on := 9, ground := Ground.data }, { on := 7, ground := Ground.data }, { on := 7, ground := Ground.chain }, { on := 0, ground := Ground.phase }, { on := 1, ground := Ground.phase }, { on := 2, ground := Ground.phase }, { on := 3, ground := Ground.phase }, { on := 4, ground := Ground.phase }, { on := 5, ground := Ground.phase }, { on := 6, ground := Ground.phase }, { on := 7, ground := Ground.phase }], guard := none }
def eo_ops:Array Oper:=#[eo_0,eo_1,eo_2,eo_3,eo_4,eo_5,eo_6,eo_7,eo_8,eo_9,eo_10]
def eo_sl (k:Nat):Nat:=102+k
def eo_V (b9 b11 _b12 g L c7 k:Nat) (path:Int) (y0 y1 y2 y3 y4 y5 y6 t0 t1 t2 t3 t4 t5 t6:Value):Nat→Value
 |0=>.pointer (some ⟨b9,0,none⟩)
 |1=>.slice (some ⟨g,0,none⟩) L c7
 |2=>.int .i64 k
 |3=>.pointer (some ⟨b11,3,none⟩)
 |4=>.agg #[y0,y1,y2,y3,y4,y5,y6]
 |5=>.int .i64 path
 |6=>.agg #[t0,t1,t2,t3,t4,t5,t6]
 |7=>undef
 |8=>.pointer (some ⟨g,k*11,none⟩)
 |_=>.pointer (some ⟨g,k*11+3,none⟩)
section
variable {Q:Exit→Act→World→Prop} {X0:World} {a0:Act}
set_option maxHeartbeats 4000000 in
theorem fail17 {b9 b11 b12 g L c7 k:Nat} {path:Int} {y0 y1 y2 y3 y4 y5 y6 t0 t1 t2 t3 t4 t5 t6:Value} (hkn:k<L) (hS:∀ w,Below X0.heap.size X0 w→w.cell? ⟨b9,0,none⟩=some (.slice (some ⟨g,0,none⟩) L c7)∧w.cell? ⟨b11,3,none⟩=some y0∧w.cell? ⟨b11,4,none⟩=some y1∧w.cell? ⟨b11,5,none⟩=some y2∧w.cell? ⟨b11,6,none⟩=some y3∧w.cell? ⟨b11,7,none⟩=some y4∧w.cell? ⟨b11,8,none⟩=some y5∧w.cell? ⟨b11,9,none⟩=some y6∧w.cell? ⟨b12,0,none⟩=some t0∧w.cell? ⟨b12,1,none⟩=some t1∧w.cell? ⟨b12,2,none⟩=some t2∧w.cell? ⟨b12,3,none⟩=some t3∧w.cell? ⟨b12,4,none⟩=some t4∧w.cell? ⟨b12,5,none⟩=some t5∧w.cell? ⟨b12,6,none⟩=some t6) (G:Value→World→Prop) (K:World→Prop) (hG:∀ v w,G v w→Below X0.heap.size X0 w)
  (hc:Calls Try.prog 16 #[.agg #[y0,y1,y2,y3,y4,y5,y6],.int .i64 path,.agg #[t0,t1,t2,t3,t4,t5,t6]] X0 fun e w'=>∃ v,e=.returned v∧G v w')
  (hst:∀ v w,G v w→∃ A w',v=.agg A∧A.size=7∧(storeCells ⟨g,k*11+3,none⟩ A.toList).run Try.prog w=.ok () w'∧K w') (hs:121≤a0.tmps.size)
  (e9:Rv.ev a0 9=.pointer (some ⟨b9,0,none⟩))
  (e10:Rv.ev a0 10=.int .i64 k)
  (e11:Rv.ev a0 11=.pointer (some ⟨b11,0,none⟩))
  (e2:Rv.ev a0 2=.int .i64 path)
  (e12:Rv.ev a0 12=.pointer (some ⟨b12,0,none⟩))
  (hQ:∀ a w,Rv.Off 10 eo_sl a0 a→K w→Q .normal a w) :
  wpAny Try.prog .any eo_ops Q 11 (Array.replicate 11 false) a0 X0:=by
 refine Rv.cs (X0:=X0) 10 7 eo_sl (eo_V b9 b11 b12 g L c7 k path y0 y1 y2 y3 y4 y5 y6 t0 t1 t2 t3 t4 t5 t6) G K rfl (by decide) (by decide) (by decide) (fun j hj=>Nat.lt_of_lt_of_le ((by decide:∀ j,j<10→eo_sl j<121) j hj) hs) (by decide) hG ?_ ?_ ?_ hQ
 ·intro i a W hi hic hO hW hd
  have hev:∀ j,a.eval (.tmp j)=Rv.ev a j:=fun _=>rfl
  have hcn:∀ v,a.eval (.const v)=v:=fun _=>rfl
  have hfn:∀ v,a.eval (.func v)=.func (.func v) #[] #[]:=fun _=>rfl
  have g9:Rv.ev a 9=.pointer (some ⟨b9,0,none⟩):=(hO.same 9 (by decide)).trans e9
  have g10:Rv.ev a 10=.int .i64 k:=(hO.same 10 (by decide)).trans e10
  have g11:Rv.ev a 11=.pointer (some ⟨b11,0,none⟩):=(hO.same 11 (by decide)).trans e11
  have g2:Rv.ev a 2=.int .i64 path:=(hO.same 2 (by decide)).trans e2
  have g12:Rv.ev a 12=.pointer (some ⟨b12,0,none⟩):=(hO.same 12 (by decide)).trans e12
  obtain⟨z1,p0,p1,p2,p3,p4,p5,p6,q0,q1,q2,q3,q4,q5,q6⟩:=hS W hW
  have hN:i=0∨i=1∨i=2∨i=3∨i=4∨i=5∨i=6∨i=8∨i=9:=by omega
  rcases hN with rfl|rfl|rfl|rfl|rfl|rfl|rfl|rfl|rfl
  ·exact Rv.runq (o:=eo_0) rfl rfl (Rv.want_free rfl) (by unfold eo_0;simp only[execOp,hev,g9];go_simp<;>rfl)
  ·have d102:Rv.ev a 102=.pointer (some ⟨b9,0,none⟩):=hd 0 (by decide) (by decide)
   exact Rv.runq (o:=eo_1) rfl rfl (Rv.want_free rfl) (by unfold eo_1;simp only[execOp,hev,d102];go_simp<;>rfl)
  ·exact Rv.runq (o:=eo_2) rfl rfl (Rv.want_free rfl) (by unfold eo_2;simp only[execOp,hev,g10];rfl)
  ·exact Rv.runq (o:=eo_3) rfl rfl (Rv.want_free rfl) (by unfold eo_3;simp only[execOp,hev,g11];go_simp<;>rfl)
  ·have d105:Rv.ev a 105=.pointer (some ⟨b11,3,none⟩):=hd 3 (by decide) (by decide)
   exact Rv.runq (o:=eo_4) rfl rfl (Rv.want_free rfl) (by unfold eo_4;simp only[execOp,hev,d105];go_simp<;>rfl)
  ·exact Rv.runq (o:=eo_5) rfl rfl (Rv.want_free rfl) (by unfold eo_5;simp only[execOp,hev,g2];rfl)
  ·exact Rv.runq (o:=eo_6) rfl rfl (Rv.want_free rfl) (by unfold eo_6;simp only[execOp,hev,g12];go_simp<;>rfl)
  ·have d103:Rv.ev a 103=.slice (some ⟨g,0,none⟩) L c7:=hd 1 (by decide) (by decide)
   have d104:Rv.ev a 104=.int .i64 k:=hd 2 (by decide) (by decide)
   exact Rv.runq (o:=eo_8) rfl rfl (Rv.want_free rfl) (by unfold eo_8;simp only[execOp,hev,d103,d104];go_simp<;>rfl)
  ·have d110:Rv.ev a 110=.pointer (some ⟨g,k*11,none⟩):=hd 8 (by decide) (by decide)
   exact Rv.runq (o:=eo_9) rfl rfl (Rv.want_free rfl) (by unfold eo_9;simp only[execOp,hev,d110];go_simp<;>rfl)
 ·intro a hO hd
  have hev:∀ j,a.eval (.tmp j)=Rv.ev a j:=fun _=>rfl
  have hcn:∀ v,a.eval (.const v)=v:=fun _=>rfl
  have hfn:∀ v,a.eval (.func v)=.func (.func v) #[] #[]:=fun _=>rfl
  have g9:Rv.ev a 9=.pointer (some ⟨b9,0,none⟩):=(hO.same 9 (by decide)).trans e9
  have g10:Rv.ev a 10=.int .i64 k:=(hO.same 10 (by decide)).trans e10
  have g11:Rv.ev a 11=.pointer (some ⟨b11,0,none⟩):=(hO.same 11 (by decide)).trans e11
  have g2:Rv.ev a 2=.int .i64 path:=(hO.same 2 (by decide)).trans e2
  have g12:Rv.ev a 12=.pointer (some ⟨b12,0,none⟩):=(hO.same 12 (by decide)).trans e12
  have d106:Rv.ev a 106=.agg #[y0,y1,y2,y3,y4,y5,y6]:=hd 4 (by decide) (by decide)
  have d107:Rv.ev a 107=.int .i64 path:=hd 5 (by decide) (by decide)
  have d108:Rv.ev a 108=.agg #[t0,t1,t2,t3,t4,t5,t6]:=hd 6 (by decide) (by decide)
  refine Rv.callq (o:=eo_7) (f:=16) (vs:=#[.agg #[y0,y1,y2,y3,y4,y5,y6],.int .i64 path,.agg #[t0,t1,t2,t3,t4,t5,t6]]) rfl rfl (Rv.want_free rfl) ?_ hc
  unfold eo_7
  simp only[execOp,resolve,invoke,Sem.run_bind,List.map_toArray,List.map_cons,List.map_nil,hev,hfn,d106,d107,d108]
  go_simp
 ·intro a W v hO hd hv hg
  have hev:∀ j,a.eval (.tmp j)=Rv.ev a j:=fun _=>rfl
  obtain⟨A,w',rfl,hA7,hrun,hK⟩:=hst v W hg
  have d111:Rv.ev a 111=.pointer (some ⟨g,k*11+3,none⟩):=hd 9 (by decide) (by decide)
  have d109:Rv.ev a 109=.agg A:=hv
  exact Rv.storeq (o:=eo_10) rfl rfl (Rv.want_free rfl) (by unfold eo_10;simp only[execOp,hev,d111,d109];go_simp<;>rfl) hK
end
set_option maxHeartbeats 16000000 in
theorem offO {x0 x1 x2 x3 x4 x5 x6 x7 x8 x9 x10 x11 x12 x13 x14 x15 x16 x17 x18 x19 x20 x21 x22 x23 x24 x25 x26 x27 x28 x29 x30 x31 x32 x33 x34 x35 x36 x37 x38 x39 x40 x41 x42 x43 x44 x45 x46 x47 x48 x49 x50 x51 x52 x53 x54 x55 x56 x57 x58 x59 x60 x61 x62 x63 x64 x65 x66 x67 x68 x69 x70 x71 x72 x73 x74 x75 x76 x77 x78 x79 x80 x81 x82 x83 x84 x85 x86 x87 x88 x89 x90 x91 x92 x93 x94 x95 x96 x97 x98 x99 x100 x101 x102 x103 x104 x105 x106 x107 x108 x109 x110 x111 x112 x113 x114 x115 x116 x117 x118 x119 x120:Value} {a:Act} (h:Rv.Off 10 eo_sl { tmps:=#[x0,x1,x2,x3,x4,x5,x6,x7,x8,x9,x10,x11,x12,x13,x14,x15,x16,x17,x18,x19,x20,x21,x22,x23,x24,x25,x26,x27,x28,x29,x30,x31,x32,x33,x34,x35,x36,x37,x38,x39,x40,x41,x42,x43,x44,x45,x46,x47,x48,x49,x50,x51,x52,x53,x54,x55,x56,x57,x58,x59,x60,x61,x62,x63,x64,x65,x66,x67,x68,x69,x70,x71,x72,x73,x74,x75,x76,x77,x78,x79,x80,x81,x82,x83,x84,x85,x86,x87,x88,x89,x90,x91,x92,x93,x94,x95,x96,x97,x98,x99,x100,x101,x102,x103,x104,x105,x106,x107,x108,x109,x110,x111,x112,x113,x114,x115,x116,x117,x118,x119,x120],defers:=[] } a):∃ y102 y103 y104 y105 y106 y107 y108 y109 y110 y111,(Rv.ev a 102=y102∧Rv.ev a 103=y103∧Rv.ev a 104=y104∧Rv.ev a 105=y105∧Rv.ev a 106=y106∧Rv.ev a 107=y107∧Rv.ev a 108=y108∧Rv.ev a 109=y109∧Rv.ev a 110=y110∧Rv.ev a 111=y111)∧a={ tmps:=#[x0,x1,x2,x3,x4,x5,x6,x7,x8,x9,x10,x11,x12,x13,x14,x15,x16,x17,x18,x19,x20,x21,x22,x23,x24,x25,x26,x27,x28,x29,x30,x31,x32,x33,x34,x35,x36,x37,x38,x39,x40,x41,x42,x43,x44,x45,x46,x47,x48,x49,x50,x51,x52,x53,x54,x55,x56,x57,x58,x59,x60,x61,x62,x63,x64,x65,x66,x67,x68,x69,x70,x71,x72,x73,x74,x75,x76,x77,x78,x79,x80,x81,x82,x83,x84,x85,x86,x87,x88,x89,x90,x91,x92,x93,x94,x95,x96,x97,x98,x99,x100,x101,y102,y103,y104,y105,y106,y107,y108,y109,y110,y111,x112,x113,x114,x115,x116,x117,x118,x119,x120],defers:=[] }:=by
 refine⟨Rv.ev a 102,Rv.ev a 103,Rv.ev a 104,Rv.ev a 105,Rv.ev a 106,Rv.ev a 107,Rv.ev a 108,Rv.ev a 109,Rv.ev a 110,Rv.ev a 111,⟨rfl,rfl,rfl,rfl,rfl,rfl,rfl,rfl,rfl,rfl⟩,?_⟩
 have e:=tmps121 a h.size
 rw[lit121] at e
 have h0:Rv.ev a 0=x0:=h.same 0 (by decide)
 have h1:Rv.ev a 1=x1:=h.same 1 (by decide)
 have h2:Rv.ev a 2=x2:=h.same 2 (by decide)
 have h3:Rv.ev a 3=x3:=h.same 3 (by decide)
 have h4:Rv.ev a 4=x4:=h.same 4 (by decide)
 have h5:Rv.ev a 5=x5:=h.same 5 (by decide)
 have h6:Rv.ev a 6=x6:=h.same 6 (by decide)
 have h7:Rv.ev a 7=x7:=h.same 7 (by decide)
 have h8:Rv.ev a 8=x8:=h.same 8 (by decide)
 have h9:Rv.ev a 9=x9:=h.same 9 (by decide)
 have h10:Rv.ev a 10=x10:=h.same 10 (by decide)
 have h11:Rv.ev a 11=x11:=h.same 11 (by decide)
 have h12:Rv.ev a 12=x12:=h.same 12 (by decide)
 have h13:Rv.ev a 13=x13:=h.same 13 (by decide)
 have h14:Rv.ev a 14=x14:=h.same 14 (by decide)
 have h15:Rv.ev a 15=x15:=h.same 15 (by decide)
 have h16:Rv.ev a 16=x16:=h.same 16 (by decide)
 have h17:Rv.ev a 17=x17:=h.same 17 (by decide)
 have h18:Rv.ev a 18=x18:=h.same 18 (by decide)
 have h19:Rv.ev a 19=x19:=h.same 19 (by decide)
 have h20:Rv.ev a 20=x20:=h.same 20 (by decide)
 have h21:Rv.ev a 21=x21:=h.same 21 (by decide)
 have h22:Rv.ev a 22=x22:=h.same 22 (by decide)
 have h23:Rv.ev a 23=x23:=h.same 23 (by decide)
 have h24:Rv.ev a 24=x24:=h.same 24 (by decide)
 have h25:Rv.ev a 25=x25:=h.same 25 (by decide)
 have h26:Rv.ev a 26=x26:=h.same 26 (by decide)
 have h27:Rv.ev a 27=x27:=h.same 27 (by decide)
 have h28:Rv.ev a 28=x28:=h.same 28 (by decide)
 have h29:Rv.ev a 29=x29:=h.same 29 (by decide)
 have h30:Rv.ev a 30=x30:=h.same 30 (by decide)
 have h31:Rv.ev a 31=x31:=h.same 31 (by decide)
 have h32:Rv.ev a 32=x32:=h.same 32 (by decide)
 have h33:Rv.ev a 33=x33:=h.same 33 (by decide)
 have h34:Rv.ev a 34=x34:=h.same 34 (by decide)
 have h35:Rv.ev a 35=x35:=h.same 35 (by decide)
 have h36:Rv.ev a 36=x36:=h.same 36 (by decide)
 have h37:Rv.ev a 37=x37:=h.same 37 (by decide)
 have h38:Rv.ev a 38=x38:=h.same 38 (by decide)
 have h39:Rv.ev a 39=x39:=h.same 39 (by decide)
 have h40:Rv.ev a 40=x40:=h.same 40 (by decide)
 have h41:Rv.ev a 41=x41:=h.same 41 (by decide)
 have h42:Rv.ev a 42=x42:=h.same 42 (by decide)
 have h43:Rv.ev a 43=x43:=h.same 43 (by decide)
 have h44:Rv.ev a 44=x44:=h.same 44 (by decide)
 have h45:Rv.ev a 45=x45:=h.same 45 (by decide)
 have h46:Rv.ev a 46=x46:=h.same 46 (by decide)
 have h47:Rv.ev a 47=x47:=h.same 47 (by decide)
 have h48:Rv.ev a 48=x48:=h.same 48 (by decide)
 have h49:Rv.ev a 49=x49:=h.same 49 (by decide)
 have h50:Rv.ev a 50=x50:=h.same 50 (by decide)
 have h51:Rv.ev a 51=x51:=h.same 51 (by decide)
 have h52:Rv.ev a 52=x52:=h.same 52 (by decide)
 have h53:Rv.ev a 53=x53:=h.same 53 (by decide)
 have h54:Rv.ev a 54=x54:=h.same 54 (by decide)
 have h55:Rv.ev a 55=x55:=h.same 55 (by decide)
 have h56:Rv.ev a 56=x56:=h.same 56 (by decide)
 have h57:Rv.ev a 57=x57:=h.same 57 (by decide)
 have h58:Rv.ev a 58=x58:=h.same 58 (by decide)
 have h59:Rv.ev a 59=x59:=h.same 59 (by decide)
 have h60:Rv.ev a 60=x60:=h.same 60 (by decide)
 have h61:Rv.ev a 61=x61:=h.same 61 (by decide)
 have h62:Rv.ev a 62=x62:=h.same 62 (by decide)
 have h63:Rv.ev a 63=x63:=h.same 63 (by decide)
 have h64:Rv.ev a 64=x64:=h.same 64 (by decide)
 have h65:Rv.ev a 65=x65:=h.same 65 (by decide)
 have h66:Rv.ev a 66=x66:=h.same 66 (by decide)
 have h67:Rv.ev a 67=x67:=h.same 67 (by decide)
 have h68:Rv.ev a 68=x68:=h.same 68 (by decide)
 have h69:Rv.ev a 69=x69:=h.same 69 (by decide)
 have h70:Rv.ev a 70=x70:=h.same 70 (by decide)
 have h71:Rv.ev a 71=x71:=h.same 71 (by decide)
 have h72:Rv.ev a 72=x72:=h.same 72 (by decide)
 have h73:Rv.ev a 73=x73:=h.same 73 (by decide)
 have h74:Rv.ev a 74=x74:=h.same 74 (by decide)
 have h75:Rv.ev a 75=x75:=h.same 75 (by decide)
 have h76:Rv.ev a 76=x76:=h.same 76 (by decide)
 have h77:Rv.ev a 77=x77:=h.same 77 (by decide)
 have h78:Rv.ev a 78=x78:=h.same 78 (by decide)
 have h79:Rv.ev a 79=x79:=h.same 79 (by decide)
 have h80:Rv.ev a 80=x80:=h.same 80 (by decide)
 have h81:Rv.ev a 81=x81:=h.same 81 (by decide)
 have h82:Rv.ev a 82=x82:=h.same 82 (by decide)
 have h83:Rv.ev a 83=x83:=h.same 83 (by decide)
 have h84:Rv.ev a 84=x84:=h.same 84 (by decide)
 have h85:Rv.ev a 85=x85:=h.same 85 (by decide)
 have h86:Rv.ev a 86=x86:=h.same 86 (by decide)
 have h87:Rv.ev a 87=x87:=h.same 87 (by decide)
 have h88:Rv.ev a 88=x88:=h.same 88 (by decide)
 have h89:Rv.ev a 89=x89:=h.same 89 (by decide)
 have h90:Rv.ev a 90=x90:=h.same 90 (by decide)
 have h91:Rv.ev a 91=x91:=h.same 91 (by decide)
 have h92:Rv.ev a 92=x92:=h.same 92 (by decide)
 have h93:Rv.ev a 93=x93:=h.same 93 (by decide)
 have h94:Rv.ev a 94=x94:=h.same 94 (by decide)
 have h95:Rv.ev a 95=x95:=h.same 95 (by decide)
 have h96:Rv.ev a 96=x96:=h.same 96 (by decide)
 have h97:Rv.ev a 97=x97:=h.same 97 (by decide)
 have h98:Rv.ev a 98=x98:=h.same 98 (by decide)
 have h99:Rv.ev a 99=x99:=h.same 99 (by decide)
 have h100:Rv.ev a 100=x100:=h.same 100 (by decide)
 have h101:Rv.ev a 101=x101:=h.same 101 (by decide)
 have h112:Rv.ev a 112=x112:=h.same 112 (by decide)
 have h113:Rv.ev a 113=x113:=h.same 113 (by decide)
 have h114:Rv.ev a 114=x114:=h.same 114 (by decide)
 have h115:Rv.ev a 115=x115:=h.same 115 (by decide)
 have h116:Rv.ev a 116=x116:=h.same 116 (by decide)
 have h117:Rv.ev a 117=x117:=h.same 117 (by decide)
 have h118:Rv.ev a 118=x118:=h.same 118 (by decide)
 have h119:Rv.ev a 119=x119:=h.same 119 (by decide)
 have h120:Rv.ev a 120=x120:=h.same 120 (by decide)
 rw[h0,h1,h2,h3,h4,h5,h6,h7,h8,h9,h10,h11,h12,h13,h14,h15,h16,h17,h18,h19,h20,h21,h22,h23,h24,h25,h26,h27,h28,h29,h30,h31,h32,h33,h34,h35,h36,h37,h38,h39,h40,h41,h42,h43,h44,h45,h46,h47,h48,h49,h50,h51,h52,h53,h54,h55,h56,h57,h58,h59,h60,h61,h62,h63,h64,h65,h66,h67,h68,h69,h70,h71,h72,h73,h74,h75,h76,h77,h78,h79,h80,h81,h82,h83,h84,h85,h86,h87,h88,h89,h90,h91,h92,h93,h94,h95,h96,h97,h98,h99,h100,h101,h112,h113,h114,h115,h116,h117,h118,h119,h120] at e
 have hd:a.defers=[]:=h.def_
 cases a
 simp only at e hd
 rw[hd]
 exact congrArg (fun t=>({ tmps:=t,defers:=[] }:Act)) e
end Go.Proofs.Ytkbglnhdbnijlaa
namespace Go.Proofs.Ytkbglnhdbnijlaa
open Go.RowKit Go.Maps
set_option maxRecDepth 100000
theorem i64_lo {n:Int} (h:(Lit.int .i64 n).wf=true):-9223372036854775808≤n:=((Lit.wf_int_iff .i64 n).1 h).1
theorem i64_hi {n:Int} (h:(Lit.int .i64 n).wf=true):n≤9223372036854775807:=((Lit.wf_int_iff .i64 n).1 h).2
theorem mod_path {n:Int} {L:Nat} (hL:0<L) (hL2:L≤1000000):∃ (a1 a2:Int) (k:Nat),Int.tmod n (L:Int)=a1∧IntKind.i64.wrap a1=a1∧IntKind.i64.wrap (a1+(L:Int))=a2∧Int.tmod a2 (L:Int)=(k:Int)∧IntKind.i64.wrap (k:Int)=(k:Int)∧k<L:=by
 have h1:-(L:Int)<Int.tmod n L:=Int.lt_tmod_of_pos n (by omega)
 have h2:Int.tmod n L<L:=Int.tmod_lt_of_pos n (by omega)
 have h3:0≤Int.tmod (Int.tmod n L+L) L:=Int.tmod_nonneg _ (by omega)
 have h4:Int.tmod (Int.tmod n L+L) L<L:=Int.tmod_lt_of_pos _ (by omega)
 refine⟨_,Int.tmod n L+L,(Int.tmod (Int.tmod n L+L) L).toNat,rfl,?_,?_,?_,?_,?_⟩
 ·rw[IntKind.wrap_i64];omega
 ·rw[IntKind.wrap_i64];omega
 ·omega
 ·rw[IntKind.wrap_i64];omega
 ·omega
theorem lnF_body {Nm:List UInt8→Prop} {Nu:Int→Int→Prop} {gs:List Fn1} {k:Nat} {z:Ex} (h:∀ g∈gs,WfF Nm Nu g) (hk:k<gs.length) (hz:wfE Nm Nu z):∀ g∈bodS gs k z,WfF Nm Nu g:=by
 intro g hg
 rcases List.mem_or_eq_of_mem_set hg with h1|rfl
 ·exact h g h1
 ·have hm:gs.getD k fd∈gs:=by
   rw[List.getD_eq_getElem?_getD,List.getElem?_eq_getElem hk]
   exact List.getElem_mem hk
  exact { h _ hm with body:=hz }
theorem all_body {Q:Fn1→Prop} {gs:List Fn1} {k:Nat} {z:Ex} (h:∀ g∈gs,Q g) (hz:Q { gs.getD k fd with body:=z }):∀ g∈bodS gs k z,Q g:=by
 intro g hg
 rcases List.mem_or_eq_of_mem_set hg with h1|rfl
 ·exact h g h1
 ·exact hz
set_option maxHeartbeats 4000000 in
theorem typesFail_any (ao:Option Addr) (cap:Nat) (l:List UInt8) (hcap:l.length≤cap) (n path:Int) (hp1:-9223372036854775808≤path) (hp2:path≤9223372036854775807) (w:World) (hT:Bd w ao l) :
  Calls Try.prog 7 #[.slice ao l.length cap,.int .i64 n,.int .i64 path] w fun e w'=>e=.returned (.bool true)∧Below w.heap.size w w':=by
 obtain⟨F,hF⟩:∃ F,F=12*(l.length+1)+9:=⟨_,rfl⟩
 have hfu:∀ ms,cut rdN l 0=.ok ms→progL (mf ms) LW5 F [] 0≠.out:=fuel_ok l LW5 F (by omega)
 have HF:Hid (F=12*(l.length+1)+9):=hF
 clear hF
 go_enter Try.func7,Try.ntmps7
 go_wp2_with fail
 refine (awake7_any w).mono ?_
 rintro e w1 ⟨rfl,hb1⟩
 have m2:=read5_any ao cap l hcap w1 (hT.up hb1) F hfu
 go_wp2_with fail
 refine m2.mono ?_
 rintro e w2 ⟨hb2,hrd⟩
 have hB2:=Below.thn hb1 hb2
 clear m2 hb1 hb2
 rcases rd_fork hrd with⟨ms,gs,j,a2,c2,hl,hc,hp,rfl,hfl⟩|rfl
 ·have hok:PrgOk gs:=prgOk hl (by rw[HF.out];exact Nat.le_refl _) hc hp
  have HLN:Hid (∀ g∈gs,lnF g):=prgLn hl hc hp
  have hb3:=below_alloc w2 (.cells #[.slice a2 gs.length c2] 26)
  have hP3:=Bk.new w2 26 #[.slice a2 gs.length c2]
  have HB3:Hid (Below w.heap.size w _):=Below.thn hB2 hb3
  have hf3:=(hfl.imp (A':=fun b=>b<w2.heap.size) fun b _ h=>h).up hb3
  have HOK:Hid (PrgOk gs):=hok
  have hgl:gs.length≤32769:=hok.num
  have hgp:0<gs.length:=List.length_pos_iff.2 hok.ne
  go_upto_region 4 with fail
  generalize hW3:w2.alloc (.cells #[.slice a2 gs.length c2] 26)=W3 at *
  obtain⟨b7,hb7⟩:∃ b7,b7=w2.heap.size:=⟨_,rfl⟩
  rw[← hb7] at hP3 hf3 ⊢
  have hwb:w.heap.size≤b7:=by have:=hB2.size;omega
  clear hW3 hfl hb3 hok hp hc hrd hB2 hb7
  have p3:W3.cell? ⟨b7,0,none⟩=some (.slice a2 gs.length c2):=hP3.cell 0
  have m4:=check_ok (c:=c2) HOK.out HLN.out hf3
  obtain⟨⟨qy,qa⟩,hq⟩:∃ q,q=tyP gs:=⟨_,rfl⟩
  have HQ:Hid ((qy,qa)=tyP gs):=hq
  rw[← hq] at m4
  clear hq
  dsimp only at m4
  go_wp2_with fail
  refine m4.mono ?_
  rintro e w4 ⟨rfl,hb4⟩
  have fl4:=fld0 qy qa w4
  have HB4:Hid (Below w.heap.size w w4):=Below.thn HB3.out hb4
  have hP4:=hP3.up hb4
  have hf4:=hf3.up hb4
  clear m4 p3 hP3 hf3 hb4 HB3
  by_cases hy:qy=0
  ·subst hy
   have HTY:Hid ((tyP gs).1=0):=by rw[← HQ.out];exact rfl
   have p4:w4.cell? ⟨b7,0,none⟩=some (.slice a2 gs.length c2):=hP4.cell 0
   clear HQ
   obtain⟨g,c7,cur,w6,R6,hg6,hBg,hcl,hFn,hc7,hb6⟩:=fn_app hf4 c2 (by omega) hgp
   have hP6:=hP4.up hb6
   have hf6:=hf4.up hb6
   have hw6:=hb6.size
   have p6:w6.cell? ⟨b7,0,none⟩=some (.slice a2 gs.length c2):=hP6.cell 0
   have e46:(w4.alloc (.cells #[] 42)).cell? ⟨b7,0,none⟩=some (.slice a2 gs.length c2):=(hP4.up (below_alloc w4 _)).cell 0
   have hb9:=below_alloc w6 (.cells #[.slice (some ⟨g,0,none⟩) gs.length c7] 26)
   have hQ9:=Bk.new w6 26 #[.slice (some ⟨g,0,none⟩) gs.length c7]
   go_upto_region 7 with (at_builtin;refine wpList_append_run rfl (.tmp 31) (.tmp 33) 24 rfl rfl _ _ rfl rfl _ _ (show _=_ from R6) ?_)
   generalize hW7:w6.alloc (.cells #[.slice (some ⟨g,0,none⟩) gs.length c7] 26)=W7 at *
   obtain⟨b9,hb9e⟩:∃ b9,b9=w6.heap.size:=⟨_,rfl⟩
   rw[← hb9e] at hQ9 ⊢
   have hb47:Below w4.heap.size w4 W7:=Below.thn hb6 hb9
   have hBg7:=hBg.up hb9
   have hP7:=hP6.up hb9
   have hf7:=hf6.up hb9
   have HFN:Hid (∀ j,j<gs.length→FnW W7 (fun b=>b<b7) (gs.getD j fd) ((cur.drop (j*11)).take 11)):=fun j hj=>(hFn j hj).up hb47
   have HB7:Hid (Below w.heap.size w W7):=Below.thn HB4.out hb47
   have h79:b7<g∧g<b9∧b9<W7.heap.size:=by
    have:=hP4.lt
    have:=hBg.lt
    have:=hQ9.lt
    omega
   clear hW7 hb9e hb47 hBg hP6 hf6 hFn R6 p6 e46 p4 hb6 hb9 hw6 hg6 hP4 hf4 HB4 fl4
   obtain⟨i1,i2,k,t1,t2,t3,t4,t5,hkl⟩:=mod_path (n:=n) hgp (by omega)
   refine wp_region_any (by kernel_rfl) ?_
   refine fail7 (X0:=W7) (b7:=b7) (L:=gs.length) (c:=c2) (k:=k) (ao:=a2) (n:=n) (a1:=i1) (a2:=i2) t1 t2 t3 t4 t5 (by omega) (fun W hW=>(hP7.up hW).cell 0) (by show 121≤121;decide) rfl rfl (Below.refl _ _).drew ?_
   intro a W hO hW hv
   obtain⟨y10,y36,y37,y38,y39,y40,y41,y42,y43,y44,y45,y46,y47,y48,⟨e10,_,_,_,_,_,_,_,_,_,_,_,_,_⟩,rfl⟩:=offM hO
   have f10:y10=.int .i64 k:=e10.symm.trans (hv 13 (by decide))
   subst f10
   have hQ8:=hQ9.up hW
   have hBg8:=hBg7.up hW
   have hP8:=hP7.up hW
   have hf8:=hf7.up hW
   have hW8:=hW.size
   have HFN8:Hid (∀ j,j<gs.length→FnW W (fun b=>b<b7) (gs.getD j fd) ((cur.drop (j*11)).take 11)):=fun j hj=>(HFN.out j hj).up hW
   have HB8:Hid (Below w.heap.size w W):=Below.thn HB7.out hW
   clear hO hv e10 hQ9 hBg7 hP7 hf7 HFN HB7 t1 t2 t3 t4 t5 hW
   have hmem:gs.getD k fd∈gs:=by rw[List.getD_eq_getElem?_getD,List.getElem?_eq_getElem hkl];exact List.getElem_mem hkl
   have hsG:=HOK.out.sz _ hmem
   have HlG:Hid (lnF (gs.getD k fd)):=HLN.out _ hmem
   obtain⟨G,vs,rfl,hAG,hv,hxv⟩:=hf8.at k hkl
   obtain⟨ap,cp,es,rfl,_,hx1⟩:=hxv
   obtain⟨q,hq⟩:∃ q,q=gs.getD k fd:=⟨_,rfl⟩
   have HG:Hid (q=gs.getD k fd):=hq
   rw[← hq] at hv hx1 hsG HlG
   clear hmem hq
   obtain⟨x0,x1,x2,x3,x4,x5,x6,rfl⟩:=list7 hx1.len
   obtain⟨N0,hN0⟩:∃ N0,N0=Value.string (bs q.name):=⟨_,rfl⟩
   obtain⟨N1,hN1⟩:∃ N1,N1=Value.slice ap q.pms.length cp:=⟨_,rfl⟩
   obtain⟨N9,hN9⟩:∃ N9,N9=Value.int .i64 (q.pos:Int):=⟨_,rfl⟩
   obtain⟨gt,hgt⟩:∃ gt,gt=q.ty:=⟨_,rfl⟩
   have hv:W.rangeAt G (k*11) [N0,N1,.int .i64 gt,x0,x1,x2,x3,x4,x5,x6,N9]:=by rw[hN0,hN1,hN9,hgt];exact hv
   have hone:∀ v∈[N0,N1,.int .i64 gt,x0,x1,x2,x3,x4,x5,x6,N9],v.oneCell'=true:=by
    have:=hx1.one
    simp only[List.mem_cons,List.not_mem_nil,or_false] at this ⊢
    rintro v (rfl|rfl|rfl|h|h|h|h|h|h|h|rfl)
    ·rw[hN0];rfl
    ·rw[hN1];rfl
    ·rfl
    all_goals first|(rw[hN9];rfl)|exact this v (by simp[h])
   have HGT:Hid (gt=q.ty):=hgt
   clear hN0 hN1 hN9 hgt
   obtain⟨d0,d1,d2,d3,d4,d5,d6,d7,d8,d9,d10⟩:=range11 hv
   have p8:W.cell? ⟨b7,0,none⟩=some (.slice (some ⟨G,0,none⟩) gs.length c2):=hP8.cell 0
   have hZ:=Bk.new W 42 #[.string ⟨#[]⟩,.slice none 0 0,.int .i64 0,.int .i64 0,.string ⟨#[]⟩,.string ⟨#[]⟩,.int .i64 0,.complex .f64 0 0,.slice none 0 0,.int .i64 0,.int .i64 0]
   clear hv
   go_upto_region 9 with (refine wpList_storeN rfl 42 (.tmp 11) (.tmp 53) rfl W.heap.size 0 [N0,N1,.int .i64 gt,x0,x1,x2,x3,x4,x5,x6,N9] rfl rfl hZ (Nat.le_refl 11) Try.infoF11 hone ?_;intro w9 hV9 hO9)
   have hV9:Bk w9 W.heap.size 42 [N0,N1,.int .i64 gt,x0,x1,x2,x3,x4,x5,x6,N9]:=hV9
   have hb9:Below W.heap.size W w9:=(below_alloc W _).trans (hO9.below (Nat.le_refl _))
   obtain⟨b11,hb11⟩:∃ b11,b11=W.heap.size:=⟨_,rfl⟩
   rw[← hb11] at hV9 ⊢
   have hx9:=hx1.up hb9
   have hf9:=hf8.up hb9
   have hP9:=hP8.up hb9
   have hQ9:=hQ8.up hb9
   have hBg9:=hBg8.up hb9
   have HFN9:Hid (∀ j,j<gs.length→FnW w9 (fun b=>b<b7) (gs.getD j fd) ((cur.drop (j*11)).take 11)):=fun j hj=>(HFN8.out j hj).up hb9
   have HB9:Hid (Below w.heap.size w w9):=Below.thn HB8.out hb9
   have h911:b9<b11∧b11<w9.heap.size:=⟨by omega,hV9.lt⟩
   clear hb11 hO9 hZ hone d0 d1 d2 d3 d4 d5 d6 d7 d8 d9 d10 hx1 hf8 hP8 hQ8 hBg8 HFN8 HB8 hb9 p8
   have p9:w9.cell? ⟨b7,0,none⟩=some (.slice (some ⟨G,0,none⟩) gs.length c2):=hP9.cell 0
   obtain⟨f0,f1,f2,f3,f4,f5,f6,f7,f8,f9,f10⟩:=Bk.eleven hV9
   have m9:=place_any (c:=c2) hf9 (fun b h=>by omega) (by omega) hx9 HlG.out.body (by omega) gt path hp1 hp2
   obtain⟨⟨Qx,Qt⟩,hQ⟩:∃ Q,Q=plE (wntR gs) q.body gt path.toNat:=⟨_,rfl⟩
   have HQ:Hid ((Qx,Qt)=plE (wntR gs) q.body gt path.toNat):=hQ
   rw[← hQ] at m9
   dsimp only at m9
   clear hQ
   go_wp2_with fail
   refine m9.mono ?_
   rintro e w10 ⟨⟨vs,rfl,hxp⟩,hb10⟩
   obtain⟨op,name,tail,ty,p,pq,xs,at_⟩:=Qx
   have hxl:=hxp.len
   have hxo:=hxp.one
   obtain⟨t0,t1,t2,t3,t4,t5,t6,rfl⟩:=list7 hxl
   have ht6:t6=.int .i64 (at_:Int):=by cases hxp;rfl
   subst ht6
   have hZ:=Bk.new w10 40 #[.int .i64 0,.string ⟨#[]⟩,.string ⟨#[]⟩,.int .i64 0,.complex .f64 0 0,.slice none 0 0,.int .i64 0]
   go_upto_region 10 with (refine wpList_storeN rfl 40 (.tmp 12) (.tmp 62) rfl w10.heap.size 0 [t0,t1,t2,t3,t4,t5,.int .i64 (at_:Int)] rfl rfl hZ (Nat.le_refl 7) Try.infoE hxo ?_;intro w11 hE11 hO11)
   have hE11:Bk w11 w10.heap.size 40 [t0,t1,t2,t3,t4,t5,.int .i64 (at_:Int)]:=hE11
   have hb11:Below w10.heap.size w10 w11:=(below_alloc w10 _).trans (hO11.below (Nat.le_refl _))
   obtain⟨b12,hb12⟩:∃ b12,b12=w10.heap.size:=⟨_,rfl⟩
   rw[← hb12] at hE11 ⊢
   have hb911:=Below.thn hb10 hb11
   have hx11:=hx9.up hb911
   have hxp11:=hxp.up hb11
   have hf11:=hf9.up hb911
   have hP11:=hP9.up hb911
   have hQ11:=hQ9.up hb911
   have hV11:=hV9.up hb911
   have hBg11:=hBg9.up hb911
   have HFN11:Hid (∀ j,j<gs.length→FnW w11 (fun b=>b<b7) (gs.getD j fd) ((cur.drop (j*11)).take 11)):=fun j hj=>(HFN9.out j hj).up hb911
   have HB11:Hid (Below w.heap.size w w11):=Below.thn HB9.out hb911
   have hs11:b11<b12∧b12<w11.heap.size:=⟨by have:=hb10.size;omega,hE11.lt⟩
   clear hb12 hO11 hZ hb10 hb11 hb911 m9 p9 f0 f1 f2 f3 f4 f5 f6 f7 f8 f9 f10 hx9 hxp hf9 hP9 hQ9 hV9 hBg9 HFN9 HB9 hxo hxl
   have HXP:Hid (ExW w11 (fun b=>b<b7) (.mk op name tail ty p pq xs at_) [t0,t1,t2,t3,t4,t5,.int .i64 (at_:Int)]):=hxp11
   have HX11:Hid (ExW w11 (fun b=>b<b7) q.body [x0,x1,x2,x3,x4,x5,x6]):=hx11
   have HF11:Hid (FlW w11 (fun b=>b<b7) (some ⟨G,0,none⟩) gs):=hf11
   clear hxp11 hx11 hf11
   have HTYF:Hid (∀ u:Int,tyP (bodS gs k (inE (flE u at_) q.body path.toNat))=if u=Qt then (0,0) else (34,(at_:Int))):=fun u=>by
    have h:=fail_ty HLN.out HTY.out hkl path.toNat u at_
    rw[← HG.out,← HGT.out,← HQ.out] at h
    exact h
   have HSELF:Hid (bodS gs k (inE (.mk op name tail ty p pq xs at_) q.body path.toNat)=gs):=by
    have h:=in_self (wntR gs) path.toNat q.body gt
    rw[← HQ.out] at h
    dsimp only at h
    rw[h,HG.out]
    exact bodS_self
   have HLB:Hid (lnE q.body∧szE q.body≤32769):=⟨HlG.out.body,hsG⟩
   have hgL:gs.length*11≤cur.length:=hcl
   have hk11:k*11+10<cur.length:=by omega
   go_wp2_with fail
   go_loopw [14] (fun v wr=>∃ u:Nat,1≤u∧u≤4∧v=.int .i64 u∧(∃ cc,Bk wr g 42 cc∧cc.length=cur.length∧∀ j,j<k*11+3∨k*11+10≤j→cc[j]?=cur[j]?)∧ButS (·=g) w11 wr) (fun v _=>4-(intOf v).toNat)
   case atStart=>exact⟨1,by decide,by decide,rfl,⟨cur,hBg11,rfl,fun _ _=>rfl⟩,.refl _ _⟩
   case round=>
    obtain⟨u,hu1,hu4,rfl,⟨cc,hBc,hccl,hcc⟩,hU⟩:=hrel
    have HCC:Hid (∀ j,j<k*11+3∨k*11+10≤j→cc[j]?=cur[j]?):=hcc
    have hwr:=hU.size
    have HXk:Hid (ExW wr (fun b=>b<b7) q.body [x0,x1,x2,x3,x4,x5,x6]):=HX11.out.keep fun b hb hl=>hU.block b hl (by omega)
    have HFNk:Hid (∀ j,j<gs.length→FnW wr (fun b=>b<b7) (gs.getD j fd) ((cur.drop (j*11)).take 11)):=fun j hj=>(HFN11.out j hj).keep hU.size fun b hb hl=>hU.block b hl (by omega)
    have hVk:=hU.bk hV11 (by omega)
    have hQk:=hU.bk hQ11 (by omega)
    have hPk:=hU.bk hP11 (by omega)
    have hEk:=hU.bk hE11 (by omega)
    clear hcc
    by_cases hu:u≤3
    ·have gu:decide ((u:Int)≤3)=true:=by simp;omega
     have HCALL:Hid (Calls Try.prog 16 #[.agg #[x0,x1,x2,x3,x4,x5,x6],.int .i64 path,.agg #[.int .i64 5,.string ⟨#[]⟩,.string ⟨#[]⟩,.int .i64 u,.complex .f64 0 0,.slice none 0 0,.int .i64 (at_:Int)]] wr.drew fun e w'=>(∃ C,e=.returned (.agg C)∧C.size=7∧ExW w' (fun b=>b<b7∨wr.heap.size≤b) (inE (flE u at_) q.body path.toNat) C.toList)∧Below wr.drew.heap.size wr.drew w'):=
      instead_any 32769 q.body HLB.out.2 (by omega) wr.drew (fun b=>b<b7) [x0,x1,x2,x3,x4,x5,x6] [.int .i64 5,.string ⟨#[]⟩,.string ⟨#[]⟩,.int .i64 u,.complex .f64 0 0,.slice none 0 0,.int .i64 (at_:Int)] (flE u at_) path (HXk.out.up (Below.refl wr.heap.size wr).drew) (.mk (.nil (ao:=none))) (fun b hb=>by show b<wr.heap.size;omega) hp1 hp2
     go_upto_region 13 with fail
     refine wp_region_any (by kernel_rfl) ?_
     refine fail13 (X0:=wr.drew) (b9:=b9) (b11:=b11) (b12:=b12) (g:=g) (L:=gs.length) (c7:=c7) (k:=k) (path:=path) (u:=(u:Int)) (at_:=(at_:Int)) (y0:=x0) (y1:=x1) (y2:=x2) (y3:=x3) (y4:=x4) (y5:=x5) (y6:=x6) hkl (fun W hW=>?_)
      (fun v X=>(∃ C:Array Value,v=.agg C∧C.size=7∧ExW X (fun b=>b<b7∨wr.heap.size≤b) (inE (flE u at_) q.body path.toNat) C.toList)∧Below wr.drew.heap.size wr.drew X)
      (fun X=>∃ (C:Array Value) (wq:World),Below wr.heap.size wr wq∧ExW wq (fun b=>b<b7∨wr.heap.size≤b) (inE (flE u at_) q.body path.toNat) C.toList∧Bk X g 42 (over cc (k*11+3) C.toList)∧Oth g wq X) (fun _ _ h=>h.2) ?_ ?_ (by show 121≤121;decide) rfl rfl rfl rfl rfl rfl ?_
     ·have hX:=Below.thn (Below.refl wr.heap.size wr).drew hW
      obtain⟨s0,s1,s2,s3,s4,s5,s6,s7,s8,s9,s10⟩:=Bk.eleven (hVk.up hX)
      exact⟨(hQk.up hX).cell 0,(hEk.up hX).cell 6,s3,s4,s5,s6,s7,s8,s9⟩
     ·refine HCALL.out.mono ?_
      rintro e wq ⟨⟨C,rfl,hA7,hx9⟩,n9⟩
      exact⟨_,rfl,⟨C,rfl,hA7,hx9⟩,n9⟩
     ·rintro v X ⟨⟨C,rfl,hA7,hx9⟩,n9⟩
      have b9':Below wr.heap.size wr X:=Below.thn (Below.refl wr.heap.size wr).drew n9
      obtain⟨w12,hst,hB12,hO12⟩:=store_at (hBc.up b9') (k*11+3) C (by omega) hx9.one
      exact⟨C,w12,rfl,hA7,hst,C,X,b9',hx9,hB12,hO12⟩
     ·rintro a X hO ⟨C,wq,bq,hxq,hBX,hOX⟩
      obtain⟨z68,z69,z70,z71,z72,z73,z74,z75,z76,z77,z78,z79,z80,_,rfl⟩:=offN hO
      have hsq:=bq.size
      have hsX:=hOX.size
      have hUX:ButS (·=g) wr X:=(ButS.below bq).trans (.oth hOX)
      have hC7:=hxq.len
      have hgX:=hBX.lt
      have HCCX:Hid (∀ j,j<k*11+3∨k*11+10≤j→(over cc (k*11+3) C.toList)[j]?=cur[j]?):=fun j hj=>by
       rw[over_get _ _ _ _ (by omega),if_neg (by omega)]
       exact HCC.out j hj
      have HFL:Hid (FlW X (fun b=>b<X.heap.size) (some ⟨g,0,none⟩) (bodS gs k (inE (flE u at_) q.body path.toNat))):=by
       refine FlW.put (C:=C.toList) hgX hBX hgL hkl HCCX.out (fun i v hv=>?_) ?_ ?_
       ·have hi:=(List.getElem?_eq_some_iff.1 hv).1
        rw[over_get _ _ _ _ (by omega),if_pos (by omega),show k*11+3+i-(k*11+3)=i by omega]
        exact hv
       ·exact (hxq.keep fun b hb hl=>hOX.block b (by omega)).imp fun b _ h=>h
       ·intro j hj
        exact (((HFNk.out j hj).keep hUX.size fun b hb hl=>hUX.block b hl (by omega))).imp fun b _ h=>h
      have hflu:lnE (flE (u:Int) at_):=by
       unfold flE lnE
       rw[wfE_mk]
       exact⟨.fail (by omega),wfL_nil⟩
      have hm:=typesCheck_any (c:=c7) HFL.out (fun _ h=>h) (lnF_body HLN.out hkl (wf_in hflu path.toNat q.body HLB.out.1)) (all_body (fun g hg=>by have:=HOK.out.sz g hg;omega) (by have:=sz_in (y:=flE (u:Int) at_) (by unfold flE;rw[szE_mk,szL_nil]) path.toNat q.body;have:=HLB.out.2;show szE (inE _ _ _)≤65536;omega)) (all_body (fun g hg=>by have:=HOK.out.pms g hg;omega) (by have:=HOK.out.pms q (by rw[HG.out,List.getD_eq_getElem?_getD,List.getElem?_eq_getElem hkl];exact List.getElem_mem hkl);rw[← HG.out];show q.pms.length≤65536;omega)) (by rw[bodS_len];omega)
      rw[bodS_len,HTYF.out] at hm
      have hQX:=hUX.bk hQk (by omega)
      have hEX:=hUX.bk hEk (by omega)
      have q0:X.cell? ⟨b9,0,none⟩=some (.slice (some ⟨g,0,none⟩) gs.length c7):=hQX.cell 0
      have hUX':=hU.trans hUX
      have hXl:(over cc (k*11+3) C.toList).length=cur.length:=by rw[over_len];exact hccl
      generalize over cc (k*11+3) C.toList=cX at *
      clear hO HCALL hBc hVk hQk hPk hEk HFNk HXk HCC hccl bq hxq hOX hsq hUX HFL hflu
      by_cases hut:(u:Int)=Qt
      ·rw[if_pos hut] at hm
       dsimp only at hm
       subst hut
       have hF0:=Bk.new
       go_wp2_with fail
       refine hm.mono ?_
       rintro e w13 ⟨rfl,hb13⟩
       have hF13:=Bk.new w13 31 #[.int .i64 0,.int .i64 0]
       have hb14:=below_alloc w13 (.cells #[.int .i64 0,.int .i64 0] 31)
       go_upto_region 15 with fail
       generalize w13.alloc (.cells #[.int .i64 0,.int .i64 0] 31)=W14 at *
       have c0:W14.cell? ⟨w13.heap.size,0,none⟩=some (.int .i64 0):=hF13.cell 0
       have c1:W14.cell? ⟨w13.heap.size,1,none⟩=some (.int .i64 0):=hF13.cell 1
       have hbX:=Below.thn hb13 hb14
       have hB14:=hBX.up hbX
       have hU14:=hUX'.trans (.below hbX)
       clear hm hb13 hb14 hF0
       go_wp2_with fail
       go_roundw
       case rel=>exact⟨u+1,by omega,by omega,by go_num,⟨cX,hB14,hXl,HCCX.out⟩,hU14⟩
       case measure=>simp[intOf];omega
      ·rw[if_neg hut] at hm
       dsimp only at hm
       have g1:((u:Int)==Qt)=false:=by simpa using hut
       have g2:((u:Int) != Qt)=true:=by simpa using hut
       go_wp2_with fail
       refine hm.mono ?_
       rintro e w13 ⟨rfl,hb13⟩
       have hF13:=Bk.new w13 31 #[.int .i64 34,.int .i64 (at_:Int)]
       have hb14:=below_alloc w13 (.cells #[.int .i64 34,.int .i64 (at_:Int)] 31)
       go_upto_region 15 with fail
       generalize w13.alloc (.cells #[.int .i64 34,.int .i64 (at_:Int)] 31)=W14 at *
       have c0:W14.cell? ⟨w13.heap.size,0,none⟩=some (.int .i64 34):=hF13.cell 0
       have c1:W14.cell? ⟨w13.heap.size,1,none⟩=some (.int .i64 (at_:Int)):=hF13.cell 1
       have hbX:=Below.thn hb13 hb14
       have hB14:=hBX.up hbX
       have c6:W14.cell? ⟨b12,6,none⟩=some (.int .i64 (at_:Int)):=(hEX.up hbX).cell 6
       have hU14:=hUX'.trans (.below hbX)
       clear hm hb13 hb14
       go_wp2_with fail
       go_roundw
       case rel=>exact⟨u+1,by omega,by omega,by go_num,⟨cX,hB14,hXl,HCCX.out⟩,hU14⟩
       case measure=>simp[intOf];omega
    ·have hue:u=4:=by omega
     subst hue
     have HCALL:Hid (Calls Try.prog 16 #[.agg #[x0,x1,x2,x3,x4,x5,x6],.int .i64 path,.agg #[t0,t1,t2,t3,t4,t5,.int .i64 (at_:Int)]] wr.drew fun e w'=>(∃ C,e=.returned (.agg C)∧C.size=7∧ExW w' (fun b=>b<b7∨wr.heap.size≤b) (inE (.mk op name tail ty p pq xs at_) q.body path.toNat) C.toList)∧Below wr.drew.heap.size wr.drew w'):=
      instead_any 32769 q.body HLB.out.2 (by omega) wr.drew (fun b=>b<b7) [x0,x1,x2,x3,x4,x5,x6] [t0,t1,t2,t3,t4,t5,.int .i64 (at_:Int)] (.mk op name tail ty p pq xs at_) path (HXk.out.up (Below.refl wr.heap.size wr).drew) ((HXP.out.keep fun b hb hl=>hU.block b hl (by omega)).up (Below.refl wr.heap.size wr).drew) (fun b hb=>by show b<wr.heap.size;omega) hp1 hp2
     go_upto_region 17 with fail
     refine wp_region_any (by kernel_rfl) ?_
     refine fail17 (X0:=wr.drew) (b9:=b9) (b11:=b11) (b12:=b12) (g:=g) (L:=gs.length) (c7:=c7) (k:=k) (path:=path) (y0:=x0) (y1:=x1) (y2:=x2) (y3:=x3) (y4:=x4) (y5:=x5) (y6:=x6) (t0:=t0) (t1:=t1) (t2:=t2) (t3:=t3) (t4:=t4) (t5:=t5) (t6:=.int .i64 (at_:Int)) hkl (fun W hW=>?_)
      (fun v X=>(∃ C:Array Value,v=.agg C∧C.size=7∧ExW X (fun b=>b<b7∨wr.heap.size≤b) (inE (.mk op name tail ty p pq xs at_) q.body path.toNat) C.toList)∧Below wr.drew.heap.size wr.drew X)
      (fun X=>∃ (C:Array Value) (wq:World),Below wr.heap.size wr wq∧ExW wq (fun b=>b<b7∨wr.heap.size≤b) (inE (.mk op name tail ty p pq xs at_) q.body path.toNat) C.toList∧Bk X g 42 (over cc (k*11+3) C.toList)∧Oth g wq X) (fun _ _ h=>h.2) ?_ ?_ (by show 121≤121;decide) rfl rfl rfl rfl rfl ?_
     ·have hX:=Below.thn (Below.refl wr.heap.size wr).drew hW
      obtain⟨s0,s1,s2,s3,s4,s5,s6,s7,s8,s9,s10⟩:=Bk.eleven (hVk.up hX)
      obtain⟨r0,r1,r2,r3,r4,r5,r6⟩:=Bk.seven (hEk.up hX)
      exact⟨(hQk.up hX).cell 0,s3,s4,s5,s6,s7,s8,s9,r0,r1,r2,r3,r4,r5,r6⟩
     ·refine HCALL.out.mono ?_
      rintro e wq ⟨⟨C,rfl,hA7,hx9⟩,n9⟩
      exact⟨_,rfl,⟨C,rfl,hA7,hx9⟩,n9⟩
     ·rintro v X ⟨⟨C,rfl,hA7,hx9⟩,n9⟩
      have b9':Below wr.heap.size wr X:=Below.thn (Below.refl wr.heap.size wr).drew n9
      obtain⟨w12,hst,hB12,hO12⟩:=store_at (hBc.up b9') (k*11+3) C (by omega) hx9.one
      exact⟨C,w12,rfl,hA7,hst,C,X,b9',hx9,hB12,hO12⟩
     ·rintro a X hO ⟨C,wq,bq,hxq,hBX,hOX⟩
      obtain⟨z102,z103,z104,z105,z106,z107,z108,z109,z110,z111,_,rfl⟩:=offO hO
      have hsq:=bq.size
      have hsX:=hOX.size
      have hUX:ButS (·=g) wr X:=(ButS.below bq).trans (.oth hOX)
      have hC7:=hxq.len
      have hgX:=hBX.lt
      have HFL:Hid (FlW X (fun b=>b<X.heap.size) (some ⟨g,0,none⟩) gs):=by
       have h:FlW X (fun b=>b<X.heap.size) (some ⟨g,0,none⟩) (bodS gs k (inE (.mk op name tail ty p pq xs at_) q.body path.toNat)):=by
        refine FlW.put (C:=C.toList) hgX hBX hgL hkl (fun j hj=>?_) (fun i v hv=>?_) ?_ ?_
        ·rw[over_get _ _ _ _ (by omega),if_neg (by omega)]
         exact HCC.out j hj
        ·have hi:=(List.getElem?_eq_some_iff.1 hv).1
         rw[over_get _ _ _ _ (by omega),if_pos (by omega),show k*11+3+i-(k*11+3)=i by omega]
         exact hv
        ·exact (hxq.keep fun b hb hl=>hOX.block b (by omega)).imp fun b _ h=>h
        ·intro j hj
         exact (((HFNk.out j hj).keep hUX.size fun b hb hl=>hUX.block b hl (by omega))).imp fun b _ h=>h
       rw[HSELF.out] at h
       exact h
      have HT0:Hid (tyP gs=(0,0)):=(ty_sound HTY.out).2.2
      have hm:=check_ok (c:=c7) HOK.out HLN.out HFL.out
      rw[HT0.out] at hm
      dsimp only at hm
      have hUX':=hU.trans hUX
      have HFP:Hid (FlW X (fun b=>b<b7) (some ⟨G,0,none⟩) gs):=HF11.out.keep2 hUX'.size fun b hb hl=>hUX'.block b hl (by omega)
      have hQX:=hUX.bk hQk (by omega)
      have hPX:=hUX.bk hPk (by omega)
      have q0:X.cell? ⟨b9,0,none⟩=some (.slice (some ⟨g,0,none⟩) gs.length c7):=hQX.cell 0
      have HBX:Hid (Below w.heap.size w X):=⟨hUX'.os.trans HB11.out.os,hUX'.tape.trans HB11.out.tape,hUX'.output.trans HB11.out.output,Nat.le_trans HB11.out.size hUX'.size,fun j hj=>(hUX'.block j (by have:=HB11.out.size;omega) (by omega)).trans (HB11.out.block j hj)⟩
      clear hO HCALL hBc hVk hQk hPk hEk HFNk HXk HCC hccl bq hxq hOX hsq hUX hUX' hU hBX
      go_wp2_with fail
      refine hm.mono ?_
      rintro e w13 ⟨rfl,hb13⟩
      have q1:w13.cell? ⟨b9,0,none⟩=some (.slice (some ⟨g,0,none⟩) gs.length c7):=(hQX.up hb13).cell 0
      have q2:w13.cell? ⟨b7,0,none⟩=some (.slice (some ⟨G,0,none⟩) gs.length c2):=(hPX.up hb13).cell 0
      have ms:=same4_any true gs gs (fun g hg=>by have:=HOK.out.sz g hg;omega) (fun g hg=>by have:=HOK.out.pms g hg;omega) (by omega) (LiR.refl (fun g=>FnR.refl (fun _ _=>rfl) g) gs) w13 _ _ (some ⟨G,0,none⟩) (some ⟨g,0,none⟩) c2 c7 (HFP.out.up hb13) (HFL.out.up hb13)
      have HB13:Hid (Below w.heap.size w w13):=Below.thn HBX.out hb13
      clear hm hb13 q0
      go_wp2_with fail
      refine ms.mono ?_
      rintro e w14 ⟨rfl,hb14⟩
      have HB14:Hid (Below w.heap.size w w14):=Below.thn HB13.out hb14
      clear ms hb14 q1 q2
      go_wp2_with fail
      go_ret
      exact⟨rfl,HB14.out⟩
  ·have g:(qy != 0)=true:=by simpa using hy
   go_wp2_with fail
   go_ret
   exact⟨rfl,HB4.out⟩
 ·have hb3:=below_alloc w2 (.cells #[.slice none 0 0] 26)
  have HB3:Hid _:=Below.thn hB2 hb3
  clear hb3 hB2
  go_wp2_with fail
  go_ret
  exact⟨rfl,HB3.out⟩
end Go.Proofs.Ytkbglnhdbnijlaa
