/-
  3 texts in one: what each proves stands at its head.
-/
import Derived.Test.YtkbglnhdbnijlaaUl
namespace Go.Proofs.Ytkbglnhdbnijlaa
open Go.RowKit Go.Maps
set_option maxRecDepth 100000
theorem Try.undFm:Try.prog.underlying 59=some (.map 9 42):=by kernel_rfl
theorem Try.undTn:Try.prog.underlying 62=some (.map 9 35):=by kernel_rfl
theorem zeroT (w:World):(zeroValue 35).run Try.prog w=.ok (.int .i64 0) w:=by kernel_rfl
theorem zeroF (w:World):(zeroValue 42).run Try.prog w=.ok (.agg #[.string ⟨#[]⟩,.slice none 0 0,.int .i64 0,.int .i64 0,.string ⟨#[]⟩,.string ⟨#[]⟩,.int .i64 0,.complex .f64 0 0,.slice none 0 0,.int .i64 0,.int .i64 0]) w:=by kernel_rfl
def Tn (w:World) (b n:Nat) (tf:List UInt8→Int):Prop:=∃ f,MapW Try.prog 9 w b n f∧∀ s,(f s).getD (.int .i64 0)=.int .i64 (tf s)
theorem Tn.lt {w:World} {b n:Nat} {tf:List UInt8→Int} (h:Tn w b n tf):b<w.heap.size:=by obtain⟨f,h,_⟩:=h;exact h.lt
theorem Tn.but {S:Nat→Prop} {w w':World} {b n:Nat} {tf:List UInt8→Int} (h:Tn w b n tf) (hu:ButS S w w') (hn:¬ S b):Tn w' b n tf:=by
 obtain⟨f,h,r⟩:=h
 exact⟨f,hu.map h hn,r⟩
theorem Tn.up {w w':World} {b n:Nat} {tf:List UInt8→Int} (h:Tn w b n tf) (hu:Below w.heap.size w w'):Tn w' b n tf:=h.but (S:=fun _=>False) (.below hu) id
def Fm (w:World) (A:Nat→Prop) (m n:Nat) (ff:List UInt8→Option Fn1):Prop:=
 ∃ f,MapW Try.prog 9 w m n f∧∀ s,match ff s with|none=>f s=none|some g=>∃ us,f s=some (.agg us.toArray)∧FnW w A g us
theorem Fm.but {S:Nat→Prop} {w w':World} {A:Nat→Prop} {m n:Nat} {ff:List UInt8→Option Fn1} (h:Fm w A m n ff) (hu:ButS S w w') (hn:¬ S m) (hA:∀ k,A k→¬ S k):Fm w' A m n ff:=by
 obtain⟨f,h,r⟩:=h
 refine⟨f,hu.map h hn,fun s=>?_⟩
 have:=r s
 split at this
 ·exact this
 ·obtain⟨us,e,hF⟩:=this
  exact⟨us,e,hF.keep hu.size fun b hb hl=>hu.block b hl (hA b hb)⟩
theorem Fm.up {w w':World} {A:Nat→Prop} {m n:Nat} {ff:List UInt8→Option Fn1} (h:Fm w A m n ff) (hu:Below w.heap.size w w'):Fm w' A m n ff:=h.but (S:=fun _=>False) (.below hu) id fun _ _=>id
def Ct (w:World) (bc m:Nat) (nv:Value) (p:Int × Int):Prop:=Bk w bc 64 [.map (some m),nv,.int .i64 p.1,.int .i64 p.2]
theorem Ct.up {w w':World} {bc m:Nat} {nv:Value} {p:Int × Int} (h:Ct w bc m nv p) (hb:Below w.heap.size w w'):Ct w' bc m nv p:=Bk.up h hb
def tellT (p:Int × Int) (at_:Int):Int × Int:=if p.1=0∨at_<p.2 then (34,at_) else p
set_option maxHeartbeats 4000000 in
theorem tell7_any {w:World} {bc m:Nat} {nv:Value} {p:Int × Int} (hC:Ct w bc m nv p) (at_:Int) :
  Calls Try.prog 52 #[.pointer (some ⟨bc,0,none⟩),.int .i64 at_] w fun e w'=>e=.returned (.tuple #[])∧Ct w' bc m nv (tellT p at_)∧Oth bc w w':=by
 obtain⟨y,a⟩:=p
 have c1:w.cell? ⟨bc,2,none⟩=some (.int .i64 y):=hC.cell 2
 have c2:w.cell? ⟨bc,3,none⟩=some (.int .i64 a):=hC.cell 3
 have f1:=hC.frz 2
 have f2:=hC.frz 3
 have hst:Ct ((w.setCell ⟨bc,2,none⟩ (.int .i64 34)).setCell ⟨bc,3,none⟩ (.int .i64 at_)) bc m nv (34,at_):=(Bk.set (Bk.set hC 2 (.int .i64 34)) 3 (.int .i64 at_))
 have hot:Oth bc w ((w.setCell ⟨bc,2,none⟩ (.int .i64 34)).setCell ⟨bc,3,none⟩ (.int .i64 at_)):=((Oth.refl bc w).set 2 _).set 3 _
 go_enter Try.func52,Try.ntmps52
 by_cases h1:y=0
 ·subst h1
  have e:tellT (0,a) at_=(34,at_):=if_pos (.inl rfl)
  go_wp2
  go_end0
  first|exact⟨rfl,hst,hot⟩|exact⟨rfl,by rw[e];exact hst,hot⟩
 ·have g1:(y==0)=false:=by simpa using h1
  by_cases h2:at_<a
  ·have e:tellT (y,a) at_=(34,at_):=if_pos (.inr h2)
   go_wp2
   go_end0
   first|exact⟨rfl,hst,hot⟩|exact⟨rfl,by rw[e];exact hst,hot⟩
  ·have g2:decide (at_<a)=false:=by simpa using h2
   have e:tellT (y,a) at_=(y,a):=if_neg (by simp[h1,h2])
   go_wp2
   go_end0
   first|exact⟨rfl,hC,Oth.refl _ _⟩|exact⟨rfl,by rw[e];exact hC,Oth.refl _ _⟩
def frs (i:Nat) (x y:Int):Int:=if i=0 then x else y
theorem firstOr_any (w:World) (i:Nat) (x y:Int):Calls Try.prog 74 #[.int .i64 i,.int .i64 x,.int .i64 y] w fun e w'=>e=.returned (.int .i64 (frs i x y))∧w'=w:=by
 go_enter Try.func74,Try.ntmps74
 by_cases h:i=0
 ·subst h
  go_wp2
  go_ret
  exact⟨rfl,rfl⟩
 ·have g:((i:Int)==0)=false:=by simp;omega
  have e:frs i x y=y:=if_neg h
  go_wp2
  go_ret
  exact⟨by rw[e];rfl,rfl⟩
def ownB (op:Int):Bool:=!(op==19||op==20||op==21||op==22)
set_option maxHeartbeats 4000000 in
theorem hasOwn_any (w:World) (op:Int) (v1 v2 v3 v4 v5 v6:Value):Calls Try.prog 50 #[.agg #[.int .i64 op,v1,v2,v3,v4,v5,v6]] w fun e w'=>e=.returned (.bool (ownB op))∧Below w.heap.size w w':=by
 have hb0:=below_alloc w (.cells #[.int .i64 op,v1,v2,v3,v4,v5,v6] 40)
 have hL:=Bk.new w 40 #[.int .i64 op,v1,v2,v3,v4,v5,v6]
 go_enter Try.func50,Try.ntmps50
 go_upto_region 1 with fail
 generalize w.alloc (.cells #[.int .i64 op,v1,v2,v3,v4,v5,v6] 40)=W at *
 have c0:W.cell? ⟨w.heap.size,0,none⟩=some (.int .i64 op):=hL.cell 0
 clear hL
 by_cases h1:op=19
 ·subst h1
  go_wp2
  go_ret
  exact⟨rfl,hb0⟩
 ·have g1:(op==19)=false:=by simpa using h1
  by_cases h2:op=20
  ·subst h2
   go_wp2
   go_ret
   exact⟨rfl,hb0⟩
  ·have g2:(op==20)=false:=by simpa using h2
   by_cases h3:op=21
   ·subst h3
    go_wp2
    go_ret
    exact⟨rfl,hb0⟩
   ·have g3:(op==21)=false:=by simpa using h3
    by_cases h4:op=22
    ·subst h4
     go_wp2
     go_ret
     exact⟨rfl,hb0⟩
    ·have g4:(op==22)=false:=by simpa using h4
     have e:ownB op=true:=by simp[ownB,g1,g2,g3,g4]
     go_wp2
     go_ret
     exact⟨by first|rfl|(rw[e];rfl),hb0⟩
end Go.Proofs.Ytkbglnhdbnijlaa
namespace Go.Proofs.Ytkbglnhdbnijlaa
open Go.RowKit Go.Maps
set_option maxRecDepth 100000
def callT (ff:List UInt8→Option Fn1) (name:List UInt8) (n:Nat):Int:=match ff name with|none=>0|some g=>if g.pms.length=n then g.ty else 0
set_option maxHeartbeats 8000000 in
theorem ownOfCall_any {w:World} {bc m nm:Nat} {nv:Value} {p:Int × Int} {A:Nat→Prop} {ff:List UInt8→Option Fn1} (hC:Ct w bc m nv p) (hF:Fm w A m nm ff) (v0:Value) (name:List UInt8) (hs:name.length≤maxLen) (v2 v3 v4:Value) (ao:Option Addr) (n c:Nat) (v6:Value) :
  Calls Try.prog 72 #[.pointer (some ⟨bc,0,none⟩),.agg #[v0,.string (bs name),v2,v3,v4,.slice ao n c,v6]] w fun e w'=>e=.returned (.int .i64 (callT ff name n))∧Below w.heap.size w w':=by
 have hb0:=below_alloc w (.cells #[v0,.string (bs name),v2,v3,v4,.slice ao n c,v6] 40)
 have hL:=Bk.new w 40 #[v0,.string (bs name),v2,v3,v4,.slice ao n c,v6]
 have hC1:=hC.up hb0
 have hF1:=hF.up hb0
 go_enter Try.func72,Try.ntmps72
 go_upto_region 1 with fail
 generalize w.alloc (.cells #[v0,.string (bs name),v2,v3,v4,.slice ao n c,v6] 40)=W at *
 have c1:W.cell? ⟨w.heap.size,1,none⟩=some (.string (bs name)):=hL.cell 1
 have d0:W.cell? ⟨bc,0,none⟩=some (.map (some m)):=hC1.cell 0
 obtain⟨f,hM,hff⟩:=hF1
 have hbZ:=below_alloc W (.cells #[.string ⟨#[]⟩,.slice none 0 0,.int .i64 0,.int .i64 0,.string ⟨#[]⟩,.string ⟨#[]⟩,.int .i64 0,.complex .f64 0 0,.slice none 0 0,.int .i64 0,.int .i64 0] 42)
 have hBZ:=Bk.new W 42 #[.string ⟨#[]⟩,.slice none 0 0,.int .i64 0,.int .i64 0,.string ⟨#[]⟩,.string ⟨#[]⟩,.int .i64 0,.complex .f64 0 0,.slice none 0 0,.int .i64 0,.int .i64 0]
 have c1':(W.alloc (.cells #[.string ⟨#[]⟩,.slice none 0 0,.int .i64 0,.int .i64 0,.string ⟨#[]⟩,.string ⟨#[]⟩,.int .i64 0,.complex .f64 0 0,.slice none 0 0,.int .i64 0,.int .i64 0] 42)).cell? ⟨w.heap.size,1,none⟩=some (.string (bs name)):=(hL.up hbZ).cell 1
 have d0':(W.alloc (.cells #[.string ⟨#[]⟩,.slice none 0 0,.int .i64 0,.int .i64 0,.string ⟨#[]⟩,.string ⟨#[]⟩,.int .i64 0,.complex .f64 0 0,.slice none 0 0,.int .i64 0,.int .i64 0] 42)).cell? ⟨bc,0,none⟩=some (.map (some m)):=(hC1.up hbZ).cell 0
 have hr:=(show MapW Try.prog 9 W.drew m nm f from hM).look_ok Try.underlying9 Try.undFm (zeroF W.drew) hs
 have hr':=(show MapW Try.prog 9 (W.alloc (.cells #[.string ⟨#[]⟩,.slice none 0 0,.int .i64 0,.int .i64 0,.string ⟨#[]⟩,.string ⟨#[]⟩,.int .i64 0,.complex .f64 0 0,.slice none 0 0,.int .i64 0,.int .i64 0] 42)).drew m nm f from hM.block (hbZ.block m hM.lt)).look_ok Try.underlying9 Try.undFm (zeroF (W.alloc (.cells #[.string ⟨#[]⟩,.slice none 0 0,.int .i64 0,.int .i64 0,.string ⟨#[]⟩,.string ⟨#[]⟩,.int .i64 0,.complex .f64 0 0,.slice none 0 0,.int .i64 0,.int .i64 0] 42)).drew) hs
 have hfn:=hff name
 clear hC hF hff
 cases hp:ff name with
 |none=>
  rw[hp] at hfn
  dsimp only at hfn
  rw[hfn] at hr hr'
  obtain⟨A,hA⟩:∃ A:Array Value,A=#[.string ⟨#[]⟩,.slice none 0 0,.int .i64 0,.int .i64 0,.string ⟨#[]⟩,.string ⟨#[]⟩,.int .i64 0,.complex .f64 0 0,.slice none 0 0,.int .i64 0,.int .i64 0]:=⟨_,rfl⟩
  have hrA:(Instr.lookup 59 (.map (some m)) (.string (bs name)) true).run Try.prog W.drew=.ok (.tuple #[.agg A,.bool false]) W.drew:=by rw[hA];exact hr
  have hrB:(Instr.lookup 59 (.map (some m)) (.string (bs name)) true).run Try.prog (W.alloc (.cells #[.string ⟨#[]⟩,.slice none 0 0,.int .i64 0,.int .i64 0,.string ⟨#[]⟩,.string ⟨#[]⟩,.int .i64 0,.complex .f64 0 0,.slice none 0 0,.int .i64 0,.int .i64 0] 42)).drew=.ok (.tuple #[.agg A,.bool false]) (W.alloc (.cells #[.string ⟨#[]⟩,.slice none 0 0,.int .i64 0,.int .i64 0,.string ⟨#[]⟩,.string ⟨#[]⟩,.int .i64 0,.complex .f64 0 0,.slice none 0 0,.int .i64 0,.int .i64 0] 42)).drew:=by rw[hA];exact hr'
  have hsz:A.size=11:=by rw[hA];rfl
  obtain⟨w9,hst,hB9,hO9⟩:=store_run (show Bk (W.alloc (.cells #[.string ⟨#[]⟩,.slice none 0 0,.int .i64 0,.int .i64 0,.string ⟨#[]⟩,.string ⟨#[]⟩,.int .i64 0,.complex .f64 0 0,.slice none 0 0,.int .i64 0,.int .i64 0] 42)).drew W.heap.size 42 #[.string ⟨#[]⟩,.slice none 0 0,.int .i64 0,.int .i64 0,.string ⟨#[]⟩,.string ⟨#[]⟩,.int .i64 0,.complex .f64 0 0,.slice none 0 0,.int .i64 0,.int .i64 0].toList from hBZ) A hsz (by rw[hA];intro v hv;simp only[List.mem_cons,List.not_mem_nil,or_false] at hv;rcases hv with rfl|rfl|rfl|rfl|rfl|rfl|rfl|rfl|rfl|rfl|rfl<;>rfl)
  have hb9:Below W.heap.size W w9:=(hbZ.trans (Below.refl _ _).drew).trans (hO9.below (Nat.le_refl _))
  clear hr hr' hfn hO9
  clear hA
  go_cut [5,6] (fun x y wx=>x=.pointer (some ⟨W.heap.size,0,none⟩)∧y=.bool false∧Bk wx W.heap.size 42 A.toList∧Below W.heap.size W wx)
  case first=>
   go_region
   all_goals
    go_wp2_with fail
    go_meet
    case rel=>exact⟨rfl,rfl,hB9,hb9⟩
  case rest=>
   obtain⟨rfl,rfl,hB2,hB3⟩:=hcut
   have hB4:=Below.thn hb0 hB3
   clear hrA hrB hst hB9 hb9 c1 d0 c1' d0'
   have e0:callT ff name n=0:=by unfold callT;rw[hp]
   go_wp2_with fail
   go_ret
   first|exact⟨rfl,hB4⟩|exact⟨by rw[e0];rfl,hB4⟩
 |some g=>
  rw[hp] at hfn
  dsimp only at hfn
  obtain⟨us,hus,hFg⟩:=hfn
  rw[hus] at hr hr'
  obtain⟨A,hA⟩:∃ A:Array Value,A=us.toArray:=⟨_,rfl⟩
  have hone:=fnW_one hFg
  have hul:us.length=11:=hFg.len
  have hrA:(Instr.lookup 59 (.map (some m)) (.string (bs name)) true).run Try.prog W.drew=.ok (.tuple #[.agg A,.bool true]) W.drew:=by rw[hA];exact hr
  have hrB:(Instr.lookup 59 (.map (some m)) (.string (bs name)) true).run Try.prog (W.alloc (.cells #[.string ⟨#[]⟩,.slice none 0 0,.int .i64 0,.int .i64 0,.string ⟨#[]⟩,.string ⟨#[]⟩,.int .i64 0,.complex .f64 0 0,.slice none 0 0,.int .i64 0,.int .i64 0] 42)).drew=.ok (.tuple #[.agg A,.bool true]) (W.alloc (.cells #[.string ⟨#[]⟩,.slice none 0 0,.int .i64 0,.int .i64 0,.string ⟨#[]⟩,.string ⟨#[]⟩,.int .i64 0,.complex .f64 0 0,.slice none 0 0,.int .i64 0,.int .i64 0] 42)).drew:=by rw[hA];exact hr'
  have hsz:A.size=11:=by rw[hA];simpa using hul
  obtain⟨w9,hst,hB9,hO9⟩:=store_run (show Bk (W.alloc (.cells #[.string ⟨#[]⟩,.slice none 0 0,.int .i64 0,.int .i64 0,.string ⟨#[]⟩,.string ⟨#[]⟩,.int .i64 0,.complex .f64 0 0,.slice none 0 0,.int .i64 0,.int .i64 0] 42)).drew W.heap.size 42 #[.string ⟨#[]⟩,.slice none 0 0,.int .i64 0,.int .i64 0,.string ⟨#[]⟩,.string ⟨#[]⟩,.int .i64 0,.complex .f64 0 0,.slice none 0 0,.int .i64 0,.int .i64 0].toList from hBZ) A hsz (by rw[hA];simpa using hone)
  have hb9:Below W.heap.size W w9:=(hbZ.trans (Below.refl _ _).drew).trans (hO9.below (Nat.le_refl _))
  clear hr hr' hO9
  have HA:Hid (A=us.toArray):=hA
  clear hus hone hul hA
  go_cut [5,6] (fun x y wx=>x=.pointer (some ⟨W.heap.size,0,none⟩)∧y=.bool true∧Bk wx W.heap.size 42 A.toList∧Below W.heap.size W wx)
  case first=>
   go_region
   all_goals
    go_wp2_with fail
    go_meet
    case rel=>exact⟨rfl,rfl,hB9,hb9⟩
  case rest=>
   obtain⟨rfl,rfl,hB2,hB3⟩:=hcut
   have hB4:=Below.thn hb0 hB3
   obtain⟨ao',c',es,rfl,_,hx⟩:=hFg
   obtain⟨x0,x1,x2,x3,x4,x5,x6,rfl⟩:=list7 hx.len
   rw[HA.out] at hB2
   have b1:wc.cell? ⟨W.heap.size,1,none⟩=some (.slice ao' g.pms.length c'):=hB2.cell 1
   have b2:wc.cell? ⟨W.heap.size,2,none⟩=some (.int .i64 g.ty):=hB2.cell 2
   have c5:wc.cell? ⟨w.heap.size,5,none⟩=some (.slice ao n c):=(hL.up hB3).cell 5
   clear hrA hrB hst hB9 hb9 c1 d0 c1' d0' hB2 HA hsz
   by_cases hk:g.pms.length=n
   ·have e0:callT ff name n=g.ty:=by unfold callT;rw[hp];simp[hk]
    rw[hk] at b1
    go_wp2_with fail
    go_ret
    first|exact⟨rfl,hB4⟩|exact⟨by rw[e0];rfl,hB4⟩
   ·have e0:callT ff name n=0:=by unfold callT;rw[hp];simp[hk]
    have g1:((g.pms.length:Int) != (n:Int))=true:=by simp;omega
    go_wp2_with fail
    go_ret
    first|exact⟨rfl,hB4⟩|exact⟨by rw[e0];rfl,hB4⟩
def ownT (ff:List UInt8→Option Fn1) (tf:List UInt8→Int) (op:Int) (name:List UInt8) (ty:Int) (n:Nat):Int:=
 if op=1∨op=8∨op=9∨op=10∨op=11∨op=15∨op=16∨op=17 then 1 else if op=2∨op=3∨op=12∨op=13∨op=14 then 2 else if op=4∨op=18 then 3
 else if op=5 then ty else if op=6 then tf name else if op=7 then callT ff name n else 0
theorem shp_ops {Nm:List UInt8→Prop} {Nu:Int→Int→Prop} {op:Int} {a b:List UInt8} {t p q:Int} {n:Nat} (h:Shp Nm Nu op a b t p q n) :
  op=1∨op=2∨op=3∨op=4∨op=5∨op=6∨op=7∨op=8∨op=9∨op=10∨op=11∨op=12∨op=13∨op=14∨op=15∨op=16∨op=17∨op=18∨op=19∨op=20∨op=21∨op=22:=by
 cases h<;>omega
set_option maxHeartbeats 16000000 in
theorem own7_any {w:World} {bc m nm b nb:Nat} {p:Int × Int} {A:Nat→Prop} {ff:List UInt8→Option Fn1} {tf:List UInt8→Int} (hC:Ct w bc m (.map (some b)) p) (hF:Fm w A m nm ff) (hT:Tn w b nb tf) (op:Int) (name tail:List UInt8) (ty:Int) (hs:name.length≤maxLen) (v4:Value) (ao:Option Addr) (n c:Nat) (v6:Value)
  (hop:op=1∨op=2∨op=3∨op=4∨op=5∨op=6∨op=7∨op=8∨op=9∨op=10∨op=11∨op=12∨op=13∨op=14∨op=15∨op=16∨op=17∨op=18∨op=19∨op=20∨op=21∨op=22) :
  Calls Try.prog 51 #[.pointer (some ⟨bc,0,none⟩),.agg #[.int .i64 op,.string (bs name),.string (bs tail),.int .i64 ty,v4,.slice ao n c,v6]] w fun e w'=>e=.returned (.int .i64 (ownT ff tf op name ty n))∧Below w.heap.size w w':=by
 have hb0:=below_alloc w (.cells #[.int .i64 op,.string (bs name),.string (bs tail),.int .i64 ty,v4,.slice ao n c,v6] 40)
 have hL:=Bk.new w 40 #[.int .i64 op,.string (bs name),.string (bs tail),.int .i64 ty,v4,.slice ao n c,v6]
 have hC1:=hC.up hb0
 have hF1:=hF.up hb0
 have hT1:=hT.up hb0
 go_enter Try.func51,Try.ntmps51
 go_upto_region 1 with fail
 generalize w.alloc (.cells #[.int .i64 op,.string (bs name),.string (bs tail),.int .i64 ty,v4,.slice ao n c,v6] 40)=W at *
 obtain⟨c0,c1,c2,c3,c4,c5,c6⟩:=Bk.seven (show Bk W w.heap.size 40 [_,_,_,_,_,_,_] from hL)
 have d1:W.cell? ⟨bc,1,none⟩=some (.map (some b)):=hC1.cell 1
 obtain⟨f,hM,hf⟩:=hT1
 have hr:=(show MapW Try.prog 9 W.drew b nb f from hM).look Try.underlying9 Try.undTn (zeroT W.drew) hs
 rw[hf name] at hr
 have HX:Hid (Ct W bc m (.map (some b)) p∧Fm W A m nm ff):=⟨hC1,hF1⟩
 clear hC hF hT hM hf hC1 hF1 hL
 rcases hop with rfl|rfl|rfl|rfl|rfl|rfl|rfl|rfl|rfl|rfl|rfl|rfl|rfl|rfl|rfl|rfl|rfl|rfl|rfl|rfl|rfl|rfl
 ·go_wp2_with fail
  go_ret
  exact⟨rfl,hb0⟩
 ·go_wp2_with fail
  go_ret
  exact⟨rfl,hb0⟩
 ·go_wp2_with fail
  go_ret
  exact⟨rfl,hb0⟩
 ·go_wp2_with fail
  go_ret
  exact⟨rfl,hb0⟩
 ·go_wp2_with fail
  go_ret
  exact⟨rfl,hb0⟩
 ·go_upto_region 23 with fail
  go_region
  all_goals
   go_wp2_with fail
   go_ret
   exact⟨rfl,Below.thn hb0 (Below.refl _ W).drew⟩
 ·have hc:=ownOfCall_any HX.out.1 HX.out.2 (.int .i64 7) name hs (.string (bs tail)) (.int .i64 ty) v4 ao n c v6
  go_wp2_with fail
  refine hc.mono ?_
  rintro e w2 ⟨rfl,hb2⟩
  have hB:=Below.thn hb0 hb2
  clear hc
  go_wp2_with fail
  go_ret
  exact⟨rfl,hB⟩
 ·go_wp2_with fail
  go_ret
  exact⟨rfl,hb0⟩
 ·go_wp2_with fail
  go_ret
  exact⟨rfl,hb0⟩
 ·go_wp2_with fail
  go_ret
  exact⟨rfl,hb0⟩
 ·go_wp2_with fail
  go_ret
  exact⟨rfl,hb0⟩
 ·go_wp2_with fail
  go_ret
  exact⟨rfl,hb0⟩
 ·go_wp2_with fail
  go_ret
  exact⟨rfl,hb0⟩
 ·go_wp2_with fail
  go_ret
  exact⟨rfl,hb0⟩
 ·go_wp2_with fail
  go_ret
  exact⟨rfl,hb0⟩
 ·go_wp2_with fail
  go_ret
  exact⟨rfl,hb0⟩
 ·go_wp2_with fail
  go_ret
  exact⟨rfl,hb0⟩
 ·go_wp2_with fail
  go_ret
  exact⟨rfl,hb0⟩
 ·go_wp2_with fail
  go_ret
  exact⟨rfl,hb0⟩
 ·go_wp2_with fail
  go_ret
  exact⟨rfl,hb0⟩
 ·go_wp2_with fail
  go_ret
  exact⟨rfl,hb0⟩
 ·go_wp2_with fail
  go_ret
  exact⟨rfl,hb0⟩
end Go.Proofs.Ytkbglnhdbnijlaa
namespace Go.Proofs.Ytkbglnhdbnijlaa
open Go.RowKit Go.Maps
set_option maxRecDepth 100000
def argT (ff:List UInt8→Option Fn1) (name:List UInt8) (i:Nat):Int:=match ff name with|none=>0|some g=>if i<g.pms.length then (g.pms.getD i pd).ty else 0
theorem fieldF1 (w:World) (a0:Value) (ao:Option Addr) (n c:Nat) (a2 a3 a4 a5 a6 a7 a8 a9 a10:Value):(Instr.field 42 (.agg #[a0,.slice ao n c,a2,a3,a4,a5,a6,a7,a8,a9,a10]) 1).run Try.prog w=.ok (.slice ao n c) w:=by kernel_rfl
set_option maxHeartbeats 8000000 in
theorem wantedArg_any {w:World} {bc m nm:Nat} {nv:Value} {p:Int × Int} {A:Nat→Prop} {ff:List UInt8→Option Fn1} (hC:Ct w bc m nv p) (hF:Fm w A m nm ff) (v0:Value) (name:List UInt8) (hs:name.length≤maxLen) (v2 v3 v4 v5 v6:Value) (i:Nat) :
  Calls Try.prog 73 #[.pointer (some ⟨bc,0,none⟩),.agg #[v0,.string (bs name),v2,v3,v4,v5,v6],.int .i64 i] w fun e w'=>e=.returned (.int .i64 (argT ff name i))∧Below w.heap.size w w':=by
 have hb0:=below_alloc w (.cells #[v0,.string (bs name),v2,v3,v4,v5,v6] 40)
 have hL:=Bk.new w 40 #[v0,.string (bs name),v2,v3,v4,v5,v6]
 have hC1:=hC.up hb0
 have hF1:=hF.up hb0
 go_enter Try.func73,Try.ntmps73
 go_upto_region 1 with fail
 generalize w.alloc (.cells #[v0,.string (bs name),v2,v3,v4,v5,v6] 40)=W at *
 have c1:W.cell? ⟨w.heap.size,1,none⟩=some (.string (bs name)):=hL.cell 1
 have d0:W.cell? ⟨bc,0,none⟩=some (.map (some m)):=hC1.cell 0
 obtain⟨f,hM,hff⟩:=hF1
 have hr:=(show MapW Try.prog 9 W.drew m nm f from hM).look Try.underlying9 Try.undFm (zeroF W.drew) hs
 have hfn:=hff name
 have hfd:=fieldF1 W.drew
 clear hC hF hff hL hC1 hM
 cases hp:ff name with
 |none=>
  rw[hp] at hfn
  dsimp only at hfn
  rw[hfn] at hr
  have hr:(Instr.lookup 59 (.map (some m)) (.string (bs name)) false).run Try.prog W.drew=.ok (.agg #[.string ⟨#[]⟩,.slice none 0 0,.int .i64 0,.int .i64 0,.string ⟨#[]⟩,.string ⟨#[]⟩,.int .i64 0,.complex .f64 0 0,.slice none 0 0,.int .i64 0,.int .i64 0]) W.drew:=hr
  have e0:argT ff name i=0:=by unfold argT;rw[hp]
  clear hfn
  go_cut [7] (fun x wx=>x=.slice none 0 0∧Below W.heap.size W wx)
  case first=>
   go_region
   all_goals
    go_wp2_with fail
    go_meet
    case rel=>exact⟨rfl,(Below.refl _ W).drew⟩
  case rest=>
   obtain⟨rfl,hB3⟩:=hcut
   have hB4:=Below.thn hb0 hB3
   clear hr c1 d0 hfd
   go_wp2_with fail
   go_ret
   first|exact⟨rfl,hB4⟩|exact⟨by rw[e0];rfl,hB4⟩
 |some g=>
  rw[hp] at hfn
  dsimp only at hfn
  obtain⟨us,hus,hFg⟩:=hfn
  rw[hus] at hr
  clear hus
  obtain⟨ao',c',es,rfl,hpl,hx⟩:=hFg
  obtain⟨x0,x1,x2,x3,x4,x5,x6,rfl⟩:=list7 hx.len
  have hr:(Instr.lookup 59 (.map (some m)) (.string (bs name)) false).run Try.prog W.drew=.ok (.agg #[.string (bs g.name),.slice ao' g.pms.length c',.int .i64 g.ty,x0,x1,x2,x3,x4,x5,x6,.int .i64 g.pos]) W.drew:=hr
  have HP:Hid (PlW W A ao' g.pms):=hpl
  clear hx hpl
  go_cut [7] (fun x wx=>x=.slice ao' g.pms.length c'∧Below W.heap.size W wx)
  case first=>
   go_region
   all_goals
    go_wp2_with fail
    go_meet
    case rel=>exact⟨rfl,(Below.refl _ W).drew⟩
  case rest=>
   obtain⟨rfl,hB3⟩:=hcut
   have hB4:=Below.thn hb0 hB3
   clear hr c1 d0 hfd
   by_cases hk:i<g.pms.length
   ·obtain⟨g',rfl,hv⟩:=PlW.at (HP.out.up hB3) i hk
    have e0:argT ff name i=(g.pms.getD i pd).ty:=by unfold argT;rw[hp];simp[hk]
    obtain⟨_,b1,_⟩:=range3 (show wc.rangeAt g' (i*3) [_,_,_] from hv)
    have g1:decide ((g.pms.length:Int)≤(i:Int))=false:=by simp;omega
    clear hv
    generalize (g.pms.getD i pd).ty=tt' at *
    go_wp2_with fail
    go_ret
    first|exact⟨rfl,hB4⟩|exact⟨by rw[e0];rfl,hB4⟩
   ·have e0:argT ff name i=0:=by unfold argT;rw[hp];simp[hk]
    have g1:decide ((g.pms.length:Int)≤(i:Int))=true:=by simp;omega
    go_wp2_with fail
    go_ret
    first|exact⟨rfl,hB4⟩|exact⟨by rw[e0];rfl,hB4⟩
def wntT (ff:List UInt8→Option Fn1) (op:Int) (name:List UInt8) (ty:Int) (i:Nat) (t:Int):Int:=
 if op=14 then 2 else if op=7 then argT ff name i else if op=18 then frs i 1 3 else if op=19 then frs i 2 t else if op=20 then frs i 3 t else if op=21∨op=22 then frs i ty t else 1
set_option maxHeartbeats 16000000 in
theorem wantedOf_any {w:World} {bc m nm:Nat} {nv:Value} {p:Int × Int} {A:Nat→Prop} {ff:List UInt8→Option Fn1} (hC:Ct w bc m nv p) (hF:Fm w A m nm ff) (op:Int) (name tail:List UInt8) (ty:Int) (hs:name.length≤maxLen) (v4 v5 v6:Value) (i:Nat) (t:Int)
  (hop:op=1∨op=2∨op=3∨op=4∨op=5∨op=6∨op=7∨op=8∨op=9∨op=10∨op=11∨op=12∨op=13∨op=14∨op=15∨op=16∨op=17∨op=18∨op=19∨op=20∨op=21∨op=22) :
  Calls Try.prog 54 #[.pointer (some ⟨bc,0,none⟩),.agg #[.int .i64 op,.string (bs name),.string (bs tail),.int .i64 ty,v4,v5,v6],.int .i64 i,.int .i64 t] w fun e w'=>e=.returned (.int .i64 (wntT ff op name ty i t))∧Below w.heap.size w w':=by
 have hb0:=below_alloc w (.cells #[.int .i64 op,.string (bs name),.string (bs tail),.int .i64 ty,v4,v5,v6] 40)
 have hL:=Bk.new w 40 #[.int .i64 op,.string (bs name),.string (bs tail),.int .i64 ty,v4,v5,v6]
 have hC1:=hC.up hb0
 have hF1:=hF.up hb0
 go_enter Try.func54,Try.ntmps54
 go_upto_region 1 with fail
 generalize w.alloc (.cells #[.int .i64 op,.string (bs name),.string (bs tail),.int .i64 ty,v4,v5,v6] 40)=W at *
 obtain⟨c0,c1,c2,c3,c4,c5,c6⟩:=Bk.seven (show Bk W w.heap.size 40 [_,_,_,_,_,_,_] from hL)
 have HX:Hid (Ct W bc m nv p∧Fm W A m nm ff):=⟨hC1,hF1⟩
 clear hC hF hC1 hF1 hL
 have hfo:=fun x y=>firstOr_any W i x y
 rcases hop with rfl|rfl|rfl|rfl|rfl|rfl|rfl|rfl|rfl|rfl|rfl|rfl|rfl|rfl|rfl|rfl|rfl|rfl|rfl|rfl|rfl|rfl
 ·clear hfo
  go_wp2_with fail
  go_ret
  exact⟨rfl,hb0⟩
 ·clear hfo
  go_wp2_with fail
  go_ret
  exact⟨rfl,hb0⟩
 ·clear hfo
  go_wp2_with fail
  go_ret
  exact⟨rfl,hb0⟩
 ·clear hfo
  go_wp2_with fail
  go_ret
  exact⟨rfl,hb0⟩
 ·clear hfo
  go_wp2_with fail
  go_ret
  exact⟨rfl,hb0⟩
 ·clear hfo
  go_wp2_with fail
  go_ret
  exact⟨rfl,hb0⟩
 ·have hc:=wantedArg_any HX.out.1 HX.out.2 (.int .i64 7) name hs (.string (bs tail)) (.int .i64 ty) v4 v5 v6 i
  go_wp2_with fail
  refine hc.mono ?_
  rintro e w2 ⟨rfl,hb2⟩
  have hB:=Below.thn hb0 hb2
  clear hc hfo
  go_wp2_with fail
  go_ret
  exact⟨rfl,hB⟩
 ·clear hfo
  go_wp2_with fail
  go_ret
  exact⟨rfl,hb0⟩
 ·clear hfo
  go_wp2_with fail
  go_ret
  exact⟨rfl,hb0⟩
 ·clear hfo
  go_wp2_with fail
  go_ret
  exact⟨rfl,hb0⟩
 ·clear hfo
  go_wp2_with fail
  go_ret
  exact⟨rfl,hb0⟩
 ·clear hfo
  go_wp2_with fail
  go_ret
  exact⟨rfl,hb0⟩
 ·clear hfo
  go_wp2_with fail
  go_ret
  exact⟨rfl,hb0⟩
 ·clear hfo
  go_wp2_with fail
  go_ret
  exact⟨rfl,hb0⟩
 ·clear hfo
  go_wp2_with fail
  go_ret
  exact⟨rfl,hb0⟩
 ·clear hfo
  go_wp2_with fail
  go_ret
  exact⟨rfl,hb0⟩
 ·clear hfo
  go_wp2_with fail
  go_ret
  exact⟨rfl,hb0⟩
 ·go_wp2_with fail
  refine (hfo 1 3).mono ?_
  rintro e w2 ⟨rfl,rfl⟩
  clear hfo
  go_wp2_with fail
  go_ret
  exact⟨rfl,hb0⟩
 ·go_wp2_with fail
  refine (hfo 2 t).mono ?_
  rintro e w2 ⟨rfl,rfl⟩
  clear hfo
  go_wp2_with fail
  go_ret
  exact⟨rfl,hb0⟩
 ·go_wp2_with fail
  refine (hfo 3 t).mono ?_
  rintro e w2 ⟨rfl,rfl⟩
  clear hfo
  go_wp2_with fail
  go_ret
  exact⟨rfl,hb0⟩
 ·go_wp2_with fail
  refine (hfo ty t).mono ?_
  rintro e w2 ⟨rfl,rfl⟩
  clear hfo
  go_wp2_with fail
  go_ret
  exact⟨rfl,hb0⟩
 ·go_wp2_with fail
  refine (hfo ty t).mono ?_
  rintro e w2 ⟨rfl,rfl⟩
  clear hfo
  go_wp2_with fail
  go_ret
  exact⟨rfl,hb0⟩
end Go.Proofs.Ytkbglnhdbnijlaa
