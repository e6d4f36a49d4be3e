/-
  2 texts in one: what each proves stands at its head.
-/
import Derived.Test.YtimoappbefindaaGreatUM
import Derived.Deep.DeepCutAuto
import Derived.Deep.RegionHeld3
import Derived.Test.YtimoappbefindaaGreatUO
namespace Go.Proofs.YtimoappbefindaaGreat
open Go.RowKit
set_option maxRecDepth 100000
theorem jH {l:List UInt8} {lt lf la ln:Int} {f B:Nat} {e:Ending} {w':World} (h:paV l lt lf la ln f B e w') (hf:∀ ms,cut rdN l 0=.ok ms→aQ (mf ms) ⟨max lf 0,max la 0,max ln 0⟩ f [] 0≠.out) :
  (cT lt<l.length∧e=.returned (dU 22 (cT lt)))∨(l.length≤cT lt∧∃ k,cut rdN l 0=.bad k∧e=.returned (dU 20 k)) ∨
  (l.length≤cT lt∧∃ ms gs j,cut rdN l 0=.ok ms∧aQ (mf ms) ⟨max lf 0,max la 0,max ln 0⟩ f [] 0=.ok gs j∧∃ ao c,e=.returned (.tuple #[.agg #[.slice ao gs.length c],.agg #[.int .i64 0,.int .i64 0]])∧FlW w' (fun b=>B≤b) ao gs) ∨
  (l.length≤cT lt∧∃ ms y k,cut rdN l 0=.ok ms∧aQ (mf ms) ⟨max lf 0,max la 0,max ln 0⟩ f [] 0=.bad y k∧e=.returned (dU y (mf ms k).at_)):=by
 unfold paV at h
 by_cases hb:cT lt<l.length
 ·rw[if_pos hb] at h
  exact .inl ⟨hb,h⟩
 ·rw[if_neg hb] at h
  refine .inr ?_
  have hle:(l.length:Int)≤cT lt:=by omega
  cases hc:cut rdN l 0 with
  |bad k=>
   rw[hc] at h
   exact .inl ⟨hle,k,rfl,h⟩
  |ok ms=>
   rw[hc] at h
   dsimp only at h
   cases hq:aQ (mf ms) ⟨max lf 0,max la 0,max ln 0⟩ f [] 0 with
   |out=>exact absurd hq (hf ms hc)
   |ok gs j=>
    rw[hq] at h
    obtain⟨ao,c,e1,hf1,_⟩:=h
    exact .inr (.inl ⟨hle,ms,gs,j,rfl,hq,ao,c,e1,hf1⟩)
   |bad y k=>
    rw[hq] at h
    exact .inr (.inr ⟨hle,ms,y,k,rfl,hq,h⟩)
theorem pF:cT 32768=32768:=by decide
theorem Bd.oth {g:Nat} {w w':World} {ao:Option Addr} {l:List UInt8} (h:Bd w ao l) (ho:Oth g w w') (hn:∀ b off,ao=some ⟨b,off,none⟩→b≠g):Bd w' ao l:=by
 refine⟨fun hne=>?_⟩
 obtain⟨b,off,e,hc⟩:=h.pl hne
 exact⟨b,off,e,fun t ht=>(ho.cell (a:=⟨b,off+t,none⟩) (hn b off e)).trans (hc t ht)⟩
structure Wv (w0 w:World) (O G H:Nat) (t f a n g h:Int):Prop where
 o:Bk w O 65 [.int .i64 t,.int .i64 f,.int .i64 a,.int .i64 n]
 g:∃ x:Int,Bk w G 49 [.int .i64 g,.int .i64 x]
 h:∃ x:Int,Bk w H 49 [.int .i64 h,.int .i64 x]
 b:Below w0.heap.size w0 w
section
variable {w0 w w':World} {O G H:Nat} {t f a n g h:Int}
theorem Wv.set {j:Nat} {v:Value} (k:Wv w0 w O G H t f a n g h) (hG:G≠O) (hH:H≠O) (hO:w0.heap.size≤O) {t' f' a' n':Int}
  (e:[Value.int .i64 t,.int .i64 f,.int .i64 a,.int .i64 n].set j v=[.int .i64 t',.int .i64 f',.int .i64 a',.int .i64 n']):Wv w0 (w.setCell ⟨O,j,none⟩ v) O G H t' f' a' n' g h:=by
 obtain⟨x,hx⟩:=k.g
 obtain⟨y,hy⟩:=k.h
 have ho:=(Oth.refl O w).set j v
 refine⟨?_,⟨x,hx.oth ho hG⟩,⟨y,hy.oth ho hH⟩,k.b.trans (ho.below hO)⟩
 have:=k.o.set j v
 rwa[e] at this
end
end Go.Proofs.YtimoappbefindaaGreat
