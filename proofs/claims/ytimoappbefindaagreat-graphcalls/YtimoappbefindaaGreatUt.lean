/-
  2 texts in one: what each proves stands at its head.
-/
import Derived.Test.YtimoappbefindaaGreatUj
import Derived.Test.YtimoappbefindaaGreatUM
import Derived.Test.YtimoappbefindaaGreatUkk
import Derived.Test.YtimoappbefindaaGreatUW
import Derived.Deep.DeepCutAuto
import Derived.Deep.RegionHeld3
import Derived.Test.YtimoappbefindaaGreatUx
namespace Go.Proofs.YtimoappbefindaaGreat
open Go.RowKit
set_option maxRecDepth 100000
theorem below_oth {w w1 w2:World} {g:Nat} (h:Below w.heap.size w w1) (ho:Oth g w1 w2) (hg:w.heap.size≤g):Below w.heap.size w w2:=
 ⟨ho.os.trans h.os,ho.tape.trans h.tape,ho.output.trans h.output,by rw[ho.size];exact h.size,fun k hk=>(ho.block k (by omega)).trans (h.block k hk)⟩
abbrev LW5:Lm:=⟨max 32768 0,max 32768 0,max 32768 0⟩
def rdV (l:List UInt8) (f B:Nat) (e:Ending) (w':World):Prop:=
 (∃ ms gs j ao c,l.length≤32768∧cut rdN l 0=.ok ms∧aS (mf ms) LW5 f [] 0=.ok gs j∧e=.returned (.tuple #[.agg #[.slice ao gs.length c],.bool true])∧FlW w' (fun b=>B≤b) ao gs) ∨
 ((∀ ms gs j,¬ (l.length≤32768∧cut rdN l 0=.ok ms∧aS (mf ms) LW5 f [] 0=.ok gs j))∧e=.returned (.tuple #[.agg #[.slice none 0 0],.bool false]))
theorem paV_rd {l:List UInt8} {f B:Nat} {w':World} {ao:Option Addr} {n c:Nat} {y a:Int} (hf:∀ ms,cut rdN l 0=.ok ms→aS (mf ms) LW5 f [] 0≠.out)
  (h:paV l 32768 32768 32768 32768 f B (.returned (.tuple #[.agg #[.slice ao n c],.agg #[.int .i64 y,.int .i64 a]])) w'):rdV l f B (.returned (.tuple #[.agg #[.slice ao n c],.bool (y==0)])) w':=by
 have hne:∀ {y1 a1:Int},y1≠0→Ending.returned (.tuple #[.agg #[.slice ao n c],.agg #[.int .i64 y,.int .i64 a]])=.returned (fw y1 a1)→Ending.returned (.tuple #[.agg #[.slice ao n c],.bool (y==0)])=.returned (.tuple #[.agg #[.slice none 0 0],.bool false]):=by
  intro y1 a1 h1 e
  unfold fw at e
  cases e
  have:(y==0)=false:=by simpa using h1
  rw[this]
 rcases lv h hf with⟨hl,h⟩|⟨hl,k,hc,h⟩|⟨hl,ms,gs,j,hc,hp,ao',c',h,hfl⟩|⟨hl,ms,y',k,hc,hq,h⟩
 ·refine .inr ⟨fun ms gs j hh=>?_,hne (by decide) h⟩
  rw[sK] at hl
  omega
 ·refine .inr ⟨fun ms gs j hh=>?_,hne (by decide) h⟩
  rw[hc] at hh
  cases hh.2.1
 ·refine .inl ⟨ms,gs,j,ao',c',by rw[sK] at hl;omega,hc,hp,?_,hfl⟩
  cases h
  rfl
 ·refine .inr ⟨fun ms2 gs j hh=>?_,hne ?_ h⟩
  ·rw[hc] at hh
   cases hh.2.1
   rw[hq] at hh
   cases hh.2.2
  ·have:=fk_prog (mf ms) LW5 (ji rdN _ _ _ hc).four f [] 0
   rw[hq] at this
   rcases this with h|⟨h|h,_⟩<;>(rw[h];decide)
theorem rdV_keep {l:List UInt8} {f B B':Nat} {e:Ending} {w w':World} (h:rdV l f B e w) (hB:B'≤B) (hs:w.heap.size≤w'.heap.size) (hk:∀ b,B≤b→b<w.heap.size→w'.heap[b]?=w.heap[b]?):rdV l f B' e w':=by
 rcases h with⟨ms,gs,j,ao,c,h1,h2,h3,h4,h5⟩|h
 ·exact .inl ⟨ms,gs,j,ao,c,h1,h2,h3,h4,(h5.keep hs hk).imp fun b hb _=>Nat.le_trans hB hb⟩
 ·exact .inr h
set_option maxHeartbeats 4000000 in
theorem lU (ao:Option Addr) (cap:Nat) (l:List UInt8) (hcap:l.length≤cap) (w:World) (hT:Bd w ao l) (f:Nat) (hf:∀ ms,cut rdN l 0=.ok ms→aS (mf ms) LW5 f [] 0≠.out) :
  Calls Tryz.prog 10 #[.slice ao l.length cap] w fun e w'=>Below w.heap.size w w'∧∃ ao n c b,e=.returned (.tuple #[.agg #[.slice ao n c],.bool (b&&decide (n≤60))])∧rdV l f w.heap.size (.returned (.tuple #[.agg #[.slice ao n c],.bool b])) w':=by
 have hb0:=ae w (.cells #[.slice none 0 0] 26)
 have hR0:=Bk.new w 26 #[.slice none 0 0]
 generalize hW:w.alloc (.cells #[.slice none 0 0] 26)=W0 at *
 go_enter Tryz.func10,Tryz.ntmps10
 go_upto_region 1 with fail
 first|rw[hW]|skip
 clear hW
 go_wp2_with fail
 refine (wide_any W0).mono ?_
 rintro e w1 ⟨rfl,hb1⟩
 have hB1:=Below.thn hb0 hb1
 have hR1:=hR0.up hb1
 have hpar:=rparse_all ao cap l hcap 32768 32768 32768 32768 (by decide) w1 (hT.up hB1) f hf
 clear hb0 hb1 hR0
 go_wp2_with fail
 refine hpar.mono ?_
 rintro e w2 ⟨hb2,hpa⟩
 obtain⟨a2,n2,c2,y,aa,rfl⟩:=paV_shape hpa hf
 have hrd:=paV_rd hf hpa
 have hR2:=hR1.up hb2
 have hB2:=Below.thn hB1 hb2
 have hR1s:w.heap.size<w1.heap.size:=hR1.lt
 clear hpar hpa hR1 hB1
 have hb3:=bC w2 (.cells #[.slice a2 n2 c2] 26) (.cells #[.int .i64 y,.int .i64 aa] 49)
 have hR3:=hR2.up hb3
 have hs1:=hR1s
 have hP3:=(Bk.new w2 26 #[.slice a2 n2 c2]).up (ae _ (.cells #[.int .i64 y,.int .i64 aa] 49))
 have hF3:=Bk.newAt (w:=w2.alloc (.cells #[.slice a2 n2 c2] 26)) (n:=w2.heap.size+1) 49 #[.int .i64 y,.int .i64 aa] (by simp)
 go_upto_region 2 with fail
 generalize hW4:(w2.alloc (.cells #[.slice a2 n2 c2] 26)).alloc (.cells #[.int .i64 y,.int .i64 aa] 49)=W4 at *
 have p0:W4.cell? ⟨w2.heap.size,0,none⟩=some (.slice a2 n2 c2):=hP3.cell 0
 have f0:W4.cell? ⟨w2.heap.size+1,0,none⟩=some (.int .i64 y):=hF3.cell 0
 have r0:W4.cell? ⟨w.heap.size,0,none⟩=some (.slice none 0 0):=hR3.cell 0
 have r1:=hR3.frz 0
 have ho:=(Oth.refl w.heap.size W4).set 0 (.slice a2 n2 c2)
 have q0:(W4.setCell ⟨w.heap.size,0,none⟩ (.slice a2 n2 c2)).drew.cell? ⟨w.heap.size,0,none⟩=some (.slice a2 n2 c2):=(hR3.set 0 (.slice a2 n2 c2)).cell 0
 have hend:Below w.heap.size w (W4.setCell ⟨w.heap.size,0,none⟩ (.slice a2 n2 c2)).drew∧rdV l f w.heap.size (.returned (.tuple #[.agg #[.slice a2 n2 c2],.bool (y==0)])) (W4.setCell ⟨w.heap.size,0,none⟩ (.slice a2 n2 c2)).drew:=by
  have hb4:=(below_oth (w:=w) (Below.thn hB2 hb3) ho (Nat.le_refl _)).drew
  refine⟨hb4,rdV_keep hrd (by omega) ?_ fun b hb hlt=>?_⟩
  ·have:=hb3.size
   have:=ho.size
   show w2.heap.size≤(W4.setCell ⟨w.heap.size,0,none⟩ (.slice a2 n2 c2)).heap.size
   omega
  ·show (W4.setCell ⟨w.heap.size,0,none⟩ (.slice a2 n2 c2)).heap[b]?=w2.heap[b]?
   rw[ho.block b (by omega),hb3.block b hlt]
 have g1:(W4.setCell ⟨w.heap.size,0,none⟩ (.slice a2 n2 c2)).cell? ⟨w2.heap.size+1,0,none⟩=some (.int .i64 y):=(hF3.oth ho (by have:=hb2.size;omega)).cell 0
 have p1:(W4.setCell ⟨w.heap.size,0,none⟩ (.slice a2 n2 c2)).cell? ⟨w2.heap.size,0,none⟩=some (.slice a2 n2 c2):=(hP3.oth ho (by have:=hb2.size;omega)).cell 0
 have HE:Hid _:=hend
 clear hend ho hW4 hrd hR2 hR3 hB2 hb3 hb2 hs1 hR1s hP3 hF3
 by_cases hy:y=0
 ·subst hy
  by_cases hn:n2≤60
  ·have hn':(n2:Int)≤60:=by omega
   rw[show ((0:Int)==0)=true from rfl] at HE
   have HF:Hid (_∧∃ ao n c b,Ending.returned (.tuple #[.agg #[.slice a2 n2 c2],.bool true])=.returned (.tuple #[.agg #[.slice ao n c],.bool (b&&decide (n≤60))])∧rdV l f w.heap.size (.returned (.tuple #[.agg #[.slice ao n c],.bool b])) _):=⟨HE.out.1,a2,n2,c2,true,by rw[decide_eq_true hn];rfl,HE.out.2⟩
   clear HE hn
   go_region
   all_goals go_wp2
   all_goals exact bodyPost_ret (v:=.tuple #[.agg #[.slice a2 n2 c2],.bool true]) (by simp[results,Tryz.results10,go_sem,q0]) rfl HF.out
  ·have hn':(60:Int)<(n2:Int):=by omega
   rw[show ((0:Int)==0)=true from rfl] at HE
   have HF:Hid (_∧∃ ao n c b,Ending.returned (.tuple #[.agg #[.slice a2 n2 c2],.bool false])=.returned (.tuple #[.agg #[.slice ao n c],.bool (b&&decide (n≤60))])∧rdV l f w.heap.size (.returned (.tuple #[.agg #[.slice ao n c],.bool b])) _):=⟨HE.out.1,a2,n2,c2,true,by rw[decide_eq_false hn];rfl,HE.out.2⟩
   clear HE hn
   go_region
   all_goals go_wp2
   all_goals exact bodyPost_ret (v:=.tuple #[.agg #[.slice a2 n2 c2],.bool false]) (by simp[results,Tryz.results10,go_sem,q0];try omega) rfl HF.out
 ·have hy':(y==0)=false:=by simpa using hy
  rw[hy'] at HE
  have HF:Hid (_∧∃ ao n c b,Ending.returned (.tuple #[.agg #[.slice a2 n2 c2],.bool false])=.returned (.tuple #[.agg #[.slice ao n c],.bool (b&&decide (n≤60))])∧rdV l f w.heap.size (.returned (.tuple #[.agg #[.slice ao n c],.bool b])) _):=⟨HE.out.1,a2,n2,c2,false,rfl,HE.out.2⟩
  clear HE hy
  go_region
  all_goals go_wp2
  all_goals exact bodyPost_ret (v:=.tuple #[.agg #[.slice a2 n2 c2],.bool false]) (by simp[results,Tryz.results10,go_sem,q0]) rfl HF.out
theorem prog_ne (M:Nat→Mk) (L:Lm):∀ f acc k gs j,aS M L f acc k=.ok gs j→gs≠[]:=by
 intro f
 induction f with
 |zero=>intro acc k gs j h;cases h
 |succ f ih=>
  intro acc k gs j h
  rw[aS] at h
  obtain⟨g,k1,h1,h2⟩:=au.1 h
  split at h2
  ·cases h2
   simp
  ·exact ih _ _ _ _ h2
structure ja (gs:List Fn1):Prop where
 ne:gs≠[]
 num:gs.length≤32769
 sz:∀ g∈gs,szE g.body≤32769
 pms:∀ g∈gs,g.pms.length≤32769
theorem ui {l:List UInt8} {ms:List Mk} {f:Nat} {gs:List Fn1} {j:Nat} (hl:l.length≤32768) (hff:12*(l.length+1)+9≤f) (hc:cut rdN l 0=.ok ms) (hp:aS (mf ms) LW5 f [] 0=.ok gs j):ja gs:=by
 have hrow:=ji rdN _ _ _ hc
 have hfew:=ny _ _ _ hc
 have hjn:0+1≤j∧j<ms.length:=by
  have:=qX (mf ms) LW5 hrow.ends f [] 0 hrow.pos (by omega)
  rw[hp] at this
  exact this
 obtain⟨-,hgl,hpj⟩:=prog_len _ _ _ _ _ _ _ hp
 simp only[List.length_nil] at hgl
 have hsz:∀ g∈gs,szE g.body≤32769:=fun g hg=>by
  have:=sz_prog (mf ms) LW5 _ _ _ _ _ hp (by simp) g hg
  omega
 have hpm:∀ g∈gs,g.pms.length≤32769:=fun g hg=>by
  have:=hpj (by simp) g hg
  omega
 exact⟨prog_ne _ _ _ _ _ _ _ hp,by omega,hsz,hpm⟩
end Go.Proofs.YtimoappbefindaaGreat
