/-
  1 texts in one: what each proves stands at its head.
-/
import Derived.Test.YtkbglnhdbnijlaaTr
import Derived.Test.YtkbglnhdbnijlaaUq
import Derived.Test.YtkbglnhdbnijlaaUu
namespace Go.Proofs.Ytkbglnhdbnijlaa
open Go.RowKit
set_option maxRecDepth 100000
def paL (qs:List Pa):List Value:=qs.flatMap paC
theorem paL_cons (q:Pa) (qs:List Pa):paL (q::qs)=paC q++paL qs:=by simp[paL]
theorem paL_len:∀ qs:List Pa,(paL qs).length=qs.length*3
 |[]=>rfl
 |q::qs=>by rw[paL_cons,List.length_append,paL_len qs,List.length_cons];simp[paC];omega
theorem paL_app (ps qs:List Pa):paL (ps++qs)=paL ps++paL qs:=by simp[paL]
theorem paL_one (qs:List Pa):∀ u∈paL qs,u.oneCell'=true:=by
 intro u hu
 unfold paL at hu
 rw[List.mem_flatMap] at hu
 obtain⟨q,_,h⟩:=hu
 simp only[paC,List.mem_cons,List.not_mem_nil,or_false] at h
 rcases h with rfl|rfl|rfl<;>rfl
theorem paL_get:∀ (qs:List Pa) (k j:Nat) (v:Value),k<qs.length→(paC (qs.getD k pa0))[j]?=some v→(paL qs)[k*3+j]?=some v
 |[],k,_,_,hk,_=>by simp at hk
 |q::qs,0,j,v,_,h=>by
  rw[List.getD_cons_zero] at h
  have hj:=(List.getElem?_eq_some_iff.1 h).1
  rw[paL_cons,Nat.zero_mul,Nat.zero_add,List.getElem?_append_left hj]
  exact h
 |q::qs,k+1,j,v,hk,h=>by
  rw[List.getD_cons_succ] at h
  rw[paL_cons,List.getElem?_append_right (by simp[paC];omega),show (k+1)*3+j-(paC q).length=k*3+j by simp[paC];omega]
  exact paL_get qs k j v (by simpa using hk) h
theorem paL_at {w:World} {b off:Nat}:∀ {qs:List Pa},(∀ i,i<qs.length→w.rangeAt b (off+i*3) (paC (qs.getD i pa0)))→∀ j u,(paL qs)[j]?=some u→w.cell? ⟨b,off+j,none⟩=some u:=by
 intro qs h j u hj
 have hl:j<(paL qs).length:=(List.getElem?_eq_some_iff.1 hj).1
 rw[paL_len] at hl
 have hk:j / 3<qs.length:=by omega
 have h1:=h (j / 3) hk
 have hm:j % 3<3:=Nat.mod_lt _ (by decide)
 obtain⟨v,hv⟩:∃ v,(paC (qs.getD (j / 3) pa0))[j % 3]?=some v:=⟨_,List.getElem?_eq_getElem (by simp[paC];omega)⟩
 have h2:=paL_get qs (j / 3) (j % 3) v hk hv
 rw[show j / 3*3+j % 3=j by omega,hj] at h2
 cases h2
 have h3:=h1 (j % 3) u hv
 rwa[show off+j / 3*3+j % 3=off+j by omega] at h3
def PaO (w:World) (B:Nat) (v:Value) (qs:List Pa):Prop:=w.ownsRow B 47 3 v qs.length (paL qs)
theorem Try.infoPa:(Try.prog.info? 47).map (fun i=>(i.zero,i.size,i.bytes))=some (some (.agg #[.string ⟨#[]⟩,.int .i64 0,.int .i64 0]),3,32):=by kernel_rfl
theorem Try.underPa:Try.prog.underlying 34=some (.slice 47):=by kernel_rfl
theorem pa_app {w:World} {B:Nat} {v:Value} {ps qs:List Pa} (h:PaO w B v ps) (hB:B≤w.heap.size) {ao:Option Addr} (hq:PaW w ao qs) (hnone:ao=none→qs=[]) {cap:Nat} (hcap:ao=none→cap=0) (hn:(ps.length+qs.length)*32≤140737488355328) :
  ∃ v' w',(Builtin.append_ #[34,34] 34 #[v,.slice ao qs.length cap]).run Try.prog w=.ok v' w'∧PaO w' B v' (ps++qs)∧Below B w w':=by
 obtain⟨i0,hi,hz0,hz1,hz2⟩:=info_parts Try.infoPa
 cases ao with
 |none=>
  have e:=hnone rfl
  subst e
  rw[hcap rfl]
  exact⟨v,w,run_append_owned_none (P:=Try.prog) (w:=w) B 34 34 47 i0 3 Try.underPa hi v ps.length _ h,by rw[List.append_nil];exact h,Below.refl _ _⟩
 |some a=>
  have hcell:∀ j u,(paL qs)[j]?=some u→w.cell? (a.add j)=some u:=by
   intro j u hj
   have hne:qs≠[]:=by intro e;rw[e] at hj;simp[paL] at hj
   obtain⟨b,off,e,hr⟩:=hq hne
   cases e
   rw[Addr.add_mid]
   exact paL_at hr j u hj
  obtain⟨v',w',hr,ho',hgr,_⟩:=run_append_own (P:=Try.prog) w B 34 34 47 i0 _ 3 32 Try.underPa hi hz0 hz1 hz2 rfl (by decide) v ps.length _ h a qs.length cap (paL qs) (paL_len qs) hcell (paL_one qs) (by unfold maxLen;omega) hn hB
  refine⟨v',w',hr,?_,(Below.refl B w).grown hgr hB (own_low h)⟩
  unfold PaO
  rw[List.length_append,paL_app]
  exact ho'
theorem PaW.up {w w':World} {ao:Option Addr} {qs:List Pa} (h:PaW w ao qs) (hb:Below w.heap.size w w'):PaW w' ao qs:=fun hne=>by
 obtain⟨b,off,e,hr⟩:=h hne
 refine⟨b,off,e,fun i hi=>?_⟩
 have h0:=hr i hi 0 _ rfl
 intro j v hj
 rw[← hr i hi j v hj]
 exact World.cell?_of_block (hb.block b (cell_lt h0))
theorem PaO.row {w:World} {B:Nat} {v:Value} {qs:List Pa} (h:PaO w B v qs) (hne:0<qs.length):∃ g cap,v=.slice (some ⟨g,0,none⟩) qs.length cap∧qs.length≤cap∧cap≤maxLen∧∀ k,k<qs.length→w.rangeAt g (k*3) (paC (qs.getD k pa0)):=by
 rcases h.2 with⟨rfl,h0⟩|⟨g,c,cur,rfl,hb,hg,h1,h2,h3,h4⟩
 ·omega
 ·refine⟨g,c,rfl,h1,h2,fun k hk j v hj=>?_⟩
  have hp:=paL_get qs k j v hk hj
  have hl:k*3+j<(paL qs).length:=(List.getElem?_eq_some_iff.1 hp).1
  have h5:(cur.toList.take (qs.length*3))[k*3+j]?=some v:=by rw[h4];exact hp
  rw[List.getElem?_take_of_lt (by rw[← paL_len];exact hl)] at h5
  unfold World.cell?
  simp only[hg]
  simpa using h5
end Go.Proofs.Ytkbglnhdbnijlaa
