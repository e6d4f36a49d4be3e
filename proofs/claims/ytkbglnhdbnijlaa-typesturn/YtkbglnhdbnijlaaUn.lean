/-
  3 texts in one: what each proves stands at its head.
-/
import Derived.Test.YtkbglnhdbnijlaaUm
import Derived.RangeFuncNested
import Derived.RangeFuncBound
import Derived.RangeFuncCalls
import Derived.RangeFuncLeaves
import Derived.Shelf.Abstract
import Derived.Shelf.RegionOpen
import Derived.WalkKit
import Derived.OwnWalkIn
import Derived.TacticsInMore
import Derived.LoopNIn
import Derived.LoopIn
namespace Go.Proofs.Ytkbglnhdbnijlaa
open Go.RowKit Go.Maps
set_option maxRecDepth 100000
def bnd7 (op:Int) (name tail:List UInt8) (ty:Int) (i:Nat):List Pm:=if op=21∨(op=22∧i=1) then [⟨name,ty,0⟩] else if op=20∧i=2 then [⟨name,1,0⟩,⟨tail,3,0⟩] else []
def NewPs (w:World) (ps:List Pm) (e:Ending) (w':World):Prop:=∃ ao,e=.returned (.slice ao ps.length ps.length)∧PlW w' (fun k=>w.heap.size≤k) ao ps∧Below w.heap.size w w'
theorem newPs_nil {w w':World} (hb:Below w.heap.size w w'):NewPs w [] (.returned (.slice none 0 0)) w':=⟨none,rfl,.inl rfl,hb⟩
theorem newPs_of {w w1:World} (ps:List Pm) (C:Array Value) (t:TypeId) (hC:C.toList=pmsC ps) (hb:Below w.heap.size w w1):NewPs w ps (.returned (.slice (some ⟨w1.heap.size,0,none⟩) ps.length ps.length)) (w1.alloc (.cells C t)):=
 ⟨_,rfl,.inr ⟨w1.heap.size,rfl,hb.size,by simp,fun j v hj=>by
  rw[Nat.zero_add,(Bk.new w1 t C).cell j,hC]
  exact hj⟩,Below.thn hb (below_alloc _ _)⟩
set_option maxHeartbeats 4000000 in
theorem boundIn7_any {w:World} (op:Int) (name tail:List UInt8) (ty:Int) (v4 v5 v6:Value) (i:Nat) :
  Calls Try.prog 53 #[.agg #[.int .i64 op,.string (bs name),.string (bs tail),.int .i64 ty,v4,v5,v6],.int .i64 i] w fun e w'=>NewPs w (bnd7 op name tail ty i) e w':=by
 have hb0:=below_alloc w (.cells #[.int .i64 op,.string (bs name),.string (bs tail),.int .i64 ty,v4,v5,v6] 40)
 have hL:=Bk.new w 40 #[.int .i64 op,.string (bs name),.string (bs tail),.int .i64 ty,v4,v5,v6]
 go_enter Try.func53,Try.ntmps53
 go_upto_region 1 with fail
 generalize w.alloc (.cells #[.int .i64 op,.string (bs name),.string (bs tail),.int .i64 ty,v4,v5,v6] 40)=W at *
 obtain⟨c0,c1,c2,c3,c4,c5,c6⟩:=Bk.seven (show Bk W w.heap.size 40 [_,_,_,_,_,_,_] from hL)
 clear hL
 by_cases h1:op=21
 ·subst h1
  have e:bnd7 21 name tail ty i=[⟨name,ty,0⟩]:=by simp[bnd7]
  go_wp2
  go_ret
  rw[e]
  exact newPs_of [⟨name,ty,0⟩] _ _ rfl hb0
 ·have g1:(op==21)=false:=by simpa using h1
  by_cases h2:op=22
  ·subst h2
   by_cases h3:i=1
   ·subst h3
    have e:bnd7 22 name tail ty 1=[⟨name,ty,0⟩]:=by simp[bnd7]
    go_wp2
    go_ret
    rw[e]
    exact newPs_of [⟨name,ty,0⟩] _ _ rfl hb0
   ·have g3:((i:Int)==1)=false:=by simp;omega
    have e:bnd7 22 name tail ty i=[]:=by simp[bnd7,h3]
    go_wp2
    go_ret
    rw[e]
    exact newPs_nil hb0
  ·have g2:(op==22)=false:=by simpa using h2
   by_cases h4:op=20
   ·subst h4
    by_cases h5:i=2
    ·subst h5
     have e:bnd7 20 name tail ty 2=[⟨name,1,0⟩,⟨tail,3,0⟩]:=by simp[bnd7]
     go_wp2
     go_ret
     rw[e]
     exact newPs_of [⟨name,1,0⟩,⟨tail,3,0⟩] _ _ rfl hb0
    ·have g5:((i:Int)==2)=false:=by simp;omega
     have e:bnd7 20 name tail ty i=[]:=by simp[bnd7,h5]
     go_wp2
     go_ret
     rw[e]
     exact newPs_nil hb0
   ·have g4:(op==20)=false:=by simpa using h4
    have e:bnd7 op name tail ty i=[]:=by simp[bnd7,h1,h2,h4]
    go_wp2
    go_ret
    rw[e]
    exact newPs_nil hb0
/-! ## Binding -/
def setT (tf:List UInt8→Int) (s:List UInt8) (t:Int):List UInt8→Int:=fun r=>if r=s then t else tf r
def bindT (tf:List UInt8→Int) (ps:List Pm):List UInt8→Int:=ps.foldl (fun tf p=>setT tf p.name p.ty) tf
theorem bindT_step (tf:List UInt8→Int) (ps:List Pm) (k:Nat) (h:k<ps.length):bindT tf (ps.take (k+1))=setT (bindT tf (ps.take k)) (ps.getD k pd).name (ps.getD k pd).ty:=by
 unfold bindT
 rw[List.take_succ_eq_append_getElem h,List.foldl_append,List.getD_eq_getElem?_getD,List.getElem?_eq_getElem h]
 rfl
def befT (tf:List UInt8→Int) (ps:List Pm) (j:Nat):Int:=bindT tf (ps.take j) (ps.getD j pd).name
def BefOk (w:World) (b nb:Nat) (tf:List UInt8→Int) (ps:List Pm) (e:Ending) (w':World):Prop:=
 ∃ g vs,e=.returned (.slice (some ⟨g,0,none⟩) ps.length ps.length)∧w.heap.size≤g∧vs.length=ps.length∧Bk w' g 35 vs∧(∀ j,j<ps.length→vs[j]?=some (.int .i64 (befT tf ps j)))∧Tn w' b (nb+ps.length) (bindT tf ps)∧ButS (·=b) w w'
theorem Try.infoTy:(Try.prog.info? 35).map (fun i=>(i.zero,i.size,i.bytes))=some (some (.int .i64 0),1,8):=by kernel_rfl
theorem Try.undTs:Try.prog.underlying 86=some (.slice 35):=by kernel_rfl
def PqW (w:World) (A:Nat→Prop) (ao:Option Addr) (ps:List Pm):Prop:=ps=[]∨∃ g,ao=some ⟨g,0,none⟩∧A g∧g<w.heap.size∧∀ k,k<ps.length→∃ z:Int,w.rangeAt g (k*3) [.string (bs (ps.getD k pd).name),.int .i64 (ps.getD k pd).ty,.int .i64 z]
theorem PlW.q {w:World} {A:Nat→Prop} {ao:Option Addr} {ps:List Pm} (h:PlW w A ao ps):PqW w A ao ps:=by
 rcases h with h|⟨g,e,ha,hl,hr⟩
 ·exact .inl h
 ·refine .inr ⟨g,e,ha,hl,fun k hk=>⟨((ps.getD k pd).pos:Int),?_⟩⟩
  obtain⟨g',e',h'⟩:=PlW.at (.inr ⟨g,e,ha,hl,hr⟩) k hk
  rw[e] at e'
  cases e'
  exact h'
theorem PqW.keep {w w':World} {A:Nat→Prop} {ao:Option Addr} {ps:List Pm} (h:PqW w A ao ps) (hs:w.heap.size≤w'.heap.size) (hk:∀ b,A b→b<w.heap.size→w'.heap[b]?=w.heap[b]?):PqW w' A ao ps:=by
 rcases h with h|⟨g,e,ha,hl,hr⟩
 ·exact .inl h
 ·refine .inr ⟨g,e,ha,by omega,fun k hlt=>?_⟩
  obtain⟨z,hz⟩:=hr k hlt
  refine⟨z,fun j v hv=>?_⟩
  rw[show w'.cell? ⟨g,k*3+j,none⟩=w.cell? ⟨g,k*3+j,none⟩ from World.cell?_of_block (w:=w) (hk g ha hl)]
  exact hz j v hv
theorem PqW.up {w w':World} {A:Nat→Prop} {ao:Option Addr} {ps:List Pm} (h:PqW w A ao ps) (hb:Below w.heap.size w w'):PqW w' A ao ps:=h.keep hb.size fun b _ hl=>hb.block b hl
theorem PqW.at {w:World} {A:Nat→Prop} {ao:Option Addr} {ps:List Pm} (h:PqW w A ao ps) (k:Nat) (hk:k<ps.length):∃ g,∃ z:Int,ao=some ⟨g,0,none⟩∧w.rangeAt g (k*3) [.string (bs (ps.getD k pd).name),.int .i64 (ps.getD k pd).ty,.int .i64 z]:=by
 rcases h with h|⟨g,e,_,_,hr⟩
 ·rw[h] at hk;simp at hk
 ·obtain⟨z,hz⟩:=hr k hk
  exact⟨g,z,e,hz⟩
set_option maxHeartbeats 8000000 in
theorem bind7_any {w:World} {b nb:Nat} {tf:List UInt8→Int} (hT:Tn w b nb tf) {A:Nat→Prop} {ao:Option Addr} {cap:Nat} {ps:List Pm} (hP:PqW w A ao ps) (hA:∀ k,A k→k<w.heap.size∧k≠b) (hln:∀ p∈ps,p.name.length≤140737488355328) (hl:ps.length≤8796093022208) (hnb:nb≤17592186044416) :
  Calls Try.prog 30 #[.map (some b),.slice ao ps.length cap] w fun e w'=>BefOk w b nb tf ps e w':=by
 obtain⟨i0,hi,hz0,hz1,hz2⟩:=info_parts Try.infoTy
 have hmk:=run_make (P:=Try.prog) w 86 35 i0 (.int .i64 0) Try.undTs hi hz0 .i64 .i64 (ps.length:Int) (ps.length:Int) (by omega) (by omega) (by rw[hz2];omega) (by omega)
 simp only[Int.toNat_natCast] at hmk
 have hb0:=below_alloc w (.cells (madeCells (Value.int .i64 0).cells (ps.length*i0.size)) 35)
 have hB0:=Bk.new w 35 (madeCells (Value.int .i64 0).cells (ps.length*i0.size))
 have hsz:(madeCells (Value.int .i64 0).cells (ps.length*i0.size)).toList.length=ps.length:=by rw[Array.length_toList,size_madeCells,hz1];omega
 have hbw:b<w.heap.size:=hT.lt
 have hT0:=hT.up hb0
 have hP0:=hP.up hb0
 generalize w.alloc (.cells (madeCells (Value.int .i64 0).cells (ps.length*i0.size)) 35)=W at *
 generalize (madeCells (Value.int .i64 0).cells (ps.length*i0.size)).toList=vs0 at *
 clear hi hz0 hz1 hz2 hT hP
 go_enter Try.func30,Try.ntmps30
 go_wp2_with fail
 go_loopw [13] (fun v wr=>∃ (k:Nat) (vs:List Value),k≤ps.length∧v=.int .i64 k∧vs.length=ps.length∧Bk wr w.heap.size 35 vs∧Hid (∀ j,j<k→vs[j]?=some (.int .i64 (befT tf ps j)))∧Tn wr b (nb+k) (bindT tf (ps.take k))∧ButS (fun i=>i=b∨i=w.heap.size) W wr) (fun v _=>ps.length-(intOf v).toNat)
 case atStart=>exact⟨0,vs0,Nat.zero_le _,rfl,hsz,hB0,fun j h=>by omega,hT0,.refl _ _⟩
 case round=>
  obtain⟨k,vs,hkn,rfl,hvl,hBk,HV,hTk,hUk⟩:=hrel
  by_cases hlt:k<ps.length
  ·have hpk:PqW wr A ao ps:=hP0.keep hUk.size fun k h hl=>hUk.block k hl (by have:=hA k h;omega)
   obtain⟨g',z,rfl,hv⟩:=PqW.at hpk k hlt
   have hmem:ps.getD k pd∈ps:=by rw[List.getD_eq_getElem?_getD,List.getElem?_eq_getElem hlt];exact List.getElem_mem hlt
   have hln1:(ps.getD k pd).name.length≤140737488355328:=hln _ hmem
   have hst:=bindT_step tf ps k hlt
   have hbe:befT tf ps k=bindT tf (ps.take k) (ps.getD k pd).name:=rfl
   obtain⟨q,hq⟩:∃ q,q=ps.getD k pd:=⟨_,rfl⟩
   rw[← hq] at hv hln1 hst hbe
   clear hq hmem
   obtain⟨n1,t1,_⟩:=q
   dsimp only at hln1 hst hbe
   obtain⟨tk,htk⟩:∃ tk,tk=bindT tf (ps.take k):=⟨_,rfl⟩
   rw[← htk] at hst hTk hbe
   clear htk
   have HS:Hid (bindT tf (ps.take (k+1))=setT tk n1 t1∧befT tf ps k=tk n1):=⟨hst,hbe⟩
   obtain⟨d0,d1,d2⟩:=range3 (show wr.rangeAt g' (k*3) [.string (bs n1),.int .i64 t1,.int .i64 z] from hv)
   have hZ:=Bk.new wr 47 #[.string ⟨#[]⟩,.int .i64 0,.int .i64 0]
   have hwr:w.heap.size<wr.heap.size:=hBk.lt
   clear hst hbe hv
   go_upto_region 5 with (refine wpList_storeN rfl 47 (.tmp 7) (.tmp 17) rfl wr.heap.size 0 [.string (bs n1),.int .i64 t1,.int .i64 z] rfl rfl hZ (Nat.le_refl 3) Try.infoP3 (by intro v hv;simp only[List.mem_cons,List.not_mem_nil,or_false] at hv;rcases hv with rfl|rfl|rfl<;>rfl) ?_;intro w3 hV3 hO3)
   have hV3:Bk w3 wr.heap.size 47 [.string (bs n1),.int .i64 t1,.int .i64 z]:=hV3
   have hb3:Below wr.heap.size wr w3:=(below_alloc wr _).trans (hO3.below (Nat.le_refl _))
   have hT3:=hTk.up hb3
   have hB3:=hBk.up hb3
   clear hZ hO3 d0 d1 d2 hTk hBk
   have e0:w3.cell? ⟨wr.heap.size,0,none⟩=some (.string (bs n1)):=hV3.cell 0
   have e1:w3.cell? ⟨wr.heap.size,1,none⟩=some (.int .i64 t1):=hV3.cell 1
   obtain⟨x,hx⟩:∃ x,vs[k]?=some x:=⟨vs[k],List.getElem?_eq_getElem (by omega)⟩
   have e2:w3.cell? ⟨w.heap.size,k,none⟩=some x:=(hB3.cell k).trans hx
   have e3:=hB3.frz k
   have hml:n1.length≤maxLen:=by unfold maxLen;omega
   obtain⟨f,hM,hf⟩:=hT3
   have hr:=hM.look Try.underlying9 Try.undTn (zeroT w3) hml
   rw[hf n1] at hr
   have ho:=(Oth.refl w.heap.size w3).set k (.int .i64 (tk n1))
   have hB5:=hB3.set k (.int .i64 (tk n1))
   have hM5:=hM.block (w':=w3.setCell ⟨w.heap.size,k,none⟩ (.int .i64 (tk n1))) (ho.block b (by omega))
   have hV5:=hV3.oth ho (by omega)
   have q0:(w3.setCell ⟨w.heap.size,k,none⟩ (.int .i64 (tk n1))).cell? ⟨wr.heap.size,0,none⟩=some (.string (bs n1)):=hV5.cell 0
   have q1:(w3.setCell ⟨w.heap.size,k,none⟩ (.int .i64 (tk n1))).cell? ⟨wr.heap.size,1,none⟩=some (.int .i64 t1):=hV5.cell 1
   have HX:Hid ((∀ s,(f s).getD (.int .i64 0)=.int .i64 (tk s))∧ButS (fun i=>i=b∨i=w.heap.size) W w3∧Oth w.heap.size w3 (w3.setCell ⟨w.heap.size,k,none⟩ (.int .i64 (tk n1)))):=⟨hf,hUk.trans (.below hb3),ho⟩
   clear hf hM ho hV5 hUk
   go_wp2_with (first|(at_mapUpdate;refine wpList_put rfl _ _ _ rfl Try.underlying9 Try.undTn hM5 (by unfold maxLen;omega) hml _ rfl rfl rfl ?_;intro w6 hM6 hg6)|go_in)
   obtain⟨hf,hU3,ho⟩:=HX.out
   have hU6:ButS (·=b) (w3.setCell ⟨w.heap.size,k,none⟩ (.int .i64 (tk n1))) w6:=.grown hg6
   have hB6:=hU6.bk hB5 (by omega)
   have hUe:=(hU3.trans ((ButS.oth ho).mono fun i h=>.inr h)).trans (hU6.mono fun i h=>.inl h)
   go_roundw
   case rel=>
    refine⟨k+1,vs.set k (.int .i64 (tk n1)),by omega,by go_num,by rw[List.length_set];exact hvl,hB6,fun j hj=>?_,⟨_,hM6,fun r=>?_⟩,hUe⟩
    ·by_cases e:j=k
     ·subst e
      rw[List.getElem?_set_self (by omega),HS.out.2]
     ·rw[List.getElem?_set_ne (fun x=>e x.symm)]
      exact HV.out j (by omega)
    ·rw[HS.out.1]
     unfold putF setT
     by_cases e:r=n1
     ·rw[if_pos e,if_pos e];rfl
     ·rw[if_neg e,if_neg e];exact hf r
   case measure=>simp[intOf];omega
  ·have hke:k=ps.length:=by omega
   subst hke
   rw[List.take_length] at hTk
   have hUe:ButS (·=b) w wr:=⟨hUk.os.trans hb0.os,hUk.tape.trans hb0.tape,hUk.output.trans hb0.output,Nat.le_trans hb0.size hUk.size,fun i hi hn=>(hUk.block i (by have:=hb0.size;omega) (by omega)).trans (hb0.block i hi)⟩
   go_wp2_with fail
   go_ret
   exact⟨w.heap.size,vs,rfl,Nat.le_refl _,hvl,hBk,HV.out,hTk,hUe⟩
end Go.Proofs.Ytkbglnhdbnijlaa
namespace Go.Proofs.Ytkbglnhdbnijlaa
open Go.RowKit Go.Maps
set_option maxRecDepth 100000
def setF (ff:List UInt8→Option Fn1) (s:List UInt8) (g:Fn1):List UInt8→Option Fn1:=fun t=>if t=s then some g else ff t
def addF (ff:List UInt8→Option Fn1) (g:Fn1):List UInt8→Option Fn1:=match ff g.name with|some _=>ff|none=>setF ff g.name g
def funF (gs:List Fn1):List UInt8→Option Fn1:=gs.foldl addF fun _=>none
theorem funF_step (gs:List Fn1) (k:Nat) (h:k<gs.length):funF (gs.take (k+1))=addF (funF (gs.take k)) (gs.getD k fd):=by
 unfold funF
 rw[List.take_succ_eq_append_getElem h,List.foldl_append,List.getD_eq_getElem?_getD,List.getElem?_eq_getElem h]
 rfl
def NewFm (w:World) (A:Nat→Prop) (gs:List Fn1) (e:Ending) (w':World):Prop:=∃ m,e=.returned (.map (some m))∧w.heap.size≤m∧Fm w' A m gs.length (funF gs)∧Below w.heap.size w w'
set_option maxHeartbeats 8000000 in
theorem functionsOf_any {w:World} {A:Nat→Prop} {ao:Option Addr} {gs:List Fn1} {c:Nat} (hF:FlW w A ao gs) (hA:∀ k,A k→k<w.heap.size) (hln:∀ g∈gs,lnF g) (hgs:gs.length≤65536) :
  Calls Try.prog 20 #[.agg #[.slice ao gs.length c]] w fun e w'=>NewFm w A gs e w':=by
 have hb0:=below_alloc w (.cells #[.slice ao gs.length c] 26)
 have hL0:=Bk.new w 26 #[.slice ao gs.length c]
 have hmm:=@run_makeMap Try.prog
 go_enter Try.func20,Try.ntmps20
 go_upto_region 1 with fail
 generalize w.alloc (.cells #[.slice ao gs.length c] 26)=W at *
 have hMX:=MapW.made W Try.prog 9
 have hbX:=below_alloc W (.map #[] 0)
 go_upto_region 2 with fail
 obtain⟨X,hX⟩:∃ X,X=W.alloc (.map #[] 0):=⟨_,rfl⟩
 rw[← hX] at hMX hbX ⊢
 clear hX hmm
 obtain⟨m,hm⟩:∃ m,m=W.heap.size:=⟨_,rfl⟩
 have hwW:w.heap.size<W.heap.size:=hL0.lt
 rw[← hm] at hMX hwW ⊢
 have hbw:=Below.thn hb0 hbX
 have hLX:=hL0.up hbX
 have hFX:=hF.up hbw
 have hPX:Fm X A m 0 (fun _=>none):=⟨_,hMX,fun s=>rfl⟩
 have hA2:∀ k,A k→¬ (k=m):=fun k h=>by have:=hA k h;omega
 have c0:X.cell? ⟨w.heap.size,0,none⟩=some (.slice ao gs.length c):=hLX.cell 0
 clear hMX hbX hb0 hL0 hF hm
 go_wp2_with fail
 go_loopw [12] (fun v wr=>∃ k:Nat,k≤gs.length∧v=.int .i64 k∧Fm wr A m k (funF (gs.take k))∧ButS (·=m) X wr) (fun v _=>gs.length-(intOf v).toNat)
 case atStart=>exact⟨0,Nat.zero_le _,rfl,hPX,.refl _ _⟩
 case round=>
  obtain⟨k,hkn,rfl,hPk,hUk⟩:=hrel
  by_cases hlt:k<gs.length
  ·have HS:Hid (funF (gs.take (k+1))=addF (funF (gs.take k)) (gs.getD k fd)):=funF_step gs k hlt
   have hmem:gs.getD k fd∈gs:=by rw[List.getD_eq_getElem?_getD,List.getElem?_eq_getElem hlt];exact List.getElem_mem hlt
   have hFk:FlW wr A ao gs:=hFX.keep2 hUk.size fun k h hl=>hUk.block k hl (hA2 k h)
   obtain⟨g,vs,rfl,_,hv,hxv⟩:=hFk.at k hlt
   have hnl:(gs.getD k fd).name.length≤140737488355328:=(hln _ hmem).name
   obtain⟨G,hG⟩:∃ G,G=gs.getD k fd:=⟨_,rfl⟩
   rw[← hG] at hxv HS hnl
   clear hG hmem
   obtain⟨u0,u1,u2,u3,u4,u5,u6,u7,u8,u9,u10,rfl⟩:=list11 hxv.len
   obtain⟨d0,d1,d2,d3,d4,d5,d6,d7,d8,d9,d10⟩:=range11 hv
   have hZ:=Bk.new wr 42 #[.string ⟨#[]⟩,.slice none 0 0,.int .i64 0,.int .i64 0,.string ⟨#[]⟩,.string ⟨#[]⟩,.int .i64 0,.complex .f64 0 0,.slice none 0 0,.int .i64 0,.int .i64 0]
   have hone:∀ v∈[u0,u1,u2,u3,u4,u5,u6,u7,u8,u9,u10],v.oneCell'=true:=fnW_one hxv
   have hu0:u0=.string (bs G.name):=by obtain⟨_,_,_,e,_⟩:=hxv;exact (List.cons.inj e).1
   clear hv
   subst hu0
   go_upto_region 5 with (refine wpList_storeN rfl 42 (.tmp 5) (.tmp 15) rfl wr.heap.size 0 [.string (bs G.name),u1,u2,u3,u4,u5,u6,u7,u8,u9,u10] rfl rfl hZ (Nat.le_refl 11) Try.infoF11 hone ?_;intro w3 hV3 hO3)
   have hV3:Bk w3 wr.heap.size 42 [.string (bs G.name),u1,u2,u3,u4,u5,u6,u7,u8,u9,u10]:=hV3
   have hb3:Below wr.heap.size wr w3:=(below_alloc wr _).trans (hO3.below (Nat.le_refl _))
   have hx3:=FnW.up hxv hb3
   have hP3:=hPk.up hb3
   have hU3:=hUk.trans (.below hb3)
   have hwr:m<wr.heap.size:=by obtain⟨f,hM,_⟩:=hPk;exact hM.lt
   have e0:w3.cell? ⟨wr.heap.size,0,none⟩=some (.string (bs G.name)):=hV3.cell 0
   obtain⟨f,hM,hff⟩:=hP3
   have hml:G.name.length≤maxLen:=by unfold maxLen;omega
   have hfn:=hff G.name
   clear hZ hO3 hone d0 d1 d2 d3 d4 d5 d6 d7 d8 d9 d10 hxv hPk hUk
   obtain⟨ff,hfd⟩:∃ ff,ff=funF (gs.take k):=⟨_,rfl⟩
   rw[← hfd] at hff hfn HS
   clear hfd
   have hZ2:=Bk.new w3 42 #[.string ⟨#[]⟩,.slice none 0 0,.int .i64 0,.int .i64 0,.string ⟨#[]⟩,.string ⟨#[]⟩,.int .i64 0,.complex .f64 0 0,.slice none 0 0,.int .i64 0,.int .i64 0]
   cases hp:ff G.name with
   |some g2=>
    rw[hp] at hfn
    dsimp only at hfn
    obtain⟨us2,hus,hF2⟩:=hfn
    have hone2:=fnW_one hF2
    have hadd:addF ff G=ff:=by unfold addF;rw[hp]
    have hlk:∀ z,(f G.name).getD z=.agg us2.toArray:=fun z=>by rw[hus];rfl
    have hls:(f G.name).isSome=true:=by rw[hus];rfl
    have h11:us2.length=11:=hF2.len
    go_upto_region 6 with (first
     |(at_lookup;refine wpList_look_ok rfl _ _ rfl Try.underlying9 Try.undFm (zeroF _) hM hml rfl rfl ?_;rw[hlk,hls])
     |(refine wpList_storeN rfl 42 (.tmp 6) (.tmp 21) rfl w3.heap.size 0 us2 rfl rfl hZ2 (by rw[h11];exact Nat.le_refl 11) (by rw[h11];exact Try.infoF11) hone2 ?_;intro w4 hV4 hO4)
     |go_in)
    have hb4:Below w3.heap.size w3 w4:=(below_alloc w3 _).trans (hO4.below (Nat.le_refl _))
    have hP4:=(show Fm w3 A m k ff from ⟨f,hM,hff⟩).up hb4
    have hUe:=hU3.trans (.below hb4)
    clear hV4 hO4 hZ2 hM hff hlk hls e0
    go_wp2_with fail
    go_roundw
    case rel=>
     refine⟨k+1,by omega,by go_num,?_,hUe⟩
     rw[HS.out,hadd]
     obtain⟨f',h1,h2⟩:=hP4
     exact⟨f',h1.mono (by omega),h2⟩
    case measure=>simp[intOf];omega
   |none=>
    rw[hp] at hfn
    dsimp only at hfn
    have hadd:addF ff G=setF ff G.name G:=by unfold addF;rw[hp]
    have hlk:∀ z,(f G.name).getD z=z:=fun z=>by rw[hfn];rfl
    have hls:(f G.name).isSome=false:=by rw[hfn];rfl
    go_upto_region 6 with (first
     |(at_lookup;refine wpList_look_ok rfl _ _ rfl Try.underlying9 Try.undFm (zeroF _) hM hml rfl rfl ?_;rw[hlk,hls])
     |(refine wpList_storeN rfl 42 (.tmp 6) (.tmp 21) rfl w3.heap.size 0 [.string ⟨#[]⟩,.slice none 0 0,.int .i64 0,.int .i64 0,.string ⟨#[]⟩,.string ⟨#[]⟩,.int .i64 0,.complex .f64 0 0,.slice none 0 0,.int .i64 0,.int .i64 0] rfl rfl hZ2 (Nat.le_refl 11) Try.infoF11 (by intro v hv;simp only[List.mem_cons,List.not_mem_nil,or_false] at hv;rcases hv with rfl|rfl|rfl|rfl|rfl|rfl|rfl|rfl|rfl|rfl|rfl<;>rfl) ?_;intro w4 hV4 hO4)
     |go_in)
    have hb4:Below w3.heap.size w3 w4:=(below_alloc w3 _).trans (hO4.below (Nat.le_refl _))
    have hP4:=(show Fm w3 A m k ff from ⟨f,hM,hff⟩).up hb4
    have hV5:=hV3.up hb4
    have hx4:=FnW.up hx3 hb4
    have hU4:=hU3.trans (.below hb4)
    clear hV4 hO4 hZ2 hM hff hlk hls e0 hfn hV3 hx3 hU3
    obtain⟨v0,v1,v2,v3,v4,v5,v6,v7,v8,v9,v10⟩:=Bk.eleven (show Bk w4 wr.heap.size 42 [.string (bs G.name),u1,u2,u3,u4,u5,u6,u7,u8,u9,u10] from hV5)
    obtain⟨f4,hM4,hf4⟩:=hP4
    have HX:Hid ((∀ s,match ff s with|none=>f4 s=none|some g=>∃ us,f4 s=some (.agg us.toArray)∧FnW w4 A g us)∧FnW w4 A G [.string (bs G.name),u1,u2,u3,u4,u5,u6,u7,u8,u9,u10]∧ButS (·=m) X w4):=⟨hf4,hx4,hU4⟩
    clear hf4 hx4 hU4
    go_wp2_with (first|(at_mapUpdate;refine wpList_put rfl _ _ _ rfl Try.underlying9 Try.undFm hM4 (by unfold maxLen;omega) hml (.agg [.string (bs G.name),u1,u2,u3,u4,u5,u6,u7,u8,u9,u10].toArray) rfl rfl rfl ?_;intro w6 hM6 hg6)|go_in)
    obtain⟨hf4,hx4,hU4⟩:=HX.out
    have hU6:ButS (·=m) w4 w6:=.grown hg6
    have hUe:=hU4.trans hU6
    go_roundw
    case rel=>
     refine⟨k+1,by omega,by go_num,?_,hUe⟩
     rw[HS.out,hadd]
     refine⟨_,hM6,fun s=>?_⟩
     unfold setF putF
     by_cases e:s=G.name
     ·rw[if_pos e,if_pos e]
      exact⟨_,rfl,hx4.keep hU6.size fun b hb hl=>hU6.block b hl (hA2 b hb)⟩
     ·rw[if_neg e,if_neg e]
      have:=hf4 s
      cases hq:ff s with
      |none=>rw[hq] at this;exact this
      |some g0=>
       rw[hq] at this
       obtain⟨us,e1,e2⟩:=this
       exact⟨us,e1,e2.keep hU6.size fun b hb hl=>hU6.block b hl (hA2 b hb)⟩
    case measure=>simp[intOf];omega
  ·have hke:k=gs.length:=by omega
   subst hke
   rw[List.take_length] at hPk
   have hUe:Below w.heap.size w wr:=⟨hUk.os.trans hbw.os,hUk.tape.trans hbw.tape,hUk.output.trans hbw.output,Nat.le_trans hbw.size hUk.size,fun i hi=>(hUk.block i (by have:=hbw.size;omega) (by omega)).trans (hbw.block i hi)⟩
   go_wp2_with fail
   go_ret
   exact⟨m,rfl,by omega,hPk,hUe⟩
end Go.Proofs.Ytkbglnhdbnijlaa
namespace Go.Proofs.Ytkbglnhdbnijlaa
open Go.RowKit Go.Shelf Go.Maps
set_option maxRecDepth 100000
attribute [local go_sem] Oper.semAt_some
def dn (n:Nat):Nat→List (Fin n)
 |0=>[]
 |k+1=>if h:k<n then dn n k++[⟨n-1-k,by omega⟩] else dn n k
theorem dn_len (n:Nat):∀ k,k≤n→(dn n k).length=k
 |0,_=>rfl
 |k+1,h=>by rw[dn,dif_pos (by omega),List.length_append,dn_len n k (by omega)];rfl
theorem dn_step {n k:Nat} (h:k<n):dn n (k+1)=dn n k++[⟨n-1-k,by omega⟩]:=by rw[dn,dif_pos h]
def KpB (Bs:Nat) (ao:Option Addr) (ln:Nat) (A B:World):Prop:=B.heap[Bs]?=A.heap[Bs]?∧∀ g off,0<ln→ao=some ⟨g,off,none⟩→B.heap[g]?=A.heap[g]?
theorem KpB.trans {Bs:Nat} {ao:Option Addr} {ln:Nat} {A B C:World} (h:KpB Bs ao ln A B) (k:KpB Bs ao ln B C):KpB Bs ao ln A C:=⟨k.1.trans h.1,fun g off l e=>(k.2 g off l e).trans (h.2 g off l e)⟩
def pmAt (ps:List Pm) (x:Fin ps.length):Pm:=ps.getD x.1 pd
def encP (ps:List Pm) (x:Fin ps.length):Array Value:=#[.int .i64 (x.1:Int),.agg #[.string (bs (pmAt ps x).name),.int .i64 (pmAt ps x).ty,.int .i64 (pmAt ps x).pos]]
set_option maxHeartbeats 4000000 in
theorem back1_in (F:Fence) (n:Nat) (hF:F.fn 85) (hro:F.round=none) (hn:1≤n) (l Bs:Nat) (ao:Option Addr) (cap:Nat) (ps:List Pm) (A:Nat→Prop) (hl:ps.length≤65536) (J Jx:List (Fin ps.length)→World→Prop)
  (hY:∀ pre x W,J pre W→pre.length<ps.length→YieldAt F (n-1) Try.prog l (encP ps x) W fun e W'=>(e=.returned (.bool true)∧J (pre++[x]) W'∧KpB Bs ao ps.length W W')∨(e=.returned (.bool false)∧Jx (pre++[x]) W'))
  (W:World) (hBs:Bk W Bs 34 [.slice ao ps.length cap]) (hP:PlW W A ao ps) (h0:J [] W) :
  CallsIn F n Try.prog 85 #[.func (.yield l) #[] #[],.pointer (some ⟨Bs,0,none⟩)] W fun e W'=>(∃ v,e=.returned v)∧((∃ ys,ys=dn ps.length ps.length∧J ys W')∨(∃ pre,True∧Jx pre W')):=by
 have c0:W.cell? ⟨Bs,0,none⟩=some (.slice ao ps.length cap):=hBs.cell 0
 refine callsIn_of_wp Try.func85 rfl hF ?_ hro
 simp only[Try.ntmps85,List.size_toArray,List.length_cons,List.length_nil,Nat.reduceAdd,Nat.reduceSub,Array.replicate_succ,Array.replicate_zero,List.push_toArray,List.append_toArray,List.nil_append,List.cons_append]
 gi_wp2
 gi_loopw [3] (fun i wr=>∃ k:Nat,k≤ps.length∧i=.int .i64 ((ps.length:Int)-1-k)∧J (dn ps.length k) wr∧KpB Bs ao ps.length W wr) (fun i _=>(intOf i+1).toNat)
 case atStart=>exact⟨0,Nat.zero_le _,by simp,h0,rfl,fun _ _ _ _=>rfl⟩
 case round=>
  obtain⟨k,hk,rfl,hJs,hnx⟩:=hrel
  have hBr:Bk wr Bs 34 [.slice ao ps.length cap]:=hnx.1.trans hBs
  have c0:wr.cell? ⟨Bs,0,none⟩=some (.slice ao ps.length cap):=hBr.cell 0
  by_cases hlt:k<ps.length
  ·obtain⟨i,hi⟩:∃ i,i=ps.length-1-k:=⟨_,rfl⟩
   have hil:i<ps.length:=by omega
   have e:(ps.length:Int)-1-(k:Int)=(i:Int):=by omega
   rw[e]
   obtain⟨g,rfl,hv0⟩:=PlW.at hP i hil
   have hv:wr.rangeAt g (i*3) (pmC (ps.getD i pd)):=range_keep hv0 (by simp[pmC]) fun _=>hnx.2 g 0 (by omega) rfl
   obtain⟨fn,tmps,assign,body,hy,hR⟩:=hY _ ⟨i,hil⟩ wr hJs (by rw[dn_len _ _ hk];exact hlt)
   unfold encP pmAt at hy
   dsimp only at hy
   obtain⟨q,hq⟩:∃ q,q=ps.getD i pd:=⟨_,rfl⟩
   rw[← hq] at hy hv
   clear hq
   obtain⟨n1,t1,s1⟩:=q
   dsimp only at hy
   obtain⟨d0,d1,d2⟩:=range3 (show wr.rangeAt g (i*3) [.string (bs n1),.int .i64 t1,.int .i64 s1] from hv)
   have hdn:dn ps.length (k+1)=dn ps.length k++[⟨i,hil⟩]:=by rw[dn_step hlt];simp[hi]
   rw[← hdn] at hR
   have HI:Hid (i=ps.length-1-k):=hi
   clear hdn hv hv0 hBr hi e
   gi_wp2
   refine hR.mono ?_
   rintro e W3 (⟨rfl,hJ3,hk3⟩|⟨rfl,hJx3⟩)
   ·gi_wp2
    go_roundw
    case rel=>exact⟨k+1,by omega,by (have:=HI.out;first|(congr 1;omega)|(simp;omega)),hJ3,hnx.trans hk3⟩
    case measure=>simp[intOf]
   ·gi_wp2
    refine bodyPost_ret (results_none rfl _ _ _) rfl ?_
    exact⟨⟨_,rfl⟩,.inr ⟨_,trivial,hJx3⟩⟩
  ·obtain rfl:k=ps.length:=by omega
   have g1:decide ((0:Int)≤(ps.length:Int)-1-(ps.length:Int))=false:=by simp;omega
   gi_wp2
   go_end0
   exact⟨⟨_,rfl⟩,.inl ⟨_,rfl,hJs⟩⟩
set_option maxHeartbeats 1000000 in
theorem back_in (F:Fence) (n:Nat) (hF:F.fn 75) (hro:F.round=none) (ao:Option Addr) (len cap:Nat) (w:World) :
  CallsIn F n Try.prog 75 #[.slice ao len cap] w fun e w'=>e=.returned (.func (.func 85) #[] #[.pointer (some ⟨w.heap.size,0,none⟩)])∧w'=w.alloc (.cells #[.slice ao len cap] 34):=by
 refine callsIn_of_wp Try.func75 rfl hF ?_ hro
 simp only[Try.ntmps75,List.size_toArray,List.length_cons,List.length_nil,Nat.reduceAdd,Nat.reduceSub,Array.replicate_succ,Array.replicate_zero,List.push_toArray,List.append_toArray,List.nil_append,List.cons_append]
 gi_wp2
 go_ret
 exact⟨rfl,rfl⟩
theorem back_stops (F:Fence) (n:Nat) (hF:F.fn 85) (hro:F.round=none) (hn:1≤n) (Bs:Nat) (ao:Option Addr) (cap:Nat) (ps:List Pm) (A:Nat→Prop) (hl:ps.length≤65536) (w:World) (hBs:Bk w Bs 34 [.slice ao ps.length cap]) (hP:PlW w A ao ps) :
  SeqStopsK F n Try.prog 85 #[.pointer (some ⟨Bs,0,none⟩)] (encP ps) (KpB Bs ao ps.length) (fun ys=>ys=dn ps.length ps.length) (fun _=>True) ps.length w:=fun l J Jx W hW _ _ hY h0=>
 back1_in F n hF hro hn l Bs ao cap ps A hl J Jx hY W (hBs.up hW) (hP.up hW) h0
end Go.Proofs.Ytkbglnhdbnijlaa
