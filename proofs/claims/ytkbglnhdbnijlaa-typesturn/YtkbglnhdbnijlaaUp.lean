/-
  3 texts in one: what each proves stands at its head.
-/
import Derived.Test.YtkbglnhdbnijlaaUo
namespace Go.Proofs.Ytkbglnhdbnijlaa
open Go.RowKit Go.Maps
set_option maxRecDepth 100000
def lkL (ff:List UInt8→Option Fn1) (gs:List Fn1) (p:Int × Int):Int × Int:=gs.foldl (fun p g=>lkT ff g.pms g.body g.ty p) p
theorem lkL_step (ff:List UInt8→Option Fn1) (gs:List Fn1) (k:Nat) (h:k<gs.length) (p:Int × Int):lkL ff (gs.take (k+1)) p=lkT ff (gs.getD k fd).pms (gs.getD k fd).body (gs.getD k fd).ty (lkL ff (gs.take k) p):=by
 unfold lkL
 rw[List.take_succ_eq_append_getElem h,List.foldl_append,List.getD_eq_getElem?_getD,List.getElem?_eq_getElem h]
 rfl
def tyP (gs:List Fn1):Int × Int:=if (scP gs).1=0 then lkL (funF gs) gs (0,0) else scP gs
theorem fin2 {w X:World} {r:Nat} {y z:Value} (hR:Bk X r 31 [y,z]) (hb:Below w.heap.size w X) (hr:w.heap.size≤r) (a b:Value) :
  ((X.setCell ⟨r,0,none⟩ a).setCell ⟨r,1,none⟩ b).cell? ⟨r,0,none⟩=some a∧((X.setCell ⟨r,0,none⟩ a).setCell ⟨r,1,none⟩ b).cell? ⟨r,1,none⟩=some b∧Below w.heap.size w ((X.setCell ⟨r,0,none⟩ a).setCell ⟨r,1,none⟩ b):=by
 have hRe:=Bk.set (Bk.set hR 0 a) 1 b
 have ho:Oth r X ((X.setCell ⟨r,0,none⟩ a).setCell ⟨r,1,none⟩ b):=((Oth.refl _ X).set 0 _).set 1 _
 exact⟨hRe.cell 0,hRe.cell 1,ho.os.trans hb.os,ho.tape.trans hb.tape,ho.output.trans hb.output,by rw[ho.size];exact hb.size,fun k hk=>(ho.block k (by omega)).trans (hb.block k hk)⟩
set_option maxHeartbeats 8000000 in
theorem typesCheck_any {w:World} {A:Nat→Prop} {ao:Option Addr} {gs:List Fn1} {c:Nat} (hF:FlW w A ao gs) (hA:∀ k,A k→k<w.heap.size) (hln:∀ g∈gs,lnF g) (hsz:∀ g∈gs,szE g.body≤65536) (hps:∀ g∈gs,g.pms.length≤65536) (hgs:gs.length≤65536) :
  Calls Try.prog 10 #[.agg #[.slice ao gs.length c]] w fun e w'=>e=.returned (.agg #[.int .i64 (tyP gs).1,.int .i64 (tyP gs).2])∧Below w.heap.size w w':=by
 have hb0:=below_two w (.cells #[.slice ao gs.length c] 26) (.cells #[.int .i64 0,.int .i64 0] 31)
 have hL0:=(Bk.new w 26 #[.slice ao gs.length c]).up (below_alloc _ (.cells #[.int .i64 0,.int .i64 0] 31))
 have hR0:=Bk.newAt (w:=w.alloc (.cells #[.slice ao gs.length c] 26)) (n:=w.heap.size+1) 31 #[.int .i64 0,.int .i64 0] (by simp)
 go_enter Try.func10,Try.ntmps10
 go_upto_region 1 with fail
 obtain⟨W,hW⟩:∃ W,W=(w.alloc (.cells #[.slice ao gs.length c] 26)).alloc (.cells #[.int .i64 0,.int .i64 0] 31):=⟨_,rfl⟩
 rw[← hW] at hb0 hL0 hR0 ⊢
 clear hW
 have hwW:w.heap.size+1<W.heap.size:=hR0.lt
 have c0:W.cell? ⟨w.heap.size,0,none⟩=some (.slice ao gs.length c):=hL0.cell 0
 have hsc:=scopeCheck_any (c:=c) (hF.up hb0) (fun k h=>by have:=hA k h;omega) hln hsz hps hgs
 obtain⟨q,hq⟩:∃ q,q=scP gs:=⟨_,rfl⟩
 have HQ:Hid (q=scP gs):=hq
 rw[← hq] at hsc
 clear hq
 obtain⟨qy,qa⟩:=q
 dsimp only at hsc
 go_wp2_with fail
 refine hsc.mono ?_
 rintro e w1 ⟨rfl,hb1⟩
 have hB1:=Below.thn hb0 hb1
 have hL1:=hL0.up hb1
 have hR1:=hR0.up hb1
 have hw1:=hb1.size
 have hS1:=Bk.new w1 31 #[.int .i64 qy,.int .i64 qa]
 clear hsc hb0 hb1 hL0 hR0 c0
 go_upto_region 2 with fail
 have hb2:=below_alloc w1 (.cells #[.int .i64 qy,.int .i64 qa] 31)
 have hB2:=Below.thn hB1 hb2
 have hL2:=hL1.up hb2
 have hR2:=hR1.up hb2
 clear hL1 hR1
 generalize w1.alloc (.cells #[.int .i64 qy,.int .i64 qa] 31)=w2 at *
 have s0:w2.cell? ⟨w1.heap.size,0,none⟩=some (.int .i64 qy):=hS1.cell 0
 have s1:w2.cell? ⟨w1.heap.size,1,none⟩=some (.int .i64 qa):=hS1.cell 1
 have r0:w2.cell? ⟨w.heap.size+1,0,none⟩=some (.int .i64 0):=hR2.cell 0
 have r1:w2.cell? ⟨w.heap.size+1,1,none⟩=some (.int .i64 0):=hR2.cell 1
 have f0:=hR2.frz 0
 have f1:=hR2.frz 1
 have hw2:=hb2.size
 by_cases hy:qy=0
 ·subst hy
  have HE:Hid (tyP gs=lkL (funF gs) gs (0,0)):=by
   unfold Hid tyP
   rw[← HQ.out]
   exact if_pos rfl
  have c0:w2.cell? ⟨w.heap.size,0,none⟩=some (.slice ao gs.length c):=hL2.cell 0
  have hfo:=functionsOf_any (c:=c) (hF.up hB2) (fun k h=>by have:=hA k h;omega) hln hgs
  clear s1 r0 r1 f0 f1 HQ
  go_wp2_with fail
  refine hfo.mono ?_
  rintro e w3 ⟨m,rfl,hm3,hM3,hb3⟩
  have hB3:=Below.thn hB2 hb3
  have hL3:=hL2.up hb3
  have hR3:=hR2.up hb3
  have hw3:=hb3.size
  clear hfo hL2 hR2 s0 c0 hS1
  go_upto_region 5 with fail
  have hb4:=below_alloc w3 (.cells #[.map (some m),.map none,.int .i64 0,.int .i64 0] 64)
  have hC4:Ct (w3.alloc (.cells #[.map (some m),.map none,.int .i64 0,.int .i64 0] 64)) w3.heap.size m (.map none) (0,0):=Bk.new w3 64 #[.map (some m),.map none,.int .i64 0,.int .i64 0]
  have hB4:=Below.thn hB3 hb4
  have hL4:=hL3.up hb4
  have hR4:=hR3.up hb4
  have hM4:=hM3.up hb4
  have hF4:=hF.up hB4
  have hmw:m<w3.heap.size:=by obtain⟨f,h,_⟩:=hM3;exact h.lt
  have hw4:=hb4.size
  clear hL3 hR3 hM3 hF
  generalize w3.alloc (.cells #[.map (some m),.map none,.int .i64 0,.int .i64 0] 64)=w4 at *
  obtain⟨bc,hbc⟩:∃ bc,bc=w3.heap.size:=⟨_,rfl⟩
  rw[← hbc] at hC4 hmw hw4 hw3 ⊢
  clear hbc hb4 hb3 hb2
  obtain⟨ff,hff⟩:∃ ff,ff=funF gs:=⟨_,rfl⟩
  rw[← hff] at hM4 HE
  clear hff
  have hAb:∀ k,A k→k≠bc:=fun k h=>by have:=hA k h;omega
  have c0:w4.cell? ⟨w.heap.size,0,none⟩=some (.slice ao gs.length c):=hL4.cell 0
  go_wp2_with fail
  go_loopw [19] (fun v wr=>∃ (k:Nat) (nv:Value),k≤gs.length∧v=.int .i64 k∧Ct wr bc m nv (lkL ff (gs.take k) (0,0))∧ButS (·=bc) w4 wr) (fun v _=>gs.length-(intOf v).toNat)
  case atStart=>exact⟨0,.map none,Nat.zero_le _,rfl,hC4,.refl _ _⟩
  case round=>
   obtain⟨k,nv,hkn,rfl,hCk,hUk⟩:=hrel
   by_cases hlt:k<gs.length
   ·have HS:Hid (lkL ff (gs.take (k+1)) (0,0)=lkT ff (gs.getD k fd).pms (gs.getD k fd).body (gs.getD k fd).ty (lkL ff (gs.take k) (0,0))):=lkL_step ff gs k hlt _
    have hmem:gs.getD k fd∈gs:=by rw[List.getD_eq_getElem?_getD,List.getElem?_eq_getElem hlt];exact List.getElem_mem hlt
    have hFk:FlW wr A ao gs:=hF4.keep2 hUk.size fun k h hl=>hUk.block k hl (hAb k h)
    have hMk:=hM4.but hUk (by omega) hAb
    obtain⟨g,vs,rfl,_,hv,hxv⟩:=hFk.at k hlt
    have hone:=fnW_one hxv
    obtain⟨G,hG⟩:∃ G,G=gs.getD k fd:=⟨_,rfl⟩
    have hlG:=hln _ hmem
    have hsG:=hsz _ hmem
    have hpG:=hps _ hmem
    obtain⟨rk,hrk⟩:∃ rk,rk=lkL ff (gs.take k) (0,0):=⟨_,rfl⟩
    rw[← hrk] at hCk HS
    rw[← hG] at hxv HS hlG hsG hpG
    clear hG hmem hrk
    obtain⟨ap,cp,es,rfl,hp1,he1⟩:=hxv
    obtain⟨x0,x1,x2,x3,x4,x5,x6,rfl⟩:=list7 he1.len
    simp only[List.cons_append,List.nil_append] at hv hone
    obtain⟨d0,d1,d2,d3,d4,d5,d6,d7,d8,d9,d10⟩:=range11 hv
    have hZ:=Bk.new wr 42 #[.string ⟨#[]⟩,.slice none 0 0,.int .i64 0,.int .i64 0,.string ⟨#[]⟩,.string ⟨#[]⟩,.int .i64 0,.complex .f64 0 0,.slice none 0 0,.int .i64 0,.int .i64 0]
    clear hv
    go_upto_region 8 with (refine wpList_storeN rfl 42 (.tmp 6) (.tmp 22) rfl wr.heap.size 0 [.string (bs G.name),.slice ap G.pms.length cp,.int .i64 G.ty,x0,x1,x2,x3,x4,x5,x6,.int .i64 G.pos] rfl rfl hZ (Nat.le_refl 11) Try.infoF11 hone ?_;intro w5 hV5 hO5)
    have hV5:Bk w5 wr.heap.size 42 [.string (bs G.name),.slice ap G.pms.length cp,.int .i64 G.ty,x0,x1,x2,x3,x4,x5,x6,.int .i64 G.pos]:=hV5
    have hb5:Below wr.heap.size wr w5:=(below_alloc wr _).trans (hO5.below (Nat.le_refl _))
    have hp5:=hp1.up hb5
    have he5:=he1.up hb5
    have hC5:=hCk.up hb5
    have hM5:=hMk.up hb5
    have hw5:=hb5.size
    have hwr:=hUk.size
    obtain⟨v0,v1,v2,v3,v4,v5,v6,v7,v8,v9,v10⟩:=Bk.eleven (show Bk w5 wr.heap.size 42 [_,_,_,_,_,_,_,_,_,_,_] from hV5)
    clear hZ hO5 hone d0 d1 d2 d3 d4 d5 d6 d7 d8 d9 d10 hCk hMk hFk hp1 he1 hV5
    have hAw:∀ k,A k→k<w5.heap.size∧k≠bc:=fun k h=>⟨by have:=hA k h;omega,hAb k h⟩
    have hd:=look7_any hC5 hM5 (by omega) (by omega) hAw (cap:=cp) hp5.q hAw he5 hAw hlG.body (by omega) (fun p h=>(hlG.pms p h).1) (by omega) G.ty
    go_wp2_with fail
    refine hd.mono ?_
    rintro e w6 ⟨rfl,⟨nv6,hC6⟩,hU6⟩
    rw[← HS.out] at hC6
    have hUe:=(hUk.trans (.below hb5)).trans hU6
    clear hd v0 v1 v2 v3 v4 v5 v6 v7 v8 v9 v10
    go_wp2_with fail
    go_roundw
    case rel=>exact⟨k+1,nv6,by omega,by go_num,hC6,hUe⟩
    case measure=>simp[intOf];omega
   ·have hke:k=gs.length:=by omega
    subst hke
    rw[List.take_length] at hCk
    obtain⟨⟨py,pa⟩,hp⟩:∃ p,p=lkL ff gs (0,0):=⟨_,rfl⟩
    rw[← hp] at hCk HE
    clear hp
    have hRk:=hUk.bk hR4 (by omega)
    have c1:wr.cell? ⟨bc,2,none⟩=some (.int .i64 py):=hCk.cell 2
    have c2:wr.cell? ⟨bc,3,none⟩=some (.int .i64 pa):=hCk.cell 3
    have r0:wr.cell? ⟨w.heap.size+1,0,none⟩=some (.int .i64 0):=hRk.cell 0
    have r1:wr.cell? ⟨w.heap.size+1,1,none⟩=some (.int .i64 0):=hRk.cell 1
    have f0:=hRk.frz 0
    have f1:=hRk.frz 1
    have hBw:Below w.heap.size w wr:=⟨hUk.os.trans hB4.os,hUk.tape.trans hB4.tape,hUk.output.trans hB4.output,Nat.le_trans hB4.size hUk.size,fun k hk=>(hUk.block k (by have:=hB4.size;omega) (by omega)).trans (hB4.block k hk)⟩
    obtain⟨q0,q1,HB⟩:=fin2 hRk hBw (by omega) (.int .i64 py) (.int .i64 pa)
    have HB:Hid (Below w.heap.size w ((wr.setCell ⟨w.heap.size+1,0,none⟩ (.int .i64 py)).setCell ⟨w.heap.size+1,1,none⟩ (.int .i64 pa))):=HB
    clear hCk hUk hRk hBw
    go_wp2_with fail
    exact bodyPost_ret (v:=.agg #[.int .i64 py,.int .i64 pa]) (by simp[results,Try.results10,go_sem,q0,q1]) rfl ⟨by rw[HE.out],HB.out⟩
 ·have g:(qy==0)=false:=by simpa using hy
  have e:tyP gs=(qy,qa):=by
   unfold tyP
   rw[← HQ.out]
   exact if_neg hy
  obtain⟨q0,q1,HB⟩:=fin2 hR2 hB2 (by omega) (.int .i64 qy) (.int .i64 qa)
  have HB:Hid (Below w.heap.size w ((w2.setCell ⟨w.heap.size+1,0,none⟩ (.int .i64 qy)).setCell ⟨w.heap.size+1,1,none⟩ (.int .i64 qa))):=HB
  have HE:Hid (tyP gs=(qy,qa)):=e
  clear e HQ
  go_wp2_with fail
  exact bodyPost_ret (v:=.agg #[.int .i64 qy,.int .i64 qa]) (by simp[results,Try.results10,go_sem,q0,q1]) rfl ⟨by rw[HE.out],HB.out⟩
end Go.Proofs.Ytkbglnhdbnijlaa
namespace Go.Proofs.Ytkbglnhdbnijlaa
open Go.RowKit Go.Maps
set_option maxRecDepth 100000
def ofP (ff:List UInt8→Option Fn1) (ps:List Pm) (x:Ex):Int × Int:=if (lkT ff ps x 1 (0,0)).1=0 then (1,0) else if (lkT ff ps x 2 (0,0)).1=0 then (2,0) else if (lkT ff ps x 3 (0,0)).1=0 then (3,0) else (0,34)
section
variable (w:World)
theorem idx0:(Instr.index 70 (.agg #[.int .i64 1,.int .i64 2,.int .i64 3]) (.int .i64 0)).run Try.prog w=.ok (.int .i64 1) w:=by kernel_rfl
theorem idx1:(Instr.index 70 (.agg #[.int .i64 1,.int .i64 2,.int .i64 3]) (.int .i64 1)).run Try.prog w=.ok (.int .i64 2) w:=by kernel_rfl
theorem idx2:(Instr.index 70 (.agg #[.int .i64 1,.int .i64 2,.int .i64 3]) (.int .i64 2)).run Try.prog w=.ok (.int .i64 3) w:=by kernel_rfl
end
set_option maxHeartbeats 8000000 in
theorem typesOf_any {w:World} {A:Nat→Prop} {ao:Option Addr} {gs:List Fn1} {c:Nat} (hF:FlW w A ao gs) (hA:∀ k,A k→k<w.heap.size) (hln:∀ g∈gs,lnF g) (hgs:gs.length≤65536) {Ap:Nat→Prop} {ap:Option Addr} {cap:Nat} {ps:List Pm} (hP:PqW w Ap ap ps) (hAp:∀ k,Ap k→k<w.heap.size)
  {Ax:Nat→Prop} {x:Ex} {us:List Value} (hx:ExW w Ax x us) (hAx:∀ k,Ax k→k<w.heap.size) (hw:lnE x) (hsz:szE x≤1048576) (hlp:∀ p∈ps,p.name.length≤140737488355328) (hl:ps.length≤8796093022208) :
  Calls Try.prog 13 #[.agg #[.slice ao gs.length c],.slice ap ps.length cap,.agg us.toArray] w fun e w'=>e=.returned (.tuple #[.int .i64 (ofP (funF gs) ps x).1,.int .i64 (ofP (funF gs) ps x).2])∧Below w.heap.size w w':=by
 obtain⟨u0,u1,u2,u3,u4,u5,u6,rfl⟩:=list7 hx.len
 have hb0:=below_two w (.cells #[.slice ao gs.length c] 26) (.cells #[u0,u1,u2,u3,u4,u5,u6] 40)
 have hL0:=(Bk.new w 26 #[.slice ao gs.length c]).up (below_alloc _ (.cells #[u0,u1,u2,u3,u4,u5,u6] 40))
 have hX0:=Bk.newAt (w:=w.alloc (.cells #[.slice ao gs.length c] 26)) (n:=w.heap.size+1) 40 #[u0,u1,u2,u3,u4,u5,u6] (by simp)
 go_enter Try.func13,Try.ntmps13
 go_upto_region 1 with fail
 obtain⟨W,hW⟩:∃ W,W=(w.alloc (.cells #[.slice ao gs.length c] 26)).alloc (.cells #[u0,u1,u2,u3,u4,u5,u6] 40):=⟨_,rfl⟩
 rw[← hW] at hb0 hL0 hX0 ⊢
 clear hW
 have hwW:w.heap.size+1<W.heap.size:=hX0.lt
 have c0:W.cell? ⟨w.heap.size,0,none⟩=some (.slice ao gs.length c):=hL0.cell 0
 have hfo:=functionsOf_any (c:=c) (hF.up hb0) (fun k h=>by have:=hA k h;omega) hln hgs
 obtain⟨ff,hff⟩:∃ ff,ff=funF gs:=⟨_,rfl⟩
 have HE:Hid (ofP (funF gs) ps x=ofP ff ps x):=by rw[hff];rfl
 go_wp2_with fail
 refine hfo.mono ?_
 rintro e w2 ⟨m,rfl,hm2,hM2,hb2⟩
 rw[← hff] at hM2
 have hBw:=Below.thn hb0 hb2
 have hX2:=hX0.up hb2
 have hP2:=hP.up hBw
 have hx2:=hx.up hBw
 have hw2:=hb2.size
 have hmw:m<w2.heap.size:=by obtain⟨f,h,_⟩:=hM2;exact h.lt
 clear hfo hff hb0 hb2 hL0 hX0 c0 hF hP hx
 go_wp2_with fail
 go_loopw [15] (fun v wr=>∃ kv:Int,v=.int .i64 kv∧(kv=0∨(kv=1∧(lkT ff ps x 1 (0,0)).1≠0)∨(kv=2∧(lkT ff ps x 1 (0,0)).1≠0∧(lkT ff ps x 2 (0,0)).1≠0)∨(kv=3∧(lkT ff ps x 1 (0,0)).1≠0∧(lkT ff ps x 2 (0,0)).1≠0∧(lkT ff ps x 3 (0,0)).1≠0))∧Below w2.heap.size w2 wr) (fun v _=>3-(intOf v).toNat)
 case atStart=>exact⟨0,rfl,.inl rfl,Below.refl _ _⟩
 case round=>
  obtain⟨kv,rfl,hcs,hBk⟩:=hrel
  rcases hcs with rfl|⟨rfl,hn1⟩|⟨rfl,hn1,hn2⟩|⟨rfl,hn1,hn2,hn3⟩
  ·have hb3:=below_alloc wr (.cells #[.map (some m),.map none,.int .i64 0,.int .i64 0] 64)
   have hC3:Ct (wr.alloc (.cells #[.map (some m),.map none,.int .i64 0,.int .i64 0] 64)) wr.heap.size m (.map none) (0,0):=Bk.new wr 64 #[.map (some m),.map none,.int .i64 0,.int .i64 0]
   have hB3:=Below.thn hBk hb3
   have hw3:=hb3.size
   have hwk:=hBk.size
   have hid:=idx0 wr
   go_upto_region 6 with fail
   clear hid
   generalize wr.alloc (.cells #[.map (some m),.map none,.int .i64 0,.int .i64 0] 64)=w3 at *
   obtain⟨c0,c1,c2,c3,c4,c5,c6⟩:=Bk.seven (show Bk w3 (w.heap.size+1) 40 [_,_,_,_,_,_,_] from hX2.up hB3)
   have hd:=look7_any hC3 (hM2.up hB3) (by omega) (by omega) (fun k h=>by have:=hA k h;omega) (cap:=cap) (hP2.up hB3) (fun k h=>by have:=hAp k h;omega) (hx2.up hB3) (fun k h=>by have:=hAx k h;omega) hw hsz hlp hl 1
   go_wp2_with fail
   refine hd.mono ?_
   rintro e w4 ⟨rfl,⟨nv4,hC4⟩,hU4⟩
   have hBe:Below w2.heap.size w2 w4:=⟨hU4.os.trans hB3.os,hU4.tape.trans hB3.tape,hU4.output.trans hB3.output,Nat.le_trans hB3.size hU4.size,fun k hk=>(hU4.block k (by have:=hB3.size;omega) (by omega)).trans (hB3.block k hk)⟩
   obtain⟨⟨py,pa⟩,hp⟩:∃ p,p=lkT ff ps x 1 (0,0):=⟨_,rfl⟩
   have HY:Hid ((lkT ff ps x 1 (0,0)).1=py):=by rw[← hp];rfl
   rw[← hp] at hC4
   have e0:w4.cell? ⟨wr.heap.size,2,none⟩=some (.int .i64 py):=hC4.cell 2
   clear hd c0 c1 c2 c3 c4 c5 c6 hp hC3 hC4
   by_cases hy:py=0
   ·subst hy
    have HE2:Hid (ofP ff ps x=(1,0)):=by
     unfold Hid ofP
     rw[if_pos HY.out]
    have HB:Hid (Below w.heap.size w w4):=Below.thn hBw hBe
    go_wp2_with fail
    go_ret2
    exact⟨by rw[HE.out,HE2.out];rfl,HB.out⟩
   ·have g:(py==0)=false:=by simpa using hy
    have hn1:(lkT ff ps x 1 (0,0)).1≠0:=by rw[HY.out];exact hy
    go_wp2_with fail
    go_roundw
    case rel=>exact⟨1,by first|rfl|go_num,.inr (.inl ⟨rfl,hn1⟩),hBe⟩
    case measure=>simp[intOf]
  ·have hb3:=below_alloc wr (.cells #[.map (some m),.map none,.int .i64 0,.int .i64 0] 64)
   have hC3:Ct (wr.alloc (.cells #[.map (some m),.map none,.int .i64 0,.int .i64 0] 64)) wr.heap.size m (.map none) (0,0):=Bk.new wr 64 #[.map (some m),.map none,.int .i64 0,.int .i64 0]
   have hB3:=Below.thn hBk hb3
   have hw3:=hb3.size
   have hwk:=hBk.size
   have hid:=idx1 wr
   go_upto_region 6 with fail
   clear hid
   generalize wr.alloc (.cells #[.map (some m),.map none,.int .i64 0,.int .i64 0] 64)=w3 at *
   obtain⟨c0,c1,c2,c3,c4,c5,c6⟩:=Bk.seven (show Bk w3 (w.heap.size+1) 40 [_,_,_,_,_,_,_] from hX2.up hB3)
   have hd:=look7_any hC3 (hM2.up hB3) (by omega) (by omega) (fun k h=>by have:=hA k h;omega) (cap:=cap) (hP2.up hB3) (fun k h=>by have:=hAp k h;omega) (hx2.up hB3) (fun k h=>by have:=hAx k h;omega) hw hsz hlp hl 2
   go_wp2_with fail
   refine hd.mono ?_
   rintro e w4 ⟨rfl,⟨nv4,hC4⟩,hU4⟩
   have hBe:Below w2.heap.size w2 w4:=⟨hU4.os.trans hB3.os,hU4.tape.trans hB3.tape,hU4.output.trans hB3.output,Nat.le_trans hB3.size hU4.size,fun k hk=>(hU4.block k (by have:=hB3.size;omega) (by omega)).trans (hB3.block k hk)⟩
   obtain⟨⟨py,pa⟩,hp⟩:∃ p,p=lkT ff ps x 2 (0,0):=⟨_,rfl⟩
   have HY:Hid ((lkT ff ps x 2 (0,0)).1=py):=by rw[← hp];rfl
   rw[← hp] at hC4
   have e0:w4.cell? ⟨wr.heap.size,2,none⟩=some (.int .i64 py):=hC4.cell 2
   clear hd c0 c1 c2 c3 c4 c5 c6 hp hC3 hC4
   by_cases hy:py=0
   ·subst hy
    have HE2:Hid (ofP ff ps x=(2,0)):=by
     unfold Hid ofP
     rw[if_neg hn1,if_pos HY.out]
    have HB:Hid (Below w.heap.size w w4):=Below.thn hBw hBe
    go_wp2_with fail
    go_ret2
    exact⟨by rw[HE.out,HE2.out];rfl,HB.out⟩
   ·have g:(py==0)=false:=by simpa using hy
    have hn2:(lkT ff ps x 2 (0,0)).1≠0:=by rw[HY.out];exact hy
    go_wp2_with fail
    go_roundw
    case rel=>exact⟨2,by first|rfl|go_num,.inr (.inr (.inl ⟨rfl,hn1,hn2⟩)),hBe⟩
    case measure=>simp[intOf]
  ·have hb3:=below_alloc wr (.cells #[.map (some m),.map none,.int .i64 0,.int .i64 0] 64)
   have hC3:Ct (wr.alloc (.cells #[.map (some m),.map none,.int .i64 0,.int .i64 0] 64)) wr.heap.size m (.map none) (0,0):=Bk.new wr 64 #[.map (some m),.map none,.int .i64 0,.int .i64 0]
   have hB3:=Below.thn hBk hb3
   have hw3:=hb3.size
   have hwk:=hBk.size
   have hid:=idx2 wr
   go_upto_region 6 with fail
   clear hid
   generalize wr.alloc (.cells #[.map (some m),.map none,.int .i64 0,.int .i64 0] 64)=w3 at *
   obtain⟨c0,c1,c2,c3,c4,c5,c6⟩:=Bk.seven (show Bk w3 (w.heap.size+1) 40 [_,_,_,_,_,_,_] from hX2.up hB3)
   have hd:=look7_any hC3 (hM2.up hB3) (by omega) (by omega) (fun k h=>by have:=hA k h;omega) (cap:=cap) (hP2.up hB3) (fun k h=>by have:=hAp k h;omega) (hx2.up hB3) (fun k h=>by have:=hAx k h;omega) hw hsz hlp hl 3
   go_wp2_with fail
   refine hd.mono ?_
   rintro e w4 ⟨rfl,⟨nv4,hC4⟩,hU4⟩
   have hBe:Below w2.heap.size w2 w4:=⟨hU4.os.trans hB3.os,hU4.tape.trans hB3.tape,hU4.output.trans hB3.output,Nat.le_trans hB3.size hU4.size,fun k hk=>(hU4.block k (by have:=hB3.size;omega) (by omega)).trans (hB3.block k hk)⟩
   obtain⟨⟨py,pa⟩,hp⟩:∃ p,p=lkT ff ps x 3 (0,0):=⟨_,rfl⟩
   have HY:Hid ((lkT ff ps x 3 (0,0)).1=py):=by rw[← hp];rfl
   rw[← hp] at hC4
   have e0:w4.cell? ⟨wr.heap.size,2,none⟩=some (.int .i64 py):=hC4.cell 2
   clear hd c0 c1 c2 c3 c4 c5 c6 hp hC3 hC4
   by_cases hy:py=0
   ·subst hy
    have HE2:Hid (ofP ff ps x=(3,0)):=by
     unfold Hid ofP
     rw[if_neg hn1,if_neg hn2,if_pos HY.out]
    have HB:Hid (Below w.heap.size w w4):=Below.thn hBw hBe
    go_wp2_with fail
    go_ret2
    exact⟨by rw[HE.out,HE2.out];rfl,HB.out⟩
   ·have g:(py==0)=false:=by simpa using hy
    have hn3:(lkT ff ps x 3 (0,0)).1≠0:=by rw[HY.out];exact hy
    go_wp2_with fail
    go_roundw
    case rel=>exact⟨3,by first|rfl|go_num,.inr (.inr (.inr ⟨rfl,hn1,hn2,hn3⟩)),hBe⟩
    case measure=>simp[intOf]
  ·have HE2:Hid (ofP ff ps x=(0,34)):=by
    unfold Hid ofP
    rw[if_neg hn1,if_neg hn2,if_neg hn3]
   have HB:Hid (Below w.heap.size w wr):=Below.thn hBw hBk
   go_wp2_with fail
   go_ret2
   exact⟨by rw[HE.out,HE2.out];rfl,HB.out⟩
end Go.Proofs.Ytkbglnhdbnijlaa
namespace Go.Proofs.Ytkbglnhdbnijlaa
mutual
def okE (ff:List UInt8→Option Fn1) (tf:List UInt8→Int):Ex→Int→Prop
 |.mk op name tail ty _ _ xs _,t=>¬ (ownB op=true∧¬ ownT ff tf op name ty xs.length=t)∧okL ff tf op name tail ty t 0 xs
def okL (ff:List UInt8→Option Fn1) (tf:List UInt8→Int) (op:Int) (name tail:List UInt8) (ty t:Int) (i:Nat):List Ex→Prop
 |[]=>True
 |x::xs=>okE ff (bindT tf (bnd7 op name tail ty i)) x (wntT ff op name ty i t)∧okL ff tf op name tail ty t (i+1) xs
end
section
variable (ff:List UInt8→Option Fn1)
theorem tellT_no (p:Int × Int) (at_:Int):¬ (tellT p at_).1=0:=by
 unfold tellT
 split
 ·exact (by decide:¬ (34:Int)=0)
 ·rename_i h
  intro e
  exact h (.inl e)
theorem seeT_ok (tf:List UInt8→Int) (op:Int) (name:List UInt8) (ty:Int) (n:Nat) (t:Int) (i:Nat) (p:Int × Int):(seeT ff tf op name ty n t i p).1=0↔p.1=0∧¬ (ownB op=true∧¬ ownT ff tf op name ty n=t):=by
 unfold seeT
 split
 ·rename_i h
  exact⟨fun e=>absurd e (tellT_no _ _),fun e=>absurd h e.2⟩
 ·rename_i h
  exact⟨fun e=>⟨e,h⟩,fun e=>e.1⟩
mutual
theorem wtE_ok (tf:List UInt8→Int):∀ (x:Ex) (t:Int) (p:Int × Int),(wtE ff tf x t p).1=0↔p.1=0∧okE ff tf x t
 |.mk op name tail ty _ _ xs i,t,p=>by
  rw[wtE,okE,wtL_ok,seeT_ok,and_assoc]
theorem wtL_ok (tf:List UInt8→Int) (op:Int) (name tail:List UInt8) (ty t:Int):∀ (xs:List Ex) (i:Nat) (p:Int × Int),(wtL ff tf op name tail ty t i xs p).1=0↔p.1=0∧okL ff tf op name tail ty t i xs
 |[],i,p=>by rw[wtL,okL];simp
 |x::xs,i,p=>by
  rw[wtL,okL,wtL_ok tf op name tail ty t xs,wtE_ok _ x,and_assoc]
end
end
theorem lkT_ok (ff:List UInt8→Option Fn1) (ps:List Pm) (x:Ex) (t:Int) (p:Int × Int):(lkT ff ps x t p).1=0↔p.1=0∧okE ff (bindT (fun _=>0) ps) x t:=wtE_ok ff _ x t p
theorem frs_one (a t:Int):frs 1 a t=t:=if_neg (by decide)
theorem wnt_one {ff:List UInt8→Option Fn1} {op:Int} (h:ownB op=false) (name:List UInt8) (ty t:Int):wntT ff op name ty 1 t=t:=by
 unfold ownB at h
 have:op=19∨op=20∨op=21∨op=22:=by simp at h;omega
 rcases this with rfl|rfl|rfl|rfl<;>simp[wntT,frs_one]
theorem shp_two {Nm:List UInt8→Prop} {Nu:Int→Int→Prop} {op:Int} {a b:List UInt8} {t p q:Int} {n:Nat} (h:Shp Nm Nu op a b t p q n) (ho:ownB op=false):2≤n:=by
 unfold ownB at ho
 have:op=19∨op=20∨op=21∨op=22:=by simp at ho;omega
 cases h<;>omega
theorem okE_one (ff:List UInt8→Option Fn1) {Nm:List UInt8→Prop} {Nu:Int→Int→Prop}:∀ (n:Nat) (x:Ex),szE x≤n→wfE Nm Nu x→∀ (tf:List UInt8→Int) (t u:Int),okE ff tf x t→okE ff tf x u→t=u:=by
 intro n
 induction n with
 |zero=>intro x h;have:=szE_pos x;omega
 |succ n ih=>
  intro x h hw tf t u ht hu
  cases x with
  |mk op name tail ty p q xs i=>
   rw[okE] at ht hu
   rw[wfE_mk] at hw
   rw[szE_mk] at h
   cases ho:ownB op with
   |true=>
    have h1:=ht.1
    have h2:=hu.1
    simp only[ho,true_and,Decidable.not_not] at h1 h2
    rw[← h1,← h2]
   |false=>
    have h2:=shp_two hw.1 ho
    match xs,h2,hw,h,ht,hu with
    |a::b::xs,_,hw,h,ht,hu=>
     have h3:=ht.2
     have h4:=hu.2
     rw[okL,okL,wnt_one ho] at h3 h4
     have hb:wfE Nm Nu b:=wfL_at (a::b::xs) hw.2 1 (by simp)
     rw[szL_cons,szL_cons] at h
     exact ih b (by omega) hb _ t u h3.2.1 h4.2.1
section
variable {ff:List UInt8→Option Fn1} {ps:List Pm} {x:Ex}
theorem look_ok (t:Int):(lkT ff ps x t (0,0)).1=0↔okE ff (bindT (fun _=>0) ps) x t:=by
 rw[lkT_ok]
 exact⟨fun h=>h.2,fun h=>⟨rfl,h⟩⟩
theorem ofP_cases:((ofP ff ps x).2=0∧((ofP ff ps x).1=1∨(ofP ff ps x).1=2∨(ofP ff ps x).1=3)∧okE ff (bindT (fun _=>0) ps) x (ofP ff ps x).1)∨(ofP ff ps x=(0,34)∧∀ t,t=1∨t=2∨t=3→¬ okE ff (bindT (fun _=>0) ps) x t):=by
 unfold ofP
 by_cases h1:(lkT ff ps x 1 (0,0)).1=0
 ·rw[if_pos h1];exact .inl ⟨rfl,.inl rfl,(look_ok 1).1 h1⟩
 ·rw[if_neg h1]
  by_cases h2:(lkT ff ps x 2 (0,0)).1=0
  ·rw[if_pos h2];exact .inl ⟨rfl,.inr (.inl rfl),(look_ok 2).1 h2⟩
  ·rw[if_neg h2]
   by_cases h3:(lkT ff ps x 3 (0,0)).1=0
   ·rw[if_pos h3];exact .inl ⟨rfl,.inr (.inr rfl),(look_ok 3).1 h3⟩
   ·rw[if_neg h3]
    refine .inr ⟨rfl,fun t ht=>?_⟩
    rcases ht with rfl|rfl|rfl
    ·exact fun h=>h1 ((look_ok 1).2 h)
    ·exact fun h=>h2 ((look_ok 2).2 h)
    ·exact fun h=>h3 ((look_ok 3).2 h)
theorem ofP_iff {Nm:List UInt8→Prop} {Nu:Int→Int→Prop} (hw:wfE Nm Nu x) {t:Int} (ht:t=1∨t=2∨t=3):((ofP ff ps x).2=0∧(ofP ff ps x).1=t)↔okE ff (bindT (fun _=>0) ps) x t:=by
 rcases ofP_cases (ff:=ff) (ps:=ps) (x:=x) with⟨h1,h2,h3⟩|⟨h1,h2⟩
 ·constructor
  ·rintro ⟨_,rfl⟩
   exact h3
  ·exact fun h=>⟨h1,okE_one ff _ x (Nat.le_refl _) hw _ _ _ h3 h⟩
 ·constructor
  ·rintro ⟨h,_⟩
   rw[h1] at h
   exact absurd h (by decide)
  ·exact fun h=>absurd h (h2 t ht)
end
end Go.Proofs.Ytkbglnhdbnijlaa
