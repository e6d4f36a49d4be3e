/-
  4 texts in one: what each proves stands at its head.
-/
import Derived.Test.YtimoappbefindaaGreatUgb
import Derived.Test.YtimoappbefindaaGreatUgg
import Derived.Test.YtimoappbefindaaGreatLs
import Derived.Test.YtimoappbefindaaGreatUkd
import Derived.Test.YtimoappbefindaaGreatUq
namespace Go.Proofs.YtimoappbefindaaGreat
set_option maxHeartbeats 16000000
open Go.RowKit
set_option maxRecDepth 100000
namespace Gw
def tt (t:List (List Bool)) (i k:Nat):Bool:=(t.getD i []).getD k false
def bl (n:Nat) (f:Nat→Bool):List Bool:=(List.range n).map f
theorem bl_len (n:Nat) (f:Nat→Bool):(bl n f).length=n:=by simp[bl]
theorem sj {n k:Nat} (f:Nat→Bool) (hk:k<n):(bl n f)[k]?=some (f k):=by
 unfold bl
 rw[List.getElem?_map,List.getElem?_range hk]
 rfl
theorem bl_set {n:Nat} (f:Nat→Bool) (x:Nat) (b:Bool):(bl n f).set x b=bl n fun k=>if k=x then b else f k:=by
 apply List.ext_getElem
 ·simp[bl]
 ·intro i h1 h2
  unfold bl at h1 h2 ⊢
  rw[List.getElem_set]
  simp only[List.getElem_map,List.getElem_range]
  by_cases e:x=i
  ·subst e;simp
  ·rw[if_neg e,if_neg fun h=>e h.symm]
theorem bl_false (n:Nat):List.replicate n false=bl n fun _=>false:=by unfold bl;rw[List.map_const',List.length_range]
theorem bl_cell {w:World} {b n k:Nat} {f:Nat→Bool} (h:Bk w b 4 ((bl n f).map Value.bool)) (hk:k<n):w.cell? ⟨b,k,none⟩=some (.bool (f k)):=by
 rw[h.cell,List.getElem?_map,sj f hk]
 rfl
end Gw
open Go.RowKit Go.Maps
mutual
def ncE:Ex→List (List UInt8)
 |.mk op name _ _ _ _ xs _=>(if op=7 then [name] else [])++ncL xs
def ncL:List Ex→List (List UInt8)
 |[]=>[]
 |x::xs=>ncE x++ncL xs
end
theorem oZ (op:Int) (name tail:List UInt8) (ty p q:Int) (xs:List Ex) (i:Nat):ncE (.mk op name tail ty p q xs i)=(if op=7 then [name] else [])++ncL xs:=by rw[ncE]
theorem jh:ncL []=[]:=by rw[ncL]
theorem eT (x:Ex) (xs:List Ex):ncL (x::xs)=ncE x++ncL xs:=by rw[ncL]
theorem nU:∀ (xs:List Ex) (k:Nat),k<xs.length→ncL (xs.take (k+1))=ncL (xs.take k)++ncE (xs.getD k ed)
 |[],_,h=>by simp at h
 |x::xs,0,_=>by simp[eT,jh]
 |x::xs,k+1,h=>by
  rw[List.take_succ_cons,eT,nU xs k (by simpa using h),List.take_succ_cons,eT,List.getD_cons_succ,List.append_assoc]
mutual
theorem nJ:∀ x:Ex,(ncE x).length≤szE x
 |.mk op name tail ty p q xs i=>by
  rw[oZ,bP,List.length_append]
  have:=nD xs
  split
  ·rw[List.length_singleton];omega
  ·simp only[List.length_nil];omega
theorem nD:∀ xs:List Ex,(ncL xs).length≤szL xs
 |[]=>by rw[jh,bG];simp
 |x::xs=>by
  rw[eT,aO,List.length_append]
  have:=nJ x
  have:=nD xs
  omega
end
mutual
theorem rY (kn:List UInt8→Option Int):∀ x:Ex,caE kn x=(ncE x).map fun s=>(kn s).getD 0
 |.mk op name tail ty p q xs i=>by
  rw[pQ,oZ,List.map_append,tq kn xs]
  split<;>rfl
theorem tq (kn:List UInt8→Option Int):∀ xs:List Ex,caL kn xs=(ncL xs).map fun s=>(kn s).getD 0
 |[]=>by rw[iQ,jh];rfl
 |x::xs=>by rw[fq,eT,List.map_append,rY kn x,tq kn xs]
end
theorem OwN.baseQ {w:World} {B B':Nat} {v:Value} {ws:List (List UInt8)} (h:OwN w B v ws) (hb:B'≤B):OwN w B' v ws:=
 ⟨h.1,h.2.imp id fun ⟨g,c,cur,h1,h2,h3⟩=>⟨g,c,cur,h1,by omega,h3⟩⟩
theorem own_twoQ {w:World} {B C:Nat} {v u:Value} {ys zs:List (List UInt8)} (h:OwN w B v ys) (hB:B≤w.heap.size) (hz:OwN w C u zs) (hn:ys.length+zs.length≤8796093022208) :
  ∃ v' w',(Builtin.append_ #[104,104] 104 #[v,u]).run Tryz.prog w=.ok v' w'∧OwN w' B v' (ys++zs)∧Below B w w':=by
 obtain⟨ao,cap,rfl,hN,hc,_⟩:=hz.names
 exact dX w B v ys h hB ao cap zs hN hc (fun e=>by subst e;exact hN.none) hn
theorem rnamed_any:∀ (n:Nat) (x:Ex),szE x≤n→n≤65536→∀ (w:World) (A:Nat→Prop) (us:List Value),ExW w A x us→(∀ k,A k→k<w.heap.size) →
  Calls Tryz.prog 49 #[.agg us.toArray] w fun e w'=>(∃ v,e=.returned v∧OwN w' w.heap.size v (ncE x))∧Below w.heap.size w w':=by
 intro n
 induction n with
 |zero=>intro x h;have:=eu x;omega
 |succ n ih=>
  intro x ht hn w A us hx hA
  have IH:Hid _:=ih
  have HA:Hid (∀ k,A k→k<w.heap.size):=hA
  clear ih hA
  cases hx with
  |mk hl=>
   rename_i op name tail ty p q xs i ao c
   rw[bP] at ht
   have hlen:=dH xs
   have hb0:=ae w (.cells #[.int .i64 op,.string (bs name),.string (bs tail),.int .i64 ty,.complex .f64 (fl p) (fl q),.slice ao xs.length c,.int .i64 i] 58)
   have hL:=Bk.new w 58 #[.int .i64 op,.string (bs name),.string (bs tail),.int .i64 ty,.complex .f64 (fl p) (fl q),.slice ao xs.length c,.int .i64 i]
   have hl0:=hl.up hb0
   have HE:Hid (ncE (.mk op name tail ty p q xs i)=(if op=7 then [name] else [])++ncL xs):=oZ ..
   obtain⟨N,hN⟩:∃ N,N=ncE (.mk op name tail ty p q xs i):=⟨_,rfl⟩
   rw[← hN] at HE ⊢
   clear hN
   go_enter Tryz.func49,Tryz.ntmps49
   go_upto_region 1 with fail
   generalize hWe:w.alloc (.cells #[.int .i64 op,.string (bs name),.string (bs tail),.int .i64 ty,.complex .f64 (fl p) (fl q),.slice ao xs.length c,.int .i64 i] 58)=W at *
   clear hWe
   have hWw:=hL.lt
   have c0:W.cell? ⟨w.heap.size,0,none⟩=some (.int .i64 op):=hL.cell 0
   have c1:W.cell? ⟨w.heap.size,1,none⟩=some (.string (bs name)):=hL.cell 1
   have hWl:W.heap.size≤W.heap.size:=Nat.le_refl _
   obtain⟨o1,ho1⟩:∃ o1:List (List UInt8),o1=if op=7 then [name] else []:=⟨_,rfl⟩
   have HE2:Hid (N=o1++ncL xs):=by rw[HE.out,ho1];exact rfl
   have HO1:Hid (o1=if op=7 then [name] else []):=ho1
   have hol:o1.length≤1:=by rw[ho1];split<;>simp
   clear ho1 HE
   go_upto_if 8 with fail
   go_cut [3] (fun v wx=>OwN wx W.heap.size v o1∧Below W.heap.size W wx)
   case first=>
    by_cases h:op≠7
    ·have h:¬ op=7:=h
     have HX:Hid (OwN W W.heap.size (.slice none 0 0) o1∧Below W.heap.size W W):=⟨by rw[HO1.out,if_neg h];exact World.ownsRow_nil _ _ _ _,Below.refl _ _⟩
     go_wp2_with fail
     go_meet
     case rel=>exact HX.out
    ·have h:op=7:=Decidable.not_not.1 h
     subst h
     have hb5:=ae W (.cells #[.string (bs name)] 9)
     obtain⟨v6,w6,R6,hO6,hb6⟩:=dX (W.alloc (.cells #[.string (bs name)] 9)) W.heap.size (.slice none 0 0) [] (World.ownsRow_nil _ _ _ _) (by have:=hb5.size;omega) (some ⟨W.heap.size,0,none⟩) 1 [name] (sD (Bk.new W 9 #[.string (bs name)])) (fun e=>by cases e) (fun e=>by cases e) (by simp only[List.length_cons,List.length_nil];omega)
     have HX:Hid (OwN w6 W.heap.size v6 o1∧Below W.heap.size W w6):=⟨by rw[HO1.out,if_pos rfl];exact hO6,hb5.trans hb6⟩
     clear hO6 hb6 hb5
     go_wp2_with (at_builtin;refine wpList_append_run rfl (.tmp 9) (.tmp 12) 104 rfl rfl _ _ rfl rfl _ _ (show _=_ from R6) ?_)
     go_meet
     case rel=>exact HX.out
   case rest=>
    obtain⟨hOd,hBd⟩:=hcut
    have hoo:o1.length≤2:=by omega
    obtain⟨o3,ho3⟩:∃ o3,o3=o1:=⟨_,rfl⟩
    rw[← ho3] at hOd HE2 hoo
    clear ho3 c1 c0
    have hwd:=hBd.size
    have hLd:=hL.up hBd
    have hld:=hl0.up hBd
    have c5:wc.cell? ⟨w.heap.size,5,none⟩=some (.slice ao xs.length c):=hLd.cell 5
    go_wp2_with fail
    go_loopw [3,4] (fun u v wr=>∃ k:Nat,k≤xs.length∧v=.int .i64 k∧OwN wr W.heap.size u (o3++ncL (xs.take k))∧Below W.heap.size W wr) (fun _ v _=>xs.length-(intOf v).toNat)
    case atStart=>exact⟨0,Nat.zero_le _,rfl,by rw[List.take_zero,jh,List.append_nil];exact hOd,hBd⟩
    case round=>
     obtain⟨k,hkn,rfl,hOk,hBk⟩:=hrel
     have hwr:=hBk.size
     have hLk:=hL.up hBk
     have c5:wr.cell? ⟨w.heap.size,5,none⟩=some (.slice ao xs.length c):=hLk.cell 5
     by_cases hlt:k<xs.length
     ·have hlk:=hl0.up hBk
      have hsz:=lw xs k hlt
      have hst:=fZ xs k hlt
      have hsT:szL (xs.take (k+1))≤szL xs:=mq xs (k+1)
      have hol5:(o3++ncL (xs.take k)).length≤2+szL (xs.take k):=by rw[List.length_append];have:=nD (xs.take k);omega
      have HS:Hid (o3++ncL (xs.take (k+1))=(o3++ncL (xs.take k))++ncE (xs.getD k ed)):=by rw[nU xs k hlt,List.append_assoc];exact rfl
      obtain⟨yk,hyk⟩:∃ yk,yk=o3++ncL (xs.take k):=⟨_,rfl⟩
      rw[← hyk] at hOk HS hol5
      obtain⟨g,off,rfl⟩:=hlk.place (by intro e;simp[e] at hlt)
      obtain⟨vs,hv,hxv⟩:=hlk.at k hlt
      obtain⟨u0,u1,u2,u3,u4,u5,u6,rfl⟩:=aQ hxv.len
      obtain⟨d0,d1,d2,d3,d4,d5,d6⟩:=oU hv
      have hrec:=IH.out (xs.getD k ed) (by omega) (by omega) wr A [u0,u1,u2,u3,u4,u5,u6] hxv (fun j h=>by have:=HA.out j h;omega)
      have hwl:=nJ (xs.getD k ed)
      clear hyk hv hlk hxv
      go_wp2_with fail
      refine hrec.mono ?_
      rintro e w4 ⟨⟨v4,rfl,hO4⟩,hb4⟩
      have hw4:=hb4.size
      obtain⟨v5',w5,R5,hO5,hb5⟩:=own_twoQ (hOk.up hb4) (by omega) hO4 (by omega)
      rw[← HS.out] at hO5
      have hBe:Below W.heap.size W w5:=(hBk.trans (hb4.mono hwr)).trans hb5
      clear hrec d0 d1 d2 d3 d4 d5 d6 hO4 hOk hb4 hb5 c5
      go_wp2_with (at_builtin;refine wpList_append_run rfl (.tmp 27) (.tmp 28) 104 rfl rfl _ _ rfl rfl _ _ (show _=_ from R5) ?_)
      go_roundw
      case rel=>exact⟨k+1,by omega,by go_num,hO5,hBe⟩
      case measure=>simp[intOf];omega
     ·have hke:k=xs.length:=by omega
      subst hke
      rw[List.take_length,← HE2.out] at hOk
      have HX:Hid (OwN wr w.heap.size _ N∧Below w.heap.size w wr):=⟨hOk.baseQ (by omega),hb0.trans (hBk.mono (by omega))⟩
      clear hOk
      go_wp2_with fail
      go_ret
      exact⟨⟨_,rfl,HX.out.1⟩,HX.out.2⟩
namespace Gw
def TabR (w:World) (B:Nat) (v:Value) (t:List (List Bool)):Prop:=∃ vs:List Value,w.ownsRow B 71 1 v vs.length vs∧vs.length=t.length∧∀ (j:Nat) (row:List Bool),t[j]?=some row→∃ g,vs[j]?=some (.slice (some ⟨g,0,none⟩) row.length row.length)∧B≤g∧Bk w g 4 (row.map Value.bool)
theorem Tryz.underBB:Tryz.prog.underlying 68=some (.slice 71):=by kernel_rfl
theorem Tryz.infoBB:(Tryz.prog.info? 71).map (fun i=>(i.zero,i.size,i.bytes))=some (some (.slice none 0 0),1,24):=by kernel_rfl
theorem bool_row {w:World} {g b:Nat} {l:List Value} {cur:Array Value} (h:Bk w g 4 l) (h2:w.heap[b]?=some (.cells cur 71 (0,0))):g≠b:=fun e=>by
 subst e
 unfold Bk at h
 rw[h2] at h
 simp at h
section
variable {w w':World} {B:Nat} {v:Value} {t:List (List Bool)}
theorem TabR.nil (w:World) (B:Nat):TabR w B (.slice none 0 0) []:=⟨[],⟨rfl,.inl ⟨rfl,rfl⟩⟩,rfl,fun j row h=>by simp at h⟩
theorem TabR.up (h:TabR w B v t) (hb:Below w.heap.size w w'):TabR w' B v t:=by
 obtain⟨vs,h1,h2,h3⟩:=h
 refine⟨vs,aX h1 hb,h2,fun j row hj=>?_⟩
 obtain⟨g,e,hB,hg⟩:=h3 j row hj
 exact⟨g,e,hB,hg.up hb⟩
theorem TabR.len (h:TabR w B v t):∃ ao c,v=.slice ao t.length c:=by
 obtain⟨vs,h1,h2,_⟩:=h
 obtain⟨r,c,e⟩:=fM h1
 rw[h2] at e
 exact⟨r,c,e⟩
theorem tabR_mono (h:TabR w B v t) {B':Nat} (hb:B'≤B):TabR w B' v t:=by
 obtain⟨vs,h1,h2,h3⟩:=h
 refine⟨vs,⟨h1.1,h1.2.imp id fun ⟨g,c,cur,e1,e2,e3⟩=>⟨g,c,cur,e1,Nat.le_trans hb e2,e3⟩⟩,h2,fun j row hj=>?_⟩
 obtain⟨g,e,hB,hg⟩:=h3 j row hj
 exact⟨g,e,Nat.le_trans hb hB,hg⟩
theorem TabR.tab (h:TabR w B v t) (h0:0<t.length):∃ tb c,v=.slice (some ⟨tb,0,none⟩) t.length c∧TabW w tb t:=by
 obtain⟨vs,h1,h2,h3⟩:=h
 rcases id h1.2 with⟨_,e⟩|⟨g,c,cur,rfl,_⟩
 ·omega
 ·refine⟨g,c,by rw[h2],fun j row hj=>?_⟩
  obtain⟨b,e,_,hb⟩:=h3 j row hj
  have hjl:j<vs.length:=(List.getElem?_eq_some_iff.1 e).1
  refine⟨b,?_,hb⟩
  rw[World.ownsRow.cellAt h1 j (by omega),e]
theorem TabR.app (h:TabR w B v t) {g:Nat} {row:List Bool} (hg:Bk w g 4 (row.map Value.bool)) (hgB:B≤g) (hB:B≤w.heap.size) (hl:t.length≤65536) :
  ∃ v' w2,(Builtin.append_ #[68,68] 68 #[v,.slice (some ⟨w.heap.size,0,none⟩) 1 1]).run Tryz.prog (w.alloc (.cells #[.slice (some ⟨g,0,none⟩) row.length row.length] 71))=.ok v' w2∧TabR w2 B v' (t++[row])∧Below B w w2∧∀ k,k<w.heap.size→v.ownBlock≠some k→w2.heap[k]?=w.heap[k]?:=by
 obtain⟨vs,h1,h2,h3⟩:=h
 obtain⟨i0,hi,hz0,hz1,hz2⟩:=info_parts Tryz.infoBB
 have hb:=ae w (.cells #[.slice (some ⟨g,0,none⟩) row.length row.length] 71)
 obtain⟨v',w2,hr,ho,hgr,_,hloc⟩:=run_append_own_at (P:=Tryz.prog) (w.alloc (.cells #[.slice (some ⟨g,0,none⟩) row.length row.length] 71)) B 68 68 71 i0 (.slice none 0 0) 1 24 Tryz.underBB hi hz0 hz1 hz2 rfl (by decide) v vs.length _ (aX h1 hb) ⟨w.heap.size,0,none⟩ 1 1 [.slice (some ⟨g,0,none⟩) row.length row.length] rfl (cell_one_new w (.slice (some ⟨g,0,none⟩) row.length row.length) 71) (by intro u hu;simp at hu;subst hu;rfl) (by unfold maxLen;omega) (by omega) (by simp;omega)
 have hsz1:(w.alloc (.cells #[.slice (some ⟨g,0,none⟩) row.length row.length] 71)).heap.size=w.heap.size+1:=by simp
 have hk:∀ k,k<w.heap.size→v.ownBlock≠some k→w2.heap[k]?=w.heap[k]?:=fun k hk hv=>(hgr.block k (by omega) fun e=>hv e.symm).trans (hb.block k hk)
 have hne:∀ (b:Nat) (l:List Value),Bk w b 4 l→v.ownBlock≠some b:=fun b l hb2 e=>by
  rcases h1.2 with⟨e2,_⟩|⟨g2,c,cur,e2,_,hcur,_⟩
  ·rw[e2] at e;cases e
  ·rw[e2] at e
   exact bool_row hb2 hcur (Option.some.inj e).symm
 refine⟨v',w2,hr,⟨vs++[.slice (some ⟨g,0,none⟩) row.length row.length],by rw[List.length_append];exact ho,by rw[List.length_append,List.length_append,h2];rfl,fun j r hj=>?_⟩,(hb.mono hB).grown hgr (by omega) fun k e=>(h1.lt k e).1,hk⟩
 rcases Nat.lt_or_ge j t.length with hjt|hjt
 ·rw[List.getElem?_append_left hjt] at hj
  obtain⟨b,e,hbB,hb2⟩:=h3 j r hj
  exact⟨b,by rw[List.getElem?_append_left (by omega)];exact e,hbB,(hk b hb2.lt (hne b _ hb2)).trans hb2⟩
 ·rw[List.getElem?_append_right hjt] at hj
  have hj0:j-t.length=0:=by
   have:=(List.getElem?_eq_some_iff.1 hj).1
   simp at this
   omega
  rw[hj0] at hj
  obtain rfl:row=r:=by simpa using hj
  refine⟨g,by rw[List.getElem?_append_right (by omega),h2,hj0];rfl,hgB,(hk g hg.lt (hne g _ hg)).trans hg⟩
end
def rowG (gs:List Fn1) (g:Fn1):List Bool:=bl gs.length fun k=>decide ((gs.getD k fd).name∈ncE g.body)
def tabG (gs:List Fn1):List (List Bool):=gs.map (rowG gs)
theorem aY (gs:List Fn1):(tabG gs).length=gs.length:=List.length_map _
theorem o7 (gs:List Fn1) (g:Fn1):(rowG gs g).length=gs.length:=bl_len _ _
theorem dE (gs:List Fn1):∀ row∈tabG gs,row.length=(tabG gs).length:=fun row h=>by
 obtain⟨g,_,rfl⟩:=List.mem_map.1 h
 rw[o7,aY]
theorem tabG_take (gs:List Fn1) {k:Nat} (hk:k<gs.length):(tabG gs).take (k+1)=(tabG gs).take k++[rowG gs (gs.getD k fd)]:=by
 rw[List.take_succ_eq_append_getElem (by rw[aY];exact hk)]
 congr 2
 unfold tabG
 rw[List.getElem_map,List.getD_eq_getElem?_getD,List.getElem?_eq_getElem hk]
 rfl
theorem jo {w:World} {A:Nat→Prop} {ao:Option Addr} {gs:List Fn1} {c:Nat} (hF:FlW w A ao gs) (hA:∀ k,A k→k<w.heap.size) (hsz:∀ g∈gs,szE g.body≤65536) (hgs:gs.length≤65536) :
  Calls Tryz.prog 29 #[.agg #[.slice ao gs.length c]] w fun e w'=>(∃ v,e=.returned v∧TabR w' w.heap.size v (tabG gs))∧Below w.heap.size w w':=by
 have hb0:=ae w (.cells #[.slice ao gs.length c] 26)
 have hL0:=Bk.new w 26 #[.slice ao gs.length c]
 go_enter Tryz.func29,Tryz.ntmps29
 go_upto_region 1 with fail
 generalize w.alloc (.cells #[.slice ao gs.length c] 26)=W at *
 have hwW:w.heap.size<W.heap.size:=hL0.lt
 have hFW:=hF.up hb0
 have hT0:TabR W W.heap.size (.slice none 0 0) ((tabG gs).take 0):=TabR.nil _ _
 have hA2:∀ k,A k→k<W.heap.size:=fun k h=>by have:=hA k h;omega
 clear hF hA
 obtain⟨Z0,hZ0⟩:∃ Z0,Z0=w.heap.size:=⟨_,rfl⟩
 have HZ:Hid (Z0=w.heap.size):=hZ0
 rw[← hZ0] at hwW hL0 hb0 ⊢
 have hbW:Below Z0 w W:=hb0
 clear hZ0
 go_wp2_with fail
 go_loopw [3,4] (fun u v wr=>∃ k:Nat,k≤gs.length∧v=.int .i64 k∧TabR wr W.heap.size u ((tabG gs).take k)∧Below W.heap.size W wr) (fun _ v _=>gs.length-(intOf v).toNat)
 case atStart=>exact⟨0,Nat.zero_le _,rfl,hT0,Below.refl _ _⟩
 case round=>
  obtain⟨i,hi,rfl,hT,hbr⟩:=hrel
  clear hT0
  have c0:wr.cell? ⟨Z0,0,none⟩=some (.slice ao gs.length c):=(hL0.up hbr).cell 0
  obtain⟨ta,tc,hta⟩:=hT.len
  rw[List.length_take,aY,Nat.min_eq_left hi] at hta
  subst hta
  by_cases hlt:i<gs.length
  ·have hmk:=gM wr gs.length hgs
   have hbM:=ae wr (.cells (madeCells #[.bool false] gs.length) 4)
   have hMX:Bk (wr.alloc (.cells (madeCells #[.bool false] gs.length) 4)) wr.heap.size 4 ((bl gs.length fun _=>false).map Value.bool):=by
    have h:=Bk.new wr 4 (madeCells #[.bool false] gs.length)
    rw[gN,bl_false] at h
    exact h
   go_upto_region 6 with fail
   generalize wr.alloc (.cells (madeCells #[.bool false] gs.length) 4)=W1 at *
   obtain⟨rb,hrb⟩:∃ rb,rb=wr.heap.size:=⟨_,rfl⟩
   rw[← hrb] at hMX ⊢
   have HRB:Hid (rb=wr.heap.size):=hrb
   have hrb1:wr.heap.size≤rb:=by omega
   clear hrb
   have HT:Hid (TabR wr W.heap.size (.slice ta i tc) ((tabG gs).take i)):=hT
   have hbM0:=hbM
   have hb1:=Below.thn hbr hbM
   clear hmk hT c0 hbM
   have hrbw:rb<W1.heap.size:=hMX.lt
   have c1:W1.cell? ⟨Z0,0,none⟩=some (.slice ao gs.length c):=(hL0.up hb1).cell 0
   have hmem:gs.getD i fd∈gs:=by rw[List.getD_eq_getElem?_getD,List.getElem?_eq_getElem hlt];exact List.getElem_mem hlt
   have hsz1:=hsz _ hmem
   obtain⟨g,vs,rfl,_,hv,hxv⟩:=(hFW.up hb1).at i hlt
   have hlen:=hxv.len
   obtain⟨ap,cp,es,hvs,-,he1⟩:=hxv
   obtain⟨x0,x1,x2,x3,x4,x5,x6,rfl⟩:=aQ he1.len
   obtain⟨u0,u1,u2,u3,u4,u5,u6,u7,u8,u9,u10,rfl⟩:=ib hlen
   simp only[List.cons_append,List.nil_append,List.cons.injEq,and_true] at hvs
   obtain⟨-,-,-,rfl,rfl,rfl,rfl,rfl,rfl,rfl,-⟩:=hvs
   obtain⟨d0,d1,d2,d3,d4,d5,d6,d7,d8,d9,d10⟩:=fJ hv
   obtain⟨y,hy⟩:∃ y,y=(gs.getD i fd).body:=⟨_,rfl⟩
   have HY:Hid (y=(gs.getD i fd).body):=hy
   rw[← hy] at hsz1 he1
   have hwW1:=hb1.size
   have hrec:=rnamed_any 65536 y hsz1 (Nat.le_refl _) W1 A [u3,u4,u5,u6,u7,u8,u9] he1 (fun j h=>by have:=hA2 j h;omega)
   clear hv hlen hy hmem he1
   go_wp2_with fail
   refine hrec.mono ?_
   rintro e w2 ⟨⟨v2,rfl,hO2⟩,hb2⟩
   obtain⟨a2,c2,rfl,hN2,-,-⟩:=hO2.names
   have hnl:=nJ y
   have hso:=rsorted_any (cap:=c2) hN2 (by omega)
   have hB2:=Below.thn hb1 hb2
   have hM2:=hMX.up hb2
   have hw2s:=hb2.size
   have hbM2:=Below.thn hbM0 hb2
   clear hrec d0 d1 d2 d3 d4 d5 d6 d7 d8 d9 d10 c1 hMX hb1 hbM0
   go_wp2_with fail
   refine hso.mono ?_
   rintro e w3 ⟨⟨v3,o,rfl,hIs,hO3⟩,hb3⟩
   obtain⟨a3,c3,rfl,hN3,-,hlow⟩:=hO3.names
   have hbM3:=Below.thn hbM2 hb3
   have hB3:=Below.thn hB2 hb3
   have hM3:=hM2.up hb3
   have hol:=rO hIs
   clear hso hM2 hb2 hb3 hO2 hO3 hN2 hB2 hbM2
   have HI:Hid (fB (ncE y) o):=hIs
   have HLOW:Hid (∀ g off,a3=some ⟨g,off,none⟩→g≠rb):=fun g off e=>by have:=hlow g off e;omega
   have hM0:Bk w3 rb 4 ((bl gs.length fun j=>decide (j<0∧(gs.getD j fd).name∈ncE y)).map Value.bool):=by
    have e:(fun j=>decide (j<0∧(gs.getD j fd).name∈ncE y))=fun _:Nat=>false:=funext fun j=>by simp
    rw[e]
    exact hM3
   clear hM3 hlow hIs
   go_wp2_with fail
   go_loopw [7] (fun u wr2=>∃ k:Nat,k≤gs.length∧u=.int .i64 k∧Bk wr2 rb 4 ((bl gs.length fun j=>decide (j<k∧(gs.getD j fd).name∈ncE y)).map Value.bool)∧Oth rb w3 wr2∧Below wr.heap.size wr wr2) (fun u _=>gs.length-(intOf u).toNat)
   case atStart=>exact⟨0,Nat.zero_le _,rfl,hM0,Oth.refl _ _,hbM3⟩
   case round=>
    rename World=>w4
    obtain⟨k,hk,rfl,hM,hOt,hb4⟩:=hrel
    clear hM0
    have hB4:=Below.thn hbr hb4
    have c0:w4.cell? ⟨Z0,0,none⟩=some (.slice (some ⟨g,0,none⟩) gs.length c):=(hL0.up hB4).cell 0
    by_cases hkl:k<gs.length
    ·obtain⟨g2,vs,e,_,hv,hxv⟩:=(hFW.up hB4).at k hkl
     obtain rfl:g=g2:=by simpa using e
     have hlen:=hxv.len
     obtain⟨nm,hnm⟩:∃ nm,nm=(gs.getD k fd).name:=⟨_,rfl⟩
     have hu0:∀ x,vs[0]?=some x→x=.string (bs nm):=fun x hx=>by
      obtain⟨_,_,_,e,_⟩:=hxv
      rw[e] at hx
      rw[hnm]
      exact (Option.some.inj hx).symm
     obtain⟨f0,f1,f2,f3,f4,f5,f6,f7,f8,f9,f10,rfl⟩:=ib hlen
     obtain rfl:=hu0 f0 rfl
     obtain⟨d0,-,-,-,-,-,-,-,-,-,-⟩:=fJ hv
     have hN4:Ns w4 a3 o:=fun j s hj=>by
      obtain⟨b,off,e1,hc⟩:=hN3 j s hj
      exact⟨b,off,e1,(World.cell?_of_block (w:=w3) (a:=⟨b,off+j,none⟩) (hOt.block b (HLOW.out b off e1))).trans hc⟩
     have hha:=iA (cap:=c3) hN4 (by omega) nm
     have hdec:decide (nm∈o)=decide ((gs.getD k fd).name∈ncE y):=by rw[← hnm];exact decide_eq_decide.2 (HI.out.2 nm)
     rw[hdec] at hha
     obtain⟨q,hq⟩:∃ q,q=decide ((gs.getD k fd).name∈ncE y):=⟨_,rfl⟩
     rw[← hq] at hha
     have m1:=bl_cell hM hkl
     have m2:=hM.frz k
     have hM2:=hM.set k (.bool q)
     rw[← List.map_set,bl_set,show (fun j=>if j=k then q else decide (j<k∧(gs.getD j fd).name∈ncE y))=fun j=>decide (j<k+1∧(gs.getD j fd).name∈ncE y) from funext fun j=>by
      by_cases ej:j=k
      ·rw[if_pos ej,hq,ej]
       refine decide_eq_decide.2 ⟨fun h=>⟨by omega,h⟩,fun h=>h.2⟩
      ·rw[if_neg ej]
       exact decide_eq_decide.2 ⟨fun h=>⟨by omega,h.2⟩,fun h=>⟨by omega,h.2⟩⟩] at hM2
     have hO2:=hOt.set k (.bool q)
     have hb2:=hb4.setCell (p:=⟨rb,k,none⟩) (by show wr.heap.size≤rb;omega) (.bool q)
     have HE:Hid (Bk (w4.setCell ⟨rb,k,none⟩ (.bool q)) rb 4 ((bl gs.length fun j=>decide (j<k+1∧(gs.getD j fd).name∈ncE y)).map Value.bool)∧Oth rb w3 (w4.setCell ⟨rb,k,none⟩ (.bool q))∧Below wr.heap.size wr (w4.setCell ⟨rb,k,none⟩ (.bool q))):=⟨hM2,hO2,hb2⟩
     obtain⟨z,hz⟩:∃ z,z=decide (k<k∧(gs.getD k fd).name∈ncE y):=⟨_,rfl⟩
     rw[← hz] at m1
     clear hM hM2 hO2 hb2 hOt hb4 hv hxv hlen hu0 hnm hdec hq hN4 e hz hB4
     go_wp2_with fail
     refine hha.mono ?_
     rintro e w5 ⟨rfl,rfl⟩
     clear hha
     go_wp2_with fail
     go_roundw
     case rel=>exact⟨k+1,by omega,by go_num,HE.out.1,HE.out.2.1,HE.out.2.2⟩
     case measure=>simp[intOf];omega
    ·obtain rfl:k=gs.length:=by omega
     have hT4:=HT.out.up hb4
     have hrw:(bl gs.length fun j=>decide (j<gs.length∧(gs.getD j fd).name∈ncE y))=rowG gs (gs.getD i fd):=by
      unfold rowG bl
      refine List.map_congr_left fun j hj=>?_
      rw[List.mem_range] at hj
      rw[← HY.out]
      exact decide_eq_decide.2 ⟨fun h=>h.2,fun h=>⟨hj,h⟩⟩
     rw[hrw] at hM
     have htk:((tabG gs).take i).length≤65536:=by rw[List.length_take,aY];omega
     obtain⟨v5,w5,hr,hT5,hb5,_⟩:=hT4.app hM (by have:=hbr.size;omega) hB4.size htk
     rw[o7] at hr
     rw[← tabG_take gs hlt] at hT5
     have hB5:Below W.heap.size W w5:=hB4.trans hb5
     clear hT4 hM hrw htk hOt hb4 hb5
     go_wp2_with (at_builtin;refine wpList_append_run rfl _ _ 68 rfl rfl _ _ rfl rfl _ _ (show _=_ from hr) ?_)
     go_roundw
     case rel=>exact⟨i+1,by omega,by go_num,hT5,hB5⟩
     case measure=>simp[intOf];omega
  ·obtain rfl:i=gs.length:=by omega
   rw[List.take_of_length_le (by rw[aY];exact Nat.le_refl _)] at hT
   have hbE:=hbW.trans (hbr.mono (by omega))
   rw[HZ.out] at hbE
   have HE:Hid (TabR wr w.heap.size (.slice ta gs.length tc) (tabG gs)∧Below w.heap.size w wr):=⟨tabR_mono hT (by have:=HZ.out;omega),hbE⟩
   clear hT hbr
   go_wp2_with fail
   go_ret
   exact⟨⟨_,rfl,HE.out.1⟩,HE.out.2⟩
end Gw
end Go.Proofs.YtimoappbefindaaGreat
