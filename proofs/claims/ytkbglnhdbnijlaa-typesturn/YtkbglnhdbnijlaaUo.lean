/-
  3 texts in one: what each proves stands at its head.
-/
import Derived.Test.YtkbglnhdbnijlaaLd
import Derived.Deep.RegionWith
namespace Go.Proofs.Ytkbglnhdbnijlaa
open Go.RowKit Go.Shelf Go.Maps
theorem setT_back (f:List UInt8→Int) (s:List UInt8) (t:Int):setT (setT f s t) s (f s)=f:=by
 funext r
 unfold setT
 by_cases h:r=s
 ·rw[if_pos h,h]
 ·rw[if_neg h,if_neg h]
theorem unb_part (tf:List UInt8→Int) (ps:List Pm):∀ k,k≤ps.length→unbL ps (befT tf ps) (dn ps.length k) (bindT tf ps)=bindT tf (ps.take (ps.length-k))
 |0,_=>by rw[Nat.sub_zero,List.take_length];rfl
 |k+1,h=>by
  have hi:ps.length-1-k<ps.length:=by omega
  rw[dn_step (by omega),unbL_snoc,unb_part tf ps k (by omega),show ps.length-k=ps.length-1-k+1 by omega,bindT_step tf ps _ hi,show ps.length-(k+1)=ps.length-1-k by omega]
  exact setT_back _ _ _
theorem unb_bind (tf:List UInt8→Int) (ps:List Pm):unbL ps (befT tf ps) (dn ps.length ps.length) (bindT tf ps)=tf:=by
 rw[unb_part tf ps _ (Nat.le_refl _),Nat.sub_self]
 rfl
theorem unbind7_any {w:World} {b nb:Nat} {tf:List UInt8→Int} {A:Nat→Prop} {ao:Option Addr} {cap:Nat} {ps:List Pm} (hT:Tn w b nb (bindT tf ps)) (hP:PlW w A ao ps) (hA:∀ k,A k→k<w.heap.size∧k≠b)
  {gb cb:Nat} {vs:List Value} (hV:Bk w gb 35 vs) (hgb:gb≠b) (hbt:∀ j,j<ps.length→vs[j]?=some (.int .i64 (befT tf ps j))) (hln:∀ p∈ps,p.name.length≤140737488355328) (hl:ps.length≤65536) (hnb:nb≤17592186044416) :
  Calls Try.prog 55 #[.map (some b),.slice ao ps.length cap,.slice (some ⟨gb,0,none⟩) ps.length cb] w fun e w'=>e=.returned (.tuple #[])∧Tn w' b (nb+ps.length) tf∧ButS (·=b) w w':=by
 have h:=callsIn_wide.1 (unbind_in Fence.wide 3 trivial trivial trivial rfl (by omega) hT hP hA (cap:=cap) (cb:=cb) hV hgb hbt hln hl hnb)
 rw[unb_bind] at h
 exact h
end Go.Proofs.Ytkbglnhdbnijlaa
namespace Go.Proofs.Ytkbglnhdbnijlaa
open Go.RowKit Go.Maps
set_option maxRecDepth 100000
def seeT (ff:List UInt8→Option Fn1) (tf:List UInt8→Int) (op:Int) (name:List UInt8) (ty:Int) (n:Nat) (t:Int) (i:Nat) (p:Int × Int):Int × Int:=if ownB op=true∧¬ ownT ff tf op name ty n=t then tellT p i else p
mutual
def wtE (ff:List UInt8→Option Fn1) (tf:List UInt8→Int):Ex→Int→Int × Int→Int × Int
 |.mk op name tail ty _ _ xs i,t,p=>wtL ff tf op name tail ty t 0 xs (seeT ff tf op name ty xs.length t i p)
def wtL (ff:List UInt8→Option Fn1) (tf:List UInt8→Int) (op:Int) (name tail:List UInt8) (ty t:Int) (i:Nat):List Ex→Int × Int→Int × Int
 |[],p=>p
 |x::xs,p=>wtL ff tf op name tail ty t (i+1) xs (wtE ff (bindT tf (bnd7 op name tail ty i)) x (wntT ff op name ty i t) p)
end
section
variable (ff:List UInt8→Option Fn1) (tf:List UInt8→Int) (op:Int) (name tail:List UInt8) (ty t:Int)
theorem wtE_mk (p q:Int) (xs:List Ex) (i:Nat) (r:Int × Int):wtE ff tf (.mk op name tail ty p q xs i) t r=wtL ff tf op name tail ty t 0 xs (seeT ff tf op name ty xs.length t i r):=by rw[wtE]
theorem wtL_nil (i:Nat) (p:Int × Int):wtL ff tf op name tail ty t i [] p=p:=by rw[wtL]
theorem wtL_cons (i:Nat) (x:Ex) (xs:List Ex) (p:Int × Int):wtL ff tf op name tail ty t i (x::xs) p=wtL ff tf op name tail ty t (i+1) xs (wtE ff (bindT tf (bnd7 op name tail ty i)) x (wntT ff op name ty i t) p):=by rw[wtL]
theorem wtL_step:∀ (xs:List Ex) (i k:Nat) (p:Int × Int),k<xs.length→wtL ff tf op name tail ty t i (xs.take (k+1)) p=wtE ff (bindT tf (bnd7 op name tail ty (i+k))) (xs.getD k ed) (wntT ff op name ty (i+k) t) (wtL ff tf op name tail ty t i (xs.take k) p)
 |[],_,_,_,h=>by simp at h
 |x::xs,i,0,p,_=>by simp[wtL_cons,wtL_nil]
 |x::xs,i,k+1,p,h=>by
  rw[List.take_succ_cons,wtL_cons,wtL_step xs (i+1) k _ (by simpa using h),List.take_succ_cons,wtL_cons,List.getD_cons_succ,show i+1+k=i+(k+1) by omega]
end
theorem bnd7_len (op:Int) (name tail:List UInt8) (ty:Int) (i:Nat):(bnd7 op name tail ty i).length≤2:=by
 unfold bnd7
 split
 ·simp
 ·split<;>simp
theorem bnd7_mem {op:Int} {name tail:List UInt8} {ty:Int} {i:Nat} (h1:name.length≤140737488355328) (h2:tail.length≤140737488355328):∀ p∈bnd7 op name tail ty i,p.name.length≤140737488355328:=by
 unfold bnd7
 split
 ·simp_all
 ·split<;>simp_all
theorem Tn.mono {w:World} {b n m:Nat} {tf:List UInt8→Int} (h:Tn w b n tf) (hm:n≤m):Tn w b m tf:=by
 obtain⟨f,h,r⟩:=h
 exact⟨f,h.mono hm,r⟩
set_option maxHeartbeats 16000000 in
theorem walk7_any {bc m nm b:Nat} {AF:Nat→Prop} {ff:List UInt8→Option Fn1} (hAF:∀ k,AF k→¬ Two bc b k) (hm1:m≠bc) (hm2:m≠b) (hm3:bc≠b):∀ (n:Nat) (x:Ex),szE x≤n→n≤1048576→lnE x→∀ (w:World) (A:Nat→Prop) (us:List Value) (tf:List UInt8→Int) (nb:Nat) (t:Int) (r:Int × Int),ExW w A x us→(∀ k,A k→¬ Two bc b k)→Fm w AF m nm ff→Ct w bc m (.map (some b)) r→Tn w b nb tf→nb+4*szE x≤17592186044416 →
  Calls Try.prog 31 #[.pointer (some ⟨bc,0,none⟩),.agg us.toArray,.int .i64 t] w fun e w'=>e=.returned (.tuple #[])∧Ct w' bc m (.map (some b)) (wtE ff tf x t r)∧Tn w' b (nb+4*szE x-4) tf∧ButS (Two bc b) w w':=by
 intro n
 induction n with
 |zero=>intro x h;have:=szE_pos x;omega
 |succ n ih=>
  intro x ht hn hw w A us tf nb t r hx hA hF hC hN hnb
  cases hx with
  |mk hl=>
   rename_i op name tail ty p q xs i ao c
   unfold lnE at hw
   rw[wfE_mk] at hw
   obtain⟨hnl,htl⟩:=shp_len hw.1
   have hop:=shp_ops hw.1
   rw[szE_mk] at ht hnb
   have hlen:=length_szL xs
   have hb0:=below_alloc w (.cells #[.int .i64 op,.string (bs name),.string (bs tail),.int .i64 ty,.complex .f64 (fl p) (fl q),.slice ao xs.length c,.int .i64 i] 40)
   have hL:=Bk.new w 40 #[.int .i64 op,.string (bs name),.string (bs tail),.int .i64 ty,.complex .f64 (fl p) (fl q),.slice ao xs.length c,.int .i64 i]
   have hU0:ButS (Two bc b) w (w.alloc (.cells #[.int .i64 op,.string (bs name),.string (bs tail),.int .i64 ty,.complex .f64 (fl p) (fl q),.slice ao xs.length c,.int .i64 i] 40)):=.below hb0
   have hwl:b<w.heap.size∧bc<w.heap.size:=⟨hN.lt,Bk.lt hC⟩
   have hF0:=hF.up hb0
   have hC0:=hC.up hb0
   have hN0:=hN.up hb0
   have hl0:=hl.up hb0
   go_enter Try.func31,Try.ntmps31
   go_upto_region 1 with fail
   generalize w.alloc (.cells #[.int .i64 op,.string (bs name),.string (bs tail),.int .i64 ty,.complex .f64 (fl p) (fl q),.slice ao xs.length c,.int .i64 i] 40)=W at *
   obtain⟨c0,c1,c2,c3,c4,c5,c6⟩:=Bk.seven (show Bk W w.heap.size 40 [_,_,_,_,_,_,_] from hL)
   have hho:=hasOwn_any W op (.string (bs name)) (.string (bs tail)) (.int .i64 ty) (.complex .f64 (fl p) (fl q)) (.slice ao xs.length c) (.int .i64 i)
   obtain⟨r1,hr1⟩:∃ r1,r1=seeT ff tf op name ty xs.length t i r:=⟨_,rfl⟩
   have HE:Hid (wtE ff tf (.mk op name tail ty p q xs i) t r=wtL ff tf op name tail ty t 0 xs r1):=by rw[hr1];exact wtE_mk ..
   have hml:name.length≤maxLen:=by unfold maxLen;omega
   have HP:Hid (op=1∨op=2∨op=3∨op=4∨op=5∨op=6∨op=7∨op=8∨op=9∨op=10∨op=11∨op=12∨op=13∨op=14∨op=15∨op=16∨op=17∨op=18∨op=19∨op=20∨op=21∨op=22):=hop
   have hwL:=hw.2
   clear hop hw hb0
   rename_i K1 hK1 K0 hK0
   have tail_:∀ (v10 v11 v12 v13 v14 v15 v16 v17 v18 v19 v20 v21 v22:Value) (w1:World),Ct w1 bc m (.map (some b)) r1→ButS (fun k=>k=bc) W w1→K1 { tmps:=#[.pointer (some ⟨bc,0,none⟩),.agg #[.int .i64 op,.string (bs name),.string (bs tail),.int .i64 ty,.complex .f64 (fl p) (fl q),.slice ao xs.length c,.int .i64 i],.int .i64 t,undef,.pointer (some ⟨w.heap.size,0,none⟩),undef,undef,undef,undef,undef,v10,v11,v12,v13,v14,v15,v16,v17,v18,v19,v20,v21,v22,undef,undef,undef,undef,undef,undef,undef,undef,undef,undef,undef,undef,undef,undef,undef,undef,undef,undef,undef,undef,undef,undef,undef,undef,undef,undef,undef,undef,undef,undef,undef,undef,undef],defers:=[] } w1:=by
    intro v10 v11 v12 v13 v14 v15 v16 v17 v18 v19 v20 v21 v22 w1 hC1 hO1
    have hO1':ButS (Two bc b) W w1:=hO1.mono fun k h=>.inl h
    have hL1:=hO1.bk hL (by omega)
    have hl1:=hO1'.el hl0 hA
    have hN1:=hN0.but hO1 (fun e=>hm3 e.symm)
    have hF1:=hF0.but hO1' (by unfold Two;omega) hAF
    have hU1:=hU0.trans hO1'
    have c5:w1.cell? ⟨w.heap.size,5,none⟩=some (.slice ao xs.length c):=hL1.cell 5
    clear hho hC hN hF hl hL hF0 hC0 hN0 hl0 hU0 hO1 hO1' c0 c1 c2 c3 c4 c6 hr1 hK0
    go_wp2_with fail
    go_loopw [26] (fun v wr=>∃ k:Nat,k≤xs.length∧v=.int .i64 k∧Ct wr bc m (.map (some b)) (wtL ff tf op name tail ty t 0 (xs.take k) r1)∧Tn wr b (nb+4*szL (xs.take k)) tf∧ButS (Two bc b) w1 wr) (fun v _=>xs.length-(intOf v).toNat)
    case atStart=>exact⟨0,Nat.zero_le _,rfl,by rw[List.take_zero,wtL_nil];exact hC1,by rw[List.take_zero,szL_nil];exact hN1,.refl _ _⟩
    case round=>
     obtain⟨k,hkn,rfl,hCk,hNk,hUk⟩:=hrel
     by_cases hlt:k<xs.length
     ·have hFk:=hF1.but hUk (by unfold Two;omega) hAF
      have hLk:=hUk.bk hL1 (by unfold Two;omega)
      have hlk:=hUk.el hl1 hA
      have hsz:=szE_at xs k hlt
      have hst:=szL_take xs k hlt
      have hsT:szL (xs.take (k+1))≤szL xs:=szL_le xs (k+1)
      have hwk:lnE (xs.getD k ed):=wfL_at xs hwL k hlt
      obtain⟨g,off,rfl⟩:=hlk.place (by intro e;simp[e] at hlt)
      obtain⟨vs,hv,hxv⟩:=hlk.at k hlt
      obtain⟨u0,u1,u2,u3,u4,u5,u6,rfl⟩:=list7 hxv.len
      obtain⟨d0,d1,d2,d3,d4,d5,d6⟩:=range7 hv
      have hZ:=Bk.new wr 40 #[.int .i64 0,.string ⟨#[]⟩,.string ⟨#[]⟩,.int .i64 0,.complex .f64 0 0,.slice none 0 0,.int .i64 0]
      have HS:Hid (wtL ff tf op name tail ty t 0 (xs.take (k+1)) r1=wtE ff (bindT tf (bnd7 op name tail ty k)) (xs.getD k ed) (wntT ff op name ty k t) (wtL ff tf op name tail ty t 0 (xs.take k) r1)):=by
       have:=wtL_step ff tf op name tail ty t xs 0 k r1 hlt
       rwa[Nat.zero_add] at this
      obtain⟨rk,hrk⟩:∃ rk,rk=wtL ff tf op name tail ty t 0 (xs.take k) r1:=⟨_,rfl⟩
      rw[← hrk] at hCk HS
      have hwr:w.heap.size<wr.heap.size:=hLk.lt
      clear hv hrk
      go_upto_region 6 with (refine wpList_storeN rfl 40 (.tmp 7) (.tmp 30) rfl wr.heap.size 0 [u0,u1,u2,u3,u4,u5,u6] rfl rfl hZ (Nat.le_refl 7) Try.infoE hxv.one ?_;intro w3 hB3 hO3)
      have hB3':Bk w3 wr.heap.size 40 [u0,u1,u2,u3,u4,u5,u6]:=hB3
      have hb3:Below wr.heap.size wr w3:=(below_alloc wr _).trans (hO3.below (Nat.le_refl _))
      have hU3:ButS (Two bc b) wr w3:=.below hb3
      have hF3:=hFk.up hb3
      have hC3:=hCk.up hb3
      have hN3:=hNk.up hb3
      have hL3:=hLk.up hb3
      have hx3:=hxv.up hb3
      clear hZ hB3 hO3 d0 d1 d2 d3 d4 d5 d6 hCk hNk hLk hFk hlk hxv
      obtain⟨c0,c1,c2,c3,c4,c5',c6⟩:=Bk.seven (show Bk w3 w.heap.size 40 [_,_,_,_,_,_,_] from hL3)
      have hbn:=boundIn7_any (w:=w3) op name tail ty (.complex .f64 (fl p) (fl q)) (.slice (some ⟨g,off,none⟩) xs.length c) (.int .i64 i) k
      obtain⟨B,hBd⟩:∃ B,B=bnd7 op name tail ty k:=⟨_,rfl⟩
      have hB2:=bnd7_len op name tail ty k
      have hBm:=bnd7_mem (op:=op) (ty:=ty) (i:=k) hnl htl
      rw[← hBd] at hbn HS hB2 hBm
      clear hBd
      go_wp2_with fail
      refine hbn.mono ?_
      rintro e w4 ⟨ao4,rfl,hP0,hb4⟩
      have hU4:ButS (Two bc b) w3 w4:=.below hb4
      have hF4:=hF3.up hb4
      have hC4:=hC3.up hb4
      have hN4:=hN3.up hb4
      have hL4:=hL3.up hb4
      have hV4:=hB3'.up hb4
      have hx4:=hx3.up hb4
      have hw3:wr.heap.size<w3.heap.size:=hB3'.lt
      have hP4:PlW w4 (fun j=>w3.heap.size≤j∧j<w4.heap.size) ao4 B:=hP0.imp fun j h hl=>⟨h,hl⟩
      clear hbn c0 c1 c2 c3 c4 c5' c6 hF3 hC3 hN3 hL3 hB3' hx3 hP0
      have ha:=bind7_any hN4 (cap:=B.length) hP4.q (fun j h=>⟨h.2,by omega⟩) hBm (by omega) (by omega)
      have cb:w4.cell? ⟨bc,1,none⟩=some (.map (some b)):=hC4.cell 1
      go_wp2_with fail
      refine ha.mono ?_
      rintro e w5 ⟨gb,bv,rfl,hgb,hbl,hV5,hbt,hN5,hO5⟩
      have hU5:ButS (Two bc b) w4 w5:=hO5.mono fun j h=>.inr h
      have hF5:=hF4.but hU5 (by unfold Two;omega) hAF
      have hC5:Ct w5 bc m (.map (some b)) rk:=hO5.bk hC4 (by omega)
      have hL5:=hU5.bk hL4 (by unfold Two;omega)
      have hX5:=hU5.bk hV4 (by unfold Two;omega)
      have hx5:=hU5.ex hx4 hA
      have hP5:PlW w5 (fun j=>w3.heap.size≤j∧j<w4.heap.size) ao4 B:=hP4.keep hO5.size fun j h hl=>hO5.block j hl (by omega)
      have hw4:=hb4.size
      have hw5:=hO5.size
      have hgl:=hV5.lt
      clear ha hO5 hF4 hC4 hN4 hL4 hV4 hx4 hP4 cb
      have hwant:∀ X,Below w5.heap.size w5 X→Calls Try.prog 54 #[.pointer (some ⟨bc,0,none⟩),.agg #[.int .i64 op,.string (bs name),.string (bs tail),.int .i64 ty,.complex .f64 (fl p) (fl q),.slice (some ⟨g,off,none⟩) xs.length c,.int .i64 i],.int .i64 k,.int .i64 t] X fun e w'=>e=.returned (.int .i64 (wntT ff op name ty k t))∧Below X.heap.size X w':=fun X hX=>
       wantedOf_any (hC5.up hX) (hF5.up hX) op name tail ty hml (.complex .f64 (fl p) (fl q)) (.slice (some ⟨g,off,none⟩) xs.length c) (.int .i64 i) k t HP.out
      have hrec:∀ X,Below w5.heap.size w5 X→Calls Try.prog 31 #[.pointer (some ⟨bc,0,none⟩),.agg #[u0,u1,u2,u3,u4,u5,u6],.int .i64 (wntT ff op name ty k t)] X fun e w'=>e=.returned (.tuple #[])∧Ct w' bc m (.map (some b)) (wtE ff (bindT tf B) (xs.getD k ed) (wntT ff op name ty k t) rk)∧Tn w' b (nb+4*szL (xs.take k)+B.length+4*szE (xs.getD k ed)-4) (bindT tf B)∧ButS (Two bc b) w5 w':=fun X hX=>
       (ih (xs.getD k ed) (by omega) (by omega) hwk X A [u0,u1,u2,u3,u4,u5,u6] (bindT tf B) (nb+4*szL (xs.take k)+B.length) (wntT ff op name ty k t) rk (hx5.up hX) hA (hF5.up hX) (hC5.up hX) (hN5.up hX) (by omega)).mono
        fun e w' h=>⟨h.1,h.2.1,h.2.2.1,(ButS.below hX).trans h.2.2.2⟩
      rw[← HS.out] at hrec
      obtain⟨wt,hwt⟩:∃ wt,wt=wntT ff op name ty k t:=⟨_,rfl⟩
      rw[← hwt] at hwant hrec
      obtain⟨rn,hrn⟩:∃ rn,rn=wtL ff tf op name tail ty t 0 (xs.take (k+1)) r1:=⟨_,rfl⟩
      rw[← hrn] at hrec
      have HN:Hid (rn=wtL ff tf op name tail ty t 0 (xs.take (k+1)) r1):=hrn
      have HB:Hid (∀ j,j<B.length→bv[j]?=some (.int .i64 (befT tf B j))):=hbt
      obtain⟨c0,c1,c2,c3,c4,c5',c6⟩:=Bk.seven (show Bk w5 w.heap.size 40 [_,_,_,_,_,_,_] from hL5)
      obtain⟨d0,d1,d2,d3,d4,d5,d6⟩:=Bk.seven (show Bk w5 wr.heap.size 40 [_,_,_,_,_,_,_] from hX5)
      clear hwt hrn hbt hx5 hC5 hN5 hF5 ih
      go_upto_region 8 with fail
      go_region_with (first
       |(go_at_call 54;refine (hwant _ (Below.refl _ w5).drew).mono ?_;rintro e w6 ⟨rfl,hb6⟩;have hB6:=Below.thn (Below.refl _ w5).drew hb6;obtain⟨e0,e1,e2,e3,e4,e5,e6⟩:=Bk.seven (show Bk w6 wr.heap.size 40 [_,_,_,_,_,_,_] from hX5.up hB6))
       |(go_at_call 31;refine (hrec _ hB6).mono ?_;rintro e w7 ⟨rfl,hC7,hN7,hU7⟩))
      all_goals
       have hP7:PlW w7 (fun j=>w3.heap.size≤j∧j<w4.heap.size) ao4 B:=hP5.keep hU7.size fun j h hl=>hU7.block j hl (by unfold Two;omega)
       have hV7:=hU7.bk hV5 (by unfold Two;omega)
       have hw7:=hU7.size
       have hszp:=szE_pos (xs.getD k ed)
       have ha:=unbind7_any hN7 hP7 (fun j h=>⟨by omega,by omega⟩) (cap:=B.length) (cb:=B.length) hV7 (by omega) HB.out hBm (by omega) (by omega)
       have cb:w7.cell? ⟨bc,1,none⟩=some (.map (some b)):=hC7.cell 1
       clear hwant hrec hB6 hb6 e0 e1 e2 e3 e4 e5 e6 c0 c1 c2 c3 c4 c5' c6 d0 d1 d2 d3 d4 d5 d6 hP7 hV7 hP5 hV5 hL5 hX5
       go_wp2_with fail
       refine ha.mono ?_
       rintro e w8 ⟨rfl,hN8,hO8⟩
       have hC8:Ct w8 bc m (.map (some b)) rn:=hO8.bk hC7 (by omega)
       have hU8:ButS (Two bc b) w7 w8:=hO8.mono fun j h=>.inr h
       have hUe:=(((hUk.trans hU3).trans hU4).trans hU5).trans (hU7.trans hU8)
       have hN8':Tn w8 b (nb+4*szL (xs.take (k+1))) tf:=hN8.mono (by omega)
       rw[HN.out] at hC8
       clear ha cb
       go_wp2_with fail
       go_roundw
       case rel=>exact⟨k+1,by omega,by go_num,hC8,hN8',hUe⟩
       case measure=>simp[intOf];omega
     ·have hke:k=xs.length:=by omega
      subst hke
      rw[List.take_length] at hCk hNk
      have hU2:=hU1.trans hUk
      go_wp2_with fail
      go_end0
      refine⟨rfl,by rw[HE.out];exact hCk,by rw[szE_mk];exact hNk.mono (by omega),hU2⟩
   clear hK1
   by_cases ho:ownB op=true
   ·rw[ho] at hho
    go_wp2_with fail
    refine hho.mono ?_
    rintro e w1 ⟨rfl,hb1⟩
    have hL1:=hL.up hb1
    have hC1:=hC0.up hb1
    have hF1:=hF0.up hb1
    have hN1:=hN0.up hb1
    obtain⟨c0,c1,c2,c3,c4,c5,c6⟩:=Bk.seven (show Bk w1 w.heap.size 40 [_,_,_,_,_,_,_] from hL1)
    have how:=own7_any hC1 hF1 hN1 op name tail ty hml (.complex .f64 (fl p) (fl q)) ao xs.length c (.int .i64 i) HP.out
    obtain⟨o,hO⟩:∃ o,o=ownT ff tf op name ty xs.length:=⟨_,rfl⟩
    rw[← hO] at how
    have hR:r1=if ¬ o=t then tellT r i else r:=by
     rw[hr1,hO]
     unfold seeT
     simp[ho]
    have HR:Hid (r1=if ¬ o=t then tellT r i else r):=hR
    clear hO hr1 ho hho hR
    go_wp2_with fail
    refine how.mono ?_
    rintro e w2 ⟨rfl,hb2⟩
    have hL2:=hL1.up hb2
    have hC2:=hC1.up hb2
    have hB2:Below W.heap.size W w2:=Below.thn hb1 hb2
    have c6:w2.cell? ⟨w.heap.size,6,none⟩=some (.int .i64 i):=hL2.cell 6
    clear how hC1 hF1 hN1 hL1
    by_cases hq:o=t
    ·have g:(o==t)=true:=by simpa using hq
     have hr:=HR.out
     rw[if_neg (by simp[hq])] at hr
     subst hr
     clear hq HR
     go_wp2_with fail
     exact tail_ _ _ _ _ _ _ _ _ _ _ _ _ _ _ hC2 (.below hB2)
    ·have g:(o==t)=false:=by simpa using hq
     have hr:=HR.out
     rw[if_pos hq] at hr
     subst hr
     have hte:=tell7_any hC2 (i:Int)
     clear hq HR
     go_wp2_with fail
     refine hte.mono ?_
     rintro e w3 ⟨rfl,hC3,hO3⟩
     go_wp2_with fail
     exact tail_ _ _ _ _ _ _ _ _ _ _ _ _ _ _ hC3 ((ButS.below hB2).trans (.oth hO3))
   ·have hf:ownB op=false:=by simpa using ho
    rw[hf] at hho
    have hr:r1=r:=by rw[hr1];unfold seeT;simp[hf]
    subst hr
    clear hr1 ho hf
    go_wp2_with fail
    refine hho.mono ?_
    rintro e w2 ⟨rfl,hb2⟩
    have hC2:=hC0.up hb2
    go_wp2_with fail
    exact tail_ _ _ _ _ _ _ _ _ _ _ _ _ _ _ hC2 (.below hb2)
end Go.Proofs.Ytkbglnhdbnijlaa
namespace Go.Proofs.Ytkbglnhdbnijlaa
open Go.RowKit Go.Maps
set_option maxRecDepth 100000
theorem Tn.made (w:World):Tn (w.alloc (.map #[] 0)) w.heap.size 0 fun _=>0:=⟨_,MapW.made w Try.prog 9,fun _=>rfl⟩
def lkT (ff:List UInt8→Option Fn1) (ps:List Pm) (x:Ex) (t:Int) (p:Int × Int):Int × Int:=wtE ff (bindT (fun _=>0) ps) x t p
set_option maxHeartbeats 8000000 in
theorem look7_any {w:World} {bc m nm:Nat} {AF:Nat→Prop} {ff:List UInt8→Option Fn1} {nv:Value} {r:Int × Int} (hC:Ct w bc m nv r) (hF:Fm w AF m nm ff) (hm1:m≠bc) (hml:m<w.heap.size) (hAF:∀ k,AF k→k<w.heap.size∧k≠bc) {A:Nat→Prop} {ao:Option Addr} {cap:Nat} {ps:List Pm} (hP:PqW w A ao ps) (hA:∀ k,A k→k<w.heap.size∧k≠bc)
  {Ax:Nat→Prop} {x:Ex} {us:List Value} (hx:ExW w Ax x us) (hAx:∀ k,Ax k→k<w.heap.size∧k≠bc) (hw:lnE x) (hsz:szE x≤1048576) (hln:∀ p∈ps,p.name.length≤140737488355328) (hl:ps.length≤8796093022208) (t:Int) :
  Calls Try.prog 21 #[.pointer (some ⟨bc,0,none⟩),.slice ao ps.length cap,.agg us.toArray,.int .i64 t] w fun e w'=>e=.returned (.tuple #[])∧(∃ nv',Ct w' bc m nv' (lkT ff ps x t r))∧ButS (·=bc) w w':=by
 obtain⟨u0,u1,u2,u3,u4,u5,u6,rfl⟩:=list7 hx.len
 have hmm:=@run_makeMap Try.prog
 have hbw:bc<w.heap.size:=Bk.lt hC
 have hb0:=below_alloc w (.cells #[u0,u1,u2,u3,u4,u5,u6] 40)
 have hL:=Bk.new w 40 #[u0,u1,u2,u3,u4,u5,u6]
 have hW0:(w.alloc (.cells #[u0,u1,u2,u3,u4,u5,u6] 40)).heap.size=w.heap.size+1:=by simp
 go_enter Try.func21,Try.ntmps21
 go_upto_region 1 with fail
 generalize w.alloc (.cells #[u0,u1,u2,u3,u4,u5,u6] 40)=W at *
 have hC0:=hC.up hb0
 have hO1:=(Oth.refl bc W).set 1 (.map (some (w.heap.size+1)))
 have hC1:Ct (W.setCell ⟨bc,1,none⟩ (.map (some (w.heap.size+1)))) bc m (.map (some (w.heap.size+1))) r:=Bk.set hC0 1 (.map (some (w.heap.size+1)))
 have c1:W.cell? ⟨bc,1,none⟩=some nv:=hC0.cell 1
 have f1:=hC0.frz 1
 have hsz1:(W.setCell ⟨bc,1,none⟩ (.map (some (w.heap.size+1)))).heap.size=w.heap.size+1:=by rw[hO1.size];exact hW0
 have hb2:=below_alloc (W.setCell ⟨bc,1,none⟩ (.map (some (w.heap.size+1)))) (.map #[] 0)
 have hT2:=Tn.made (W.setCell ⟨bc,1,none⟩ (.map (some (w.heap.size+1))))
 rw[hsz1] at hT2
 have hsz2:((W.setCell ⟨bc,1,none⟩ (.map (some (w.heap.size+1)))).alloc (.map #[] 0)).heap.size=w.heap.size+2:=by rw[World.size_alloc,hsz1]
 go_upto_region 2 with fail
 have hU2:ButS (·=bc) w ((W.setCell ⟨bc,1,none⟩ (.map (some (w.heap.size+1)))).alloc (.map #[] 0)):=((ButS.below hb0).trans (.oth hO1)).trans (.below hb2)
 have hC2:=hC1.up hb2
 have hL2:=((ButS.oth hO1).bk hL (by omega)).up hb2
 generalize (W.setCell ⟨bc,1,none⟩ (.map (some (w.heap.size+1)))).alloc (.map #[] 0)=W2 at *
 have hF2:=hF.but hU2 hm1 fun k h=>(hAF k h).2
 have hx2:=hU2.ex hx fun k h=>(hAx k h).2
 have hP2:PqW W2 A ao ps:=hP.keep hU2.size fun k h hl=>hU2.block k hl (hA k h).2
 have cb:W2.cell? ⟨bc,1,none⟩=some (.map (some (w.heap.size+1))):=hC2.cell 1
 have ha:=bind7_any hT2 (cap:=cap) hP2 (fun k h=>⟨by have:=(hA k h).1;omega,by have:=(hA k h).1;omega⟩) hln hl (by omega)
 clear hC hF hx hP hC0 hC1 c1 f1 hO1 hb0 hb2 hL hmm
 go_wp2_with fail
 refine ha.mono ?_
 rintro e w3 ⟨gb,bv,rfl,hgb,hbl,hV3,hbt,hT3,hO3⟩
 have hC3:Ct w3 bc m (.map (some (w.heap.size+1))) r:=hO3.bk hC2 (by omega)
 have hL3:=hO3.bk hL2 (by omega)
 have hF3:=hF2.but hO3 (by omega) fun k h=>by have:=(hAF k h).1;omega
 have hx3:=hO3.ex hx2 fun k h=>by have:=(hAx k h).1;omega
 have hwk:=walk7_any (bc:=bc) (b:=w.heap.size+1) (AF:=AF) (ff:=ff) (m:=m) (nm:=nm) (fun k h=>by have:=hAF k h;unfold Two;omega) hm1 (by omega) (by omega) 1048576 x hsz (Nat.le_refl _) hw w3 Ax [u0,u1,u2,u3,u4,u5,u6] (bindT (fun _=>0) ps) (0+ps.length) t r hx3 (fun k h=>by have:=hAx k h;unfold Two;omega) hF3 hC3 hT3 (by omega)
 obtain⟨d0,d1,d2,d3,d4,d5,d6⟩:=Bk.seven (show Bk w3 w.heap.size 40 [_,_,_,_,_,_,_] from hL3)
 clear ha hbt hV3 hbl hgb hF2 hx2 hP2 hC2 hL2 cb hT2 hF3 hx3 hC3 hT3 hL3
 go_wp2_with fail
 refine hwk.mono ?_
 rintro e w4 ⟨rfl,hC4,_,hU4⟩
 have hUe:ButS (·=bc) w w4:=⟨hU4.os.trans (hO3.os.trans hU2.os),hU4.tape.trans (hO3.tape.trans hU2.tape),hU4.output.trans (hO3.output.trans hU2.output),Nat.le_trans hU2.size (Nat.le_trans hO3.size hU4.size),fun k hk hn=>((hU4.block k (by have:=hU2.size;have:=hO3.size;omega) (by unfold Two;omega)).trans (hO3.block k (by have:=hU2.size;omega) (by omega))).trans (hU2.block k hk hn)⟩
 clear hwk d0 d1 d2 d3 d4 d5 d6
 go_wp2_with fail
 go_end0
 exact⟨rfl,⟨_,hC4⟩,hUe⟩
end Go.Proofs.Ytkbglnhdbnijlaa
