/-
  3 texts in one: what each proves stands at its head.
-/
import Derived.Test.YtimoappbefindaaGreatUk
namespace Go.Proofs.YtimoappbefindaaGreat
set_option maxHeartbeats 8000000
open Go.RowKit Go.Maps
set_option maxRecDepth 100000
abbrev cnt (env:List (List UInt8)) (s:List UInt8):Nat:=env.count s
mutual
def wkE (pf:List UInt8→Option Nat) (env:List (List UInt8)):Ex→Int × Int→Int × Int
 |.mk op name tail _ _ _ xs i,p=>wkL pf env op name tail 0 xs (seeP pf (cnt env) op name xs.length i p)
def wkL (pf:List UInt8→Option Nat) (env:List (List UInt8)) (op:Int) (name tail:List UInt8) (i:Nat):List Ex→Int × Int→Int × Int
 |[],p=>p
 |x::xs,p=>wkL pf env op name tail (i+1) xs (wkE pf (bnd6 op name tail i++env) x p)
end
section
variable (pf:List UInt8→Option Nat) (env:List (List UInt8)) (op:Int) (name tail:List UInt8)
theorem rC (ty p q:Int) (xs:List Ex) (i:Nat) (r:Int × Int):wkE pf env (.mk op name tail ty p q xs i) r=wkL pf env op name tail 0 xs (seeP pf (cnt env) op name xs.length i r):=by rw[wkE]
theorem lh (i:Nat) (p:Int × Int):wkL pf env op name tail i [] p=p:=by rw[wkL]
theorem gz (i:Nat) (x:Ex) (xs:List Ex) (p:Int × Int):wkL pf env op name tail i (x::xs) p=wkL pf env op name tail (i+1) xs (wkE pf (bnd6 op name tail i++env) x p):=by rw[wkL]
theorem oD:∀ (xs:List Ex) (i k:Nat) (p:Int × Int),k<xs.length→wkL pf env op name tail i (xs.take (k+1)) p=wkE pf (bnd6 op name tail (i+k)++env) (xs.getD k ed) (wkL pf env op name tail i (xs.take k) p)
 |[],_,_,_,h=>by simp at h
 |x::xs,i,0,p,_=>by simp[gz,lh]
 |x::xs,i,k+1,p,h=>by
  rw[List.take_succ_cons,gz,oD xs (i+1) k _ (by simpa using h),List.take_succ_cons,gz,List.getD_cons_succ,show i+1+k=i+(k+1) by omega]
end
theorem fZ:∀ (xs:List Ex) (k:Nat),k<xs.length→szL (xs.take (k+1))=szL (xs.take k)+szE (xs.getD k ed)
 |[],_,h=>by simp at h
 |x::xs,0,_=>by simp[aO,bG]
 |x::xs,k+1,h=>by
  rw[List.take_succ_cons,aO,fZ xs k (by simpa using h),List.take_succ_cons,aO,List.getD_cons_succ]
  omega
theorem oH (op:Int) (name tail:List UInt8) (i:Nat):(bnd6 op name tail i).length≤2:=by
 unfold bnd6
 split
 ·simp
 ·split<;>simp
abbrev lnE:Ex→Prop:=wfE (fun s=>s.length≤140737488355328) (fun _ _=>True)
theorem qd {op:Int} {a b:List UInt8} {t p q:Int} {n:Nat} (h:Shp (fun s=>s.length≤140737488355328) (fun _ _=>True) op a b t p q n):a.length≤140737488355328∧b.length≤140737488355328:=by
 cases h<;>simp_all
theorem bnd6_mem {op:Int} {name tail:List UInt8} {i:Nat} (h1:name.length≤140737488355328) (h2:tail.length≤140737488355328):∀ s∈bnd6 op name tail i,s.length≤140737488355328:=by
 unfold bnd6
 split
 ·simp_all
 ·split<;>simp_all
theorem ButS.el {S:Nat→Prop} {w w':World} (h:ButS S w w') {A:Nat→Prop} {ao:Option Addr} {xs:List Ex} (hx:ElW w A ao xs) (hA:∀ b,A b→¬ S b):ElW w' A ao xs:=hx.keep fun b hb hl=>h.block b hl (hA b hb)
theorem Ns.but {S:Nat→Prop} {w w':World} {ao:Option Addr} {xs:List (List UInt8)} (h:Ns w ao xs) (hu:ButS S w w') (hn:∀ g off,ao=some ⟨g,off,none⟩→¬ S g):Ns w' ao xs:=fun j s hj=>by
 obtain⟨g,off,e,hc⟩:=h j s hj
 refine⟨g,off,e,?_⟩
 rw[← hc]
 unfold World.cell?
 rw[hu.block g (cu hc) (hn g off e)]
theorem mq:∀ (xs:List Ex) (k:Nat),szL (xs.take k)≤szL xs
 |[],k=>by simp
 |x::xs,0=>by rw[List.take_zero,bG];omega
 |x::xs,k+1=>by
  have:=mq xs k
  rw[List.take_succ_cons,aO,aO]
  omega
theorem cZ (l:List (List UInt8)) (s:List UInt8) (k:Nat) (hk:k<l.length):(l.take (k+1)).count s=(l.take k).count s+if l.getD k []=s then 1 else 0:=by
 rw[List.take_succ_eq_append_getElem hk,List.count_append,List.getD_eq_getElem?_getD,List.getElem?_eq_getElem hk]
 simp[List.count_cons]
theorem count_le (l:List (List UInt8)) (s:List UInt8) (k:Nat):(l.take k).count s≤l.count s:=(List.take_sublist k l).count_le s
def Two (b c:Nat) (k:Nat):Prop:=k=b∨k=c
structure Rig (w:World) (bc m nm b ba bp:Nat) (pf:List UInt8→Option Nat):Prop where
 P:Pm6 w m nm pf
 A:Bk w ba 123 [.map (some b)]
 p:Bk w bp 120 [.pointer (some ⟨bc,0,none⟩)]
 ne:m≠bc∧m≠b∧ba≠bc∧ba≠b∧bp≠bc∧bp≠b∧bc≠b
theorem Rig.but {w w':World} {bc m nm b ba bp:Nat} {pf:List UInt8→Option Nat} (h:Rig w bc m nm b ba bp pf) (hu:ButS (Two bc b) w w'):Rig w' bc m nm b ba bp pf:=by
 obtain⟨h1,h2,h3,h4,h5,h6,h7⟩:=h.ne
 exact⟨h.P.but hu (by unfold Two;omega),hu.bk h.A (by unfold Two;omega),hu.bk h.p (by unfold Two;omega),h.ne⟩
theorem walk6_any {bc m nm b ba bp:Nat} {pf:List UInt8→Option Nat}:∀ (n:Nat) (x:Ex),szE x≤n→n≤65536→lnE x→∀ (w:World) (A:Nat→Prop) (us:List Value) (env:List (List UInt8)) (nb:Nat) (r:Int × Int),ExW w A x us→(∀ k,A k→¬ Two bc b k)→Rig w bc m nm b ba bp pf→Ck w bc m r→Cn w b nb (cnt env)→nb+4*szE x≤549755813888→env.length+2*szE x≤549755813888 →
  Calls Tryz.prog 60 #[.map (some b),.agg us.toArray,.func (.func 61) #[] #[.pointer (some ⟨ba,0,none⟩),.pointer (some ⟨bp,0,none⟩)]] w fun e w'=>e=.returned (.tuple #[])∧Ck w' bc m (wkE pf env x r)∧Cn w' b (nb+4*szE x-4) (cnt env)∧ButS (Two bc b) w w':=by
 intro n
 induction n with
 |zero=>intro x h;have:=eu x;omega
 |succ n ih=>
  intro x ht hn hw w A us env nb r hx hA hR hC hN hnb hen
  cases hx with
  |mk hl=>
   rename_i op name tail ty p q xs i ao c
   unfold lnE at hw
   rw[dW] at hw
   obtain⟨hnl,htl⟩:=qd hw.1
   rw[bP] at ht hnb hen
   have hlen:=dH xs
   have hb0:=ae w (.cells #[.int .i64 op,.string (bs name),.string (bs tail),.int .i64 ty,.complex .f64 (fl p) (fl q),.slice ao xs.length c,.int .i64 i] 58)
   have hL:=Bk.new w 58 #[.int .i64 op,.string (bs name),.string (bs tail),.int .i64 ty,.complex .f64 (fl p) (fl q),.slice ao xs.length c,.int .i64 i]
   have hU0:ButS (Two bc b) w (w.alloc (.cells #[.int .i64 op,.string (bs name),.string (bs tail),.int .i64 ty,.complex .f64 (fl p) (fl q),.slice ao xs.length c,.int .i64 i] 58)):=.below hb0
   have hwl:b<w.heap.size∧bc<w.heap.size:=⟨hN.lt,Bk.lt hC⟩
   have hR0:=hR.but hU0
   have hC0:=hC.up hb0
   have hN0:=hN.up hb0
   have hl0:=hl.up hb0
   go_enter Tryz.func60,Tryz.ntmps60
   go_upto_region 1 with fail
   generalize w.alloc (.cells #[.int .i64 op,.string (bs name),.string (bs tail),.int .i64 ty,.complex .f64 (fl p) (fl q),.slice ao xs.length c,.int .i64 i] 58)=W at *
   obtain⟨c0,c1,c2,c3,c4,c5,c6⟩:=Bk.seven (show Bk W w.heap.size 58 [_,_,_,_,_,_,_] from hL)
   have hm:=meet6_any hC0 hR0.P hN0 hR0.A hR0.p op name (by unfold maxLen;omega) (.string (bs tail)) (.int .i64 ty) (.complex .f64 (fl p) (fl q)) ao xs.length c i
   go_wp2_with fail
   refine hm.mono ?_
   rintro e w1 ⟨rfl,hC1,hO1⟩
   have hO1':ButS (Two bc b) W w1:=hO1.mono fun k h=>.inl h
   obtain⟨n1,n2,n3,n4,n5,n6,n7⟩:=hR.ne
   have hL1:=hO1.bk hL (by omega)
   have hl1:=hO1'.el hl0 hA
   have hN1:=hN0.but hO1 (fun e=>n7 e.symm)
   have hR1:=hR0.but hO1'
   have hU1:=hU0.trans hO1'
   obtain⟨r1,hr1⟩:∃ r1,r1=seeP pf (cnt env) op name xs.length i r:=⟨_,rfl⟩
   rw[← hr1] at hC1
   have HE:Hid (wkE pf env (.mk op name tail ty p q xs i) r=wkL pf env op name tail 0 xs r1):=by rw[hr1];exact rC ..
   have c5:w1.cell? ⟨w.heap.size,5,none⟩=some (.slice ao xs.length c):=hL1.cell 5
   clear hm hC hN hR hl hb0 hL hR0 hC0 hN0 hl0 hU0 hO1 hO1' c0 c1 c2 c3 c4 c6 hr1
   go_wp2_with fail
   go_loopw [15] (fun v wr=>∃ k:Nat,k≤xs.length∧v=.int .i64 k∧Ck wr bc m (wkL pf env op name tail 0 (xs.take k) r1)∧Cn wr b (nb+4*szL (xs.take k)) (cnt env)∧ButS (Two bc b) w1 wr) (fun v _=>xs.length-(intOf v).toNat)
   case atStart=>exact⟨0,Nat.zero_le _,rfl,by rw[List.take_zero,lh];exact hC1,by rw[List.take_zero,bG];exact hN1,.refl _ _⟩
   case round=>
    obtain⟨k,hkn,rfl,hCk,hNk,hUk⟩:=hrel
    by_cases hlt:k<xs.length
    ·have hRk:=hR1.but hUk
     have hLk:=hUk.bk hL1 (by unfold Two;omega)
     have hlk:=hUk.el hl1 hA
     have hsz:=lw xs k hlt
     have hst:=fZ xs k hlt
     have hsT:szL (xs.take (k+1))≤szL xs:=mq xs (k+1)
     have hwk:lnE (xs.getD k ed):=qp xs hw.2 k hlt
     obtain⟨g,off,rfl⟩:=hlk.place (by intro e;simp[e] at hlt)
     obtain⟨vs,hv,hxv⟩:=hlk.at k hlt
     obtain⟨u0,u1,u2,u3,u4,u5,u6,rfl⟩:=aQ hxv.len
     obtain⟨d0,d1,d2,d3,d4,d5,d6⟩:=oU hv
     have hZ:=Bk.new wr 58 #[.int .i64 0,.string ⟨#[]⟩,.string ⟨#[]⟩,.int .i64 0,.complex .f64 0 0,.slice none 0 0,.int .i64 0]
     have HS:Hid (wkL pf env op name tail 0 (xs.take (k+1)) r1=wkE pf (bnd6 op name tail k++env) (xs.getD k ed) (wkL pf env op name tail 0 (xs.take k) r1)):=by
      have:=oD pf env op name tail xs 0 k r1 hlt
      rwa[Nat.zero_add] at this
     obtain⟨rk,hrk⟩:∃ rk,rk=wkL pf env op name tail 0 (xs.take k) r1:=⟨_,rfl⟩
     rw[← hrk] at hCk HS
     have hwr:w.heap.size<wr.heap.size:=hLk.lt
     clear hv
     go_upto_region 5 with (refine ah rfl 58 (.tmp 7) (.tmp 19) rfl wr.heap.size 0 [u0,u1,u2,u3,u4,u5,u6] rfl rfl hZ (Nat.le_refl 7) Tryz.infoE hxv.one ?_;intro w3 hB3 hO3)
     have hB3':Bk w3 wr.heap.size 58 [u0,u1,u2,u3,u4,u5,u6]:=hB3
     have hb3:Below wr.heap.size wr w3:=(ae wr _).trans (hO3.below (Nat.le_refl _))
     have hU3:ButS (Two bc b) wr w3:=.below hb3
     have hR3:=hRk.but hU3
     have hC3:=hCk.up hb3
     have hN3:=hNk.up hb3
     have hL3:=hLk.up hb3
     have hx3:=hxv.up hb3
     clear hZ hB3 hO3 d0 d1 d2 d3 d4 d5 d6 hCk hNk hLk hRk hlk hxv
     obtain⟨c0,c1,c2,c3,c4,c5',c6⟩:=Bk.seven (show Bk w3 w.heap.size 58 [_,_,_,_,_,_,_] from hL3)
     have hbn:=boundIn6_any (w:=w3) op name tail (.int .i64 ty) (.complex .f64 (fl p) (fl q)) (.slice (some ⟨g,off,none⟩) xs.length c) (.int .i64 i) k
     obtain⟨B,hBd⟩:∃ B,B=bnd6 op name tail k:=⟨_,rfl⟩
     have hB2:=oH op name tail k
     have hBm:=bnd6_mem (op:=op) (i:=k) hnl htl
     rw[← hBd] at hbn HS hB2 hBm
     clear hBd
     go_wp2_with fail
     refine hbn.mono ?_
     rintro e w4 ⟨ao4,rfl,hs4,hge,hb4⟩
     have hU4:ButS (Two bc b) w3 w4:=.below hb4
     have hR4:=hR3.but hU4
     have hC4:=hC3.up hb4
     have hN4:=hN3.up hb4
     have hL4:=hL3.up hb4
     have hV4:=hB3'.up hb4
     have hx4:=hx3.up hb4
     have hw3:wr.heap.size<w3.heap.size:=hB3'.lt
     have hge4:∀ g' off',ao4=some ⟨g',off',none⟩→¬ Two bc b g':=fun g' off' h=>by have:=hge g' off' h;unfold Two;omega
     clear hbn c0 c1 c2 c3 c4 c5' c6 hR3 hC3 hN3 hL3 hB3' hx3
     have ha:=iH hN4 1 ao4 B.length B hs4 (fun g' off' h e=>hge4 g' off' h (.inr e)) (fun s h=>by have:=hBm s h;unfold maxLen;omega) (by omega) (by omega) (fun s j=>cnt env s+(B.take j).count s) (fun s=>by simp) (fun s j hj=>by rw[cZ B s j hj];split<;>omega)
      (fun s j=>by have:=count_le B s j;have:=List.count_le_length (a:=s) (l:=B);have:=List.count_le_length (a:=s) (l:=env);show env.count s+_≤_;omega)
     go_wp2_with fail
     refine ha.mono ?_
     rintro e w5 ⟨rfl,hN5,hO5⟩
     have hU5:ButS (Two bc b) w4 w5:=hO5.mono fun k h=>.inr h
     have hR5:=hR4.but hU5
     have hC5:Ck w5 bc m rk:=hO5.bk hC4 (by omega)
     have hL5:=hU5.bk hL4 (by unfold Two;omega)
     have hV5:=hU5.bk hV4 (by unfold Two;omega)
     have hx5:=hU5.ex hx4 hA
     have hs5:=hs4.but hU5 hge4
     have hN5':Cn w5 b (nb+4*szL (xs.take k)+B.length) (cnt (B++env)):=hN5.congr fun s=>by show (B++env).count s=env.count s+(B.take B.length).count s;rw[List.count_append,List.take_length];omega
     clear ha hN5 hO5 hR4 hC4 hN4 hL4 hV4 hx4 hs4
     obtain⟨v0,v1,v2,v3,v4,v5,v6⟩:=Bk.seven (show Bk w5 wr.heap.size 58 [_,_,_,_,_,_,_] from hV5)
     have hrec:=ih (xs.getD k ed) (by omega) (by omega) hwk w5 A [u0,u1,u2,u3,u4,u5,u6] (B++env) (nb+4*szL (xs.take k)+B.length) rk hx5 hA hR5 hC5 hN5' (by omega) (by rw[List.length_append];omega)
     go_wp2_with fail
     refine hrec.mono ?_
     rintro e w6 ⟨rfl,hC6,hN6,hU6⟩
     have hs6:=hs5.but hU6 hge4
     rw[← HS.out] at hC6
     have hszp:=eu (xs.getD k ed)
     clear hrec v0 v1 v2 v3 v4 v5 v6 hN5' hC5 hL5 hV5 hx5 hs5
     have ha:=iH hN6 (-1) ao4 B.length B hs6 (fun g' off' h e=>hge4 g' off' h (.inr e)) (fun s h=>by have:=hBm s h;unfold maxLen;omega) (by omega) (by omega) (fun s j=>cnt (B++env) s-(B.take j).count s) (fun s=>by simp)
      (fun s j hj=>by have h1:=cZ B s j hj;have h2:=count_le B s (j+1);have h3:cnt (B++env) s=B.count s+env.count s:=List.count_append;rw[h3];split<;>rename_i h4<;>simp only[h4,if_true,if_false] at h1<;>omega)
      (fun s j=>by have:=List.count_le_length (a:=s) (l:=B++env);rw[List.length_append] at this;show (B++env).count s-_≤_;omega)
     go_wp2_with fail
     refine ha.mono ?_
     rintro e w7 ⟨rfl,hN7,hO7⟩
     have hC7:Ck w7 bc m _:=hO7.bk hC6 (by omega)
     have hU7:ButS (Two bc b) w6 w7:=hO7.mono fun k h=>.inr h
     have hUe:=(((hUk.trans hU3).trans hU4).trans hU5).trans (hU6.trans hU7)
     have hN7':Cn w7 b (nb+4*szL (xs.take (k+1))) (cnt env):=(hN7.mono (by omega)).congr fun s=>by
      show env.count s=(B++env).count s-(B.take B.length).count s
      rw[List.count_append,List.take_length]
      omega
     clear ha
     go_wp2_with fail
     go_roundw
     case rel=>exact⟨k+1,by omega,by go_num,hC7,hN7',hUe⟩
     case measure=>simp[intOf];omega
    ·have hke:k=xs.length:=by omega
     subst hke
     rw[List.take_length] at hCk hNk
     have hU2:=hU1.trans hUk
     go_wp2_with fail
     go_end0
     refine⟨rfl,by rw[HE.out];exact hCk,by rw[bP];exact hNk.mono (by omega),hU2⟩
def prmL (env:List (List UInt8)):List Pm→Int × Int→Int × Int
 |[],p=>p
 |x::xs,p=>prmL (env++[x.name]) xs (if 0<env.count x.name then bR p.1 p.2 30 x.pos else p)
def nmsP (ps:List Pm):List (List UInt8):=ps.map (·.name)
theorem iR:∀ (xs:List Pm) (env:List (List UInt8)) (k:Nat) (p:Int × Int),k<xs.length →
  prmL env (xs.take (k+1)) p=if 0<(env++nmsP (xs.take k)).count (xs.getD k pd).name then bR (prmL env (xs.take k) p).1 (prmL env (xs.take k) p).2 30 (xs.getD k pd).pos else prmL env (xs.take k) p
 |[],_,_,_,h=>by simp at h
 |x::xs,env,0,p,_=>by simp[prmL,nmsP]
 |x::xs,env,k+1,p,h=>by
  rw[List.take_succ_cons,prmL,iR xs _ k _ (by simpa using h),List.take_succ_cons,prmL,List.getD_cons_succ]
  simp[nmsP]
theorem lX (xs:List Pm) (k:Nat) (h:k<xs.length):nmsP (xs.take (k+1))=nmsP (xs.take k)++[(xs.getD k pd).name]:=by
 unfold nmsP
 rw[List.take_succ_eq_append_getElem h,List.map_append,List.getD_eq_getElem?_getD,List.getElem?_eq_getElem h]
 rfl
theorem rX (ps:List Pm) (k:Nat) (n1 s:List UInt8) (j:Nat) (hps:ps.length≤65536):cnt (nmsP (ps.take k)) s+([n1].take j).count s≤1099511627776:=by
 have h1:=count_le [n1] s j
 have h2:=List.count_le_length (a:=s) (l:=[n1])
 have h3:=List.count_le_length (a:=s) (l:=nmsP (ps.take k))
 have h4:(nmsP (ps.take k)).length≤65536:=by unfold nmsP;rw[List.length_map,List.length_take];omega
 rw[List.length_singleton] at h2
 show (nmsP (ps.take k)).count s+_≤_
 omega
def winP (pf:List UInt8→Option Nat) (g:Fn1) (p:Int × Int):Int × Int:=wkE pf (nmsP g.pms) g.body (prmL [] g.pms p)
abbrev lnF:Fn1→Prop:=WfF (fun s=>s.length≤140737488355328) (fun _ _=>True)
theorem Tryz.infoP3:(Tryz.prog.info? 125).map (·.size)=some 3:=by kernel_rfl
theorem within6_any {w:World} {bc m nm:Nat} {pf:List UInt8→Option Nat} {A:Nat→Prop} {g:Fn1} {us:List Value} {r:Int × Int} (hF:FnW w A g us) (hA:∀ k,A k→k<w.heap.size∧k≠bc) (hC:Ck w bc m r) (hP:Pm6 w m nm pf) (hne:m≠bc) (hln:lnF g) (hsz:szE g.body≤65536) (hps:g.pms.length≤65536) :
  Calls Tryz.prog 40 #[.pointer (some ⟨bc,0,none⟩),.agg us.toArray] w fun e w'=>e=.returned (.tuple #[])∧Ck w' bc m (winP pf g r)∧ButS (·=bc) w w':=by
 obtain⟨ao,c,es,rfl,hp1,he1⟩:=hF
 obtain⟨name,ps,ty,body,i⟩:=g
 dsimp only at hp1 he1 hsz hps
 obtain⟨x0,x1,x2,x3,x4,x5,x6,rfl⟩:=aQ he1.len
 simp only[List.cons_append,List.nil_append]
 have hbw:bc<w.heap.size:=Bk.lt hC
 have hmw:m<w.heap.size:=hP.lt
 have hb0:=bC w (.cells #[.pointer (some ⟨bc,0,none⟩)] 120) (.cells #[.string (bs name),.slice ao ps.length c,.int .i64 ty,x0,x1,x2,x3,x4,x5,x6,.int .i64 i] 60)
 have hB0:=(Bk.new w 120 #[.pointer (some ⟨bc,0,none⟩)]).up (ae _ (.cells #[.string (bs name),.slice ao ps.length c,.int .i64 ty,x0,x1,x2,x3,x4,x5,x6,.int .i64 i] 60))
 have hL0:=Bk.newAt (w:=w.alloc (.cells #[.pointer (some ⟨bc,0,none⟩)] 120)) (n:=w.heap.size+1) 60 #[.string (bs name),.slice ao ps.length c,.int .i64 ty,x0,x1,x2,x3,x4,x5,x6,.int .i64 i] (by simp)
 have hmm:=@run_makeMap Tryz.prog
 go_enter Tryz.func40,Tryz.ntmps40
 go_upto_region 1 with fail
 obtain⟨W,hW⟩:∃ W,W=(w.alloc (.cells #[.pointer (some ⟨bc,0,none⟩)] 120)).alloc (.cells #[.string (bs name),.slice ao ps.length c,.int .i64 ty,x0,x1,x2,x3,x4,x5,x6,.int .i64 i] 60):=⟨_,rfl⟩
 rw[← hW] at hb0 hB0 hL0 ⊢
 clear hW
 go_upto_region 2 with fail
 have hNX:=(Cn.made W).up (ae _ (.cells #[.map (some W.heap.size)] 123))
 have hAX:=Bk.newAt (w:=W.alloc (.map #[] 0)) (n:=W.heap.size+1) 123 #[.map (some W.heap.size)] (by simp)
 have hbX:=bC W (.map #[] 0) (.cells #[.map (some W.heap.size)] 123)
 obtain⟨X,hX⟩:∃ X,X=(W.alloc (.map #[] 0)).alloc (.cells #[.map (some W.heap.size)] 123):=⟨_,rfl⟩
 rw[← hX] at hNX hAX hbX ⊢
 clear hX hmm
 obtain⟨b,hb⟩:∃ b,b=W.heap.size:=⟨_,rfl⟩
 have hwW:w.heap.size+1<W.heap.size:=hL0.lt
 rw[← hb] at hNX hAX hwW ⊢
 have hNX:Cn X b 0 (cnt []):=hNX.congr fun s=>rfl
 have hAX:Bk X (b+1) 123 [.map (some b)]:=hAX
 have hbw2:=Below.thn hb0 hbX
 have hLX:=hL0.up hbX
 have hBX:=hB0.up hbX
 have hCX:=hC.up hbw2
 have hPX:=hP.up hbw2
 have hpX:=hp1.up hbw2
 have heX:=he1.up hbw2
 clear hbX hb0 hB0 hL0 hC hP hp1 he1 hb
 have c1:X.cell? ⟨w.heap.size+1,1,none⟩=some (.slice ao ps.length c):=hLX.cell 1
 have hA2:∀ k,A k→¬ Two bc b k:=fun k h1=>by have:=hA k h1;unfold Two;omega
 go_wp2_with fail
 go_loopw [11] (fun v wr=>∃ k:Nat,k≤ps.length∧v=.int .i64 k∧Ck wr bc m (prmL [] (ps.take k) r)∧Cn wr b k (cnt (nmsP (ps.take k)))∧ButS (Two bc b) X wr) (fun v _=>ps.length-(intOf v).toNat)
 case atStart=>exact⟨0,Nat.zero_le _,rfl,hCX,hNX,.refl _ _⟩
 case round=>
  obtain⟨k,hkn,rfl,hCk,hNk,hUk⟩:=hrel
  have hLk:=hUk.bk hLX (by unfold Two;omega)
  have hBk:=hUk.bk hBX (by unfold Two;omega)
  have hAk:=hUk.bk hAX (by unfold Two;omega)
  by_cases hlt:k<ps.length
  ·have hpk:PlW wr A ao ps:=hpX.keep hUk.size fun k h hl=>hUk.block k hl (hA2 k h)
   obtain⟨g',rfl,hv⟩:=PlW.at hpk k hlt
   have hmem:ps.getD k pd∈ps:=by rw[List.getD_eq_getElem?_getD,List.getElem?_eq_getElem hlt];exact List.getElem_mem hlt
   have hln1:(ps.getD k pd).name.length≤140737488355328:=(hln.pms _ hmem).1
   have hst:=iR ps [] k r hlt
   rw[List.nil_append] at hst
   have hnt:=lX ps k hlt
   obtain⟨q,hq⟩:∃ q,q=ps.getD k pd:=⟨_,rfl⟩
   rw[← hq] at hv hln1 hst hnt
   clear hq hmem
   obtain⟨n1,t1,s1⟩:=q
   dsimp only at hln1 hst hnt
   obtain⟨rk,hrk⟩:∃ rk,rk=prmL [] (ps.take k) r:=⟨_,rfl⟩
   rw[← hrk] at hst hCk
   have HN:Hid (nmsP (ps.take (k+1))=nmsP (ps.take k)++[n1]):=hnt
   obtain⟨d0,d1,d2⟩:=sJ (show wr.rangeAt g' (k*3) [.string (bs n1),.int .i64 t1,.int .i64 s1] from hv)
   have hZ:=Bk.new wr 125 #[.string ⟨#[]⟩,.int .i64 0,.int .i64 0]
   clear hnt hv
   go_upto_region 5 with (refine ah rfl 125 (.tmp 6) (.tmp 14) rfl wr.heap.size 0 [.string (bs n1),.int .i64 t1,.int .i64 s1] rfl rfl hZ (Nat.le_refl 3) Tryz.infoP3 (by intro v hv;simp only[List.mem_cons,List.not_mem_nil,or_false] at hv;rcases hv with rfl|rfl|rfl<;>rfl) ?_;intro w3 hV3 hO3)
   have hV3:Bk w3 wr.heap.size 125 [.string (bs n1),.int .i64 t1,.int .i64 s1]:=hV3
   have hb3:Below wr.heap.size wr w3:=(ae wr _).trans (hO3.below (Nat.le_refl _))
   have hU3:ButS (Two bc b) X w3:=hUk.trans (.below hb3)
   have hC3:=hCk.up hb3
   have hN3:=hNk.up hb3
   have hA3:=hAk.up hb3
   have hB3:=hBk.up hb3
   have hwr:b+1<wr.heap.size:=hAk.lt
   clear hZ hO3 d0 d1 d2 hCk hNk hAk hBk hLk
   have e0:w3.cell? ⟨b+1,0,none⟩=some (.map (some b)):=hA3.cell 0
   have e1:w3.cell? ⟨wr.heap.size,0,none⟩=some (.string (bs n1)):=hV3.cell 0
   have e2:w3.cell? ⟨wr.heap.size,2,none⟩=some (.int .i64 s1):=hV3.cell 2
   have e3:w3.cell? ⟨w.heap.size,0,none⟩=some (.pointer (some ⟨bc,0,none⟩)):=hB3.cell 0
   have hh:=pE hN3 n1 (by unfold maxLen;omega)
   go_wp2_with fail
   refine hh.mono ?_
   rintro e w4 ⟨rfl,rfl⟩
   clear hh
   by_cases hin:0<(nmsP (ps.take k)).count n1
   ·have g1:decide (0<cnt (nmsP (ps.take k)) n1)=true:=decide_eq_true hin
    rw[if_pos hin] at hst
    have HS:Hid (prmL [] (ps.take (k+1)) r=bR rk.1 rk.2 30 s1):=hst
    clear hst
    rw[g1]
    have ht:=eH (show Ck w4 bc m (rk.1,rk.2) from hC3) 30 s1
    go_wp2_with fail
    refine ht.mono ?_
    rintro e w7 ⟨rfl,hC7,hO7⟩
    have hU7:=hU3.trans ((ButS.oth hO7).mono fun k h=>.inl h)
    have hN7:=hN3.but (.oth hO7) (by omega)
    have hA7:=hA3.oth hO7 (by omega)
    have hV7:=hV3.oth hO7 (by omega)
    clear ht e0 e1 e2 e3
    have d0:w7.cell? ⟨b+1,0,none⟩=some (.map (some b)):=hA7.cell 0
    have d1:w7.cell? ⟨wr.heap.size,0,none⟩=some (.string (bs n1)):=hV7.cell 0
    have hb5:=ae w7 (.cells #[.string (bs n1)] 9)
    have hNs:Ns (w7.alloc (.cells #[.string (bs n1)] 9)) (some ⟨w7.heap.size,0,none⟩) [n1]:=fun j x hj=>by
     cases j with
     |zero=>cases hj;exact⟨_,0,rfl,(Bk.new w7 9 #[.string (bs n1)]).cell 0⟩
     |succ j=>simp at hj
    have hN5:=hN7.up hb5
    have hC5:=hC7.up hb5
    have hw5:b+1<w7.heap.size:=hA7.lt
    have ha:=iH hN5 1 (some ⟨w7.heap.size,0,none⟩) 1 [n1] hNs (fun g' off' h e=>by cases h;omega) (fun s h=>by rw[List.mem_singleton.1 h];unfold maxLen;omega) (by simp) (by omega) (fun s j=>cnt (nmsP (ps.take k)) s+([n1].take j).count s) (fun s=>by simp) (fun s j hj=>by rw[cZ [n1] s j hj];split<;>omega)
     (fun s j=>rX ps k n1 s j hps)
    go_wp2_with fail
    refine ha.mono ?_
    rintro e w6 ⟨rfl,hN6,hO6⟩
    have hC6:Ck w6 bc m _:=hO6.bk hC5 (by omega)
    have hU6:ButS (Two bc b) w7 w6:=(ButS.below hb5).trans (hO6.mono fun k h=>.inr h)
    have hUe:=hU7.trans hU6
    have hN6':Cn w6 b (k+1) (cnt (nmsP (ps.take (k+1)))):=hN6.congr fun s=>by
     show (nmsP (ps.take (k+1))).count s=(nmsP (ps.take k)).count s+([n1].take [n1].length).count s
     rw[HN.out,List.count_append,List.take_length]
    clear ha d0 d1
    go_wp2_with fail
    go_roundw
    case rel=>exact⟨k+1,by omega,by go_num,by rw[HS.out];exact hC6,hN6',hUe⟩
    case measure=>simp[intOf];omega
   ·have g1:decide (0<cnt (nmsP (ps.take k)) n1)=false:=decide_eq_false hin
    rw[if_neg hin] at hst
    have HS:Hid (prmL [] (ps.take (k+1)) r=rk):=hst
    clear hst e2 e3
    rw[g1]
    have d0:w4.cell? ⟨b+1,0,none⟩=some (.map (some b)):=hA3.cell 0
    have d1:w4.cell? ⟨wr.heap.size,0,none⟩=some (.string (bs n1)):=hV3.cell 0
    have hb5:=ae w4 (.cells #[.string (bs n1)] 9)
    have hNs:Ns (w4.alloc (.cells #[.string (bs n1)] 9)) (some ⟨w4.heap.size,0,none⟩) [n1]:=fun j x hj=>by
     cases j with
     |zero=>cases hj;exact⟨_,0,rfl,(Bk.new w4 9 #[.string (bs n1)]).cell 0⟩
     |succ j=>simp at hj
    have hN5:=hN3.up hb5
    have hC5:=hC3.up hb5
    have hw5:b+1<w4.heap.size:=hA3.lt
    have ha:=iH hN5 1 (some ⟨w4.heap.size,0,none⟩) 1 [n1] hNs (fun g' off' h e=>by cases h;omega) (fun s h=>by rw[List.mem_singleton.1 h];unfold maxLen;omega) (by simp) (by omega) (fun s j=>cnt (nmsP (ps.take k)) s+([n1].take j).count s) (fun s=>by simp) (fun s j hj=>by rw[cZ [n1] s j hj];split<;>omega)
     (fun s j=>rX ps k n1 s j hps)
    go_wp2_with fail
    refine ha.mono ?_
    rintro e w6 ⟨rfl,hN6,hO6⟩
    have hC6:Ck w6 bc m _:=hO6.bk hC5 (by omega)
    have hU6:ButS (Two bc b) w4 w6:=(ButS.below hb5).trans (hO6.mono fun k h=>.inr h)
    have hUe:=hU3.trans hU6
    have hN6':Cn w6 b (k+1) (cnt (nmsP (ps.take (k+1)))):=hN6.congr fun s=>by
     show (nmsP (ps.take (k+1))).count s=(nmsP (ps.take k)).count s+([n1].take [n1].length).count s
     rw[HN.out,List.count_append,List.take_length]
    clear ha d0 d1
    go_wp2_with fail
    go_roundw
    case rel=>exact⟨k+1,by omega,by go_num,by rw[HS.out];exact hC6,hN6',hUe⟩
    case measure=>simp[intOf];omega
  ·have hke:k=ps.length:=by omega
   subst hke
   rw[List.take_length] at hCk hNk
   have hRk:Rig wr bc m nm b (b+1) w.heap.size pf:=⟨hPX.but hUk (by unfold Two;omega),hAk,hBk,by omega⟩
   have hek:=hUk.ex heX hA2
   obtain⟨_,_,_,f0,f1,f2,f3,f4,f5,f6,_⟩:=Bk.eleven (show Bk wr (w.heap.size+1) 60 [_,_,_,_,_,_,_,_,_,_,_] from hLk)
   have d0:wr.cell? ⟨b+1,0,none⟩=some (.map (some b)):=hAk.cell 0
   have hnl:(nmsP ps).length≤65536:=by unfold nmsP;rw[List.length_map];exact hps
   have hwk:=walk6_any _ body (Nat.le_refl _) hsz hln.body wr A _ (nmsP ps) ps.length (prmL [] ps r) hek hA2 hRk hCk hNk (by omega) (by omega)
   have hwX:w.heap.size≤X.heap.size:=hbw2.size
   have HZ:Hid (ButS (Two bc b) X wr∧Below w.heap.size w X∧w.heap.size<b):=⟨hUk,hbw2,by omega⟩
   go_wp2_with fail
   refine hwk.mono ?_
   rintro e w9 ⟨rfl,hC9,_,hU9⟩
   have hUe:ButS (·=bc) w w9:=by
    obtain⟨z1,z2,z3⟩:=HZ.out
    have z4:=z1.trans hU9
    exact⟨z4.os.trans z2.os,z4.tape.trans z2.tape,z4.output.trans z2.output,Nat.le_trans z2.size z4.size,fun k hk hn=>(z4.block k (by omega) (by unfold Two;omega)).trans (z2.block k hk)⟩
   clear hwk f0 f1 f2 f3 f4 f5 f6 d0
   go_wp2_with fail
   go_end0
   exact⟨rfl,hC9,hUe⟩
def putN (pf:List UInt8→Option Nat) (s:List UInt8) (n:Nat):List UInt8→Option Nat:=fun t=>if t=s then some n else pf t
def dfnP (g:Fn1) (q:(List UInt8→Option Nat) × (Int × Int)):(List UInt8→Option Nat) × (Int × Int):=
 match q.1 g.name with
 |some _=>(q.1,bR q.2.1 q.2.2 30 g.pos)
 |none=>(putN q.1 g.name g.pms.length,q.2)
theorem define6_any {w:World} {bc m nm:Nat} {pf:List UInt8→Option Nat} {A:Nat→Prop} {g:Fn1} {us:List Value} {r:Int × Int} (hF:FnW w A g us) (hC:Ck w bc m r) (hP:Pm6 w m nm pf) (hne:m≠bc) (hln:lnF g) (hnm:nm≤1073741824) :
  Calls Tryz.prog 39 #[.pointer (some ⟨bc,0,none⟩),.agg us.toArray] w fun e w'=>e=.returned (.tuple #[])∧Ck w' bc m (dfnP g (pf,r)).2∧Pm6 w' m (nm+1) (dfnP g (pf,r)).1∧ButS (Two bc m) w w':=by
 obtain⟨ao,c,es,rfl,-,he1⟩:=hF
 have hl1:=hln.name
 obtain⟨name,ps,ty,body,i⟩:=g
 dsimp only at he1 hl1
 obtain⟨x0,x1,x2,x3,x4,x5,x6,rfl⟩:=aQ he1.len
 simp only[List.cons_append,List.nil_append]
 have hb0:=ae w (.cells #[.string (bs name),.slice ao ps.length c,.int .i64 ty,x0,x1,x2,x3,x4,x5,x6,.int .i64 i] 60)
 have hL:=Bk.new w 60 #[.string (bs name),.slice ao ps.length c,.int .i64 ty,x0,x1,x2,x3,x4,x5,x6,.int .i64 i]
 have hC1:=hC.up hb0
 have hP1:=hP.up hb0
 have hbw:bc<w.heap.size:=Bk.lt hC
 have hmw:m<w.heap.size:=hP.lt
 clear he1 hC hP
 go_enter Tryz.func39,Tryz.ntmps39
 go_upto_region 1 with fail
 generalize w.alloc (.cells #[.string (bs name),.slice ao ps.length c,.int .i64 ty,x0,x1,x2,x3,x4,x5,x6,.int .i64 i] 60)=W at *
 have c0:W.cell? ⟨w.heap.size,0,none⟩=some (.string (bs name)):=hL.cell 0
 have d0:W.cell? ⟨bc,0,none⟩=some (.map (some m)):=hC1.cell 0
 have hml:name.length≤maxLen:=by unfold maxLen;omega
 have hr:=(show Pm6 W.drew m nm pf from hP1).look_ok Tryz.underlying9 Tryz.undPm (rV W.drew) hml
 cases hpf:pf name with
 |some k=>
  rw[hpf] at hr
  have hr:(Instr.lookup 82 (.map (some m)) (.string (bs name)) true).run Tryz.prog W.drew=.ok (.tuple #[.int .i64 (k:Int),.bool true]) W.drew:=hr
  have e0:dfnP ⟨name,ps,ty,body,i⟩ (pf,r)=(pf,bR r.1 r.2 30 i):=by unfold dfnP;dsimp only;rw[hpf]
  go_cut [4,5] (fun x y wx=>x=.int .i64 (k:Int)∧y=.bool true∧Below W.heap.size W wx)
  case first=>
   go_region
   all_goals
    go_wp2_with fail
    go_meet
    case rel=>exact⟨rfl,rfl,(Below.refl _ W).drew⟩
  case rest=>
   obtain⟨rfl,rfl,hB2⟩:=hcut
   have hC2:=hC1.up hB2
   have hL2:=hL.up hB2
   have hP2:=hP1.up hB2
   have hU2:ButS (Two bc m) w wc:=.below (Below.thn hb0 hB2)
   have c10:wc.cell? ⟨w.heap.size,10,none⟩=some (.int .i64 i):=hL2.cell 10
   have ht:=eH (show Ck wc bc m (r.1,r.2) from hC2) 30 i
   clear hC1 hC2 hL hL2 hP1 hr c0 d0
   go_wp2_with fail
   refine ht.mono ?_
   rintro e w3 ⟨rfl,hC3,hO3⟩
   have hU3:=hU2.trans ((ButS.oth hO3).mono fun k h=>.inl h)
   have hP3:Pm6 w3 m nm pf:=hP2.but (.oth hO3) (by omega)
   clear ht c10
   go_wp2_with fail
   exact bodyPost_ret (v:=.tuple #[]) (by simp[results,Tryz.results39,go_sem]) rfl ⟨rfl,by rw[e0];exact hC3,by rw[e0];exact MapW.mono hP3 (by omega),hU3⟩
 |none=>
  rw[hpf] at hr
  have hr:(Instr.lookup 82 (.map (some m)) (.string (bs name)) true).run Tryz.prog W.drew=.ok (.tuple #[.int .i64 0,.bool false]) W.drew:=hr
  have e0:dfnP ⟨name,ps,ty,body,i⟩ (pf,r)=(putN pf name ps.length,r):=by unfold dfnP;dsimp only;rw[hpf]
  go_cut [4,5] (fun x y wx=>x=.int .i64 0∧y=.bool false∧Below W.heap.size W wx)
  case first=>
   go_region
   all_goals
    go_wp2_with fail
    go_meet
    case rel=>exact⟨rfl,rfl,(Below.refl _ W).drew⟩
  case rest=>
   obtain⟨rfl,rfl,hB2⟩:=hcut
   have hC2:=hC1.up hB2
   have hL2:=hL.up hB2
   have hP2:=hP1.up hB2
   have hU2:ButS (Two bc m) w wc:=.below (Below.thn hb0 hB2)
   have c0:wc.cell? ⟨w.heap.size,0,none⟩=some (.string (bs name)):=hL2.cell 0
   have c1:wc.cell? ⟨w.heap.size,1,none⟩=some (.slice ao ps.length c):=hL2.cell 1
   have d0:wc.cell? ⟨bc,0,none⟩=some (.map (some m)):=hC2.cell 0
   obtain⟨w3,hr3,hM3,hg3⟩:=(show Pm6 wc.drew m nm pf from hP2).put Tryz.underlying9 Tryz.undPm (by unfold maxLen;omega) hml (.int .i64 (ps.length:Int))
   have hU3:ButS (·=m) wc w3:=(ButS.below (Below.refl _ wc).drew).trans (ButS.grown hg3)
   have hC3:Ck w3 bc m r:=hU3.bk hC2 (by omega)
   have hP3:Pm6 w3 m (nm+1) (putN pf name ps.length):=hM3.congr fun s=>by
    unfold putN putF
    split<;>rfl
   have hUe:=hU2.trans (hU3.mono fun k h=>.inr h)
   have HE:Hid (Ck w3 bc m (dfnP ⟨name,ps,ty,body,i⟩ (pf,r)).2∧Pm6 w3 m (nm+1) (dfnP ⟨name,ps,ty,body,i⟩ (pf,r)).1∧ButS (Two bc m) w w3):=by rw[e0];exact⟨hC3,hP3,hUe⟩
   clear hC1 hC2 hL hL2 hP1 hP2 hr hM3 hg3 hU3 hC3 hP3 hUe hU2
   go_upto_region 4 with fail
   go_region
   all_goals
    go_wp2_with fail
    go_end0
    exact⟨rfl,HE.out⟩
def dfnL (gs:List Fn1) (q:(List UInt8→Option Nat) × (Int × Int)):(List UInt8→Option Nat) × (Int × Int):=gs.foldl (fun q g=>dfnP g q) q
def winL (pf:List UInt8→Option Nat) (gs:List Fn1) (p:Int × Int):Int × Int:=gs.foldl (fun p g=>winP pf g p) p
theorem lu (gs:List Fn1) (k:Nat) (h:k<gs.length) (q:(List UInt8→Option Nat) × (Int × Int)):dfnL (gs.take (k+1)) q=dfnP (gs.getD k fd) (dfnL (gs.take k) q):=by
 unfold dfnL
 rw[List.take_succ_eq_append_getElem h,List.foldl_append,List.getD_eq_getElem?_getD,List.getElem?_eq_getElem h]
 rfl
theorem mI (pf:List UInt8→Option Nat) (gs:List Fn1) (k:Nat) (h:k<gs.length) (p:Int × Int):winL pf (gs.take (k+1)) p=winP pf (gs.getD k fd) (winL pf (gs.take k) p):=by
 unfold winL
 rw[List.take_succ_eq_append_getElem h,List.foldl_append,List.getD_eq_getElem?_getD,List.getElem?_eq_getElem h]
 rfl
def scP (gs:List Fn1):Int × Int:=winL (dfnL gs (fun _=>none,(0,0))).1 gs (dfnL gs (fun _=>none,(0,0))).2
theorem kr {w:World} {A:Nat→Prop} {g:Fn1} {vs:List Value} (h:FnW w A g vs):∀ v∈vs,v.oneCell'=true:=by
 obtain⟨ao,c,es,rfl,_,hx⟩:=h
 intro v hv
 simp only[List.mem_cons,List.mem_append,List.not_mem_nil,or_false] at hv
 rcases hv with rfl|rfl|rfl|hv|rfl
 ·rfl
 ·rfl
 ·rfl
 ·exact hx.one v hv
 ·rfl
theorem Tryz.infoF11:(Tryz.prog.info? 60).map (·.size)=some 11:=by kernel_rfl
theorem scopeCheck_any {w:World} {A:Nat→Prop} {ao:Option Addr} {gs:List Fn1} {c:Nat} (hF:FlW w A ao gs) (hA:∀ k,A k→k<w.heap.size) (hln:∀ g∈gs,lnF g) (hsz:∀ g∈gs,szE g.body≤65536) (hps:∀ g∈gs,g.pms.length≤65536) (hgs:gs.length≤65536) :
  Calls Tryz.prog 21 #[.agg #[.slice ao gs.length c]] w fun e w'=>e=.returned (.agg #[.int .i64 (scP gs).1,.int .i64 (scP gs).2])∧Below w.heap.size w w':=by
 have hb0:=bC w (.cells #[.slice ao gs.length c] 26) (.cells #[.int .i64 0,.int .i64 0] 49)
 have hL0:=(Bk.new w 26 #[.slice ao gs.length c]).up (ae _ (.cells #[.int .i64 0,.int .i64 0] 49))
 have hR0:=Bk.newAt (w:=w.alloc (.cells #[.slice ao gs.length c] 26)) (n:=w.heap.size+1) 49 #[.int .i64 0,.int .i64 0] (by simp)
 have hmm:=@run_makeMap Tryz.prog
 go_enter Tryz.func21,Tryz.ntmps21
 go_upto_region 1 with fail
 obtain⟨W,hW⟩:∃ W,W=(w.alloc (.cells #[.slice ao gs.length c] 26)).alloc (.cells #[.int .i64 0,.int .i64 0] 49):=⟨_,rfl⟩
 rw[← hW] at hb0 hL0 hR0 ⊢
 clear hW
 go_upto_region 2 with fail
 have hMX:=(MapW.made W Tryz.prog 9).block (w':=(W.alloc (.map #[] 0)).alloc (.cells #[.map (some W.heap.size),.int .i64 0,.int .i64 0] 84)) (heap_alloc_old _ _ (by simp))
 have hCX:=Bk.newAt (w:=W.alloc (.map #[] 0)) (n:=W.heap.size+1) 84 #[.map (some W.heap.size),.int .i64 0,.int .i64 0] (by simp)
 have hbX:=bC W (.map #[] 0) (.cells #[.map (some W.heap.size),.int .i64 0,.int .i64 0] 84)
 obtain⟨X,hX⟩:∃ X,X=(W.alloc (.map #[] 0)).alloc (.cells #[.map (some W.heap.size),.int .i64 0,.int .i64 0] 84):=⟨_,rfl⟩
 rw[← hX] at hMX hCX hbX ⊢
 clear hX hmm
 obtain⟨m,hm⟩:∃ m,m=W.heap.size:=⟨_,rfl⟩
 have hwW:w.heap.size+1<W.heap.size:=hR0.lt
 rw[← hm] at hMX hCX hwW ⊢
 have hPX:Pm6 X m 0 (fun _=>none):=hMX
 have hCX:Ck X (m+1) m (0,0):=hCX
 have hbw:=Below.thn hb0 hbX
 have hLX:=hL0.up hbX
 have hRX:=hR0.up hbX
 have hFX:=hF.up hbw
 have hA2:∀ k,A k→¬ Two (m+1) m k:=fun k h=>by have:=hA k h;unfold Two;omega
 clear hMX hbX hb0 hL0 hR0 hF hm
 have c0:X.cell? ⟨w.heap.size,0,none⟩=some (.slice ao gs.length c):=hLX.cell 0
 go_wp2_with fail
 go_loopw [13] (fun v wr=>∃ k:Nat,k≤gs.length∧v=.int .i64 k∧Ck wr (m+1) m (dfnL (gs.take k) (fun _=>none,(0,0))).2∧Pm6 wr m k (dfnL (gs.take k) (fun _=>none,(0,0))).1∧ButS (Two (m+1) m) X wr) (fun v _=>gs.length-(intOf v).toNat)
 case atStart=>exact⟨0,Nat.zero_le _,rfl,hCX,hPX,.refl _ _⟩
 case round=>
  obtain⟨k,hkn,rfl,hCk,hPk,hUk⟩:=hrel
  by_cases hlt:k<gs.length
  ·have HS:Hid (dfnL (gs.take (k+1)) (fun _=>none,(0,0))=dfnP (gs.getD k fd) ((dfnL (gs.take k) (fun _=>none,(0,0))).1,(dfnL (gs.take k) (fun _=>none,(0,0))).2)):=lu gs k hlt _
   have hmem:gs.getD k fd∈gs:=by rw[List.getD_eq_getElem?_getD,List.getElem?_eq_getElem hlt];exact List.getElem_mem hlt
   have hFk:FlW wr A ao gs:=hFX.keep2 hUk.size fun k h hl=>hUk.block k hl (hA2 k h)
   obtain⟨g,vs,rfl,_,hv,hxv⟩:=hFk.at k hlt
   obtain⟨u0,u1,u2,u3,u4,u5,u6,u7,u8,u9,u10,rfl⟩:=ib hxv.len
   obtain⟨d0,d1,d2,d3,d4,d5,d6,d7,d8,d9,d10⟩:=fJ hv
   have hZ:=Bk.new wr 60 #[.string ⟨#[]⟩,.slice none 0 0,.int .i64 0,.int .i64 0,.string ⟨#[]⟩,.string ⟨#[]⟩,.int .i64 0,.complex .f64 0 0,.slice none 0 0,.int .i64 0,.int .i64 0]
   have hone:∀ v∈[u0,u1,u2,u3,u4,u5,u6,u7,u8,u9,u10],v.oneCell'=true:=kr hxv
   clear hv
   go_upto_region 5 with (refine ah rfl 60 (.tmp 5) (.tmp 16) rfl wr.heap.size 0 [u0,u1,u2,u3,u4,u5,u6,u7,u8,u9,u10] rfl rfl hZ (Nat.le_refl 11) Tryz.infoF11 hone ?_;intro w3 hV3 hO3)
   have hV3:Bk w3 wr.heap.size 60 [u0,u1,u2,u3,u4,u5,u6,u7,u8,u9,u10]:=hV3
   have hb3:Below wr.heap.size wr w3:=(ae wr _).trans (hO3.below (Nat.le_refl _))
   have hx3:=FnW.up hxv hb3
   have hC3:=hCk.up hb3
   have hP3:=hPk.up hb3
   obtain⟨v0,v1,v2,v3,v4,v5,v6,v7,v8,v9,v10⟩:=Bk.eleven (show Bk w3 wr.heap.size 60 [_,_,_,_,_,_,_,_,_,_,_] from hV3)
   clear hZ hO3 hone d0 d1 d2 d3 d4 d5 d6 d7 d8 d9 d10 hCk hPk hxv
   have hd:=define6_any hx3 hC3 hP3 (by omega) (hln _ hmem) (by omega)
   go_wp2_with fail
   refine hd.mono ?_
   rintro e w4 ⟨rfl,hC4,hP4,hU4⟩
   rw[← HS.out] at hC4 hP4
   have hUe:=(hUk.trans (.below hb3)).trans hU4
   clear hd v0 v1 v2 v3 v4 v5 v6 v7 v8 v9 v10
   go_wp2_with fail
   go_roundw
   case rel=>exact⟨k+1,by omega,by go_num,hC4,hP4,hUe⟩
   case measure=>simp[intOf];omega
  ·have hke:k=gs.length:=by omega
   subst hke
   rw[List.take_length] at hCk hPk
   obtain⟨pf,hpf⟩:∃ pf,pf=(dfnL gs (fun _=>none,(0,0))).1:=⟨_,rfl⟩
   obtain⟨p0,hp0⟩:∃ p0,p0=(dfnL gs (fun _=>none,(0,0))).2:=⟨_,rfl⟩
   have HE:Hid (scP gs=winL pf gs p0):=by rw[hpf,hp0];rfl
   rw[← hpf] at hPk
   rw[← hp0] at hCk
   have hLY:=hUk.bk hLX (by unfold Two;omega)
   have hRY:=hUk.bk hRX (by unfold Two;omega)
   have hFY:FlW wr A ao gs:=hFX.keep2 hUk.size fun k h hl=>hUk.block k hl (hA2 k h)
   have hUY:ButS (Two (m+1) m) X wr:=hUk
   have hPY:=hPk
   have hCY:=hCk
   have hmw:m+1<wr.heap.size:=Bk.lt hCY
   have c0:wr.cell? ⟨w.heap.size,0,none⟩=some (.slice ao gs.length c):=hLY.cell 0
   clear hpf hp0 hUk hPk hCk hCX hPX hLX hRX hFX
   rename World=>Y
   go_wp2_with fail
   go_loopw [23] (fun v wr=>∃ k:Nat,k≤gs.length∧v=.int .i64 k∧Ck wr (m+1) m (winL pf (gs.take k) p0)∧ButS (·=m+1) Y wr) (fun v _=>gs.length-(intOf v).toNat)
   case atStart=>exact⟨0,Nat.zero_le _,rfl,hCY,.refl _ _⟩
   case round=>
    obtain⟨k,hkn,rfl,hCk,hUk⟩:=hrel
    by_cases hlt:k<gs.length
    ·have HS:Hid (winL pf (gs.take (k+1)) p0=winP pf (gs.getD k fd) (winL pf (gs.take k) p0)):=mI pf gs k hlt p0
     have hmem:gs.getD k fd∈gs:=by rw[List.getD_eq_getElem?_getD,List.getElem?_eq_getElem hlt];exact List.getElem_mem hlt
     have hFk:FlW wr A ao gs:=hFY.keep2 hUk.size fun k h hl=>hUk.block k hl fun e=>hA2 k h (.inl e)
     obtain⟨g,vs,rfl,_,hv,hxv⟩:=hFk.at k hlt
     obtain⟨u0,u1,u2,u3,u4,u5,u6,u7,u8,u9,u10,rfl⟩:=ib hxv.len
     obtain⟨d0,d1,d2,d3,d4,d5,d6,d7,d8,d9,d10⟩:=fJ hv
     have hZ:=Bk.new wr 60 #[.string ⟨#[]⟩,.slice none 0 0,.int .i64 0,.int .i64 0,.string ⟨#[]⟩,.string ⟨#[]⟩,.int .i64 0,.complex .f64 0 0,.slice none 0 0,.int .i64 0,.int .i64 0]
     have hone:∀ v∈[u0,u1,u2,u3,u4,u5,u6,u7,u8,u9,u10],v.oneCell'=true:=kr hxv
     clear hv
     go_upto_region 10 with (refine ah rfl 60 (.tmp 7) (.tmp 26) rfl wr.heap.size 0 [u0,u1,u2,u3,u4,u5,u6,u7,u8,u9,u10] rfl rfl hZ (Nat.le_refl 11) Tryz.infoF11 hone ?_;intro w3 hV3 hO3)
     have hV3:Bk w3 wr.heap.size 60 [u0,u1,u2,u3,u4,u5,u6,u7,u8,u9,u10]:=hV3
     have hb3:Below wr.heap.size wr w3:=(ae wr _).trans (hO3.below (Nat.le_refl _))
     have hx3:=FnW.up hxv hb3
     have hC3:=hCk.up hb3
     have hP3:=(hPY.but hUk (by omega)).up hb3
     obtain⟨v0,v1,v2,v3,v4,v5,v6,v7,v8,v9,v10⟩:=Bk.eleven (show Bk w3 wr.heap.size 60 [_,_,_,_,_,_,_,_,_,_,_] from hV3)
     clear hZ hO3 hone d0 d1 d2 d3 d4 d5 d6 d7 d8 d9 d10 hCk hxv
     have hYw:w.heap.size≤w3.heap.size:=by have:=hbw.size;have:=hUY.size;have:=hUk.size;have:=hb3.size;omega
     have hd:=within6_any hx3 (fun k h=>⟨by have:=hA k h;omega,fun e=>hA2 k h (.inl e)⟩) hC3 hP3 (by omega) (hln _ hmem) (hsz _ hmem) (hps _ hmem)
     go_wp2_with fail
     refine hd.mono ?_
     rintro e w4 ⟨rfl,hC4,hU4⟩
     rw[← HS.out] at hC4
     have hUe:=(hUk.trans (.below hb3)).trans hU4
     clear hd v0 v1 v2 v3 v4 v5 v6 v7 v8 v9 v10
     go_wp2_with fail
     go_roundw
     case rel=>exact⟨k+1,by omega,by go_num,hC4,hUe⟩
     case measure=>simp[intOf];omega
    ·have hke:k=gs.length:=by omega
     subst hke
     rw[List.take_length,← HE.out] at hCk
     have hRk:=hUk.bk hRY (by omega)
     have c1:wr.cell? ⟨m+1,1,none⟩=some (.int .i64 (scP gs).1):=hCk.cell 1
     have c2:wr.cell? ⟨m+1,2,none⟩=some (.int .i64 (scP gs).2):=hCk.cell 2
     have r0:wr.cell? ⟨w.heap.size+1,0,none⟩=some (.int .i64 0):=hRk.cell 0
     have r1:wr.cell? ⟨w.heap.size+1,1,none⟩=some (.int .i64 0):=hRk.cell 1
     have f0:=hRk.frz 0
     have f1:=hRk.frz 1
     have hRe:=Bk.set (Bk.set hRk 0 (.int .i64 (scP gs).1)) 1 (.int .i64 (scP gs).2)
     have q0:((wr.setCell ⟨w.heap.size+1,0,none⟩ (.int .i64 (scP gs).1)).setCell ⟨w.heap.size+1,1,none⟩ (.int .i64 (scP gs).2)).cell? ⟨w.heap.size+1,0,none⟩=some (.int .i64 (scP gs).1):=hRe.cell 0
     have q1:((wr.setCell ⟨w.heap.size+1,0,none⟩ (.int .i64 (scP gs).1)).setCell ⟨w.heap.size+1,1,none⟩ (.int .i64 (scP gs).2)).cell? ⟨w.heap.size+1,1,none⟩=some (.int .i64 (scP gs).2):=hRe.cell 1
     have ho:Oth (w.heap.size+1) wr ((wr.setCell ⟨w.heap.size+1,0,none⟩ (.int .i64 (scP gs).1)).setCell ⟨w.heap.size+1,1,none⟩ (.int .i64 (scP gs).2)):=((Oth.refl _ wr).set 0 _).set 1 _
     have HB:Hid (Below w.heap.size w ((wr.setCell ⟨w.heap.size+1,0,none⟩ (.int .i64 (scP gs).1)).setCell ⟨w.heap.size+1,1,none⟩ (.int .i64 (scP gs).2))):=by
      have z:=(hUY.trans (hUk.mono fun k h=>Or.inl h)).trans (.below (Below.refl _ _))
      have z2:Below w.heap.size w wr:=⟨z.os.trans hbw.os,z.tape.trans hbw.tape,z.output.trans hbw.output,Nat.le_trans hbw.size z.size,fun k hk=>(z.block k (by have:=hbw.size;omega) (by unfold Two;omega)).trans (hbw.block k hk)⟩
      exact⟨ho.os.trans z2.os,ho.tape.trans z2.tape,ho.output.trans z2.output,by rw[ho.size];exact z2.size,fun k hk=>(ho.block k (by omega)).trans (z2.block k hk)⟩
     clear hCk hUk hRk hRe ho HE
     go_wp2_with fail
     exact bodyPost_ret (v:=.agg #[.int .i64 (scP gs).1,.int .i64 (scP gs).2]) (by simp[results,Tryz.results21,go_sem,q0,q1]) rfl ⟨rfl,HB.out⟩
end Go.Proofs.YtimoappbefindaaGreat
