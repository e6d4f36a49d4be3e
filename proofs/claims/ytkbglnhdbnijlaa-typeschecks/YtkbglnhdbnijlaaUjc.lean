/-
  2 texts in one: what each proves stands at its head.
-/
import Derived.Test.YtkbglnhdbnijlaaUja
import Derived.Deep.RegionHeld3
import Derived.Deep.DeepCutAuto
import Derived.BigQuiet
import Derived.Test.YtkbglnhdbnijlaaUjb
import Derived.Test.YtkbglnhdbnijlaaUp
import Derived.Test.YtkbglnhdbnijlaaUr
namespace Go.Proofs.Ytkbglnhdbnijlaa
open Go.RowKit
set_option maxRecDepth 100000
def ivL (zs:List Int):List Value:=zs.map fun z=>Value.int .i64 z
def IvO (w:World) (B:Nat) (v:Value) (zs:List Int):Prop:=w.ownsRow B 3 1 v zs.length (ivL zs)
theorem IvO.nil (w:World) (B:Nat):IvO w B (.slice none 0 0) []:=World.ownsRow_nil _ _ _ _
theorem IvO.up {w w':World} {B:Nat} {v:Value} {zs:List Int} (h:IvO w B v zs) (hb:Below w.heap.size w w'):IvO w' B v zs:=owns_keep h fun b hk=>hb.block b (owns_has h b hk).2
theorem IvO.low {w:World} {B C:Nat} {v:Value} {zs:List Int} (h:IvO w B v zs) (hc:C≤B):IvO w C v zs:=by
 refine⟨h.1,?_⟩
 rcases h.2 with h|⟨g,cp,cur,h1,h2,h3⟩
 ·exact .inl h
 ·exact .inr ⟨g,cp,cur,h1,by omega,h3⟩
theorem ivL_one (zs:List Int):∀ u∈ivL zs,u.oneCell'=true:=by
 intro u hu
 obtain⟨z,_,rfl⟩:=List.mem_map.1 hu
 rfl
theorem ivL_at (zs:List Int) (j:Nat) (h:j<zs.length):(ivL zs)[j]?=some (.int .i64 (zs.getD j 0)):=by
 unfold ivL
 rw[List.getElem?_map,List.getElem?_eq_getElem h,List.getD_eq_getElem?_getD,List.getElem?_eq_getElem h]
 rfl
theorem Try.infoIv:(Try.prog.info? 3).map (fun i=>(i.zero,i.size,i.bytes))=some (some (.int .i64 0),1,8):=by kernel_rfl
theorem Try.underIv:Try.prog.underlying 66=some (.slice 3):=by kernel_rfl
theorem iv_app {w:World} {B:Nat} {v:Value} {ys zs:List Int} (h:IvO w B v ys) (hB:B≤w.heap.size) (a:Addr) (cap:Nat) (hnews:∀ j u,(ivL zs)[j]?=some u→w.cell? (a.add j)=some u) (hn:ys.length+zs.length≤1000000000) :
  ∃ v' w',(Builtin.append_ #[66,66] 66 #[v,.slice (some a) zs.length cap]).run Try.prog w=.ok v' w'∧IvO w' B v' (ys++zs)∧Below B w w':=by
 obtain⟨i0,hi,hz0,hz1,hz2⟩:=info_parts Try.infoIv
 obtain⟨v',w',hr,ho',hgr,_⟩:=run_append_own (P:=Try.prog) w B 66 66 3 i0 _ 1 8 Try.underIv hi hz0 hz1 hz2 rfl (by decide) v ys.length _ h a zs.length cap (ivL zs) (by simp[ivL]) hnews (ivL_one zs) (by unfold maxLen;omega) (by omega) hB
 refine⟨v',w',hr,?_,(Below.refl B w).grown hgr hB (own_low h)⟩
 unfold IvO ivL
 rw[List.length_append,List.map_append]
 exact ho'
theorem IvO.row {w:World} {B:Nat} {v:Value} {zs:List Int} (h:IvO w B v zs):∃ ao cap,v=.slice ao zs.length cap∧((ao=none∧cap=0∧zs=[])∨∃ g,ao=some ⟨g,0,none⟩∧B≤g∧g<w.heap.size∧∀ j u,(ivL zs)[j]?=some u→w.cell? ⟨g,j,none⟩=some u):=by
 rcases h.2 with⟨rfl,h0⟩|⟨g,c,cur,rfl,hb,hg,h1,h2,h3,h4⟩
 ·have e:=List.length_eq_zero_iff.1 h0
  subst e
  exact⟨none,0,rfl,.inl ⟨rfl,rfl,rfl⟩⟩
 ·refine⟨_,c,rfl,.inr ⟨g,rfl,hb,(Array.getElem?_eq_some_iff.1 hg).1,fun j u hj=>?_⟩⟩
  have hl:j<(ivL zs).length:=(List.getElem?_eq_some_iff.1 hj).1
  have h5:(cur.toList.take (zs.length*1))[j]?=some u:=by rw[h4];exact hj
  rw[List.getElem?_take_of_lt (by simpa [ivL] using hl)] at h5
  unfold World.cell?
  simp only[hg]
  simpa using h5
theorem iv_two {w:World} {B C:Nat} {v u:Value} {ys zs:List Int} (h:IvO w B v ys) (hB:B≤w.heap.size) (hz:IvO w C u zs) (hn:ys.length+zs.length≤1000000000) :
  ∃ v' w',(Builtin.append_ #[66,66] 66 #[v,u]).run Try.prog w=.ok v' w'∧IvO w' B v' (ys++zs)∧Below B w w':=by
 obtain⟨ao,cap,rfl,hr⟩:=hz.row
 rcases hr with⟨rfl,rfl,rfl⟩|⟨g,rfl,_,_,hc⟩
 ·obtain⟨i0,hi,hz⟩:=Option.map_eq_some_iff.1 Try.infoIv
  exact⟨v,w,run_append_owned_none (P:=Try.prog) (w:=w) B 66 66 3 i0 1 Try.underIv hi v ys.length _ h,by rw[List.append_nil];exact h,Below.refl _ _⟩
 ·exact iv_app h hB ⟨g,0,none⟩ cap (fun j u hj=>by rw[Addr.add_mid,Nat.zero_add];exact hc j u hj) hn
def wrO (gs:List Fn1) (l:List Pa) (op:Int) (name:List UInt8) (ty:Int) (n:Nat) (i:Nat) (t:Int):List Int:=if ¬ ownR gs l op name ty n=0∧¬ ownR gs l op name ty n=t then [(i:Int)] else []
mutual
def wrE (gs:List Fn1) (l:List Pa):Ex→Int→List Int
 |.mk op name tail ty _ _ xs i,t=>wrO gs l op name ty xs.length i t++wrL gs l op name tail ty t 0 xs
def wrL (gs:List Fn1) (l:List Pa) (op:Int) (name tail:List UInt8) (ty t:Int) (i:Nat):List Ex→List Int
 |[]=>[]
 |x::xs=>wrE gs (l++bndR op name tail ty i) x (wntR gs op name ty i t)++wrL gs l op name tail ty t (i+1) xs
end
section
variable (gs:List Fn1) (l:List Pa) (op:Int) (name tail:List UInt8) (ty t:Int)
theorem wrE_mk (p q:Int) (xs:List Ex) (i:Nat):wrE gs l (.mk op name tail ty p q xs i) t=wrO gs l op name ty xs.length i t++wrL gs l op name tail ty t 0 xs:=by rw[wrE]
theorem wrL_nil (i:Nat):wrL gs l op name tail ty t i []=[]:=by rw[wrL]
theorem wrL_cons (i:Nat) (x:Ex) (xs:List Ex):wrL gs l op name tail ty t i (x::xs)=wrE gs (l++bndR op name tail ty i) x (wntR gs op name ty i t)++wrL gs l op name tail ty t (i+1) xs:=by rw[wrL]
theorem wrL_step:∀ (xs:List Ex) (i k:Nat),k<xs.length→wrL gs l op name tail ty t i (xs.take (k+1))=wrL gs l op name tail ty t i (xs.take k)++wrE gs (l++bndR op name tail ty (i+k)) (xs.getD k ed) (wntR gs op name ty (i+k) t)
 |[],_,_,h=>by simp at h
 |x::xs,i,0,_=>by simp[wrL_cons,wrL_nil]
 |x::xs,i,k+1,h=>by
  rw[List.take_succ_cons,wrL_cons,wrL_step xs (i+1) k (by simpa using h),List.take_succ_cons,wrL_cons,List.getD_cons_succ,show i+1+k=i+(k+1) by omega,List.append_assoc]
theorem wrO_len (n i:Nat):(wrO gs l op name ty n i t).length≤1:=by
 unfold wrO
 split<;>simp
end
mutual
theorem wrE_len (gs:List Fn1) (l:List Pa):∀ (x:Ex) (t:Int),(wrE gs l x t).length≤szE x
 |.mk op name tail ty p q xs i,t=>by
  rw[wrE_mk,szE_mk,List.length_append]
  have:=wrO_len gs l op name ty t xs.length i
  have:=wrL_len gs l op name tail ty t 0 xs
  omega
theorem wrL_len (gs:List Fn1) (l:List Pa) (op:Int) (name tail:List UInt8) (ty t:Int) (i:Nat):∀ xs:List Ex,(wrL gs l op name tail ty t i xs).length≤szL xs
 |[]=>by rw[wrL_nil];simp
 |x::xs=>by
  rw[wrL_cons,szL_cons,List.length_append]
  have:=wrE_len gs (l++bndR op name tail ty i) x (wntR gs op name ty i t)
  have:=wrL_len gs l op name tail ty t (i+1) xs
  omega
end
set_option maxHeartbeats 16000000 in
theorem wrong07_any {gs:List Fn1} (hgs:gs.length≤1073741824) (c:Nat):∀ (n:Nat) (x:Ex),szE x≤n→n≤1048576→lnE x→∀ (w:World) (A:Nat→Prop) (ao:Option Addr) (us:List Value) (v:Value) (l:List Pa) (t:Int),FlW w A ao gs→ExW w A x us→(∀ k,A k→k<w.heap.size)→PaS w v l→l.length+2*szE x≤100000000 →
  Calls Try.prog 22 #[.agg #[.slice ao gs.length c],v,.agg us.toArray,.int .i64 t] w fun e w'=>(∃ v',e=.returned v'∧IvO w' w.heap.size v' (wrE gs l x t))∧Below w.heap.size w w':=by
 intro n
 induction n with
 |zero=>intro x h;have:=szE_pos x;omega
 |succ n ih=>
  intro x ht hn hw w A ao us v l t hF hx hA hP hen
  have IH:Hid _:=ih
  clear ih
  cases hx with
  |mk hl=>
   rename_i op name tail ty p q xs i ax cx
   unfold lnE at hw
   rw[wfE_mk] at hw
   have HOP:Hid _:=shp_ops hw.1
   have hwL:=hw.2
   rw[szE_mk] at ht hen
   have hlen:=length_szL xs
   have hb0:=below_alloc w (.cells #[.slice ao gs.length c] 26)
   have hL:=Bk.new w 26 #[.slice ao gs.length c]
   have hVs:(w.alloc (.cells #[.slice ao gs.length c] 26)).heap.size=w.heap.size+1:=by simp
   obtain⟨fp,hfp⟩:∃ fp,fp=fl p:=⟨_,rfl⟩
   obtain⟨fq,hfq⟩:∃ fq,fq=fl q:=⟨_,rfl⟩
   rw[← hfp,← hfq]
   have HFP:Hid (fp=fl p∧fq=fl q):=⟨hfp,hfq⟩
   clear hfp hfq hw
   go_enter Try.func22,Try.ntmps22
   go_upto_region 1 with fail
   generalize w.alloc (.cells #[.slice ao gs.length c] 26)=V at *
   have hbV:=below_alloc V (.cells #[.int .i64 op,.string (bs name),.string (bs tail),.int .i64 ty,.complex .f64 fp fq,.slice ax xs.length cx,.int .i64 i] 40)
   have hE:=Bk.new V 40 #[.int .i64 op,.string (bs name),.string (bs tail),.int .i64 ty,.complex .f64 fp fq,.slice ax xs.length cx,.int .i64 i]
   obtain⟨W,hW⟩:∃ W,W=V.alloc (.cells #[.int .i64 op,.string (bs name),.string (bs tail),.int .i64 ty,.complex .f64 fp fq,.slice ax xs.length cx,.int .i64 i] 40):=⟨_,rfl⟩
   rw[← hW] at hbV hE ⊢
   clear hW
   have hb1:=Below.thn hb0 hbV
   obtain⟨be,hbe⟩:∃ be,be=w.heap.size+1:=⟨_,rfl⟩
   rw[hVs,← hbe] at hE
   rw[← hbe]
   have hbew:w.heap.size<be:=by omega
   clear hbe
   have hFW:=hF.up hb1
   have hlW:=hl.up hb1
   have hPW:=hP.up hb1
   have hWs:=hE.lt
   have hLW:=hL.up hbV
   have HB:Hid (Below w.heap.size w W):=hb1
   have HA:Hid (∀ k,A k→k<w.heap.size):=hA
   clear hL hb0 hbV hb1 hVs hF hl hP hA
   have p0:W.cell? ⟨w.heap.size,0,none⟩=some (.slice ao gs.length c):=hLW.cell 0
   obtain⟨c0,c1,c2,c3,c4,c5,c6⟩:=Bk.seven (show Bk W be 40 [_,_,_,_,_,_,_] from hE)
   have hown:=own07_any (c:=c) hFW (fun k h=>by have:=HA.out k h;omega) hgs hPW (by omega) op name tail ty (.complex .f64 fp fq) ax xs.length cx (.int .i64 i) HOP.out
   obtain⟨o,ho⟩:∃ o,o=ownR gs l op name ty xs.length:=⟨_,rfl⟩
   rw[← ho] at hown
   obtain⟨y0,hy0⟩:∃ y0,y0=wrO gs l op name ty xs.length i t:=⟨_,rfl⟩
   have hyl:y0.length≤1:=by rw[hy0];exact wrO_len ..
   have HE:Hid (wrE gs l (.mk op name tail ty p q xs i) t=y0++wrL gs l op name tail ty t 0 xs):=by rw[hy0];exact wrE_mk ..
   have HY:Hid (y0=if ¬ o=0∧¬ o=t then [(i:Int)] else []):=by rw[hy0,ho];exact rfl
   clear hy0 ho
   go_wp2_with fail
   refine hown.mono ?_
   rintro e w1 ⟨rfl,hb1⟩
   have hB1:=Below.thn HB.out hb1
   have hF1:=hFW.up hb1
   have hl1:=hlW.up hb1
   have hP1:=hPW.up hb1
   have hE1:=hE.up hb1
   have hL1:=hLW.up hb1
   have hw1:=hb1.size
   clear hown hFW hlW hPW hE hLW hb1 p0 c0 c1 c2 c3 c4 c5 c6 HB
   have HB1:Hid (Below w.heap.size w w1):=hB1
   clear hB1
   obtain⟨bb,hbb⟩:∃ bb,bb=decide (¬ o=0∧¬ o=t):=⟨_,rfl⟩
   have HBB:Hid (bb=decide (¬ o=0∧¬ o=t)):=hbb
   clear hbb
   go_upto_region 3 with fail
   go_cut [23] (fun u wx=>u=.bool bb∧wx=w1)
   case first=>
    by_cases h0:o=0
    ·have HX:Hid (false=bb):=by rw[HBB.out,h0];rfl
     subst h0
     go_wp2_with fail
     go_meet
     case rel=>exact⟨by rw[HX.out],rfl⟩
    ·have g0:(o != 0)=true:=by simpa using h0
     by_cases h1:o=t
     ·have g1:(o != t)=false:=by simpa using h1
      have HX:Hid (false=bb):=by rw[HBB.out];simp[Hid,h1]
      clear h0 h1
      go_wp2_with fail
      go_meet
      case rel=>exact⟨by rw[HX.out],rfl⟩
     ·have g1:(o != t)=true:=by simpa using h1
      have HX:Hid (true=bb):=by rw[HBB.out];simp[Hid,h0,h1]
      clear h0 h1
      go_wp2_with fail
      go_meet
      case rel=>exact⟨by rw[HX.out],rfl⟩
   case rest=>
   obtain⟨rfl,rfl⟩:=hcut
   generalize wc=w1 at *
   go_upto_if 23 with fail
   go_cut [9] (fun u wx=>IvO wx w1.heap.size u y0∧Below w1.heap.size w1 wx)
   case first=>
    have e6:w1.cell? ⟨be,6,none⟩=some (.int .i64 i):=hE1.cell 6
    cases bb with
    |false=>
     have hy:y0=[]:=by rw[HY.out,if_neg (of_decide_eq_false HBB.out.symm)]
     have HX:Hid (IvO w1 w1.heap.size (.slice none 0 0) y0∧Below w1.heap.size w1 w1):=by rw[hy];exact⟨IvO.nil _ _,Below.refl _ _⟩
     clear hy hF1 hl1 hP1 hE1 hL1
     go_wp2_with fail
     go_meet
     case rel=>exact HX.out
    |true=>
     have hy:y0=[(i:Int)]:=by rw[HY.out,if_pos (of_decide_eq_true HBB.out.symm)]
     have hbn:=below_alloc w1 (.cells #[.int .i64 i] 3)
     obtain⟨v',w',R,hO',hb'⟩:=iv_app (w:=w1.alloc (.cells #[.int .i64 i] 3)) (B:=w1.heap.size) (zs:=[(i:Int)]) (IvO.nil _ _) hbn.size ⟨w1.heap.size,0,none⟩ 1 (fun j u hj=>by rw[Addr.add_mid,Nat.zero_add];exact ((Bk.new w1 3 #[.int .i64 i]).cell j).trans hj) (by simp)
     rw[List.nil_append,← hy] at hO'
     have HX:Hid (IvO w' w1.heap.size v' y0∧Below w1.heap.size w1 w'):=⟨hO',hbn.trans hb'⟩
     clear hy hO' hb' hbn hF1 hl1 hP1 hE1 hL1
     go_wp2_with (at_builtin;refine wpList_append_run rfl (.tmp 24) (.tmp 27) 66 rfl rfl _ _ rfl rfl _ _ (show _=_ from R) ?_)
     go_meet
     case rel=>exact HX.out
   case rest=>
    obtain⟨hO2,hb2⟩:=hcut
    generalize wc=w2 at *
    have c5:w2.cell? ⟨be,5,none⟩=some (.slice ax xs.length cx):=(hE1.up hb2).cell 5
    clear HY
    go_wp2_with fail
    go_loopw [9,11] (fun u v wr=>∃ k:Nat,k≤xs.length∧v=.int .i64 k∧IvO wr w1.heap.size u (y0++wrL gs l op name tail ty t 0 (xs.take k))∧Below w1.heap.size w1 wr) (fun _ v _=>xs.length-(intOf v).toNat)
    case atStart=>exact⟨0,Nat.zero_le _,rfl,by rw[List.take_zero,wrL_nil,List.append_nil];exact hO2,hb2⟩
    case round=>
     obtain⟨k,hkn,rfl,hOk,hBk⟩:=hrel
     clear hO2 hb2 c5
     have hwr:=hBk.size
     have hEr:=hE1.up hBk
     have hLr:=hL1.up hBk
     have hFr:=hF1.up hBk
     have hPr:=hP1.up hBk
     have hlr:=hl1.up hBk
     have c5:wr.cell? ⟨be,5,none⟩=some (.slice ax xs.length cx):=hEr.cell 5
     by_cases hlt:k<xs.length
     ·have HS2:Hid (y0++wrL gs l op name tail ty t 0 (xs.take (k+1))=(y0++wrL gs l op name tail ty t 0 (xs.take k))++wrE gs (l++bndR op name tail ty k) (xs.getD k ed) (wntR gs op name ty k t)):=by
       have:=wrL_step gs l op name tail ty t xs 0 k hlt
       rw[Nat.zero_add] at this
       rw[this,List.append_assoc]
       rfl
      have hsz:=szE_at xs k hlt
      have hst:=szL_take xs k hlt
      have hsT:szL (xs.take (k+1))≤szL xs:=szL_le xs (k+1)
      have hl5:(y0++wrL gs l op name tail ty t 0 (xs.take k)).length≤1+szL (xs.take k):=by
       rw[List.length_append]
       have:=wrL_len gs l op name tail ty t 0 (xs.take k)
       omega
      obtain⟨yk,hyk⟩:∃ yk,yk=y0++wrL gs l op name tail ty t 0 (xs.take k):=⟨_,rfl⟩
      rw[← hyk] at hOk HS2 hl5
      clear hyk
      obtain⟨g,off,rfl⟩:=hlr.place (by intro e;simp[e] at hlt)
      obtain⟨vs,hv,hxv⟩:=hlr.at k hlt
      obtain⟨u0,u1,u2,u3,u4,u5,u6,rfl⟩:=list7 hxv.len
      have hwk:lnE (xs.getD k ed):=wfL_at xs hwL k hlt
      have hB2:=bndR_len op name tail ty k
      have HWI:Hid (∀ X,Below wr.heap.size wr X→Calls Try.prog 33 #[v,.agg #[.int .i64 op,.string (bs name),.string (bs tail),.int .i64 ty,.complex .f64 fp fq,.slice (some ⟨g,off,none⟩) xs.length cx,.int .i64 i],.int .i64 k] X fun e w'=>(∃ v',e=.returned v'∧PaS w' v' (l++bndR op name tail ty k))∧Below X.heap.size X w'):=fun X hX=>within07_any (hPr.up hX) (by omega) op name tail ty _ _ _ k
      have HWA:Hid (∀ X,Below wr.heap.size wr X→Calls Try.prog 25 #[.agg #[.slice ao gs.length c],.agg #[.int .i64 op,.string (bs name),.string (bs tail),.int .i64 ty,.complex .f64 fp fq,.slice (some ⟨g,off,none⟩) xs.length cx,.int .i64 i],.int .i64 k,.int .i64 t] X fun e w'=>e=.returned (.int .i64 (wntR gs op name ty k t))∧Below X.heap.size X w'):=fun X hX=>wanted07_any (c:=c) (hFr.up hX) (fun j h=>by have:=HA.out j h;have:=hX.size;omega) hgs op name tail ty _ _ _ k t HOP.out
      have HRE:Hid (∀ X v3,Below wr.heap.size wr X→PaS X v3 (l++bndR op name tail ty k)→Calls Try.prog 22 #[.agg #[.slice ao gs.length c],v3,.agg #[u0,u1,u2,u3,u4,u5,u6],.int .i64 (wntR gs op name ty k t)] X fun e w'=>(∃ v',e=.returned v'∧IvO w' X.heap.size v' (wrE gs (l++bndR op name tail ty k) (xs.getD k ed) (wntR gs op name ty k t)))∧Below X.heap.size X w'):=fun X v3 hX hp=>IH.out (xs.getD k ed) (by omega) (by omega) hwk X A ao [u0,u1,u2,u3,u4,u5,u6] v3 _ _ (hFr.up hX) (hxv.up hX) (fun j h=>by have:=HA.out j h;have:=hX.size;omega) hp (by rw[List.length_append];omega)
      have HS:Hid (∀ X,Below wr.heap.size wr X→X.cell? ⟨w.heap.size,0,none⟩=some (.slice ao gs.length c)∧X.cell? ⟨be,0,none⟩=some (.int .i64 op)∧X.cell? ⟨be,1,none⟩=some (.string (bs name))∧X.cell? ⟨be,2,none⟩=some (.string (bs tail))∧X.cell? ⟨be,3,none⟩=some (.int .i64 ty)∧X.cell? ⟨be,4,none⟩=some (.complex .f64 fp fq)∧X.cell? ⟨be,5,none⟩=some (.slice (some ⟨g,off,none⟩) xs.length cx)∧X.cell? ⟨be,6,none⟩=some (.int .i64 i)∧X.cell? ⟨g,off+k*7,none⟩=some u0∧X.cell? ⟨g,off+k*7+1,none⟩=some u1∧X.cell? ⟨g,off+k*7+2,none⟩=some u2∧X.cell? ⟨g,off+k*7+3,none⟩=some u3∧X.cell? ⟨g,off+k*7+4,none⟩=some u4∧X.cell? ⟨g,off+k*7+5,none⟩=some u5∧X.cell? ⟨g,off+k*7+6,none⟩=some u6):=fun X hX=>by
       obtain⟨e0,e1,e2,e3,e4,e5,e6⟩:=Bk.seven (show Bk X be 40 [_,_,_,_,_,_,_] from hEr.up hX)
       obtain⟨d0,d1,d2,d3,d4,d5,d6⟩:=range7 (w:=X) (fun j u hj=>(World.cell?_of_block (hX.block _ (cell_lt (hv j u hj)))).trans (hv j u hj))
       exact⟨(hLr.up hX).cell 0,e0,e1,e2,e3,e4,e5,e6,d0,d1,d2,d3,d4,d5,d6⟩
      obtain⟨lk,hlk⟩:∃ lk,lk=l++bndR op name tail ty k:=⟨_,rfl⟩
      obtain⟨tk,htk⟩:∃ tk,tk=wntR gs op name ty k t:=⟨_,rfl⟩
      obtain⟨zk,hzk⟩:∃ zk,zk=wrE gs (l++bndR op name tail ty k) (xs.getD k ed) (wntR gs op name ty k t):=⟨_,rfl⟩
      have hl6:zk.length≤szE (xs.getD k ed):=by rw[hzk];exact wrE_len ..
      rw[← hzk] at HRE HS2
      rw[← hlk] at HRE HWI
      rw[← htk] at HRE HWA
      have k0:wr.drew.cell? ⟨w.heap.size,0,none⟩=some (.slice ao gs.length c)∧wr.drew.cell? ⟨be,0,none⟩=some (.int .i64 op)∧wr.drew.cell? ⟨be,1,none⟩=some (.string (bs name))∧wr.drew.cell? ⟨be,2,none⟩=some (.string (bs tail))∧wr.drew.cell? ⟨be,3,none⟩=some (.int .i64 ty)∧wr.drew.cell? ⟨be,4,none⟩=some (.complex .f64 fp fq)∧wr.drew.cell? ⟨be,5,none⟩=some (.slice (some ⟨g,off,none⟩) xs.length cx)∧wr.drew.cell? ⟨be,6,none⟩=some (.int .i64 i)∧wr.drew.cell? ⟨g,off+k*7,none⟩=some u0∧wr.drew.cell? ⟨g,off+k*7+1,none⟩=some u1∧wr.drew.cell? ⟨g,off+k*7+2,none⟩=some u2∧wr.drew.cell? ⟨g,off+k*7+3,none⟩=some u3∧wr.drew.cell? ⟨g,off+k*7+4,none⟩=some u4∧wr.drew.cell? ⟨g,off+k*7+5,none⟩=some u5∧wr.drew.cell? ⟨g,off+k*7+6,none⟩=some u6:=HS.out _ (Below.refl wr.heap.size wr).drew
      clear hlk htk hzk hv hxv hwk hEr hLr hFr hPr hlr hF1 hl1 hP1 hE1 hL1
      go_upto_region 8 with fail
      clear c5
      go_region_held3 (fun X=>X.cell? ⟨w.heap.size,0,none⟩=some (.slice ao gs.length c)∧X.cell? ⟨be,0,none⟩=some (.int .i64 op)∧X.cell? ⟨be,1,none⟩=some (.string (bs name))∧X.cell? ⟨be,2,none⟩=some (.string (bs tail))∧X.cell? ⟨be,3,none⟩=some (.int .i64 ty)∧X.cell? ⟨be,4,none⟩=some (.complex .f64 fp fq)∧X.cell? ⟨be,5,none⟩=some (.slice (some ⟨g,off,none⟩) xs.length cx)∧X.cell? ⟨be,6,none⟩=some (.int .i64 i)∧X.cell? ⟨g,off+k*7,none⟩=some u0∧X.cell? ⟨g,off+k*7+1,none⟩=some u1∧X.cell? ⟨g,off+k*7+2,none⟩=some u2∧X.cell? ⟨g,off+k*7+3,none⟩=some u3∧X.cell? ⟨g,off+k*7+4,none⟩=some u4∧X.cell? ⟨g,off+k*7+5,none⟩=some u5∧X.cell? ⟨g,off+k*7+6,none⟩=some u6) (first|with_reducible exact k0|with_reducible assumption)
       (first
        |(go_at_call 22;refine (HRE.out _ _ b5 p5).mono ?_;rintro e w6 ⟨⟨v6,rfl,hO6⟩,n6⟩;have b6:Below wr.heap.size wr w6:=Below.thn b5 n6;have k6:w6.cell? ⟨w.heap.size,0,none⟩=some (.slice ao gs.length c)∧w6.cell? ⟨be,0,none⟩=some (.int .i64 op)∧w6.cell? ⟨be,1,none⟩=some (.string (bs name))∧w6.cell? ⟨be,2,none⟩=some (.string (bs tail))∧w6.cell? ⟨be,3,none⟩=some (.int .i64 ty)∧w6.cell? ⟨be,4,none⟩=some (.complex .f64 fp fq)∧w6.cell? ⟨be,5,none⟩=some (.slice (some ⟨g,off,none⟩) xs.length cx)∧w6.cell? ⟨be,6,none⟩=some (.int .i64 i)∧w6.cell? ⟨g,off+k*7,none⟩=some u0∧w6.cell? ⟨g,off+k*7+1,none⟩=some u1∧w6.cell? ⟨g,off+k*7+2,none⟩=some u2∧w6.cell? ⟨g,off+k*7+3,none⟩=some u3∧w6.cell? ⟨g,off+k*7+4,none⟩=some u4∧w6.cell? ⟨g,off+k*7+5,none⟩=some u5∧w6.cell? ⟨g,off+k*7+6,none⟩=some u6:=HS.out _ b6;clear n6)
        |(go_at_call 25;refine (HWA.out _ b4).mono ?_;rintro e w5 ⟨rfl,n5⟩;have b5:Below wr.heap.size wr w5:=Below.thn b4 n5;have p5:=p4.up n5;have k5:w5.cell? ⟨w.heap.size,0,none⟩=some (.slice ao gs.length c)∧w5.cell? ⟨be,0,none⟩=some (.int .i64 op)∧w5.cell? ⟨be,1,none⟩=some (.string (bs name))∧w5.cell? ⟨be,2,none⟩=some (.string (bs tail))∧w5.cell? ⟨be,3,none⟩=some (.int .i64 ty)∧w5.cell? ⟨be,4,none⟩=some (.complex .f64 fp fq)∧w5.cell? ⟨be,5,none⟩=some (.slice (some ⟨g,off,none⟩) xs.length cx)∧w5.cell? ⟨be,6,none⟩=some (.int .i64 i)∧w5.cell? ⟨g,off+k*7,none⟩=some u0∧w5.cell? ⟨g,off+k*7+1,none⟩=some u1∧w5.cell? ⟨g,off+k*7+2,none⟩=some u2∧w5.cell? ⟨g,off+k*7+3,none⟩=some u3∧w5.cell? ⟨g,off+k*7+4,none⟩=some u4∧w5.cell? ⟨g,off+k*7+5,none⟩=some u5∧w5.cell? ⟨g,off+k*7+6,none⟩=some u6:=HS.out _ b5;clear n5)
        |(go_at_call 33;refine (HWI.out _ (Below.refl wr.heap.size wr).drew).mono ?_;rintro e w4 ⟨⟨v4,rfl,p4⟩,n4⟩;have b4:Below wr.heap.size wr w4:=Below.thn (Below.refl wr.heap.size wr).drew n4;have k4:w4.cell? ⟨w.heap.size,0,none⟩=some (.slice ao gs.length c)∧w4.cell? ⟨be,0,none⟩=some (.int .i64 op)∧w4.cell? ⟨be,1,none⟩=some (.string (bs name))∧w4.cell? ⟨be,2,none⟩=some (.string (bs tail))∧w4.cell? ⟨be,3,none⟩=some (.int .i64 ty)∧w4.cell? ⟨be,4,none⟩=some (.complex .f64 fp fq)∧w4.cell? ⟨be,5,none⟩=some (.slice (some ⟨g,off,none⟩) xs.length cx)∧w4.cell? ⟨be,6,none⟩=some (.int .i64 i)∧w4.cell? ⟨g,off+k*7,none⟩=some u0∧w4.cell? ⟨g,off+k*7+1,none⟩=some u1∧w4.cell? ⟨g,off+k*7+2,none⟩=some u2∧w4.cell? ⟨g,off+k*7+3,none⟩=some u3∧w4.cell? ⟨g,off+k*7+4,none⟩=some u4∧w4.cell? ⟨g,off+k*7+5,none⟩=some u5∧w4.cell? ⟨g,off+k*7+6,none⟩=some u6:=HS.out _ b4;clear n4))
      all_goals
       have hw6:=b6.size
       obtain⟨v7,w7,R7,hO7,hb7⟩:=iv_two (hOk.up b6) (by omega) hO6 (by omega)
       rw[← HS2.out] at hO7
       have hBe:Below w1.heap.size w1 w7:=(hBk.trans (b6.mono (by omega))).trans hb7
       clear k0 k4 k5 k6 hO6 hOk hb7
       go_wp2_with (at_builtin;refine wpList_append_run rfl (.tmp 52) (.tmp 53) 66 rfl rfl _ _ rfl rfl _ _ (show _=_ from R7) ?_)
       go_roundw
       case rel=>exact⟨k+1,by omega,by go_num,hO7,hBe⟩
       case measure=>simp[intOf];omega
     ·have hke:k=xs.length:=by omega
      subst hke
      rw[List.take_length,← HE.out] at hOk
      have HBf:Hid (Below w.heap.size w wr):=Below.thn HB1.out hBk
      clear hF1 hl1 hP1 hE1 hL1 hEr hLr hFr hPr hlr
      go_wp2_with fail
      go_ret
      exact⟨⟨_,rfl,hOk.low (by omega)⟩,HBf.out⟩
end Go.Proofs.Ytkbglnhdbnijlaa
namespace Go.Proofs.Ytkbglnhdbnijlaa
mutual
def clE (gs:List Fn1):Ex→Prop
 |.mk op name _ _ _ _ xs _=>(op=7→∃ g,hdF gs name=some g∧g.pms.length=xs.length)∧clL gs xs
def clL (gs:List Fn1):List Ex→Prop
 |[]=>True
 |x::xs=>clE gs x∧clL gs xs
end
theorem clE_mk (gs:List Fn1) (op:Int) (name tail:List UInt8) (ty p q:Int) (xs:List Ex) (i:Nat):clE gs (.mk op name tail ty p q xs i)↔(op=7→∃ g,hdF gs name=some g∧g.pms.length=xs.length)∧clL gs xs:=by rw[clE]
theorem clL_cons (gs:List Fn1) (x:Ex) (xs:List Ex):clL gs (x::xs)↔clE gs x∧clL gs xs:=by rw[clL]
theorem cal_no {gs:List Fn1} {name:List UInt8} {n i:Nat} (h:calF gs name n i=[]):∃ g,hdF gs name=some g∧g.pms.length=n:=by
 unfold calF at h
 have hh:=hdN_find gs name
 by_cases e:hdN gs name<0
 ·rw[if_pos e] at h
  cases h
 ·rw[if_neg e] at h
  have h2:=hh.2 e
  by_cases e2:(gs.getD (hdN gs name).toNat fd).pms.length≠n
  ·rw[if_pos e2] at h
   cases h
  ·have e2:(gs.getD (hdN gs name).toNat fd).pms.length=n:=by simpa using e2
   rw[e2] at h2
   unfold cntF at h2
   unfold hdF
   obtain⟨g,h3,h4⟩:=Option.map_eq_some_iff.1 h2
   exact⟨g,h3,h4⟩
mutual
theorem cl_E (gs:List Fn1):∀ (x:Ex) (env:List (List UInt8)),(snE env x).flatMap (snF gs)=[]→clE gs x
 |.mk op name tail ty p q xs i,env,h=>by
  rw[snE_mk,List.flatMap_append,List.append_eq_nil_iff] at h
  rw[clE_mk]
  refine⟨fun e=>?_,cl_L gs xs env op name tail 0 h.2⟩
  subst e
  have h1:=h.1
  unfold snO at h1
  rw[if_pos (.inr rfl)] at h1
  refine cal_no (i:=i) ?_
  simpa [snF] using h1
theorem cl_L (gs:List Fn1):∀ (xs:List Ex) (env:List (List UInt8)) (op:Int) (name tail:List UInt8) (j:Nat),(snL env op name tail j xs).flatMap (snF gs)=[]→clL gs xs
 |[],_,_,_,_,_,_=>by rw[clL];trivial
 |x::xs,env,op,name,tail,j,h=>by
  rw[snL_cons,List.flatMap_append,List.append_eq_nil_iff] at h
  rw[clL_cons]
  exact⟨cl_E gs x _ h.1,cl_L gs xs env op name tail (j+1) h.2⟩
end
theorem funF_gen:∀ (gs:List Fn1) (ff:List UInt8→Option Fn1) (s:List UInt8),gs.foldl addF ff s=match ff s with|some g=>some g|none=>hdF gs s
 |[],ff,s=>by
  show ff s=_
  cases ff s<;>rfl
 |g::gs,ff,s=>by
  rw[List.foldl_cons,funF_gen gs _ s]
  unfold addF
  cases hf:ff g.name with
  |some m=>
   dsimp only
   cases hs:ff s with
   |some k=>rfl
   |none=>
    have:¬ g.name=s:=by intro e;rw[e,hs] at hf;cases hf
    simp[hdF,this]
  |none=>
   dsimp only
   unfold setF
   by_cases e:s=g.name
   ·subst e
    rw[if_pos rfl,hf]
    simp[hdF]
   ·have e':¬ g.name=s:=fun h=>e h.symm
    rw[if_neg e]
    cases hs:ff s with
    |some m=>rfl
    |none=>simp[hdF,e']
theorem funF_hd (gs:List Fn1) (s:List UInt8):funF gs s=hdF gs s:=funF_gen gs _ s
theorem hdF_mem {gs:List Fn1} {s:List UInt8} {g:Fn1} (h:hdF gs s=some g):g∈gs:=List.mem_of_find?_eq_some h
def Ty3 (t:Int):Prop:=t=1∨t=2∨t=3
def EnvR (tf:List UInt8→Int) (l:List Pa):Prop:=∀ s,(tf s=0∧lookR l s=-1)∨(tf s=lookR l s∧Ty3 (tf s))
theorem lookR_snoc (l:List Pa) (q:Pa) (s:List UInt8):lookR (l++[q]) s=if q.name=s then q.ty else lookR l s:=by
 unfold lookR
 rw[List.reverse_append,List.reverse_singleton,List.singleton_append,List.find?_cons]
 by_cases e:q.name=s
 ·simp[e]
 ·have e2:(q.name==s)=false:=by simpa using e
  rw[e2,if_neg e]
def pmPa (p:Pm):Pa:=⟨p.name,p.ty,p.pos⟩
theorem EnvR.nil:EnvR (fun _=>0) []:=fun _=>.inl ⟨rfl,rfl⟩
theorem EnvR.bind:∀ (ps:List Pm) {tf:List UInt8→Int} {l:List Pa},EnvR tf l→(∀ p∈ps,Ty3 p.ty)→EnvR (bindT tf ps) (l++ps.map pmPa)
 |[],tf,l,h,_=>by simpa [bindT] using h
 |p::ps,tf,l,h,hp=>by
  have h1:EnvR (setT tf p.name p.ty) (l++[pmPa p]):=by
   intro s
   rw[lookR_snoc]
   unfold setT pmPa
   dsimp only
   by_cases e:s=p.name
   ·subst e
    rw[if_pos rfl,if_pos rfl]
    exact .inr ⟨rfl,hp p (by simp)⟩
   ·rw[if_neg e,if_neg fun e'=>e e'.symm]
    exact h s
  have h2:=EnvR.bind ps h1 fun q hq=>hp q (by simp[hq])
  rw[List.append_assoc,List.singleton_append] at h2
  exact h2
theorem bndR_bnd7 (op:Int) (name tail:List UInt8) (ty:Int) (i:Nat):bndR op name tail ty i=(bnd7 op name tail ty i).map pmPa:=by
 unfold bndR bnd7
 split
 ·rfl
 ·split<;>rfl
section
variable {Nm:List UInt8→Prop} {Nu:Int→Int→Prop} {op:Int} {name tail:List UInt8} {ty p q:Int} {n:Nat}
theorem shp_ty (h:Shp Nm Nu op name tail ty p q n) (ho:op=5∨op=21∨op=22):Ty3 ty:=by
 cases h<;>first|assumption|(exfalso;omega)
theorem shp_two18 (h:Shp Nm Nu op name tail ty p q n) (ho:op=18):n=2:=by
 cases h<;>first|rfl|(exfalso;omega)
theorem bnd7_ty (h:Shp Nm Nu op name tail ty p q n) (i:Nat):∀ x∈bnd7 op name tail ty i,Ty3 x.ty:=by
 unfold bnd7
 split
 ·rename_i e
  intro x hx
  have hx:x=⟨name,ty,0⟩:=by simpa using hx
  subst hx
  exact shp_ty h (by omega)
 ·split
  ·intro x hx
   have hx:x=⟨name,1,0⟩∨x=⟨tail,3,0⟩:=by simpa using hx
   rcases hx with rfl|rfl
   ·exact .inl rfl
   ·exact .inr (.inr rfl)
  ·intro x hx
   simp at hx
theorem wnt_two {gs:List Fn1} (hg:∀ g∈gs,Ty3 g.ty∧∀ x∈g.pms,Ty3 x.ty) (h:Shp Nm Nu op name tail ty p q n) (hc:op=7→∃ g,hdF gs name=some g∧g.pms.length=n) {i:Nat} (hi:i<n) {t:Int} (ht:Ty3 t) :
  wntT (funF gs) op name ty i t=wntR gs op name ty i t∧Ty3 (wntR gs op name ty i t):=by
 have hop:=shp_ops h
 by_cases h7:op=7
 ·subst h7
  obtain⟨g,e,hl⟩:=hc rfl
  have e2:wntT (funF gs) 7 name ty i t=(g.pms.getD i pd).ty:=by
   show argT (funF gs) name i=_
   unfold argT
   rw[funF_hd,e]
   dsimp only
   rw[if_pos (by omega)]
  have e3:wntR gs 7 name ty i t=(g.pms.getD i pd).ty:=by
   show argR gs name i=_
   unfold argR
   rw[e]
   dsimp only
   rw[if_pos (by omega)]
  rw[e2,e3]
  refine⟨rfl,(hg g (hdF_mem e)).2 _ ?_⟩
  rw[List.getD_eq_getElem?_getD,List.getElem?_eq_getElem (by omega)]
  exact List.getElem_mem _
 ·by_cases h18:op=18
  ·have:=shp_two18 h h18
   subst h18
   have hi2:i=0∨i=1:=by omega
   rcases hi2 with rfl|rfl
   ·exact⟨rfl,.inl rfl⟩
   ·exact⟨rfl,.inr (.inr rfl)⟩
  ·have hty:op=21∨op=22→Ty3 ty:=fun e=>shp_ty h (by omega)
   have e:wntT (funF gs) op name ty i t=wntR gs op name ty i t:=by
    unfold wntT wntR frs
    simp only[h7,h18,if_false]
   refine⟨e,?_⟩
   unfold wntR
   simp only[h7,h18,if_false]
   repeat' split
   all_goals first|exact ht|exact .inl rfl|exact .inr (.inl rfl)|exact .inr (.inr rfl)|exact hty (by assumption)
theorem own_two {gs:List Fn1} (hg:∀ g∈gs,Ty3 g.ty∧∀ x∈g.pms,Ty3 x.ty) (h:Shp Nm Nu op name tail ty p q n) (hc:op=7→∃ g,hdF gs name=some g∧g.pms.length=n) {tf:List UInt8→Int} {l:List Pa} (he:EnvR tf l) {t:Int} (ht:Ty3 t) :
  (ownB op=true∧¬ ownT (funF gs) tf op name ty n=t)↔(¬ ownR gs l op name ty n=0∧¬ ownR gs l op name ty n=t):=by
 have hop:=shp_ops h
 have h5:op=5→Ty3 ty:=fun e=>shp_ty h (by omega)
 by_cases e6:op=6
 ·subst e6
  have a:ownT (funF gs) tf 6 name ty n=tf name:=rfl
  have b:ownR gs l 6 name ty n=lookR l name:=rfl
  rw[a,b]
  have c:ownB 6=true:=rfl
  rw[c]
  have t0:¬ (0:Int)=t:=by rcases ht with rfl|rfl|rfl<;>decide
  have t1:¬ (-1:Int)=t:=by rcases ht with rfl|rfl|rfl<;>decide
  rcases he name with⟨h1,h2⟩|⟨h1,h2⟩
  ·rw[h1,h2]
   exact⟨fun _=>⟨by decide,t1⟩,fun _=>⟨rfl,t0⟩⟩
  ·rw[← h1]
   unfold Ty3 at h2
   constructor
   ·intro k
    exact⟨by omega,k.2⟩
   ·intro k
    exact⟨rfl,k.2⟩
 ·by_cases e7:op=7
  ·subst e7
   obtain⟨g,e,hl⟩:=hc rfl
   have a:ownT (funF gs) tf 7 name ty n=g.ty:=by
    show callT (funF gs) name n=_
    unfold callT
    rw[funF_hd,e]
    dsimp only
    rw[if_pos hl]
   have b:ownR gs l 7 name ty n=g.ty:=by
    show callR gs name n=_
    unfold callR
    rw[e]
    dsimp only
    rw[if_pos hl]
   rw[a,b]
   have:=(hg g (hdF_mem e)).1
   unfold Ty3 at this
   constructor
   ·intro k
    exact⟨by omega,k.2⟩
   ·intro k
    exact⟨rfl,k.2⟩
  ·by_cases e5:op=5
   ·subst e5
    have a:ownT (funF gs) tf 5 name ty n=ty:=rfl
    have b:ownR gs l 5 name ty n=ty:=rfl
    rw[a,b]
    have:=h5 rfl
    unfold Ty3 at this
    constructor
    ·intro k
     exact⟨by omega,k.2⟩
    ·intro k
     exact⟨rfl,k.2⟩
   ·rcases hop with rfl|rfl|rfl|rfl|rfl|rfl|rfl|rfl|rfl|rfl|rfl|rfl|rfl|rfl|rfl|rfl|rfl|rfl|rfl|rfl|rfl|rfl
    all_goals first|exact absurd rfl e5|exact absurd rfl e6|exact absurd rfl e7|exact⟨fun k=>⟨(by decide:¬ (1:Int)=0),k.2⟩,fun k=>⟨rfl,k.2⟩⟩|exact⟨fun k=>⟨(by decide:¬ (2:Int)=0),k.2⟩,fun k=>⟨rfl,k.2⟩⟩|exact⟨fun k=>⟨(by decide:¬ (3:Int)=0),k.2⟩,fun k=>⟨rfl,k.2⟩⟩|exact⟨fun k=>absurd k.1 (by decide),fun k=>absurd rfl k.1⟩
end
mutual
theorem wt_wr {Nm:List UInt8→Prop} {Nu:Int→Int→Prop} {gs:List Fn1} (hg:∀ g∈gs,Ty3 g.ty∧∀ x∈g.pms,Ty3 x.ty):∀ (x:Ex) (tf:List UInt8→Int) (l:List Pa) (t:Int) (r:Int × Int),wfE Nm Nu x→clE gs x→EnvR tf l→Ty3 t→wtE (funF gs) tf x t r=(wrE gs l x t).foldl tellT r
 |.mk op name tail ty p q xs i,tf,l,t,r,hw,hc,he,ht=>by
  rw[wfE_mk] at hw
  rw[clE_mk] at hc
  rw[wtE_mk,wrE_mk,List.foldl_append]
  have e:seeT (funF gs) tf op name ty xs.length t i r=(wrO gs l op name ty xs.length i t).foldl tellT r:=by
   have k:=own_two hg hw.1 hc.1 he ht
   unfold seeT wrO
   by_cases h:ownB op=true∧¬ ownT (funF gs) tf op name ty xs.length=t
   ·rw[if_pos h,if_pos (k.1 h)]
    rfl
   ·rw[if_neg h,if_neg fun h'=>h (k.2 h')]
    rfl
  rw[e]
  exact wt_wrL hg op name tail ty p q xs.length hw.1 hc.1 tf l t he ht xs 0 _ (by omega) hw.2 hc.2
theorem wt_wrL {Nm:List UInt8→Prop} {Nu:Int→Int→Prop} {gs:List Fn1} (hg:∀ g∈gs,Ty3 g.ty∧∀ x∈g.pms,Ty3 x.ty) (op:Int) (name tail:List UInt8) (ty p q:Int) (n:Nat) (hs:Shp Nm Nu op name tail ty p q n) (hc:op=7→∃ g,hdF gs name=some g∧g.pms.length=n) (tf:List UInt8→Int) (l:List Pa) (t:Int) (he:EnvR tf l) (ht:Ty3 t):∀ (xs:List Ex) (i:Nat) (r:Int × Int),i+xs.length≤n→wfL Nm Nu xs→clL gs xs→wtL (funF gs) tf op name tail ty t i xs r=(wrL gs l op name tail ty t i xs).foldl tellT r
 |[],i,r,_,_,_=>by rw[wtL_nil,wrL_nil];rfl
 |x::xs,i,r,hi,hw,hcl=>by
  rw[wfL_cons] at hw
  rw[clL_cons] at hcl
  rw[List.length_cons] at hi
  have hwn:=wnt_two hg hs hc (i:=i) (by omega) ht
  rw[wtL_cons,wrL_cons,List.foldl_append,hwn.1,wt_wr hg x _ (l++bndR op name tail ty i) _ r hw.1 hcl.1 (by rw[bndR_bnd7];exact he.bind _ (bnd7_ty hs i)) hwn.2]
  exact wt_wrL hg op name tail ty p q n hs hc tf l t he ht xs (i+1) _ (by omega) hw.2 hcl.2
end
def wrF (gs:List Fn1) (g:Fn1):List Int:=wrE gs (g.pms.map pmPa) g.body g.ty
def rtP (gs:List Fn1):Int × Int:=if (lsP (ftP gs)).1=0 then gs.foldl (fun r g=>(wrF gs g).foldl tellT r) (0,0) else lsP (ftP gs)
theorem ft_zero {gs:List Fn1} (h:(lsP (ftP gs)).1=0):ftP gs=[]:=lsP_no (ftP_why gs) h
theorem tyP_rtP {Nm:List UInt8→Prop} {Nu:Int→Int→Prop} {gs:List Fn1} (hw:∀ g∈gs,WfF Nm Nu g) (hn:(gs.flatMap nmF).Nodup):tyP gs=rtP gs:=by
 have e:=scP_lsP hn
 unfold tyP rtP
 rw[e]
 by_cases h:(lsP (ftP gs)).1=0
 ·rw[if_pos h,if_pos h]
  have h0:=ft_zero h
  have hg:∀ g∈gs,Ty3 g.ty∧∀ x∈g.pms,Ty3 x.ty:=fun g hg=>⟨(hw g hg).ty,fun x hx=>((hw g hg).pms x hx).2⟩
  have hcl:∀ g∈gs,clE gs g.body:=by
   intro g hg
   obtain⟨k,hk,rfl⟩:=List.mem_iff_getElem.1 hg
   unfold ftP fnK at h0
   rw[List.flatMap_eq_nil_iff] at h0
   have h1:=h0 k (List.mem_range.2 hk)
   unfold fnF at h1
   rw[List.append_eq_nil_iff,List.append_eq_nil_iff,List.getD_eq_getElem?_getD,List.getElem?_eq_getElem hk] at h1
   exact cl_E gs _ _ h1.2.2
  have gen:∀ (hs:List Fn1) (r:Int × Int),(∀ g∈hs,g∈gs)→lkL (funF gs) hs r=hs.foldl (fun r g=>(wrF gs g).foldl tellT r) r:=by
   intro hs
   induction hs with
   |nil=>intro r _;rfl
   |cons g hs ih=>
    intro r hm
    have hgm:=hm g (by simp)
    show lkL (funF gs) hs (lkT (funF gs) g.pms g.body g.ty r)=_
    rw[ih _ fun k hk=>hm k (by simp[hk]),List.foldl_cons]
    have e2:lkT (funF gs) g.pms g.body g.ty r=(wrF gs g).foldl tellT r:=by
     have h3:=EnvR.nil.bind g.pms fun x hx=>((hw g hgm).pms x hx).2
     rw[List.nil_append] at h3
     exact wt_wr hg g.body _ _ _ r (hw g hgm).body (hcl g hgm) h3 (hw g hgm).ty
    rw[e2]
  exact gen gs (0,0) fun g hg=>hg
 ·rw[if_neg h,if_neg h]
end Go.Proofs.Ytkbglnhdbnijlaa
