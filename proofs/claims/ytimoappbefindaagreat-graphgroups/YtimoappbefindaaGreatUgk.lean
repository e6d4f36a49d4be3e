/-
  8 texts in one: what each proves stands at its head.
-/
import Derived.Test.YtimoappbefindaaGreatUgb
import Derived.Test.YtimoappbefindaaGreatUgg
import Derived.Test.YtimoappbefindaaGreatUgj
import Derived.Deep.RegionWith
import Derived.Test.YtimoappbefindaaGreatUt
import Derived.Lib.SlBytesConst
import Derived.Test.YtimoappbefindaaGreatUs
import Derived.Test.YtimoappbefindaaGreatUjb
namespace Go.Proofs.YtimoappbefindaaGreat
set_option maxHeartbeats 16000000
open Go.RowKit
set_option maxRecDepth 100000
namespace Gw
open Tj
theorem csW_of {w:World} {b:Nat} {cs:List (List Int)} (h:oO w b cs):CsW w b w.heap.size cs:=by
 obtain⟨vs,h1,h2,h3⟩:=h
 refine⟨h1.lt,fun v hv=>?_⟩
 have he:cs[v]?=some (cs.getD v []):=by rw[List.getD_eq_getElem?_getD,List.getElem?_eq_getElem hv];rfl
 obtain⟨ao,c,e,_,hr⟩:=h3 v _ he
 refine⟨ao,c,?_,?_⟩
 ·rw[h1.cell,List.getElem?_eq_getElem (by omega),← e,List.getD_eq_getElem?_getD,List.getElem?_eq_getElem (by omega)]
  rfl
 ·rcases hr with hr|⟨g,e1,_,hl,hc⟩
  ·exact .inl hr
  ·refine .inr ⟨g,e1,hl,fun t ht=>hc t _ ?_⟩
   rw[List.getElem?_eq_getElem ht,List.getD_eq_getElem?_getD (l:=cs.getD v []),List.getElem?_eq_getElem ht]
   rfl
theorem csx_of {cs:List (List Int)} (h:CsOk cs) (hn:cs.length≤65536):Csx cs cs.length:=⟨rfl,by omega,fun v _ x hx=>(h.at v).1 x hx,fun v _=>by have:=(h.at v).2;omega⟩
theorem adjOf_mem {cs cs':List (List Int)} (h:∀ (j:Nat) x,x∈cs.getD j []↔x∈cs'.getD j []) (v x:Nat):x∈aH cs v↔x∈aH cs' v:=by
 unfold aH
 simp only[List.mem_map]
 exact⟨fun ⟨y,h1,h2⟩=>⟨y,(h v y).1 h1,h2⟩,fun ⟨y,h1,h2⟩=>⟨y,(h v y).2 h1,h2⟩⟩
theorem iB {adj adj':Nat→List Nat} (ha:∀ v x,x∈adj v↔x∈adj' v) {a b:Nat} (h:Star adj a b):Star adj' a b:=by
 induction h with
 |refl=>exact .refl
 |on _ hc ih=>exact .on ih ((ha _ _).1 hc)
theorem Lst.mem {adj adj':Nat→List Nat} {n:Nat} {lst:Nat→Nat} (ha:∀ v x,x∈adj v↔x∈adj' v) (h:Lst adj n lst):Lst adj' n lst:=
 ⟨fun v hv=>⟨iB ha (h.sc v hv).1,iB ha (h.sc v hv).2⟩,fun v u hv hs=>h.le v u hv ⟨iB (fun v x=>(ha v x).symm) hs.1,iB (fun v x=>(ha v x).symm) hs.2⟩⟩
def mH (w:World) (gs:List Fn1) (e:Ending) (w':World):Prop:=
 Below w.heap.size w w'∧((scP gs).1≠0∧e=.returned (.tuple #[.slice none 0 0,.int .i64 3]) ∨
  (scP gs).1=0∧∃ vg out Zg Ws S T kw Z V lst es,e=.returned (.tuple #[vg,.int .i64 0])∧Lst (aH (csG gs)) gs.length lst∧Od.Fin (aH (csG gs)) lst gs.length out∧w.heap.size≤Zg∧w.heap.size≤Z∧w'.ownsRow Zg 36 1 vg (out.map (V 0)).length (out.map (V 0))∧Lw w' S T kw Z gs.length V (lR lst gs.length es) Ws∧LwB S T kw gs.length V Zg)
section
variable {w:World} {A:Nat→Prop} {ao:Option Addr} {gs:List Fn1} {c:Nat}
theorem groups_any (hF:FlW w A ao gs) (hA:∀ k,A k→k<w.heap.size) (hln:∀ g∈gs,lnF g) (hsz:∀ g∈gs,szE g.body≤65536) (hps:∀ g∈gs,g.pms.length≤65536) (hgs:gs.length≤65536) :
  Calls Tryz.prog 19 #[.agg #[.slice ao gs.length c]] w fun e w'=>mH w gs e w':=by
 have hb0:=ae w (.cells #[.slice ao gs.length c] 26)
 have hL0:=Bk.new w 26 #[.slice ao gs.length c]
 go_enter Tryz.func19,Tryz.ntmps19
 go_upto_region 1 with fail
 generalize w.alloc (.cells #[.slice ao gs.length c] 26)=W at *
 have hwW:w.heap.size<W.heap.size:=hL0.lt
 have c0:W.cell? ⟨w.heap.size,0,none⟩=some (.slice ao gs.length c):=hL0.cell 0
 have hFW:=hF.up hb0
 have hs:=lq (c:=c) hFW (fun k h=>by have:=hA k h;omega) hln hsz hps hgs
 go_wp2_with fail
 refine hs.mono ?_
 rintro e w2 ⟨hb2,h⟩
 have hB2:=Below.thn hb0 hb2
 clear hs c0 hFW hL0 hb0 hb2
 rcases h with⟨hz,rfl⟩|⟨hz,b,rfl,hb,hR⟩
 ·go_wp2_with fail
  exact bodyPost_ret (v:=.tuple #[.slice none 0 0,.int .i64 3]) (by simp[results,Tryz.results19,go_sem]) rfl ⟨hB2,.inl ⟨hz,rfl⟩⟩
 ·obtain⟨cs,hG,hcl,hcn⟩:=hR.gen rfl
  have hok:=rows_ok hcl hcn hsz
  have hmem:=jR hcl hcn
  have hC2:=csW_of hG
  have hX:=csx_of hok (by omega)
  rw[hcl] at hX
  have hle:=least_any w2 b gs.length gs.length cs hC2 hX (Nat.le_refl _)
  have HME:Hid (∀ (j:Nat) x,x∈cs.getD j []↔x∈(csG gs).getD j []):=hmem
  have HX:Hid (Csx cs gs.length):=hX
  have HM:Hid (∀ v,(aH cs v).length≤65536):=fun v=>by rw[eZ];exact (hok.at v).2
  have HC:Hid (CsW w2 b w2.heap.size cs):=hC2
  clear hR hG hok hcn hmem hX hC2 hF hA hln hsz hps
  go_wp2_with fail
  refine hle.mono ?_
  rintro e w3 ⟨kl,Ll,rfl,hkl,hBi,hLl,hLs,hb3⟩
  have hlst:Lst (aH cs) gs.length (fn Ll):=⟨fun v hv=>(hLs v hv).2.1,fun v u hv hs=>(hLs v hv).2.2 u hs⟩
  have hpl:∀ v,v<gs.length→0≤Ll.getD v 0∧Ll.getD v 0<gs.length:=fun v hv=>by
   have h1:=hlst.lt hv
   have h2:=(hLs v hv).1
   unfold fn at h1
   omega
  have hC3:=HC.out.low hb3
  have hC3':CsW w3 b w3.heap.size cs:=by
   refine⟨Nat.lt_of_lt_of_le hC3.lo hb3.size,fun v hv=>?_⟩
   obtain⟨ro,rc,h1,h2⟩:=hC3.row v hv
   exact⟨ro,rc,h1,h2.imp id fun ⟨g,e,hg,hc⟩=>⟨g,e,Nat.lt_of_lt_of_le hg hb3.size,hc⟩⟩
  have hln:=leanings_any w3 b gs.length gs.length kl cs Ll hC3' HX.out (Nat.le_refl _) hBi hLl hpl
  have hB3:=Below.thn hB2 hb3
  have HL:Hid (Lst (aH cs) gs.length (fn Ll)):=hlst
  clear hle hlst hpl hC3 hC3' hLs hBi hb3 HC
  go_wp2_with fail
  refine hln.mono ?_
  rintro e w4 ⟨S,T,kw,Z,V,rfl,hZ,hW,hb4⟩
  have hm:=HM.out
  have hes:(Od.edges (aH cs) (fn Ll) gs.length).length≤100000000000:=by
   have h1:=pF (lst:=fn Ll) hm gs.length 0
   rw[nJ] at h1
   exact Nat.le_trans h1 (Nat.le_trans (Nat.mul_le_mul_right _ (show gs.length+1≤65537 by omega)) (by decide))
  have hod:=order_any w4 S kw Z gs.length T V (aH cs) (fn Ll) hW HL.out.idem (by omega) hes
  have hB4:=Below.thn hB3 hb4
  have hZ2:=hB3.size
  clear hln hm hes hW hb4
  go_wp2_with fail
  refine hod.mono ?_
  rintro e w5 ⟨vg,out,Zg,Ws,rfl,hFi,hZg,hOw,hW5,hBd,hb5⟩
  have hB5:=hB4.trans (hb5.mono (by omega))
  have hZ3:=hB4.size
  clear hod
  have hmm:=adjOf_mem HME.out
  have hfin:=mE (lst':=fn Ll) (adj':=aH (csG gs)) (fun v x _=>hmm v x) HX.out.adj (fun _ _=>rfl) hFi
  have HE:Hid (mH w gs (.returned (.tuple #[vg,.int .i64 0])) w5):=⟨hB5,.inr ⟨hz,vg,out,Zg,Ws,_,T,kw,Z,V,fn Ll,_,rfl,HL.out.mem hmm,hfin,by omega,by omega,hOw,hW5,hBd⟩⟩
  clear hOw hW5 hBd hfin hFi hmm hb5 hB5
  go_wp2_with fail
  exact bodyPost_ret (v:=.tuple #[vg,.int .i64 0]) (by simp[results,Tryz.results19,go_sem]) rfl HE.out
end
def bO (w:World) (B:Nat) (v:Value) (ls:List (List Int)):Prop:=∃ vs:List Value,w.ownsRow B 36 1 v vs.length vs∧vs.length=ls.length∧∀ (j:Nat) (l:List Int),ls[j]?=some l→∃ u,vs[j]?=some u∧OwI w 0 u l
theorem jK {w:World} {B B' n:Nat} {T:TypeId} {v:Value} {xs:List Value} (h:w.ownsRow B T 1 v n xs) (hb:B'≤B):w.ownsRow B' T 1 v n xs:=⟨h.1,h.2.imp id fun ⟨g,c,cur,e1,e2,e3⟩=>⟨g,c,cur,e1,Nat.le_trans hb e2,e3⟩⟩
theorem own_types {w:World} {B B' n m:Nat} {T T':TypeId} {v u:Value} {xs ys:List Value} (h:w.ownsRow B T 1 v n xs) (g:w.ownsRow B' T' 1 u m ys) (hT:T≠T'):∀ b,v.ownBlock=some b→u.ownBlock≠some b:=fun b h1 h2=>by
 rcases h.2 with⟨e,_⟩|⟨b1,c,cur,e,_,hc,_⟩
 ·rw[e] at h1;cases h1
 ·rcases g.2 with⟨e2,_⟩|⟨b2,c2,cur2,e2,_,hc2,_⟩
  ·rw[e2] at h2;cases h2
  ·rw[e] at h1
   rw[e2] at h2
   have k1:b1=b:=Option.some.inj h1
   have k2:b2=b:=Option.some.inj h2
   rw[k1] at hc
   rw[k2,hc] at hc2
   simp only[Option.some.injEq,Obj.cells.injEq] at hc2
   exact hT hc2.2.1
section
variable {w w':World} {B:Nat} {v:Value} {ls:List (List Int)}
theorem bO.nil (w:World) (B:Nat):bO w B (.slice none 0 0) []:=⟨[],⟨rfl,.inl ⟨rfl,rfl⟩⟩,rfl,fun j row h=>by simp at h⟩
theorem bO.up (h:bO w B v ls) (hb:Below w.heap.size w w'):bO w' B v ls:=by
 obtain⟨vs,h1,h2,h3⟩:=h
 refine⟨vs,aV h1 hb,h2,fun j row hj=>?_⟩
 obtain⟨u,e,hg⟩:=h3 j row hj
 exact⟨u,e,aV hg hb⟩
theorem bO.len (h:bO w B v ls):∃ ao c,v=.slice ao ls.length c:=by
 obtain⟨vs,h1,h2,_⟩:=h
 obtain⟨r,c,e⟩:=fo h1
 rw[h2] at e
 exact⟨r,c,e⟩
theorem bO.mark (h:bO w B v ls) {lb:Nat} {r:List Value} (hl:Bk w lb 4 r) (hk:∀ k,k≠lb→w'.heap[k]?=w.heap[k]?):bO w' B v ls:=by
 have hne:∀ (B:Nat) (T:TypeId) (u:Value) (n:Nat) (xs:List Value),T≠4→w.ownsRow B T 1 u n xs→∀ g,u.ownBlock=some g→g≠lb:=fun B T u n xs hT ho g hg e=>by
  rcases ho.2 with⟨e2,_⟩|⟨b1,c,cur,e2,_,hc,_⟩
  ·rw[e2] at hg;cases hg
  ·rw[e2] at hg
   have k1:b1=g:=Option.some.inj hg
   rw[k1,e] at hc
   unfold Bk at hl
   rw[hl] at hc
   simp only[Option.some.injEq,Obj.cells.injEq] at hc
   exact hT hc.2.1.symm
 obtain⟨vs,h1,h2,h3⟩:=h
 refine⟨vs,aA h1 fun g hg=>hk g (hne _ _ _ _ _ (by decide) h1 g hg),h2,fun j row hj=>?_⟩
 obtain⟨u,e,hg⟩:=h3 j row hj
 exact⟨u,e,aA hg fun g hg2=>hk g (hne _ _ _ _ _ (by decide) hg g hg2)⟩
theorem bO.app (h:bO w B v ls) {xr:Option Addr} {xc:Nat} {l:List Int} (hu:OwI w 0 (.slice xr l.length xc) l) (hB:B≤w.heap.size) (hl:ls.length≤65536) :
  ∃ v' w2,(Builtin.append_ #[29,29] 29 #[v,.slice (some ⟨w.heap.size,0,none⟩) 1 1]).run Tryz.prog (w.alloc (.cells #[.slice xr l.length xc] 36))=.ok v' w2∧bO w2 B v' (ls++[l])∧Below B w w2∧∀ k,k<w.heap.size→v.ownBlock≠some k→w2.heap[k]?=w.heap[k]?:=by
 obtain⟨vs,h1,h2,h3⟩:=h
 obtain⟨i0,hi,hz0,hz1,hz2⟩:=info_parts Tryz.infoS
 have hb:=ae w (.cells #[.slice xr l.length xc] 36)
 obtain⟨v',w2,hr,ho,hgr,_,hloc⟩:=run_append_own_at (P:=Tryz.prog) (w.alloc (.cells #[.slice xr l.length xc] 36)) B 29 29 36 i0 (.slice none 0 0) 1 24 Tryz.underS hi hz0 hz1 hz2 rfl (by decide) v vs.length _ (aV h1 hb) ⟨w.heap.size,0,none⟩ 1 1 [.slice xr l.length xc] rfl (cell_one_new w (.slice xr l.length xc) 36) (by intro u hu;simp at hu;subst hu;rfl) (by unfold maxLen;omega) (by omega) (by simp;omega)
 have hsz1:(w.alloc (.cells #[.slice xr l.length xc] 36)).heap.size=w.heap.size+1:=by simp
 have hk:∀ k,k<w.heap.size→v.ownBlock≠some k→w2.heap[k]?=w.heap[k]?:=fun k hk hv=>(hgr.block k (by omega) fun e=>hv e.symm).trans (hb.block k hk)
 have hkeep:∀ (u:Value) (l:List Int),OwI w 0 u l→OwI w2 0 u l:=fun u l hu=>aA hu fun g hg=>hk g (hu.lt g hg).2 (own_types hu h1 (by decide) g hg)
 refine⟨v',w2,hr,⟨vs++[.slice xr l.length xc],by rw[List.length_append];exact ho,by rw[List.length_append,List.length_append,h2];rfl,fun j r hj=>?_⟩,(hb.mono hB).grown hgr (by omega) fun k e=>(h1.lt k e).1,hk⟩
 rcases Nat.lt_or_ge j ls.length with hjt|hjt
 ·rw[List.getElem?_append_left hjt] at hj
  obtain⟨u,e,hb2⟩:=h3 j r hj
  exact⟨u,by rw[List.getElem?_append_left (by omega)];exact e,hkeep _ _ hb2⟩
 ·rw[List.getElem?_append_right hjt] at hj
  have hj0:j-ls.length=0:=by
   have:=(List.getElem?_eq_some_iff.1 hj).1
   simp at this
   omega
  rw[hj0] at hj
  obtain rfl:l=r:=by simpa using hj
  exact⟨_,by rw[List.getElem?_append_right (by omega),h2,hj0];rfl,hkeep _ _ hu⟩
end
def adjT (t:List (List Bool)) (v:Nat):List Nat:=(List.range t.length).filter fun k=>tt t v k
theorem di {t:List (List Bool)} {v k:Nat}:k∈adjT t v↔k<t.length∧tt t v k=true:=by
 unfold adjT
 rw[List.mem_filter,List.mem_range]
def FarN (adj:Nat→List Nat) (i k:Nat):Prop:=∃ y,y∈adj i∧Star adj y k
theorem nQ {adj:Nat→List Nat} {a b:Nat}:Star adj a b↔b=a∨FarN adj a b:=by
 constructor
 ·intro h
  induction h with
  |refl=>exact .inl rfl
  |on hs hc ih=>
   rcases ih with rfl|⟨y,h1,h2⟩
   ·exact .inr ⟨_,hc,.refl⟩
   ·exact .inr ⟨y,h1,.on h2 hc⟩
 ·rintro (rfl|⟨y,h1,h2⟩)
  ·exact .refl
  ·exact (Star.one h1).trans h2
theorem sc_far {adj:Nat→List Nat} {i k:Nat}:Sc adj i k↔k=i∨(FarN adj i k∧FarN adj k i):=by
 unfold Sc
 rw[nQ,nQ]
 constructor
 ·rintro ⟨h1|h1,h2|h2⟩
  ·exact .inl h1
  ·exact .inl h1
  ·exact .inl h2.symm
  ·exact .inr ⟨h1,h2⟩
 ·rintro (h|⟨h1,h2⟩)
  ·exact⟨.inl h,.inl h.symm⟩
  ·exact⟨.inr h1,.inr h2⟩
section
variable {t:List (List Bool)}
theorem ku (hrow:∀ row∈t,row.length=t.length) (j:Nat) (x:Int):x∈(ctT t).getD j []↔∃ y:Nat,x=(y:Int)∧y∈adjT t j:=by
 by_cases hj:j<t.length
 ·have he:t[j]?=some (t.getD j []):=by rw[List.getD_eq_getElem?_getD,List.getElem?_eq_getElem hj];rfl
  have hl:=hrow _ (List.mem_of_getElem? he)
  rw[o9 he,fP,hl]
  constructor
  ·rintro ⟨h1,h2,h3⟩
   refine⟨x.toNat,by omega,di.2 ⟨by omega,?_⟩⟩
   unfold tt
   rw[List.getD_eq_getElem?_getD (l:=t.getD j []),h3]
   rfl
  ·rintro ⟨y,rfl,hy⟩
   obtain⟨h1,h2⟩:=di.1 hy
   refine⟨by omega,by omega,?_⟩
   unfold tt at h2
   rw[List.getD_eq_getElem?_getD (l:=t.getD j []),List.getElem?_eq_getElem (by omega)] at h2
   rw[show ((y:Nat):Int).toNat=y from by omega,List.getElem?_eq_getElem (by omega)]
   exact congrArg some h2
 ·have h1:(ctT t).getD j []=[]:=by
   rw[List.getD_eq_getElem?_getD,List.getElem?_eq_none (by unfold ctT;rw[List.length_map];omega)]
   rfl
  rw[h1]
  constructor
  ·intro h;cases h
  ·rintro ⟨y,_,hy⟩
   have:=(di.1 hy).2
   unfold tt at this
   rw[List.getD_eq_getElem?_getD (l:=t),List.getElem?_eq_none (by omega)] at this
   simp at this
theorem rch_far (hrow:∀ row∈t,row.length=t.length) (i:Nat) (x:Int):Rch (ctT t) ((ctT t).getD i []) x↔∃ k:Nat,x=(k:Int)∧FarN (adjT t) i k:=by
 constructor
 ·intro h
  induction h with
  |here h=>
   obtain⟨y,e,hy⟩:=(ku hrow i _).1 h
   exact⟨y,e,y,hy,.refl⟩
  |on _ h ih=>
   obtain⟨k,rfl,y,h1,h2⟩:=ih
   rw[show ((k:Nat):Int).toNat=k from by omega] at h
   obtain⟨z,e,hz⟩:=(ku hrow k _).1 h
   exact⟨z,e,y,h1,.on h2 hz⟩
 ·rintro ⟨k,rfl,y,h1,h2⟩
  induction h2 with
  |refl=>exact .here ((ku hrow i _).2 ⟨y,rfl,h1⟩)
  |on _ hc ih=>exact .on ih (by rw[show ∀ b:Nat,((b:Nat):Int).toNat=b from fun b=>by omega];exact (ku hrow _ _).2 ⟨_,rfl,hc⟩)
end
structure FarT (adj:Nat→List Nat) (n:Nat) (F:List (List Bool)):Prop where
 len:F.length=n
 rows:∀ row∈F,row.length=n
 says:∀ i k,i<n→k<n→(tt F i k=true↔FarN adj i k)
section
variable {adj:Nat→List Nat} {n:Nat} {F:List (List Bool)} {lst:Nat→Nat}
theorem FarT.grp (h:FarT adj n F) (hl:Lst adj n lst) {i:Nat} (hi:i<n):grpT F i n=grp lst n (lst i):=by
 unfold grpT Gw.grp
 refine List.filter_congr fun k hk=>?_
 rw[List.mem_range] at hk
 have h1:=h.says i k hi hk
 have h2:=h.says k i hk hi
 have h3:=(hl.same hk hi).trans (⟨fun g=>g.symm,fun g=>g.symm⟩:Sc adj k i↔Sc adj i k)
 rw[sc_far] at h3
 rw[Bool.eq_iff_iff]
 simp only[Bool.or_eq_true,Bool.and_eq_true,decide_eq_true_eq]
 rw[h1,h2,h3]
theorem free_says {t:List (List Bool)} (ht:t.length=n) {out:List Nat} {i:Nat} (b:Bool) (hb:b=true↔∀ x,x∈Gw.grp lst n (lst i)→∀ k,k<t.length→OkD t (fun k=>decide (lst k ∉ out)) (Gw.grp lst n (lst i)) x k):(lst i ∉ out∧b=true)↔fO (adjT t) lst n out i:=by
 rw[hb]
 unfold fO OkD
 refine and_congr_right fun _=>⟨fun h v hv e w hw ho=>?_,fun h x hx k hk h1 h2=>?_⟩
 ·obtain⟨hw1,hw2⟩:=di.1 hw
  exact (eX.1 (h v (eX.2 ⟨hv,e⟩) w hw1 hw2 (decide_eq_true ho))).2
 ·obtain⟨hx1,hx2⟩:=eX.1 hx
  exact eX.2 ⟨by omega,h x hx1 hx2 k (di.2 ⟨hk,h1⟩) (of_decide_eq_true h2)⟩
end
theorem ja (y a why at_:Int) (h:why≠0):(bP y a why at_).1≠0:=by
 unfold bP
 split
 ·exact h
 ·next k=>exact fun e=>k (.inl e)
theorem see_zero {pf:List UInt8→Option Nat} {cn:List UInt8→Nat} {op:Int} {name:List UInt8} {n:Nat} {at_:Int} {p:Int × Int} (h:(seeP pf cn op name n at_ p).1=0):p.1=0∧(op=7→∃ k,pf name=some k):=by
 have key:∀ q:Int × Int,(if op=7 then gI pf name n q at_ else q).1=0→q.1=0∧(op=7→∃ k,pf name=some k):=fun q hq=>by
  by_cases e:op=7
  ·rw[if_pos e] at hq
   unfold gI at hq
   cases hp:pf name with
   |none=>
    rw[hp] at hq
    exact absurd hq (ja _ _ _ _ (by decide))
   |some k=>
    rw[hp] at hq
    simp only at hq
    by_cases e2:k=n
    ·rw[if_pos e2] at hq
     exact⟨hq,fun _=>⟨k,rfl⟩⟩
    ·rw[if_neg e2] at hq
     exact absurd hq (ja _ _ _ _ (by decide))
  ·rw[if_neg e] at hq
   exact⟨hq,fun k=>absurd k e⟩
 obtain⟨h1,h2⟩:=key _ h
 refine⟨?_,h2⟩
 by_cases e:op=6∧cn name=0
 ·rw[if_pos e] at h1
  exact absurd h1 (ja _ _ _ _ (by decide))
 ·rw[if_neg e] at h1
  exact h1
mutual
theorem mZ {pf:List UInt8→Option Nat}:∀ (x:Ex) (env:List (List UInt8)) (p:Int × Int),(wkE pf env x p).1=0→p.1=0∧∀ s,s∈ncE x→∃ k,pf s=some k
 |.mk op name tail ty a b xs i,env,p,h=>by
  rw[qO] at h
  obtain⟨h1,h2⟩:=oh xs env op name tail 0 _ h
  obtain⟨h3,h4⟩:=see_zero h1
  refine⟨h3,fun s hs=>?_⟩
  rw[nC,List.mem_append] at hs
  rcases hs with hs|hs
  ·by_cases e:op=7
   ·rw[if_pos e,List.mem_singleton] at hs
    rw[hs]
    exact h4 e
   ·rw[if_neg e] at hs;cases hs
  ·exact h2 s hs
theorem oh {pf:List UInt8→Option Nat}:∀ (xs:List Ex) (env:List (List UInt8)) (op:Int) (name tail:List UInt8) (i:Nat) (p:Int × Int),(wkL pf env op name tail i xs p).1=0→p.1=0∧∀ s,s∈ncL xs→∃ k,pf s=some k
 |[],env,op,name,tail,i,p,h=>by
  rw[jM] at h
  exact⟨h,fun s hs=>by rw[iH] at hs;cases hs⟩
 |x::xs,env,op,name,tail,i,p,h=>by
  rw[fI] at h
  obtain⟨h1,h2⟩:=oh xs env op name tail (i+1) _ h
  obtain⟨h3,h4⟩:=mZ x _ p h1
  refine⟨h3,fun s hs=>?_⟩
  rw[eQ,List.mem_append] at hs
  rcases hs with hs|hs
  ·exact h4 s hs
  ·exact h2 s hs
end
theorem ni:∀ (xs:List Pm) (env:List (List UInt8)) (p:Int × Int),(prmL env xs p).1=0→p.1=0
 |[],env,p,h=>h
 |x::xs,env,p,h=>by
  have h1:=ni xs (env++[x.name]) (if 0<env.count x.name then bP p.1 p.2 30 x.pos else p) h
  by_cases e:0<env.count x.name
  ·rw[if_pos e] at h1
   exact absurd h1 (ja _ _ _ _ (by decide))
  ·rw[if_neg e] at h1
   exact h1
theorem win_zero {pf:List UInt8→Option Nat}:∀ (gs:List Fn1) (p:Int × Int),(winL pf gs p).1=0→p.1=0∧∀ g,g∈gs→∀ s,s∈ncE g.body→∃ k,pf s=some k
 |[],p,h=>⟨h,fun g hg=>by cases hg⟩
 |g::gs,p,h=>by
  have h0:(winL pf gs (winP pf g p)).1=0:=h
  obtain⟨h1,h2⟩:=win_zero gs (winP pf g p) h0
  unfold winP at h1
  obtain⟨h3,h4⟩:=mZ _ _ _ h1
  refine⟨ni _ _ _ h3,fun g' hg=>?_⟩
  rcases List.mem_cons.1 hg with rfl|hg
  ·exact h4
  ·exact h2 g' hg
theorem nA:∀ (gs:List Fn1) (q:(List UInt8→Option Nat) × (Int × Int)),(dfnL gs q).2.1=0→q.2.1=0∧(gs.map (·.name)).Nodup∧(∀ g,g∈gs→q.1 g.name=none)∧∀ s k,(dfnL gs q).1 s=some k→q.1 s=some k∨∃ g,g∈gs∧g.name=s
 |[],q,h=>⟨h,List.nodup_nil,fun g hg=>(by cases hg),fun s k hk=>.inl hk⟩
 |g::gs,q,h=>by
  have h0:(dfnL gs (dfnP g q)).2.1=0:=h
  obtain⟨h1,h2,h3,h4⟩:=nA gs (dfnP g q) h0
  cases e:q.1 g.name with
  |some k=>
   unfold dfnP at h1
   rw[e] at h1
   exact absurd h1 (ja _ _ _ _ (by decide))
  |none=>
   have ed:dfnP g q=(putN q.1 g.name g.pms.length,q.2):=by unfold dfnP;rw[e]
   rw[ed] at h1 h3 h4
   refine⟨h1,?_,fun g' hg=>?_,fun s k hk=>?_⟩
   ·rw[List.map_cons,List.nodup_cons]
    refine⟨fun hm=>?_,h2⟩
    obtain⟨g',hg',e2⟩:=List.mem_map.1 hm
    have h5:=h3 g' hg'
    unfold putN at h5
    simp only at h5
    rw[if_pos e2] at h5
    cases h5
   ·rcases List.mem_cons.1 hg with rfl|hg
    ·exact e
    ·have h5:=h3 g' hg
     unfold putN at h5
     simp only at h5
     by_cases e2:g'.name=g.name
     ·rw[if_pos e2] at h5;cases h5
     ·rw[if_neg e2] at h5;exact h5
   ·have hk2:(dfnL gs (putN q.1 g.name g.pms.length,q.2)).1 s=some k:=by rw[← ed];exact hk
    rcases h4 s k hk2 with h5|⟨g',hg',e2⟩
    ·unfold putN at h5
     simp only at h5
     by_cases e2:s=g.name
     ·exact .inr ⟨g,List.mem_cons_self,e2.symm⟩
     ·rw[if_neg e2] at h5;exact .inl h5
    ·exact .inr ⟨g',List.mem_cons_of_mem _ hg',e2⟩
theorem scP_names {gs:List Fn1} (h:(scP gs).1=0):(gs.map (·.name)).Nodup∧∀ g,g∈gs→∀ s,s∈ncE g.body→∃ g',g'∈gs∧g'.name=s:=by
 unfold scP at h
 obtain⟨h1,h2⟩:=win_zero gs _ h
 obtain⟨_,h3,_,h4⟩:=nA gs _ h1
 refine⟨h3,fun g hg s hs=>?_⟩
 obtain⟨k,hk⟩:=h2 g hg s hs
 rcases h4 s k hk with h5|h5
 ·cases h5
 ·exact h5
theorem nY (gs:List Fn1) (s:List UInt8):∀ m,(∃ k,k<m∧(gs.getD k fd).name=s)→∃ i:Nat,knK gs m s=some (i:Int)∧i<m∧(gs.getD i fd).name=s
 |0,h=>by obtain⟨k,hk,_⟩:=h;omega
 |m+1,h=>by
  unfold knK
  by_cases e:s=(gs.getD m fd).name
  ·exact⟨m,if_pos e,by omega,e.symm⟩
  ·obtain⟨k,hk,e2⟩:=h
   have hkm:k≠m:=fun e3=>e (by rw[← e2,e3])
   obtain⟨i,h1,h2,h3⟩:=nY gs s m ⟨k,by omega,e2⟩
   exact⟨i,by rw[if_neg e];exact h1,by omega,h3⟩
section
variable {gs:List Fn1}
theorem names_one (hn:(gs.map (·.name)).Nodup) {a b:Nat} (ha:a<gs.length) (hb:b<gs.length) (e:(gs.getD a fd).name=(gs.getD b fd).name):a=b:=by
 have h1:(gs.map (·.name))[a]'(by rw[List.length_map];exact ha)=(gs.map (·.name))[b]'(by rw[List.length_map];exact hb):=by
  rw[List.getElem_map,List.getElem_map]
  rw[List.getD_eq_getElem?_getD,List.getD_eq_getElem?_getD,List.getElem?_eq_getElem ha,List.getElem?_eq_getElem hb] at e
  exact e
 exact (List.getElem_inj hn).1 h1
theorem qK {v k:Nat} (hv:v<gs.length) (hk:k<gs.length):tt (tabG gs) v k=decide ((gs.getD k fd).name∈ncE (gs.getD v fd).body):=by
 unfold tt tabG
 rw[List.getD_eq_getElem?_getD (l:=gs.map (rowG gs)),List.getElem?_map,List.getElem?_eq_getElem hv]
 show ((rowG gs gs[v]).getD k false)=_
 unfold rowG
 rw[List.getD_eq_getElem?_getD,rJ _ hk,List.getD_eq_getElem?_getD (l:=gs) (i:=v),List.getElem?_eq_getElem hv]
 rfl
theorem jT (h:(scP gs).1=0) (v x:Nat):x∈aH (csG gs) v↔x∈adjT (tabG gs) v:=by
 obtain⟨hn,hd⟩:=scP_names h
 by_cases hv:v<gs.length
 ·have hgm:gs.getD v fd∈gs:=by rw[List.getD_eq_getElem?_getD,List.getElem?_eq_getElem hv];exact List.getElem_mem hv
  have hall:∀ s,s∈ncE (gs.getD v fd).body→∃ i:Nat,knK gs gs.length s=some (i:Int)∧i<gs.length∧(gs.getD i fd).name=s:=fun s hs=>by
   obtain⟨g',hg',e⟩:=hd _ hgm s hs
   obtain⟨k,hk,e2⟩:=List.getElem_of_mem hg'
   exact nY gs s gs.length ⟨k,hk,by rw[List.getD_eq_getElem?_getD,List.getElem?_eq_getElem hk];show (gs[k]).name=s;rw[e2,e]⟩
  rw[di,cu]
  unfold aH
  rw[qY gs v hv,rM,List.map_map,List.mem_map]
  constructor
  ·rintro ⟨s,hs,e⟩
   obtain⟨i,h1,h2,h3⟩:=hall s hs
   simp only[Function.comp_apply,h1,Option.getD_some] at e
   have:i=x:=by omega
   subst this
   exact⟨h2,by rw[qK hv h2];exact decide_eq_true (by rw[h3];exact hs)⟩
  ·rintro ⟨h1,h2⟩
   rw[qK hv h1] at h2
   have hs:=of_decide_eq_true h2
   obtain⟨i,k1,k2,k3⟩:=hall _ hs
   refine⟨_,hs,?_⟩
   simp only[Function.comp_apply,k1,Option.getD_some]
   have:=names_one hn k2 h1 k3
   omega
 ·constructor
  ·intro hx
   unfold aH at hx
   rw[List.getD_eq_getElem?_getD,List.getElem?_eq_none (by unfold csG;rw[List.length_map];omega)] at hx
   cases hx
  ·intro hx
   have:=(di.1 hx).2
   unfold tt at this
   rw[List.getD_eq_getElem?_getD (l:=tabG gs),List.getElem?_eq_none (by rw[cu];omega)] at this
   simp at this
end
theorem rC {w:World} {v:Value} {xs:List Int} (h:RdI w 0 v xs):∃ ao c,v=.slice ao xs.length c∧∀ j,j<xs.length→∃ g,ao=some ⟨g,0,none⟩∧w.cell? ⟨g,j,none⟩=some (.int .i64 (xs.getD j 0)):=by
 obtain⟨ao,c,e,_,hr⟩:=h
 refine⟨ao,c,e,fun j hj=>?_⟩
 rcases hr with hr|⟨g,e1,_,_,hc⟩
 ·rw[hr] at hj;simp at hj
 ·exact⟨g,e1,hc j _ (by rw[List.getElem?_eq_getElem hj,List.getD_eq_getElem?_getD,List.getElem?_eq_getElem hj];rfl)⟩
theorem take_same {xs ys:List Int} {k:Nat} (hx:k<xs.length) (hy:k<ys.length):xs.take (k+1)=ys.take (k+1)↔xs.take k=ys.take k∧xs.getD k 0=ys.getD k 0:=by
 rw[List.take_succ_eq_append_getElem hx,List.take_succ_eq_append_getElem hy,List.getD_eq_getElem?_getD,List.getD_eq_getElem?_getD,List.getElem?_eq_getElem hx,List.getElem?_eq_getElem hy]
 constructor
 ·intro h
  have h1:=List.append_inj h (by rw[List.length_take,List.length_take];omega)
  exact⟨h1.1,by simpa using h1.2⟩
 ·rintro ⟨h1,h2⟩
  rw[h1]
  simp only[Option.getD_some] at h2
  rw[h2]
theorem iC {w:World} {v u:Value} {xs ys:List Int} (hx:RdI w 0 v xs) (hy:RdI w 0 u ys) (hl:xs.length≤100000000000) :
  Calls Tryz.prog 18 #[v,u] w fun e w'=>e=.returned (.bool (decide (xs=ys)))∧Below w.heap.size w w':=by
 obtain⟨ao,c,rfl,hcx⟩:=rC hx
 obtain⟨bo,d,rfl,hcy⟩:=rC hy
 have HX:Hid (∀ j,j<xs.length→∃ g,ao=some ⟨g,0,none⟩∧w.cell? ⟨g,j,none⟩=some (.int .i64 (xs.getD j 0))):=hcx
 have HY:Hid (∀ j,j<ys.length→∃ g,bo=some ⟨g,0,none⟩∧w.cell? ⟨g,j,none⟩=some (.int .i64 (ys.getD j 0))):=hcy
 clear hx hy hcx hcy
 obtain⟨r,hr⟩:∃ r,r=decide (xs=ys):=⟨_,rfl⟩
 have HR:Hid (r=decide (xs=ys)):=hr
 rw[← hr]
 clear hr
 obtain⟨n,hn⟩:∃ n,n=xs.length:=⟨_,rfl⟩
 obtain⟨m,hm⟩:∃ m,m=ys.length:=⟨_,rfl⟩
 have HN:Hid (n=xs.length):=hn
 have HM:Hid (m=ys.length):=hm
 rw[← hn] at hl ⊢
 rw[← hm]
 clear hn hm
 by_cases hnm:n=m
 ·subst hnm
  have H0:Hid (xs.take 0=ys.take 0):=by simp[Hid]
  go_enter Tryz.func18,Tryz.ntmps18
  go_wp2_with fail
  go_loopw [5] (fun iv wr=>∃ k:Nat,k≤n∧iv=.int .i64 k∧Below w.heap.size w wr∧Hid (xs.take k=ys.take k)) (fun iv _=>n-(intOf iv).toNat)
  case atStart=>exact⟨0,Nat.zero_le _,rfl,Below.refl _ _,H0⟩
  case round=>
   obtain⟨k,hk,rfl,hb,hs⟩:=hrel
   by_cases hlt:k<n
   ·obtain⟨g1,rfl,a1⟩:=HX.out k (by rw[← HN.out];exact hlt)
    obtain⟨g2,rfl,a2⟩:=HY.out k (by rw[← HM.out];exact hlt)
    rw[← hb.cell (by exact cell_below a1)] at a1
    rw[← hb.cell (by exact cell_below a2)] at a2
    have hts:=take_same (xs:=xs) (ys:=ys) (k:=k) (by rw[← HN.out];exact hlt) (by rw[← HM.out];exact hlt)
    obtain⟨x,hx⟩:∃ x,x=xs.getD k 0:=⟨_,rfl⟩
    obtain⟨y,hy⟩:∃ y,y=ys.getD k 0:=⟨_,rfl⟩
    rw[← hx] at a1 hts
    rw[← hy] at a2 hts
    clear hx hy
    by_cases hxy:x=y
    ·have HT:Hid (xs.take (k+1)=ys.take (k+1)):=hts.2 ⟨hs.out,hxy⟩
     have hd:(x != y)=false:=by rw[hxy];exact bne_self_eq_false _
     clear hts hxy
     go_wp2_with fail
     go_quiet (fail)
     have hb2:=below_drewN hb nq
     go_wp2_with fail
     go_roundw
     case rel=>exact⟨k+1,by omega,by go_num,hb2,HT⟩
     case measure=>simp[intOf];omega
    ·have hrf:r=false:=by
      rw[HR.out]
      refine decide_eq_false fun e=>hxy ?_
      exact (hts.1 (by rw[e])).2
     have hd:(x != y)=true:=by rw[bne_iff_ne];exact hxy
     clear hts
     go_wp2_with fail
     go_quiet (fail)
     have hb2:=below_drewN hb nq
     go_wp2_with fail
     go_ret
     rw[hrf]
     exact⟨rfl,hb2⟩
   ·obtain rfl:k=n:=by omega
    have hrt:r=true:=by
     have h1:=hs.out
     rw[List.take_of_length_le (by rw[← HN.out];exact Nat.le_refl _),List.take_of_length_le (by rw[← HM.out];exact Nat.le_refl _)] at h1
     rw[HR.out]
     exact decide_eq_true h1
    go_wp2_with fail
    go_ret
    rw[hrt]
    exact⟨rfl,hb⟩
 ·have hrf:r=false:=by
   rw[HR.out]
   exact decide_eq_false fun e=>hnm (by rw[HN.out,HM.out,e])
  have hd:((n:Int) != (m:Int))=true:=by rw[bne_iff_ne];omega
  go_enter Tryz.func18,Tryz.ntmps18
  go_wp2_with fail
  go_ret
  rw[hrf]
  exact⟨rfl,Below.refl _ _⟩
theorem jL {w:World} {B:Nat} {v:Value} {ls:List (List Int)} (h:bO w B v ls):∃ ao c,v=.slice ao ls.length c∧∀ j,j<ls.length→∃ g u,ao=some ⟨g,0,none⟩∧w.cell? ⟨g,j,none⟩=some u∧OwI w 0 u (ls.getD j []):=by
 obtain⟨vs,h1,h2,h3⟩:=h
 obtain⟨r,c,e⟩:=fo h1
 rw[h2] at e
 refine⟨r,c,e,fun j hj=>?_⟩
 obtain⟨u,hu,ho⟩:=h3 j _ (show ls[j]?=some (ls.getD j []) by rw[List.getD_eq_getElem?_getD,List.getElem?_eq_getElem hj];rfl)
 rcases id h1.2 with⟨_,h0⟩|⟨g,c2,cur,e2,_⟩
 ·omega
 ·subst e2
  have h4:=World.ownsRow.cellAt h1 j (by omega)
  simp only[Value.slice.injEq] at e
  have e3:=e.1
  subst e3
  exact⟨g,u,rfl,h4.trans hu,ho⟩
theorem take_rows {ls ms:List (List Int)} {k:Nat} (hx:k<ls.length) (hy:k<ms.length):ls.take (k+1)=ms.take (k+1)↔ls.take k=ms.take k∧ls.getD k []=ms.getD k []:=by
 rw[List.take_succ_eq_append_getElem hx,List.take_succ_eq_append_getElem hy,List.getD_eq_getElem?_getD,List.getD_eq_getElem?_getD,List.getElem?_eq_getElem hx,List.getElem?_eq_getElem hy]
 constructor
 ·intro h
  have h1:=List.append_inj h (by rw[List.length_take,List.length_take];omega)
  exact⟨h1.1,by simpa using h1.2⟩
 ·rintro ⟨h1,h2⟩
  rw[h1]
  simp only[Option.getD_some] at h2
  rw[h2]
theorem lV {w:World} {B B':Nat} {v u:Value} {ls ms:List (List Int)} (hx:bO w B v ls) (hy:bO w B' u ms) (hl:ls.length≤100000000000) (hll:∀ l,l∈ls→l.length≤100000000000) :
  Calls Tryz.prog 13 #[v,u] w fun e w'=>e=.returned (.bool (decide (ls=ms)))∧Below w.heap.size w w':=by
 obtain⟨ao,c,rfl,hcx⟩:=jL hx
 obtain⟨bo,d,rfl,hcy⟩:=jL hy
 have HX:Hid (∀ j,j<ls.length→∃ g u,ao=some ⟨g,0,none⟩∧w.cell? ⟨g,j,none⟩=some u∧OwI w 0 u (ls.getD j [])):=hcx
 have HY:Hid (∀ j,j<ms.length→∃ g u,bo=some ⟨g,0,none⟩∧w.cell? ⟨g,j,none⟩=some u∧OwI w 0 u (ms.getD j [])):=hcy
 have HLL:Hid (∀ j,j<ls.length→(ls.getD j []).length≤100000000000):=fun j hj=>hll _ (by rw[List.getD_eq_getElem?_getD,List.getElem?_eq_getElem hj];exact List.getElem_mem hj)
 clear hx hy hcx hcy hll
 obtain⟨r,hr⟩:∃ r,r=decide (ls=ms):=⟨_,rfl⟩
 have HR:Hid (r=decide (ls=ms)):=hr
 rw[← hr]
 clear hr
 obtain⟨n,hn⟩:∃ n,n=ls.length:=⟨_,rfl⟩
 obtain⟨m,hm⟩:∃ m,m=ms.length:=⟨_,rfl⟩
 have HN:Hid (n=ls.length):=hn
 have HM:Hid (m=ms.length):=hm
 rw[← hn] at hl ⊢
 rw[← hm]
 clear hn hm
 by_cases hnm:n=m
 ·subst hnm
  have H0:Hid (ls.take 0=ms.take 0):=by simp[Hid]
  go_enter Tryz.func13,Tryz.ntmps13
  go_wp2_with fail
  go_loopw [5] (fun iv wr=>∃ k:Nat,k≤n∧iv=.int .i64 k∧Below w.heap.size w wr∧Hid (ls.take k=ms.take k)) (fun iv _=>n-(intOf iv).toNat)
  case atStart=>exact⟨0,Nat.zero_le _,rfl,Below.refl _ _,H0⟩
  case round=>
   obtain⟨k,hk,rfl,hb,hs⟩:=hrel
   by_cases hlt:k<n
   ·obtain⟨g1,u1,rfl,a1,o1⟩:=HX.out k (by rw[← HN.out];exact hlt)
    obtain⟨g2,u2,rfl,a2,o2⟩:=HY.out k (by rw[← HM.out];exact hlt)
    rw[← hb.cell (by exact cell_below a1)] at a1
    rw[← hb.cell (by exact cell_below a2)] at a2
    have hts:=take_rows (ls:=ls) (ms:=ms) (k:=k) (by rw[← HN.out];exact hlt) (by rw[← HM.out];exact hlt)
    have hbd:=hb.drew
    have hsm:=iC (OwI.rd (aV o1 hbd)) (OwI.rd (aV o2 hbd)) (HLL.out k (by rw[← HN.out];exact hlt))
    obtain⟨q,hq⟩:∃ q,q=decide (ls.getD k []=ms.getD k []):=⟨_,rfl⟩
    rw[← hq] at hsm
    have HQ:Hid (q=decide (ls.getD k []=ms.getD k [])):=hq
    have HTS:Hid (ls.take (k+1)=ms.take (k+1)↔ls.take k=ms.take k∧ls.getD k []=ms.getD k []):=hts
    clear hq hts o1 o2
    go_upto_region 6 with fail
    go_region_with (go_at_call 18;refine hsm.mono ?_;rintro _ w1 ⟨rfl,hb1⟩)
    all_goals
     have hb2:=Below.thn hbd hb1
     cases q with
     |true=>
      have HT:Hid (ls.take (k+1)=ms.take (k+1)):=HTS.out.2 ⟨hs.out,of_decide_eq_true HQ.out.symm⟩
      clear HTS HQ hsm a1 a2
      go_wp2_with fail
      go_roundw
      case rel=>exact⟨k+1,by omega,by go_num,hb2,HT⟩
      case measure=>simp[intOf];omega
     |false=>
      have hrf:r=false:=by
       rw[HR.out]
       exact decide_eq_false fun e=>of_decide_eq_false HQ.out.symm (HTS.out.1 (by rw[e])).2
      clear HTS HQ hsm a1 a2
      go_wp2_with fail
      go_ret
      rw[hrf]
      exact⟨rfl,hb2⟩
   ·obtain rfl:k=n:=by omega
    have hrt:r=true:=by
     have h1:=hs.out
     rw[List.take_of_length_le (by rw[← HN.out];exact Nat.le_refl _),List.take_of_length_le (by rw[← HM.out];exact Nat.le_refl _)] at h1
     rw[HR.out]
     exact decide_eq_true h1
    go_wp2_with fail
    go_ret
    rw[hrt]
    exact⟨rfl,hb⟩
 ·have hrf:r=false:=by
   rw[HR.out]
   exact decide_eq_false fun e=>hnm (by rw[HN.out,HM.out,e])
  have hd:((n:Int) != (m:Int))=true:=by rw[bne_iff_ne];omega
  go_enter Tryz.func13,Tryz.ntmps13
  go_wp2_with fail
  go_ret
  rw[hrf]
  exact⟨rfl,Below.refl _ _⟩
theorem sH {l:List UInt8} {ms:List Mk} {f:Nat} {gs:List Fn1} {j:Nat} (hl:l.length≤32768) (hc:cut rdN l 0=.ok ms) (hp:aS (mf ms) LW5 f [] 0=.ok gs j):∀ g∈gs,lnF g:=
 al_prog (mf ms) LW5 (fun k _=>Nat.le_trans (mf_len hc k) (by omega)) (fun _ _=>trivial) f [] 0 (by simp) gs j hp
def t8:List UInt8:=[97,40,41,58,78,61,98,40,41,59,98,40,41,58,78,61,97,40,41,59,99,40,41,58,78,61,99,40,41,43,97,40,41,59,100,40,41,58,78,61,49,59]
def ms8:List Mk:=match cut rdN t8 0 with|.ok ms=>ms|.bad _=>[]
def g8:List Fn1:=match aS (mf ms8) LW5 600 [] 0 with|.ok gs _=>gs|_=>[]
theorem cut8:cut rdN t8 0=.ok ms8:=by kernel_rfl
theorem qd:aS (mf ms8) LW5 600 [] 0=.ok g8 42:=by kernel_rfl
theorem len8:g8.length=4:=by kernel_rfl
theorem sc8:(scP g8).1=0:=by kernel_rfl
theorem cs8:csG g8=[[1],[0],[2,0],[]]:=by kernel_rfl
theorem ok8:oQ g8:=sG (l:=t8) (f:=600) (by decide) (by decide) cut8 qd
theorem ln8:∀ g∈g8,lnF g:=sH (l:=t8) (f:=600) (by decide) cut8 qd
theorem rd8 {B:Nat} {e:Ending} {w':World} (h:rdV t8 600 B e w'):∃ ao c,e=.returned (.tuple #[.agg #[.slice ao 4 c],.bool true])∧FlW w' (fun b=>B≤b) ao g8:=by
 rcases h with⟨ms,gs,j,ao,c,h1,h2,h3,h4,h5⟩|⟨h,_⟩
 ·rw[cut8] at h2
  cases h2
  rw[qd] at h3
  cases h3
  rw[len8] at h4
  exact⟨ao,c,h4,h5⟩
 ·exact absurd ⟨by decide,cut8,qd⟩ (h _ _ _)
def cs80:List (List Int):=[[1],[0],[2,0],[]]
def lst8 (v:Nat):Nat:=[0,0,2,3].getD v 0
theorem qh {adj:Nat→List Nat} {S:Nat→Prop} (hS:∀ v,S v→∀ x,x∈adj v→S x) {a b:Nat} (h:Star adj a b) (ha:S a):S b:=by
 induction h with
 |refl=>exact ha
 |on _ hc ih=>exact hS _ ih _ hc
theorem lt4 {v:Nat} (h:v<4):v=0∨v=1∨v=2∨v=3:=by omega
theorem lstOk:Lst (aH cs80) 4 lst8:=by
 refine⟨fun v hv=>?_,fun v u hv hs=>?_⟩
 ·rcases lt4 hv with rfl|rfl|rfl|rfl
  ·exact Sc.refl _ _
  ·exact⟨Star.one (show (0:Nat)∈aH cs80 1 by decide),Star.one (show (1:Nat)∈aH cs80 0 by decide)⟩
  ·exact Sc.refl _ _
  ·exact Sc.refl _ _
 ·rcases lt4 hv with rfl|rfl|rfl|rfl
  ·exact Nat.zero_le _
  ·exact Nat.zero_le _
  ·have h2:=hs.2
   show 2≤u
   apply Decidable.byContradiction
   intro hu
   have hS:∀ v,(v=0∨v=1)→∀ x,x∈aH cs80 v→(x=0∨x=1):=fun v h x hx=>by
    rcases h with rfl|rfl
    ·have:x∈[1]:=hx
     simp at this;omega
    ·have:x∈[0]:=hx
     simp at this;omega
   have:=qh hS h2 (by omega)
   omega
  ·have h1:=hs.1
   have hS:∀ v,(v=3)→∀ x,x∈aH cs80 v→(x=3):=fun v h x hx=>by
    subst h
    have:x∈([]:List Nat):=hx
    cases this
   have:=qh hS h1 rfl
   show 3≤u
   omega
theorem finOk:Od.Fin (aH cs80) lst8 4 [0,2,3]:=by
 have key:∀ (o:List Nat) (g:Nat),Od.Avail (aH cs80) lst8 4 o g↔g<4∧lst8 g=g∧g ∉ o∧Od.waits (Od.edges (aH cs80) lst8 4) o g=0:=fun o g=>Od.avail_iff
 have hb:∀ (o:List Nat) (m:Nat),(∀ g,g<4→(lst8 g=g∧g ∉ o∧Od.waits (Od.edges (aH cs80) lst8 4) o g=0)→m≤g)→∀ g,Od.Avail (aH cs80) lst8 4 o g→m≤g:=fun o m h g hg=>h g ((key o g).1 hg).1 ((key o g).1 hg).2
 refine⟨fun k hk=>?_,fun g hg=>?_⟩
 ·have:k=0∨k=1∨k=2:=by simp at hk;omega
  rcases this with rfl|rfl|rfl
  ·exact⟨(key _ _).2 (by decide),hb _ _ (by decide)⟩
  ·exact⟨(key _ _).2 (by decide),hb _ _ (by decide)⟩
  ·exact⟨(key _ _).2 (by decide),hb _ _ (by decide)⟩
 ·have h1:=(key _ _).1 hg
  have h2:∀ g,g<4→¬ (lst8 g=g∧g ∉ [0,2,3]∧Od.waits (Od.edges (aH cs80) lst8 4) [0,2,3] g=0):=by decide
  exact h2 g h1.1 h1.2
theorem sQ:∀ v,v<4→∀ x,x∈aH cs80 v→x<4:=by
 intro v hv
 rcases lt4 hv with rfl|rfl|rfl|rfl<;>decide
theorem groups8 {lst:Nat→Nat} {out:List Nat} (hl:Lst (aH (csG g8)) 4 lst) (hf:Od.Fin (aH (csG g8)) lst 4 out):out=[0,2,3]∧Gw.grp lst 4 0=[0,1]∧Gw.grp lst 4 2=[2]:=by
 rw[cs8] at hl hf
 have he:=Lst.one (fun v x _=>Iff.rfl) sQ hl lstOk
 have hf2:=mE (adj':=aH cs80) (lst':=lst8) (fun v x _=>Iff.rfl) sQ he hf
 refine⟨Od.fin_one hf2 finOk,?_,?_⟩
 ·unfold Gw.grp
  rw[List.filter_congr (q:=fun v=>decide (lst8 v=0)) fun v hv=>by rw[he v (List.mem_range.1 hv)]]
  decide
 ·unfold Gw.grp
  rw[List.filter_congr (q:=fun v=>decide (lst8 v=2)) fun v hv=>by rw[he v (List.mem_range.1 hv)]]
  decide
theorem reach8 {o:List Int} (hp:o.Pairwise (·<·)) (hm:∀ x,x∈o↔Rch (csG g8) [2] x):o=[0,1,2]:=by
 rw[cs8] at hm
 refine IsNs.one (l:=o) (l':=[0,1,2]) ⟨hp,fun _=>Iff.rfl⟩ ⟨by decide,fun _=>Iff.rfl⟩ fun x=>?_
 rw[hm]
 constructor
 ·intro h
  induction h with
  |here h=>rw[List.mem_singleton] at h;rw[h];decide
  |on _ hc ih=>
   simp only[List.mem_cons,List.not_mem_nil,or_false] at ih
   rcases ih with rfl|rfl|rfl
   ·rename_i y _
    have:y∈([1]:List Int):=hc
    rw[List.mem_singleton] at this;rw[this];decide
   ·rename_i y _
    have:y∈([0]:List Int):=hc
    rw[List.mem_singleton] at this;rw[this];decide
   ·rename_i y _
    have:y∈([2,0]:List Int):=hc
    simp only[List.mem_cons,List.not_mem_nil,or_false] at this
    rcases this with rfl|rfl<;>decide
 ·intro h
  have h2:Rch [[1],[0],[2,0],[]] [2] 2:=.here (by decide)
  have h0:Rch [[1],[0],[2,0],[]] [2] 0:=.on h2 (by decide)
  have h1:Rch [[1],[0],[2,0],[]] [2] 1:=.on h0 (by decide)
  simp only[List.mem_cons,List.not_mem_nil,or_false] at h
  rcases h with rfl|rfl|rfl
  ·exact h0
  ·exact h1
  ·exact h2
theorem size_setCell (w:World) (a:Addr) (v:Value):(w.setCell a v).heap.size=w.heap.size:=by simp[World.setCell]
theorem own_mark {w w':World} {B n:Nat} {T:TypeId} {u:Value} {xs:List Value} (ho:w.ownsRow B T 1 u n xs) (hT:T≠4) {lb:Nat} {r:List Value} (hl:Bk w lb 4 r) (hk:∀ k,k≠lb→w'.heap[k]?=w.heap[k]?):w'.ownsRow B T 1 u n xs:=aA ho fun g hg=>hk g fun e=>by
 rcases ho.2 with⟨e2,_⟩|⟨b1,c,cur,e2,_,hc,_⟩
 ·rw[e2] at hg;cases hg
 ·rw[e2] at hg
  have k1:b1=g:=Option.some.inj hg
  rw[k1,e] at hc
  unfold Bk at hl
  rw[hl] at hc
  simp only[Option.some.injEq,Obj.cells.injEq] at hc
  exact hT hc.2.1.symm
def iA (w:World) (gs:List Fn1) (lst:Nat→Nat) (e:Ending) (w':World):Prop:=
 Below w.heap.size w w'∧((lsP (ftP gs)).1≠0∧e=.returned (.tuple #[.slice none 0 0,.int .i64 3]) ∨
  (lsP (ftP gs)).1=0∧∃ vg out,e=.returned (.tuple #[vg,.int .i64 0])∧Od.Fin (adjT (tabG gs)) lst gs.length out∧bO w' w.heap.size vg (out.map fun g=>zs (Gw.grp lst gs.length g)))
theorem kr {n:Nat} {f g:Nat→Bool} (h:∀ k,k<n→f k=g k):bl n f=bl n g:=List.map_congr_left fun k hk=>h k (List.mem_range.1 hk)
theorem refGroups_any {w:World} {A:Nat→Prop} {ao:Option Addr} {gs:List Fn1} {c:Nat} (hF:FlW w A ao gs) (hA:∀ k,A k→k<w.heap.size) (hsz:∀ g∈gs,szE g.body≤65536) (hps:∀ g∈gs,g.pms.length≤65536) (hgs:gs.length≤65536) (lst:Nat→Nat) (hl:(lsP (ftP gs)).1=0→Lst (adjT (tabG gs)) gs.length lst) :
  Calls Tryz.prog 20 #[.agg #[.slice ao gs.length c]] w fun e w'=>iA w gs lst e w':=by
 have hb0:=ae w (.cells #[.slice ao gs.length c] 26)
 have hL0:=Bk.new w 26 #[.slice ao gs.length c]
 go_enter Tryz.func20,Tryz.ntmps20
 go_upto_region 1 with fail
 generalize w.alloc (.cells #[.slice ao gs.length c] 26)=W at *
 have hwW:w.heap.size<W.heap.size:=hL0.lt
 have c0:W.cell? ⟨w.heap.size,0,none⟩=some (.slice ao gs.length c):=hL0.cell 0
 have hFW:=hF.up hb0
 have hA2:∀ k,A k→k<W.heap.size:=fun k h=>by have:=hA k h;omega
 have hs:=check06_any (c:=c) hFW hA2 hsz hps hgs
 clear hF hA
 go_wp2_with fail
 refine hs.mono ?_
 rintro e w2 ⟨rfl,hb2⟩
 have hL2:=hL0.up hb2
 have hF2:=hFW.up hb2
 have hB2:=Below.thn hb0 hb2
 have c2:w2.cell? ⟨w.heap.size,0,none⟩=some (.slice ao gs.length c):=hL2.cell 0
 have hA3:∀ k,A k→k<w2.heap.size:=fun k h=>by have:=hA2 k h;have:=hb2.size;omega
 clear hs c0 hFW hL0 hb0 hb2 hA2 hps
 have hfl:=fun w=>sS (lsP (ftP gs)).1 (lsP (ftP gs)).2 w
 by_cases hz:(lsP (ftP gs)).1=0
 ·rw[hz] at hfl
  have hl0:=hl hz
  have HZ:Hid ((lsP (ftP gs)).1=0):=hz
  have hta:=table_any (c:=c) hF2 hA3 hsz hgs
  rw[hz]
  obtain⟨t,ht⟩:∃ t,t=tabG gs:=⟨_,rfl⟩
  have htl:t.length=gs.length:=by rw[ht,cu]
  have htr:∀ row∈t,row.length=t.length:=by rw[ht];exact tabG_rows gs
  rw[← ht] at hta hl0
  have HT:Hid (t=tabG gs):=ht
  have HL:Hid (Lst (adjT t) gs.length lst):=hl0
  have HTR:Hid (∀ row∈t,row.length=t.length):=htr
  clear hz hl hl0 hF2 hA3 hsz ht htr
  go_wp2_with fail
  refine hta.mono ?_
  clear hfl
  rintro e w3 ⟨⟨vt,rfl,hT3⟩,hb3⟩
  obtain⟨at_,tc,hvt⟩:=hT3.len
  subst hvt
  rw[htl] at hT3 ⊢
  have hB3:=Below.thn hB2 hb3
  have hws3:=hB3.size
  clear hta c2 hL2 hB2 hb3
  have hmk:=dx w3 gs.length hgs
  have hbM:=ae w3 (.cells (madeCells #[.bool false] gs.length) 4)
  have hMX:Bk (w3.alloc (.cells (madeCells #[.bool false] gs.length) 4)) w3.heap.size 4 ((bl gs.length fun k=>decide (k<0)).map Value.bool):=by
   have h:=Bk.new w3 4 (madeCells #[.bool false] gs.length)
   rw[dA,kE] at h
   have e:(fun k=>decide (k<0))=fun _:Nat=>false:=funext fun k=>by simp
   rw[e]
   exact h
  go_wp2_with fail
  have hw4:(w3.alloc (.cells (madeCells #[.bool false] gs.length) 4)).heap.size=w3.heap.size+1:=by simp
  generalize w3.alloc (.cells (madeCells #[.bool false] gs.length) 4)=W4 at *
  clear hmk
  have hF0:TabR W4 (w3.heap.size+1) (.slice none 0 0) []:=TabR.nil _ _
  obtain⟨n,hn⟩:∃ n,n=gs.length:=⟨_,rfl⟩
  have HN:Hid (n=gs.length):=hn
  rw[← hn] at hgs htl hT3 hMX ⊢
  have HF0:Hid (∀ j k,j<0→k<n→(tt ([]:List (List Bool)) j k=true↔FarN (adjT t) j k)):=fun j k h=>absurd h (Nat.not_lt_zero j)
  have HR0:Hid (∀ row∈([]:List (List Bool)),row.length=n):=fun row h=>by cases h
  clear hn
  go_loopw [5,7] (fun u v wr=>∃ (i:Nat) (F:List (List Bool)),i≤n∧v=.int .i64 i∧F.length=i∧TabR wr (w3.heap.size+1) u F∧Hid (∀ row∈F,row.length=n)∧Hid (∀ j k,j<i→k<n→(tt F j k=true↔FarN (adjT t) j k))∧Bk wr w3.heap.size 4 ((bl n fun k=>decide (k<i)).map Value.bool)∧Below w3.heap.size w3 wr∧w3.heap.size+1≤wr.heap.size) (fun _ v _=>n-(intOf v).toNat)
  case atStart=>exact⟨0,[],Nat.zero_le _,rfl,rfl,hF0,HR0,HF0,hMX,hbM,by omega⟩
  case round=>
   obtain⟨i,F,hi,rfl,hFl,hFR,hrs,hsy,hM,hbr,hsw⟩:=hrel
   clear hF0 hMX hbM
   obtain⟨fa,fc,hfa⟩:=hFR.len
   rw[hFl] at hfa
   subst hfa
   by_cases hlt:i<n
   ·obtain⟨tb,c9,e9,hTW⟩:=hT3.tab (by omega)
    rw[htl] at e9
    obtain⟨rfl,rfl⟩:at_=some ⟨tb,0,none⟩∧tc=c9:=by
     simp only[Value.slice.injEq] at e9
     exact⟨e9.1,e9.2.2⟩
    have hst:=step_any (tc:=tc) (i:=i) (hTW.up hbr) (by omega) HTR.out (by omega)
    rw[htl] at hst
    clear hTW e9
    go_wp2_with fail
    refine hst.mono ?_
    rintro e w6 ⟨b,r,rfl,hbw,hBr,hrl,hrs6,hb6⟩
    rw[htl] at hrl ⊢
    have hFR6:=hFR.up hb6
    have hM6:=hM.up hb6
    have hB6:=Below.thn hbr hb6
    have hs6:=hb6.size
    have hdec:i=F.length:=hFl.symm
    obtain⟨v7,w7,hr7,hFR7,hb7,hk7⟩:=hFR6.app hBr (by omega) (by omega) (by omega)
    rw[hrl] at hr7
    have hM7:Bk w7 w3.heap.size 4 ((bl n fun k=>decide (k<i)).map Value.bool):=(hk7 _ hM6.lt (fun e=>by have:=hFR6.low _ e;omega)).trans hM6
    have hs7:=hb7.size
    have hB7:Below w3.heap.size w3 w7:=hB6.trans (hb7.mono (by omega))
    have hrs7:Hid (∀ row∈F++[r],row.length=n):=fun row h=>by
     rcases List.mem_append.1 h with h|h
     ·exact hrs.out row h
     ·rw[List.mem_singleton] at h
      rw[h,hrl]
    have hsy7:Hid (∀ j k,j<i+1→k<n→(tt (F++[r]) j k=true↔FarN (adjT t) j k)):=fun j k hj hk=>by
     rcases Nat.lt_or_ge j i with h|h
     ·have e:tt (F++[r]) j k=tt F j k:=by
       unfold tt
       rw[List.getD_eq_getElem?_getD (l:=F++[r]),List.getElem?_append_left (by omega),← List.getD_eq_getElem?_getD (l:=F)]
      rw[e]
      exact hsy.out j k h hk
     ·obtain rfl:i=j:=by omega
      have e:tt (F++[r]) i k=r.getD k false:=by
       unfold tt
       rw[List.getD_eq_getElem?_getD (l:=F++[r]),List.getElem?_append_right (by omega),hdec,Nat.sub_self]
       rfl
      have h1:=hrs6 (k:Int)
      rw[rch_far HTR.out] at h1
      rw[e,List.getD_eq_getElem?_getD,List.getElem?_eq_getElem (by omega)]
      rw[show ((k:Nat):Int).toNat=k from by omega,List.getElem?_eq_getElem (by omega)] at h1
      constructor
      ·intro h2
       obtain⟨k',e2,h3⟩:=h1.1 ⟨by omega,congrArg some h2⟩
       have:k'=k:=by omega
       rw[this] at h3
       exact h3
      ·intro h2
       exact Option.some.inj (h1.2 ⟨k,rfl,h2⟩).2
    have m1:=fw hM7 hlt
    have m2:=hM7.frz i
    have hM8:=hM7.set i (.bool true)
    rw[← List.map_set,nO,show (fun k=>if k=i then true else decide (k<i))=fun k=>decide (k<i+1) from funext fun k=>by
     by_cases e:k=i
     ·rw[if_pos e,e];simp
     ·rw[if_neg e]
      exact decide_eq_decide.2 ⟨fun h=>by omega,fun h=>by omega⟩] at hM8
    have hFR8:=lY (w':=w7.setCell ⟨w3.heap.size,i,none⟩ (.bool true)) hFR7 fun k hk _=>Below.heap_setCell _ _ _ _ (by show k≠w3.heap.size;omega)
    have hB8:=hB7.setCell (p:=⟨w3.heap.size,i,none⟩) (Nat.le_refl _) (.bool true)
    have HE:Hid (TabR (w7.setCell ⟨w3.heap.size,i,none⟩ (.bool true)) (w3.heap.size+1) v7 (F++[r])∧Bk (w7.setCell ⟨w3.heap.size,i,none⟩ (.bool true)) w3.heap.size 4 ((bl n fun k=>decide (k<i+1)).map Value.bool)∧Below w3.heap.size w3 (w7.setCell ⟨w3.heap.size,i,none⟩ (.bool true))∧w3.heap.size+1≤(w7.setCell ⟨w3.heap.size,i,none⟩ (.bool true)).heap.size):=⟨hFR8,hM8,hB8,by rw[size_setCell];omega⟩
    obtain⟨q,hq⟩:∃ q,q=decide (i<i):=⟨_,rfl⟩
    rw[← hq] at m1
    have HR:Hid (_=_):=hr7
    have hlr:(F++[r]).length=i+1:=by simp[hFl]
    clear hst hBr hrs6 hFR6 hM6 hb6 hB6 hr7 hFR7 hb7 hk7 hM7 hB7 hM8 hFR8 hB8 hq hM hbr hFR hdec
    go_wp2_with (at_builtin;refine wpList_append_run rfl _ _ 68 rfl rfl _ _ rfl rfl _ _ (show _=_ from HR.out) ?_)
    go_roundw
    case rel=>exact⟨i+1,F++[r],by omega,by go_num,hlr,HE.out.1,hrs7,hsy7,HE.out.2.1,HE.out.2.2.1,HE.out.2.2.2⟩
    case measure=>simp[intOf];omega
   ·obtain rfl:n=i:=by omega
    have hFT:FarT (adjT t) n F:=⟨hFl,hrs.out,hsy.out⟩
    rw[show (bl n fun k=>decide (k<n))=bl n fun k=>decide (lst k ∉ ([]:List Nat)) from kr fun k hk=>by simp[hk]] at hM
    rename World=>W5
    have HFT:Hid (FarT (adjT t) n F):=hFT
    have HS0:Hid (Od.Steps (adjT t) lst n []):=Od.Steps.nil
    have HF0:Hid (∀ j,j<0→¬ fO (adjT t) lst n [] j):=fun j h=>absurd h (Nat.not_lt_zero j)
    have hO0:bO W5 W5.heap.size (.slice none 0 0) (([]:List Nat).map fun g=>zs (Gw.grp lst n g)):=bO.nil _ _
    have HFR:Hid (TabR W5 (w3.heap.size+1) (.slice fa n fc) F):=hFR
    clear hFT hrs hsy hFR hi hlt
    go_wp2_with fail
    go_loopw [9,10] (fun gv iv wr=>∃ (out:List Nat) (i:Nat),iv=.int .i64 i∧i≤n∧(∃ r c,gv=.slice r out.length c)∧Hid (Od.Steps (adjT t) lst n out)∧Hid (∀ j,j<i→¬ fO (adjT t) lst n out j)∧bO wr W5.heap.size gv (out.map fun g=>zs (Gw.grp lst n g))∧Bk wr w3.heap.size 4 ((bl n fun k=>decide (lst k ∉ out)).map Value.bool)∧Below w3.heap.size w3 wr∧W5.heap.size≤wr.heap.size∧Hid (∀ k,w3.heap.size+1≤k→k<W5.heap.size→wr.heap[k]?=W5.heap[k]?)) (fun gv iv _=>(n-sliceLen gv)*(n+1)+(n-(intOf iv).toNat))
    case atStart=>exact⟨[],0,rfl,Nat.zero_le _,⟨_,_,rfl⟩,HS0,HF0,hO0,hM,hbr,Nat.le_refl _,fun _ _ _=>rfl⟩
    case round=>
     clear hO0 hM hbr
     rename World=>w6
     obtain⟨out,i,rfl,hi,⟨gr,gc,rfl⟩,hSt,hno,hO,hM,hbr,hsz6,hkp⟩:=hrel
     by_cases hlt:i<n
     ·obtain⟨tb,c9,e9,hTW⟩:=hT3.tab (by omega)
      rw[htl] at e9
      obtain⟨rfl,rfl⟩:at_=some ⟨tb,0,none⟩∧tc=c9:=by
       simp only[Value.slice.injEq] at e9
       exact⟨e9.1,e9.2.2⟩
      have hFR6:=lY HFR.out hkp.out
      obtain⟨fb,c8,e8,hFW⟩:=hFR6.tab (by rw[hFl];omega)
      rw[hFl] at e8
      obtain⟨rfl,rfl⟩:fa=some ⟨fb,0,none⟩∧fc=c8:=by
       simp only[Value.slice.injEq] at e8
       exact⟨e8.1,e8.2.2⟩
      have hTW6:=hTW.up hbr
      have hgr:=group_any (tc:=fc) (i:=i) hFW (by omega) (fun row hr=>by rw[hFl];exact HFT.out.rows row hr) (by omega)
      rw[hFl,HFT.out.grp (show Lst (adjT t) n lst by rw[HN.out];exact HL.out) (by omega)] at hgr
      obtain⟨gl,hgl⟩:∃ gl,gl=Gw.grp lst n (lst i):=⟨_,rfl⟩
      have HGL:Hid (gl=Gw.grp lst n (lst i)):=hgl
      have hgll:gl.length≤65536:=by
       have:=gD (lst:=lst) n (lst i)
       rw[hgl]
       omega
      rw[← hgl] at hgr
      clear hgl
      clear e9 e8 hTW hFR6
      go_wp2_with fail
      refine hgr.mono ?_
      rintro e w7 ⟨⟨vq,rfl,hQ⟩,hb7⟩
      obtain⟨aq,cq,rfl,-⟩:=hQ.rd
      have hM7:=hM.up hb7
      have hO7:=hO.up hb7
      have hTW7:=hTW6.up hb7
      have hbr7:=Below.thn hbr hb7
      have hs7:=hb7.size
      have hkp7:Hid (∀ k,w3.heap.size+1≤k→k<W5.heap.size→w7.heap[k]?=W5.heap[k]?):=fun k h1 h2=>(hb7.block k (by omega)).trans (hkp.out k h1 h2)
      clear hgr hM hO hTW6 hbr hkp hb7 hFW
      have m1:=fw hM7 hlt
      by_cases hlo:lst i∈out
      ·have hnf:¬ fO (adjT t) lst n out i:=fun h=>h.1 hlo
       rw[show decide (lst i ∉ out)=false from decide_eq_false fun h=>h hlo] at m1
       have hno2:Hid (∀ j,j<i+1→¬ fO (adjT t) lst n out j):=fun j hj=>by
        rcases Nat.lt_or_ge j i with h|h
        ·exact hno.out j h
        ·obtain rfl:j=i:=by omega
         exact hnf
       have HE:Hid (bO w7 W5.heap.size (.slice gr out.length gc) (out.map fun g=>zs (Gw.grp lst n g))∧Bk w7 w3.heap.size 4 ((bl n fun k=>decide (lst k ∉ out)).map Value.bool)∧Below w3.heap.size w3 w7):=⟨hO7,hM7,hbr7⟩
       clear hO7 hM7 hbr7 hnf
       clear hTW7 hQ
       go_wp2_with fail
       go_roundw
       case rel=>exact⟨out,i+1,by go_num,by omega,⟨_,_,rfl⟩,hSt,hno2,HE.out.1,HE.out.2.1,HE.out.2.2,by omega,hkp7⟩
       case measure=>simp[intOf,sliceLen];omega
      ·rw[show decide (lst i ∉ out)=true from decide_eq_true hlo] at m1
       have hfr:=free_any (tc:=tc) (lb:=w3.heap.size) (lf:=fun k=>decide (lst k ∉ out)) hTW7 (by omega) HTR.out (by rw[htl];exact hM7) (hQ.rd.mono (Nat.zero_le _)) (fun x hx=>by rw[htl];rw[HGL.out] at hx;exact (eX.1 hx).1) (by have:=gD (lst:=lst) n (lst i);rw[← HGL.out] at this;omega)
       rw[htl,aT] at hfr
       rw[aT]
       go_wp2_with fail
       refine hfr.mono ?_
       rintro e w8 ⟨⟨b,hb⟩,hb8⟩
       obtain⟨rfl,hbs⟩:=hb.out
       rw[HGL.out] at hbs
       have hsay:=free_says (lst:=lst) (n:=n) htl (out:=out) (i:=i) b (by rw[htl];exact hbs)
       have hM8:=hM7.up hb8
       have hO8:=hO7.up hb8
       have hQ8:=aV hQ hb8
       have hbr8:=Below.thn hbr7 hb8
       have hs8:=hb8.size
       have hkp8:Hid (∀ k,w3.heap.size+1≤k→k<W5.heap.size→w8.heap[k]?=W5.heap[k]?):=fun k h1 h2=>(hb8.block k (by omega)).trans (hkp7.out k h1 h2)
       clear hfr hM7 hO7 hTW7 hbr7 hkp7 hb8 m1 hb hbs hQ
       cases b with
       |false=>
        have hnf:¬ fO (adjT t) lst n out i:=fun h=>by have:=(hsay.2 h).2;cases this
        have hno2:Hid (∀ j,j<i+1→¬ fO (adjT t) lst n out j):=fun j hj=>by
         rcases Nat.lt_or_ge j i with h|h
         ·exact hno.out j h
         ·obtain rfl:j=i:=by omega
          exact hnf
        have HE:Hid (bO w8 W5.heap.size (.slice gr out.length gc) (out.map fun g=>zs (Gw.grp lst n g))∧Bk w8 w3.heap.size 4 ((bl n fun k=>decide (lst k ∉ out)).map Value.bool)∧Below w3.heap.size w3 w8):=⟨hO8,hM8,hbr8⟩
        clear hO8 hM8 hbr8 hnf
        clear hQ8 hsay
        go_wp2_with fail
        go_roundw
        case rel=>exact⟨out,i+1,by go_num,by omega,⟨_,_,rfl⟩,hSt,hno2,HE.out.1,HE.out.2.1,HE.out.2.2,by omega,hkp8⟩
        case measure=>simp[intOf,sliceLen];omega
       |true=>
        have hfd:=hsay.1 ⟨hlo,rfl⟩
        have hLst:Lst (adjT t) n lst:=by rw[HN.out];exact HL.out
        obtain⟨hii,hav,hmin⟩:=free_first hLst.idem (fun v hv=>hLst.self hv) hlt hfd hno.out
        have HST:Hid (Od.Steps (adjT t) lst n (out++[i])):=hSt.out.more hav hmin
        have HGI:Hid (gl=Gw.grp lst n i):=by
         have:=HGL.out
         rw[hii] at this
         exact this
        rw[show (bl n fun k=>decide (lst k ∉ out))=bl n fun k=>decide (lst k ∉ out∧k ∉ gl.take 0) from kr fun k _=>by simp] at hM8
        clear hsay hfd hLst hii hav hmin hno hlo
        go_wp2_with fail
        go_loopw [12] (fun jv wr=>∃ j:Nat,jv=.int .i64 j∧j≤gl.length∧Bk wr w3.heap.size 4 ((bl n fun k=>decide (lst k ∉ out∧k ∉ gl.take j)).map Value.bool)∧bO wr W5.heap.size (.slice gr out.length gc) (out.map fun g=>zs (Gw.grp lst n g))∧OwI wr w6.heap.size (.slice aq gl.length cq) (zs gl)∧Below w3.heap.size w3 wr∧w8.heap.size≤wr.heap.size∧Hid (∀ k,w3.heap.size+1≤k→k<W5.heap.size→wr.heap[k]?=W5.heap[k]?)) (fun jv _=>gl.length-(intOf jv).toNat)
        case atStart=>exact⟨0,rfl,Nat.zero_le _,hM8,hO8,by rw[← aT];exact hQ8,hbr8,Nat.le_refl _,hkp8⟩
        case round=>
         clear hM8 hO8 hQ8 hbr8 hkp8
         rename World=>w9
         obtain⟨j,rfl,hj,hM,hO,hQ,hbr,hsz9,hkp⟩:=hrel
         by_cases hjl:j<gl.length
         ·obtain⟨gb,cp,hf,_,hAt⟩:=bW hQ (by rw[aT];omega)
          rw[aT] at hf
          obtain⟨rfl,rfl⟩:aq=some ⟨gb,0,none⟩∧cq=cp:=by
           simp only[Value.slice.injEq] at hf
           exact⟨hf.1,hf.2.2⟩
          have a1:=hAt j (by rw[aT];exact hjl)
          rw[iL,Nat.zero_add] at a1
          have hxm:gl.getD j 0∈gl:=by rw[List.getD_eq_getElem?_getD,List.getElem?_eq_getElem hjl];exact List.getElem_mem hjl
          have hxn:gl.getD j 0<n:=by
           rw[HGL.out] at hxm
           rw[← HGL.out] at hxm
           have h2:=hxm
           rw[HGL.out] at h2
           rw[← HGL.out] at h2
           have h3:gl.getD j 0∈Gw.grp lst n (lst i):=by rw[← HGL.out];exact hxm
           exact (eX.1 h3).1
          have htk:=Od.take_more hjl
          obtain⟨x,hx⟩:∃ x,x=gl.getD j 0:=⟨_,rfl⟩
          rw[← hx] at a1 hxn htk
          have m1:=fw hM hxn
          have m2:=hM.frz x
          have hM2:=hM.set x (.bool false)
          rw[← List.map_set,nO,show (fun k=>if k=x then false else decide (lst k ∉ out∧k ∉ gl.take j))=fun k=>decide (lst k ∉ out∧k ∉ gl.take (j+1)) from funext fun k=>by
           rw[htk]
           by_cases e:k=x
           ·rw[if_pos e,e];simp
           ·rw[if_neg e]
            refine decide_eq_decide.2 (and_congr_right fun _=>not_congr ⟨fun h=>List.mem_append_left _ h,fun h=>(List.mem_append.1 h).elim id fun h=>absurd (List.mem_singleton.1 h) e⟩)] at hM2
          have hko:∀ k,k≠w3.heap.size→(w9.setCell ⟨w3.heap.size,x,none⟩ (.bool false)).heap[k]?=w9.heap[k]?:=fun k hk=>Below.heap_setCell _ _ _ _ hk
          have hO2:=hO.mark hM hko
          have hQ2:=own_mark hQ (by decide) hM hko
          have hb2:=hbr.setCell (p:=⟨w3.heap.size,x,none⟩) (Nat.le_refl _) (.bool false)
          have hkp2:Hid (∀ k,w3.heap.size+1≤k→k<W5.heap.size→(w9.setCell ⟨w3.heap.size,x,none⟩ (.bool false)).heap[k]?=W5.heap[k]?):=fun k h1 h2=>(hko k (by omega)).trans (hkp.out k h1 h2)
          have HE:Hid (Bk (w9.setCell ⟨w3.heap.size,x,none⟩ (.bool false)) w3.heap.size 4 ((bl n fun k=>decide (lst k ∉ out∧k ∉ gl.take (j+1))).map Value.bool)∧bO (w9.setCell ⟨w3.heap.size,x,none⟩ (.bool false)) W5.heap.size (.slice gr out.length gc) (out.map fun g=>zs (Gw.grp lst n g))∧OwI (w9.setCell ⟨w3.heap.size,x,none⟩ (.bool false)) w6.heap.size (.slice (some ⟨gb,0,none⟩) gl.length cq) (zs gl)∧Below w3.heap.size w3 (w9.setCell ⟨w3.heap.size,x,none⟩ (.bool false))∧w8.heap.size≤(w9.setCell ⟨w3.heap.size,x,none⟩ (.bool false)).heap.size):=⟨hM2,hO2,hQ2,hb2,by rw[size_setCell];exact hsz9⟩
          obtain⟨q,hq⟩:∃ q,q=decide (lst x ∉ out∧x ∉ gl.take j):=⟨_,rfl⟩
          rw[← hq] at m1
          clear hM hM2 hO hO2 hQ hQ2 hbr hb2 hko hkp hAt hf hxm htk hx hq
          go_wp2_with fail
          go_roundw
          case rel=>exact⟨j+1,by go_num,by omega,HE.out.1,HE.out.2.1,HE.out.2.2.1,HE.out.2.2.2.1,HE.out.2.2.2.2,hkp2⟩
          case measure=>simp[intOf];omega
         ·obtain rfl:j=gl.length:=by omega
          have hM0:=hM
          rw[List.take_length,show (bl n fun k=>decide (lst k ∉ out∧k ∉ gl))=bl n fun k=>decide (lst k ∉ out++[i]) from kr fun k hk=>by
           refine decide_eq_decide.2 ?_
           rw[HGI.out,eX,List.mem_append,List.mem_singleton,not_or]
           exact and_congr_right fun _=>not_congr ⟨fun h=>h.2,fun h=>⟨hk,h⟩⟩] at hM0
          have hol:=fJ HST.out
          rw[List.length_append,List.length_singleton] at hol
          obtain⟨v10,w10,hr,hO10,hb10,hk10⟩:=hO.app (xr:=aq) (xc:=cq) (l:=zs gl) (by rw[aT];exact jK hQ (Nat.zero_le _)) (by omega) (by rw[List.length_map];omega)
          rw[aT] at hr
          rw[show (out.map fun g=>zs (Gw.grp lst n g))++[zs gl]=(out++[i]).map fun g=>zs (Gw.grp lst n g) from by rw[List.map_append,HGI.out];rfl] at hO10
          have hlow:∀ b,(Value.slice gr out.length gc).ownBlock=some b→W5.heap.size≤b:=fun b hb=>by
           obtain⟨vs,h1,_⟩:=hO
           exact (h1.lt b hb).1
          have hlW:w3.heap.size<W5.heap.size:=by omega
          have hM10:Bk w10 w3.heap.size 4 ((bl n fun k=>decide (lst k ∉ out++[i])).map Value.bool):=(hk10 _ hM0.lt (fun e=>by have:=hlow _ e;omega)).trans hM0
          have hb11:Below w3.heap.size w3 w10:=hbr.trans (hb10.mono (by omega))
          have hs10:=hb10.size
          have hkp10:Hid (∀ k,w3.heap.size+1≤k→k<W5.heap.size→w10.heap[k]?=W5.heap[k]?):=fun k h1 h2=>(hk10 k (by omega) (fun e=>by have:=hlow _ e;omega)).trans (hkp.out k h1 h2)
          have hform:∃ r c,v10=.slice r (out.length+1) c:=by
           obtain⟨r,c,e⟩:=hO10.len
           rw[List.length_map,List.length_append,List.length_singleton] at e
           exact⟨r,c,e⟩
          have HE:Hid (bO w10 W5.heap.size v10 ((out++[i]).map fun g=>zs (Gw.grp lst n g))∧Bk w10 w3.heap.size 4 ((bl n fun k=>decide (lst k ∉ out++[i])).map Value.bool)∧Below w3.heap.size w3 w10):=⟨hO10,hM10,hb11⟩
          have HF1:Hid (∀ j,j<0→¬ fO (adjT t) lst n (out++[i]) j):=fun j h=>absurd h (Nat.not_lt_zero j)
          obtain⟨r10,c10,rfl⟩:=hform
          have HR:Hid (_=_):=hr
          have hmeas:(n-(out.length+1))*(n+1)+n<(n-out.length)*(n+1)+(n-i):=by
           rw[show n-out.length=(n-(out.length+1))+1 by omega,Nat.add_mul,Nat.one_mul]
           omega
          clear hM hM0 hO hQ hbr hkp hr hO10 hM10 hb10 hb11 hk10 hlow
          go_wp2_with (at_builtin;refine wpList_append_run rfl _ _ 29 rfl rfl _ _ rfl rfl _ _ (show _=_ from HR.out) ?_)
          go_roundw
          case rel=>exact⟨out++[i],0,rfl,Nat.zero_le _,⟨r10,c10,by simp⟩,HST,HF1,HE.out.1,HE.out.2.1,HE.out.2.2,by omega,hkp10⟩
          case measure=>simp[intOf,sliceLen];omega
     ·obtain rfl:n=i:=by omega
      have hfin:Od.Fin (adjT t) lst n out:=⟨hSt.out,free_none hno.out⟩
      have HE:Hid (Od.Fin (adjT t) lst n out∧bO w6 W5.heap.size (.slice gr out.length gc) (out.map fun g=>zs (Gw.grp lst n g))∧Below w3.heap.size w3 w6):=⟨hfin,hO,hbr⟩
      clear hfin hO hbr hM hkp hno hSt
      have hfe:iA w gs lst (.returned (.tuple #[.slice gr out.length gc,.int .i64 0])) w6:=by
       refine⟨Below.thn hB3 HE.out.2.2,.inr ⟨HZ.out,_,out,rfl,by rw[← HT.out,← HN.out];exact HE.out.1,?_⟩⟩
       rw[← HN.out]
       obtain⟨vs,h1,h2⟩:=HE.out.2.1
       exact⟨vs,jK h1 (by omega),h2⟩
      have HFE:Hid (iA w gs lst (.returned (.tuple #[.slice gr out.length gc,.int .i64 0])) w6):=hfe
      clear hfe
      go_wp2_with fail
      exact bodyPost_ret (v:=.tuple #[.slice gr out.length gc,.int .i64 0]) (by simp[results,Tryz.results20,go_sem]) rfl HFE.out
 ·have hW:Hid ((lsP (ftP gs)).1≠0):=hz
  go_wp2_with fail
  exact bodyPost_ret (v:=.tuple #[.slice none 0 0,.int .i64 3]) (by simp[results,Tryz.results20,go_sem]) rfl ⟨hB2,.inl ⟨hz,rfl⟩⟩
section
variable {w:World} {A:Nat→Prop} {ao:Option Addr} {gs:List Fn1} {c:Nat}
theorem kV (ho:oQ gs) (hln:∀ g∈gs,lnF g) (hF:FlW w A ao gs):Calls Tryz.prog 19 #[.agg #[.slice ao gs.length c]] w fun e w'=>mH w gs e w':=
 groups_any (A:=fun b=>A b∧b<w.heap.size) (hF.imp fun b h hl=>⟨h,hl⟩) (fun _ h=>h.2) hln (fun g hg=>by have:=ho.sz g hg;omega) (fun g hg=>by have:=ho.pms g hg;omega) (by have:=ho.num;omega)
theorem reach_ok (ho:oQ gs) (hln:∀ g∈gs,lnF g) (hF:FlW w A ao gs) (i:Int):Calls Tryz.prog 14 #[.agg #[.slice ao gs.length c],.int .i64 i] w fun e w'=>qX w gs i e w':=
 reach_any (A:=fun b=>A b∧b<w.heap.size) (hF.imp fun b h hl=>⟨h,hl⟩) (fun _ h=>h.2) hln (fun g hg=>by have:=ho.sz g hg;omega) (fun g hg=>by have:=ho.pms g hg;omega) (by have:=ho.num;omega) i
theorem gL (ho:oQ gs) (hF:FlW w A ao gs) (lst:Nat→Nat) (hl:(lsP (ftP gs)).1=0→Lst (adjT (tabG gs)) gs.length lst):Calls Tryz.prog 20 #[.agg #[.slice ao gs.length c]] w fun e w'=>iA w gs lst e w':=
 refGroups_any (A:=fun b=>A b∧b<w.heap.size) (hF.imp fun b h hl=>⟨h,hl⟩) (fun _ h=>h.2) (fun g hg=>by have:=ho.sz g hg;omega) (fun g hg=>by have:=ho.pms g hg;omega) (by have:=ho.num;omega) lst hl
end
theorem mX {w:World} {S kw Z Zg n:Nat} {T:Nat→Nat} {V:Nat→Nat→Value} {lst:Nat→Nat} {es:List (Nat × Nat)} {Ws:List Int} {vg:Value} {out:List Nat} (hW:Lw w S T kw Z n V (lR lst n es) Ws) (ho:w.ownsRow Zg 36 1 vg (out.map (V 0)).length (out.map (V 0))) (hlt:∀ g,g∈out→g<n):bO w Zg vg (out.map fun g=>zs (Gw.grp lst n g)):=by
 refine⟨out.map (V 0),ho,by rw[List.length_map,List.length_map],fun j l hj=>?_⟩
 rw[List.getElem?_map] at hj
 cases hg:out[j]? with
 |none=>rw[hg] at hj;cases hj
 |some g=>
  rw[hg] at hj
  simp only[Option.map_some,Option.some.injEq] at hj
  have h1:=hW.row 0 g (by decide) (hlt g (List.mem_of_getElem? hg))
  rw[show lR lst n es 0 g=zs (Gw.grp lst n g) from rfl,hj] at h1
  exact⟨V 0 g,by rw[List.getElem?_map,hg];rfl,jK h1 (Nat.zero_le _)⟩
theorem rY {adj:Nat→List Nat} {lst:Nat→Nat} {n:Nat} {out:List Nat} (h:Od.Fin adj lst n out):∀ g,g∈out→g<n:=fun g hg=>by
 obtain⟨k,hk,e⟩:=List.getElem_of_mem hg
 have h1:=(h.1 k hk).1.1
 rw[List.getD_eq_getElem?_getD,List.getElem?_eq_getElem hk] at h1
 rw[← e]
 exact h1
theorem l8 {w:World} {xs:List Int}:RdI (w.alloc (.cells (xs.map fun z=>Value.int .i64 z).toArray 3)) 0 (.slice (some ⟨w.heap.size,0,none⟩) xs.length xs.length) xs:=
 ⟨_,_,rfl,(fun e=>by cases e),.inr ⟨w.heap.size,rfl,Nat.zero_le _,by simp,fun j z hj=>by
  have h:=(Bk.new w 3 (xs.map fun z=>Value.int .i64 z).toArray).cell j
  rw[h,List.toList_toArray,List.getElem?_map,hj]
  rfl⟩⟩
theorem awake8_any (w:World) :
  Calls Tryz.prog 9 #[] w fun e w'=>e=.returned (.bool true)∧Below w.heap.size w w':=by
 have hcs:=Lib.run_convert_bytes_const (P:=Tryz.prog) w 22 5 #[.int .u8 97,.int .u8 40,.int .u8 41,.int .u8 58,.int .u8 78,.int .u8 61,.int .u8 98,.int .u8 40,.int .u8 41,.int .u8 59,.int .u8 98,.int .u8 40,.int .u8 41,.int .u8 58,.int .u8 78,.int .u8 61,.int .u8 97,.int .u8 40,.int .u8 41,.int .u8 59,.int .u8 99,.int .u8 40,.int .u8 41,.int .u8 58,.int .u8 78,.int .u8 61,.int .u8 99,.int .u8 40,.int .u8 41,.int .u8 43,.int .u8 97,.int .u8 40,.int .u8 41,.int .u8 59,.int .u8 100,.int .u8 40,.int .u8 41,.int .u8 58,.int .u8 78,.int .u8 61,.int .u8 49,.int .u8 59] 42 42 (by kernel_rfl) (by kernel_rfl)
 have hbd:=Bd.new w t8 5 (42,43)
 have hb1:=ae w (.cells #[.int .u8 97,.int .u8 40,.int .u8 41,.int .u8 58,.int .u8 78,.int .u8 61,.int .u8 98,.int .u8 40,.int .u8 41,.int .u8 59,.int .u8 98,.int .u8 40,.int .u8 41,.int .u8 58,.int .u8 78,.int .u8 61,.int .u8 97,.int .u8 40,.int .u8 41,.int .u8 59,.int .u8 99,.int .u8 40,.int .u8 41,.int .u8 58,.int .u8 78,.int .u8 61,.int .u8 99,.int .u8 40,.int .u8 41,.int .u8 43,.int .u8 97,.int .u8 40,.int .u8 41,.int .u8 59,.int .u8 100,.int .u8 40,.int .u8 41,.int .u8 58,.int .u8 78,.int .u8 61,.int .u8 49,.int .u8 59] 5 (42,43))
 have m1:=lw (some ⟨w.heap.size,0,none⟩) 42 t8 (by decide) _ hbd 600 (fun ms e=>by rw[cut8] at e;cases e;rw[qd];simp)
 go_enter Tryz.func9,Tryz.ntmps9
 go_wp2_with fail
 refine m1.mono ?_
 rintro e w2 ⟨hb2,ao1,n1,c1,b1,rfl,hrd⟩
 obtain⟨ao,c,he,hfl⟩:=rd8 hrd
 simp only[Ending.returned.injEq,Value.tuple.injEq,Array.mk.injEq,List.cons.injEq,Value.agg.injEq,Value.slice.injEq,Value.bool.injEq,and_true] at he
 obtain⟨⟨rfl,rfl,rfl⟩,rfl⟩:=he
 have hB2:=Below.thn hb1 hb2
 clear m1 hcs hbd hrd hb2 hb1
 have hb3:=ae w2 (.cells #[.slice ao1 4 c1] 26)
 have hP3:=Bk.new w2 26 #[.slice ao1 4 c1]
 have hB3:=Below.thn hB2 hb3
 have hf3:=hfl.up hb3
 go_upto_region 2 with fail
 generalize hW:w2.alloc (.cells #[.slice ao1 4 c1] 26)=W3 at *
 clear hW hfl hB2 hb3
 have p0:W3.cell? ⟨w2.heap.size,0,none⟩=some (.slice ao1 4 c1):=hP3.cell 0
 have hg:=kV (c:=c1) ok8 ln8 hf3
 rw[len8] at hg
 go_wp2_with fail
 refine hg.mono ?_
 rintro e w4 ⟨hb4,h⟩
 rcases h with⟨hz,_⟩|⟨_,vg,out,Zg,Ws,S,T,kw,Z,V,lst,es,rfl,hLst,hFin,hZg,hZ,hOw,hLw,hBd⟩
 ·exact absurd sc8 hz
 rw[len8] at hLst hFin hLw
 obtain⟨rfl,hg0,hg2⟩:=groups8 hLst hFin
 have hro:=mX hLw hOw (rY hFin)
 rw[show [0,2,3].map (fun g=>zs (Gw.grp lst 4 g))=[[0,1],[2],zs (Gw.grp lst 4 3)] from by simp only[List.map_cons,List.map_nil,hg0,hg2];rfl] at hro
 have hB4:=Below.thn hB3 hb4
 have hf4:=hf3.up hb4
 have p1:w4.cell? ⟨w2.heap.size,0,none⟩=some (.slice ao1 4 c1):=(hP3.up hb4).cell 0
 have hrc:=reach_ok (c:=c1) ok8 ln8 hf4 2
 rw[len8] at hrc
 clear hg hLst hFin hOw hLw hBd hg0 hg2 hb4 hf3 hP3 p0 hB3 hZg hZ
 go_wp2_with fail
 refine hrc.mono ?_
 rintro e w5 ⟨hb5,h⟩
 rcases h with⟨hz,_⟩|⟨_,h1,_⟩|⟨_,_,_,vr,o,rfl,hrd,hpw,hmem⟩
 ·exact absurd sc8 hz
 ·rw[len8] at h1;omega
 obtain rfl:=reach8 hpw hmem
 have hro5:=hro.up hb5
 have hB5:=Below.thn hB4 hb5
 obtain⟨ag,cg,rfl,hat⟩:=jL hro5
 obtain⟨gb,u0,rfl,d0,o0⟩:=hat 0 (by simp)
 obtain⟨gb2,u1,e,d1,o1⟩:=hat 1 (by simp)
 obtain rfl:gb=gb2:=by simpa using e
 replace o0:OwI w5 0 u0 [0,1]:=o0
 replace o1:OwI w5 0 u1 [2]:=o1
 clear hrc hpw hmem hro hro5 hat e hb5 hB4 hf4 p1
 have l1:RdI (w5.alloc (.cells #[.int .i64 0,.int .i64 1] 3)) 0 (.slice (some ⟨w5.heap.size,0,none⟩) 2 2) [0,1]:=l8 (w:=w5) (xs:=[0,1])
 have hba:=ae w5 (.cells #[.int .i64 0,.int .i64 1] 3)
 have s1:=iC (OwI.rd (aV o0 hba)) l1 (by decide)
 rw[decide_eq_true (rfl:([0,1]:List Int)=[0,1])] at s1
 go_wp2_with fail
 refine s1.mono ?_
 rintro e w6 ⟨rfl,hb6⟩
 have hB6:=Below.thn (Below.thn hB5 hba) hb6
 have hb56:=Below.thn hba hb6
 have e1:w6.cell? ⟨gb,1,none⟩=some u1:=by rw[hb56.cell (cell_below d1)];exact d1
 have o6:=aV o1 hb56
 have r6:=hrd.up hb56
 clear s1 l1 hba d0 d1 o0 o1 hrd hb6 hb56 hB5
 have l2:RdI (w6.alloc (.cells #[.int .i64 2] 3)) 0 (.slice (some ⟨w6.heap.size,0,none⟩) 1 1) [2]:=l8 (w:=w6) (xs:=[2])
 have hba:=ae w6 (.cells #[.int .i64 2] 3)
 have s2:=iC (OwI.rd (aV o6 hba)) l2 (by decide)
 rw[decide_eq_true (rfl:([2]:List Int)=[2])] at s2
 go_wp2_with fail
 refine s2.mono ?_
 rintro e w7 ⟨rfl,hb7⟩
 have hB7:=Below.thn (Below.thn hB6 hba) hb7
 have r7:=r6.up (Below.thn hba hb7)
 clear s2 l2 hba e1 o6 r6 hb7 hB6
 have l3:RdI (w7.alloc (.cells #[.int .i64 0,.int .i64 1,.int .i64 2] 3)) 0 (.slice (some ⟨w7.heap.size,0,none⟩) 3 3) [0,1,2]:=l8 (w:=w7) (xs:=[0,1,2])
 have hba:=ae w7 (.cells #[.int .i64 0,.int .i64 1,.int .i64 2] 3)
 have s3:=iC ((r7.up hba).mono (Nat.zero_le _)) l3 (by decide)
 rw[decide_eq_true (rfl:([0,1,2]:List Int)=[0,1,2])] at s3
 go_wp2_with fail
 refine s3.mono ?_
 rintro e w8 ⟨rfl,hb8⟩
 have hB8:=Below.thn (Below.thn hB7 hba) hb8
 clear s3 l3 hba r7 hb8 hB7
 go_wp2_with fail
 go_ret
 exact⟨rfl,hB8⟩
theorem rd8_fork {l:List UInt8} {F B:Nat} {ao:Option Addr} {n c:Nat} {b:Bool} {w':World} (h:rdV l F B (.returned (.tuple #[.agg #[.slice ao n c],.bool b])) w') :
  (b=true∧∃ ms gs j,n=gs.length∧l.length≤32768∧cut rdN l 0=.ok ms∧aS (mf ms) LW5 F [] 0=.ok gs j∧FlW w' (fun b=>B≤b) ao gs)∨b=false:=by
 rcases h with⟨ms,gs,j,a,c',h1,h2,h3,h4,h5⟩|⟨_,h4⟩
 ·simp only[Ending.returned.injEq,Value.tuple.injEq,Array.mk.injEq,List.cons.injEq,Value.agg.injEq,Value.slice.injEq,Value.bool.injEq,and_true] at h4
  obtain⟨⟨rfl,rfl,rfl⟩,rfl⟩:=h4
  exact .inl ⟨rfl,ms,gs,j,rfl,h1,h2,h3,h5⟩
 ·simp only[Ending.returned.injEq,Value.tuple.injEq,Array.mk.injEq,List.cons.injEq,Value.agg.injEq,Value.slice.injEq,Value.bool.injEq,and_true] at h4
  exact .inr h4.2
theorem graphGroups_any (ao:Option Addr) (cap:Nat) (l:List UInt8) (hcap:l.length≤cap) (w:World) (hT:Bd w ao l) :
  Calls Tryz.prog 4 #[.slice ao l.length cap] w fun e w'=>e=.returned (.bool true)∧Below w.heap.size w w':=by
 obtain⟨F,hF⟩:∃ F,F=12*(l.length+1)+9:=⟨_,rfl⟩
 have hfu:∀ ms,cut rdN l 0=.ok ms→aS (mf ms) LW5 F [] 0≠.out:=fuel_ok l LW5 F (by omega)
 have HF:Hid (F=12*(l.length+1)+9):=hF
 clear hF
 go_enter Tryz.func4,Tryz.ntmps4
 go_wp2_with fail
 refine (awake8_any w).mono ?_
 rintro e w1 ⟨rfl,hb1⟩
 have m2:=lw ao cap l hcap w1 (hT.up hb1) F hfu
 go_wp2_with fail
 refine m2.mono ?_
 rintro e w2 ⟨hb2,a2,n,c2,b,rfl,hrd⟩
 have hB2:=Below.thn hb1 hb2
 clear m2 hb1 hb2
 have hfk:=rd8_fork hrd
 clear hrd
 by_cases hbn:(b&&decide (n≤60))=true
 ·obtain⟨hbt,hn60⟩:b=true∧n≤60:=by simpa using hbn
  rcases hfk with⟨_,ms,gs,j,hn,hl,hc,hp,hfl⟩|hbf
  ·subst hn
   subst hbt
   have hok:oQ gs:=sG hl (by rw[HF.out];exact Nat.le_refl _) hc hp
   have hln:∀ g∈gs,lnF g:=sH hl hc hp
   have HEQ:Hid (scP gs=lsP (ftP gs)):=scP_lsP (places_apart (iV rdN l 0 ms hc) hp)
   have hb3:=ae w2 (.cells #[.slice a2 gs.length c2] 26)
   have hP3:=Bk.new w2 26 #[.slice a2 gs.length c2]
   have hB3:=Below.thn hB2 hb3
   have hf3:=hfl.up hb3
   have hd60:decide (gs.length≤60)=true:=decide_eq_true hn60
   go_upto_region 4 with fail
   generalize hW3:w2.alloc (.cells #[.slice a2 gs.length c2] 26)=W3 at *
   clear hW3 hfl hb3 hp hc hB2 hbn
   have p3:W3.cell? ⟨w2.heap.size,0,none⟩=some (.slice a2 gs.length c2):=hP3.cell 0
   have m4:=kV (c:=c2) hok hln hf3
   go_wp2_with fail
   refine m4.mono ?_
   rintro e w4 ⟨hb4,h⟩
   have hB4:=Below.thn hB3 hb4
   have hf4:=hf3.up hb4
   have p4:w4.cell? ⟨w2.heap.size,0,none⟩=some (.slice a2 gs.length c2):=(hP3.up hb4).cell 0
   clear m4 hf3 hP3 p3 hb4 hB3
   rcases h with⟨hz,rfl⟩|⟨hz,vg,out,Zg,Ws,S,T,kw,Z,V,lst,es,rfl,hLst,hFin,hZg,hZ,hOw,hLw,hBd⟩
   ·have hz2:(lsP (ftP gs)).1≠0:=by rw[← HEQ.out];exact hz
    have m5:=gL (c:=c2) hok hf4 (fun _=>0) (fun h=>absurd h hz2)
    clear hok hln hf4
    go_wp2_with fail
    refine m5.mono ?_
    rintro e w5 ⟨hb5,h⟩
    rcases h with⟨_,rfl⟩|⟨h,_⟩
    ·have hB5:=Below.thn hB4 hb5
     have m6:=lV (w:=w5) (bO.nil w5 0) (bO.nil w5 0) (by simp) (by simp)
     rw[decide_eq_true (rfl:([]:List (List Int))=[])] at m6
     clear m5 p4 hb5
     go_wp2_with fail
     refine m6.mono ?_
     rintro e w6 ⟨rfl,hb6⟩
     have hB6:=Below.thn hB5 hb6
     clear m6
     go_wp2_with fail
     go_ret
     exact⟨rfl,hB6⟩
    ·exact absurd h hz2
   ·have hz2:(lsP (ftP gs)).1=0:=by rw[← HEQ.out];exact hz
    have hLt:=hLst.mem (jT hz)
    have hlt:=rY hFin
    have hadj:∀ v,v<gs.length→∀ x,x∈aH (csG gs) v→x<gs.length:=fun v _ x hx=>by
     have:=(di.1 ((jT hz v x).1 hx)).1
     rwa[cu] at this
    have hFt:=mE (adj':=adjT (tabG gs)) (lst':=lst) (fun v x _=>jT hz v x) hadj (fun _ _=>rfl) hFin
    have hro:=mX hLw hOw hlt
    have hol:=fJ hFin.1
    have m5:=gL (c:=c2) hok hf4 lst (fun _=>hLt)
    have HFT:Hid (Od.Fin (adjT (tabG gs)) lst gs.length out):=hFt
    have HRO:Hid (bO w4 Zg vg (out.map fun g=>zs (Gw.grp lst gs.length g))):=hro
    clear hok hln hf4 hLst hFin hOw hLw hBd hLt hFt hro hadj hZg hZ hlt
    go_wp2_with fail
    refine m5.mono ?_
    rintro e w5 ⟨hb5,h⟩
    rcases h with⟨h,_⟩|⟨_,vr,out2,rfl,hF2,hR2⟩
    ·exact absurd hz2 h
    ·obtain rfl:=Od.fin_one HFT.out hF2
     have hB5:=Below.thn hB4 hb5
     have m6:=lV (HRO.out.up hb5) hR2 (by rw[List.length_map];omega) (fun r hr=>by
      obtain⟨g,_,rfl⟩:=List.mem_map.1 hr
      have:=gD (lst:=lst) gs.length g
      rw[aT]
      omega)
     rw[decide_eq_true rfl] at m6
     clear m5 p4 hb5 hF2 hR2 HRO HFT
     go_wp2_with fail
     refine m6.mono ?_
     rintro e w6 ⟨rfl,hb6⟩
     have hB6:=Below.thn hB5 hb6
     clear m6
     go_wp2_with fail
     go_ret
     exact⟨rfl,hB6⟩
  ·rw[hbf] at hbt;cases hbt
 ·have hbf:(b&&decide (n≤60))=false:=by simpa using hbn
  rw[hbf]
  clear hbn hfk hbf
  go_wp2_with fail
  go_ret
  exact⟨rfl,Below.thn hB2 (ae w2 _)⟩
end Gw
end Go.Proofs.YtimoappbefindaaGreat
