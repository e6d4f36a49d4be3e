/-
  14 texts in one: what each proves stands at its head.
-/
import Derived.Test.YtimoappbefindaaGreatUgb
import Derived.Test.YtimoappbefindaaGreatUgg
import Derived.Test.YtimoappbefindaaGreatUgj
import Derived.Deep.RegionWith
import Derived.Test.YtimoappbefindaaGreatUt
import Derived.Lib.SlBytesConst
import Derived.Test.YtimoappbefindaaGreatUs
import Derived.Test.YtimoappbefindaaGreatUjb
namespace Go.Proofs.YtimoappbefindaaGreat
set_option maxHeartbeats 8000000
open Go.RowKit
set_option maxRecDepth 100000
namespace Gw
open Tj
theorem csW_of {w:World} {b:Nat} {cs:List (List Int)} (h:nH w b cs):CsW w b w.heap.size cs:=by
 obtain⟨vs,h1,h2,h3⟩:=h
 refine⟨h1.lt,fun v hv=>?_⟩
 have he:cs[v]?=some (cs.getD v []):=by rw[List.getD_eq_getElem?_getD,List.getElem?_eq_getElem hv];rfl
 obtain⟨ao,c,e,_,hr⟩:=h3 v _ he
 refine⟨ao,c,?_,?_⟩
 ·rw[h1.cell,List.getElem?_eq_getElem (by omega),← e,List.getD_eq_getElem?_getD,List.getElem?_eq_getElem (by omega)]
  rfl
 ·rcases hr with hr|⟨g,e1,_,hl,hc⟩
  ·exact .inl hr
  ·refine .inr ⟨g,e1,hl,fun t ht=>hc t _ ?_⟩
   rw[List.getElem?_eq_getElem ht,List.getD_eq_getElem?_getD (l:=cs.getD v []),List.getElem?_eq_getElem ht]
   rfl
theorem csx_of {cs:List (List Int)} (h:CsOk cs) (hn:cs.length≤65536):Csx cs cs.length:=⟨rfl,by omega,fun v _ x hx=>(h.at v).1 x hx,fun v _=>by have:=(h.at v).2;omega⟩
theorem adjOf_mem {cs cs':List (List Int)} (h:∀ (j:Nat) x,x∈cs.getD j []↔x∈cs'.getD j []) (v x:Nat):x∈aH cs v↔x∈aH cs' v:=by
 unfold aH
 simp only[List.mem_map]
 exact⟨fun ⟨y,h1,h2⟩=>⟨y,(h v y).1 h1,h2⟩,fun ⟨y,h1,h2⟩=>⟨y,(h v y).2 h1,h2⟩⟩
theorem iJ {adj adj':Nat→List Nat} (ha:∀ v x,x∈adj v↔x∈adj' v) {a b:Nat} (h:Star adj a b):Star adj' a b:=by
 induction h with
 |refl=>exact .refl
 |on _ hc ih=>exact .on ih ((ha _ _).1 hc)
theorem Lst.mem {adj adj':Nat→List Nat} {n:Nat} {lst:Nat→Nat} (ha:∀ v x,x∈adj v↔x∈adj' v) (h:Lst adj n lst):Lst adj' n lst:=
 ⟨fun v hv=>⟨iJ ha (h.sc v hv).1,iJ ha (h.sc v hv).2⟩,fun v u hv hs=>h.le v u hv ⟨iJ (fun v x=>(ha v x).symm) hs.1,iJ (fun v x=>(ha v x).symm) hs.2⟩⟩
def mR (w:World) (gs:List Fn1) (e:Ending) (w':World):Prop:=
 Below w.heap.size w w'∧((scP gs).1≠0∧e=.returned (.tuple #[.slice none 0 0,.int .i64 3]) ∨
  (scP gs).1=0∧∃ vg out Zg Ws S T kw Z V lst es,e=.returned (.tuple #[vg,.int .i64 0])∧Lst (aH (csG gs)) gs.length lst∧Od.Fin (aH (csG gs)) lst gs.length out∧w.heap.size≤Zg∧w.heap.size≤Z∧w'.ownsRow Zg 36 1 vg (out.map (V 0)).length (out.map (V 0))∧Lw w' S T kw Z gs.length V (lR lst gs.length es) Ws∧LwB S T kw gs.length V Zg)
section
variable {w:World} {A:Nat→Prop} {ao:Option Addr} {gs:List Fn1} {c:Nat}
theorem groups_any (hF:FlW w A ao gs) (hA:∀ k,A k→k<w.heap.size) (hln:∀ g∈gs,lnF g) (hsz:∀ g∈gs,szE g.body≤65536) (hps:∀ g∈gs,g.pms.length≤65536) (hgs:gs.length≤65536) :
  Calls Tryz.prog 19 #[.agg #[.slice ao gs.length c]] w fun e w'=>mR w gs e w':=by
 have hb0:=ae w (.cells #[.slice ao gs.length c] 26)
 have hL0:=Bk.new w 26 #[.slice ao gs.length c]
 go_enter Tryz.func19,Tryz.ntmps19
 go_upto_region 1 with fail
 generalize w.alloc (.cells #[.slice ao gs.length c] 26)=W at *
 have hwW:w.heap.size<W.heap.size:=hL0.lt
 have c0:W.cell? ⟨w.heap.size,0,none⟩=some (.slice ao gs.length c):=hL0.cell 0
 have hFW:=hF.up hb0
 have hs:=iT (c:=c) hFW (fun k h=>by have:=hA k h;omega) hln hsz hps hgs
 go_wp2_with fail
 refine hs.mono ?_
 rintro e w2 ⟨hb2,h⟩
 have hB2:=Below.thn hb0 hb2
 clear hs c0 hFW hL0 hb0 hb2
 rcases h with⟨hz,rfl⟩|⟨hz,b,rfl,hb,hR⟩
 ·go_wp2_with fail
  exact bodyPost_ret (v:=.tuple #[.slice none 0 0,.int .i64 3]) (by simp[results,Tryz.results19,go_sem]) rfl ⟨hB2,.inl ⟨hz,rfl⟩⟩
 ·obtain⟨cs,hG,hcl,hcn⟩:=hR.gen rfl
  have hok:=rows_ok hcl hcn hsz
  have hmem:=iG hcl hcn
  have hC2:=csW_of hG
  have hX:=csx_of hok (by omega)
  rw[hcl] at hX
  have hle:=least_any w2 b gs.length gs.length cs hC2 hX (Nat.le_refl _)
  have HME:Hid (∀ (j:Nat) x,x∈cs.getD j []↔x∈(csG gs).getD j []):=hmem
  have HX:Hid (Csx cs gs.length):=hX
  have HM:Hid (∀ v,(aH cs v).length≤65536):=fun v=>by rw[fH];exact (hok.at v).2
  have HC:Hid (CsW w2 b w2.heap.size cs):=hC2
  clear hR hG hok hcn hmem hX hC2 hF hA hln hsz hps
  go_wp2_with fail
  refine hle.mono ?_
  rintro e w3 ⟨kl,Ll,rfl,hkl,hBi,hLl,hLs,hb3⟩
  have hlst:Lst (aH cs) gs.length (fn Ll):=⟨fun v hv=>(hLs v hv).2.1,fun v u hv hs=>(hLs v hv).2.2 u hs⟩
  have hpl:∀ v,v<gs.length→0≤Ll.getD v 0∧Ll.getD v 0<gs.length:=fun v hv=>by
   have h1:=hlst.lt hv
   have h2:=(hLs v hv).1
   unfold fn at h1
   omega
  have hC3:=HC.out.low hb3
  have hC3':CsW w3 b w3.heap.size cs:=by
   refine⟨Nat.lt_of_lt_of_le hC3.lo hb3.size,fun v hv=>?_⟩
   obtain⟨ro,rc,h1,h2⟩:=hC3.row v hv
   exact⟨ro,rc,h1,h2.imp id fun ⟨g,e,hg,hc⟩=>⟨g,e,Nat.lt_of_lt_of_le hg hb3.size,hc⟩⟩
  have hln:=leanings_any w3 b gs.length gs.length kl cs Ll hC3' HX.out (Nat.le_refl _) hBi hLl hpl
  have hB3:=Below.thn hB2 hb3
  have HL:Hid (Lst (aH cs) gs.length (fn Ll)):=hlst
  clear hle hlst hpl hC3 hC3' hLs hBi hb3 HC
  go_wp2_with fail
  refine hln.mono ?_
  rintro e w4 ⟨S,T,kw,Z,V,rfl,hZ,hW,hb4⟩
  have hm:=HM.out
  have hes:(Od.edges (aH cs) (fn Ll) gs.length).length≤100000000000:=by
   have h1:=ru (lst:=fn Ll) hm gs.length 0
   rw[pM] at h1
   exact Nat.le_trans h1 (Nat.le_trans (Nat.mul_le_mul_right _ (show gs.length+1≤65537 by omega)) (by decide))
  have hod:=order_any w4 S kw Z gs.length T V (aH cs) (fn Ll) hW HL.out.idem (by omega) hes
  have hB4:=Below.thn hB3 hb4
  have hZ2:=hB3.size
  clear hln hm hes hW hb4
  go_wp2_with fail
  refine hod.mono ?_
  rintro e w5 ⟨vg,out,Zg,Ws,rfl,hFi,hZg,hOw,hW5,hBd,hb5⟩
  have hB5:=hB4.trans (hb5.mono (by omega))
  have hZ3:=hB4.size
  clear hod
  have hmm:=adjOf_mem HME.out
  have hfin:=qa (lst':=fn Ll) (adj':=aH (csG gs)) (fun v x _=>hmm v x) HX.out.adj (fun _ _=>rfl) hFi
  have HE:Hid (mR w gs (.returned (.tuple #[vg,.int .i64 0])) w5):=⟨hB5,.inr ⟨hz,vg,out,Zg,Ws,_,T,kw,Z,V,fn Ll,_,rfl,HL.out.mem hmm,hfin,by omega,by omega,hOw,hW5,hBd⟩⟩
  clear hOw hW5 hBd hfin hFi hmm hb5 hB5
  go_wp2_with fail
  exact bodyPost_ret (v:=.tuple #[vg,.int .i64 0]) (by simp[results,Tryz.results19,go_sem]) rfl HE.out
end
def dF (w:World) (B:Nat) (v:Value) (ls:List (List Int)):Prop:=∃ vs:List Value,w.ownsRow B 36 1 v vs.length vs∧vs.length=ls.length∧∀ (j:Nat) (l:List Int),ls[j]?=some l→∃ u,vs[j]?=some u∧OwI w 0 u l
theorem iE {w:World} {B B' n:Nat} {T:TypeId} {v:Value} {xs:List Value} (h:w.ownsRow B T 1 v n xs) (hb:B'≤B):w.ownsRow B' T 1 v n xs:=⟨h.1,h.2.imp id fun ⟨g,c,cur,e1,e2,e3⟩=>⟨g,c,cur,e1,Nat.le_trans hb e2,e3⟩⟩
theorem own_types {w:World} {B B' n m:Nat} {T T':TypeId} {v u:Value} {xs ys:List Value} (h:w.ownsRow B T 1 v n xs) (g:w.ownsRow B' T' 1 u m ys) (hT:T≠T'):∀ b,v.ownBlock=some b→u.ownBlock≠some b:=fun b h1 h2=>by
 rcases h.2 with⟨e,_⟩|⟨b1,c,cur,e,_,hc,_⟩
 ·rw[e] at h1;cases h1
 ·rcases g.2 with⟨e2,_⟩|⟨b2,c2,cur2,e2,_,hc2,_⟩
  ·rw[e2] at h2;cases h2
  ·rw[e] at h1
   rw[e2] at h2
   have k1:b1=b:=Option.some.inj h1
   have k2:b2=b:=Option.some.inj h2
   rw[k1] at hc
   rw[k2,hc] at hc2
   simp only[Option.some.injEq,Obj.cells.injEq] at hc2
   exact hT hc2.2.1
section
variable {w w':World} {B:Nat} {v:Value} {ls:List (List Int)}
theorem dF.nil (w:World) (B:Nat):dF w B (.slice none 0 0) []:=⟨[],⟨rfl,.inl ⟨rfl,rfl⟩⟩,rfl,fun j row h=>by simp at h⟩
theorem dF.up (h:dF w B v ls) (hb:Below w.heap.size w w'):dF w' B v ls:=by
 obtain⟨vs,h1,h2,h3⟩:=h
 refine⟨vs,aX h1 hb,h2,fun j row hj=>?_⟩
 obtain⟨u,e,hg⟩:=h3 j row hj
 exact⟨u,e,aX hg hb⟩
theorem dF.len (h:dF w B v ls):∃ ao c,v=.slice ao ls.length c:=by
 obtain⟨vs,h1,h2,_⟩:=h
 obtain⟨r,c,e⟩:=fM h1
 rw[h2] at e
 exact⟨r,c,e⟩
theorem dF.app (h:dF w B v ls) {xr:Option Addr} {xc:Nat} {l:List Int} (hu:OwI w 0 (.slice xr l.length xc) l) (hB:B≤w.heap.size) (hl:ls.length≤65536) :
  ∃ v' w2,(Builtin.append_ #[29,29] 29 #[v,.slice (some ⟨w.heap.size,0,none⟩) 1 1]).run Tryz.prog (w.alloc (.cells #[.slice xr l.length xc] 36))=.ok v' w2∧dF w2 B v' (ls++[l])∧Below B w w2∧∀ k,k<w.heap.size→v.ownBlock≠some k→w2.heap[k]?=w.heap[k]?:=by
 obtain⟨vs,h1,h2,h3⟩:=h
 obtain⟨i0,hi,hz0,hz1,hz2⟩:=info_parts Tryz.infoS
 have hb:=ae w (.cells #[.slice xr l.length xc] 36)
 obtain⟨v',w2,hr,ho,hgr,_,hloc⟩:=run_append_own_at (P:=Tryz.prog) (w.alloc (.cells #[.slice xr l.length xc] 36)) B 29 29 36 i0 (.slice none 0 0) 1 24 Tryz.underS hi hz0 hz1 hz2 rfl (by decide) v vs.length _ (aX h1 hb) ⟨w.heap.size,0,none⟩ 1 1 [.slice xr l.length xc] rfl (cell_one_new w (.slice xr l.length xc) 36) (by intro u hu;simp at hu;subst hu;rfl) (by unfold maxLen;omega) (by omega) (by simp;omega)
 have hsz1:(w.alloc (.cells #[.slice xr l.length xc] 36)).heap.size=w.heap.size+1:=by simp
 have hk:∀ k,k<w.heap.size→v.ownBlock≠some k→w2.heap[k]?=w.heap[k]?:=fun k hk hv=>(hgr.block k (by omega) fun e=>hv e.symm).trans (hb.block k hk)
 have hkeep:∀ (u:Value) (l:List Int),OwI w 0 u l→OwI w2 0 u l:=fun u l hu=>aD hu fun g hg=>hk g (hu.lt g hg).2 (own_types hu h1 (by decide) g hg)
 refine⟨v',w2,hr,⟨vs++[.slice xr l.length xc],by rw[List.length_append];exact ho,by rw[List.length_append,List.length_append,h2];rfl,fun j r hj=>?_⟩,(hb.mono hB).grown hgr (by omega) fun k e=>(h1.lt k e).1,hk⟩
 rcases Nat.lt_or_ge j ls.length with hjt|hjt
 ·rw[List.getElem?_append_left hjt] at hj
  obtain⟨u,e,hb2⟩:=h3 j r hj
  exact⟨u,by rw[List.getElem?_append_left (by omega)];exact e,hkeep _ _ hb2⟩
 ·rw[List.getElem?_append_right hjt] at hj
  have hj0:j-ls.length=0:=by
   have:=(List.getElem?_eq_some_iff.1 hj).1
   simp at this
   omega
  rw[hj0] at hj
  obtain rfl:l=r:=by simpa using hj
  exact⟨_,by rw[List.getElem?_append_right (by omega),h2,hj0];rfl,hkeep _ _ hu⟩
end
def adjT (t:List (List Bool)) (v:Nat):List Nat:=(List.range t.length).filter fun k=>tt t v k
theorem gH {t:List (List Bool)} {v k:Nat}:k∈adjT t v↔k<t.length∧tt t v k=true:=by
 unfold adjT
 rw[List.mem_filter,List.mem_range]
section
variable {t:List (List Bool)}
theorem ctT_mem (hrow:∀ row∈t,row.length=t.length) (j:Nat) (x:Int):x∈(ctT t).getD j []↔∃ y:Nat,x=(y:Int)∧y∈adjT t j:=by
 by_cases hj:j<t.length
 ·have he:t[j]?=some (t.getD j []):=by rw[List.getD_eq_getElem?_getD,List.getElem?_eq_getElem hj];rfl
  have hl:=hrow _ (List.mem_of_getElem? he)
  rw[rf he,fu,hl]
  constructor
  ·rintro ⟨h1,h2,h3⟩
   refine⟨x.toNat,by omega,gH.2 ⟨by omega,?_⟩⟩
   unfold tt
   rw[List.getD_eq_getElem?_getD (l:=t.getD j []),h3]
   rfl
  ·rintro ⟨y,rfl,hy⟩
   obtain⟨h1,h2⟩:=gH.1 hy
   refine⟨by omega,by omega,?_⟩
   unfold tt at h2
   rw[List.getD_eq_getElem?_getD (l:=t.getD j []),List.getElem?_eq_getElem (by omega)] at h2
   rw[show ((y:Nat):Int).toNat=y from by omega,List.getElem?_eq_getElem (by omega)]
   exact congrArg some h2
 ·have h1:(ctT t).getD j []=[]:=by
   rw[List.getD_eq_getElem?_getD,List.getElem?_eq_none (by unfold ctT;rw[List.length_map];omega)]
   rfl
  rw[h1]
  constructor
  ·intro h;cases h
  ·rintro ⟨y,_,hy⟩
   have:=(gH.1 hy).2
   unfold tt at this
   rw[List.getD_eq_getElem?_getD (l:=t),List.getElem?_eq_none (by omega)] at this
   simp at this
end
section
variable {adj:Nat→List Nat} {n:Nat} {F:List (List Bool)} {lst:Nat→Nat}
end
theorem jc (y a why at_:Int) (h:why≠0):(bR y a why at_).1≠0:=by
 unfold bR
 split
 ·exact h
 ·next k=>exact fun e=>k (.inl e)
theorem see_zero {pf:List UInt8→Option Nat} {cn:List UInt8→Nat} {op:Int} {name:List UInt8} {n:Nat} {at_:Int} {p:Int × Int} (h:(seeP pf cn op name n at_ p).1=0):p.1=0∧(op=7→∃ k,pf name=some k):=by
 have key:∀ q:Int × Int,(if op=7 then gQ pf name n q at_ else q).1=0→q.1=0∧(op=7→∃ k,pf name=some k):=fun q hq=>by
  by_cases e:op=7
  ·rw[if_pos e] at hq
   unfold gQ at hq
   cases hp:pf name with
   |none=>
    rw[hp] at hq
    exact absurd hq (jc _ _ _ _ (by decide))
   |some k=>
    rw[hp] at hq
    simp only at hq
    by_cases e2:k=n
    ·rw[if_pos e2] at hq
     exact⟨hq,fun _=>⟨k,rfl⟩⟩
    ·rw[if_neg e2] at hq
     exact absurd hq (jc _ _ _ _ (by decide))
  ·rw[if_neg e] at hq
   exact⟨hq,fun k=>absurd k e⟩
 obtain⟨h1,h2⟩:=key _ h
 refine⟨?_,h2⟩
 by_cases e:op=6∧cn name=0
 ·rw[if_pos e] at h1
  exact absurd h1 (jc _ _ _ _ (by decide))
 ·rw[if_neg e] at h1
  exact h1
mutual
theorem oq {pf:List UInt8→Option Nat}:∀ (x:Ex) (env:List (List UInt8)) (p:Int × Int),(wkE pf env x p).1=0→p.1=0∧∀ s,s∈ncE x→∃ k,pf s=some k
 |.mk op name tail ty a b xs i,env,p,h=>by
  rw[rC] at h
  obtain⟨h1,h2⟩:=oI xs env op name tail 0 _ h
  obtain⟨h3,h4⟩:=see_zero h1
  refine⟨h3,fun s hs=>?_⟩
  rw[oZ,List.mem_append] at hs
  rcases hs with hs|hs
  ·by_cases e:op=7
   ·rw[if_pos e,List.mem_singleton] at hs
    rw[hs]
    exact h4 e
   ·rw[if_neg e] at hs;cases hs
  ·exact h2 s hs
theorem oI {pf:List UInt8→Option Nat}:∀ (xs:List Ex) (env:List (List UInt8)) (op:Int) (name tail:List UInt8) (i:Nat) (p:Int × Int),(wkL pf env op name tail i xs p).1=0→p.1=0∧∀ s,s∈ncL xs→∃ k,pf s=some k
 |[],env,op,name,tail,i,p,h=>by
  rw[lh] at h
  exact⟨h,fun s hs=>by rw[jh] at hs;cases hs⟩
 |x::xs,env,op,name,tail,i,p,h=>by
  rw[gz] at h
  obtain⟨h1,h2⟩:=oI xs env op name tail (i+1) _ h
  obtain⟨h3,h4⟩:=oq x _ p h1
  refine⟨h3,fun s hs=>?_⟩
  rw[eT,List.mem_append] at hs
  rcases hs with hs|hs
  ·exact h4 s hs
  ·exact h2 s hs
end
theorem oO:∀ (xs:List Pm) (env:List (List UInt8)) (p:Int × Int),(prmL env xs p).1=0→p.1=0
 |[],env,p,h=>h
 |x::xs,env,p,h=>by
  have h1:=oO xs (env++[x.name]) (if 0<env.count x.name then bR p.1 p.2 30 x.pos else p) h
  by_cases e:0<env.count x.name
  ·rw[if_pos e] at h1
   exact absurd h1 (jc _ _ _ _ (by decide))
  ·rw[if_neg e] at h1
   exact h1
theorem win_zero {pf:List UInt8→Option Nat}:∀ (gs:List Fn1) (p:Int × Int),(winL pf gs p).1=0→p.1=0∧∀ g,g∈gs→∀ s,s∈ncE g.body→∃ k,pf s=some k
 |[],p,h=>⟨h,fun g hg=>by cases hg⟩
 |g::gs,p,h=>by
  have h0:(winL pf gs (winP pf g p)).1=0:=h
  obtain⟨h1,h2⟩:=win_zero gs (winP pf g p) h0
  unfold winP at h1
  obtain⟨h3,h4⟩:=oq _ _ _ h1
  refine⟨oO _ _ _ h3,fun g' hg=>?_⟩
  rcases List.mem_cons.1 hg with rfl|hg
  ·exact h4
  ·exact h2 g' hg
theorem oP:∀ (gs:List Fn1) (q:(List UInt8→Option Nat) × (Int × Int)),(dfnL gs q).2.1=0→q.2.1=0∧(gs.map (·.name)).Nodup∧(∀ g,g∈gs→q.1 g.name=none)∧∀ s k,(dfnL gs q).1 s=some k→q.1 s=some k∨∃ g,g∈gs∧g.name=s
 |[],q,h=>⟨h,List.nodup_nil,fun g hg=>(by cases hg),fun s k hk=>.inl hk⟩
 |g::gs,q,h=>by
  have h0:(dfnL gs (dfnP g q)).2.1=0:=h
  obtain⟨h1,h2,h3,h4⟩:=oP gs (dfnP g q) h0
  cases e:q.1 g.name with
  |some k=>
   unfold dfnP at h1
   rw[e] at h1
   exact absurd h1 (jc _ _ _ _ (by decide))
  |none=>
   have ed:dfnP g q=(putN q.1 g.name g.pms.length,q.2):=by unfold dfnP;rw[e]
   rw[ed] at h1 h3 h4
   refine⟨h1,?_,fun g' hg=>?_,fun s k hk=>?_⟩
   ·rw[List.map_cons,List.nodup_cons]
    refine⟨fun hm=>?_,h2⟩
    obtain⟨g',hg',e2⟩:=List.mem_map.1 hm
    have h5:=h3 g' hg'
    unfold putN at h5
    simp only at h5
    rw[if_pos e2] at h5
    cases h5
   ·rcases List.mem_cons.1 hg with rfl|hg
    ·exact e
    ·have h5:=h3 g' hg
     unfold putN at h5
     simp only at h5
     by_cases e2:g'.name=g.name
     ·rw[if_pos e2] at h5;cases h5
     ·rw[if_neg e2] at h5;exact h5
   ·have hk2:(dfnL gs (putN q.1 g.name g.pms.length,q.2)).1 s=some k:=by rw[← ed];exact hk
    rcases h4 s k hk2 with h5|⟨g',hg',e2⟩
    ·unfold putN at h5
     simp only at h5
     by_cases e2:s=g.name
     ·exact .inr ⟨g,List.mem_cons_self,e2.symm⟩
     ·rw[if_neg e2] at h5;exact .inl h5
    ·exact .inr ⟨g',List.mem_cons_of_mem _ hg',e2⟩
theorem scP_names {gs:List Fn1} (h:(scP gs).1=0):(gs.map (·.name)).Nodup∧∀ g,g∈gs→∀ s,s∈ncE g.body→∃ g',g'∈gs∧g'.name=s:=by
 unfold scP at h
 obtain⟨h1,h2⟩:=win_zero gs _ h
 obtain⟨_,h3,_,h4⟩:=oP gs _ h1
 refine⟨h3,fun g hg s hs=>?_⟩
 obtain⟨k,hk⟩:=h2 g hg s hs
 rcases h4 s k hk with h5|h5
 ·cases h5
 ·exact h5
theorem oJ (gs:List Fn1) (s:List UInt8):∀ m,(∃ k,k<m∧(gs.getD k fd).name=s)→∃ i:Nat,knK gs m s=some (i:Int)∧i<m∧(gs.getD i fd).name=s
 |0,h=>by obtain⟨k,hk,_⟩:=h;omega
 |m+1,h=>by
  unfold knK
  by_cases e:s=(gs.getD m fd).name
  ·exact⟨m,if_pos e,by omega,e.symm⟩
  ·obtain⟨k,hk,e2⟩:=h
   have hkm:k≠m:=fun e3=>e (by rw[← e2,e3])
   obtain⟨i,h1,h2,h3⟩:=oJ gs s m ⟨k,by omega,e2⟩
   exact⟨i,by rw[if_neg e];exact h1,by omega,h3⟩
section
variable {gs:List Fn1}
theorem names_one (hn:(gs.map (·.name)).Nodup) {a b:Nat} (ha:a<gs.length) (hb:b<gs.length) (e:(gs.getD a fd).name=(gs.getD b fd).name):a=b:=by
 have h1:(gs.map (·.name))[a]'(by rw[List.length_map];exact ha)=(gs.map (·.name))[b]'(by rw[List.length_map];exact hb):=by
  rw[List.getElem_map,List.getElem_map]
  rw[List.getD_eq_getElem?_getD,List.getD_eq_getElem?_getD,List.getElem?_eq_getElem ha,List.getElem?_eq_getElem hb] at e
  exact e
 exact (List.getElem_inj hn).1 h1
theorem rH {v k:Nat} (hv:v<gs.length) (hk:k<gs.length):tt (tabG gs) v k=decide ((gs.getD k fd).name∈ncE (gs.getD v fd).body):=by
 unfold tt tabG
 rw[List.getD_eq_getElem?_getD (l:=gs.map (rowG gs)),List.getElem?_map,List.getElem?_eq_getElem hv]
 show ((rowG gs gs[v]).getD k false)=_
 unfold rowG
 rw[List.getD_eq_getElem?_getD,sj _ hk,List.getD_eq_getElem?_getD (l:=gs) (i:=v),List.getElem?_eq_getElem hv]
 rfl
theorem pK (h:(scP gs).1=0) (v x:Nat):x∈aH (csG gs) v↔x∈adjT (tabG gs) v:=by
 obtain⟨hn,hd⟩:=scP_names h
 by_cases hv:v<gs.length
 ·have hgm:gs.getD v fd∈gs:=by rw[List.getD_eq_getElem?_getD,List.getElem?_eq_getElem hv];exact List.getElem_mem hv
  have hall:∀ s,s∈ncE (gs.getD v fd).body→∃ i:Nat,knK gs gs.length s=some (i:Int)∧i<gs.length∧(gs.getD i fd).name=s:=fun s hs=>by
   obtain⟨g',hg',e⟩:=hd _ hgm s hs
   obtain⟨k,hk,e2⟩:=List.getElem_of_mem hg'
   exact oJ gs s gs.length ⟨k,hk,by rw[List.getD_eq_getElem?_getD,List.getElem?_eq_getElem hk];show (gs[k]).name=s;rw[e2,e]⟩
  rw[gH,aY]
  unfold aH
  rw[mr gs v hv,rY,List.map_map,List.mem_map]
  constructor
  ·rintro ⟨s,hs,e⟩
   obtain⟨i,h1,h2,h3⟩:=hall s hs
   simp only[Function.comp_apply,h1,Option.getD_some] at e
   have:i=x:=by omega
   subst this
   exact⟨h2,by rw[rH hv h2];exact decide_eq_true (by rw[h3];exact hs)⟩
  ·rintro ⟨h1,h2⟩
   rw[rH hv h1] at h2
   have hs:=of_decide_eq_true h2
   obtain⟨i,k1,k2,k3⟩:=hall _ hs
   refine⟨_,hs,?_⟩
   simp only[Function.comp_apply,k1,Option.getD_some]
   have:=names_one hn k2 h1 k3
   omega
 ·constructor
  ·intro hx
   unfold aH at hx
   rw[List.getD_eq_getElem?_getD,List.getElem?_eq_none (by unfold csG;rw[List.length_map];omega)] at hx
   cases hx
  ·intro hx
   have:=(gH.1 hx).2
   unfold tt at this
   rw[List.getD_eq_getElem?_getD (l:=tabG gs),List.getElem?_eq_none (by rw[aY];omega)] at this
   simp at this
end
theorem sP {w:World} {v:Value} {xs:List Int} (h:RdI w 0 v xs):∃ ao c,v=.slice ao xs.length c∧∀ j,j<xs.length→∃ g,ao=some ⟨g,0,none⟩∧w.cell? ⟨g,j,none⟩=some (.int .i64 (xs.getD j 0)):=by
 obtain⟨ao,c,e,_,hr⟩:=h
 refine⟨ao,c,e,fun j hj=>?_⟩
 rcases hr with hr|⟨g,e1,_,_,hc⟩
 ·rw[hr] at hj;simp at hj
 ·exact⟨g,e1,hc j _ (by rw[List.getElem?_eq_getElem hj,List.getD_eq_getElem?_getD,List.getElem?_eq_getElem hj];rfl)⟩
theorem take_same {xs ys:List Int} {k:Nat} (hx:k<xs.length) (hy:k<ys.length):xs.take (k+1)=ys.take (k+1)↔xs.take k=ys.take k∧xs.getD k 0=ys.getD k 0:=by
 rw[List.take_succ_eq_append_getElem hx,List.take_succ_eq_append_getElem hy,List.getD_eq_getElem?_getD,List.getD_eq_getElem?_getD,List.getElem?_eq_getElem hx,List.getElem?_eq_getElem hy]
 constructor
 ·intro h
  have h1:=List.append_inj h (by rw[List.length_take,List.length_take];omega)
  exact⟨h1.1,by simpa using h1.2⟩
 ·rintro ⟨h1,h2⟩
  rw[h1]
  simp only[Option.getD_some] at h2
  rw[h2]
theorem eQ {w:World} {v u:Value} {xs ys:List Int} (hx:RdI w 0 v xs) (hy:RdI w 0 u ys) (hl:xs.length≤100000000000) :
  Calls Tryz.prog 18 #[v,u] w fun e w'=>e=.returned (.bool (decide (xs=ys)))∧Below w.heap.size w w':=by
 obtain⟨ao,c,rfl,hcx⟩:=sP hx
 obtain⟨bo,d,rfl,hcy⟩:=sP hy
 have HX:Hid (∀ j,j<xs.length→∃ g,ao=some ⟨g,0,none⟩∧w.cell? ⟨g,j,none⟩=some (.int .i64 (xs.getD j 0))):=hcx
 have HY:Hid (∀ j,j<ys.length→∃ g,bo=some ⟨g,0,none⟩∧w.cell? ⟨g,j,none⟩=some (.int .i64 (ys.getD j 0))):=hcy
 clear hx hy hcx hcy
 obtain⟨r,hr⟩:∃ r,r=decide (xs=ys):=⟨_,rfl⟩
 have HR:Hid (r=decide (xs=ys)):=hr
 rw[← hr]
 clear hr
 obtain⟨n,hn⟩:∃ n,n=xs.length:=⟨_,rfl⟩
 obtain⟨m,hm⟩:∃ m,m=ys.length:=⟨_,rfl⟩
 have HN:Hid (n=xs.length):=hn
 have HM:Hid (m=ys.length):=hm
 rw[← hn] at hl ⊢
 rw[← hm]
 clear hn hm
 by_cases hnm:n=m
 ·subst hnm
  have H0:Hid (xs.take 0=ys.take 0):=by simp[Hid]
  go_enter Tryz.func18,Tryz.ntmps18
  go_wp2_with fail
  go_loopw [5] (fun iv wr=>∃ k:Nat,k≤n∧iv=.int .i64 k∧Below w.heap.size w wr∧Hid (xs.take k=ys.take k)) (fun iv _=>n-(intOf iv).toNat)
  case atStart=>exact⟨0,Nat.zero_le _,rfl,Below.refl _ _,H0⟩
  case round=>
   obtain⟨k,hk,rfl,hb,hs⟩:=hrel
   by_cases hlt:k<n
   ·obtain⟨g1,rfl,a1⟩:=HX.out k (by rw[← HN.out];exact hlt)
    obtain⟨g2,rfl,a2⟩:=HY.out k (by rw[← HM.out];exact hlt)
    rw[← hb.cell (by exact cell_below a1)] at a1
    rw[← hb.cell (by exact cell_below a2)] at a2
    have hts:=take_same (xs:=xs) (ys:=ys) (k:=k) (by rw[← HN.out];exact hlt) (by rw[← HM.out];exact hlt)
    obtain⟨x,hx⟩:∃ x,x=xs.getD k 0:=⟨_,rfl⟩
    obtain⟨y,hy⟩:∃ y,y=ys.getD k 0:=⟨_,rfl⟩
    rw[← hx] at a1 hts
    rw[← hy] at a2 hts
    clear hx hy
    by_cases hxy:x=y
    ·have HT:Hid (xs.take (k+1)=ys.take (k+1)):=hts.2 ⟨hs.out,hxy⟩
     have hd:(x != y)=false:=by rw[hxy];exact bne_self_eq_false _
     clear hts hxy
     go_wp2_with fail
     go_quiet (fail)
     have hb2:=below_drewN hb nq
     go_wp2_with fail
     go_roundw
     case rel=>exact⟨k+1,by omega,by go_num,hb2,HT⟩
     case measure=>simp[intOf];omega
    ·have hrf:r=false:=by
      rw[HR.out]
      refine decide_eq_false fun e=>hxy ?_
      exact (hts.1 (by rw[e])).2
     have hd:(x != y)=true:=by rw[bne_iff_ne];exact hxy
     clear hts
     go_wp2_with fail
     go_quiet (fail)
     have hb2:=below_drewN hb nq
     go_wp2_with fail
     go_ret
     rw[hrf]
     exact⟨rfl,hb2⟩
   ·obtain rfl:k=n:=by omega
    have hrt:r=true:=by
     have h1:=hs.out
     rw[List.take_of_length_le (by rw[← HN.out];exact Nat.le_refl _),List.take_of_length_le (by rw[← HM.out];exact Nat.le_refl _)] at h1
     rw[HR.out]
     exact decide_eq_true h1
    go_wp2_with fail
    go_ret
    rw[hrt]
    exact⟨rfl,hb⟩
 ·have hrf:r=false:=by
   rw[HR.out]
   exact decide_eq_false fun e=>hnm (by rw[HN.out,HM.out,e])
  have hd:((n:Int) != (m:Int))=true:=by rw[bne_iff_ne];omega
  go_enter Tryz.func18,Tryz.ntmps18
  go_wp2_with fail
  go_ret
  rw[hrf]
  exact⟨rfl,Below.refl _ _⟩
theorem nS {w:World} {B:Nat} {v:Value} {ls:List (List Int)} (h:dF w B v ls):∃ ao c,v=.slice ao ls.length c∧∀ j,j<ls.length→∃ g u,ao=some ⟨g,0,none⟩∧w.cell? ⟨g,j,none⟩=some u∧OwI w 0 u (ls.getD j []):=by
 obtain⟨vs,h1,h2,h3⟩:=h
 obtain⟨r,c,e⟩:=fM h1
 rw[h2] at e
 refine⟨r,c,e,fun j hj=>?_⟩
 obtain⟨u,hu,ho⟩:=h3 j _ (show ls[j]?=some (ls.getD j []) by rw[List.getD_eq_getElem?_getD,List.getElem?_eq_getElem hj];rfl)
 rcases id h1.2 with⟨_,h0⟩|⟨g,c2,cur,e2,_⟩
 ·omega
 ·subst e2
  have h4:=World.ownsRow.cellAt h1 j (by omega)
  simp only[Value.slice.injEq] at e
  have e3:=e.1
  subst e3
  exact⟨g,u,rfl,h4.trans hu,ho⟩
theorem take_rows {ls ms:List (List Int)} {k:Nat} (hx:k<ls.length) (hy:k<ms.length):ls.take (k+1)=ms.take (k+1)↔ls.take k=ms.take k∧ls.getD k []=ms.getD k []:=by
 rw[List.take_succ_eq_append_getElem hx,List.take_succ_eq_append_getElem hy,List.getD_eq_getElem?_getD,List.getD_eq_getElem?_getD,List.getElem?_eq_getElem hx,List.getElem?_eq_getElem hy]
 constructor
 ·intro h
  have h1:=List.append_inj h (by rw[List.length_take,List.length_take];omega)
  exact⟨h1.1,by simpa using h1.2⟩
 ·rintro ⟨h1,h2⟩
  rw[h1]
  simp only[Option.getD_some] at h2
  rw[h2]
theorem uf {l:List UInt8} {ms:List Mk} {f:Nat} {gs:List Fn1} {j:Nat} (hl:l.length≤32768) (hc:cut rdN l 0=.ok ms) (hp:aS (mf ms) LW5 f [] 0=.ok gs j):∀ g∈gs,lnF g:=
 al_prog (mf ms) LW5 (fun k _=>Nat.le_trans (mf_len hc k) (by omega)) (fun _ _=>trivial) f [] 0 (by simp) gs j hp
def t8:List UInt8:=[97,40,41,58,78,61,98,40,41,59,98,40,41,58,78,61,97,40,41,59,99,40,41,58,78,61,99,40,41,43,97,40,41,59,100,40,41,58,78,61,49,59]
def ms8:List Mk:=match cut rdN t8 0 with|.ok ms=>ms|.bad _=>[]
def g8:List Fn1:=match aS (mf ms8) LW5 600 [] 0 with|.ok gs _=>gs|_=>[]
theorem cut8:cut rdN t8 0=.ok ms8:=by kernel_rfl
theorem qV:aS (mf ms8) LW5 600 [] 0=.ok g8 42:=by kernel_rfl
theorem len8:g8.length=4:=by kernel_rfl
theorem sc8:(scP g8).1=0:=by kernel_rfl
theorem cs8:csG g8=[[1],[0],[2,0],[]]:=by kernel_rfl
theorem ok8:ja g8:=ui (l:=t8) (f:=600) (by decide) (by decide) cut8 qV
theorem ln8:∀ g∈g8,lnF g:=uf (l:=t8) (f:=600) (by decide) cut8 qV
theorem rd8 {B:Nat} {e:Ending} {w':World} (h:rdV t8 600 B e w'):∃ ao c,e=.returned (.tuple #[.agg #[.slice ao 4 c],.bool true])∧FlW w' (fun b=>B≤b) ao g8:=by
 rcases h with⟨ms,gs,j,ao,c,h1,h2,h3,h4,h5⟩|⟨h,_⟩
 ·rw[cut8] at h2
  cases h2
  rw[qV] at h3
  cases h3
  rw[len8] at h4
  exact⟨ao,c,h4,h5⟩
 ·exact absurd ⟨by decide,cut8,qV⟩ (h _ _ _)
def cs80:List (List Int):=[[1],[0],[2,0],[]]
def lst8 (v:Nat):Nat:=[0,0,2,3].getD v 0
theorem qb {adj:Nat→List Nat} {S:Nat→Prop} (hS:∀ v,S v→∀ x,x∈adj v→S x) {a b:Nat} (h:Star adj a b) (ha:S a):S b:=by
 induction h with
 |refl=>exact ha
 |on _ hc ih=>exact hS _ ih _ hc
theorem lt4 {v:Nat} (h:v<4):v=0∨v=1∨v=2∨v=3:=by omega
theorem lstOk:Lst (aH cs80) 4 lst8:=by
 refine⟨fun v hv=>?_,fun v u hv hs=>?_⟩
 ·rcases lt4 hv with rfl|rfl|rfl|rfl
  ·exact Sc.refl _ _
  ·exact⟨Star.one (show (0:Nat)∈aH cs80 1 by decide),Star.one (show (1:Nat)∈aH cs80 0 by decide)⟩
  ·exact Sc.refl _ _
  ·exact Sc.refl _ _
 ·rcases lt4 hv with rfl|rfl|rfl|rfl
  ·exact Nat.zero_le _
  ·exact Nat.zero_le _
  ·have h2:=hs.2
   show 2≤u
   apply Decidable.byContradiction
   intro hu
   have hS:∀ v,(v=0∨v=1)→∀ x,x∈aH cs80 v→(x=0∨x=1):=fun v h x hx=>by
    rcases h with rfl|rfl
    ·have:x∈[1]:=hx
     simp at this;omega
    ·have:x∈[0]:=hx
     simp at this;omega
   have:=qb hS h2 (by omega)
   omega
  ·have h1:=hs.1
   have hS:∀ v,(v=3)→∀ x,x∈aH cs80 v→(x=3):=fun v h x hx=>by
    subst h
    have:x∈([]:List Nat):=hx
    cases this
   have:=qb hS h1 rfl
   show 3≤u
   omega
theorem finOk:Od.Fin (aH cs80) lst8 4 [0,2,3]:=by
 have key:∀ (o:List Nat) (g:Nat),Od.Avail (aH cs80) lst8 4 o g↔g<4∧lst8 g=g∧g ∉ o∧Od.waits (Od.edges (aH cs80) lst8 4) o g=0:=fun o g=>Od.avail_iff
 have hb:∀ (o:List Nat) (m:Nat),(∀ g,g<4→(lst8 g=g∧g ∉ o∧Od.waits (Od.edges (aH cs80) lst8 4) o g=0)→m≤g)→∀ g,Od.Avail (aH cs80) lst8 4 o g→m≤g:=fun o m h g hg=>h g ((key o g).1 hg).1 ((key o g).1 hg).2
 refine⟨fun k hk=>?_,fun g hg=>?_⟩
 ·have:k=0∨k=1∨k=2:=by simp at hk;omega
  rcases this with rfl|rfl|rfl
  ·exact⟨(key _ _).2 (by decide),hb _ _ (by decide)⟩
  ·exact⟨(key _ _).2 (by decide),hb _ _ (by decide)⟩
  ·exact⟨(key _ _).2 (by decide),hb _ _ (by decide)⟩
 ·have h1:=(key _ _).1 hg
  have h2:∀ g,g<4→¬ (lst8 g=g∧g ∉ [0,2,3]∧Od.waits (Od.edges (aH cs80) lst8 4) [0,2,3] g=0):=by decide
  exact h2 g h1.1 h1.2
theorem tY:∀ v,v<4→∀ x,x∈aH cs80 v→x<4:=by
 intro v hv
 rcases lt4 hv with rfl|rfl|rfl|rfl<;>decide
theorem groups8 {lst:Nat→Nat} {out:List Nat} (hl:Lst (aH (csG g8)) 4 lst) (hf:Od.Fin (aH (csG g8)) lst 4 out):out=[0,2,3]∧Gw.grp lst 4 0=[0,1]∧Gw.grp lst 4 2=[2]:=by
 rw[cs8] at hl hf
 have he:=Lst.one (fun v x _=>Iff.rfl) tY hl lstOk
 have hf2:=qa (adj':=aH cs80) (lst':=lst8) (fun v x _=>Iff.rfl) tY he hf
 refine⟨Od.fin_one hf2 finOk,?_,?_⟩
 ·unfold Gw.grp
  rw[List.filter_congr (q:=fun v=>decide (lst8 v=0)) fun v hv=>by rw[he v (List.mem_range.1 hv)]]
  decide
 ·unfold Gw.grp
  rw[List.filter_congr (q:=fun v=>decide (lst8 v=2)) fun v hv=>by rw[he v (List.mem_range.1 hv)]]
  decide
theorem reach8 {o:List Int} (hp:o.Pairwise (·<·)) (hm:∀ x,x∈o↔Rch (csG g8) [2] x):o=[0,1,2]:=by
 rw[cs8] at hm
 refine IsNs.one (l:=o) (l':=[0,1,2]) ⟨hp,fun _=>Iff.rfl⟩ ⟨by decide,fun _=>Iff.rfl⟩ fun x=>?_
 rw[hm]
 constructor
 ·intro h
  induction h with
  |here h=>rw[List.mem_singleton] at h;rw[h];decide
  |on _ hc ih=>
   simp only[List.mem_cons,List.not_mem_nil,or_false] at ih
   rcases ih with rfl|rfl|rfl
   ·rename_i y _
    have:y∈([1]:List Int):=hc
    rw[List.mem_singleton] at this;rw[this];decide
   ·rename_i y _
    have:y∈([0]:List Int):=hc
    rw[List.mem_singleton] at this;rw[this];decide
   ·rename_i y _
    have:y∈([2,0]:List Int):=hc
    simp only[List.mem_cons,List.not_mem_nil,or_false] at this
    rcases this with rfl|rfl<;>decide
 ·intro h
  have h2:Rch [[1],[0],[2,0],[]] [2] 2:=.here (by decide)
  have h0:Rch [[1],[0],[2,0],[]] [2] 0:=.on h2 (by decide)
  have h1:Rch [[1],[0],[2,0],[]] [2] 1:=.on h0 (by decide)
  simp only[List.mem_cons,List.not_mem_nil,or_false] at h
  rcases h with rfl|rfl|rfl
  ·exact h0
  ·exact h1
  ·exact h2
section
variable {w:World} {A:Nat→Prop} {ao:Option Addr} {gs:List Fn1} {c:Nat}
theorem groups_ok (ho:ja gs) (hln:∀ g∈gs,lnF g) (hF:FlW w A ao gs):Calls Tryz.prog 19 #[.agg #[.slice ao gs.length c]] w fun e w'=>mR w gs e w':=
 groups_any (A:=fun b=>A b∧b<w.heap.size) (hF.imp fun b h hl=>⟨h,hl⟩) (fun _ h=>h.2) hln (fun g hg=>by have:=ho.sz g hg;omega) (fun g hg=>by have:=ho.pms g hg;omega) (by have:=ho.num;omega)
theorem jU (ho:ja gs) (hln:∀ g∈gs,lnF g) (hF:FlW w A ao gs) (i:Int):Calls Tryz.prog 14 #[.agg #[.slice ao gs.length c],.int .i64 i] w fun e w'=>rA w gs i e w':=
 reach_any (A:=fun b=>A b∧b<w.heap.size) (hF.imp fun b h hl=>⟨h,hl⟩) (fun _ h=>h.2) hln (fun g hg=>by have:=ho.sz g hg;omega) (fun g hg=>by have:=ho.pms g hg;omega) (by have:=ho.num;omega) i
theorem oM (ho:ja gs) (hln:∀ g∈gs,lnF g) (hF:FlW w A ao gs) (i:Int):Calls Tryz.prog 16 #[.agg #[.slice ao gs.length c],.int .i64 i] w fun e w'=>qW w gs i e w':=
 again_any (A:=fun b=>A b∧b<w.heap.size) (hF.imp fun b h hl=>⟨h,hl⟩) (fun _ h=>h.2) hln (fun g hg=>by have:=ho.sz g hg;omega) (fun g hg=>by have:=ho.pms g hg;omega) (by have:=ho.num;omega) i
theorem calls_ok (ho:ja gs) (hln:∀ g∈gs,lnF g) (hF:FlW w A ao gs):Calls Tryz.prog 11 #[.agg #[.slice ao gs.length c]] w fun e w'=>qj w gs e w':=
 iT (A:=fun b=>A b∧b<w.heap.size) (hF.imp fun b h hl=>⟨h,hl⟩) (fun _ h=>h.2) hln (fun g hg=>by have:=ho.sz g hg;omega) (fun g hg=>by have:=ho.pms g hg;omega) (by have:=ho.num;omega)
end
theorem rowsO_of {w:World} {S kw Z Zg n:Nat} {T:Nat→Nat} {V:Nat→Nat→Value} {lst:Nat→Nat} {es:List (Nat × Nat)} {Ws:List Int} {vg:Value} {out:List Nat} (hW:Lw w S T kw Z n V (lR lst n es) Ws) (ho:w.ownsRow Zg 36 1 vg (out.map (V 0)).length (out.map (V 0))) (hlt:∀ g,g∈out→g<n):dF w Zg vg (out.map fun g=>zs (Gw.grp lst n g)):=by
 refine⟨out.map (V 0),ho,by rw[List.length_map,List.length_map],fun j l hj=>?_⟩
 rw[List.getElem?_map] at hj
 cases hg:out[j]? with
 |none=>rw[hg] at hj;cases hj
 |some g=>
  rw[hg] at hj
  simp only[Option.map_some,Option.some.injEq] at hj
  have h1:=hW.row 0 g (by decide) (hlt g (List.mem_of_getElem? hg))
  rw[show lR lst n es 0 g=zs (Gw.grp lst n g) from rfl,hj] at h1
  exact⟨V 0 g,by rw[List.getElem?_map,hg];rfl,iE h1 (Nat.zero_le _)⟩
theorem fin_lt {adj:Nat→List Nat} {lst:Nat→Nat} {n:Nat} {out:List Nat} (h:Od.Fin adj lst n out):∀ g,g∈out→g<n:=fun g hg=>by
 obtain⟨k,hk,e⟩:=List.getElem_of_mem hg
 have h1:=(h.1 k hk).1.1
 rw[List.getD_eq_getElem?_getD,List.getElem?_eq_getElem hk] at h1
 rw[← e]
 exact h1
theorem mY {w:World} {xs:List Int}:RdI (w.alloc (.cells (xs.map fun z=>Value.int .i64 z).toArray 3)) 0 (.slice (some ⟨w.heap.size,0,none⟩) xs.length xs.length) xs:=
 ⟨_,_,rfl,(fun e=>by cases e),.inr ⟨w.heap.size,rfl,Nat.zero_le _,by simp,fun j z hj=>by
  have h:=(Bk.new w 3 (xs.map fun z=>Value.int .i64 z).toArray).cell j
  rw[h,List.toList_toArray,List.getElem?_map,hj]
  rfl⟩⟩
theorem awake8_any (w:World) :
  Calls Tryz.prog 9 #[] w fun e w'=>e=.returned (.bool true)∧Below w.heap.size w w':=by
 have hcs:=Lib.run_convert_bytes_const (P:=Tryz.prog) w 22 5 #[.int .u8 97,.int .u8 40,.int .u8 41,.int .u8 58,.int .u8 78,.int .u8 61,.int .u8 98,.int .u8 40,.int .u8 41,.int .u8 59,.int .u8 98,.int .u8 40,.int .u8 41,.int .u8 58,.int .u8 78,.int .u8 61,.int .u8 97,.int .u8 40,.int .u8 41,.int .u8 59,.int .u8 99,.int .u8 40,.int .u8 41,.int .u8 58,.int .u8 78,.int .u8 61,.int .u8 99,.int .u8 40,.int .u8 41,.int .u8 43,.int .u8 97,.int .u8 40,.int .u8 41,.int .u8 59,.int .u8 100,.int .u8 40,.int .u8 41,.int .u8 58,.int .u8 78,.int .u8 61,.int .u8 49,.int .u8 59] 42 42 (by kernel_rfl) (by kernel_rfl)
 have hbd:=Bd.new w t8 5 (42,43)
 have hb1:=ae w (.cells #[.int .u8 97,.int .u8 40,.int .u8 41,.int .u8 58,.int .u8 78,.int .u8 61,.int .u8 98,.int .u8 40,.int .u8 41,.int .u8 59,.int .u8 98,.int .u8 40,.int .u8 41,.int .u8 58,.int .u8 78,.int .u8 61,.int .u8 97,.int .u8 40,.int .u8 41,.int .u8 59,.int .u8 99,.int .u8 40,.int .u8 41,.int .u8 58,.int .u8 78,.int .u8 61,.int .u8 99,.int .u8 40,.int .u8 41,.int .u8 43,.int .u8 97,.int .u8 40,.int .u8 41,.int .u8 59,.int .u8 100,.int .u8 40,.int .u8 41,.int .u8 58,.int .u8 78,.int .u8 61,.int .u8 49,.int .u8 59] 5 (42,43))
 have m1:=lU (some ⟨w.heap.size,0,none⟩) 42 t8 (by decide) _ hbd 600 (fun ms e=>by rw[cut8] at e;cases e;rw[qV];simp)
 go_enter Tryz.func9,Tryz.ntmps9
 go_wp2_with fail
 refine m1.mono ?_
 rintro e w2 ⟨hb2,ao1,n1,c1,b1,rfl,hrd⟩
 obtain⟨ao,c,he,hfl⟩:=rd8 hrd
 simp only[Ending.returned.injEq,Value.tuple.injEq,Array.mk.injEq,List.cons.injEq,Value.agg.injEq,Value.slice.injEq,Value.bool.injEq,and_true] at he
 obtain⟨⟨rfl,rfl,rfl⟩,rfl⟩:=he
 have hB2:=Below.thn hb1 hb2
 clear m1 hcs hbd hrd hb2 hb1
 have hb3:=ae w2 (.cells #[.slice ao1 4 c1] 26)
 have hP3:=Bk.new w2 26 #[.slice ao1 4 c1]
 have hB3:=Below.thn hB2 hb3
 have hf3:=hfl.up hb3
 go_upto_region 2 with fail
 generalize hW:w2.alloc (.cells #[.slice ao1 4 c1] 26)=W3 at *
 clear hW hfl hB2 hb3
 have p0:W3.cell? ⟨w2.heap.size,0,none⟩=some (.slice ao1 4 c1):=hP3.cell 0
 have hg:=groups_ok (c:=c1) ok8 ln8 hf3
 rw[len8] at hg
 go_wp2_with fail
 refine hg.mono ?_
 rintro e w4 ⟨hb4,h⟩
 rcases h with⟨hz,_⟩|⟨_,vg,out,Zg,Ws,S,T,kw,Z,V,lst,es,rfl,hLst,hFin,hZg,hZ,hOw,hLw,hBd⟩
 ·exact absurd sc8 hz
 rw[len8] at hLst hFin hLw
 obtain⟨rfl,hg0,hg2⟩:=groups8 hLst hFin
 have hro:=rowsO_of hLw hOw (fin_lt hFin)
 rw[show [0,2,3].map (fun g=>zs (Gw.grp lst 4 g))=[[0,1],[2],zs (Gw.grp lst 4 3)] from by simp only[List.map_cons,List.map_nil,hg0,hg2];rfl] at hro
 have hB4:=Below.thn hB3 hb4
 have hf4:=hf3.up hb4
 have p1:w4.cell? ⟨w2.heap.size,0,none⟩=some (.slice ao1 4 c1):=(hP3.up hb4).cell 0
 have hrc:=jU (c:=c1) ok8 ln8 hf4 2
 rw[len8] at hrc
 clear hg hLst hFin hOw hLw hBd hg0 hg2 hb4 hf3 hP3 p0 hB3 hZg hZ
 go_wp2_with fail
 refine hrc.mono ?_
 rintro e w5 ⟨hb5,h⟩
 rcases h with⟨hz,_⟩|⟨_,h1,_⟩|⟨_,_,_,vr,o,rfl,hrd,hpw,hmem⟩
 ·exact absurd sc8 hz
 ·rw[len8] at h1;omega
 obtain rfl:=reach8 hpw hmem
 have hro5:=hro.up hb5
 have hB5:=Below.thn hB4 hb5
 obtain⟨ag,cg,rfl,hat⟩:=nS hro5
 obtain⟨gb,u0,rfl,d0,o0⟩:=hat 0 (by simp)
 obtain⟨gb2,u1,e,d1,o1⟩:=hat 1 (by simp)
 obtain rfl:gb=gb2:=by simpa using e
 replace o0:OwI w5 0 u0 [0,1]:=o0
 replace o1:OwI w5 0 u1 [2]:=o1
 clear hrc hpw hmem hro hro5 hat e hb5 hB4 hf4 p1
 have l1:RdI (w5.alloc (.cells #[.int .i64 0,.int .i64 1] 3)) 0 (.slice (some ⟨w5.heap.size,0,none⟩) 2 2) [0,1]:=mY (w:=w5) (xs:=[0,1])
 have hba:=ae w5 (.cells #[.int .i64 0,.int .i64 1] 3)
 have s1:=eQ (OwI.rd (aX o0 hba)) l1 (by decide)
 rw[decide_eq_true (rfl:([0,1]:List Int)=[0,1])] at s1
 go_wp2_with fail
 refine s1.mono ?_
 rintro e w6 ⟨rfl,hb6⟩
 have hB6:=Below.thn (Below.thn hB5 hba) hb6
 have hb56:=Below.thn hba hb6
 have e1:w6.cell? ⟨gb,1,none⟩=some u1:=by rw[hb56.cell (cell_below d1)];exact d1
 have o6:=aX o1 hb56
 have r6:=hrd.up hb56
 clear s1 l1 hba d0 d1 o0 o1 hrd hb6 hb56 hB5
 have l2:RdI (w6.alloc (.cells #[.int .i64 2] 3)) 0 (.slice (some ⟨w6.heap.size,0,none⟩) 1 1) [2]:=mY (w:=w6) (xs:=[2])
 have hba:=ae w6 (.cells #[.int .i64 2] 3)
 have s2:=eQ (OwI.rd (aX o6 hba)) l2 (by decide)
 rw[decide_eq_true (rfl:([2]:List Int)=[2])] at s2
 go_wp2_with fail
 refine s2.mono ?_
 rintro e w7 ⟨rfl,hb7⟩
 have hB7:=Below.thn (Below.thn hB6 hba) hb7
 have r7:=r6.up (Below.thn hba hb7)
 clear s2 l2 hba e1 o6 r6 hb7 hB6
 have l3:RdI (w7.alloc (.cells #[.int .i64 0,.int .i64 1,.int .i64 2] 3)) 0 (.slice (some ⟨w7.heap.size,0,none⟩) 3 3) [0,1,2]:=mY (w:=w7) (xs:=[0,1,2])
 have hba:=ae w7 (.cells #[.int .i64 0,.int .i64 1,.int .i64 2] 3)
 have s3:=eQ ((r7.up hba).mono (Nat.zero_le _)) l3 (by decide)
 rw[decide_eq_true (rfl:([0,1,2]:List Int)=[0,1,2])] at s3
 go_wp2_with fail
 refine s3.mono ?_
 rintro e w8 ⟨rfl,hb8⟩
 have hB8:=Below.thn (Below.thn hB7 hba) hb8
 clear s3 l3 hba r7 hb8 hB7
 go_wp2_with fail
 go_ret
 exact⟨rfl,hB8⟩
theorem rd8_fork {l:List UInt8} {F B:Nat} {ao:Option Addr} {n c:Nat} {b:Bool} {w':World} (h:rdV l F B (.returned (.tuple #[.agg #[.slice ao n c],.bool b])) w') :
  (b=true∧∃ ms gs j,n=gs.length∧l.length≤32768∧cut rdN l 0=.ok ms∧aS (mf ms) LW5 F [] 0=.ok gs j∧FlW w' (fun b=>B≤b) ao gs)∨b=false:=by
 rcases h with⟨ms,gs,j,a,c',h1,h2,h3,h4,h5⟩|⟨_,h4⟩
 ·simp only[Ending.returned.injEq,Value.tuple.injEq,Array.mk.injEq,List.cons.injEq,Value.agg.injEq,Value.slice.injEq,Value.bool.injEq,and_true] at h4
  obtain⟨⟨rfl,rfl,rfl⟩,rfl⟩:=h4
  exact .inl ⟨rfl,ms,gs,j,rfl,h1,h2,h3,h5⟩
 ·simp only[Ending.returned.injEq,Value.tuple.injEq,Array.mk.injEq,List.cons.injEq,Value.agg.injEq,Value.slice.injEq,Value.bool.injEq,and_true] at h4
  exact .inr h4.2
def kH (w:World) (v:Value) (ls:List (List Int)):Prop:=∃ ao c,v=.slice ao ls.length c∧∀ j,j<ls.length→∃ g u,ao=some ⟨g,0,none⟩∧w.cell? ⟨g,j,none⟩=some u∧RdI w 0 u (ls.getD j [])
theorem kH.up {w w':World} {v:Value} {ls:List (List Int)} (h:kH w v ls) (hb:Below w.heap.size w w'):kH w' v ls:=by
 obtain⟨ao,c,e,h⟩:=h
 refine⟨ao,c,e,fun j hj=>?_⟩
 obtain⟨g,u,e2,h1,h2⟩:=h j hj
 exact⟨g,u,e2,by rw[hb.cell (cell_below h1)];exact h1,h2.up hb⟩
theorem jl {w:World} {B:Nat} {v:Value} {ls:List (List Int)} (h:dF w B v ls):kH w v ls:=by
 obtain⟨ao,c,e,h⟩:=nS h
 refine⟨ao,c,e,fun j hj=>?_⟩
 obtain⟨g,u,e2,h1,h2⟩:=h j hj
 exact⟨g,u,e2,h1,OwI.rd h2⟩
theorem rowsR_gen {w:World} {b:Nat} {cs:List (List Int)} (h:nH w b cs) (c:Nat):kH w (.slice (some ⟨b,0,none⟩) cs.length c) cs:=by
 obtain⟨vs,h1,h2,h3⟩:=h
 refine⟨_,c,rfl,fun j hj=>⟨b,vs.getD j (.slice none 0 0),rfl,?_,h3 j _ (by rw[List.getD_eq_getElem?_getD,List.getElem?_eq_getElem hj];rfl)⟩⟩
 rw[h1.cell,List.getElem?_eq_getElem (by omega),List.getD_eq_getElem?_getD,List.getElem?_eq_getElem (by omega)]
 rfl
theorem alikeR_any {w:World} {v u:Value} {ls ms:List (List Int)} (hx:kH w v ls) (hy:kH w u ms) (hl:ls.length≤100000000000) (hll:∀ l,l∈ls→l.length≤100000000000) :
  Calls Tryz.prog 13 #[v,u] w fun e w'=>e=.returned (.bool (decide (ls=ms)))∧Below w.heap.size w w':=by
 obtain⟨ao,c,rfl,hcx⟩:=hx
 obtain⟨bo,d,rfl,hcy⟩:=hy
 have HX:Hid (∀ j,j<ls.length→∃ g u,ao=some ⟨g,0,none⟩∧w.cell? ⟨g,j,none⟩=some u∧RdI w 0 u (ls.getD j [])):=hcx
 have HY:Hid (∀ j,j<ms.length→∃ g u,bo=some ⟨g,0,none⟩∧w.cell? ⟨g,j,none⟩=some u∧RdI w 0 u (ms.getD j [])):=hcy
 have HLL:Hid (∀ j,j<ls.length→(ls.getD j []).length≤100000000000):=fun j hj=>hll _ (by rw[List.getD_eq_getElem?_getD,List.getElem?_eq_getElem hj];exact List.getElem_mem hj)
 clear hcx hcy hll
 obtain⟨r,hr⟩:∃ r,r=decide (ls=ms):=⟨_,rfl⟩
 have HR:Hid (r=decide (ls=ms)):=hr
 rw[← hr]
 clear hr
 obtain⟨n,hn⟩:∃ n,n=ls.length:=⟨_,rfl⟩
 obtain⟨m,hm⟩:∃ m,m=ms.length:=⟨_,rfl⟩
 have HN:Hid (n=ls.length):=hn
 have HM:Hid (m=ms.length):=hm
 rw[← hn] at hl ⊢
 rw[← hm]
 clear hn hm
 by_cases hnm:n=m
 ·subst hnm
  have H0:Hid (ls.take 0=ms.take 0):=by simp[Hid]
  go_enter Tryz.func13,Tryz.ntmps13
  go_wp2_with fail
  go_loopw [5] (fun iv wr=>∃ k:Nat,k≤n∧iv=.int .i64 k∧Below w.heap.size w wr∧Hid (ls.take k=ms.take k)) (fun iv _=>n-(intOf iv).toNat)
  case atStart=>exact⟨0,Nat.zero_le _,rfl,Below.refl _ _,H0⟩
  case round=>
   obtain⟨k,hk,rfl,hb,hs⟩:=hrel
   by_cases hlt:k<n
   ·obtain⟨g1,u1,rfl,a1,o1⟩:=HX.out k (by rw[← HN.out];exact hlt)
    obtain⟨g2,u2,rfl,a2,o2⟩:=HY.out k (by rw[← HM.out];exact hlt)
    rw[← hb.cell (by exact cell_below a1)] at a1
    rw[← hb.cell (by exact cell_below a2)] at a2
    have hts:=take_rows (ls:=ls) (ms:=ms) (k:=k) (by rw[← HN.out];exact hlt) (by rw[← HM.out];exact hlt)
    have hbd:=hb.drew
    have hsm:=eQ (o1.up hbd) (o2.up hbd) (HLL.out k (by rw[← HN.out];exact hlt))
    obtain⟨q,hq⟩:∃ q,q=decide (ls.getD k []=ms.getD k []):=⟨_,rfl⟩
    rw[← hq] at hsm
    have HQ:Hid (q=decide (ls.getD k []=ms.getD k [])):=hq
    have HTS:Hid (ls.take (k+1)=ms.take (k+1)↔ls.take k=ms.take k∧ls.getD k []=ms.getD k []):=hts
    clear hq hts o1 o2
    go_upto_region 6 with fail
    go_region_with (go_at_call 18;refine hsm.mono ?_;rintro _ w1 ⟨rfl,hb1⟩)
    all_goals
     have hb2:=Below.thn hbd hb1
     cases q with
     |true=>
      have HT:Hid (ls.take (k+1)=ms.take (k+1)):=HTS.out.2 ⟨hs.out,of_decide_eq_true HQ.out.symm⟩
      clear HTS HQ hsm a1 a2
      go_wp2_with fail
      go_roundw
      case rel=>exact⟨k+1,by omega,by go_num,hb2,HT⟩
      case measure=>simp[intOf];omega
     |false=>
      have hrf:r=false:=by
       rw[HR.out]
       exact decide_eq_false fun e=>of_decide_eq_false HQ.out.symm (HTS.out.1 (by rw[e])).2
      clear HTS HQ hsm a1 a2
      go_wp2_with fail
      go_ret
      rw[hrf]
      exact⟨rfl,hb2⟩
   ·obtain rfl:k=n:=by omega
    have hrt:r=true:=by
     have h1:=hs.out
     rw[List.take_of_length_le (by rw[← HN.out];exact Nat.le_refl _),List.take_of_length_le (by rw[← HM.out];exact Nat.le_refl _)] at h1
     rw[HR.out]
     exact decide_eq_true h1
    go_wp2_with fail
    go_ret
    rw[hrt]
    exact⟨rfl,hb⟩
 ·have hrf:r=false:=by
   rw[HR.out]
   exact decide_eq_false fun e=>hnm (by rw[HN.out,HM.out,e])
  have hd:((n:Int) != (m:Int))=true:=by rw[bne_iff_ne];omega
  go_enter Tryz.func13,Tryz.ntmps13
  go_wp2_with fail
  go_ret
  rw[hrf]
  exact⟨rfl,Below.refl _ _⟩
section
variable {gs:List Fn1}
theorem rU (h:(scP gs).1=0) (j:Nat) (x:Int):x∈(csG gs).getD j []↔x∈(ctT (tabG gs)).getD j []:=by
 rw[ctT_mem (dE gs)]
 have hpos:x∈(csG gs).getD j []→0≤x:=fun hx=>by
  by_cases hj:j<gs.length
  ·rw[mr gs j hj] at hx
   exact (nX (fun s=>qZ gs gs.length (by omega) s) _ x hx).1
  ·rw[List.getD_eq_getElem?_getD,List.getElem?_eq_none (by unfold csG;rw[List.length_map];omega)] at hx
   cases hx
 constructor
 ·intro hx
  have h0:=hpos hx
  refine⟨x.toNat,by omega,(pK h j _).1 ?_⟩
  unfold aH
  exact List.mem_map.2 ⟨x,hx,rfl⟩
 ·rintro ⟨y,rfl,hy⟩
  have h1:=(pK h j y).2 hy
  unfold aH at h1
  obtain⟨z,hz,e⟩:=List.mem_map.1 h1
  have:0≤z:=by
   by_cases hj:j<gs.length
   ·have hz2:=hz
    rw[mr gs j hj] at hz2
    exact (nX (fun s=>qZ gs gs.length (by omega) s) _ z hz2).1
   ·rw[List.getD_eq_getElem?_getD,List.getElem?_eq_none (by unfold csG;rw[List.length_map];omega)] at hz
    cases hz
  have:z=(y:Int):=by omega
  rw[← this]
  exact hz
theorem kJ (h:(scP gs).1=0) {fr fr':List Int} (hf:∀ x,x∈fr↔x∈fr') (x:Int):Rch (csG gs) fr x↔Rch (ctT (tabG gs)) fr' x:=
 ⟨Rch.mem (fun x hx=>(hf x).1 hx) fun j x=>(rU h j x).1,Rch.mem (fun x hx=>(hf x).2 hx) fun j x=>(rU h j x).2⟩
theorem rch_self {cs:List (List Int)} {i:Nat} (x:Int):Rch cs [(i:Int)] x↔x=(i:Int)∨Rch cs (cs.getD i []) x:=by
 constructor
 ·intro h
  induction h with
  |here h=>exact .inl (List.mem_singleton.1 h)
  |on _ hc ih=>
   rcases ih with rfl|ih
   ·rw[show ((i:Nat):Int).toNat=i by omega] at hc
    exact .inr (.here hc)
   ·exact .inr (.on ih hc)
 ·rintro (rfl|h)
  ·exact .here (List.mem_singleton.2 rfl)
  ·induction h with
   |here h=>exact .on (.here (List.mem_singleton.2 rfl)) (by rw[show ((i:Nat):Int).toNat=i by omega];exact h)
   |on _ hc ih=>exact .on ih hc
theorem rows_same (h:(scP gs).1=0) {cs:List (List Int)} (hl:cs.length=gs.length) (hc:∀ (j:Nat) (o:List Int),cs[j]?=some o→IsNs (caE (knK gs gs.length) (gs.getD j fd).body) o):cs=ctT (tabG gs):=by
 have hlt:(ctT (tabG gs)).length=gs.length:=by unfold ctT;rw[List.length_map,aY]
 apply List.ext_getElem
 ·omega
 ·intro j h1 h2
  have hj:j<gs.length:=by omega
  have hjt:j<(tabG gs).length:=by rw[aY];exact hj
  have ho:=hc j _ (List.getElem?_eq_getElem h1)
  have e:(ctT (tabG gs))[j]=nums ((tabG gs)[j]) ((tabG gs)[j]).length:=List.getElem_map (fun row:List Bool=>nums row row.length)
  have hm:=fun x=>rU h j x
  rw[mr gs j hj] at hm
  have e2:(ctT (tabG gs)).getD j []=(ctT (tabG gs))[j]:=by rw[List.getD_eq_getElem?_getD,List.getElem?_eq_getElem h2];rfl
  rw[e2] at hm
  refine IsNs.one (l:=caE (knK gs gs.length) (gs.getD j fd).body) (l':=(ctT (tabG gs))[j]) ho ?_ hm
  exact⟨by rw[e];exact lc _ _,fun _=>Iff.rfl⟩
end
def ky (w:World) (gs:List Fn1) (e:Ending) (w':World):Prop:=
 Below w.heap.size w w'∧((lsP (ftP gs)).1≠0∧e=.returned (.tuple #[.slice none 0 0,.int .i64 3]) ∨
  (lsP (ftP gs)).1=0∧∃ vg,e=.returned (.tuple #[vg,.int .i64 0])∧dF w' w.heap.size vg (ctT (tabG gs)))
def kN (w:World) (gs:List Fn1) (i:Int) (e:Ending) (w':World):Prop:=
 Below w.heap.size w w'∧((lsP (ftP gs)).1≠0∧e=.returned (.tuple #[.slice none 0 0,.int .i64 3]) ∨
  (lsP (ftP gs)).1=0∧(i<0∨(gs.length:Int)≤i)∧e=.returned (.tuple #[.slice none 0 0,.int .i64 2]) ∨
  (lsP (ftP gs)).1=0∧0≤i∧i<gs.length∧∃ v o,e=.returned (.tuple #[v,.int .i64 0])∧OwI w' w.heap.size v o∧o.Pairwise (·<·)∧∀ x,x∈o↔Rch (ctT (tabG gs)) [i] x)
def kD (w:World) (gs:List Fn1) (i:Int) (e:Ending) (w':World):Prop:=
 Below w.heap.size w w'∧((lsP (ftP gs)).1≠0∧e=.returned (.tuple #[.bool false,.int .i64 3]) ∨
  (lsP (ftP gs)).1=0∧(i<0∨(gs.length:Int)≤i)∧e=.returned (.tuple #[.bool false,.int .i64 2]) ∨
  (lsP (ftP gs)).1=0∧0≤i∧i<gs.length∧∃ q,e=.returned (.tuple #[.bool q,.int .i64 0])∧(q=true↔Rch (ctT (tabG gs)) ((ctT (tabG gs)).getD i.toNat []) i))
section
variable {w:World} {A:Nat→Prop} {ao:Option Addr} {gs:List Fn1} {c:Nat}
theorem refCalls_any (hF:FlW w A ao gs) (hA:∀ k,A k→k<w.heap.size) (hsz:∀ g∈gs,szE g.body≤65536) (hps:∀ g∈gs,g.pms.length≤65536) (hgs:gs.length≤65536) :
  Calls Tryz.prog 12 #[.agg #[.slice ao gs.length c]] w fun e w'=>ky w gs e w':=by
 have hb0:=ae w (.cells #[.slice ao gs.length c] 26)
 have hL0:=Bk.new w 26 #[.slice ao gs.length c]
 go_enter Tryz.func12,Tryz.ntmps12
 go_upto_region 1 with fail
 generalize w.alloc (.cells #[.slice ao gs.length c] 26)=W at *
 have hwW:w.heap.size<W.heap.size:=hL0.lt
 have c0:W.cell? ⟨w.heap.size,0,none⟩=some (.slice ao gs.length c):=hL0.cell 0
 have hFW:=hF.up hb0
 have hA2:∀ k,A k→k<W.heap.size:=fun k h=>by have:=hA k h;omega
 have hs:=fP (c:=c) hFW hA2 hsz hps hgs
 clear hF hA
 go_wp2_with fail
 refine hs.mono ?_
 rintro e w2 ⟨rfl,hb2⟩
 have hL2:=hL0.up hb2
 have hF2:=hFW.up hb2
 have hB2:=Below.thn hb0 hb2
 have c2:w2.cell? ⟨w.heap.size,0,none⟩=some (.slice ao gs.length c):=hL2.cell 0
 have hA3:∀ k,A k→k<w2.heap.size:=fun k h=>by have:=hA2 k h;have:=hb2.size;omega
 clear hs c0 hFW hL0 hb0 hb2 hA2 hps
 have hfl:=fun w=>rR (lsP (ftP gs)).1 (lsP (ftP gs)).2 w
 by_cases hz:(lsP (ftP gs)).1=0
 ·rw[hz] at hfl
  have HZ:Hid ((lsP (ftP gs)).1=0):=hz
  have hta:=jo (c:=c) hF2 hA3 hsz hgs
  rw[hz]
  obtain⟨t,ht⟩:∃ t,t=tabG gs:=⟨_,rfl⟩
  have htl:t.length=gs.length:=by rw[ht,aY]
  have htr:∀ row∈t,row.length=t.length:=by rw[ht];exact dE gs
  rw[← ht] at hta
  have HT:Hid (t=tabG gs):=ht
  have HTR:Hid (∀ row∈t,row.length=t.length):=htr
  clear hz hF2 hA3 hsz ht htr
  go_wp2_with fail
  refine hta.mono ?_
  clear hfl
  rintro e w3 ⟨⟨vt,rfl,hT3⟩,hb3⟩
  obtain⟨at_,tc,hvt⟩:=hT3.len
  subst hvt
  rw[htl] at hT3 ⊢
  have hB3:=Below.thn hB2 hb3
  have hO0:dF w3 w3.heap.size (.slice none 0 0) ((ctT t).take 0):=dF.nil _ _
  clear hta c2 hL2 hB2 hb3
  obtain⟨n,hn⟩:∃ n,n=gs.length:=⟨_,rfl⟩
  have HN:Hid (n=gs.length):=hn
  rw[← hn] at hgs htl hT3 ⊢
  clear hn
  have hcl:(ctT t).length=n:=by unfold ctT;rw[List.length_map,htl]
  have HCL:Hid ((ctT t).length=n):=hcl
  clear hcl
  go_wp2_with fail
  go_loopw [4,6] (fun u v wr=>∃ i:Nat,i≤n∧v=.int .i64 i∧(∃ r k,u=.slice r i k)∧dF wr w3.heap.size u ((ctT t).take i)∧Below w3.heap.size w3 wr) (fun _ v _=>n-(intOf v).toNat)
  case atStart=>exact⟨0,Nat.zero_le _,rfl,⟨_,_,rfl⟩,hO0,Below.refl _ _⟩
  case round=>
   obtain⟨i,hi,rfl,⟨ur,uc,rfl⟩,hO,hbr⟩:=hrel
   clear hO0
   by_cases hlt:i<n
   ·obtain⟨tb,c9,e9,hTW⟩:=hT3.tab (by omega)
    rw[htl] at e9
    obtain⟨rfl,rfl⟩:at_=some ⟨tb,0,none⟩∧tc=c9:=by
     simp only[Value.slice.injEq] at e9
     exact⟨e9.1,e9.2.2⟩
    have he:t[i]?=some (t.getD i []):=by rw[List.getD_eq_getElem?_getD,List.getElem?_eq_getElem (by omega)];rfl
    obtain⟨g,d0,hB⟩:=hTW i _ he
    have hrl:=HTR.out _ (List.mem_of_getElem? he)
    rw[htl] at hrl
    obtain⟨row,hrow⟩:∃ row,row=t.getD i []:=⟨_,rfl⟩
    rw[← hrow] at d0 hB hrl he
    rw[hrl,← hbr.cell (cell_below d0)] at d0
    have hnu:=dO (r:=row) (hB.up hbr) (by omega)
    rw[hrl] at hnu
    have hci:(ctT t)[i]?=some (nums row n):=by
     unfold ctT
     rw[List.getElem?_map,he,Option.map_some,hrl]
    have htk:(ctT t).take (i+1)=(ctT t).take i++[nums row n]:=by rw[List.take_add_one,hci];rfl
    have HTK:Hid ((ctT t).take (i+1)=(ctT t).take i++[nums row n]):=htk
    clear hTW e9 he hB hrow hci htk
    go_wp2_with fail
    refine hnu.mono ?_
    rintro e w6 ⟨⟨v6,rfl,hQ⟩,hb6⟩
    obtain⟨ar,cr,rfl,-⟩:=hQ.rd
    have hO6:=hO.up hb6
    have hB6:=Below.thn hbr hb6
    have hln:((ctT t).take i).length=i:=by rw[List.length_take,HCL.out];omega
    obtain⟨v7,w7,hr7,hO7,hb7,_⟩:=hO6.app (iE hQ (Nat.zero_le _)) hB6.size (by omega)
    rw[← HTK.out] at hO7
    have hB7:Below w3.heap.size w3 w7:=hB6.trans hb7
    have hform:∃ r k,v7=.slice r (i+1) k:=by
     obtain⟨r,k,e⟩:=hO7.len
     rw[List.length_take,HCL.out,Nat.min_eq_left (by omega)] at e
     exact⟨r,k,e⟩
    have HR:Hid (_=_):=hr7
    have HE:Hid (dF w7 w3.heap.size v7 ((ctT t).take (i+1))∧Below w3.heap.size w3 w7):=⟨hO7,hB7⟩
    clear hnu hO hO6 hQ hb6 hB6 hr7 hO7 hb7 hB7 hbr hln d0
    go_wp2_with (at_builtin;refine wpList_append_run rfl _ _ 29 rfl rfl _ _ rfl rfl _ _ (show _=_ from HR.out) ?_)
    go_roundw
    case rel=>exact⟨i+1,by omega,by go_num,hform,HE.out.1,HE.out.2⟩
    case measure=>simp[intOf];omega
   ·obtain rfl:n=i:=by omega
    rw[List.take_of_length_le (by rw[HCL.out];exact Nat.le_refl _)] at hO
    have hws:=hB3.size
    have HFE:Hid (ky w gs (.returned (.tuple #[.slice ur n uc,.int .i64 0])) wr):=by
     refine⟨Below.thn hB3 hbr,.inr ⟨HZ.out,_,rfl,?_⟩⟩
     rw[← HT.out]
     obtain⟨vs,h1,h2⟩:=hO
     exact⟨vs,iE h1 (by omega),h2⟩
    clear hO hbr
    go_wp2_with fail
    exact bodyPost_ret (v:=.tuple #[.slice ur n uc,.int .i64 0]) (by simp[results,Tryz.results12,go_sem]) rfl HFE.out
 ·go_wp2_with fail
  exact bodyPost_ret (v:=.tuple #[.slice none 0 0,.int .i64 3]) (by simp[results,Tryz.results12,go_sem]) rfl ⟨hB2,.inl ⟨hz,rfl⟩⟩
theorem refReach_any (hF:FlW w A ao gs) (hA:∀ k,A k→k<w.heap.size) (hsz:∀ g∈gs,szE g.body≤65536) (hps:∀ g∈gs,g.pms.length≤65536) (hgs:gs.length≤65536) (i:Int) :
  Calls Tryz.prog 15 #[.agg #[.slice ao gs.length c],.int .i64 i] w fun e w'=>kN w gs i e w':=by
 have hb0:=ae w (.cells #[.slice ao gs.length c] 26)
 have hL0:=Bk.new w 26 #[.slice ao gs.length c]
 go_enter Tryz.func15,Tryz.ntmps15
 go_upto_region 1 with fail
 generalize w.alloc (.cells #[.slice ao gs.length c] 26)=W at *
 have hwW:w.heap.size<W.heap.size:=hL0.lt
 have c0:W.cell? ⟨w.heap.size,0,none⟩=some (.slice ao gs.length c):=hL0.cell 0
 have hFW:=hF.up hb0
 have hA2:∀ k,A k→k<W.heap.size:=fun k h=>by have:=hA k h;omega
 have hs:=fP (c:=c) hFW hA2 hsz hps hgs
 clear hF hA
 go_wp2_with fail
 refine hs.mono ?_
 rintro e w2 ⟨rfl,hb2⟩
 have hL2:=hL0.up hb2
 have hF2:=hFW.up hb2
 have hB2:=Below.thn hb0 hb2
 have c2:w2.cell? ⟨w.heap.size,0,none⟩=some (.slice ao gs.length c):=hL2.cell 0
 have hA3:∀ k,A k→k<w2.heap.size:=fun k h=>by have:=hA2 k h;have:=hb2.size;omega
 clear hs c0 hFW hL0 hb0 hb2 hA2 hps
 have hfl:=fun w=>rR (lsP (ftP gs)).1 (lsP (ftP gs)).2 w
 by_cases hz:(lsP (ftP gs)).1=0
 ·rw[hz] at hfl
  have HZ:Hid ((lsP (ftP gs)).1=0):=hz
  have hta:=jo (c:=c) hF2 hA3 hsz hgs
  rw[hz]
  clear hz hF2 hA3 hsz
  by_cases hi0:i<0
  ·clear hta
   go_wp2_with fail
   exact bodyPost_ret (v:=.tuple #[.slice none 0 0,.int .i64 2]) (by simp[results,Tryz.results15,go_sem]) rfl ⟨hB2,.inr (.inl ⟨HZ.out,.inl hi0,rfl⟩)⟩
  ·by_cases hin:(gs.length:Int)≤i
   ·clear hta
    go_wp2_with fail
    exact bodyPost_ret (v:=.tuple #[.slice none 0 0,.int .i64 2]) (by simp[results,Tryz.results15,go_sem]) rfl ⟨hB2,.inr (.inl ⟨HZ.out,.inr hin,rfl⟩)⟩
   ·obtain⟨k,rfl⟩:∃ k:Nat,i=(k:Int):=⟨i.toNat,by omega⟩
    have hk:k<gs.length:=by omega
    obtain⟨t,ht⟩:∃ t,t=tabG gs:=⟨_,rfl⟩
    have htl:t.length=gs.length:=by rw[ht,aY]
    have htr:∀ row∈t,row.length=t.length:=by rw[ht];exact dE gs
    rw[← ht] at hta
    have HT:Hid (t=tabG gs):=ht
    clear ht
    go_wp2_with fail
    refine hta.mono ?_
    clear hfl
    rintro e w3 ⟨⟨vt,rfl,hT3⟩,hb3⟩
    have hB3:=Below.thn hB2 hb3
    obtain⟨tb,tc,rfl,hTW⟩:=hT3.tab (by omega)
    rw[htl] at hT3 ⊢
    have hst:=o9 (tc:=tc) (i:=k) hTW (by omega) htr (by omega)
    rw[htl] at hst
    clear hta c2 hL2 hB2 hb3 hT3
    go_wp2_with fail
    refine hst.mono ?_
    rintro e w4 ⟨b,r,rfl,hbw,hBr,hrl,hrs,hb4⟩
    rw[htl] at hrl ⊢
    have hB4:=Below.thn hB3 hb4
    have hw3:=hB3.size
    rw[HT.out] at hrs
    clear hst hTW hb4 htr
    obtain⟨q,hq⟩:∃ q,r[k]?=some q:=⟨_,List.getElem?_eq_getElem (by omega)⟩
    have d0:w4.cell? ⟨b,k,none⟩=some (.bool q):=by rw[hBr.cell,List.getElem?_map,hq];rfl
    have d1:=hBr.frz k
    have hBs:=hBr.set k (.bool true)
    rw[← List.map_set] at hBs
    have hB5:=hB4.setCell (p:=⟨b,k,none⟩) (by show w.heap.size≤b;omega) (.bool true)
    have hs5:=hB5.size
    have hnu:=dO (r:=r.set k true) hBs (by rw[List.length_set];omega)
    rw[List.length_set,hrl] at hnu
    have HM:Hid (∀ x:Int,x∈nums (r.set k true) gs.length↔Rch (ctT (tabG gs)) [(k:Int)] x):=fun x=>by
     rw[fu,rch_self,← hrs x]
     constructor
     ·rintro ⟨h1,h2,h3⟩
      by_cases e:x.toNat=k
      ·exact .inl (by omega)
      ·rw[List.getElem?_set_ne fun h=>e h.symm] at h3
       exact .inr ⟨h1,h3⟩
     ·rintro (rfl|⟨h1,h2⟩)
      ·exact⟨by omega,by omega,by rw[show ((k:Nat):Int).toNat=k by omega];exact List.getElem?_set_self (by omega)⟩
      ·have hlt:=(List.getElem?_eq_some_iff.1 h2).1
       refine⟨h1,by omega,?_⟩
       by_cases e:x.toNat=k
       ·rw[e];exact List.getElem?_set_self (by omega)
       ·rw[List.getElem?_set_ne fun h=>e h.symm];exact h2
    clear hrs hBr hq hBs
    go_upto_region 7 with fail
    clear d0 d1 hB4
    generalize w4.setCell ⟨b,k,none⟩ (.bool true)=w5 at *
    go_wp2_with fail
    refine hnu.mono ?_
    rintro e w6 ⟨⟨v6,rfl,hQ⟩,hb6⟩
    have HFE:Hid (kN w gs k (.returned (.tuple #[v6,.int .i64 0])) w6):=⟨Below.thn hB5 hb6,.inr (.inr ⟨HZ.out,by omega,by omega,v6,_,rfl,iE hQ (by omega),lc _ _,HM.out⟩)⟩
    clear hnu hQ hb6 hB5
    go_wp2_with fail
    exact bodyPost_ret (v:=.tuple #[v6,.int .i64 0]) (by simp[results,Tryz.results15,go_sem]) rfl HFE.out
 ·go_wp2_with fail
  exact bodyPost_ret (v:=.tuple #[.slice none 0 0,.int .i64 3]) (by simp[results,Tryz.results15,go_sem]) rfl ⟨hB2,.inl ⟨hz,rfl⟩⟩
theorem refAgain_any (hF:FlW w A ao gs) (hA:∀ k,A k→k<w.heap.size) (hsz:∀ g∈gs,szE g.body≤65536) (hps:∀ g∈gs,g.pms.length≤65536) (hgs:gs.length≤65536) (i:Int) :
  Calls Tryz.prog 17 #[.agg #[.slice ao gs.length c],.int .i64 i] w fun e w'=>kD w gs i e w':=by
 have hb0:=ae w (.cells #[.slice ao gs.length c] 26)
 have hL0:=Bk.new w 26 #[.slice ao gs.length c]
 go_enter Tryz.func17,Tryz.ntmps17
 go_upto_region 1 with fail
 generalize w.alloc (.cells #[.slice ao gs.length c] 26)=W at *
 have hwW:w.heap.size<W.heap.size:=hL0.lt
 have c0:W.cell? ⟨w.heap.size,0,none⟩=some (.slice ao gs.length c):=hL0.cell 0
 have hFW:=hF.up hb0
 have hA2:∀ k,A k→k<W.heap.size:=fun k h=>by have:=hA k h;omega
 have hs:=fP (c:=c) hFW hA2 hsz hps hgs
 clear hF hA
 go_wp2_with fail
 refine hs.mono ?_
 rintro e w2 ⟨rfl,hb2⟩
 have hL2:=hL0.up hb2
 have hF2:=hFW.up hb2
 have hB2:=Below.thn hb0 hb2
 have c2:w2.cell? ⟨w.heap.size,0,none⟩=some (.slice ao gs.length c):=hL2.cell 0
 have hA3:∀ k,A k→k<w2.heap.size:=fun k h=>by have:=hA2 k h;have:=hb2.size;omega
 clear hs c0 hFW hL0 hb0 hb2 hA2 hps
 have hfl:=fun w=>rR (lsP (ftP gs)).1 (lsP (ftP gs)).2 w
 by_cases hz:(lsP (ftP gs)).1=0
 ·rw[hz] at hfl
  have HZ:Hid ((lsP (ftP gs)).1=0):=hz
  have hta:=jo (c:=c) hF2 hA3 hsz hgs
  rw[hz]
  clear hz hF2 hA3 hsz
  by_cases hi0:i<0
  ·clear hta
   go_wp2_with fail
   exact bodyPost_ret (v:=.tuple #[.bool false,.int .i64 2]) (by simp[results,Tryz.results17,go_sem]) rfl ⟨hB2,.inr (.inl ⟨HZ.out,.inl hi0,rfl⟩)⟩
  ·by_cases hin:(gs.length:Int)≤i
   ·clear hta
    go_wp2_with fail
    exact bodyPost_ret (v:=.tuple #[.bool false,.int .i64 2]) (by simp[results,Tryz.results17,go_sem]) rfl ⟨hB2,.inr (.inl ⟨HZ.out,.inr hin,rfl⟩)⟩
   ·obtain⟨k,rfl⟩:∃ k:Nat,i=(k:Int):=⟨i.toNat,by omega⟩
    have hk:k<gs.length:=by omega
    obtain⟨t,ht⟩:∃ t,t=tabG gs:=⟨_,rfl⟩
    have htl:t.length=gs.length:=by rw[ht,aY]
    have htr:∀ row∈t,row.length=t.length:=by rw[ht];exact dE gs
    rw[← ht] at hta
    have HT:Hid (t=tabG gs):=ht
    clear ht
    go_wp2_with fail
    refine hta.mono ?_
    clear hfl
    rintro e w3 ⟨⟨vt,rfl,hT3⟩,hb3⟩
    have hB3:=Below.thn hB2 hb3
    obtain⟨tb,tc,rfl,hTW⟩:=hT3.tab (by omega)
    rw[htl] at hT3 ⊢
    have hst:=o9 (tc:=tc) (i:=k) hTW (by omega) htr (by omega)
    rw[htl] at hst
    clear hta c2 hL2 hB2 hb3 hT3
    go_wp2_with fail
    refine hst.mono ?_
    rintro e w4 ⟨b,r,rfl,hbw,hBr,hrl,hrs,hb4⟩
    rw[htl] at hrl ⊢
    have hB4:=Below.thn hB3 hb4
    have hw3:=hB3.size
    rw[HT.out] at hrs
    clear hst hTW hb4 htr
    obtain⟨q,hq⟩:∃ q,r[k]?=some q:=⟨_,List.getElem?_eq_getElem (by omega)⟩
    have d0:w4.cell? ⟨b,k,none⟩=some (.bool q):=by rw[hBr.cell,List.getElem?_map,hq];rfl
    have h1:=hrs (k:Int)
    have HFE:Hid (kD w gs k (.returned (.tuple #[.bool q,.int .i64 0])) w4):=by
     refine⟨hB4,.inr (.inr ⟨HZ.out,by omega,by omega,q,rfl,?_⟩)⟩
     rw[show ((k:Nat):Int).toNat=k by omega] at h1 ⊢
     rw[← h1,hq]
     exact⟨fun h=>⟨by omega,by rw[h]⟩,fun h=>Option.some.inj h.2⟩
    clear hrs h1 hBr hq
    go_wp2_with fail
    exact bodyPost_ret (v:=.tuple #[.bool q,.int .i64 0]) (by simp[results,Tryz.results17,go_sem]) rfl HFE.out
 ·go_wp2_with fail
  exact bodyPost_ret (v:=.tuple #[.bool false,.int .i64 3]) (by simp[results,Tryz.results17,go_sem]) rfl ⟨hB2,.inl ⟨hz,rfl⟩⟩
end
section
variable {w w':World} {A:Nat→Prop} {ao:Option Addr} {gs:List Fn1} {c:Nat} {e:Ending} {a:Int}
theorem refCalls_ok (ho:ja gs) (hF:FlW w A ao gs):Calls Tryz.prog 12 #[.agg #[.slice ao gs.length c]] w fun e w'=>ky w gs e w':=
 refCalls_any (A:=fun b=>A b∧b<w.heap.size) (hF.imp fun b h hl=>⟨h,hl⟩) (fun _ h=>h.2) (fun g hg=>by have:=ho.sz g hg;omega) (fun g hg=>by have:=ho.pms g hg;omega) (by have:=ho.num;omega)
theorem jf (ho:ja gs) (hF:FlW w A ao gs) (i:Int):Calls Tryz.prog 15 #[.agg #[.slice ao gs.length c],.int .i64 i] w fun e w'=>kN w gs i e w':=
 refReach_any (A:=fun b=>A b∧b<w.heap.size) (hF.imp fun b h hl=>⟨h,hl⟩) (fun _ h=>h.2) (fun g hg=>by have:=ho.sz g hg;omega) (fun g hg=>by have:=ho.pms g hg;omega) (by have:=ho.num;omega) i
theorem iU (ho:ja gs) (hF:FlW w A ao gs) (i:Int):Calls Tryz.prog 17 #[.agg #[.slice ao gs.length c],.int .i64 i] w fun e w'=>kD w gs i e w':=
 refAgain_any (A:=fun b=>A b∧b<w.heap.size) (hF.imp fun b h hl=>⟨h,hl⟩) (fun _ h=>h.2) (fun g hg=>by have:=ho.sz g hg;omega) (fun g hg=>by have:=ho.pms g hg;omega) (by have:=ho.num;omega) i
def RchP (gs:List Fn1) (a er:Int) (o:List Int):Prop:=
 ((scP gs).1≠0∧er=3∧o=[])∨((scP gs).1=0∧(a<0∨(gs.length:Int)≤a)∧er=2∧o=[])∨((scP gs).1=0∧0≤a∧a<gs.length∧er=0∧o.Pairwise (·<·)∧∀ x,x∈o↔Rch (csG gs) [a] x)
theorem RchP.one {er er':Int} {o o':List Int} (h:RchP gs a er o) (g:RchP gs a er' o'):er=er'∧o=o':=by
 rcases h with⟨h1,h2,h3⟩|⟨h1,h2,h3,h4⟩|⟨h1,h2,h3,h4,h5,h6⟩
 ·rcases g with⟨g1,g2,g3⟩|⟨g1,_⟩|⟨g1,_⟩
  ·exact⟨by rw[h2,g2],by rw[h3,g3]⟩
  ·exact absurd g1 h1
  ·exact absurd g1 h1
 ·rcases g with⟨g1,_⟩|⟨g1,g2,g3,g4⟩|⟨g1,g2,g3,_⟩
  ·exact absurd h1 g1
  ·exact⟨by rw[h3,g3],by rw[h4,g4]⟩
  ·omega
 ·rcases g with⟨g1,_⟩|⟨g1,g2,_⟩|⟨g1,g2,g3,g4,g5,g6⟩
  ·exact absurd h1 g1
  ·omega
  ·exact⟨by rw[h4,g4],IsNs.one (l:=o) (l':=o') ⟨h5,fun _=>Iff.rfl⟩ ⟨g5,fun _=>Iff.rfl⟩ fun x=>by rw[h6,g6]⟩
theorem jZ (w:World):RdI w 0 (.slice none 0 0) []:=⟨_,_,rfl,fun _=>rfl,.inl rfl⟩
theorem nZ (h:rA w gs a e w'):Below w.heap.size w w'∧∃ v o er,e=.returned (.tuple #[v,.int .i64 er])∧RdI w' 0 v o∧RchP gs a er o:=by
 obtain⟨hb,⟨h1,rfl⟩|⟨h1,h2,rfl⟩|⟨h1,h2,h3,v,o,rfl,hr,hp,hm⟩⟩:=h
 ·exact⟨hb,_,[],3,rfl,jZ _,.inl ⟨h1,rfl,rfl⟩⟩
 ·exact⟨hb,_,[],2,rfl,jZ _,.inr (.inl ⟨h1,h2,rfl,rfl⟩)⟩
 ·exact⟨hb,v,o,0,rfl,hr.mono (Nat.zero_le _),.inr (.inr ⟨h1,h2,h3,rfl,hp,hm⟩)⟩
theorem l8 (hq:scP gs=lsP (ftP gs)) (h:kN w gs a e w'):Below w.heap.size w w'∧∃ v o er,e=.returned (.tuple #[v,.int .i64 er])∧RdI w' 0 v o∧RchP gs a er o:=by
 obtain⟨hb,⟨h1,rfl⟩|⟨h1,h2,rfl⟩|⟨h1,h2,h3,v,o,rfl,hr,hp,hm⟩⟩:=h
 ·exact⟨hb,_,[],3,rfl,jZ _,.inl ⟨by rw[hq];exact h1,rfl,rfl⟩⟩
 ·exact⟨hb,_,[],2,rfl,jZ _,.inr (.inl ⟨by rw[hq];exact h1,h2,rfl,rfl⟩)⟩
 ·have hz:(scP gs).1=0:=by rw[hq];exact h1
  exact⟨hb,v,o,0,rfl,(OwI.rd hr).mono (Nat.zero_le _),.inr (.inr ⟨hz,h2,h3,rfl,hp,fun x=>(hm x).trans (kJ hz (fun _=>Iff.rfl) x).symm⟩)⟩
theorem RchP.len {er:Int} {o:List Int} (h:RchP gs a er o) (hgs:gs.length≤65536):o.length≤gs.length:=by
 rcases h with⟨_,_,rfl⟩|⟨_,_,_,rfl⟩|⟨h1,h2,h3,_,h5,h6⟩
 ·exact Nat.zero_le _
 ·exact Nat.zero_le _
 ·have hcs:=p9 (t:=tabG gs) (by rw[aY];exact hgs) (dE gs)
  have hcl:(ctT (tabG gs)).length=gs.length:=by unfold ctT;rw[List.length_map,aY]
  have hok:∀ x,x∈o→0≤x∧x<gs.length:=fun x hx=>by
   have h7:=(kJ h1 (fun _=>Iff.rfl) x).1 ((h6 x).1 hx)
   have:=Rch.ok hcs (fun y hy=>by rw[List.mem_singleton] at hy;rw[hy,hcl];exact⟨h2,h3⟩) h7
   rwa[hcl] at this
  have hm:∀ k,k<o.length→o.getD k 0∈o:=fun k hk=>by rw[List.getD_eq_getElem?_getD,List.getElem?_eq_getElem hk];exact List.getElem_mem hk
  refine lQ gs.length o.length (fun k=>(o.getD k 0).toNat) (fun k hk=>?_) (fun x y hx hy e=>?_)
  ·have:=hok _ (hm k hk)
   show (o.getD k 0).toNat<gs.length
   omega
  ·have e1:(o.getD x 0).toNat=(o.getD y 0).toNat:=e
   have k1:=hok _ (hm x hx)
   have k2:=hok _ (hm y hy)
   have e2:o.getD x 0=o.getD y 0:=by omega
   rw[List.getD_eq_getElem?_getD,List.getD_eq_getElem?_getD,List.getElem?_eq_getElem hx,List.getElem?_eq_getElem hy] at e2
   have e3:o[x]=o[y]:=e2
   rcases Nat.lt_trichotomy x y with k|k|k
   ·have:=List.pairwise_iff_getElem.1 h5 x y hx hy k;omega
   ·exact k
   ·have:=List.pairwise_iff_getElem.1 h5 y x hy hx k;omega
def AgP (gs:List Fn1) (a er:Int) (q:Bool):Prop:=
 ((scP gs).1≠0∧er=3∧q=false)∨((scP gs).1=0∧(a<0∨(gs.length:Int)≤a)∧er=2∧q=false)∨((scP gs).1=0∧0≤a∧a<gs.length∧er=0∧(q=true↔Rch (csG gs) ((csG gs).getD a.toNat []) a))
theorem AgP.one {er er':Int} {q q':Bool} (h:AgP gs a er q) (g:AgP gs a er' q'):er=er'∧q=q':=by
 rcases h with⟨h1,h2,h3⟩|⟨h1,h2,h3,h4⟩|⟨h1,h2,h3,h4,h5⟩
 ·rcases g with⟨g1,g2,g3⟩|⟨g1,_⟩|⟨g1,_⟩
  ·exact⟨by rw[h2,g2],by rw[h3,g3]⟩
  ·exact absurd g1 h1
  ·exact absurd g1 h1
 ·rcases g with⟨g1,_⟩|⟨g1,g2,g3,g4⟩|⟨g1,g2,g3,_⟩
  ·exact absurd h1 g1
  ·exact⟨by rw[h3,g3],by rw[h4,g4]⟩
  ·omega
 ·rcases g with⟨g1,_⟩|⟨g1,g2,_⟩|⟨g1,g2,g3,g4,g5⟩
  ·exact absurd h1 g1
  ·omega
  ·exact⟨by rw[h4,g4],by rw[Bool.eq_iff_iff,h5,g5]⟩
theorem oL (h:qW w gs a e w'):Below w.heap.size w w'∧∃ q er,e=.returned (.tuple #[.bool q,.int .i64 er])∧AgP gs a er q:=by
 obtain⟨hb,⟨h1,rfl⟩|⟨h1,h2,rfl⟩|⟨h1,h2,h3,q,rfl,hm⟩⟩:=h
 ·exact⟨hb,false,3,rfl,.inl ⟨h1,rfl,rfl⟩⟩
 ·exact⟨hb,false,2,rfl,.inr (.inl ⟨h1,h2,rfl,rfl⟩)⟩
 ·exact⟨hb,q,0,rfl,.inr (.inr ⟨h1,h2,h3,rfl,hm⟩)⟩
theorem l6 (hq:scP gs=lsP (ftP gs)) (h:kD w gs a e w'):Below w.heap.size w w'∧∃ q er,e=.returned (.tuple #[.bool q,.int .i64 er])∧AgP gs a er q:=by
 obtain⟨hb,⟨h1,rfl⟩|⟨h1,h2,rfl⟩|⟨h1,h2,h3,q,rfl,hm⟩⟩:=h
 ·exact⟨hb,false,3,rfl,.inl ⟨by rw[hq];exact h1,rfl,rfl⟩⟩
 ·exact⟨hb,false,2,rfl,.inr (.inl ⟨by rw[hq];exact h1,h2,rfl,rfl⟩)⟩
 ·have hz:(scP gs).1=0:=by rw[hq];exact h1
  exact⟨hb,q,0,rfl,.inr (.inr ⟨hz,h2,h3,rfl,hm.trans (kJ hz (fun x=>rU hz _ x) a).symm⟩)⟩
theorem callsA_P (h:qj w gs e w'):Below w.heap.size w w'∧∃ v ls er,e=.returned (.tuple #[v,.int .i64 er])∧kH w' v ls∧(((scP gs).1≠0∧er=3∧ls=[])∨((scP gs).1=0∧er=0∧ls=ctT (tabG gs))):=by
 obtain⟨hb,⟨h1,rfl⟩|⟨h1,b,rfl,_,hR⟩⟩:=h
 ·exact⟨hb,_,[],3,rfl,jl (dF.nil w' 0),.inl ⟨h1,rfl,rfl⟩⟩
 ·obtain⟨cs,hG,hcl,hcn⟩:=hR.gen rfl
  have h2:=rowsR_gen hG gs.length
  rw[hcl] at h2
  exact⟨hb,_,cs,0,rfl,h2,.inr ⟨h1,rfl,rows_same h1 hcl hcn⟩⟩
theorem rcallsA_P (hq:scP gs=lsP (ftP gs)) (h:ky w gs e w'):Below w.heap.size w w'∧∃ v ls er,e=.returned (.tuple #[v,.int .i64 er])∧kH w' v ls∧(((scP gs).1≠0∧er=3∧ls=[])∨((scP gs).1=0∧er=0∧ls=ctT (tabG gs))):=by
 obtain⟨hb,⟨h1,rfl⟩|⟨h1,v,rfl,hR⟩⟩:=h
 ·exact⟨hb,_,[],3,rfl,jl (dF.nil w' 0),.inl ⟨by rw[hq];exact h1,rfl,rfl⟩⟩
 ·exact⟨hb,v,_,0,rfl,jl hR,.inr ⟨by rw[hq];exact h1,rfl,rfl⟩⟩
end
theorem graphCalls_any (ao:Option Addr) (cap:Nat) (l:List UInt8) (hcap:l.length≤cap) (i:Int) (w:World) (hT:Bd w ao l) :
  Calls Tryz.prog 3 #[.slice ao l.length cap,.int .i64 i] w fun e w'=>e=.returned (.bool true)∧Below w.heap.size w w':=by
 obtain⟨F,hF⟩:∃ F,F=12*(l.length+1)+9:=⟨_,rfl⟩
 have hfu:∀ ms,cut rdN l 0=.ok ms→aS (mf ms) LW5 F [] 0≠.out:=fuel_ok l LW5 F (by omega)
 have HF:Hid (F=12*(l.length+1)+9):=hF
 clear hF
 go_enter Tryz.func3,Tryz.ntmps3
 go_wp2_with fail
 refine (awake8_any w).mono ?_
 rintro e w1 ⟨rfl,hb1⟩
 have m2:=lU ao cap l hcap w1 (hT.up hb1) F hfu
 go_wp2_with fail
 refine m2.mono ?_
 rintro e w2 ⟨hb2,a2,n,c2,b,rfl,hrd⟩
 have hB2:=Below.thn hb1 hb2
 clear m2 hb1 hb2
 have hfk:=rd8_fork hrd
 clear hrd
 by_cases hbn:(b&&decide (n≤60))=true
 ·obtain⟨hbt,hn60⟩:b=true∧n≤60:=by simpa using hbn
  rcases hfk with⟨_,ms,gs,j,hn,hl,hc,hp,hfl⟩|hbf
  ·subst hn
   subst hbt
   have hok:ja gs:=ui hl (by rw[HF.out];exact Nat.le_refl _) hc hp
   have hln:∀ g∈gs,lnF g:=uf hl hc hp
   have HEQ:Hid (scP gs=lsP (ftP gs)):=scP_lsP (places_apart (ji rdN l 0 ms hc) hp)
   have hb3:=ae w2 (.cells #[.slice a2 gs.length c2] 26)
   have hP3:=Bk.new w2 26 #[.slice a2 gs.length c2]
   have hB3:=Below.thn hB2 hb3
   have hf3:=hfl.up hb3
   have hd60:decide (gs.length≤60)=true:=decide_eq_true hn60
   go_upto_region 4 with fail
   generalize hW3:w2.alloc (.cells #[.slice a2 gs.length c2] 26)=W3 at *
   clear hW3 hfl hb3 hp hc hB2 hbn
   have p3:W3.cell? ⟨w2.heap.size,0,none⟩=some (.slice a2 gs.length c2):=hP3.cell 0
   have m4:=calls_ok (c:=c2) hok hln hf3
   go_wp2_with fail
   refine m4.mono ?_
   rintro e w4 h
   obtain⟨hb4,v4,ls,er,rfl,hR4,hQ4⟩:=callsA_P h
   have hB4:=Below.thn hB3 hb4
   have hf4:=hf3.up hb4
   have p4:w4.cell? ⟨w2.heap.size,0,none⟩=some (.slice a2 gs.length c2):=(hP3.up hb4).cell 0
   clear m4 h hf3 hP3 p3 hb4 hB3
   have m5:=refCalls_ok (c:=c2) hok hf4
   go_wp2_with fail
   refine m5.mono ?_
   rintro e w5 h
   obtain⟨hb5,v5,ls5,er5,rfl,hR5,hQ5⟩:=rcallsA_P HEQ.out h
   have heq:er=er5∧ls=ls5:=by
    rcases hQ4 with⟨h1,h2,h3⟩|⟨h1,h2,h3⟩<;>rcases hQ5 with⟨g1,g2,g3⟩|⟨g1,g2,g3⟩
    ·exact⟨by rw[h2,g2],by rw[h3,g3]⟩
    ·exact absurd g1 h1
    ·exact absurd h1 g1
    ·exact⟨by rw[h2,g2],by rw[h3,g3]⟩
   obtain⟨rfl,rfl⟩:=heq
   have hlb:ls.length≤65536∧∀ r,r∈ls→r.length≤65536:=by
    rcases hQ4 with⟨_,_,rfl⟩|⟨_,_,rfl⟩
    ·exact⟨by simp,fun r hr=>by cases hr⟩
    ·exact⟨by unfold ctT;rw[List.length_map,aY];omega,(p9 (by rw[aY];omega) (dE gs)).len⟩
   have hB5:=Below.thn hB4 hb5
   have hf5:=hf4.up hb5
   have p5:w5.cell? ⟨w2.heap.size,0,none⟩=some (.slice a2 gs.length c2):=by rw[hb5.cell (cell_below p4)];exact p4
   have m6:=alikeR_any (hR4.up hb5) hR5 (by have:=hlb.1;omega) (fun r hr=>by have:=hlb.2 r hr;omega)
   rw[decide_eq_true rfl] at m6
   have HOK:Hid (ja gs):=hok
   have HLN:Hid (∀ g∈gs,lnF g):=hln
   clear m5 h hf4 p4 hb5 hB4 hR4 hR5 hQ4 hQ5 hlb hok hln
   go_wp2_with fail
   refine m6.mono ?_
   rintro e w6 ⟨rfl,hb6⟩
   have hB6:=Below.thn hB5 hb6
   have hf6:=hf5.up hb6
   have p6:w6.cell? ⟨w2.heap.size,0,none⟩=some (.slice a2 gs.length c2):=by rw[hb6.cell (cell_below p5)];exact p5
   have her:(er != er)=false:=bne_self_eq_false _
   clear m6 hf5 p5 hb6 hB5
   go_wp2_with fail
   go_loopw [11] (fun kv wr=>∃ z:Int,kv=.int .i64 z∧-1≤z∧z≤gs.length+1∧Below w.heap.size w wr∧FlW wr (fun b=>w1.heap.size≤b) a2 gs∧wr.cell? ⟨w2.heap.size,0,none⟩=some (.slice a2 gs.length c2)) (fun kv _=>((gs.length:Int)+1-intOf kv).toNat)
   case atStart=>exact⟨-1,rfl,by omega,by omega,hB6,hf6,p6⟩
   case round=>
    clear hB6 hf6 p6
    obtain⟨z,rfl,hz1,hz2,hbr,hf,p⟩:=hrel
    by_cases hzn:z≤gs.length
    ·by_cases hz0:z<0
     ·have m1:=jU (c:=c2) HOK.out HLN.out hf i
      go_wp2_with fail
      refine m1.mono ?_
      rintro e x1 h
      obtain⟨hb1,v1,o1,e1,rfl,hr1,hP1⟩:=nZ h
      have hB1:=Below.thn hbr hb1
      have hf1:=hf.up hb1
      have p1:x1.cell? ⟨w2.heap.size,0,none⟩=some (.slice a2 gs.length c2):=by rw[hb1.cell (cell_below p)];exact p
      clear m1 h hf p hb1 hbr
      have m2:=jf (c:=c2) HOK.out hf1 i
      go_wp2_with fail
      refine m2.mono ?_
      rintro e x2 h
      obtain⟨hb2,v2,o2,e2,rfl,hr2,hP2⟩:=l8 HEQ.out h
      obtain⟨rfl,rfl⟩:=hP1.one hP2
      have hB2:=Below.thn hB1 hb2
      have hf2:=hf1.up hb2
      have p2:x2.cell? ⟨w2.heap.size,0,none⟩=some (.slice a2 gs.length c2):=by rw[hb2.cell (cell_below p1)];exact p1
      replace hr1:=hr1.up hb2
      clear m2 h hf1 p1 hb2 hB1 hP2
      have m3:=oM (c:=c2) HOK.out HLN.out hf2 i
      go_wp2_with fail
      refine m3.mono ?_
      rintro e x3 h
      obtain⟨hb3,q3,e3,rfl,hP3⟩:=oL h
      have hB3:=Below.thn hB2 hb3
      have hf3:=hf2.up hb3
      have p3:x3.cell? ⟨w2.heap.size,0,none⟩=some (.slice a2 gs.length c2):=by rw[hb3.cell (cell_below p2)];exact p2
      replace hr1:=hr1.up hb3
      replace hr2:=hr2.up hb3
      clear m3 h hf2 p2 hb3 hB2
      have m4:=iU (c:=c2) HOK.out hf3 i
      go_wp2_with fail
      refine m4.mono ?_
      rintro e x4 h
      obtain⟨hb4,q4,e4,rfl,hP4⟩:=l6 HEQ.out h
      obtain⟨rfl,rfl⟩:=hP3.one hP4
      have hB4:=Below.thn hB3 hb4
      have hf4:=hf3.up hb4
      have p4:x4.cell? ⟨w2.heap.size,0,none⟩=some (.slice a2 gs.length c2):=by rw[hb4.cell (cell_below p3)];exact p3
      have m5:=eQ (hr1.up hb4) (hr2.up hb4) (by have:=hP1.len (by omega);omega)
      rw[decide_eq_true rfl] at m5
      clear m4 h hf3 p3 hb4 hB3 hr1 hr2 hP1 hP3 hP4
      go_wp2_with fail
      refine m5.mono ?_
      rintro e x5 ⟨rfl,hb5⟩
      have hB5:=Below.thn hB4 hb5
      have hf5:=hf4.up hb5
      have p5:x5.cell? ⟨w2.heap.size,0,none⟩=some (.slice a2 gs.length c2):=by rw[hb5.cell (cell_below p4)];exact p4
      have hbb:(q3 != q3)=false:=bne_self_eq_false _
      have hb1:(e1 != e1)=false:=bne_self_eq_false _
      have hb3:(e3 != e3)=false:=bne_self_eq_false _
      clear m5 hf4 p4 hb5 hB4
      go_wp2_with fail
      go_roundw
      case rel=>exact⟨z+1,by go_num,by omega,by omega,hB5,hf5,p5⟩
      case measure=>simp[intOf];omega
     ·have m1:=jU (c:=c2) HOK.out HLN.out hf z
      go_wp2_with fail
      refine m1.mono ?_
      rintro e x1 h
      obtain⟨hb1,v1,o1,e1,rfl,hr1,hP1⟩:=nZ h
      have hB1:=Below.thn hbr hb1
      have hf1:=hf.up hb1
      have p1:x1.cell? ⟨w2.heap.size,0,none⟩=some (.slice a2 gs.length c2):=by rw[hb1.cell (cell_below p)];exact p
      clear m1 h hf p hb1 hbr
      have m2:=jf (c:=c2) HOK.out hf1 z
      go_wp2_with fail
      refine m2.mono ?_
      rintro e x2 h
      obtain⟨hb2,v2,o2,e2,rfl,hr2,hP2⟩:=l8 HEQ.out h
      obtain⟨rfl,rfl⟩:=hP1.one hP2
      have hB2:=Below.thn hB1 hb2
      have hf2:=hf1.up hb2
      have p2:x2.cell? ⟨w2.heap.size,0,none⟩=some (.slice a2 gs.length c2):=by rw[hb2.cell (cell_below p1)];exact p1
      replace hr1:=hr1.up hb2
      clear m2 h hf1 p1 hb2 hB1 hP2
      have m3:=oM (c:=c2) HOK.out HLN.out hf2 z
      go_wp2_with fail
      refine m3.mono ?_
      rintro e x3 h
      obtain⟨hb3,q3,e3,rfl,hP3⟩:=oL h
      have hB3:=Below.thn hB2 hb3
      have hf3:=hf2.up hb3
      have p3:x3.cell? ⟨w2.heap.size,0,none⟩=some (.slice a2 gs.length c2):=by rw[hb3.cell (cell_below p2)];exact p2
      replace hr1:=hr1.up hb3
      replace hr2:=hr2.up hb3
      clear m3 h hf2 p2 hb3 hB2
      have m4:=iU (c:=c2) HOK.out hf3 z
      go_wp2_with fail
      refine m4.mono ?_
      rintro e x4 h
      obtain⟨hb4,q4,e4,rfl,hP4⟩:=l6 HEQ.out h
      obtain⟨rfl,rfl⟩:=hP3.one hP4
      have hB4:=Below.thn hB3 hb4
      have hf4:=hf3.up hb4
      have p4:x4.cell? ⟨w2.heap.size,0,none⟩=some (.slice a2 gs.length c2):=by rw[hb4.cell (cell_below p3)];exact p3
      have m5:=eQ (hr1.up hb4) (hr2.up hb4) (by have:=hP1.len (by omega);omega)
      rw[decide_eq_true rfl] at m5
      clear m4 h hf3 p3 hb4 hB3 hr1 hr2 hP1 hP3 hP4
      go_wp2_with fail
      refine m5.mono ?_
      rintro e x5 ⟨rfl,hb5⟩
      have hB5:=Below.thn hB4 hb5
      have hf5:=hf4.up hb5
      have p5:x5.cell? ⟨w2.heap.size,0,none⟩=some (.slice a2 gs.length c2):=by rw[hb5.cell (cell_below p4)];exact p4
      have hbb:(q3 != q3)=false:=bne_self_eq_false _
      have hb1:(e1 != e1)=false:=bne_self_eq_false _
      have hb3:(e3 != e3)=false:=bne_self_eq_false _
      clear m5 hf4 p4 hb5 hB4
      go_wp2_with fail
      go_roundw
      case rel=>exact⟨z+1,by go_num,by omega,by omega,hB5,hf5,p5⟩
      case measure=>simp[intOf];omega
    ·go_wp2_with fail
     go_ret
     exact⟨rfl,hbr⟩
  ·rw[hbf] at hbt;cases hbt
 ·have hbf:(b&&decide (n≤60))=false:=by simpa using hbn
  rw[hbf]
  clear hbn hfk hbf
  go_wp2_with fail
  go_ret
  exact⟨rfl,Below.thn hB2 (ae w2 _)⟩
theorem kV {xs:List Int} {k:Nat} (hk:k<xs.length):xs.getD k 0∈xs:=by rw[List.getD_eq_getElem?_getD,List.getElem?_eq_getElem hk];exact List.getElem_mem hk
theorem nQ {xs:List Int} {x:Int} (h:x∈xs):∃ k,k<xs.length∧xs.getD k 0=x:=by
 obtain⟨k,hk,e⟩:=List.getElem_of_mem h
 exact⟨k,hk,by rw[List.getD_eq_getElem?_getD,List.getElem?_eq_getElem hk];exact e⟩
end Gw
end Go.Proofs.YtimoappbefindaaGreat
