/-
  14 texts in one: what each proves stands at its head.
-/
import Derived.Test.YtimoappbefindaaGreatUgb
import Derived.Test.YtimoappbefindaaGreatUgg
import Derived.Test.YtimoappbefindaaGreatUgj
import Derived.Deep.RegionWith
import Derived.Test.YtimoappbefindaaGreatUt
import Derived.Lib.SlBytesConst
import Derived.Test.YtimoappbefindaaGreatUe
import Derived.Test.YtimoappbefindaaGreatUr
import Derived.Deep.DeepCutAuto
import Derived.BigQuiet
import Derived.Test.YtimoappbefindaaGreatUjb
namespace Go.Proofs.YtimoappbefindaaGreat
set_option maxHeartbeats 16000000
open Go.RowKit
set_option maxRecDepth 100000
namespace Gw
open Tj
theorem csW_of {w:World} {b:Nat} {cs:List (List Int)} (h:kL w b cs):CsW w b w.heap.size cs:=by
 obtain⟨vs,h1,h2,h3⟩:=h
 refine⟨h1.lt,fun v hv=>?_⟩
 have he:cs[v]?=some (cs.getD v []):=by rw[List.getD_eq_getElem?_getD,List.getElem?_eq_getElem hv];rfl
 obtain⟨ao,c,e,_,hr⟩:=h3 v _ he
 refine⟨ao,c,?_,?_⟩
 ·rw[h1.cell,List.getElem?_eq_getElem (by omega),← e,List.getD_eq_getElem?_getD,List.getElem?_eq_getElem (by omega)]
  rfl
 ·rcases hr with hr|⟨g,e1,_,hl,hc⟩
  ·exact .inl hr
  ·refine .inr ⟨g,e1,hl,fun t ht=>hc t _ ?_⟩
   rw[List.getElem?_eq_getElem ht,List.getD_eq_getElem?_getD (l:=cs.getD v []),List.getElem?_eq_getElem ht]
   rfl
theorem csx_of {cs:List (List Int)} (h:CsOk cs) (hn:cs.length≤65536):Csx cs cs.length:=⟨rfl,by omega,fun v _ x hx=>(h.at v).1 x hx,fun v _=>by have:=(h.at v).2;omega⟩
theorem adjOf_mem {cs cs':List (List Int)} (h:∀ (j:Nat) x,x∈cs.getD j []↔x∈cs'.getD j []) (v x:Nat):x∈aD cs v↔x∈aD cs' v:=by
 unfold aD
 simp only[List.mem_map]
 exact⟨fun ⟨y,h1,h2⟩=>⟨y,(h v y).1 h1,h2⟩,fun ⟨y,h1,h2⟩=>⟨y,(h v y).2 h1,h2⟩⟩
theorem gz {adj adj':Nat→List Nat} (ha:∀ v x,x∈adj v↔x∈adj' v) {a b:Nat} (h:Star adj a b):Star adj' a b:=by
 induction h with
 |refl=>exact .refl
 |on _ hc ih=>exact .on ih ((ha _ _).1 hc)
theorem Lst.mem {adj adj':Nat→List Nat} {n:Nat} {lst:Nat→Nat} (ha:∀ v x,x∈adj v↔x∈adj' v) (h:Lst adj n lst):Lst adj' n lst:=
 ⟨fun v hv=>⟨gz ha (h.sc v hv).1,gz ha (h.sc v hv).2⟩,fun v u hv hs=>h.le v u hv ⟨gz (fun v x=>(ha v x).symm) hs.1,gz (fun v x=>(ha v x).symm) hs.2⟩⟩
def kP (w:World) (gs:List Fn1) (e:Ending) (w':World):Prop:=
 Below w.heap.size w w'∧((scP gs).1≠0∧e=.returned (.tuple #[.slice none 0 0,.int .i64 3]) ∨
  (scP gs).1=0∧∃ vg out Zg Ws S T kw Z V lst es,e=.returned (.tuple #[vg,.int .i64 0])∧Lst (aD (csG gs)) gs.length lst∧Od.Fin (aD (csG gs)) lst gs.length out∧w.heap.size≤Zg∧w.heap.size≤Z∧w'.ownsRow Zg 36 1 vg (out.map (V 0)).length (out.map (V 0))∧Lw w' S T kw Z gs.length V (lR lst gs.length es) Ws∧LwB S T kw gs.length V Zg)
section
variable {w:World} {A:Nat→Prop} {ao:Option Addr} {gs:List Fn1} {c:Nat}
theorem groups_any (hF:FlW w A ao gs) (hA:∀ k,A k→k<w.heap.size) (hln:∀ g∈gs,lnF g) (hsz:∀ g∈gs,szE g.body≤65536) (hps:∀ g∈gs,g.pms.length≤65536) (hgs:gs.length≤65536) :
  Calls Tryz.prog 19 #[.agg #[.slice ao gs.length c]] w fun e w'=>kP w gs e w':=by
 have hb0:=ae w (.cells #[.slice ao gs.length c] 26)
 have hL0:=Bk.new w 26 #[.slice ao gs.length c]
 go_enter Tryz.func19,Tryz.ntmps19
 go_upto_region 1 with fail
 generalize w.alloc (.cells #[.slice ao gs.length c] 26)=W at *
 have hwW:w.heap.size<W.heap.size:=hL0.lt
 have c0:W.cell? ⟨w.heap.size,0,none⟩=some (.slice ao gs.length c):=hL0.cell 0
 have hFW:=hF.up hb0
 have hs:=eO (c:=c) hFW (fun k h=>by have:=hA k h;omega) hln hsz hps hgs
 go_wp2_with fail
 refine hs.mono ?_
 rintro e w2 ⟨hb2,h⟩
 have hB2:=Below.thn hb0 hb2
 clear hs c0 hFW hL0 hb0 hb2
 rcases h with⟨hz,rfl⟩|⟨hz,b,rfl,hb,hR⟩
 ·go_wp2_with fail
  exact bodyPost_ret (v:=.tuple #[.slice none 0 0,.int .i64 3]) (by simp[results,Tryz.results19,go_sem]) rfl ⟨hB2,.inl ⟨hz,rfl⟩⟩
 ·obtain⟨cs,hG,hcl,hcn⟩:=hR.gen rfl
  have hok:=rows_ok hcl hcn hsz
  have hmem:=jw hcl hcn
  have hC2:=csW_of hG
  have hX:=csx_of hok (by omega)
  rw[hcl] at hX
  have hle:=least_any w2 b gs.length gs.length cs hC2 hX (Nat.le_refl _)
  have HME:Hid (∀ (j:Nat) x,x∈cs.getD j []↔x∈(csG gs).getD j []):=hmem
  have HX:Hid (Csx cs gs.length):=hX
  have HM:Hid (∀ v,(aD cs v).length≤65536):=fun v=>by rw[eF];exact (hok.at v).2
  have HC:Hid (CsW w2 b w2.heap.size cs):=hC2
  clear hR hG hok hcn hmem hX hC2 hF hA hln hsz hps
  go_wp2_with fail
  refine hle.mono ?_
  rintro e w3 ⟨kl,Ll,rfl,hkl,hBi,hLl,hLs,hb3⟩
  have hlst:Lst (aD cs) gs.length (fn Ll):=⟨fun v hv=>(hLs v hv).2.1,fun v u hv hs=>(hLs v hv).2.2 u hs⟩
  have hpl:∀ v,v<gs.length→0≤Ll.getD v 0∧Ll.getD v 0<gs.length:=fun v hv=>by
   have h1:=hlst.lt hv
   have h2:=(hLs v hv).1
   unfold fn at h1
   omega
  have hC3:=HC.out.low hb3
  have hC3':CsW w3 b w3.heap.size cs:=by
   refine⟨Nat.lt_of_lt_of_le hC3.lo hb3.size,fun v hv=>?_⟩
   obtain⟨ro,rc,h1,h2⟩:=hC3.row v hv
   exact⟨ro,rc,h1,h2.imp id fun ⟨g,e,hg,hc⟩=>⟨g,e,Nat.lt_of_lt_of_le hg hb3.size,hc⟩⟩
  have hln:=leanings_any w3 b gs.length gs.length kl cs Ll hC3' HX.out (Nat.le_refl _) hBi hLl hpl
  have hB3:=Below.thn hB2 hb3
  have HL:Hid (Lst (aD cs) gs.length (fn Ll)):=hlst
  clear hle hlst hpl hC3 hC3' hLs hBi hb3 HC
  go_wp2_with fail
  refine hln.mono ?_
  rintro e w4 ⟨S,T,kw,Z,V,rfl,hZ,hW,hb4⟩
  have hm:=HM.out
  have hes:(Od.edges (aD cs) (fn Ll) gs.length).length≤100000000000:=by
   have h1:=oq (lst:=fn Ll) hm gs.length 0
   rw[lv] at h1
   exact Nat.le_trans h1 (Nat.le_trans (Nat.mul_le_mul_right _ (show gs.length+1≤65537 by omega)) (by decide))
  have hod:=order_any w4 S kw Z gs.length T V (aD cs) (fn Ll) hW HL.out.idem (by omega) hes
  have hB4:=Below.thn hB3 hb4
  have hZ2:=hB3.size
  clear hln hm hes hW hb4
  go_wp2_with fail
  refine hod.mono ?_
  rintro e w5 ⟨vg,out,Zg,Ws,rfl,hFi,hZg,hOw,hW5,hBd,hb5⟩
  have hB5:=hB4.trans (hb5.mono (by omega))
  have hZ3:=hB4.size
  clear hod
  have hmm:=adjOf_mem HME.out
  have hfin:=nz (lst':=fn Ll) (adj':=aD (csG gs)) (fun v x _=>hmm v x) HX.out.adj (fun _ _=>rfl) hFi
  have HE:Hid (kP w gs (.returned (.tuple #[vg,.int .i64 0])) w5):=⟨hB5,.inr ⟨hz,vg,out,Zg,Ws,_,T,kw,Z,V,fn Ll,_,rfl,HL.out.mem hmm,hfin,by omega,by omega,hOw,hW5,hBd⟩⟩
  clear hOw hW5 hBd hfin hFi hmm hb5 hB5
  go_wp2_with fail
  exact bodyPost_ret (v:=.tuple #[vg,.int .i64 0]) (by simp[results,Tryz.results19,go_sem]) rfl HE.out
end
def gU (w:World) (B:Nat) (v:Value) (ls:List (List Int)):Prop:=∃ vs:List Value,w.ownsRow B 36 1 v vs.length vs∧vs.length=ls.length∧∀ (j:Nat) (l:List Int),ls[j]?=some l→∃ u,vs[j]?=some u∧OwI w 0 u l
theorem own_base {w:World} {B B' n:Nat} {T:TypeId} {v:Value} {xs:List Value} (h:w.ownsRow B T 1 v n xs) (hb:B'≤B):w.ownsRow B' T 1 v n xs:=⟨h.1,h.2.imp id fun ⟨g,c,cur,e1,e2,e3⟩=>⟨g,c,cur,e1,Nat.le_trans hb e2,e3⟩⟩
section
variable {w w':World} {B:Nat} {v:Value} {ls:List (List Int)}
theorem gU.nil (w:World) (B:Nat):gU w B (.slice none 0 0) []:=⟨[],⟨rfl,.inl ⟨rfl,rfl⟩⟩,rfl,fun j row h=>by simp at h⟩
theorem gU.up (h:gU w B v ls) (hb:Below w.heap.size w w'):gU w' B v ls:=by
 obtain⟨vs,h1,h2,h3⟩:=h
 refine⟨vs,aX h1 hb,h2,fun j row hj=>?_⟩
 obtain⟨u,e,hg⟩:=h3 j row hj
 exact⟨u,e,aX hg hb⟩
theorem gU.len (h:gU w B v ls):∃ ao c,v=.slice ao ls.length c:=by
 obtain⟨vs,h1,h2,_⟩:=h
 obtain⟨r,c,e⟩:=dY h1
 rw[h2] at e
 exact⟨r,c,e⟩
end
def adjT (t:List (List Bool)) (v:Nat):List Nat:=(List.range t.length).filter fun k=>tt t v k
theorem fw {t:List (List Bool)} {v k:Nat}:k∈adjT t v↔k<t.length∧tt t v k=true:=by
 unfold adjT
 rw[List.mem_filter,List.mem_range]
section
variable {t:List (List Bool)}
theorem ctT_mem (hrow:∀ row∈t,row.length=t.length) (j:Nat) (x:Int):x∈(ctT t).getD j []↔∃ y:Nat,x=(y:Int)∧y∈adjT t j:=by
 by_cases hj:j<t.length
 ·have he:t[j]?=some (t.getD j []):=by rw[List.getD_eq_getElem?_getD,List.getElem?_eq_getElem hj];rfl
  have hl:=hrow _ (List.mem_of_getElem? he)
  rw[ctT_at he,fu,hl]
  constructor
  ·rintro ⟨h1,h2,h3⟩
   refine⟨x.toNat,by omega,fw.2 ⟨by omega,?_⟩⟩
   unfold tt
   rw[List.getD_eq_getElem?_getD (l:=t.getD j []),h3]
   rfl
  ·rintro ⟨y,rfl,hy⟩
   obtain⟨h1,h2⟩:=fw.1 hy
   refine⟨by omega,by omega,?_⟩
   unfold tt at h2
   rw[List.getD_eq_getElem?_getD (l:=t.getD j []),List.getElem?_eq_getElem (by omega)] at h2
   rw[show ((y:Nat):Int).toNat=y from by omega,List.getElem?_eq_getElem (by omega)]
   exact congrArg some h2
 ·have h1:(ctT t).getD j []=[]:=by
   rw[List.getD_eq_getElem?_getD,List.getElem?_eq_none (by unfold ctT;rw[List.length_map];omega)]
   rfl
  rw[h1]
  constructor
  ·intro h;cases h
  ·rintro ⟨y,_,hy⟩
   have:=(fw.1 hy).2
   unfold tt at this
   rw[List.getD_eq_getElem?_getD (l:=t),List.getElem?_eq_none (by omega)] at this
   simp at this
end
section
variable {adj:Nat→List Nat} {n:Nat} {F:List (List Bool)} {lst:Nat→Nat}
end
theorem gM (y a why at_:Int) (h:why≠0):(dn y a why at_).1≠0:=by
 unfold dn
 split
 ·exact h
 ·next k=>exact fun e=>k (.inl e)
theorem see_zero {pf:List UInt8→Option Nat} {cn:List UInt8→Nat} {op:Int} {name:List UInt8} {n:Nat} {at_:Int} {p:Int × Int} (h:(seeP pf cn op name n at_ p).1=0):p.1=0∧(op=7→∃ k,pf name=some k):=by
 have key:∀ q:Int × Int,(if op=7 then ic pf name n q at_ else q).1=0→q.1=0∧(op=7→∃ k,pf name=some k):=fun q hq=>by
  by_cases e:op=7
  ·rw[if_pos e] at hq
   unfold ic at hq
   cases hp:pf name with
   |none=>
    rw[hp] at hq
    exact absurd hq (gM _ _ _ _ (by decide))
   |some k=>
    rw[hp] at hq
    simp only at hq
    by_cases e2:k=n
    ·rw[if_pos e2] at hq
     exact⟨hq,fun _=>⟨k,rfl⟩⟩
    ·rw[if_neg e2] at hq
     exact absurd hq (gM _ _ _ _ (by decide))
  ·rw[if_neg e] at hq
   exact⟨hq,fun k=>absurd k e⟩
 obtain⟨h1,h2⟩:=key _ h
 refine⟨?_,h2⟩
 by_cases e:op=6∧cn name=0
 ·rw[if_pos e] at h1
  exact absurd h1 (gM _ _ _ _ (by decide))
 ·rw[if_neg e] at h1
  exact h1
mutual
theorem lm {pf:List UInt8→Option Nat}:∀ (x:Ex) (env:List (List UInt8)) (p:Int × Int),(wkE pf env x p).1=0→p.1=0∧∀ s,s∈ncE x→∃ k,pf s=some k
 |.mk op name tail ty a b xs i,env,p,h=>by
  rw[pq] at h
  obtain⟨h1,h2⟩:=lH xs env op name tail 0 _ h
  obtain⟨h3,h4⟩:=see_zero h1
  refine⟨h3,fun s hs=>?_⟩
  rw[ou,List.mem_append] at hs
  rcases hs with hs|hs
  ·by_cases e:op=7
   ·rw[if_pos e,List.mem_singleton] at hs
    rw[hs]
    exact h4 e
   ·rw[if_neg e] at hs;cases hs
  ·exact h2 s hs
theorem lH {pf:List UInt8→Option Nat}:∀ (xs:List Ex) (env:List (List UInt8)) (op:Int) (name tail:List UInt8) (i:Nat) (p:Int × Int),(wkL pf env op name tail i xs p).1=0→p.1=0∧∀ s,s∈ncL xs→∃ k,pf s=some k
 |[],env,op,name,tail,i,p,h=>by
  rw[kY] at h
  exact⟨h,fun s hs=>by rw[kQ] at hs;cases hs⟩
 |x::xs,env,op,name,tail,i,p,h=>by
  rw[gm] at h
  obtain⟨h1,h2⟩:=lH xs env op name tail (i+1) _ h
  obtain⟨h3,h4⟩:=lm x _ p h1
  refine⟨h3,fun s hs=>?_⟩
  rw[iP,List.mem_append] at hs
  rcases hs with hs|hs
  ·exact h4 s hs
  ·exact h2 s hs
end
theorem mr:∀ (xs:List Pm) (env:List (List UInt8)) (p:Int × Int),(prmL env xs p).1=0→p.1=0
 |[],env,p,h=>h
 |x::xs,env,p,h=>by
  have h1:=mr xs (env++[x.name]) (if 0<env.count x.name then dn p.1 p.2 30 x.pos else p) h
  by_cases e:0<env.count x.name
  ·rw[if_pos e] at h1
   exact absurd h1 (gM _ _ _ _ (by decide))
  ·rw[if_neg e] at h1
   exact h1
theorem win_zero {pf:List UInt8→Option Nat}:∀ (gs:List Fn1) (p:Int × Int),(winL pf gs p).1=0→p.1=0∧∀ g,g∈gs→∀ s,s∈ncE g.body→∃ k,pf s=some k
 |[],p,h=>⟨h,fun g hg=>by cases hg⟩
 |g::gs,p,h=>by
  have h0:(winL pf gs (winP pf g p)).1=0:=h
  obtain⟨h1,h2⟩:=win_zero gs (winP pf g p) h0
  unfold winP at h1
  obtain⟨h3,h4⟩:=lm _ _ _ h1
  refine⟨mr _ _ _ h3,fun g' hg=>?_⟩
  rcases List.mem_cons.1 hg with rfl|hg
  ·exact h4
  ·exact h2 g' hg
theorem mi:∀ (gs:List Fn1) (q:(List UInt8→Option Nat) × (Int × Int)),(dfnL gs q).2.1=0→q.2.1=0∧(gs.map (·.name)).Nodup∧(∀ g,g∈gs→q.1 g.name=none)∧∀ s k,(dfnL gs q).1 s=some k→q.1 s=some k∨∃ g,g∈gs∧g.name=s
 |[],q,h=>⟨h,List.nodup_nil,fun g hg=>(by cases hg),fun s k hk=>.inl hk⟩
 |g::gs,q,h=>by
  have h0:(dfnL gs (dfnP g q)).2.1=0:=h
  obtain⟨h1,h2,h3,h4⟩:=mi gs (dfnP g q) h0
  cases e:q.1 g.name with
  |some k=>
   unfold dfnP at h1
   rw[e] at h1
   exact absurd h1 (gM _ _ _ _ (by decide))
  |none=>
   have ed:dfnP g q=(putN q.1 g.name g.pms.length,q.2):=by unfold dfnP;rw[e]
   rw[ed] at h1 h3 h4
   refine⟨h1,?_,fun g' hg=>?_,fun s k hk=>?_⟩
   ·rw[List.map_cons,List.nodup_cons]
    refine⟨fun hm=>?_,h2⟩
    obtain⟨g',hg',e2⟩:=List.mem_map.1 hm
    have h5:=h3 g' hg'
    unfold putN at h5
    simp only at h5
    rw[if_pos e2] at h5
    cases h5
   ·rcases List.mem_cons.1 hg with rfl|hg
    ·exact e
    ·have h5:=h3 g' hg
     unfold putN at h5
     simp only at h5
     by_cases e2:g'.name=g.name
     ·rw[if_pos e2] at h5;cases h5
     ·rw[if_neg e2] at h5;exact h5
   ·have hk2:(dfnL gs (putN q.1 g.name g.pms.length,q.2)).1 s=some k:=by rw[← ed];exact hk
    rcases h4 s k hk2 with h5|⟨g',hg',e2⟩
    ·unfold putN at h5
     simp only at h5
     by_cases e2:s=g.name
     ·exact .inr ⟨g,List.mem_cons_self,e2.symm⟩
     ·rw[if_neg e2] at h5;exact .inl h5
    ·exact .inr ⟨g',List.mem_cons_of_mem _ hg',e2⟩
theorem scP_names {gs:List Fn1} (h:(scP gs).1=0):(gs.map (·.name)).Nodup∧∀ g,g∈gs→∀ s,s∈ncE g.body→∃ g',g'∈gs∧g'.name=s:=by
 unfold scP at h
 obtain⟨h1,h2⟩:=win_zero gs _ h
 obtain⟨_,h3,_,h4⟩:=mi gs _ h1
 refine⟨h3,fun g hg s hs=>?_⟩
 obtain⟨k,hk⟩:=h2 g hg s hs
 rcases h4 s k hk with h5|h5
 ·cases h5
 ·exact h5
theorem l9 (gs:List Fn1) (s:List UInt8):∀ m,(∃ k,k<m∧(gs.getD k fd).name=s)→∃ i:Nat,knK gs m s=some (i:Int)∧i<m∧(gs.getD i fd).name=s
 |0,h=>by obtain⟨k,hk,_⟩:=h;omega
 |m+1,h=>by
  unfold knK
  by_cases e:s=(gs.getD m fd).name
  ·exact⟨m,if_pos e,by omega,e.symm⟩
  ·obtain⟨k,hk,e2⟩:=h
   have hkm:k≠m:=fun e3=>e (by rw[← e2,e3])
   obtain⟨i,h1,h2,h3⟩:=l9 gs s m ⟨k,by omega,e2⟩
   exact⟨i,by rw[if_neg e];exact h1,by omega,h3⟩
section
variable {gs:List Fn1}
theorem names_one (hn:(gs.map (·.name)).Nodup) {a b:Nat} (ha:a<gs.length) (hb:b<gs.length) (e:(gs.getD a fd).name=(gs.getD b fd).name):a=b:=by
 have h1:(gs.map (·.name))[a]'(by rw[List.length_map];exact ha)=(gs.map (·.name))[b]'(by rw[List.length_map];exact hb):=by
  rw[List.getElem_map,List.getElem_map]
  rw[List.getD_eq_getElem?_getD,List.getD_eq_getElem?_getD,List.getElem?_eq_getElem ha,List.getElem?_eq_getElem hb] at e
  exact e
 exact (List.getElem_inj hn).1 h1
theorem nD {v k:Nat} (hv:v<gs.length) (hk:k<gs.length):tt (tabG gs) v k=decide ((gs.getD k fd).name∈ncE (gs.getD v fd).body):=by
 unfold tt tabG
 rw[List.getD_eq_getElem?_getD (l:=gs.map (rowG gs)),List.getElem?_map,List.getElem?_eq_getElem hv]
 show ((rowG gs gs[v]).getD k false)=_
 unfold rowG
 rw[List.getD_eq_getElem?_getD,bl_get _ hk,List.getD_eq_getElem?_getD (l:=gs) (i:=v),List.getElem?_eq_getElem hv]
 rfl
theorem mo (h:(scP gs).1=0) (v x:Nat):x∈aD (csG gs) v↔x∈adjT (tabG gs) v:=by
 obtain⟨hn,hd⟩:=scP_names h
 by_cases hv:v<gs.length
 ·have hgm:gs.getD v fd∈gs:=by rw[List.getD_eq_getElem?_getD,List.getElem?_eq_getElem hv];exact List.getElem_mem hv
  have hall:∀ s,s∈ncE (gs.getD v fd).body→∃ i:Nat,knK gs gs.length s=some (i:Int)∧i<gs.length∧(gs.getD i fd).name=s:=fun s hs=>by
   obtain⟨g',hg',e⟩:=hd _ hgm s hs
   obtain⟨k,hk,e2⟩:=List.getElem_of_mem hg'
   exact l9 gs s gs.length ⟨k,hk,by rw[List.getD_eq_getElem?_getD,List.getElem?_eq_getElem hk];show (gs[k]).name=s;rw[e2,e]⟩
  rw[fw,bP]
  unfold aD
  rw[jZ gs v hv,pE,List.map_map,List.mem_map]
  constructor
  ·rintro ⟨s,hs,e⟩
   obtain⟨i,h1,h2,h3⟩:=hall s hs
   simp only[Function.comp_apply,h1,Option.getD_some] at e
   have:i=x:=by omega
   subst this
   exact⟨h2,by rw[nD hv h2];exact decide_eq_true (by rw[h3];exact hs)⟩
  ·rintro ⟨h1,h2⟩
   rw[nD hv h1] at h2
   have hs:=of_decide_eq_true h2
   obtain⟨i,k1,k2,k3⟩:=hall _ hs
   refine⟨_,hs,?_⟩
   simp only[Function.comp_apply,k1,Option.getD_some]
   have:=names_one hn k2 h1 k3
   omega
 ·constructor
  ·intro hx
   unfold aD at hx
   rw[List.getD_eq_getElem?_getD,List.getElem?_eq_none (by unfold csG;rw[List.length_map];omega)] at hx
   cases hx
  ·intro hx
   have:=(fw.1 hx).2
   unfold tt at this
   rw[List.getD_eq_getElem?_getD (l:=tabG gs),List.getElem?_eq_none (by rw[bP];omega)] at this
   simp at this
end
theorem jK {w:World} {v:Value} {xs:List Int} (h:RdI w 0 v xs):∃ ao c,v=.slice ao xs.length c∧∀ j,j<xs.length→∃ g,ao=some ⟨g,0,none⟩∧w.cell? ⟨g,j,none⟩=some (.int .i64 (xs.getD j 0)):=by
 obtain⟨ao,c,e,_,hr⟩:=h
 refine⟨ao,c,e,fun j hj=>?_⟩
 rcases hr with hr|⟨g,e1,_,_,hc⟩
 ·rw[hr] at hj;simp at hj
 ·exact⟨g,e1,hc j _ (by rw[List.getElem?_eq_getElem hj,List.getD_eq_getElem?_getD,List.getElem?_eq_getElem hj];rfl)⟩
theorem take_same {xs ys:List Int} {k:Nat} (hx:k<xs.length) (hy:k<ys.length):xs.take (k+1)=ys.take (k+1)↔xs.take k=ys.take k∧xs.getD k 0=ys.getD k 0:=by
 rw[List.take_succ_eq_append_getElem hx,List.take_succ_eq_append_getElem hy,List.getD_eq_getElem?_getD,List.getD_eq_getElem?_getD,List.getElem?_eq_getElem hx,List.getElem?_eq_getElem hy]
 constructor
 ·intro h
  have h1:=List.append_inj h (by rw[List.length_take,List.length_take];omega)
  exact⟨h1.1,by simpa using h1.2⟩
 ·rintro ⟨h1,h2⟩
  rw[h1]
  simp only[Option.getD_some] at h2
  rw[h2]
theorem jc {w:World} {v u:Value} {xs ys:List Int} (hx:RdI w 0 v xs) (hy:RdI w 0 u ys) (hl:xs.length≤100000000000) :
  Calls Tryz.prog 18 #[v,u] w fun e w'=>e=.returned (.bool (decide (xs=ys)))∧Below w.heap.size w w':=by
 obtain⟨ao,c,rfl,hcx⟩:=jK hx
 obtain⟨bo,d,rfl,hcy⟩:=jK hy
 have HX:Hid (∀ j,j<xs.length→∃ g,ao=some ⟨g,0,none⟩∧w.cell? ⟨g,j,none⟩=some (.int .i64 (xs.getD j 0))):=hcx
 have HY:Hid (∀ j,j<ys.length→∃ g,bo=some ⟨g,0,none⟩∧w.cell? ⟨g,j,none⟩=some (.int .i64 (ys.getD j 0))):=hcy
 clear hx hy hcx hcy
 obtain⟨r,hr⟩:∃ r,r=decide (xs=ys):=⟨_,rfl⟩
 have HR:Hid (r=decide (xs=ys)):=hr
 rw[← hr]
 clear hr
 obtain⟨n,hn⟩:∃ n,n=xs.length:=⟨_,rfl⟩
 obtain⟨m,hm⟩:∃ m,m=ys.length:=⟨_,rfl⟩
 have HN:Hid (n=xs.length):=hn
 have HM:Hid (m=ys.length):=hm
 rw[← hn] at hl ⊢
 rw[← hm]
 clear hn hm
 by_cases hnm:n=m
 ·subst hnm
  have H0:Hid (xs.take 0=ys.take 0):=by simp[Hid]
  go_enter Tryz.func18,Tryz.ntmps18
  go_wp2_with fail
  go_loopw [5] (fun iv wr=>∃ k:Nat,k≤n∧iv=.int .i64 k∧Below w.heap.size w wr∧Hid (xs.take k=ys.take k)) (fun iv _=>n-(intOf iv).toNat)
  case atStart=>exact⟨0,Nat.zero_le _,rfl,Below.refl _ _,H0⟩
  case round=>
   obtain⟨k,hk,rfl,hb,hs⟩:=hrel
   by_cases hlt:k<n
   ·obtain⟨g1,rfl,a1⟩:=HX.out k (by rw[← HN.out];exact hlt)
    obtain⟨g2,rfl,a2⟩:=HY.out k (by rw[← HM.out];exact hlt)
    rw[← hb.cell (by exact cell_below a1)] at a1
    rw[← hb.cell (by exact cell_below a2)] at a2
    have hts:=take_same (xs:=xs) (ys:=ys) (k:=k) (by rw[← HN.out];exact hlt) (by rw[← HM.out];exact hlt)
    obtain⟨x,hx⟩:∃ x,x=xs.getD k 0:=⟨_,rfl⟩
    obtain⟨y,hy⟩:∃ y,y=ys.getD k 0:=⟨_,rfl⟩
    rw[← hx] at a1 hts
    rw[← hy] at a2 hts
    clear hx hy
    by_cases hxy:x=y
    ·have HT:Hid (xs.take (k+1)=ys.take (k+1)):=hts.2 ⟨hs.out,hxy⟩
     have hd:(x != y)=false:=by rw[hxy];exact bne_self_eq_false _
     clear hts hxy
     go_wp2_with fail
     go_quiet (fail)
     have hb2:=below_drewN hb nq
     go_wp2_with fail
     go_roundw
     case rel=>exact⟨k+1,by omega,by go_num,hb2,HT⟩
     case measure=>simp[intOf];omega
    ·have hrf:r=false:=by
      rw[HR.out]
      refine decide_eq_false fun e=>hxy ?_
      exact (hts.1 (by rw[e])).2
     have hd:(x != y)=true:=by rw[bne_iff_ne];exact hxy
     clear hts
     go_wp2_with fail
     go_quiet (fail)
     have hb2:=below_drewN hb nq
     go_wp2_with fail
     go_ret
     rw[hrf]
     exact⟨rfl,hb2⟩
   ·obtain rfl:k=n:=by omega
    have hrt:r=true:=by
     have h1:=hs.out
     rw[List.take_of_length_le (by rw[← HN.out];exact Nat.le_refl _),List.take_of_length_le (by rw[← HM.out];exact Nat.le_refl _)] at h1
     rw[HR.out]
     exact decide_eq_true h1
    go_wp2_with fail
    go_ret
    rw[hrt]
    exact⟨rfl,hb⟩
 ·have hrf:r=false:=by
   rw[HR.out]
   exact decide_eq_false fun e=>hnm (by rw[HN.out,HM.out,e])
  have hd:((n:Int) != (m:Int))=true:=by rw[bne_iff_ne];omega
  go_enter Tryz.func18,Tryz.ntmps18
  go_wp2_with fail
  go_ret
  rw[hrf]
  exact⟨rfl,Below.refl _ _⟩
theorem lS {w:World} {B:Nat} {v:Value} {ls:List (List Int)} (h:gU w B v ls):∃ ao c,v=.slice ao ls.length c∧∀ j,j<ls.length→∃ g u,ao=some ⟨g,0,none⟩∧w.cell? ⟨g,j,none⟩=some u∧OwI w 0 u (ls.getD j []):=by
 obtain⟨vs,h1,h2,h3⟩:=h
 obtain⟨r,c,e⟩:=dY h1
 rw[h2] at e
 refine⟨r,c,e,fun j hj=>?_⟩
 obtain⟨u,hu,ho⟩:=h3 j _ (show ls[j]?=some (ls.getD j []) by rw[List.getD_eq_getElem?_getD,List.getElem?_eq_getElem hj];rfl)
 rcases id h1.2 with⟨_,h0⟩|⟨g,c2,cur,e2,_⟩
 ·omega
 ·subst e2
  have h4:=World.ownsRow.cellAt h1 j (by omega)
  simp only[Value.slice.injEq] at e
  have e3:=e.1
  subst e3
  exact⟨g,u,rfl,h4.trans hu,ho⟩
theorem qf {l:List UInt8} {ms:List Mk} {f:Nat} {gs:List Fn1} {j:Nat} (hl:l.length≤32768) (hc:cut rdN l 0=.ok ms) (hp:aQ (mf ms) LW5 f [] 0=.ok gs j):∀ g∈gs,lnF g:=
 al_prog (mf ms) LW5 (fun k _=>Nat.le_trans (mf_len hc k) (by omega)) (fun _ _=>trivial) f [] 0 (by simp) gs j hp
def t8:List UInt8:=[97,40,41,58,78,61,98,40,41,59,98,40,41,58,78,61,97,40,41,59,99,40,41,58,78,61,99,40,41,43,97,40,41,59,100,40,41,58,78,61,49,59]
def ms8:List Mk:=match cut rdN t8 0 with|.ok ms=>ms|.bad _=>[]
def g8:List Fn1:=match aQ (mf ms8) LW5 600 [] 0 with|.ok gs _=>gs|_=>[]
theorem cut8:cut rdN t8 0=.ok ms8:=by kernel_rfl
theorem nN:aQ (mf ms8) LW5 600 [] 0=.ok g8 42:=by kernel_rfl
theorem len8:g8.length=4:=by kernel_rfl
theorem sc8:(scP g8).1=0:=by kernel_rfl
theorem cs8:csG g8=[[1],[0],[2,0],[]]:=by kernel_rfl
theorem ok8:jb g8:=p9 (l:=t8) (f:=600) (by decide) (by decide) cut8 nN
theorem ln8:∀ g∈g8,lnF g:=qf (l:=t8) (f:=600) (by decide) cut8 nN
theorem rd8 {B:Nat} {e:Ending} {w':World} (h:rdV t8 600 B e w'):∃ ao c,e=.returned (.tuple #[.agg #[.slice ao 4 c],.bool true])∧FlW w' (fun b=>B≤b) ao g8:=by
 rcases h with⟨ms,gs,j,ao,c,h1,h2,h3,h4,h5⟩|⟨h,_⟩
 ·rw[cut8] at h2
  cases h2
  rw[nN] at h3
  cases h3
  rw[len8] at h4
  exact⟨ao,c,h4,h5⟩
 ·exact absurd ⟨by decide,cut8,nN⟩ (h _ _ _)
def cs80:List (List Int):=[[1],[0],[2,0],[]]
def lst8 (v:Nat):Nat:=[0,0,2,3].getD v 0
theorem oo {adj:Nat→List Nat} {S:Nat→Prop} (hS:∀ v,S v→∀ x,x∈adj v→S x) {a b:Nat} (h:Star adj a b) (ha:S a):S b:=by
 induction h with
 |refl=>exact ha
 |on _ hc ih=>exact hS _ ih _ hc
theorem lt4 {v:Nat} (h:v<4):v=0∨v=1∨v=2∨v=3:=by omega
theorem lstOk:Lst (aD cs80) 4 lst8:=by
 refine⟨fun v hv=>?_,fun v u hv hs=>?_⟩
 ·rcases lt4 hv with rfl|rfl|rfl|rfl
  ·exact Sc.refl _ _
  ·exact⟨Star.one (show (0:Nat)∈aD cs80 1 by decide),Star.one (show (1:Nat)∈aD cs80 0 by decide)⟩
  ·exact Sc.refl _ _
  ·exact Sc.refl _ _
 ·rcases lt4 hv with rfl|rfl|rfl|rfl
  ·exact Nat.zero_le _
  ·exact Nat.zero_le _
  ·have h2:=hs.2
   show 2≤u
   apply Decidable.byContradiction
   intro hu
   have hS:∀ v,(v=0∨v=1)→∀ x,x∈aD cs80 v→(x=0∨x=1):=fun v h x hx=>by
    rcases h with rfl|rfl
    ·have:x∈[1]:=hx
     simp at this;omega
    ·have:x∈[0]:=hx
     simp at this;omega
   have:=oo hS h2 (by omega)
   omega
  ·have h1:=hs.1
   have hS:∀ v,(v=3)→∀ x,x∈aD cs80 v→(x=3):=fun v h x hx=>by
    subst h
    have:x∈([]:List Nat):=hx
    cases this
   have:=oo hS h1 rfl
   show 3≤u
   omega
theorem finOk:Od.Fin (aD cs80) lst8 4 [0,2,3]:=by
 have key:∀ (o:List Nat) (g:Nat),Od.Avail (aD cs80) lst8 4 o g↔g<4∧lst8 g=g∧g ∉ o∧Od.waits (Od.edges (aD cs80) lst8 4) o g=0:=fun o g=>Od.avail_iff
 have hb:∀ (o:List Nat) (m:Nat),(∀ g,g<4→(lst8 g=g∧g ∉ o∧Od.waits (Od.edges (aD cs80) lst8 4) o g=0)→m≤g)→∀ g,Od.Avail (aD cs80) lst8 4 o g→m≤g:=fun o m h g hg=>h g ((key o g).1 hg).1 ((key o g).1 hg).2
 refine⟨fun k hk=>?_,fun g hg=>?_⟩
 ·have:k=0∨k=1∨k=2:=by simp at hk;omega
  rcases this with rfl|rfl|rfl
  ·exact⟨(key _ _).2 (by decide),hb _ _ (by decide)⟩
  ·exact⟨(key _ _).2 (by decide),hb _ _ (by decide)⟩
  ·exact⟨(key _ _).2 (by decide),hb _ _ (by decide)⟩
 ·have h1:=(key _ _).1 hg
  have h2:∀ g,g<4→¬ (lst8 g=g∧g ∉ [0,2,3]∧Od.waits (Od.edges (aD cs80) lst8 4) [0,2,3] g=0):=by decide
  exact h2 g h1.1 h1.2
theorem qj:∀ v,v<4→∀ x,x∈aD cs80 v→x<4:=by
 intro v hv
 rcases lt4 hv with rfl|rfl|rfl|rfl<;>decide
theorem groups8 {lst:Nat→Nat} {out:List Nat} (hl:Lst (aD (csG g8)) 4 lst) (hf:Od.Fin (aD (csG g8)) lst 4 out):out=[0,2,3]∧Gw.grp lst 4 0=[0,1]∧Gw.grp lst 4 2=[2]:=by
 rw[cs8] at hl hf
 have he:=Lst.one (fun v x _=>Iff.rfl) qj hl lstOk
 have hf2:=nz (adj':=aD cs80) (lst':=lst8) (fun v x _=>Iff.rfl) qj he hf
 refine⟨Od.fin_one hf2 finOk,?_,?_⟩
 ·unfold Gw.grp
  rw[List.filter_congr (q:=fun v=>decide (lst8 v=0)) fun v hv=>by rw[he v (List.mem_range.1 hv)]]
  decide
 ·unfold Gw.grp
  rw[List.filter_congr (q:=fun v=>decide (lst8 v=2)) fun v hv=>by rw[he v (List.mem_range.1 hv)]]
  decide
theorem reach8 {o:List Int} (hp:o.Pairwise (·<·)) (hm:∀ x,x∈o↔Rch (csG g8) [2] x):o=[0,1,2]:=by
 rw[cs8] at hm
 refine IsNs.one (l:=o) (l':=[0,1,2]) ⟨hp,fun _=>Iff.rfl⟩ ⟨by decide,fun _=>Iff.rfl⟩ fun x=>?_
 rw[hm]
 constructor
 ·intro h
  induction h with
  |here h=>rw[List.mem_singleton] at h;rw[h];decide
  |on _ hc ih=>
   simp only[List.mem_cons,List.not_mem_nil,or_false] at ih
   rcases ih with rfl|rfl|rfl
   ·rename_i y _
    have:y∈([1]:List Int):=hc
    rw[List.mem_singleton] at this;rw[this];decide
   ·rename_i y _
    have:y∈([0]:List Int):=hc
    rw[List.mem_singleton] at this;rw[this];decide
   ·rename_i y _
    have:y∈([2,0]:List Int):=hc
    simp only[List.mem_cons,List.not_mem_nil,or_false] at this
    rcases this with rfl|rfl<;>decide
 ·intro h
  have h2:Rch [[1],[0],[2,0],[]] [2] 2:=.here (by decide)
  have h0:Rch [[1],[0],[2,0],[]] [2] 0:=.on h2 (by decide)
  have h1:Rch [[1],[0],[2,0],[]] [2] 1:=.on h0 (by decide)
  simp only[List.mem_cons,List.not_mem_nil,or_false] at h
  rcases h with rfl|rfl|rfl
  ·exact h0
  ·exact h1
  ·exact h2
section
variable {w:World} {A:Nat→Prop} {ao:Option Addr} {gs:List Fn1} {c:Nat}
theorem groups_ok (ho:jb gs) (hln:∀ g∈gs,lnF g) (hF:FlW w A ao gs):Calls Tryz.prog 19 #[.agg #[.slice ao gs.length c]] w fun e w'=>kP w gs e w':=
 groups_any (A:=fun b=>A b∧b<w.heap.size) (hF.imp fun b h hl=>⟨h,hl⟩) (fun _ h=>h.2) hln (fun g hg=>by have:=ho.sz g hg;omega) (fun g hg=>by have:=ho.pms g hg;omega) (by have:=ho.num;omega)
theorem jC (ho:jb gs) (hln:∀ g∈gs,lnF g) (hF:FlW w A ao gs) (i:Int):Calls Tryz.prog 14 #[.agg #[.slice ao gs.length c],.int .i64 i] w fun e w'=>nY w gs i e w':=
 reach_any (A:=fun b=>A b∧b<w.heap.size) (hF.imp fun b h hl=>⟨h,hl⟩) (fun _ h=>h.2) hln (fun g hg=>by have:=ho.sz g hg;omega) (fun g hg=>by have:=ho.pms g hg;omega) (by have:=ho.num;omega) i
theorem calls_ok (ho:jb gs) (hln:∀ g∈gs,lnF g) (hF:FlW w A ao gs):Calls Tryz.prog 11 #[.agg #[.slice ao gs.length c]] w fun e w'=>l6 w gs e w':=
 eO (A:=fun b=>A b∧b<w.heap.size) (hF.imp fun b h hl=>⟨h,hl⟩) (fun _ h=>h.2) hln (fun g hg=>by have:=ho.sz g hg;omega) (fun g hg=>by have:=ho.pms g hg;omega) (by have:=ho.num;omega)
end
theorem rowsO_of {w:World} {S kw Z Zg n:Nat} {T:Nat→Nat} {V:Nat→Nat→Value} {lst:Nat→Nat} {es:List (Nat × Nat)} {Ws:List Int} {vg:Value} {out:List Nat} (hW:Lw w S T kw Z n V (lR lst n es) Ws) (ho:w.ownsRow Zg 36 1 vg (out.map (V 0)).length (out.map (V 0))) (hlt:∀ g,g∈out→g<n):gU w Zg vg (out.map fun g=>zs (Gw.grp lst n g)):=by
 refine⟨out.map (V 0),ho,by rw[List.length_map,List.length_map],fun j l hj=>?_⟩
 rw[List.getElem?_map] at hj
 cases hg:out[j]? with
 |none=>rw[hg] at hj;cases hj
 |some g=>
  rw[hg] at hj
  simp only[Option.map_some,Option.some.injEq] at hj
  have h1:=hW.row 0 g (by decide) (hlt g (List.mem_of_getElem? hg))
  rw[show lR lst n es 0 g=zs (Gw.grp lst n g) from rfl,hj] at h1
  exact⟨V 0 g,by rw[List.getElem?_map,hg];rfl,own_base h1 (Nat.zero_le _)⟩
theorem fin_lt {adj:Nat→List Nat} {lst:Nat→Nat} {n:Nat} {out:List Nat} (h:Od.Fin adj lst n out):∀ g,g∈out→g<n:=fun g hg=>by
 obtain⟨k,hk,e⟩:=List.getElem_of_mem hg
 have h1:=(h.1 k hk).1.1
 rw[List.getD_eq_getElem?_getD,List.getElem?_eq_getElem hk] at h1
 rw[← e]
 exact h1
theorem kS {w:World} {xs:List Int}:RdI (w.alloc (.cells (xs.map fun z=>Value.int .i64 z).toArray 3)) 0 (.slice (some ⟨w.heap.size,0,none⟩) xs.length xs.length) xs:=
 ⟨_,_,rfl,(fun e=>by cases e),.inr ⟨w.heap.size,rfl,Nat.zero_le _,by simp,fun j z hj=>by
  have h:=(Bk.new w 3 (xs.map fun z=>Value.int .i64 z).toArray).cell j
  rw[h,List.toList_toArray,List.getElem?_map,hj]
  rfl⟩⟩
theorem awake8_any (w:World) :
  Calls Tryz.prog 9 #[] w fun e w'=>e=.returned (.bool true)∧Below w.heap.size w w':=by
 have hcs:=Lib.run_convert_bytes_const (P:=Tryz.prog) w 22 5 #[.int .u8 97,.int .u8 40,.int .u8 41,.int .u8 58,.int .u8 78,.int .u8 61,.int .u8 98,.int .u8 40,.int .u8 41,.int .u8 59,.int .u8 98,.int .u8 40,.int .u8 41,.int .u8 58,.int .u8 78,.int .u8 61,.int .u8 97,.int .u8 40,.int .u8 41,.int .u8 59,.int .u8 99,.int .u8 40,.int .u8 41,.int .u8 58,.int .u8 78,.int .u8 61,.int .u8 99,.int .u8 40,.int .u8 41,.int .u8 43,.int .u8 97,.int .u8 40,.int .u8 41,.int .u8 59,.int .u8 100,.int .u8 40,.int .u8 41,.int .u8 58,.int .u8 78,.int .u8 61,.int .u8 49,.int .u8 59] 42 42 (by kernel_rfl) (by kernel_rfl)
 have hbd:=Bd.new w t8 5 (42,43)
 have hb1:=ae w (.cells #[.int .u8 97,.int .u8 40,.int .u8 41,.int .u8 58,.int .u8 78,.int .u8 61,.int .u8 98,.int .u8 40,.int .u8 41,.int .u8 59,.int .u8 98,.int .u8 40,.int .u8 41,.int .u8 58,.int .u8 78,.int .u8 61,.int .u8 97,.int .u8 40,.int .u8 41,.int .u8 59,.int .u8 99,.int .u8 40,.int .u8 41,.int .u8 58,.int .u8 78,.int .u8 61,.int .u8 99,.int .u8 40,.int .u8 41,.int .u8 43,.int .u8 97,.int .u8 40,.int .u8 41,.int .u8 59,.int .u8 100,.int .u8 40,.int .u8 41,.int .u8 58,.int .u8 78,.int .u8 61,.int .u8 49,.int .u8 59] 5 (42,43))
 have m1:=jV (some ⟨w.heap.size,0,none⟩) 42 t8 (by decide) _ hbd 600 (fun ms e=>by rw[cut8] at e;cases e;rw[nN];simp)
 go_enter Tryz.func9,Tryz.ntmps9
 go_wp2_with fail
 refine m1.mono ?_
 rintro e w2 ⟨hb2,ao1,n1,c1,b1,rfl,hrd⟩
 obtain⟨ao,c,he,hfl⟩:=rd8 hrd
 simp only[Ending.returned.injEq,Value.tuple.injEq,Array.mk.injEq,List.cons.injEq,Value.agg.injEq,Value.slice.injEq,Value.bool.injEq,and_true] at he
 obtain⟨⟨rfl,rfl,rfl⟩,rfl⟩:=he
 have hB2:=Below.thn hb1 hb2
 clear m1 hcs hbd hrd hb2 hb1
 have hb3:=ae w2 (.cells #[.slice ao1 4 c1] 26)
 have hP3:=Bk.new w2 26 #[.slice ao1 4 c1]
 have hB3:=Below.thn hB2 hb3
 have hf3:=hfl.up hb3
 go_upto_region 2 with fail
 generalize hW:w2.alloc (.cells #[.slice ao1 4 c1] 26)=W3 at *
 clear hW hfl hB2 hb3
 have p0:W3.cell? ⟨w2.heap.size,0,none⟩=some (.slice ao1 4 c1):=hP3.cell 0
 have hg:=groups_ok (c:=c1) ok8 ln8 hf3
 rw[len8] at hg
 go_wp2_with fail
 refine hg.mono ?_
 rintro e w4 ⟨hb4,h⟩
 rcases h with⟨hz,_⟩|⟨_,vg,out,Zg,Ws,S,T,kw,Z,V,lst,es,rfl,hLst,hFin,hZg,hZ,hOw,hLw,hBd⟩
 ·exact absurd sc8 hz
 rw[len8] at hLst hFin hLw
 obtain⟨rfl,hg0,hg2⟩:=groups8 hLst hFin
 have hro:=rowsO_of hLw hOw (fin_lt hFin)
 rw[show [0,2,3].map (fun g=>zs (Gw.grp lst 4 g))=[[0,1],[2],zs (Gw.grp lst 4 3)] from by simp only[List.map_cons,List.map_nil,hg0,hg2];rfl] at hro
 have hB4:=Below.thn hB3 hb4
 have hf4:=hf3.up hb4
 have p1:w4.cell? ⟨w2.heap.size,0,none⟩=some (.slice ao1 4 c1):=(hP3.up hb4).cell 0
 have hrc:=jC (c:=c1) ok8 ln8 hf4 2
 rw[len8] at hrc
 clear hg hLst hFin hOw hLw hBd hg0 hg2 hb4 hf3 hP3 p0 hB3 hZg hZ
 go_wp2_with fail
 refine hrc.mono ?_
 rintro e w5 ⟨hb5,h⟩
 rcases h with⟨hz,_⟩|⟨_,h1,_⟩|⟨_,_,_,vr,o,rfl,hrd,hpw,hmem⟩
 ·exact absurd sc8 hz
 ·rw[len8] at h1;omega
 obtain rfl:=reach8 hpw hmem
 have hro5:=hro.up hb5
 have hB5:=Below.thn hB4 hb5
 obtain⟨ag,cg,rfl,hat⟩:=lS hro5
 obtain⟨gb,u0,rfl,d0,o0⟩:=hat 0 (by simp)
 obtain⟨gb2,u1,e,d1,o1⟩:=hat 1 (by simp)
 obtain rfl:gb=gb2:=by simpa using e
 replace o0:OwI w5 0 u0 [0,1]:=o0
 replace o1:OwI w5 0 u1 [2]:=o1
 clear hrc hpw hmem hro hro5 hat e hb5 hB4 hf4 p1
 have l1:RdI (w5.alloc (.cells #[.int .i64 0,.int .i64 1] 3)) 0 (.slice (some ⟨w5.heap.size,0,none⟩) 2 2) [0,1]:=kS (w:=w5) (xs:=[0,1])
 have hba:=ae w5 (.cells #[.int .i64 0,.int .i64 1] 3)
 have s1:=jc (OwI.rd (aX o0 hba)) l1 (by decide)
 rw[decide_eq_true (rfl:([0,1]:List Int)=[0,1])] at s1
 go_wp2_with fail
 refine s1.mono ?_
 rintro e w6 ⟨rfl,hb6⟩
 have hB6:=Below.thn (Below.thn hB5 hba) hb6
 have hb56:=Below.thn hba hb6
 have e1:w6.cell? ⟨gb,1,none⟩=some u1:=by rw[hb56.cell (cell_below d1)];exact d1
 have o6:=aX o1 hb56
 have r6:=hrd.up hb56
 clear s1 l1 hba d0 d1 o0 o1 hrd hb6 hb56 hB5
 have l2:RdI (w6.alloc (.cells #[.int .i64 2] 3)) 0 (.slice (some ⟨w6.heap.size,0,none⟩) 1 1) [2]:=kS (w:=w6) (xs:=[2])
 have hba:=ae w6 (.cells #[.int .i64 2] 3)
 have s2:=jc (OwI.rd (aX o6 hba)) l2 (by decide)
 rw[decide_eq_true (rfl:([2]:List Int)=[2])] at s2
 go_wp2_with fail
 refine s2.mono ?_
 rintro e w7 ⟨rfl,hb7⟩
 have hB7:=Below.thn (Below.thn hB6 hba) hb7
 have r7:=r6.up (Below.thn hba hb7)
 clear s2 l2 hba e1 o6 r6 hb7 hB6
 have l3:RdI (w7.alloc (.cells #[.int .i64 0,.int .i64 1,.int .i64 2] 3)) 0 (.slice (some ⟨w7.heap.size,0,none⟩) 3 3) [0,1,2]:=kS (w:=w7) (xs:=[0,1,2])
 have hba:=ae w7 (.cells #[.int .i64 0,.int .i64 1,.int .i64 2] 3)
 have s3:=jc ((r7.up hba).mono (Nat.zero_le _)) l3 (by decide)
 rw[decide_eq_true (rfl:([0,1,2]:List Int)=[0,1,2])] at s3
 go_wp2_with fail
 refine s3.mono ?_
 rintro e w8 ⟨rfl,hb8⟩
 have hB8:=Below.thn (Below.thn hB7 hba) hb8
 clear s3 l3 hba r7 hb8 hB7
 go_wp2_with fail
 go_ret
 exact⟨rfl,hB8⟩
theorem rd8_fork {l:List UInt8} {F B:Nat} {ao:Option Addr} {n c:Nat} {b:Bool} {w':World} (h:rdV l F B (.returned (.tuple #[.agg #[.slice ao n c],.bool b])) w') :
  (b=true∧∃ ms gs j,n=gs.length∧l.length≤32768∧cut rdN l 0=.ok ms∧aQ (mf ms) LW5 F [] 0=.ok gs j∧FlW w' (fun b=>B≤b) ao gs)∨b=false:=by
 rcases h with⟨ms,gs,j,a,c',h1,h2,h3,h4,h5⟩|⟨_,h4⟩
 ·simp only[Ending.returned.injEq,Value.tuple.injEq,Array.mk.injEq,List.cons.injEq,Value.agg.injEq,Value.slice.injEq,Value.bool.injEq,and_true] at h4
  obtain⟨⟨rfl,rfl,rfl⟩,rfl⟩:=h4
  exact .inl ⟨rfl,ms,gs,j,rfl,h1,h2,h3,h5⟩
 ·simp only[Ending.returned.injEq,Value.tuple.injEq,Array.mk.injEq,List.cons.injEq,Value.agg.injEq,Value.slice.injEq,Value.bool.injEq,and_true] at h4
  exact .inr h4.2
def pR (w:World) (v:Value) (ls:List (List Int)):Prop:=∃ ao c,v=.slice ao ls.length c∧∀ j,j<ls.length→∃ g u,ao=some ⟨g,0,none⟩∧w.cell? ⟨g,j,none⟩=some u∧RdI w 0 u (ls.getD j [])
theorem rowsR_own {w:World} {B:Nat} {v:Value} {ls:List (List Int)} (h:gU w B v ls):pR w v ls:=by
 obtain⟨ao,c,e,h⟩:=lS h
 refine⟨ao,c,e,fun j hj=>?_⟩
 obtain⟨g,u,e2,h1,h2⟩:=h j hj
 exact⟨g,u,e2,h1,OwI.rd h2⟩
theorem rowsR_gen {w:World} {b:Nat} {cs:List (List Int)} (h:kL w b cs) (c:Nat):pR w (.slice (some ⟨b,0,none⟩) cs.length c) cs:=by
 obtain⟨vs,h1,h2,h3⟩:=h
 refine⟨_,c,rfl,fun j hj=>⟨b,vs.getD j (.slice none 0 0),rfl,?_,h3 j _ (by rw[List.getD_eq_getElem?_getD,List.getElem?_eq_getElem hj];rfl)⟩⟩
 rw[h1.cell,List.getElem?_eq_getElem (by omega),List.getD_eq_getElem?_getD,List.getElem?_eq_getElem (by omega)]
 rfl
section
variable {gs:List Fn1}
theorem oJ (h:(scP gs).1=0) (j:Nat) (x:Int):x∈(csG gs).getD j []↔x∈(ctT (tabG gs)).getD j []:=by
 rw[ctT_mem (fe gs)]
 have hpos:x∈(csG gs).getD j []→0≤x:=fun hx=>by
  by_cases hj:j<gs.length
  ·rw[jZ gs j hj] at hx
   exact (lG (fun s=>nV gs gs.length (by omega) s) _ x hx).1
  ·rw[List.getD_eq_getElem?_getD,List.getElem?_eq_none (by unfold csG;rw[List.length_map];omega)] at hx
   cases hx
 constructor
 ·intro hx
  have h0:=hpos hx
  refine⟨x.toNat,by omega,(mo h j _).1 ?_⟩
  unfold aD
  exact List.mem_map.2 ⟨x,hx,rfl⟩
 ·rintro ⟨y,rfl,hy⟩
  have h1:=(mo h j y).2 hy
  unfold aD at h1
  obtain⟨z,hz,e⟩:=List.mem_map.1 h1
  have:0≤z:=by
   by_cases hj:j<gs.length
   ·have hz2:=hz
    rw[jZ gs j hj] at hz2
    exact (lG (fun s=>nV gs gs.length (by omega) s) _ z hz2).1
   ·rw[List.getD_eq_getElem?_getD,List.getElem?_eq_none (by unfold csG;rw[List.length_map];omega)] at hz
    cases hz
  have:z=(y:Int):=by omega
  rw[← this]
  exact hz
theorem rch_same (h:(scP gs).1=0) {fr fr':List Int} (hf:∀ x,x∈fr↔x∈fr') (x:Int):Rch (csG gs) fr x↔Rch (ctT (tabG gs)) fr' x:=
 ⟨Rch.mem (fun x hx=>(hf x).1 hx) fun j x=>(oJ h j x).1,Rch.mem (fun x hx=>(hf x).2 hx) fun j x=>(oJ h j x).2⟩
theorem lw {cs:List (List Int)} {i:Nat} (x:Int):Rch cs [(i:Int)] x↔x=(i:Int)∨Rch cs (cs.getD i []) x:=by
 constructor
 ·intro h
  induction h with
  |here h=>exact .inl (List.mem_singleton.1 h)
  |on _ hc ih=>
   rcases ih with rfl|ih
   ·rw[show ((i:Nat):Int).toNat=i by omega] at hc
    exact .inr (.here hc)
   ·exact .inr (.on ih hc)
 ·rintro (rfl|h)
  ·exact .here (List.mem_singleton.2 rfl)
  ·induction h with
   |here h=>exact .on (.here (List.mem_singleton.2 rfl)) (by rw[show ((i:Nat):Int).toNat=i by omega];exact h)
   |on _ hc ih=>exact .on ih hc
theorem rows_same (h:(scP gs).1=0) {cs:List (List Int)} (hl:cs.length=gs.length) (hc:∀ (j:Nat) (o:List Int),cs[j]?=some o→IsNs (caE (knK gs gs.length) (gs.getD j fd).body) o):cs=ctT (tabG gs):=by
 have hlt:(ctT (tabG gs)).length=gs.length:=by unfold ctT;rw[List.length_map,bP]
 apply List.ext_getElem
 ·omega
 ·intro j h1 h2
  have hj:j<gs.length:=by omega
  have hjt:j<(tabG gs).length:=by rw[bP];exact hj
  have ho:=hc j _ (List.getElem?_eq_getElem h1)
  have e:(ctT (tabG gs))[j]=nums ((tabG gs)[j]) ((tabG gs)[j]).length:=List.getElem_map (fun row:List Bool=>nums row row.length)
  have hm:=fun x=>oJ h j x
  rw[jZ gs j hj] at hm
  have e2:(ctT (tabG gs)).getD j []=(ctT (tabG gs))[j]:=by rw[List.getD_eq_getElem?_getD,List.getElem?_eq_getElem h2];rfl
  rw[e2] at hm
  refine IsNs.one (l:=caE (knK gs gs.length) (gs.getD j fd).body) (l':=(ctT (tabG gs))[j]) ho ?_ hm
  exact⟨by rw[e];exact kR _ _,fun _=>Iff.rfl⟩
end
section
variable {w:World} {A:Nat→Prop} {ao:Option Addr} {gs:List Fn1} {c:Nat}
end
section
variable {w w':World} {A:Nat→Prop} {ao:Option Addr} {gs:List Fn1} {c:Nat} {e:Ending} {a:Int}
def RchP (gs:List Fn1) (a er:Int) (o:List Int):Prop:=
 ((scP gs).1≠0∧er=3∧o=[])∨((scP gs).1=0∧(a<0∨(gs.length:Int)≤a)∧er=2∧o=[])∨((scP gs).1=0∧0≤a∧a<gs.length∧er=0∧o.Pairwise (·<·)∧∀ x,x∈o↔Rch (csG gs) [a] x)
theorem nQ (w:World):RdI w 0 (.slice none 0 0) []:=⟨_,_,rfl,fun _=>rfl,.inl rfl⟩
theorem l8 (h:nY w gs a e w'):Below w.heap.size w w'∧∃ v o er,e=.returned (.tuple #[v,.int .i64 er])∧RdI w' 0 v o∧RchP gs a er o:=by
 obtain⟨hb,⟨h1,rfl⟩|⟨h1,h2,rfl⟩|⟨h1,h2,h3,v,o,rfl,hr,hp,hm⟩⟩:=h
 ·exact⟨hb,_,[],3,rfl,nQ _,.inl ⟨h1,rfl,rfl⟩⟩
 ·exact⟨hb,_,[],2,rfl,nQ _,.inr (.inl ⟨h1,h2,rfl,rfl⟩)⟩
 ·exact⟨hb,v,o,0,rfl,hr.mono (Nat.zero_le _),.inr (.inr ⟨h1,h2,h3,rfl,hp,hm⟩)⟩
theorem RchP.len {er:Int} {o:List Int} (h:RchP gs a er o) (hgs:gs.length≤65536):o.length≤gs.length:=by
 rcases h with⟨_,_,rfl⟩|⟨_,_,_,rfl⟩|⟨h1,h2,h3,_,h5,h6⟩
 ·exact Nat.zero_le _
 ·exact Nat.zero_le _
 ·have hcs:=oF (t:=tabG gs) (by rw[bP];exact hgs) (fe gs)
  have hcl:(ctT (tabG gs)).length=gs.length:=by unfold ctT;rw[List.length_map,bP]
  have hok:∀ x,x∈o→0≤x∧x<gs.length:=fun x hx=>by
   have h7:=(rch_same h1 (fun _=>Iff.rfl) x).1 ((h6 x).1 hx)
   have:=Rch.ok hcs (fun y hy=>by rw[List.mem_singleton] at hy;rw[hy,hcl];exact⟨h2,h3⟩) h7
   rwa[hcl] at this
  have hm:∀ k,k<o.length→o.getD k 0∈o:=fun k hk=>by rw[List.getD_eq_getElem?_getD,List.getElem?_eq_getElem hk];exact List.getElem_mem hk
  refine kI gs.length o.length (fun k=>(o.getD k 0).toNat) (fun k hk=>?_) (fun x y hx hy e=>?_)
  ·have:=hok _ (hm k hk)
   show (o.getD k 0).toNat<gs.length
   omega
  ·have e1:(o.getD x 0).toNat=(o.getD y 0).toNat:=e
   have k1:=hok _ (hm x hx)
   have k2:=hok _ (hm y hy)
   have e2:o.getD x 0=o.getD y 0:=by omega
   rw[List.getD_eq_getElem?_getD,List.getD_eq_getElem?_getD,List.getElem?_eq_getElem hx,List.getElem?_eq_getElem hy] at e2
   have e3:o[x]=o[y]:=e2
   rcases Nat.lt_trichotomy x y with k|k|k
   ·have:=List.pairwise_iff_getElem.1 h5 x y hx hy k;omega
   ·exact k
   ·have:=List.pairwise_iff_getElem.1 h5 y x hy hx k;omega
theorem callsA_P (h:l6 w gs e w'):Below w.heap.size w w'∧∃ v ls er,e=.returned (.tuple #[v,.int .i64 er])∧pR w' v ls∧(((scP gs).1≠0∧er=3∧ls=[])∨((scP gs).1=0∧er=0∧ls=ctT (tabG gs))):=by
 obtain⟨hb,⟨h1,rfl⟩|⟨h1,b,rfl,_,hR⟩⟩:=h
 ·exact⟨hb,_,[],3,rfl,rowsR_own (gU.nil w' 0),.inl ⟨h1,rfl,rfl⟩⟩
 ·obtain⟨cs,hG,hcl,hcn⟩:=hR.gen rfl
  have h2:=rowsR_gen hG gs.length
  rw[hcl] at h2
  exact⟨hb,_,cs,0,rfl,h2,.inr ⟨h1,rfl,rows_same h1 hcl hcn⟩⟩
end
theorem eP {xs:List Int} {k:Nat} (hk:k<xs.length):xs.getD k 0∈xs:=by rw[List.getD_eq_getElem?_getD,List.getElem?_eq_getElem hk];exact List.getElem_mem hk
theorem gG {xs:List Int} {x:Int} (h:x∈xs):∃ k,k<xs.length∧xs.getD k 0=x:=by
 obtain⟨k,hk,e⟩:=List.getElem_of_mem h
 exact⟨k,hk,by rw[List.getD_eq_getElem?_getD,List.getElem?_eq_getElem hk];exact e⟩
theorem take_mem {ys:List Int} {k:Nat} (hk:k<ys.length) (x:Int):x∈ys.take (k+1)↔x∈ys.take k∨x=ys.getD k 0:=by
 rw[List.take_succ_eq_append_getElem hk,List.mem_append,List.mem_singleton,List.getD_eq_getElem?_getD,List.getElem?_eq_getElem hk]
 rfl
theorem jF {w:World} {v u:Value} {xs ys:List Int} (hx:RdI w 0 v xs) (hy:RdI w 0 u ys) (hl:xs.length≤100000000000) (hl2:ys.length≤100000000000) :
  Calls Tryz.prog 22 #[v,u] w fun e w'=>(∃ b:Bool,Hid (e=.returned (.bool b)∧(b=true↔∀ x,x∈xs→x∈ys)))∧Below w.heap.size w w':=by
 obtain⟨ao,c,rfl,hcx⟩:=jK hx
 obtain⟨bo,d,rfl,hcy⟩:=jK hy
 have HX:Hid (∀ j,j<xs.length→∃ g,ao=some ⟨g,0,none⟩∧w.cell? ⟨g,j,none⟩=some (.int .i64 (xs.getD j 0))):=hcx
 have HY:Hid (∀ j,j<ys.length→∃ g,bo=some ⟨g,0,none⟩∧w.cell? ⟨g,j,none⟩=some (.int .i64 (ys.getD j 0))):=hcy
 clear hx hy hcx hcy
 obtain⟨n,hn⟩:∃ n,n=xs.length:=⟨_,rfl⟩
 obtain⟨m,hm⟩:∃ m,m=ys.length:=⟨_,rfl⟩
 have HN:Hid (n=xs.length):=hn
 have HM:Hid (m=ys.length):=hm
 rw[← hn] at hl ⊢
 rw[← hm] at hl2 ⊢
 clear hn hm
 go_enter Tryz.func22,Tryz.ntmps22
 go_wp2_with fail
 go_loopw [5] (fun iv wr=>∃ i:Nat,i≤n∧iv=.int .i64 i∧Below w.heap.size w wr∧Hid (∀ j,j<i→xs.getD j 0∈ys)) (fun iv _=>n-(intOf iv).toNat)
 case atStart=>exact⟨0,Nat.zero_le _,rfl,Below.refl _ _,fun j h=>absurd h (Nat.not_lt_zero j)⟩
 case round=>
  rename World=>w1
  obtain⟨i,hi,rfl,hb,hs⟩:=hrel
  by_cases hlt:i<n
  ·obtain⟨g1,rfl,a1⟩:=HX.out i (by rw[← HN.out];exact hlt)
   obtain⟨x,hx⟩:∃ x,x=xs.getD i 0:=⟨_,rfl⟩
   have HXX:Hid (x=xs.getD i 0):=hx
   rw[← hx] at a1
   clear hx
   go_wp2_with fail
   go_loopw [6,7] (fun hv kv wr=>∃ (k:Nat) (q:Bool),k≤m∧kv=.int .i64 k∧hv=.bool q∧Below w.heap.size w wr∧Hid (q=true↔x∈ys.take k)) (fun _ kv _=>m-(intOf kv).toNat)
   case atStart=>exact⟨0,false,Nat.zero_le _,rfl,rfl,hb,by simp[Hid]⟩
   case round=>
    rename World=>w2
    obtain⟨k,q,hk,rfl,rfl,hb2,hq⟩:=hrel
    by_cases hkl:k<m
    ·obtain⟨g2,rfl,a2⟩:=HY.out k (by rw[← HM.out];exact hkl)
     have b1:w2.cell? ⟨g1,i,none⟩=some (.int .i64 x):=by rw[hb2.cell (by exact cell_below a1)];exact a1
     rw[← hb2.cell (by exact cell_below a2)] at a2
     have htm:=take_mem (ys:=ys) (k:=k) (by rw[← HM.out];exact hkl) x
     obtain⟨y,hy⟩:∃ y,y=ys.getD k 0:=⟨_,rfl⟩
     rw[← hy] at a2 htm
     have HTM:Hid (x∈ys.take (k+1)↔x∈ys.take k∨x=y):=htm
     clear hy htm
     cases q with
     |true=>
      have HQ:Hid (x∈ys.take (k+1)):=HTM.out.2 (.inl (hq.out.1 rfl))
      clear hq HTM
      go_wp2_with fail
      go_quiet (fail)
      have hb3:=below_drewN hb2 nq
      go_wp2_with fail
      go_roundw
      case rel=>exact⟨k+1,true,by omega,by go_num,rfl,hb3,⟨fun _=>HQ.out,fun _=>rfl⟩⟩
      case measure=>simp[intOf];omega
     |false=>
      by_cases hxy:x=y
      ·have HQ:Hid (x∈ys.take (k+1)):=HTM.out.2 (.inr hxy)
       have hd:(x==y)=true:=by rw[hxy];exact beq_self_eq_true _
       clear hq HTM hxy
       go_wp2_with fail
       go_quiet (fail)
       have hb3:=below_drewN hb2 nq
       go_wp2_with fail
       go_roundw
       case rel=>exact⟨k+1,true,by omega,by go_num,rfl,hb3,⟨fun _=>HQ.out,fun _=>rfl⟩⟩
       case measure=>simp[intOf];omega
      ·have HQ:Hid (x ∉ ys.take (k+1)):=fun h=>(HTM.out.1 h).elim (fun h=>by have:=hq.out.2 h;cases this) fun h=>absurd h hxy
       have hd:(x==y)=false:=by rw[beq_eq_false_iff_ne];exact hxy
       clear hq HTM
       go_wp2_with fail
       go_quiet (fail)
       have hb3:=below_drewN hb2 nq
       go_wp2_with fail
       go_roundw
       case rel=>exact⟨k+1,false,by omega,by go_num,rfl,hb3,⟨fun h=>(by cases h),fun h=>absurd h HQ.out⟩⟩
       case measure=>simp[intOf];omega
    ·obtain rfl:k=m:=by omega
     have hq2:=hq.out
     rw[List.take_of_length_le (by rw[← HM.out];exact Nat.le_refl _)] at hq2
     cases q with
     |true=>
      have HN2:Hid (∀ j,j<i+1→xs.getD j 0∈ys):=fun j hj=>by
       rcases Nat.lt_or_ge j i with h|h
       ·exact hs.out j h
       ·obtain rfl:j=i:=by omega
        rw[← HXX.out]
        exact hq2.1 rfl
      clear hq hq2 a1
      go_wp2_with fail
      go_roundw
      case rel=>exact⟨i+1,by omega,by go_num,hb2,HN2⟩
      case measure=>simp[intOf];omega
     |false=>
      have HF:Hid (¬ ∀ x,x∈xs→x∈ys):=fun h=>by
       have h1:=hq2.2 (h x (by rw[HXX.out];exact eP (by rw[← HN.out];exact hlt)))
       cases h1
      clear hq hq2 a1
      go_wp2_with fail
      go_ret
      exact⟨⟨false,rfl,⟨fun h=>(by cases h),fun h=>absurd h HF.out⟩⟩,hb2⟩
  ·obtain rfl:i=n:=by omega
   have HA:Hid (∀ x,x∈xs→x∈ys):=fun x hx=>by
    obtain⟨k,hk,e⟩:=gG hx
    rw[← e]
    exact hs.out k (by rw[HN.out];exact hk)
   go_wp2_with fail
   go_ret
   exact⟨⟨true,rfl,⟨fun _=>HA.out,fun _=>rfl⟩⟩,hb⟩
theorem kD {cs:List (List Int)} {fr:List Int} (x:Int):Rch cs fr x↔∃ y,y∈fr∧Rch cs [y] x:=by
 constructor
 ·intro h
  induction h with
  |here h=>exact⟨_,h,.here (List.mem_singleton.2 rfl)⟩
  |on _ hc ih=>
   obtain⟨y,h1,h2⟩:=ih
   exact⟨y,h1,.on h2 hc⟩
 ·rintro ⟨y,h1,h2⟩
  induction h2 with
  |here h=>rw[List.mem_singleton] at h;rw[h];exact .here h1
  |on _ hc ih=>exact .on ih hc
theorem rd8_none {l:List UInt8} {F B:Nat} {ao:Option Addr} {n c:Nat} {w':World} (h:rdV l F B (.returned (.tuple #[.agg #[.slice ao n c],.bool false])) w'):ao=none∧n=0∧c=0:=by
 rcases h with⟨ms,gs,j,a,c',_,_,_,h4,_⟩|⟨_,h4⟩
 ·simp only[Ending.returned.injEq,Value.tuple.injEq,Array.mk.injEq,List.cons.injEq,Value.bool.injEq,and_true] at h4
  cases h4.2
 ·simp only[Ending.returned.injEq,Value.tuple.injEq,Array.mk.injEq,List.cons.injEq,Value.agg.injEq,Value.slice.injEq,and_true] at h4
  exact h4
theorem ownI_one (w:World) (B:Nat) (hB:B≤w.heap.size) (x:Int):OwI (w.alloc (.cells #[.int .i64 x] 3)) B (.slice (some ⟨w.heap.size,0,none⟩) 1 1) [x]:=
 ⟨rfl,.inr ⟨w.heap.size,1,#[.int .i64 x],rfl,hB,by show (w.heap.push _)[w.heap.size]?=_;exact Array.getElem?_push_size,Nat.le_refl _,by decide,rfl,rfl⟩⟩
theorem mG {gs:List Fn1} {a er:Int} {o:List Int} (hz:(scP gs).1=0) (h0:0≤a) (h1:a<gs.length) (h:RchP gs a er o):er=0∧∀ x,x∈o↔Rch (csG gs) [a] x:=by
 rcases h with⟨k,_⟩|⟨_,k,_⟩|⟨_,_,_,h2,_,h3⟩
 ·exact absurd hz k
 ·omega
 ·exact⟨h2,h3⟩
theorem graphReach_any (ao:Option Addr) (cap:Nat) (l:List UInt8) (hcap:l.length≤cap) (w:World) (hT:Bd w ao l) :
  Calls Tryz.prog 6 #[.slice ao l.length cap] w fun e w'=>e=.returned (.bool true)∧Below w.heap.size w w':=by
 obtain⟨F,hF⟩:∃ F,F=12*(l.length+1)+9:=⟨_,rfl⟩
 have hfu:∀ ms,cut rdN l 0=.ok ms→aQ (mf ms) LW5 F [] 0≠.out:=fuel_ok l LW5 F (by omega)
 have HF:Hid (F=12*(l.length+1)+9):=hF
 clear hF
 go_enter Tryz.func6,Tryz.ntmps6
 go_wp2_with fail
 refine (awake8_any w).mono ?_
 rintro e w1 ⟨rfl,hb1⟩
 have m2:=jV ao cap l hcap w1 (hT.up hb1) F hfu
 go_wp2_with fail
 refine m2.mono ?_
 rintro e w2 ⟨hb2,a2,n,c2,b,rfl,hrd⟩
 have hB2:=Below.thn hb1 hb2
 clear m2 hb1 hb2
 have hfk:=rd8_fork hrd
 have hb3:=ae w2 (.cells #[.slice a2 n c2] 26)
 have hP3:=Bk.new w2 26 #[.slice a2 n c2]
 have hB3:=Below.thn hB2 hb3
 have hno:b=false→a2=none∧n=0∧c2=0:=fun hb=>by rw[hb] at hrd;exact rd8_none hrd
 clear hrd hB2
 have m4:∃ gs:List Fn1,n=gs.length∧(b=true→jb gs∧(∀ g∈gs,lnF g)∧FlW w2 (fun b=>w1.heap.size≤b) a2 gs)∧∀ W,Below w2.heap.size w2 W→Calls Tryz.prog 11 #[.agg #[.slice a2 n c2]] W fun e w'=>l6 W gs e w':=by
  rcases hfk with⟨_,ms,gs,j,hn,hl,hc,hp,hfl⟩|hbf
  ·have hok:jb gs:=p9 hl (by rw[HF.out];exact Nat.le_refl _) hc hp
   have hln:∀ g∈gs,lnF g:=qf hl hc hp
   refine⟨gs,hn,fun _=>⟨hok,hln,hfl⟩,fun W hb=>?_⟩
   rw[hn]
   exact calls_ok hok hln (hfl.up hb)
  ·obtain⟨rfl,rfl,rfl⟩:=hno hbf
   refine⟨[],rfl,fun h=>(by rw[hbf] at h;cases h),fun W _=>?_⟩
   exact eO (A:=fun _=>False) (.inl rfl) (fun _ h=>h.elim) (fun g h=>by cases h) (fun g h=>by cases h) (fun g h=>by cases h) (Nat.zero_le _)
 obtain⟨gs,hn,hpr,hcall⟩:=m4
 subst hn
 clear hno hfk
 go_upto_region 4 with fail
 generalize hW3:w2.alloc (.cells #[.slice a2 gs.length c2] 26)=W3 at *
 have p3:W3.cell? ⟨w2.heap.size,0,none⟩=some (.slice a2 gs.length c2):=hP3.cell 0
 have m5:=hcall W3 hb3
 obtain⟨B,hBB⟩:∃ B,B=(b&&decide (gs.length≤60)):=⟨_,rfl⟩
 have HBB:Hid (B=(b&&decide (gs.length≤60))):=hBB
 rw[← hBB]
 have HPR:Hid (b=true→jb gs∧(∀ g∈gs,lnF g)∧FlW W3 (fun b=>w1.heap.size≤b) a2 gs):=fun h=>⟨(hpr h).1,(hpr h).2.1,(hpr h).2.2.up hb3⟩
 clear hW3 hcall hBB hpr hb3
 go_wp2_with fail
 refine m5.mono ?_
 rintro e w4 h
 have hb4:=h.1
 have hB4:=Below.thn hB3 hb4
 have p4:w4.cell? ⟨w2.heap.size,0,none⟩=some (.slice a2 gs.length c2):=by rw[hb4.cell (cell_below p3)];exact p3
 obtain⟨_,v4,ls,er,rfl,hR4,hQ4⟩:=callsA_P h
 clear m5 h hP3 p3 hB3
 cases B with
 |false=>
  clear hb4 p4 hR4 hQ4
  go_wp2_with fail
  go_ret
  exact⟨rfl,hB4⟩
 |true=>
  rcases hQ4 with⟨_,rfl,_⟩|⟨hz,rfl,hls⟩
  ·clear hb4 p4 hR4
   go_wp2_with fail
   go_ret
   exact⟨rfl,hB4⟩
  ·obtain⟨hbt,hn60⟩:b=true∧gs.length≤60:=by
    have:=HBB.out
    simpa using this.symm
   obtain⟨hok,hln,hf3⟩:=HPR.out hbt
   have hf4:=hf3.up hb4
   have HOK:Hid (jb gs):=hok
   have HLN:Hid (∀ g∈gs,lnF g):=hln
   have HLS:Hid (ls=ctT (tabG gs)):=hls
   have HZ:Hid ((scP gs).1=0):=hz
   have hll:ls.length=gs.length:=by rw[hls];unfold ctT;rw[List.length_map,bP]
   have hrl:∀ j,(ls.getD j []).length≤65536:=fun j=>by rw[hls];exact ((oF (by rw[bP];omega) (fe gs)).at j).2
   have HMEM:Hid (∀ (j:Nat) x,x∈ls.getD j []↔x∈(csG gs).getD j []):=fun j x=>by rw[hls];exact (oJ hz j x).symm
   have HIN:Hid (∀ (j:Nat) x,x∈ls.getD j []→0≤x∧x<gs.length):=fun j x hx=>by
    rw[hls] at hx
    have:=((oF (t:=tabG gs) (by rw[bP];omega) (fe gs)).at j).1 x hx
    unfold ctT at this
    rwa[List.length_map,bP] at this
   obtain⟨av,cv,rfl,hat⟩:=hR4
   have HAT:Hid (∀ j,j<ls.length→∃ g u,av=some ⟨g,0,none⟩∧w4.cell? ⟨g,j,none⟩=some u∧RdI w4 0 u (ls.getD j [])):=hat
   have HRL:Hid (∀ j,(ls.getD j []).length≤65536):=hrl
   rw[hll]
   clear hok hln hls hz hrl hat hf3 hb4 hbt
   go_wp2_with fail
   go_loopw [7] (fun iv wr=>∃ i:Nat,i≤gs.length∧iv=.int .i64 i∧Below w4.heap.size w4 wr) (fun iv _=>gs.length-(intOf iv).toNat)
   case atStart=>exact⟨0,Nat.zero_le _,rfl,Below.refl _ _⟩
   case round=>
    rename World=>w5
    obtain⟨i,hi,rfl,hb5⟩:=hrel
    have p5:w5.cell? ⟨w2.heap.size,0,none⟩=some (.slice a2 gs.length c2):=by rw[hb5.cell (cell_below p4)];exact p4
    by_cases hlt:i<gs.length
    ·have m6:=jC (c:=c2) HOK.out HLN.out (hf4.up hb5) i
     go_wp2_with fail
     refine m6.mono ?_
     rintro e w6 h
     obtain⟨hb6,vo,o,e6,rfl,hro,hPo⟩:=l8 h
     have hol:=hPo.len (by omega)
     obtain⟨rfl,hmo⟩:=mG HZ.out (by omega) (by omega) hPo
     have HMO:Hid (∀ x,x∈o↔Rch (csG gs) [(i:Int)] x):=hmo
     have hB6:=Below.thn hb5 hb6
     obtain⟨gr,u,rfl,du,hru⟩:=HAT.out i (by omega)
     obtain⟨ar,cr,rfl,hrt⟩:=jK hru
     obtain⟨rl,hrl⟩:∃ rl,rl=(ls.getD i []).length:=⟨_,rfl⟩
     have hrl1:rl≤65536:=by rw[hrl];exact HRL.out i
     have HRR:Hid (rl=(ls.getD i []).length):=hrl
     have HRT:Hid (∀ j,j<rl→∃ g,ar=some ⟨g,0,none⟩∧w4.cell? ⟨g,j,none⟩=some (.int .i64 ((ls.getD i []).getD j 0))):=by rw[hrl];exact hrt
     rw[← hrl] at du
     clear m6 h hPo hmo hru hrt hrl
     have hbA:=ae w6 (.cells #[.int .i64 (i:Int)] 3)
     have hO0:=ownI_one w6 w6.heap.size (Nat.le_refl _) (i:Int)
     have HL0:Hid (∀ x,x∈[(i:Int)]↔x=(i:Int)∨∃ j,j<0∧Rch (csG gs) [(ls.getD i []).getD j 0] x):=fun x=>by
      rw[List.mem_singleton]
      exact⟨.inl,fun h=>h.elim id fun ⟨j,hj,_⟩=>absurd hj (Nat.not_lt_zero j)⟩
     have d6:w6.cell? ⟨gr,i,none⟩=some (.slice ar rl cr):=by rw[hB6.cell (cell_below du)];exact du
     have hge:decide (i ≥ gs.length)=false:=decide_eq_false (by omega)
     go_upto_region 14 with fail
     generalize w6.alloc (.cells #[.int .i64 (i:Int)] 3)=W7 at *
     have hB7:=Below.thn hB6 hbA
     have hbA2:Below w6.heap.size w6 W7:=hbA
     have hro7:=hro.up hbA
     have HRO6:Hid (RdI w6 0 vo o):=hro
     have hw67:=hbA.size
     clear d6 hb6 hro
     go_wp2_with fail
     go_loopw [10,11] (fun av kv wr=>∃ (k:Nat) (L:List Int),k≤rl∧kv=.int .i64 k∧OwI wr w6.heap.size av L∧L.length≤1+k*60∧Hid (∀ x,x∈L↔x=(i:Int)∨∃ j,j<k∧Rch (csG gs) [(ls.getD i []).getD j 0] x)∧Below w6.heap.size w6 wr∧Below w4.heap.size w4 wr∧RdI wr 0 vo o) (fun _ kv _=>rl-(intOf kv).toNat)
     case atStart=>exact⟨0,[(i:Int)],Nat.zero_le _,rfl,hO0,by simp,HL0,hbA2,hB7,hro7⟩
     case round=>
      clear hO0 HL0 hB7 hro7
      rename World=>w8
      obtain⟨k,L,hk,rfl,hO,hLl,hL,hb8,hB8,hro8⟩:=hrel
      have p8:w8.cell? ⟨w2.heap.size,0,none⟩=some (.slice a2 gs.length c2):=by rw[hB8.cell (cell_below p4)];exact p4
      have d8:w8.cell? ⟨gr,i,none⟩=some (.slice ar rl cr):=by rw[hB8.cell (cell_below du)];exact du
      obtain⟨aL,cL,rfl,-⟩:=hO.rd
      by_cases hkl:k<rl
      ·obtain⟨gk,rfl,dk⟩:=HRT.out k hkl
       rw[← hB8.cell (cell_below dk)] at dk
       have hxm:(ls.getD i []).getD k 0∈ls.getD i []:=eP (by rw[← HRR.out];exact hkl)
       obtain⟨x,hx⟩:∃ x,x=(ls.getD i []).getD k 0:=⟨_,rfl⟩
       have HX:Hid (x=(ls.getD i []).getD k 0):=hx
       have hxi:=HIN.out i _ hxm
       have hxc:=(HMEM.out i _).1 hxm
       rw[← hx] at dk hxi hxc
       have hfd:=hf4.up hB8.drew
       have m9:=jC (c:=c2) HOK.out HLN.out hfd x
       have HXI:Hid (0≤x∧x<gs.length):=hxi
       have HXC:Hid (x∈(csG gs).getD i []):=hxc
       clear hx hxm hxi hxc
       go_upto_region 17 with fail
       go_region_with (go_at_call 14;refine m9.mono ?_;rintro _ w9 h9;obtain⟨hb9,vm,om,em,rfl,hrm,hPm⟩:=l8 h9;clear h9)
       all_goals
        obtain⟨rfl,hmm⟩:=mG HZ.out HXI.out.1 HXI.out.2 hPm
        have hoM:=hPm.len (by omega)
        have hB9:=Below.thn hB8.drew hb9
        have hb69:=Below.thn hb8.drew hb9
        have hro9:=hro8.up (Below.thn (Below.refl w8.heap.size w8).drew hb9)
        have hO9:OwI w9 w6.heap.size (.slice aL L.length cL) L:=aX hO (Below.thn (Below.refl w8.heap.size w8).drew hb9)
        have m10:=jF hrm hro9 (by omega) (by omega)
        have hsub:∀ z,z∈om→z∈o:=fun z hz2=>by
         rw[HMO.out,lw]
         exact .inr ((kD z).2 ⟨x,HXC.out,(hmm z).1 hz2⟩)
        have HSUB:Hid (∀ z,z∈om→z∈o):=hsub
        have HMM:Hid (∀ z,z∈om↔Rch (csG gs) [x] z):=hmm
        clear m9 hPm hmm hsub p8 d8 dk hO hro8 hb8 hB8 hb9 hfd
        go_wp2_with fail
        refine m10.mono ?_
        rintro e w10 ⟨⟨bq,hbq⟩,hb10⟩
        obtain⟨rfl,hbq2⟩:=hbq.out
        obtain rfl:=hbq2.2 HSUB.out
        have hB10:=Below.thn hB9 hb10
        have hb610:=Below.thn hb69 hb10
        have hro10:=hro9.up hb10
        have hrm10:=hrm.up hb10
        have hO10:OwI w10 w6.heap.size (.slice aL L.length cL) L:=aX hO9 hb10
        obtain⟨v11,w11,hr11,hO11,hg11⟩:=fZ w10 w6.heap.size _ _ L om hO10 (by have:=hb610.size;omega) hrm10 (by omega) (by omega)
        have hb611:Below w6.heap.size w6 w11:=hb610.grown hg11 (by have:=hb610.size;omega) hO10.low
        have hB11:Below w4.heap.size w4 w11:=hB10.grown hg11 (by have:=hB10.size;omega) fun k hk2=>by have:=hO10.low k hk2;have:=hB6.size;omega
        have hro11:=HRO6.out.up hb611
        have HL2:Hid (∀ z,z∈L++om↔z=(i:Int)∨∃ j,j<k+1∧Rch (csG gs) [(ls.getD i []).getD j 0] z):=fun z=>by
         rw[List.mem_append,hL.out,HMM.out]
         constructor
         ·rintro ((h|⟨j,h1,h2⟩)|h)
          ·exact .inl h
          ·exact .inr ⟨j,by omega,h2⟩
          ·exact .inr ⟨k,by omega,by rw[← HX.out];exact h⟩
         ·rintro (h|⟨j,h1,h2⟩)
          ·exact .inl (.inl h)
          ·rcases Nat.lt_or_ge j k with h3|h3
           ·exact .inl (.inr ⟨j,h3,h2⟩)
           ·obtain rfl:j=k:=by omega
            rw[← HX.out] at h2
            exact .inr h2
        have hll2:(L++om).length≤1+(k+1)*60:=by rw[List.length_append];omega
        have HR:Hid (_=_):=hr11
        clear m10 hbq hbq2 hB9 hb69 hro9 hO9 hrm hO10 hrm10 hr11 hg11 hb10 hb610 hB10 hro10 hL HMM HSUB
        go_wp2_with (at_builtin;refine wpList_append_run rfl (.tmp 84) (.tmp 85) 36 rfl rfl _ _ rfl rfl _ _ (show _=_ from HR.out) ?_)
        go_roundw
        case rel=>exact⟨k+1,L++om,by omega,by go_num,hO11,hll2,HL2,hb611,hB11,hro11⟩
        case measure=>simp[intOf];omega
      ·obtain rfl:k=rl:=by omega
       have m12:=jF hro8 (OwI.rd hO |>.mono (Nat.zero_le _)) (by omega) (by omega)
       have hall:∀ z,z∈o→z∈L:=fun z hz2=>by
        rw[hL.out]
        rw[HMO.out,lw] at hz2
        rcases hz2 with h|h
        ·exact .inl h
        ·obtain⟨y,h1,h2⟩:=(kD z).1 h
         obtain⟨j,h3,h4⟩:=gG ((HMEM.out i y).2 h1)
         exact .inr ⟨j,by rw[HRR.out];exact h3,by rw[h4];exact h2⟩
       have HALL:Hid (∀ z,z∈o→z∈L):=hall
       clear hall hO hro8 hb8 hL
       go_wp2_with fail
       refine m12.mono ?_
       rintro e w12 ⟨⟨bq,hbq⟩,hb12⟩
       obtain⟨rfl,hbq2⟩:=hbq.out
       obtain rfl:=hbq2.2 HALL.out
       have hB12:=Below.thn hB8 hb12
       clear m12 hbq hbq2 hb12 hB8
       go_wp2_with fail
       go_roundw
       case rel=>exact⟨i+1,by omega,by go_num,hB12⟩
       case measure=>simp[intOf];omega
    ·go_wp2_with fail
     go_ret
     exact⟨rfl,Below.thn hB4 hb5⟩
end Gw
end Go.Proofs.YtimoappbefindaaGreat
