/-
  3 texts in one: what each proves stands at its head.
-/
import Derived.Test.YtimoappbefindaaGreatUp
namespace Go.Proofs.YtimoappbefindaaGreat
set_option maxHeartbeats 4000000
open Go.RowKit Go.Maps
set_option maxRecDepth 100000
theorem not_mem_step {l:List (List UInt8)} {s t:List UInt8} {k:Nat} (h:s ∉ l.take k) (hk:l[k]?=some t) (hq:¬ t=s):s ∉ l.take (k+1):=by
 rw[List.take_add_one,hk]
 simp only[Option.toList,List.mem_append,List.mem_singleton,not_or]
 exact⟨h,fun e=>hq e.symm⟩
theorem iA {w:World} {ao:Option Addr} {l:List (List UInt8)} {cap:Nat} (hN:Ns w ao l) (hl:l.length≤17592186044416) (s:List UInt8) :
  Calls Tryz.prog 50 #[.slice ao l.length cap,.string (bs s)] w fun e w'=>e=.returned (.bool (decide (s∈l)))∧w'=w:=by
 go_enter Tryz.func50,Tryz.ntmps50
 go_wp2_with fail
 go_loop [5] (fun i=>∃ k:Nat,k≤l.length∧i=.int .i64 k∧Hid (s ∉ l.take k)) (fun i=>l.length-(intOf i).toNat)
 case atStart=>exact⟨0,Nat.zero_le _,rfl,by simp[Hid]⟩
 case round=>
  obtain⟨k,hkn,rfl,hno⟩:=hrel
  by_cases hlt:k<l.length
  ·have hk:l[k]?=some (l[k]):=List.getElem?_eq_getElem hlt
   obtain⟨t,ht⟩:∃ t,t=l[k]:=⟨_,rfl⟩
   rw[← ht] at hk
   obtain⟨g,off,rfl,c0⟩:=hN k t hk
   have HT:Hid (l[k]?=some t):=hk
   clear hk ht
   by_cases hq:t=s
   ·subst hq
    have h1:((bs t).toList==(bs t).toList)=true:=by simp
    have HD:Hid (decide (t∈l)=true):=by
     refine decide_eq_true ?_
     exact List.mem_of_getElem? HT.out
    go_wp2
    go_ret
    exact⟨by rw[HD.out];rfl,rfl⟩
   ·have h1:((bs t).toList==(bs s).toList)=false:=by rw[aG,aG,beq_eq_false_iff_ne];exact hq
    have HD:Hid (s ∉ l.take (k+1)):=not_mem_step hno.out HT.out hq
    go_wp2
    go_round
    case rel=>exact⟨k+1,by omega,by go_num,HD⟩
    case measure=>simp[intOf];omega
  ·have hke:k=l.length:=by omega
   subst hke
   have HD:Hid (decide (s∈l)=false):=by
    have:=hno.out
    rw[List.take_length] at this
    exact decide_eq_false this
   go_wp2
   go_ret
   exact⟨by rw[HD.out];rfl,rfl⟩
def hdN (gs:List Fn1) (s:List UInt8):Int:=match gs.findIdx? (fun g=>g.name==s) with|some i=>i|none=>-1
theorem qh {gs:List Fn1} {s:List UInt8} {k:Nat} (hk:k<gs.length) (h:∀ j,j<k→¬ (gs.getD j fd).name=s) (e:(gs.getD k fd).name=s):hdN gs s=k:=by
 have hf:gs.findIdx? (fun g=>g.name==s)=some k:=by
  rw[List.findIdx?_eq_some_iff_getElem]
  refine⟨hk,?_,fun j hj=>?_⟩
  ·rw[List.getD_eq_getElem?_getD,List.getElem?_eq_getElem hk] at e
   simpa using e
  ·have:=h j hj
   rw[List.getD_eq_getElem?_getD,List.getElem?_eq_getElem (by omega)] at this
   simpa using this
 unfold hdN
 rw[hf]
theorem hdN_no {gs:List Fn1} {s:List UInt8} (h:∀ j,j<gs.length→¬ (gs.getD j fd).name=s):hdN gs s=-1:=by
 have hf:gs.findIdx? (fun g=>g.name==s)=none:=by
  rw[List.findIdx?_eq_none_iff]
  intro x hx
  obtain⟨j,hj,e⟩:=List.mem_iff_getElem.1 hx
  have:=h j hj
  rw[List.getD_eq_getElem?_getD,List.getElem?_eq_getElem hj] at this
  simp only[Option.getD_some,e] at this
  simpa using this
 unfold hdN
 rw[hf]
theorem lV {w:World} {A:Nat→Prop} {ao:Option Addr} {gs:List Fn1} {c:Nat} (hF:FlW w A ao gs) (hgs:gs.length≤1073741824) (s:List UInt8) :
  Calls Tryz.prog 72 #[.agg #[.slice ao gs.length c],.string (bs s)] w fun e w'=>e=.returned (.int .i64 (hdN gs s))∧Below w.heap.size w w':=by
 have hb0:=ae w (.cells #[.slice ao gs.length c] 26)
 have hL:=Bk.new w 26 #[.slice ao gs.length c]
 go_enter Tryz.func72,Tryz.ntmps72
 go_upto_region 1 with fail
 have hFW:=hF.up hb0
 generalize w.alloc (.cells #[.slice ao gs.length c] 26)=W at *
 have c0:W.cell? ⟨w.heap.size,0,none⟩=some (.slice ao gs.length c):=hL.cell 0
 have HB:Hid (Below w.heap.size w W):=hb0
 clear hL hF hb0
 go_wp2_with fail
 go_loop [5] (fun i=>∃ k:Nat,k≤gs.length∧i=.int .i64 k∧Hid (∀ j,j<k→¬ (gs.getD j fd).name=s)) (fun i=>gs.length-(intOf i).toNat)
 case atStart=>exact⟨0,Nat.zero_le _,rfl,fun j hj=>absurd hj (by omega)⟩
 case round=>
  obtain⟨k,hkn,rfl,hno⟩:=hrel
  by_cases hlt:k<gs.length
  ·obtain⟨g,vs,rfl,_,hv,hxv⟩:=hFW.at k hlt
   obtain⟨ap,cp,es,rfl,hp1,he1⟩:=hxv
   have d0:W.cell? ⟨g,k*11,none⟩=some (.string (bs (gs.getD k fd).name)):=by
    have:=hv 0 _ rfl
    rwa[Nat.add_zero] at this
   obtain⟨t,ht⟩:∃ t,t=(gs.getD k fd).name:=⟨_,rfl⟩
   rw[← ht] at d0
   have HT:Hid (t=(gs.getD k fd).name):=ht
   clear ht hv hp1 he1
   by_cases hq:t=s
   ·subst hq
    have h1:((bs t).toList==(bs t).toList)=true:=by simp
    have HD:Hid (hdN gs t=k):=qh hlt hno.out HT.out.symm
    go_wp2
    go_ret
    exact⟨by rw[HD.out];rfl,HB.out⟩
   ·have h1:((bs t).toList==(bs s).toList)=false:=by rw[aG,aG,beq_eq_false_iff_ne];exact hq
    have HD:Hid (∀ j,j<k+1→¬ (gs.getD j fd).name=s):=fun j hj=>by
     rcases Nat.lt_or_ge j k with h|h
     ·exact hno.out j h
     ·obtain rfl:j=k:=by omega
      rw[← HT.out]
      exact hq
    go_wp2
    go_round
    case rel=>exact⟨k+1,by omega,by go_num,HD⟩
    case measure=>simp[intOf];omega
  ·have hke:k=gs.length:=by omega
   subst hke
   have HD:Hid (hdN gs s=-1):=hdN_no hno.out
   go_wp2
   go_ret
   exact⟨by rw[HD.out];rfl,HB.out⟩
theorem rbound_any {w:World} (op:Int) (name tail:List UInt8) (v3 v4 v5 v6:Value) (i:Nat) :
  Calls Tryz.prog 97 #[.agg #[.int .i64 op,.string (bs name),.string (bs tail),v3,v4,v5,v6],.int .i64 i] w fun e w'=>ry w (bnd6 op name tail i) e w':=by
 have hb0:=ae w (.cells #[.int .i64 op,.string (bs name),.string (bs tail),v3,v4,v5,v6] 58)
 have hL:=Bk.new w 58 #[.int .i64 op,.string (bs name),.string (bs tail),v3,v4,v5,v6]
 go_enter Tryz.func97,Tryz.ntmps97
 go_upto_region 1 with fail
 generalize w.alloc (.cells #[.int .i64 op,.string (bs name),.string (bs tail),v3,v4,v5,v6] 58)=W at *
 have c0:W.cell? ⟨w.heap.size,0,none⟩=some (.int .i64 op):=hL.cell 0
 have c1:W.cell? ⟨w.heap.size,1,none⟩=some (.string (bs name)):=hL.cell 1
 have c2:W.cell? ⟨w.heap.size,2,none⟩=some (.string (bs tail)):=hL.cell 2
 clear hL
 by_cases h1:op=21
 ·subst h1
  have e:bnd6 21 name tail i=[name]:=by simp[bnd6]
  go_wp2
  go_ret
  rw[e]
  exact gI name _ hb0
 ·have g1:(op==21)=false:=by simpa using h1
  by_cases h2:op=22
  ·subst h2
   by_cases h3:i=1
   ·subst h3
    have e:bnd6 22 name tail 1=[name]:=by simp[bnd6]
    go_wp2
    go_ret
    rw[e]
    exact gI name _ hb0
   ·have g3:((i:Int)==1)=false:=by simp;omega
    have e:bnd6 22 name tail i=[]:=by simp[bnd6,h3]
    go_wp2
    go_ret
    rw[e]
    exact dG hb0
  ·have g2:(op==22)=false:=by simpa using h2
   by_cases h4:op=20
   ·subst h4
    by_cases h5:i=2
    ·subst h5
     have e:bnd6 20 name tail 2=[name,tail]:=by simp[bnd6]
     go_wp2
     go_ret
     rw[e]
     exact mG name tail _ hb0
    ·have g5:((i:Int)==2)=false:=by simp;omega
     have e:bnd6 20 name tail i=[]:=by simp[bnd6,h5]
     go_wp2
     go_ret
     rw[e]
     exact dG hb0
   ·have g4:(op==20)=false:=by simpa using h4
    have e:bnd6 op name tail i=[]:=by simp[bnd6,h1,h2,h4]
    go_wp2
    go_ret
    rw[e]
    exact dG hb0
def OwN (w:World) (B:Nat) (v:Value) (ws:List (List UInt8)):Prop:=w.ownsRow B 9 1 v ws.length (ws.map fun s=>.string (bs s))
theorem Tryz.infoSt:(Tryz.prog.info? 9).map (fun i=>(i.zero,i.size,i.bytes))=some (some (.string ⟨#[]⟩),1,16):=by kernel_rfl
theorem Tryz.underSt:Tryz.prog.underlying 104=some (.slice 9):=by kernel_rfl
theorem qL {w:World} {B n size:Nat} {e:TypeId} {v:Value} {xs:List Value} (h:w.ownsRow B e size v n xs):∀ j,v.ownBlock=some j→B≤j:=by
 rcases h.2 with⟨rfl,_⟩|⟨g,c,cur,rfl,hb,_⟩
 ·intro j hj;cases hj
 ·intro j hj;cases hj;exact hb
theorem OwN.names {w:World} {B:Nat} {v:Value} {ws:List (List UInt8)} (h:OwN w B v ws):∃ ao cap,v=.slice ao ws.length cap∧Ns w ao ws∧(ao=none→cap=0)∧∀ g off,ao=some ⟨g,off,none⟩→B≤g:=by
 rcases h.2 with⟨rfl,h0⟩|⟨g,c,cur,rfl,hb,hg,h1,h2,h3,h4⟩
 ·have e:=List.length_eq_zero_iff.1 h0
  subst e
  exact⟨none,0,rfl,.nil _ _,fun _=>rfl,fun g off e=>by cases e⟩
 ·refine⟨_,c,rfl,fun j s hj=>⟨g,0,rfl,?_⟩,fun e=>(by cases e),fun g' off e=>by cases e;exact hb⟩
  have hl:j<ws.length:=(List.getElem?_eq_some_iff.1 hj).1
  have h5:(cur.toList.take (ws.length*1))[j]?=some (.string (bs s)):=by rw[h4,List.getElem?_map,hj];rfl
  rw[List.getElem?_take_of_lt (by omega)] at h5
  rw[Nat.zero_add]
  unfold World.cell?
  simp only[hg]
  simpa using h5
theorem dX (w:World) (B:Nat) (v:Value) (xs:List (List UInt8)) (h:OwN w B v xs) (hB:B≤w.heap.size) (ao:Option Addr) (cap:Nat) (ys:List (List UInt8)) (hy:Ns w ao ys) (hcap:ao=none→cap=0) (hnone:ao=none→ys=[]) (hxy:xs.length+ys.length≤8796093022208) :
  ∃ v' w',(Builtin.append_ #[104,104] 104 #[v,.slice ao ys.length cap]).run Tryz.prog w=.ok v' w'∧OwN w' B v' (xs++ys)∧Below B w w':=by
 obtain⟨i0,hi,hz⟩:=Option.map_eq_some_iff.1 Tryz.infoSt
 simp only[Prod.mk.injEq] at hz
 cases ao with
 |none=>
  obtain rfl:=hnone rfl
  obtain rfl:=hcap rfl
  refine⟨v,w,run_append_owned_none (P:=Tryz.prog) (w:=w) B 104 104 9 i0 1 Tryz.underSt hi v xs.length _ h,?_,Below.refl _ _⟩
  rw[List.append_nil]
  exact h
 |some a=>
  have hnews:∀ j u,(ys.map fun s=>(Value.string (bs s)))[j]?=some u→w.cell? (a.add j)=some u:=by
   intro j u hj
   rw[List.getElem?_map] at hj
   cases hq:ys[j]? with
   |none=>rw[hq] at hj;cases hj
   |some x=>
    rw[hq] at hj
    simp only[Option.map_some,Option.some.injEq] at hj
    subst hj
    obtain⟨g,off,e,hc⟩:=hy j x hq
    cases e
    cases j with
    |zero=>exact hc
    |succ j=>simpa [Addr.add] using hc
  obtain⟨v',w',hr,ho,hgr,_⟩:=run_append_own (P:=Tryz.prog) w B 104 104 9 i0 (.string ⟨#[]⟩) 1 16 Tryz.underSt hi hz.1 hz.2.1 hz.2.2 rfl (by decide) v xs.length _ h a ys.length cap (ys.map fun s=>.string (bs s)) (by simp) hnews
   (by intro u hu;rw[List.mem_map] at hu;obtain⟨c,_,rfl⟩:=hu;rfl) (by unfold maxLen;omega) (by omega) hB
  refine⟨v',w',hr,?_,(Below.refl B w).grown hgr hB (qL h)⟩
  unfold OwN
  rw[List.length_append,List.map_append]
  exact ho
theorem Ns.none {w:World} {xs:List (List UInt8)} (h:Ns w none xs):xs=[]:=by
 cases xs with
 |nil=>rfl
 |cons x xs=>obtain⟨g,off,e,_⟩:=h 0 x rfl;cases e
theorem with_any {w:World} {ao:Option Addr} {l:List (List UInt8)} {cap:Nat} (hl:Ns w ao l) (hcl:ao=none→cap=0) {am:Option Addr} {m:List (List UInt8)} {cm:Nat} (hm:Ns w am m) (hcm:am=none→cm=0) (hlen:l.length+m.length≤8796093022208) :
  Calls Tryz.prog 96 #[.slice ao l.length cap,.slice am m.length cm] w fun e w'=>(∃ v,e=.returned v∧OwN w' w.heap.size v (l++m))∧Below w.heap.size w w':=by
 obtain⟨v1,w1,R1,o1,b1⟩:=dX w w.heap.size (.slice none 0 0) [] (World.ownsRow_nil _ _ _ _) (Nat.le_refl _) ao cap l hl hcl (fun e=>by subst e;exact hl.none) (by simp;omega)
 obtain⟨v2,w2,R2,o2,b2⟩:=dX w1 w.heap.size v1 ([]++l) o1 b1.size am cm m (hm.up b1) hcm (fun e=>by subst e;exact hm.none) (by simp;omega)
 rw[List.nil_append] at o2
 have HO:Hid (OwN w2 w.heap.size v2 (l++m)∧Below w.heap.size w w2):=⟨o2,b1.trans b2⟩
 clear o1 o2 b1 b2
 go_enter Tryz.func96,Tryz.ntmps96
 go_wp2_with (first
  |(at_builtin;refine wpList_append_run rfl (.tmp 6) (.tmp 7) 104 rfl rfl _ _ rfl rfl _ _ (show _=_ from R1) ?_)
  |(at_builtin;refine wpList_append_run rfl (.tmp 9) (.tmp 10) 104 rfl rfl _ _ rfl rfl _ _ (show _=_ from R2) ?_))
 go_ret
 exact⟨⟨_,rfl,HO.out.1⟩,HO.out.2⟩
def snC (w:World) (A:Nat→Prop):List (Ex × Bool)→List Value→Prop
 |[],cs=>cs=[]
 |y::ys,cs=>∃ us ds,cs=us++(.bool y.2::ds)∧ExW w A y.1 us∧snC w A ys ds
theorem qg {w:World} {A:Nat→Prop}:∀ {ys zs:List (Ex × Bool)} {cs ds:List Value},snC w A ys cs→snC w A zs ds→snC w A (ys++zs) (cs++ds)
 |[],_,_,_,h,k=>by cases h;exact k
 |y::ys,zs,cs,ds,h,k=>by
  obtain⟨us,es,rfl,h1,h2⟩:=h
  exact⟨us,es++ds,by simp,h1,qg h2 k⟩
theorem mZ {w:World} {A:Nat→Prop}:∀ {ys:List (Ex × Bool)} {cs:List Value},snC w A ys cs→cs.length=ys.length*8
 |[],_,h=>by cases h;rfl
 |y::ys,cs,h=>by
  obtain⟨us,es,rfl,h1,h2⟩:=h
  have:=mZ h2
  have:=h1.len
  simp only[List.length_append,List.length_cons]
  omega
theorem qQ {w:World} {A:Nat→Prop}:∀ {ys:List (Ex × Bool)} {cs:List Value},snC w A ys cs→∀ u∈cs,u.oneCell'=true
 |[],_,h=>by cases h;intro u hu;cases hu
 |y::ys,cs,h=>by
  obtain⟨us,es,rfl,h1,h2⟩:=h
  intro u hu
  rw[List.mem_append,List.mem_cons] at hu
  rcases hu with hu|rfl|hu
  ·exact h1.one u hu
  ·rfl
  ·exact qQ h2 u hu
theorem gu {w w':World} {A:Nat→Prop} (hk:∀ b,A b→b<w.heap.size→w'.heap[b]?=w.heap[b]?):∀ {ys:List (Ex × Bool)} {cs:List Value},snC w A ys cs→snC w' A ys cs
 |[],_,h=>h
 |y::ys,cs,h=>by
  obtain⟨us,es,rfl,h1,h2⟩:=h
  exact⟨us,es,rfl,h1.keep hk,gu hk h2⟩
def SnW (w:World) (A:Nat→Prop) (B:Nat) (v:Value) (ys:List (Ex × Bool)):Prop:=∃ cs,w.ownsRow B 146 8 v ys.length cs∧snC w A ys cs
theorem SnW.nil (w:World) (A:Nat→Prop) (B:Nat):SnW w A B (.slice none 0 0) []:=⟨[],World.ownsRow_nil _ _ _ _,rfl⟩
theorem Tryz.infoSn:(Tryz.prog.info? 146).map (fun i=>(i.zero,i.size,i.bytes))=some (some (.agg #[.int .i64 0,.string ⟨#[]⟩,.string ⟨#[]⟩,.int .i64 0,.complex .f64 0 0,.slice none 0 0,.int .i64 0,.bool false]),8,104):=by kernel_rfl
theorem Tryz.underSn:Tryz.prog.underlying 143=some (.slice 146):=by kernel_rfl
theorem sU {w:World} {A:Nat→Prop} {B:Nat} {v:Value} {ys zs:List (Ex × Bool)} (h:SnW w A B v ys) (hB:B≤w.heap.size) (hA:∀ k,A k→k<B) {ds:List Value} (hz:snC w A zs ds) (a:Addr) (cap:Nat) (hnews:∀ j u,ds[j]?=some u→w.cell? (a.add j)=some u) (hn:ys.length+zs.length≤1000000000) :
  ∃ v' w',(Builtin.append_ #[143,143] 143 #[v,.slice (some a) zs.length cap]).run Tryz.prog w=.ok v' w'∧SnW w' A B v' (ys++zs)∧Below B w w':=by
 obtain⟨i0,hi,hz0,hz1,hz2⟩:=info_parts Tryz.infoSn
 obtain⟨cs,ho,hc⟩:=h
 obtain⟨v',w',hr,ho',hgr,_⟩:=run_append_own (P:=Tryz.prog) w B 143 143 146 i0 _ 8 104 Tryz.underSn hi hz0 hz1 hz2 rfl (by decide) v ys.length cs ho a zs.length cap ds (mZ hz) hnews (qQ hz) (by unfold maxLen;omega) (by omega) hB
 have hb:Below B w w':=(Below.refl B w).grown hgr hB (qL ho)
 refine⟨v',w',hr,⟨_,by rw[List.length_append];exact ho',qg (gu ?_ hc) (gu ?_ hz)⟩,hb⟩
 ·exact fun b hb' _=>hb.block b (hA b hb')
 ·exact fun b hb' _=>hb.block b (hA b hb')
theorem SnW.row {w:World} {A:Nat→Prop} {B:Nat} {v:Value} {ys:List (Ex × Bool)} (h:SnW w A B v ys):∃ ao cap,v=.slice ao ys.length cap∧((ao=none∧cap=0∧ys=[])∨∃ g ds,ao=some ⟨g,0,none⟩∧B≤g∧g<w.heap.size∧snC w A ys ds∧∀ j u,ds[j]?=some u→w.cell? ⟨g,j,none⟩=some u):=by
 obtain⟨cs,ho,hc⟩:=h
 rcases ho.2 with⟨rfl,h0⟩|⟨g,c,cur,rfl,hb,hg,h1,h2,h3,h4⟩
 ·have e:=List.length_eq_zero_iff.1 h0
  subst e
  exact⟨none,0,rfl,.inl ⟨rfl,rfl,rfl⟩⟩
 ·refine⟨_,c,rfl,.inr ⟨g,cs,rfl,hb,(Array.getElem?_eq_some_iff.1 hg).1,hc,fun j u hj=>?_⟩⟩
  have hl:j<cs.length:=(List.getElem?_eq_some_iff.1 hj).1
  have h5:(cur.toList.take (ys.length*8))[j]?=some u:=by rw[h4];exact hj
  rw[List.getElem?_take_of_lt (by rw[← mZ hc];exact hl)] at h5
  unfold World.cell?
  simp only[hg]
  simpa using h5
theorem sn_two {w:World} {A:Nat→Prop} {B C:Nat} {v u:Value} {ys zs:List (Ex × Bool)} (h:SnW w A B v ys) (hB:B≤w.heap.size) (hA:∀ k,A k→k<B) (hz:SnW w A C u zs) (hn:ys.length+zs.length≤1000000000) :
  ∃ v' w',(Builtin.append_ #[143,143] 143 #[v,u]).run Tryz.prog w=.ok v' w'∧SnW w' A B v' (ys++zs)∧Below B w w':=by
 obtain⟨ao,cap,rfl,hr⟩:=hz.row
 rcases hr with⟨rfl,rfl,rfl⟩|⟨g,ds,rfl,_,_,hd,hc⟩
 ·obtain⟨i0,hi,hz⟩:=Option.map_eq_some_iff.1 Tryz.infoSn
  obtain⟨cs,ho,hcs⟩:=h
  exact⟨v,w,run_append_owned_none (P:=Tryz.prog) (w:=w) B 143 143 146 i0 8 Tryz.underSn hi v ys.length _ ho,by rw[List.append_nil];exact⟨cs,ho,hcs⟩,Below.refl _ _⟩
 ·exact sU h hB hA hd ⟨g,0,none⟩ cap (fun j u hj=>by rw[Addr.add_mid,Nat.zero_add];exact hc j u hj) hn
end Go.Proofs.YtimoappbefindaaGreat
