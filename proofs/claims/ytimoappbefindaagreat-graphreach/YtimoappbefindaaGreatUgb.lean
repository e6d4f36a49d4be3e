/-
  9 texts in one: what each proves stands at its head.
-/
import Derived.Test.YtimoappbefindaaGreatUga
import Derived.Lib.SliceRun
import Derived.ArgAppend
namespace Go.Proofs.YtimoappbefindaaGreat
set_option maxHeartbeats 8000000
open Go.RowKit Go.Maps
set_option maxRecDepth 100000
theorem fld08 (y a:Int) (w:World):(Instr.field 49 (.agg #[.int .i64 y,.int .i64 a]) 0).run Tryz.prog w=.ok (.int .i64 y) w:=by kernel_rfl
def l6 (w:World) (gs:List Fn1) (e:Ending) (w':World):Prop:=
 Below w.heap.size w w'∧((scP gs).1≠0∧e=.returned (.tuple #[.slice none 0 0,.int .i64 3]) ∨
  (scP gs).1=0∧∃ b,e=.returned (.tuple #[.slice (some ⟨b,0,none⟩) gs.length gs.length,.int .i64 0])∧w.heap.size≤b∧di w' b gs.length (knK gs gs.length) gs gs.length)
section
variable {w:World} {A:Nat→Prop} {ao:Option Addr} {gs:List Fn1} {c:Nat}
theorem eO (hF:FlW w A ao gs) (hA:∀ k,A k→k<w.heap.size) (hln:∀ g∈gs,lnF g) (hsz:∀ g∈gs,szE g.body≤65536) (hps:∀ g∈gs,g.pms.length≤65536) (hgs:gs.length≤65536) :
  Calls Tryz.prog 11 #[.agg #[.slice ao gs.length c]] w fun e w'=>l6 w gs e w':=by
 have hb0:=ae w (.cells #[.slice ao gs.length c] 26)
 have hL0:=Bk.new w 26 #[.slice ao gs.length c]
 go_enter Tryz.func11,Tryz.ntmps11
 go_upto_region 1 with fail
 generalize w.alloc (.cells #[.slice ao gs.length c] 26)=W at *
 have hwW:w.heap.size<W.heap.size:=hL0.lt
 have c0:W.cell? ⟨w.heap.size,0,none⟩=some (.slice ao gs.length c):=hL0.cell 0
 have hFW:=hF.up hb0
 have hs:=scopeCheck_any (c:=c) hFW (fun k h=>by have:=hA k h;omega) hln hsz hps hgs
 have hfl:=fun w=>fld08 (scP gs).1 (scP gs).2 w
 go_wp2_with fail
 refine hs.mono ?_
 rintro e w2 ⟨rfl,hb2⟩
 have hL2:=hL0.up hb2
 have hF2:=hFW.up hb2
 have hB2:=Below.thn hb0 hb2
 have c2:w2.cell? ⟨w.heap.size,0,none⟩=some (.slice ao gs.length c):=hL2.cell 0
 clear hs c0 hFW hL0 hL2 hb0 hb2
 by_cases hz:(scP gs).1=0
 ·rw[hz] at hfl ⊢
  have hk:=callsOf_any (c:=c) hF2 (fun k h=>by have:=hA k h;have:=hB2.size;omega) hln hsz hgs
  go_wp2_with fail
  refine hk.mono ?_
  rintro e w3 ⟨b,rfl,hb,hR,hb3⟩
  have hB3:=Below.thn hB2 hb3
  have:=hB2.size
  clear hk hfl c2
  go_wp2_with fail
  exact bodyPost_ret (v:=.tuple #[.slice (some ⟨b,0,none⟩) gs.length gs.length,.int .i64 0]) (by simp[results,Tryz.results11,go_sem]) rfl ⟨hB3,.inr ⟨hz,b,rfl,by omega,hR⟩⟩
 ·go_wp2_with fail
  exact bodyPost_ret (v:=.tuple #[.slice none 0 0,.int .i64 3]) (by simp[results,Tryz.results11,go_sem]) rfl ⟨hB2,.inl ⟨hz,rfl⟩⟩
def WithA (w:World) (gs:List Fn1) (i:Int) (e:Ending) (w':World):Prop:=
 Below w.heap.size w w'∧((scP gs).1≠0∧e=.returned (.tuple #[.slice none 0 0,.int .i64 3]) ∨
  (scP gs).1=0∧(i<0∨(gs.length:Int)≤i)∧e=.returned (.tuple #[.slice none 0 0,.int .i64 2]) ∨
  (scP gs).1=0∧0≤i∧i<gs.length∧∃ b,e=.returned (.tuple #[.slice (some ⟨b,0,none⟩) gs.length gs.length,.int .i64 0])∧w.heap.size≤b∧di w' b gs.length (knK gs gs.length) gs gs.length)
theorem callsWith_any (hF:FlW w A ao gs) (hA:∀ k,A k→k<w.heap.size) (hln:∀ g∈gs,lnF g) (hsz:∀ g∈gs,szE g.body≤65536) (hps:∀ g∈gs,g.pms.length≤65536) (hgs:gs.length≤65536) (i:Int) :
  Calls Tryz.prog 31 #[.agg #[.slice ao gs.length c],.int .i64 i] w fun e w'=>WithA w gs i e w':=by
 have hb0:=ae w (.cells #[.slice ao gs.length c] 26)
 have hL0:=Bk.new w 26 #[.slice ao gs.length c]
 go_enter Tryz.func31,Tryz.ntmps31
 go_upto_region 1 with fail
 generalize w.alloc (.cells #[.slice ao gs.length c] 26)=W at *
 have hwW:w.heap.size<W.heap.size:=hL0.lt
 have c0:W.cell? ⟨w.heap.size,0,none⟩=some (.slice ao gs.length c):=hL0.cell 0
 have hFW:=hF.up hb0
 have hs:=eO (c:=c) hFW (fun k h=>by have:=hA k h;omega) hln hsz hps hgs
 go_wp2_with fail
 refine hs.mono ?_
 rintro e w2 ⟨hb2,h⟩
 have hB2:=Below.thn hb0 hb2
 clear hs c0 hFW hL0 hb0 hb2
 rcases h with⟨hz,rfl⟩|⟨hz,b,rfl,hb,hR⟩
 ·go_wp2_with fail
  exact bodyPost_ret (v:=.tuple #[.slice none 0 0,.int .i64 3]) (by simp[results,Tryz.results31,go_sem]) rfl ⟨hB2,.inl ⟨hz,rfl⟩⟩
 ·by_cases h1:i<0
  ·go_wp2_with fail
   exact bodyPost_ret (v:=.tuple #[.slice none 0 0,.int .i64 2]) (by simp[results,Tryz.results31,go_sem]) rfl ⟨hB2,.inr (.inl ⟨hz,.inl h1,rfl⟩)⟩
  ·by_cases h2:(gs.length:Int)≤i
   ·go_wp2_with fail
    exact bodyPost_ret (v:=.tuple #[.slice none 0 0,.int .i64 2]) (by simp[results,Tryz.results31,go_sem]) rfl ⟨hB2,.inr (.inl ⟨hz,.inr h2,rfl⟩)⟩
   ·go_wp2_with fail
    exact bodyPost_ret (v:=.tuple #[.slice (some ⟨b,0,none⟩) gs.length gs.length,.int .i64 0]) (by simp[results,Tryz.results31,go_sem]) rfl ⟨hB2,.inr (.inr ⟨hz,by omega,by omega,b,rfl,by omega,hR⟩)⟩
end
theorem Tryz.infoI:(Tryz.prog.info? 3).map (fun i=>(i.zero,i.size,i.bytes))=some (some (.int .i64 0),1,8):=by kernel_rfl
theorem Tryz.undIs:Tryz.prog.underlying 36=some (.slice 3):=by kernel_rfl
theorem fZ (w:World) (B:Nat) (v u:Value) (xs ys:List Int) (h:OwI w B v xs) (hB:B≤w.heap.size) (hy:RdI w 0 u ys) (hx:xs.length≤8589934592) (hyl:ys.length≤1048576) :
  ∃ v' w',(Builtin.append_ #[36,36] 36 #[v,u]).run Tryz.prog w=.ok v' w'∧OwI w' B v' (xs++ys)∧w.grownBy w' v.ownBlock:=by
 obtain⟨i0,hi,hz0,hz1,hz2⟩:=info_parts Tryz.infoI
 obtain⟨ao,c,rfl,hc,hy⟩:=hy
 cases ao with
 |none=>
  obtain rfl:=hc rfl
  have hyn:ys=[]:=by
   rcases hy with h|⟨g,e,_⟩
   ·exact h
   ·cases e
  subst hyn
  refine⟨v,w,run_append_owned_none (P:=Tryz.prog) (w:=w) B 36 36 3 i0 1 Tryz.undIs hi v xs.length _ h,?_,⟨rfl,rfl,rfl,Nat.le_refl _,fun _ _ _=>rfl⟩⟩
  rw[List.append_nil]
  exact h
 |some a=>
  have hnews:∀ j u,(ys.map fun z:Int=>Value.int .i64 z)[j]?=some u→w.cell? (a.add j)=some u:=by
   intro j u hj
   rw[List.getElem?_map] at hj
   cases hq:ys[j]? with
   |none=>rw[hq] at hj;cases hj
   |some x=>
    rw[hq] at hj
    simp only[Option.map_some,Option.some.injEq] at hj
    subst hj
    rcases hy with h|⟨g,e,_,_,hcc⟩
    ·rw[h] at hq;cases hq
    ·cases e
     rw[Addr.add_lit,Nat.zero_add]
     exact hcc j x hq
  obtain⟨v',w',hr,ho,hgr,_⟩:=run_append_own (P:=Tryz.prog) w B 36 36 3 i0 (.int .i64 0) 1 8 Tryz.undIs hi hz0 hz1 hz2 rfl (by decide) v xs.length _ h a ys.length c (ys.map fun z=>.int .i64 z) (by simp) hnews
   (by intro u hu;rw[List.mem_map] at hu;obtain⟨c,_,rfl⟩:=hu;rfl) (by unfold maxLen;omega) (by omega) hB
  refine⟨v',w',hr,?_,hgr⟩
  unfold OwI
  rw[List.length_append,List.map_append]
  exact ho
theorem OwI.low {w:World} {B:Nat} {v:Value} {xs:List Int} (h:OwI w B v xs):∀ k,v.ownBlock=some k→B≤k:=fun k hk=>(World.ownsRow.lt h k hk).1
theorem OwI.keep {w w':World} {B:Nat} {v:Value} {xs:List Int} (h:OwI w B v xs) (hk:∀ b,B≤b→b<w.heap.size→w'.heap[b]?=w.heap[b]?):OwI w' B v xs:=by
 refine⟨h.1,?_⟩
 rcases h.2 with h2|⟨g,cap,cur,e,hg,hb,r⟩
 ·exact .inl h2
 ·exact .inr ⟨g,cap,cur,e,hg,(hk g hg (Array.getElem?_eq_some_iff.1 hb).1).trans hb,r⟩
theorem OwI.pop {w:World} {B n:Nat} {v:Value} {xs:List Int} (h:OwI w B v xs) (hn:n<xs.length):∃ g cap,v=.slice (some ⟨g,0,none⟩) xs.length cap∧n≤cap∧w.cell? ⟨g,n,none⟩=some (.int .i64 (xs.getD n 0))∧OwI w B (.slice (some ⟨g,0,none⟩) n cap) (xs.take n):=by
 rcases id h.2 with⟨_,h0⟩|⟨g,cap,cur,rfl,hg,hb,h1,h2,h3,ht⟩
 ·omega
 ·refine⟨g,cap,rfl,by omega,?_,?_,.inr ⟨g,cap,cur,?_,hg,hb,?_,h2,h3,?_⟩⟩
  ·rw[World.ownsRow.cellAt h n (by omega),List.getElem?_map,List.getElem?_eq_getElem hn,List.getD_eq_getElem?_getD,List.getElem?_eq_getElem hn]
   rfl
  ·simp
  ·rw[List.length_take,Nat.min_eq_left (by omega)]
  ·rw[List.length_take];omega
  ·rw[List.map_take,← ht,List.take_take,List.length_take]
   congr 1
   omega
theorem run_slice_hiI (b o len cap n:Nat) (h:n≤cap) (w:World):(Instr.slice 36 (.slice (some ⟨b,o,none⟩) len cap) none (some (.int .i64 (n:Int))) none).run Tryz.prog w=.ok (.slice (some ⟨b,o,none⟩) n cap) w:=by
 simp[Instr.slice,Instr.sliceBounds,Instr.sliceBound,asIntOf,h,run_underlying Tryz.undIs,go_sem]
theorem cloneI_any {w:World} {u:Value} {ys:List Int} (hy:RdI w 0 u ys) (hyl:ys.length≤1048576) :
  Calls Tryz.prog 51 #[u] w fun e w'=>(∃ v,e=.returned v∧OwI w' w.heap.size v ys)∧Below w.heap.size w w':=by
 have q:∀ (w:World) (a:Option Addr) (n c n' c':Nat),(binOp .eql 36 (.slice a n c) (.slice none n' c')).run Tryz.prog w=.ok (.bool a.isNone) w:=fun w a n c n' c'=>Lib.run_eql_slice_nil w _ _ a n c n' c' Tryz.undIs
 have hy0:=hy
 obtain⟨ao,c,rfl,hc,hy⟩:=hy
 go_enter Tryz.func51,Tryz.ntmps51
 cases ao with
 |none=>
  have hyn:ys=[]:=by
   rcases hy with h|⟨g,e,_⟩
   ·exact h
   ·cases e
  subst hyn
  go_wp2_with fail
  go_ret
  exact⟨⟨_,rfl,rfl,.inl ⟨rfl,rfl⟩⟩,Below.refl _ _⟩
 |some a=>
  have hb:=ae w (.cells #[] 3)
  have hO:OwI (w.alloc (.cells #[] 3)) w.heap.size (.slice (some ⟨w.heap.size,0,none⟩) 0 0) []:=⟨rfl,.inr ⟨w.heap.size,0,#[],rfl,Nat.le_refl _,heap_alloc_new w _,Nat.le_refl _,by unfold maxLen;omega,rfl,rfl⟩⟩
  obtain⟨v',w',hr,ho,hg⟩:=fZ _ w.heap.size _ _ [] ys hO (by simp) (hy0.up hb) (by simp) hyl
  have hb2:Below w.heap.size w w':=hb.grown hg (by simp) (by intro k hk;simp[Value.ownBlock] at hk;omega)
  clear hO hg hy hy0 hb
  go_wp2_with (at_builtin;refine wpList_append_run rfl _ _ 36 rfl rfl _ _ rfl rfl _ _ (show _=_ from hr) ?_)
  go_ret
  exact⟨⟨v',rfl,ho⟩,hb2⟩
inductive Rch (cs:List (List Int)) (fr:List Int):Int→Prop
 |here {x:Int}:x∈fr→Rch cs fr x
 |on {x y:Int}:Rch cs fr x→y∈cs.getD x.toNat []→Rch cs fr y
structure InvR (cs:List (List Int)) (fr st:List Int) (r:List Bool):Prop where
 iS:∀ x∈st,Rch cs fr x
 iM:∀ j:Nat,r[j]?=some true→Rch cs fr j
 iF:∀ x∈fr,x∈st∨r[x.toNat]?=some true
 iO:∀ j:Nat,r[j]?=some true→∀ y∈cs.getD j [],y∈st∨r[y.toNat]?=some true
def NsOk (n:Nat) (l:List Int):Prop:=∀ x∈l,0≤x∧x<n
structure CsOk (cs:List (List Int)):Prop where
 ok:∀ o∈cs,NsOk cs.length o
 len:∀ o∈cs,o.length≤65536
theorem CsOk.at {cs:List (List Int)} (h:CsOk cs) (j:Nat):NsOk cs.length (cs.getD j [])∧(cs.getD j []).length≤65536:=by
 rw[List.getD_eq_getElem?_getD]
 cases e:cs[j]? with
 |none=>exact⟨fun x h=>(by cases h),by simp⟩
 |some o=>exact⟨h.ok o (List.mem_of_getElem? e),h.len o (List.mem_of_getElem? e)⟩
theorem Rch.ok {cs:List (List Int)} {fr:List Int} (hc:CsOk cs) (hf:NsOk cs.length fr) {x:Int} (h:Rch cs fr x):0≤x∧x<cs.length:=by
 induction h with
 |here h=>exact hf _ h
 |on _ h _=>exact (hc.at _).1 _ h
theorem InvR.start (cs:List (List Int)) (fr:List Int) (n:Nat):InvR cs fr fr (List.replicate n false):=
 ⟨fun x h=>.here h,fun j h=>by rw[List.getElem?_replicate] at h;split at h<;>simp at h,fun x h=>.inl h,fun j h=>by rw[List.getElem?_replicate] at h;split at h<;>simp at h⟩
theorem InvR.done {cs:List (List Int)} {fr:List Int} {r:List Bool} (h:InvR cs fr [] r) (hc:CsOk cs) (hf:NsOk cs.length fr) (x:Int):(0≤x∧r[x.toNat]?=some true)↔Rch cs fr x:=by
 constructor
 ·rintro ⟨h0,hx⟩
  have:=h.iM _ hx
  rwa[Int.toNat_of_nonneg h0] at this
 ·intro hx
  refine⟨(hx.ok hc hf).1,?_⟩
  induction hx with
  |here hm=>exact (h.iF _ hm).resolve_left (by simp)
  |on _ hm ih=>exact (h.iO _ ih _ hm).resolve_left (by simp)
section
variable {cs:List (List Int)} {fr st:List Int} {r:List Bool} {n:Nat} {x:Int}
theorem jm (hn:st.length=n+1) (hx:x=st.getD n 0) (y:Int) (h:y∈st):y∈st.take n∨y=x:=by
 have e:st=st.take n++[x]:=by
  have h1:=List.take_succ_eq_append_getElem (l:=st) (i:=n) (by omega)
  rw[List.take_of_length_le (by omega)] at h1
  rw[hx,List.getD_eq_getElem?_getD,List.getElem?_eq_getElem (by omega)]
  exact h1
 rw[e,List.mem_append,List.mem_singleton] at h
 exact h
theorem lV (hn:st.length=n+1) (hx:x=st.getD n 0):x∈st:=by
 rw[hx,List.getD_eq_getElem?_getD,List.getElem?_eq_getElem (by omega)]
 exact List.getElem_mem _
theorem InvR.skip (h:InvR cs fr st r) (hn:st.length=n+1) (hx:x=st.getD n 0) (hr:r[x.toNat]?=some true):InvR cs fr (st.take n) r:=
 ⟨fun y hy=>h.iS y (List.mem_of_mem_take hy),h.iM,
  fun y hy=>(h.iF y hy).elim (fun k=>(jm hn hx y k).imp id fun (e:y=x)=>by rw[e];exact hr) .inr,
  fun j hj y hy=>(h.iO j hj y hy).elim (fun k=>(jm hn hx y k).imp id fun (e:y=x)=>by rw[e];exact hr) .inr⟩
theorem InvR.mark (h:InvR cs fr st r) (hn:st.length=n+1) (hx:x=st.getD n 0) (h0:0≤x) (hl:x.toNat<r.length):InvR cs fr (st.take n++cs.getD x.toNat []) (r.set x.toNat true):=by
 have hxs:Rch cs fr x:=h.iS x (lV hn hx)
 have hset:(r.set x.toNat true)[x.toNat]?=some true:=List.getElem?_set_self hl
 have hkeep:∀ j:Nat,r[j]?=some true→(r.set x.toNat true)[j]?=some true:=fun j hj=>by
  by_cases e:x.toNat=j
  ·rw[← e];exact hset
  ·rw[List.getElem?_set_ne e];exact hj
 have hold:∀ j:Nat,(r.set x.toNat true)[j]?=some true→j=x.toNat∨r[j]?=some true:=fun j hj=>by
  by_cases e:x.toNat=j
  ·exact .inl e.symm
  ·rw[List.getElem?_set_ne e] at hj;exact .inr hj
 refine⟨fun y hy=>?_,fun j hj=>?_,fun y hy=>?_,fun j hj y hy=>?_⟩
 ·rcases List.mem_append.1 hy with k|k
  ·exact h.iS y (List.mem_of_mem_take k)
  ·exact .on hxs k
 ·rcases hold j hj with rfl|k
  ·rw[Int.toNat_of_nonneg h0];exact hxs
  ·exact h.iM j k
 ·rcases h.iF y hy with k|k
  ·rcases jm hn hx y k with k|rfl
   ·exact .inl (List.mem_append_left _ k)
   ·exact .inr hset
  ·exact .inr (hkeep _ k)
 ·rcases hold j hj with rfl|k
  ·exact .inl (List.mem_append_right _ hy)
  ·rcases h.iO j k y hy with k|k
   ·rcases jm hn hx y k with k|rfl
    ·exact .inl (List.mem_append_left _ k)
    ·exact .inr hset
   ·exact .inr (hkeep _ k)
theorem iI:∀ (r:List Bool) (j:Nat),r[j]?=some false→(r.set j true).count false+1=r.count false
 |[],j,h=>by simp at h
 |b::r,0,h=>by cases h;simp
 |b::r,j+1,h=>by
  rw[List.getElem?_cons_succ] at h
  have:=iI r j h
  rw[List.set_cons_succ,List.count_cons,List.count_cons]
  omega
end
def unm (w:World) (b:Nat):Nat:=match w.heap[b]? with
 |some (.cells cs _ _)=>(cs.toList.map fun v=>match v with|.bool false=>1|_=>0).sum
 |_=>0
theorem nW {w:World} {b:Nat} {t:TypeId} {r:List Bool} (h:Bk w b t (r.map .bool)):unm w b=r.count false:=by
 unfold unm
 unfold Bk at h
 rw[h]
 clear h
 show (((r.map Value.bool).toArray.toList).map _).sum=_
 rw[List.toList_toArray,List.map_map]
 induction r with
 |nil=>rfl
 |cons x r ih=>
  rw[List.map_cons,List.sum_cons,ih,List.count_cons]
  cases x
  ·show 1+_=_;simp;omega
  ·show 0+_=_;simp
def lenV:Value→Nat
 |.slice _ n _=>n
 |_=>0
def kL (w:World) (b:Nat) (cs:List (List Int)):Prop:=∃ vs:List Value,Bk w b 36 vs∧vs.length=cs.length∧∀ (j:Nat) (o:List Int),cs[j]?=some o→RdI w 0 (vs.getD j (.slice none 0 0)) o
theorem kL.up {w w':World} {b:Nat} {cs:List (List Int)} (h:kL w b cs) (hb:Below w.heap.size w w'):kL w' b cs:=by
 obtain⟨vs,h1,h2,h3⟩:=h
 exact⟨vs,h1.up hb,h2,fun j o hj=>(h3 j o hj).up hb⟩
theorem di.gen {w:World} {b n k:Nat} {kn:List UInt8→Option Int} {gs:List Fn1} (h:di w b n kn gs k) (hk:k=n):∃ cs:List (List Int),kL w b cs∧cs.length=n∧∀ (j:Nat) (o:List Int),cs[j]?=some o→IsNs (caE kn (gs.getD j fd).body) o:=by
 obtain⟨vs,oss,h1,h2,h3,h4⟩:=h
 exact⟨oss,⟨vs,h1,by omega,fun j o hj=>(h4 j o hj).2.mono (Nat.zero_le _)⟩,by omega,fun j o hj=>(h4 j o hj).1⟩
theorem Tryz.undBr:Tryz.prog.underlying 71=some (.slice 4):=by kernel_rfl
theorem Tryz.infoBr:(Tryz.prog.info? 4).map (fun i=>(i.zero,i.size,i.bytes))=some (some (.bool false),1,1):=by kernel_rfl
theorem make_bools (w:World) (n:Nat) (hn:n≤65536):(Instr.makeSlice 71 (.int .i64 (n:Int)) (.int .i64 (n:Int))).run Tryz.prog w=.ok (.slice (some ⟨w.heap.size,0,none⟩) n n) (w.alloc (.cells (madeCells #[.bool false] n) 4)):=
 run_make_row' _ _ _ 1 Tryz.undBr Tryz.infoBr rfl .i64 .i64 n (by omega) (by omega) w
theorem made_bools (n:Nat):(madeCells #[.bool false] n).toList=(List.replicate n false).map Value.bool:=by
 apply List.ext_getElem
 ·simp[size_madeCells]
 ·intro i h1 h2
  simp[madeCells,Nat.mod_one]
def NewMarks (w:World) (cs:List (List Int)) (fr:List Int) (e:Ending) (w':World):Prop:=
 ∃ (b:Nat) (r:List Bool),e=.returned (.slice (some ⟨b,0,none⟩) cs.length cs.length)∧w.heap.size≤b∧Bk w' b 4 (r.map .bool)∧r.length=cs.length∧(∀ x:Int,(0≤x∧r[x.toNat]?=some true)↔Rch cs fr x)∧Below w.heap.size w w'
theorem reachedFrom_any {w:World} {ro:Nat} {cs:List (List Int)} {fr:List Int} {u:Value} (hR:kL w ro cs) (hu:RdI w 0 u fr) (hcs:CsOk cs) (hfr:NsOk cs.length fr) (hfl:fr.length≤65536) (hn:cs.length≤65536) :
  Calls Tryz.prog 32 #[.slice (some ⟨ro,0,none⟩) cs.length cs.length,u] w fun e w'=>NewMarks w cs fr e w':=by
 have hmk:=make_bools w cs.length hn
 have hbX:=ae w (.cells (madeCells #[.bool false] cs.length) 4)
 have hMX:Bk (w.alloc (.cells (madeCells #[.bool false] cs.length) 4)) w.heap.size 4 ((List.replicate cs.length false).map Value.bool):=by
  have h:=Bk.new w 4 (madeCells #[.bool false] cs.length)
  rwa[made_bools] at h
 have HF:Hid (NsOk cs.length fr):=hfr
 go_enter Tryz.func32,Tryz.ntmps32
 go_upto_region 2 with fail
 generalize w.alloc (.cells (madeCells #[.bool false] cs.length) 4)=X at *
 have hwX:w.heap.size<X.heap.size:=hMX.lt
 have hk:=cloneI_any (hu.up hbX) (by omega)
 clear hmk hfr
 go_wp2_with fail
 refine hk.mono ?_
 rintro e Y ⟨⟨v,rfl,hOY⟩,hbY⟩
 have hBY:=Below.thn hbX hbY
 have hMY:=hMX.up hbY
 have HI0:Hid (InvR cs fr fr (List.replicate cs.length false)):=InvR.start cs fr cs.length
 obtain⟨B,hB⟩:∃ B,B=X.heap.size:=⟨_,rfl⟩
 rw[← hB] at hOY hwX
 clear hk hbX hbY hMX hu hB
 have hYB:B≤Y.heap.size∨True:=.inr trivial
 go_wp2_with fail
 go_loopw [6] (fun v wr=>∃ (st:List Int) (r:List Bool),OwI wr B v st∧Bk wr w.heap.size 4 (r.map Value.bool)∧r.length=cs.length∧Hid (InvR cs fr st r)∧st.length+r.count false*65537≤4295098368∧Below w.heap.size w wr) (fun v wr=>unm wr w.heap.size*65537+lenV v)
 case atStart=>exact⟨fr,List.replicate cs.length false,hOY,hMY,by simp,HI0,by simp;omega,hBY⟩
 case round=>
  obtain⟨st,r,hO,hM,hl,HI,hq,hB⟩:=hrel
  clear hOY hMY hBY HI0
  by_cases hs:st.length=0
  ·obtain rfl:st=[]:=List.eq_nil_of_length_eq_zero hs
   obtain⟨ao,cv,rfl,-⟩:=hO.rd
   have HD:=HI.out.done hcs HF.out
   simp only[List.length_nil]
   clear hO HI
   go_wp2_with fail
   go_ret
   exact⟨w.heap.size,r,rfl,Nat.le_refl _,hM,hl,HD,hB⟩
  ·obtain⟨n,hsn⟩:∃ n,st.length=n+1:=⟨st.length-1,by omega⟩
   obtain⟨g,cap,rfl,hcap,hcell,hOn⟩:=hO.pop (n:=n) (by omega)
   obtain⟨x,hx⟩:∃ x,x=st.getD n 0:=⟨_,rfl⟩
   rw[← hx] at hcell
   have hxr:=(HI.out.iS x (lV hsn hx)).ok hcs HF.out
   obtain⟨i,rfl⟩:∃ i:Nat,x=(i:Int):=⟨x.toNat,by omega⟩
   have hil:i<r.length:=by omega
   have hic:i<cs.length:=by omega
   obtain⟨q,hq0⟩:∃ q,r[i]?=some q:=⟨_,List.getElem?_eq_getElem hil⟩
   have hmc:wr.cell? ⟨w.heap.size,i,none⟩=some (.bool q):=by rw[hM.cell,List.getElem?_map,hq0];rfl
   have hgB:B≤g:=hOn.low g rfl
   have hsl:=fun W=>run_slice_hiI g 0 (n+1) cap n hcap W
   rw[hsn]
   cases q with
   |true=>
    have HI2:Hid (InvR cs fr (st.take n) r):=HI.out.skip hsn hx hq0
    have hms:unm wr w.heap.size=r.count false:=nW hM
    clear hO HI hx hq0 hxr
    go_wp2_with fail
    go_roundw
    case rel=>exact⟨st.take n,r,hOn,hM,hl,HI2,by rw[List.length_take];omega,hB⟩
    case measure=>simp[lenV]
   |false=>
    have HI2:Hid (InvR cs fr (st.take n++cs.getD i []) (r.set i true)):=HI.out.mark hsn hx (Int.natCast_nonneg i) hil
    have hcm:=iI r i hq0
    have hms:unm wr w.heap.size=r.count false:=nW hM
    have hfz:=hM.frz i
    have hM2:Bk (wr.setCell ⟨w.heap.size,i,none⟩ (.bool true)) w.heap.size 4 ((r.set i true).map Value.bool):=by rw[List.map_set];exact hM.set i (.bool true)
    have ho:Oth w.heap.size wr (wr.setCell ⟨w.heap.size,i,none⟩ (.bool true)):=(Oth.refl _ wr).set i _
    have hB2:Below w.heap.size w (wr.setCell ⟨w.heap.size,i,none⟩ (.bool true)):=⟨ho.os.trans hB.os,ho.tape.trans hB.tape,ho.output.trans hB.output,by rw[ho.size];exact hB.size,fun k hk=>(ho.block k (by omega)).trans (hB.block k hk)⟩
    have hO2:OwI (wr.setCell ⟨w.heap.size,i,none⟩ (.bool true)) B (.slice (some ⟨g,0,none⟩) n cap) (st.take n):=hOn.keep fun k hk _=>ho.block k (by omega)
    have hgs:g<wr.heap.size:=(World.ownsRow.lt hOn g rfl).2
    obtain⟨vs,hV,hvl,hvr⟩:=hR.up hB2
    obtain⟨o,hoe⟩:∃ o,cs[i]?=some o:=⟨_,List.getElem?_eq_getElem hic⟩
    have hrd:=hvr i o hoe
    have hod:cs.getD i []=o:=by rw[List.getD_eq_getElem?_getD,hoe];rfl
    have hol:o.length≤65536:=hcs.len o (List.mem_of_getElem? hoe)
    rw[hod] at HI2
    obtain⟨z,hz⟩:∃ z,z=vs.getD i (.slice none 0 0):=⟨_,rfl⟩
    rw[← hz] at hrd
    have hvc:(wr.setCell ⟨w.heap.size,i,none⟩ (.bool true)).cell? ⟨ro,i,none⟩=some z:=by rw[hV.cell,hz,List.getD_eq_getElem?_getD,List.getElem?_eq_getElem (by omega)];rfl
    obtain⟨v',w',hr,hO3,hg3⟩:=fZ _ B _ z (st.take n) o hO2 (by rw[ho.size];omega) hrd (by rw[List.length_take];omega) (by omega)
    have hM3:Bk w' w.heap.size 4 ((r.set i true).map Value.bool):=(hg3.block _ hM2.lt (by simp[Value.ownBlock];omega)).trans hM2
    have hB3:Below w.heap.size w w':=hB2.grown hg3 (by rw[ho.size];omega) (by intro k hk;simp[Value.ownBlock] at hk;omega)
    have hlt:(st.take n++o).length≤n+65536:=by rw[List.length_append,List.length_take];omega
    have hms3:unm w' w.heap.size=(r.set i true).count false:=nW hM3
    have hlv:lenV v'=(st.take n++o).length:=by obtain⟨_,_,rfl,_⟩:=hO3.rd;rfl
    clear hO HI hM hM2 hO2 hOn hB2 hV hvr hg3 hB hrd hx hq0 hxr hod hoe hz
    go_wp2_with (at_builtin;refine wpList_append_run rfl _ _ 36 rfl rfl _ _ rfl rfl _ _ (show _=_ from hr) ?_)
    go_roundw
    case rel=>exact⟨st.take n++o,r.set i true,hO3,hM3,by rw[List.length_set,hl],HI2,by omega,hB3⟩
    case measure=>rw[hms3,hlv,hms];simp only[lenV];omega
section
variable {kn:List UInt8→Option Int} {n:Nat}
mutual
theorem lG (hk:∀ s,0≤(kn s).getD 0∧(kn s).getD 0<n):∀ e:Ex,NsOk n (caE kn e)
 |.mk op name _ _ _ _ xs _=>fun x h=>by
  rw[lI,List.mem_append] at h
  rcases h with h|h
  ·split at h
   ·rw[List.mem_singleton] at h;rw[h];exact hk name
   ·cases h
  ·exact pM hk xs x h
theorem pM (hk:∀ s,0≤(kn s).getD 0∧(kn s).getD 0<n):∀ xs:List Ex,NsOk n (caL kn xs)
 |[]=>fun x h=>by rw[gN] at h;cases h
 |y::xs=>fun x h=>by
  rw[dQ,List.mem_append] at h
  rcases h with h|h
  ·exact lG hk y x h
  ·exact pM hk xs x h
end
end
theorem nV (gs:List Fn1) (k:Nat) (h:0<k) (s:List UInt8):0≤(knK gs k s).getD 0∧(knK gs k s).getD 0<k:=by
 cases e:knK gs k s with
 |none=>exact⟨Int.le_refl _,by simp;omega⟩
 |some i=>exact og gs s i k e
theorem IsNs.len {l o:List Int} (h:IsNs l o):o.length≤l.length:=by
 obtain⟨s,h1,h2,h3⟩:=gY l
 have hp:o.Perm s:=(List.perm_ext_iff_of_nodup h.nodup h1).2 fun x=>by rw[h.2,h2]
 rw[hp.length_eq];exact h3
def csG (gs:List Fn1):List (List Int):=gs.map fun g=>caE (knK gs gs.length) g.body
theorem jZ (gs:List Fn1) (j:Nat) (h:j<gs.length):(csG gs).getD j []=caE (knK gs gs.length) (gs.getD j fd).body:=by
 unfold csG
 rw[List.getD_eq_getElem?_getD,List.getElem?_map,List.getD_eq_getElem?_getD,List.getElem?_eq_getElem h]
 rfl
theorem Rch.mem {cs cs':List (List Int)} {fr fr':List Int} (hf:∀ x,x∈fr→x∈fr') (hc:∀ (j:Nat) x,x∈cs.getD j []→x∈cs'.getD j []) {x:Int} (h:Rch cs fr x):Rch cs' fr' x:=by
 induction h with
 |here h=>exact .here (hf _ h)
 |on _ h ih=>exact .on ih (hc _ _ h)
section
variable {gs:List Fn1} {cs:List (List Int)}
theorem jw (hl:cs.length=gs.length) (h:∀ (j:Nat) (o:List Int),cs[j]?=some o→IsNs (caE (knK gs gs.length) (gs.getD j fd).body) o) (j:Nat) (x:Int):x∈cs.getD j []↔x∈(csG gs).getD j []:=by
 by_cases hj:j<gs.length
 ·rw[jZ gs j hj]
  have e:cs[j]?=some (cs.getD j []):=by rw[List.getD_eq_getElem?_getD,List.getElem?_eq_getElem (by omega)];rfl
  exact (h j _ e).2 x
 ·have e1:cs.getD j []=[]:=by rw[List.getD_eq_getElem?_getD,List.getElem?_eq_none (by omega)];rfl
  have e2:(csG gs).getD j []=[]:=by rw[List.getD_eq_getElem?_getD,List.getElem?_eq_none (by unfold csG;rw[List.length_map];omega)];rfl
  rw[e1,e2]
theorem rows_ok (hl:cs.length=gs.length) (h:∀ (j:Nat) (o:List Int),cs[j]?=some o→IsNs (caE (knK gs gs.length) (gs.getD j fd).body) o) (hsz:∀ g∈gs,szE g.body≤65536):CsOk cs:=by
 refine⟨fun o ho x hx=>?_,fun o ho=>?_⟩<;>obtain⟨j,hj,rfl⟩:=List.getElem_of_mem ho
 ·have:=(h j _ (List.getElem?_eq_getElem hj)).2 x
  rw[hl]
  exact lG (fun s=>nV gs gs.length (by omega) s) _ x (this.1 hx)
 ·have h1:=(h j _ (List.getElem?_eq_getElem hj)).len
  have h2:=kT (knK gs gs.length) (gs.getD j fd).body
  have hm:gs.getD j fd∈gs:=by rw[List.getD_eq_getElem?_getD,List.getElem?_eq_getElem (by omega)];exact List.getElem_mem _
  have:=hsz _ hm
  omega
theorem rows_rch (hl:cs.length=gs.length) (h:∀ (j:Nat) (o:List Int),cs[j]?=some o→IsNs (caE (knK gs gs.length) (gs.getD j fd).body) o) {fr fr':List Int} (hf:∀ x,x∈fr↔x∈fr') (x:Int):Rch cs fr x↔Rch (csG gs) fr' x:=
 ⟨Rch.mem (fun x h=>(hf x).1 h) fun j x=>(jw hl h j x).1,Rch.mem (fun x h=>(hf x).2 h) fun j x=>(jw hl h j x).2⟩
end
theorem mH (w:World) (i:Int):RdI (w.alloc (.cells #[.int .i64 i] 3)) 0 (.slice (some ⟨w.heap.size,0,none⟩) 1 1) [i]:=
 ⟨_,1,rfl,(fun e=>by cases e),.inr ⟨w.heap.size,rfl,Nat.zero_le _,by simp,fun j z hj=>by
  have h:=(Bk.new w 3 #[.int .i64 i]).cell j
  rw[h]
  cases j with
  |zero=>cases hj;rfl
  |succ j=>simp at hj⟩⟩
def nums (r:List Bool):Nat→List Int
 |0=>[]
 |k+1=>nums r k++if r[k]?=some true then [(k:Int)] else []
theorem fu (r:List Bool) (x:Int):∀ k,x∈nums r k↔0≤x∧x<k∧r[x.toNat]?=some true
 |0=>by simp only[nums,List.not_mem_nil,false_iff];omega
 |k+1=>by
  unfold nums
  rw[List.mem_append,fu r x k]
  by_cases e:x=k
  ·subst e
   simp only[Int.toNat_natCast]
   split
   ·next h=>simp[h];omega
   ·next h=>simp[h]
  ·have:x ∉ (if r[k]?=some true then [(k:Int)] else []):=by split<;>simp[e]
   simp only[this,or_false]
   constructor
   ·rintro ⟨h1,h2,h3⟩;exact⟨h1,by omega,h3⟩
   ·rintro ⟨h1,h2,h3⟩;exact⟨h1,by omega,h3⟩
theorem jr (r:List Bool):∀ k,(nums r k).length≤k
 |0=>Nat.le_refl _
 |k+1=>by
  unfold nums
  have:=jr r k
  rw[List.length_append]
  split<;>simp<;>omega
theorem kR (r:List Bool):∀ k,(nums r k).Pairwise (·<·)
 |0=>List.Pairwise.nil
 |k+1=>by
  unfold nums
  refine List.pairwise_append.2 ⟨kR r k,by split<;>simp,fun a ha b hb=>?_⟩
  split at hb
  ·rw[List.mem_singleton] at hb
   have:=((fu r a k).1 ha).2.1
   omega
  ·cases hb
def nY (w:World) (gs:List Fn1) (i:Int) (e:Ending) (w':World):Prop:=
 Below w.heap.size w w'∧((scP gs).1≠0∧e=.returned (.tuple #[.slice none 0 0,.int .i64 3]) ∨
  (scP gs).1=0∧(i<0∨(gs.length:Int)≤i)∧e=.returned (.tuple #[.slice none 0 0,.int .i64 2]) ∨
  (scP gs).1=0∧0≤i∧i<gs.length∧∃ v o,e=.returned (.tuple #[v,.int .i64 0])∧RdI w' w.heap.size v o∧o.Pairwise (·<·)∧∀ x,x∈o↔Rch (csG gs) [i] x)
section
variable {w:World} {A:Nat→Prop} {ao:Option Addr} {gs:List Fn1} {c:Nat}
theorem reach_any (hF:FlW w A ao gs) (hA:∀ k,A k→k<w.heap.size) (hln:∀ g∈gs,lnF g) (hsz:∀ g∈gs,szE g.body≤65536) (hps:∀ g∈gs,g.pms.length≤65536) (hgs:gs.length≤65536) (i:Int) :
  Calls Tryz.prog 14 #[.agg #[.slice ao gs.length c],.int .i64 i] w fun e w'=>nY w gs i e w':=by
 have hb0:=ae w (.cells #[.slice ao gs.length c] 26)
 have hL0:=Bk.new w 26 #[.slice ao gs.length c]
 go_enter Tryz.func14,Tryz.ntmps14
 go_upto_region 1 with fail
 generalize w.alloc (.cells #[.slice ao gs.length c] 26)=W at *
 have hwW:w.heap.size<W.heap.size:=hL0.lt
 have c0:W.cell? ⟨w.heap.size,0,none⟩=some (.slice ao gs.length c):=hL0.cell 0
 have hFW:=hF.up hb0
 have hs:=callsWith_any (c:=c) hFW (fun k h=>by have:=hA k h;omega) hln hsz hps hgs i
 go_wp2_with fail
 refine hs.mono ?_
 rintro e w2 ⟨hb2,h⟩
 have hB2:=Below.thn hb0 hb2
 clear hs c0 hFW hL0 hb0 hb2
 rcases h with⟨hz,rfl⟩|⟨hz,h1,rfl⟩|⟨hz,h1,h2,b,rfl,hb,hR⟩
 ·go_wp2_with fail
  exact bodyPost_ret (v:=.tuple #[.slice none 0 0,.int .i64 3]) (by simp[results,Tryz.results14,go_sem]) rfl ⟨hB2,.inl ⟨hz,rfl⟩⟩
 ·go_wp2_with fail
  exact bodyPost_ret (v:=.tuple #[.slice none 0 0,.int .i64 2]) (by simp[results,Tryz.results14,go_sem]) rfl ⟨hB2,.inr (.inl ⟨hz,h1,rfl⟩)⟩
 ·obtain⟨cs,hG,hcl,hcn⟩:=hR.gen rfl
  have hok:=rows_ok hcl hcn hsz
  have hbS:=ae w2 (.cells #[.int .i64 i] 3)
  have hk:=reachedFrom_any (hG.up hbS) (mH w2 i) hok (fun x h=>by rw[List.mem_singleton] at h;subst h;exact⟨h1,by omega⟩) (by simp) (by omega)
  rw[hcl] at hk
  have HE:Hid (∀ x,Rch cs [i] x↔Rch (csG gs) [i] x):=rows_rch hcl hcn fun _=>Iff.rfl
  clear hR hG hok hcn
  go_wp2_with fail
  refine hk.mono ?_
  rintro e w3 ⟨b2,r,rfl,hb2,hM,hrl,hrch,hb3⟩
  rw[hcl] at hrl ⊢
  have hB3:=Below.thn hB2 (Below.thn hbS hb3)
  have HX:Hid (∀ x:Int,(0≤x∧r[x.toNat]?=some true)↔Rch (csG gs) [i] x):=fun x=>(hrch x).trans (HE.out x)
  clear hk hbS hb3 hrch HE hcl
  have hO3:OwI w3 w3.heap.size (.slice none 0 0) (nums r 0):=⟨rfl,.inl ⟨rfl,rfl⟩⟩
  obtain⟨C,hC⟩:∃ C,C=w3.heap.size:=⟨_,rfl⟩
  have hwC:w.heap.size≤C:=by rw[hC];exact hB3.size
  have HC:Hid (C=w3.heap.size):=hC
  rw[← hC] at hO3
  clear hC
  go_wp2_with fail
  go_loopw [25,8] (fun v u wr=>∃ k:Nat,k≤gs.length∧v=.int .i64 k∧OwI wr C u (nums r k)∧Below C w3 wr) (fun v _ _=>gs.length-(intOf v).toNat)
  case atStart=>exact⟨0,Nat.zero_le _,rfl,hO3,Below.refl _ _⟩
  case round=>
   obtain⟨k,hkn,rfl,hO,hBk⟩:=hrel
   clear hO3
   have hCw:C≤wr.heap.size:=by have:=hBk.size;rw[HC.out];exact this
   have hbC:b2<C:=by rw[HC.out];exact hM.lt
   obtain⟨av,cv,rfl,-⟩:=hO.rd
   by_cases hlt:k<gs.length
   ·have hMk:Bk wr b2 4 (r.map Value.bool):=(hBk.block b2 hbC).trans hM
    obtain⟨q,hq0⟩:∃ q,r[k]?=some q:=⟨_,List.getElem?_eq_getElem (by omega)⟩
    have hmc:wr.cell? ⟨b2,k,none⟩=some (.bool q):=by rw[hMk.cell,List.getElem?_map,hq0];rfl
    cases q with
    |false=>
     have HN:Hid (nums r (k+1)=nums r k):=by
      refine (show nums r k++(if r[k]?=some true then [(k:Int)] else [])=_ from ?_)
      rw[hq0,if_neg (by decide),List.append_nil]
     clear hMk hq0
     go_wp2_with fail
     go_roundw
     case rel=>exact⟨k+1,by omega,by go_num,by rw[HN.out];exact hO,hBk⟩
     case measure=>simp[intOf];omega
    |true=>
     have HN:Hid (nums r (k+1)=nums r k++[(k:Int)]):=by
      refine (show nums r k++(if r[k]?=some true then [(k:Int)] else [])=_ from ?_)
      rw[hq0,if_pos rfl]
     have hbS:=ae wr (.cells #[.int .i64 (k:Int)] 3)
     have hO2:OwI (wr.alloc (.cells #[.int .i64 (k:Int)] 3)) C (.slice av (nums r k).length cv) (nums r k):=hO.keep fun b _ hl=>hbS.block b hl
     obtain⟨v',w',hr,hO4,hg4⟩:=fZ _ C _ _ (nums r k) [(k:Int)] hO2 (by simp;omega) (mH wr k) (by have:=jr r k;omega) (by simp)
     have hB4:Below C w3 w':=(hBk.trans (hbS.mono hCw)).grown hg4 (by simp;omega) hO2.low
     clear hMk hq0 hbS hO2 hg4 hO hBk
     go_wp2_with (at_builtin;refine wpList_append_run rfl _ _ 36 rfl rfl _ _ rfl rfl _ _ (show _=_ from hr) ?_)
     go_roundw
     case rel=>exact⟨k+1,by omega,by go_num,by rw[HN.out];exact hO4,hB4⟩
     case measure=>simp[intOf];omega
   ·have hke:k=gs.length:=by omega
    subst hke
    have hBe:Below w.heap.size w wr:=hB3.trans (hBk.mono hwC)
    have hrd:=hO.rd.mono hwC
    have HM:Hid (∀ x,x∈nums r gs.length↔Rch (csG gs) [i] x):=fun x=>by
     rw[fu,← HX.out x]
     constructor
     ·rintro ⟨a,_,b⟩;exact⟨a,b⟩
     ·rintro ⟨a,b⟩
      have:=(List.getElem?_eq_some_iff.1 b).1
      exact⟨a,by omega,b⟩
    clear hO hM
    go_wp2_with fail
    exact bodyPost_ret (v:=.tuple #[.slice av (nums r gs.length).length cv,.int .i64 0]) (by simp[results,Tryz.results14,go_sem]) rfl ⟨hBe,.inr (.inr ⟨hz,h1,h2,_,nums r gs.length,rfl,hrd,kR r _,HM.out⟩)⟩
end
def QI (w:World) (B:Nat) (v:Value) (st:List Int):Prop:=
 (st=[]∧v=.slice none 0 0)∨∃ g off cap cur,v=.slice (some ⟨g,off,none⟩) st.length cap∧B≤g∧Bk w g 3 cur∧st.length≤cap∧off+cap≤cur.length∧∀ (j:Nat) (z:Int),st[j]?=some z→w.cell? ⟨g,off+j,none⟩=some (.int .i64 z)
theorem QI.keep {w w':World} {B:Nat} {v:Value} {xs:List Int} (h:QI w B v xs) (hk:∀ b,B≤b→b<w.heap.size→w'.heap[b]?=w.heap[b]?):QI w' B v xs:=by
 rcases h with h|⟨g,off,cap,cur,e,hg,hb,h1,h2,h3⟩
 ·exact .inl h
 ·have hbl:=hk g hg hb.lt
  exact .inr ⟨g,off,cap,cur,e,hg,hbl.trans hb,h1,h2,fun j z hj=>(World.cell?_of_block (w:=w) (a:=⟨g,off+j,none⟩) hbl).trans (h3 j z hj)⟩
section
variable {cs:List (List Int)} {fr st:List Int} {r:List Bool} {x:Int}
end
def ctT (t:List (List Bool)):List (List Int):=t.map fun row=>nums row row.length
theorem ctT_at {t:List (List Bool)} {j:Nat} {row:List Bool} (h:t[j]?=some row):(ctT t).getD j []=nums row row.length:=by
 unfold ctT
 rw[List.getD_eq_getElem?_getD,List.getElem?_map,h]
 rfl
theorem oF {t:List (List Bool)} (ht:t.length≤65536) (hrow:∀ row∈t,row.length=t.length):CsOk (ctT t):=by
 refine⟨fun o ho x hx=>?_,fun o ho=>?_⟩<;>obtain⟨row,hr,rfl⟩:=List.mem_map.1 ho
 ·have:=(fu row x row.length).1 hx
  have h2:=hrow row hr
  unfold ctT
  rw[List.length_map]
  omega
 ·have:=jr row row.length
  have h2:=hrow row hr
  omega
end Go.Proofs.YtimoappbefindaaGreat
