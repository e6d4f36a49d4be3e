/-
  3 texts in one: what each proves stands at its head.
-/
import Derived.Maps.Views
import Derived.Lib.SlKeysI
import Derived.Test.YtimoappbefindaaGreatUk
import Derived.Test.YtimoappbefindaaGreatShi
import Derived.Test.YtimoappbefindaaGreatUkb
import Derived.Test.YtimoappbefindaaGreatUl
import Derived.Deep.OwnRows
namespace Go.Proofs.YtimoappbefindaaGreat
set_option maxHeartbeats 8000000
open Go.RowKit Go.Maps Go.WideMaps Go.Sort Go.Shelf
set_option maxRecDepth 100000
def MapI (P:Program) (k:TypeId) (w:World) (b n s:Nat) (f:Int→Option Value):Prop:=
 ∃ D,w.ownsMap P k rdr b n D∧Maps.size D=s∧∀ a:Int,Maps.has D (.int .i64 a)=(f a).isSome∧∀ z,D.atKey (.int .i64 a) (.held z)=.held ((f a).getD z)
def putI (f:Int→Option Value) (a:Int) (v:Value):Int→Option Value:=fun t=>if t=a then some v else f t
section
variable {P:Program} {k e t:TypeId} {w w':World} {b n s:Nat} {f:Int→Option Value}
theorem MapI.lt (h:MapI P k w b n s f):b<w.heap.size:=by
 obtain⟨D,h,_⟩:=h
 exact h.lt
theorem MapI.block (h:MapI P k w b n s f) (hb:w'.heap[b]?=w.heap[b]?):MapI P k w' b n s f:=by
 obtain⟨D,⟨es,clock,h1,r⟩,r2⟩:=h
 exact⟨D,⟨es,clock,hb.trans h1,r⟩,r2⟩
theorem MapI.mono (h:MapI P k w b n s f) {m:Nat} (hm:n≤m):MapI P k w b m s f:=by
 obtain⟨D,h,r⟩:=h
 exact⟨D,h.mono hm,r⟩
theorem MapI.made (w:World) (P:Program) (k:TypeId):MapI P k (w.alloc (.map #[] 0)) w.heap.size 0 0 fun _=>none:=
 ⟨.map [],World.ownsMap_made w P k rdr,rfl,fun _=>⟨rfl,fun _=>rfl⟩⟩
theorem MapI.len (h:MapI P k w b n s f) (ht:P.underlying t=some (.map k e)) (ty:TypeId):(Builtin.len_ #[t] ty #[.map (some b)]).run P w=.ok (.int .i64 s) w:=by
 obtain⟨D,h,hs,_⟩:=h
 rw[← hs]
 exact h.len ht ty
theorem mH (a:Int):WideAt.IsKeyLit (.int .i64 a):=trivial
theorem MapI.put (h:MapI P k w b n s f) (hk:P.underlying k=some (.int .i64)) (ht:P.underlying t=some (.map k e)) (hn:n<maxLen) {a:Int} (ha:(Lit.int .i64 a).wf=true) (v:Value) :
  ∃ w',(Instr.mapUpdate t (.map (some b)) (.int .i64 a) v).run P w=.ok () w'∧MapI P k w' b (n+1) (if (f a).isSome then s else s+1) (putI f a v)∧w.grownBy w' (some b):=by
 obtain⟨D,h,hs,r⟩:=h
 obtain⟨w',hrun,ho,hg⟩:=h.update (int_keyed hk) ht hn (keyOf_int_mk hk ha) (val:=v) (d:=.held v) (ps:=[]) rfl
 refine⟨w',hrun,⟨_,ho,?_,fun t=>?_⟩,hg⟩
 ·rw[size_put (h.tidy (int_keyed hk)),(r a).1,hs]
 ·unfold putI
  by_cases e:t=a
  ·subst e
   rw[if_pos rfl]
   exact⟨has_put_same h.isMap (mH t) _,fun z=>atKey_put_same h.isMap (mH t) _ _⟩
  ·rw[if_neg e]
   have hne:(Lit.int .i64 t)≠.int .i64 a:=fun x=>e (by cases x;rfl)
   exact⟨(has_put_other hne _).trans (r t).1,fun z=>(atKey_put_other hne _ _).trans ((r t).2 z)⟩
end
section
variable {P:Program} {w:World} {ops:Array Oper} {rest:List Oper} {o:Oper} {a:Act} {Q:Exit→Act→World→Prop} {k e t:TypeId} {b n s:Nat} {f:Int→Option Value}
theorem wpList_putI (hg:o.guard=none) (m x y:Operand) (hop:o.op=Op.mapUpdate t m x y) (hk:P.underlying k=some (.int .i64)) (ht:P.underlying t=some (.map k e)) (h:MapI P k w b n s f) (hn:n<maxLen) {i:Int} (hi:(Lit.int .i64 i).wf=true) (v:Value)
  (hm:a.eval m=.map (some b)) (hx:a.eval x=.int .i64 i) (hy:a.eval y=v) (hK:∀ w',MapI P k w' b (n+1) (if (f i).isSome then s else s+1) (putI f i v)→w.grownBy w' (some b)→wpList P ops Q rest (a.put o.dst undef) w'):wpList P ops Q (o::rest) a w:=by
 refine wpList_plain hg fun K' hK'=>?_
 obtain⟨w',hrun,r1,r2⟩:=h.put hk ht hn hi v
 unfold Oper.wp
 simp[execOp,hop,hm,hx,hy,hrun,Result.andThen]
 exact hK' _ _ (hK w' r1 r2)
end
theorem Tryz.undIt:Tryz.prog.underlying 3=some (.int .i64):=by kernel_rfl
theorem Tryz.undSi:Tryz.prog.underlying 95=some (.map 3 101):=by kernel_rfl
def Si (w:World) (m:Nat) (l:List Int):Prop:=∃ s,MapI Tryz.prog 3 w m l.length s fun a=>if a∈l then some (.agg #[]) else none
theorem Si.lt {w:World} {m:Nat} {l:List Int} (h:Si w m l):m<w.heap.size:=by
 obtain⟨s,h⟩:=h
 exact h.lt
theorem Si.block {w w':World} {m:Nat} {l:List Int} (h:Si w m l) (hb:w'.heap[m]?=w.heap[m]?):Si w' m l:=by
 obtain⟨s,h⟩:=h
 exact⟨s,h.block hb⟩
theorem Si.up {w w':World} {m:Nat} {l:List Int} (h:Si w m l) (hb:Below w.heap.size w w'):Si w' m l:=h.block (hb.block m h.lt)
theorem Si.made (w:World):Si (w.alloc (.map #[] 0)) w.heap.size []:=by
 refine⟨0,?_⟩
 have h:=MapI.made w Tryz.prog 3
 have e:(fun _:Int=>(none:Option Value))=fun a=>if a∈([]:List Int) then some (.agg #[]) else none:=funext fun a=>by simp
 rw[e] at h
 exact h
theorem si_put {w':World} {m s:Nat} {l:List Int} {i:Int} (h:MapI Tryz.prog 3 w' m (l.length+1) s (putI (fun a=>if a∈l then some (.agg #[]) else none) i (.agg #[]))):Si w' m (l++[i]):=by
 refine⟨s,?_⟩
 rw[List.length_append]
 have e:putI (fun a=>if a∈l then some (.agg #[]) else none) i (.agg #[])=fun a=>if a∈l++[i] then some (.agg #[]) else none:=funext fun t=>by
  unfold putI
  by_cases e:t=i
  ·subst e;simp
  ·simp[e]
 rw[e] at h
 exact h
def IsNs (l o:List Int):Prop:=o.Pairwise (·<·)∧∀ x,x∈o↔x∈l
theorem IsNs.nodup {l o:List Int} (h:IsNs l o):o.Nodup:=h.1.imp fun hab=>Int.ne_of_lt hab
theorem IsNs.one {l l' o o':List Int} (h:IsNs l o) (h':IsNs l' o') (e:∀ x,x∈l↔x∈l'):o=o':=by
 have hp:o.Perm o':=(List.perm_ext_iff_of_nodup h.nodup h'.nodup).2 fun x=>by rw[h.2,h'.2,e]
 exact List.Perm.eq_of_pairwise (le:=fun a b=>a<b) (fun a b _ _ h1 h2=>absurd h2 (by omega)) h.1 h'.1 hp
theorem isNs_merge {ss l:List Int} (hn:ss.Nodup) (hm:∀ x,x∈ss↔x∈l):IsNs l (ss.mergeSort fun x y=>decide (x≤y)):=by
 have tr:∀ a b c:Int,decide (a≤b)=true→decide (b≤c)=true→decide (a≤c)=true:=fun a b c h1 h2=>by simp only[decide_eq_true_eq] at *;omega
 have tot:∀ a b:Int,(decide (a≤b)||decide (b≤a))=true:=fun a b=>by simp only[Bool.or_eq_true,decide_eq_true_eq];omega
 have hn':(ss.mergeSort fun x y=>decide (x≤y)).Nodup:=(List.mergeSort_perm ss _).nodup_iff.2 hn
 refine⟨((List.pairwise_mergeSort tr tot ss).and hn').imp fun {a b} h=>?_,fun x=>by rw[(List.mergeSort_perm ss _).mem_iff,hm]⟩
 obtain⟨h1,h2⟩:=h
 simp only[decide_eq_true_eq] at h1
 omega
theorem iY:∀ l:List Int,∃ s:List Int,s.Nodup∧(∀ x,x∈s↔x∈l)∧s.length≤l.length
 |[]=>⟨[],List.nodup_nil,fun _=>Iff.rfl,Nat.le_refl _⟩
 |x::l=>by
  obtain⟨s,h1,h2,h3⟩:=iY l
  by_cases h:x∈l
  ·refine⟨s,h1,fun y=>?_,by simp only[List.length_cons];omega⟩
   rw[h2,List.mem_cons]
   exact⟨.inr,fun k=>k.elim (fun e=>e ▸ h) id⟩
  ·refine⟨x::s,List.nodup_cons.2 ⟨fun k=>h ((h2 x).1 k),h1⟩,fun y=>?_,by simp only[List.length_cons];omega⟩
   rw[List.mem_cons,List.mem_cons,h2]
def OwI (w:World) (B:Nat) (v:Value) (zs:List Int):Prop:=w.ownsRow B 3 1 v zs.length (zs.map fun z=>.int .i64 z)
theorem Tryz.sortsI (m:Nat):AnyZI.SortsIn Tryz.prog Tryz.sorted45_ren Fence.wide m:=
 ⟨fun blk off cap ss W hH hblk hsz=>callsIn_wide.2 (AnyM.slices_Sort_int Tryz.sort70 blk off cap ss W hH hblk hsz),
 fun p cap W=>callsIn_wide.2 (AnyM.slices_Sort_int_none Tryz.sort70 p cap W)⟩
theorem keysI_any (mb:Option Nat) (W:World):Calls Tryz.prog 46 #[.map mb] W fun e w'=>e=.returned (.func (.func 71) #[] #[.pointer (some ⟨W.heap.size,0,none⟩)])∧w'=W.alloc (.cells #[.map mb] 95):=
 (callsIn_wide (n:=5)).1 (AnyZI.keys_in Tryz.keys46 Fence.wide 5 trivial rfl mb W)
theorem sortedI_any {w:World} {m:Nat} {l:List Int} (hM:Si w m l) (hl:l.length≤1099511627776) :
  Calls Tryz.prog 45 #[.func (.func 71) #[] #[.pointer (some ⟨w.heap.size,0,none⟩)]] (w.alloc (.cells #[.map (some m)] 95)) fun e w'=>(∃ v o,e=.returned v∧IsNs l o∧OwI w' w.heap.size v o)∧Below w.heap.size w w':=by
 obtain⟨s,D0,hown,hs,hD⟩:=hM
 obtain⟨s0,hs1,hs2,hs3⟩:=iY l
 obtain⟨es,hDe,hpw,_⟩:=hown.entries (int_keyed Tryz.undIt)
 obtain⟨es',hDe',hko⟩:=hown.keysOf
 obtain rfl:es=es':=by rw[hDe] at hDe';simpa using hDe'
 have hhas:∀ x,x∈s0↔has (.map es) (.int .i64 x)=true:=fun x=>by
  rw[← hDe,(hD x).1,hs2]
  by_cases h:x∈l<;>simp[h]
 have hperm:s0.Perm (intKeys D0):=by
  rw[hDe]
  exact perm_intKeys hpw (fun p hp=>by obtain⟨v,hv⟩:=hko p hp;obtain⟨x,_,hx,_⟩:=Maps.keyOf_i64 Tryz.undIt hv;exact⟨x,hx⟩) hs1 hhas
 have hsz:Maps.size D0≤1099511627776:=by
  have h1:=hperm.length_eq
  have h2:(intKeys D0).length=Maps.size D0:=by rw[hDe];simp[intKeys,Maps.size]
  omega
 have hfin:∀ ss:List Int,ss.Perm (intKeys D0)→IsNs l (ss.mergeSort fun x y=>decide (x≤y)):=fun ss hp=>by
  have hp2:ss.Perm s0:=hp.trans hperm.symm
  exact isNs_merge (hp2.nodup_iff.2 hs1) fun x=>by rw[hp2.mem_iff,hs2]
 clear hDe hDe' hpw hko hhas hperm hs1 hs2 hs3 hD
 have hbl:=hown.lt
 have hseq:SeqGives Fence.wide 2 Tryz.prog 71 #[.pointer (some ⟨w.heap.size,0,none⟩)] encZ (fun ss=>ss.Perm (intKeys D0)) (Maps.size D0) (w.alloc (.cells #[.map (some m)] 95)):=
  AnyZI.keys_gives (ρ:=Tryz.keys46_ren) { Tryz.keys46 with } Fence.wide _ trivial rfl (by omega) w.heap.size m l.length D0 _ (by simp) (by simp) (by
   obtain⟨es,clock,hb,Ft,hs,hD⟩:=hown
   exact⟨es,clock,(Below.heap_alloc _ _ m hbl).trans hb,Ft,hs,hD⟩)
 have cS:=AnyZI.sorted_in Tryz.sorted45 Fence.wide 5 trivial trivial trivial trivial rfl (by omega) (Tryz.sortsI _) (enters_of Tryz.func70 (by kernel_rfl) rfl) 71 #[.pointer (some ⟨w.heap.size,0,none⟩)] trivial (enters_of Tryz.func71 (by kernel_rfl) rfl) _ _ (by unfold maxLen;omega) (by omega) _ hseq
 change CallsIn _ _ Tryz.prog 45 _ _ _ at cS
 refine ((callsIn_wide (n:=5)).1 cS).mono ?_
 rintro e w' ⟨v,ss,rfl,hS,hrow,hnil,hb⟩
 refine⟨⟨v,_,rfl,hfin ss hS,?_⟩,((Below.refl _ w).alloc (Nat.le_refl _) _).trans (hb.mono (by simp))⟩
 unfold OwI
 rw[List.length_mergeSort]
 refine⟨hrow.1,?_⟩
 rcases hrow.2 with h|⟨g,c,cur,h1,h2,h3⟩
 ·exact .inl h
 ·exact .inr ⟨g,c,cur,h1,by simp at h2;omega,h3⟩
open Go.RowKit Go.Maps
def tl:Code→Code
 |.seq _ b=>b
 |c=>c
mutual
def caE (kn:List UInt8→Option Int):Ex→List Int
 |.mk op name _ _ _ _ xs _=>(if op=7 then [(kn name).getD 0] else [])++caL kn xs
def caL (kn:List UInt8→Option Int):List Ex→List Int
 |[]=>[]
 |x::xs=>caE kn x++caL kn xs
end
section
variable (kn:List UInt8→Option Int)
theorem pQ (op:Int) (name tail:List UInt8) (ty p q:Int) (xs:List Ex) (i:Nat):caE kn (.mk op name tail ty p q xs i)=(if op=7 then [(kn name).getD 0] else [])++caL kn xs:=by rw[caE]
theorem iQ:caL kn []=[]:=by rw[caL]
theorem fq (x:Ex) (xs:List Ex):caL kn (x::xs)=caE kn x++caL kn xs:=by rw[caL]
theorem pq:∀ (xs:List Ex) (k:Nat),k<xs.length→caL kn (xs.take (k+1))=caL kn (xs.take k)++caE kn (xs.getD k ed)
 |[],_,h=>by simp at h
 |x::xs,0,_=>by simp[fq,iQ]
 |x::xs,k+1,h=>by
  rw[List.take_succ_cons,fq,pq xs k (by simpa using h),List.take_succ_cons,fq,List.getD_cons_succ,List.append_assoc]
mutual
theorem nz:∀ x:Ex,(caE kn x).length≤szE x
 |.mk op name tail ty p q xs i=>by
  rw[pQ,bP,List.length_append]
  have:=nG xs
  split
  ·rw[List.length_singleton];omega
  ·simp only[List.length_nil];omega
theorem nG:∀ xs:List Ex,(caL kn xs).length≤szL xs
 |[]=>by rw[iQ,bG];simp
 |x::xs=>by
  rw[fq,aO,List.length_append]
  have:=nz x
  have:=nG xs
  omega
end
end
def Fk (w:World) (mk nk:Nat) (kn:List UInt8→Option Int):Prop:=MapW Tryz.prog 9 w mk nk fun s=>(kn s).map (.int .i64 ·)
theorem Fk.lt {w:World} {mk nk:Nat} {kn:List UInt8→Option Int} (h:Fk w mk nk kn):mk<w.heap.size:=MapW.lt h
theorem Fk.block {w w':World} {mk nk:Nat} {kn:List UInt8→Option Int} (h:Fk w mk nk kn) (hb:w'.heap[mk]?=w.heap[mk]?):Fk w' mk nk kn:=MapW.block h hb
theorem Fk.up {w w':World} {mk nk:Nat} {kn:List UInt8→Option Int} (h:Fk w mk nk kn) (hb:Below w.heap.size w w'):Fk w' mk nk kn:=h.block (hb.block mk h.lt)
theorem Tryz.undFk:Tryz.prog.underlying 94=some (.map 9 3):=by kernel_rfl
theorem Tryz.undSt:Tryz.prog.underlying 9=some .string:=by kernel_rfl
theorem zero_int (w:World):(zeroValue 3).run Tryz.prog w=.ok (.int .i64 0) w:=by kernel_rfl
def Ki (kn:List UInt8→Option Int):Prop:=∀ s,(Lit.int .i64 ((kn s).getD 0)).wf=true
section
variable {mk mc nk:Nat} {kn:List UInt8→Option Int}
theorem mD {x2 x3 x4 x6 x7 x8 x9 x10 x11 x12 x13 x14 x15 x16 x17 x18 x19 x20 x21 x22 x23 x24 x25 x26 x27 x28:Value} {be:Nat} {xs:List Ex} {ao:Option Addr} {c:Nat} {l L:List Int} (n:Nat) (w W:World) (A:Nat→Prop)
  (ih:∀ (x:Ex),szE x≤n→n≤65536→lnE x→∀ (w:World) (A:Nat→Prop) (us:List Value) (l:List Int),ExW w A x us→(∀ k,A k→k≠mc)→Fk w mk nk kn→Si w mc l→l.length+szE x≤549755813888 →
   Calls Tryz.prog 44 #[.map (some mk),.map (some mc),.agg us.toArray] w fun e w'=>e=.returned (.tuple #[])∧Si w' mc (l++caE kn x)∧ButS (·=mc) w w')
  (hm:mk≠mc) (cd:Code) (hc:Tryz.f44.body=some cd) (hn:n≤65536) (hsz:szL xs≤n) (hw:wfL (fun s=>s.length≤140737488355328) (fun _ _=>True) xs) (hl:ElW W A ao xs) (hA:∀ k,A k→k≠mc) (hK:Fk W mk nk kn) (hS:Si W mc l) (hln:l.length+szL xs≤549755813888)
  (hbe:be≠mc) (hE:W.cell? ⟨be,5,none⟩=some (.slice ao xs.length c)) (hU:ButS (·=mc) w W) (hL:L=l++caL kn xs) :
  Code.wp Tryz.prog (tl (tl (cd))) (bodyPost Tryz.prog Tryz.f44 fun e w'=>e=.returned (.tuple #[])∧Si w' mc L∧ButS (·=mc) w w') { tmps:=#[.map (some mk),.map (some mc),x2,x3,x4,.pointer (some ⟨be,0,none⟩),x6,x7,x8,x9,x10,x11,x12,x13,x14,x15,x16,x17,x18,x19,x20,x21,x22,x23,x24,x25,x26,x27,x28],defers:=[] } W:=by
 obtain rfl:=Option.some.inj (hc.symm.trans (rfl:Tryz.f44.body=some _))
 clear hc
 dsimp only[tl]
 have IH:Hid _:=ih
 have HA:Hid (∀ k,A k→k≠mc):=hA
 have HL:Hid (L=l++caL kn xs):=hL
 have HW:Hid (wfL (fun s=>s.length≤140737488355328) (fun _ _=>True) xs):=hw
 have HM:Hid (mk≠mc∧be≠mc∧Fk W mk nk kn∧ButS (·=mc) w W∧ElW W A ao xs):=⟨hm,hbe,hK,hU,hl⟩
 have hlen:=dH xs
 obtain⟨nx,hnx⟩:∃ m,m=xs.length:=⟨_,rfl⟩
 rw[← hnx] at hE hlen
 have HN:Hid (nx=xs.length):=hnx
 have HS:Hid (Si W mc (l++caL kn (xs.take 0))):=by rw[List.take_zero,iQ,List.append_nil];exact hS
 clear ih hA hL hw hm hbe hK hU hl hnx hS
 go_wp2_with fail
 go_loopw [20] (fun v wr=>∃ k:Nat,k≤nx∧v=.int .i64 k∧Hid (Si wr mc (l++caL kn (xs.take k)))∧ButS (·=mc) W wr) (fun v _=>nx-(intOf v).toNat)
 case atStart=>exact⟨0,Nat.zero_le _,rfl,HS,.refl _ _⟩
 case round=>
  obtain⟨k,hkn,rfl,hMk,hUk⟩:=hrel
  clear HS hE
  by_cases hlt:k<nx
  ·have hkx:k<xs.length:=by rw[← HN.out];exact hlt
   have hlk:ElW wr A ao xs:=HM.out.2.2.2.2.keep fun b hb hl=>hUk.block b hl (HA.out b hb)
   have hsz1:=lw xs k hkx
   have hst:=fZ xs k hkx
   have hsT:szL (xs.take (k+1))≤szL xs:=mq xs (k+1)
   have hwk:lnE (xs.getD k ed):=qp xs HW.out k hkx
   have hal:=nG kn (xs.take k)
   obtain⟨g,off,rfl⟩:=hlk.place (by intro e;simp[e] at hkx)
   obtain⟨vs,hv,hxv⟩:=hlk.at k hkx
   obtain⟨u0,u1,u2,u3,u4,u5,u6,rfl⟩:=aQ hxv.len
   have hone:=hxv.one
   have hZ:=Bk.new wr 58 #[.int .i64 0,.string ⟨#[]⟩,.string ⟨#[]⟩,.int .i64 0,.complex .f64 0 0,.slice none 0 0,.int .i64 0]
   have HT:Hid (l++caL kn (xs.take (k+1))=(l++caL kn (xs.take k))++caE kn (xs.getD k ed)):=by rw[pq kn xs k hkx,List.append_assoc];exact rfl
   obtain⟨y,hy⟩:∃ y,y=xs.getD k ed:=⟨_,rfl⟩
   rw[← hy] at hsz1 hst hwk hxv HT
   obtain⟨l2,hl2e⟩:∃ l2,l2=l++caL kn (xs.take k):=⟨_,rfl⟩
   have hl2l:l2.length≤l.length+szL (xs.take k):=by rw[hl2e,List.length_append];omega
   have HX2:Hid (l2=l++caL kn (xs.take k)):=hl2e
   rw[← hl2e] at hMk HT
   clear hy hl2e hal hkx
   go_upto_region 6 with (first
    |refine ai rfl 58 (.tmp 22) rfl g (off+k*7) rfl [u0,u1,u2,u3,u4,u5,u6] _ hv Tryz.underE Tryz.infoE ?_
    |(refine ah rfl 58 (.tmp 7) (.tmp 23) rfl wr.heap.size 0 [u0,u1,u2,u3,u4,u5,u6] rfl rfl hZ (Nat.le_refl 7) Tryz.infoE hone ?_;intro w5 hV5 hO5))
   have hV5:Bk w5 wr.heap.size 58 [u0,u1,u2,u3,u4,u5,u6]:=hV5
   have hb5:Below wr.heap.size wr w5:=(ae wr _).trans (hO5.below (Nat.le_refl _))
   obtain⟨e0,e1,e2,e3,e4,e5,e6⟩:=Bk.seven hV5
   have hKr:Fk wr mk nk kn:=HM.out.2.2.1.block (hUk.block mk HM.out.2.2.1.lt HM.out.1)
   have hrec:=IH.out y (by omega) (by omega) hwk w5 A [u0,u1,u2,u3,u4,u5,u6] l2 (hxv.up hb5) HA.out (hKr.up hb5) (hMk.out.up hb5) (by omega)
   have hU5:=hUk.trans (.below hb5)
   clear hZ hO5 hV5 hb5 hv hxv hMk hUk hlk hKr
   go_wp2_with fail
   refine hrec.mono ?_
   rintro e w6 ⟨rfl,hM6,hU6⟩
   rw[← HT.out] at hM6
   have hU7:=hU5.trans hU6
   have HM6:Hid (Si w6 mc (l++caL kn (xs.take (k+1)))):=hM6
   clear hrec e0 e1 e2 e3 e4 e5 e6 hU5 hU6 hM6
   go_wp2_with fail
   go_roundw
   case rel=>exact⟨k+1,by omega,by go_num,HM6,hU7⟩
   case measure=>simp[intOf];omega
  ·have hke:k=nx:=by omega
   have HR:Hid (Si wr mc L):=by
    have:=hMk.out
    rw[List.take_of_length_le (by rw[hke,HN.out];exact Nat.le_refl _),← HL.out] at this
    exact this
   subst hke
   have hU2:=HM.out.2.2.2.1.trans hUk
   go_wp2_with fail
   go_end0
   exact⟨rfl,HR.out,hU2⟩
theorem addCalled_any (hm:mk≠mc) (hki:Ki kn):∀ (n:Nat) (x:Ex),szE x≤n→n≤65536→lnE x→∀ (w:World) (A:Nat→Prop) (us:List Value) (l:List Int),ExW w A x us→(∀ k,A k→k≠mc)→Fk w mk nk kn→Si w mc l→l.length+szE x≤549755813888 →
  Calls Tryz.prog 44 #[.map (some mk),.map (some mc),.agg us.toArray] w fun e w'=>e=.returned (.tuple #[])∧Si w' mc (l++caE kn x)∧ButS (·=mc) w w':=by
 intro n
 induction n with
 |zero=>intro x h;have:=eu x;omega
 |succ n ih=>
  intro x ht hn hw w A us l hx hA hK hM hl2
  have IH:Hid _:=ih
  clear ih
  cases hx with
  |mk hl=>
   rename_i op name tail ty p q xs i ao c
   unfold lnE at hw
   rw[dW] at hw
   obtain⟨hnl,htl⟩:=qd hw.1
   have HW:Hid (wfL (fun s=>s.length≤140737488355328) (fun _ _=>True) xs):=hw.2
   rw[bP] at ht hl2
   have hb0:=ae w (.cells #[.int .i64 op,.string (bs name),.string (bs tail),.int .i64 ty,.complex .f64 (fl p) (fl q),.slice ao xs.length c,.int .i64 i] 58)
   have hL:=Bk.new w 58 #[.int .i64 op,.string (bs name),.string (bs tail),.int .i64 ty,.complex .f64 (fl p) (fl q),.slice ao xs.length c,.int .i64 i]
   have hmw:=hM.lt
   have hM0:=hM.up hb0
   have hK0:=hK.up hb0
   have hl0:=hl.up hb0
   rw[pQ]
   obtain⟨L,hLd⟩:∃ L,L=l++((if op=7 then [(kn name).getD 0] else [])++caL kn xs):=⟨_,rfl⟩
   rw[← hLd]
   have HLD:Hid (L=l++((if op=7 then [(kn name).getD 0] else [])++caL kn xs)):=hLd
   have HA:Hid (∀ k,A k→k≠mc):=hA
   clear hLd hA
   go_enter Tryz.func44,Tryz.ntmps44
   go_upto_region 1 with fail
   generalize hWe:w.alloc (.cells #[.int .i64 op,.string (bs name),.string (bs tail),.int .i64 ty,.complex .f64 (fl p) (fl q),.slice ao xs.length c,.int .i64 i] 58)=W at *
   have hWw:=hL.lt
   obtain⟨c0,c1,c2,c3,c4,c5,c6⟩:=Bk.seven (show Bk W w.heap.size 58 [_,_,_,_,_,_,_] from hL)
   clear hWe hw hL hl hM hK
   rename_i Ka ha Kb hb
   have HKa:Hid (∀ (a:Act) (w:World),_→Ka a w):=ha
   clear ha
   have HB0:Hid (Below w.heap.size w W∧w.heap.size<W.heap.size):=⟨hb0,hWw⟩
   by_cases h7:op=7
   ·subst h7
    have hwf:=hki name
    have hs:name.length≤maxLen:=by unfold maxLen;omega
    obtain⟨s0,hM0⟩:=hM0
    have hfv:((fun s=>(kn s).map (Value.int .i64 ·)) name).getD (.int .i64 0)=.int .i64 ((kn name).getD 0):=by
     show ((kn name).map _).getD _=_
     cases kn name<;>rfl
    obtain⟨z,hz⟩:∃ z,z=(kn name).getD 0:=⟨_,rfl⟩
    rw[← hz] at hfv hwf
    have HLz:Hid (L=(l++[z])++caL kn xs):=by rw[HLD.out,if_pos rfl,← hz,List.append_assoc];exact rfl
    clear hz HLD
    have hlm:l.length<maxLen:=by unfold maxLen;omega
    go_wp2_with (first
     |(at_lookup;refine wpList_look rfl (.tmp 12) (.tmp 14) rfl Tryz.undSt Tryz.undFk (zero_int _) hK0 hs rfl rfl ?_;rw[hfv])
     |(at_mapUpdate;refine wpList_putI rfl (.tmp 11) (.tmp 15) (.tmp 16) rfl Tryz.undIt Tryz.undSi hM0 hlm hwf (.agg #[]) rfl rfl rfl ?_;intro w1 hM1 hg1)
     |fail)
    have hS1:Si w1 mc (l++[z]):=si_put hM1
    have hU1:ButS (·=mc) W w1:=.grown hg1
    have hl1:ElW w1 A ao xs:=hl0.keep fun b hb hl=>hU1.block b hl (HA.out b hb)
    refine HKa.out _ _ ?_
    exact mD n w w1 A IH.out hm _ rfl (by omega) (by omega) HW.out hl1 HA.out (hK0.block (hU1.block mk hK0.lt hm)) hS1 (by rw[List.length_append,List.length_singleton];omega) (by omega) ((World.cell?_of_block (w:=W) (hU1.block w.heap.size HB0.out.2 (by omega))).trans c5) ((ButS.below HB0.out.1).trans hU1) HLz.out
   ·have h7':¬ op=7:=h7
    have HLz:Hid (L=l++caL kn xs):=by rw[HLD.out,if_neg h7];exact rfl
    clear HLD
    go_wp2_with fail
    refine HKa.out _ _ ?_
    exact mD n w W A IH.out hm _ rfl (by omega) (by omega) HW.out hl0 HA.out hK0 hM0 (by omega) (by omega) c5 (ButS.below HB0.out.1) HLz.out
end
def knK (gs:List Fn1):Nat→List UInt8→Option Int
 |0=>fun _=>none
 |k+1=>fun s=>if s=(gs.getD k fd).name then some (k:Int) else knK gs k s
theorem pX (gs:List Fn1) (s:List UInt8) (i:Int):∀ k,knK gs k s=some i→0≤i∧i<k
 |0,h=>by cases h
 |k+1,h=>by
  unfold knK at h
  split at h
  ·cases h;omega
  ·have:=pX gs s i k h;omega
theorem ki_knK (gs:List Fn1) (k:Nat) (h:k≤65536):Ki (knK gs k):=fun s=>by
 cases e:knK gs k s with
 |none=>rfl
 |some i=>
  have:=pX gs s i k e
  simp only[Option.getD_some]
  simp[Lit.wf,IntKind.min,IntKind.max,IntKind.bits,IntKind.signed]
  omega
def RdI (w:World) (B:Nat) (v:Value) (zs:List Int):Prop:=∃ ao c,v=.slice ao zs.length c∧(ao=none→c=0)∧(zs=[]∨∃ g,ao=some ⟨g,0,none⟩∧B≤g∧g<w.heap.size∧∀ j z,zs[j]?=some z→w.cell? ⟨g,j,none⟩=some (.int .i64 z))
theorem RdI.keep {w w':World} {B:Nat} {v:Value} {zs:List Int} (h:RdI w B v zs) (hs:w.heap.size≤w'.heap.size) (hk:∀ b,B≤b→b<w.heap.size→w'.heap[b]?=w.heap[b]?):RdI w' B v zs:=by
 obtain⟨ao,c,e,h0,h⟩:=h
 refine⟨ao,c,e,h0,?_⟩
 rcases h with h|⟨g,e1,h1,h2,h3⟩
 ·exact .inl h
 ·exact .inr ⟨g,e1,h1,by omega,fun j z hj=>(World.cell?_of_block (w:=w) (a:=⟨g,j,none⟩) (hk g h1 h2)).trans (h3 j z hj)⟩
theorem RdI.up {w w':World} {B:Nat} {v:Value} {zs:List Int} (h:RdI w B v zs) (hb:Below w.heap.size w w'):RdI w' B v zs:=h.keep hb.size fun b _ hl=>hb.block b hl
theorem RdI.mono {w:World} {B B':Nat} {v:Value} {zs:List Int} (h:RdI w B v zs) (hB:B'≤B):RdI w B' v zs:=by
 obtain⟨ao,c,e,h0,h⟩:=h
 refine⟨ao,c,e,h0,?_⟩
 rcases h with h|⟨g,e1,h1,h2⟩
 ·exact .inl h
 ·exact .inr ⟨g,e1,by omega,h2⟩
theorem OwI.rd {w:World} {B:Nat} {v:Value} {zs:List Int} (h:OwI w B v zs):RdI w B v zs:=by
 rcases h.2 with⟨rfl,h0⟩|⟨g,cap,cur,rfl,hg,hb,_,_,_,ht⟩
 ·have:zs=[]:=List.eq_nil_of_length_eq_zero h0
  subst this
  exact⟨none,0,rfl,fun _=>rfl,.inl rfl⟩
 ·refine⟨_,cap,rfl,(fun e=>by cases e),.inr ⟨g,rfl,hg,?_,fun j z hj=>?_⟩⟩
  ·obtain⟨h,_⟩:=Array.getElem?_eq_some_iff.1 hb
   exact h
  ·have hjl:j<zs.length:=(List.getElem?_eq_some_iff.1 hj).1
   rw[h.cellAt j (by omega),List.getElem?_map,hj]
   rfl
def dD (w:World) (b n:Nat) (kn:List UInt8→Option Int) (gs:List Fn1) (k:Nat):Prop:=
 ∃ (vs:List Value) (oss:List (List Int)),Bk w b 36 vs∧vs.length=n∧oss.length=k∧∀ j o,oss[j]?=some o→IsNs (caE kn (gs.getD j fd).body) o∧RdI w (b+1) (vs.getD j (.slice none 0 0)) o
theorem dD.lt {w:World} {b n k:Nat} {kn:List UInt8→Option Int} {gs:List Fn1} (h:dD w b n kn gs k):b<w.heap.size:=by
 obtain⟨_,_,h,_⟩:=h
 exact h.lt
theorem dD.keep {w w':World} {b n k:Nat} {kn:List UInt8→Option Int} {gs:List Fn1} (h:dD w b n kn gs k) (hs:w.heap.size≤w'.heap.size) (hk:∀ g,b≤g→g<w.heap.size→w'.heap[g]?=w.heap[g]?):dD w' b n kn gs k:=by
 obtain⟨vs,oss,h1,h2,h3,h4⟩:=h
 exact⟨vs,oss,(hk b (Nat.le_refl _) h1.lt).trans h1,h2,h3,fun j o hj=>⟨(h4 j o hj).1,(h4 j o hj).2.keep hs fun g hg=>hk g (by omega)⟩⟩
theorem dD.up {w w':World} {b n k:Nat} {kn:List UInt8→Option Int} {gs:List Fn1} (h:dD w b n kn gs k) (hb:Below w.heap.size w w'):dD w' b n kn gs k:=h.keep hb.size fun g _ hl=>hb.block g hl
theorem dD.set {w:World} {b n k:Nat} {kn:List UInt8→Option Int} {gs:List Fn1} {v:Value} {o:List Int} (h:dD w b n kn gs k) (hkn:k<n) (ho:IsNs (caE kn (gs.getD k fd).body) o) (hv:RdI w (b+1) v o):dD (w.setCell ⟨b,k,none⟩ v) b n kn gs (k+1):=by
 obtain⟨vs,oss,h1,h2,h3,h4⟩:=h
 have hot:Oth b w (w.setCell ⟨b,k,none⟩ v):=(Oth.refl b w).set k v
 refine⟨vs.set k v,oss++[o],h1.set k v,by rw[List.length_set,h2],by rw[List.length_append,h3];rfl,fun j x hj=>?_⟩
 by_cases e:j=k
 ·subst e
  rw[List.getElem?_append_right (by omega),h3,Nat.sub_self] at hj
  cases hj
  refine⟨ho,?_⟩
  rw[List.getD_eq_getElem?_getD,List.getElem?_set_self (by omega)]
  exact hv.keep (by rw[hot.size];exact Nat.le_refl _) fun g hg _=>hot.block g (by omega)
 ·have hjl:j<(oss++[o]).length:=(List.getElem?_eq_some_iff.1 hj).1
  rw[List.length_append,List.length_singleton,h3] at hjl
  rw[List.getElem?_append_left (by omega)] at hj
  refine⟨(h4 j x hj).1,?_⟩
  rw[List.getD_eq_getElem?_getD,List.getElem?_set_ne (by omega),← List.getD_eq_getElem?_getD]
  exact (h4 j x hj).2.keep (by rw[hot.size];exact Nat.le_refl _) fun g hg _=>hot.block g (by omega)
theorem Tryz.undRi:Tryz.prog.underlying 29=some (.slice 36):=by kernel_rfl
theorem Tryz.infoRi:(Tryz.prog.info? 36).map (fun i=>(i.zero,i.size,i.bytes))=some (some (.slice none 0 0),1,24):=by kernel_rfl
theorem make_rows (w:World) (n:Nat) (hn:n≤65536):(Instr.makeSlice 29 (.int .i64 (n:Int)) (.int .i64 (n:Int))).run Tryz.prog w=.ok (.slice (some ⟨w.heap.size,0,none⟩) n n) (w.alloc (.cells (madeCells #[.slice none 0 0] n) 36)):=
 run_make_row' _ _ _ 24 Tryz.undRi Tryz.infoRi rfl .i64 .i64 n (by omega) (by omega) w
theorem dD.made (w:World) (n:Nat) (kn:List UInt8→Option Int) (gs:List Fn1):dD (w.alloc (.cells (madeCells #[.slice none 0 0] n) 36)) w.heap.size n kn gs 0:=
 ⟨(madeCells #[.slice none 0 0] n).toList,[],Bk.new w _ _,by rw[Array.length_toList,size_madeCells],rfl,fun j o h=>by simp at h⟩
def NewRows (w:World) (gs:List Fn1) (e:Ending) (w':World):Prop:=∃ b,e=.returned (.slice (some ⟨b,0,none⟩) gs.length gs.length)∧w.heap.size≤b∧dD w' b gs.length (knK gs gs.length) gs gs.length∧Below w.heap.size w w'
theorem callsOf_any {w:World} {A:Nat→Prop} {ao:Option Addr} {gs:List Fn1} {c:Nat} (hF:FlW w A ao gs) (hA:∀ k,A k→k<w.heap.size) (hln:∀ g∈gs,lnF g) (hsz:∀ g∈gs,szE g.body≤65536) (hgs:gs.length≤65536) :
  Calls Tryz.prog 27 #[.agg #[.slice ao gs.length c]] w fun e w'=>NewRows w gs e w':=by
 have hb0:=ae w (.cells #[.slice ao gs.length c] 26)
 have hL0:=Bk.new w 26 #[.slice ao gs.length c]
 have hmm:=@run_makeMap Tryz.prog
 go_enter Tryz.func27,Tryz.ntmps27
 go_upto_region 1 with fail
 generalize w.alloc (.cells #[.slice ao gs.length c] 26)=W at *
 have hMX:=MapW.made W Tryz.prog 9
 have hbX:=ae W (.map #[] 0)
 go_upto_region 2 with fail
 obtain⟨X,hX⟩:∃ X,X=W.alloc (.map #[] 0):=⟨_,rfl⟩
 rw[← hX] at hMX hbX ⊢
 clear hX hmm
 obtain⟨m,hm⟩:∃ m,m=W.heap.size:=⟨_,rfl⟩
 have hwW:w.heap.size<W.heap.size:=hL0.lt
 rw[← hm] at hMX hwW ⊢
 have hbw:=Below.thn hb0 hbX
 have hLX:=hL0.up hbX
 have hFX:=hF.up hbw
 have hPX:Fk X m 0 (knK gs 0):=hMX
 have hA2:∀ k,A k→¬ (k=m):=fun k h=>by have:=hA k h;omega
 have c0:X.cell? ⟨w.heap.size,0,none⟩=some (.slice ao gs.length c):=hLX.cell 0
 clear hMX hbX hb0 hL0 hF hm
 go_wp2_with fail
 go_loopw [14] (fun v wr=>∃ k:Nat,k≤gs.length∧v=.int .i64 k∧Fk wr m k (knK gs k)∧ButS (·=m) X wr) (fun v _=>gs.length-(intOf v).toNat)
 case atStart=>exact⟨0,Nat.zero_le _,rfl,hPX,.refl _ _⟩
 case round=>
  obtain⟨k,hkn,rfl,hPk,hUk⟩:=hrel
  by_cases hlt:k<gs.length
  ·have hmem:gs.getD k fd∈gs:=by rw[List.getD_eq_getElem?_getD,List.getElem?_eq_getElem hlt];exact List.getElem_mem hlt
   have hFk:FlW wr A ao gs:=hFX.keep2 hUk.size fun k h hl=>hUk.block k hl (hA2 k h)
   obtain⟨g,vs,rfl,_,hv,hxv⟩:=hFk.at k hlt
   have hnl:(gs.getD k fd).name.length≤140737488355328:=(hln _ hmem).name
   obtain⟨nm,hnm⟩:∃ nm,nm=(gs.getD k fd).name:=⟨_,rfl⟩
   have hu0:∀ x,vs[0]?=some x→x=.string (bs nm):=fun x hx=>by
    obtain⟨_,_,_,e,_⟩:=hxv
    rw[e] at hx
    rw[hnm]
    exact (Option.some.inj hx).symm
   have HS:Hid (∀ s,knK gs (k+1) s=if s=nm then some (k:Int) else knK gs k s):=fun s=>by rw[hnm];rfl
   rw[← hnm] at hnl
   obtain⟨u0,u1,u2,u3,u4,u5,u6,u7,u8,u9,u10,rfl⟩:=ib hxv.len
   obtain rfl:=hu0 u0 rfl
   obtain⟨d0,d1,d2,d3,d4,d5,d6,d7,d8,d9,d10⟩:=fJ hv
   have hZ:=Bk.new wr 60 #[.string ⟨#[]⟩,.slice none 0 0,.int .i64 0,.int .i64 0,.string ⟨#[]⟩,.string ⟨#[]⟩,.int .i64 0,.complex .f64 0 0,.slice none 0 0,.int .i64 0,.int .i64 0]
   have hone:∀ v∈[.string (bs nm),u1,u2,u3,u4,u5,u6,u7,u8,u9,u10],v.oneCell'=true:=kr hxv
   clear hv hxv hnm hu0 hmem
   go_upto_region 5 with (refine ah rfl 60 (.tmp 5) (.tmp 18) rfl wr.heap.size 0 [.string (bs nm),u1,u2,u3,u4,u5,u6,u7,u8,u9,u10] rfl rfl hZ (Nat.le_refl 11) Tryz.infoF11 hone ?_;intro w3 hV3 hO3)
   have hV3:Bk w3 wr.heap.size 60 [.string (bs nm),u1,u2,u3,u4,u5,u6,u7,u8,u9,u10]:=hV3
   have hb3:Below wr.heap.size wr w3:=(ae wr _).trans (hO3.below (Nat.le_refl _))
   have hP3:=hPk.up hb3
   have hU3:=hUk.trans (.below hb3)
   have e0:w3.cell? ⟨wr.heap.size,0,none⟩=some (.string (bs nm)):=hV3.cell 0
   have hml:nm.length≤maxLen:=by unfold maxLen;omega
   clear hZ hO3 hone d0 d1 d2 d3 d4 d5 d6 d7 d8 d9 d10 hPk hUk hV3
   have HU3:Hid (ButS (·=m) X w3):=hU3
   clear hU3
   have hM3:MapW Tryz.prog 9 w3 m k _:=hP3
   go_wp2_with (first|(at_mapUpdate;refine jB rfl _ _ _ rfl Tryz.undSt Tryz.undFk hM3 (by unfold maxLen;omega) hml (.int .i64 (k:Int)) rfl rfl rfl ?_;intro w6 hM6 hg6)|go_in)
   have hU6:=HU3.out.trans (.grown hg6)
   go_roundw
   case rel=>
    refine⟨k+1,by omega,by go_num,?_,hU6⟩
    refine MapW.congr hM6 fun s=>?_
    rw[HS.out]
    unfold putF
    by_cases e:s=nm
    ·rw[if_pos e,if_pos e];rfl
    ·rw[if_neg e,if_neg e]
   case measure=>simp[intOf];omega
  ·have hke:k=gs.length:=by omega
   subst hke
   have hLY:=hUk.bk hLX (by omega)
   have hFY:FlW wr A ao gs:=hFX.keep2 hUk.size fun k h hl=>hUk.block k hl (hA2 k h)
   have hPY:=hPk
   have hmw:m<wr.heap.size:=hPk.lt
   have hBY:Below w.heap.size w wr:=⟨hUk.os.trans hbw.os,hUk.tape.trans hbw.tape,hUk.output.trans hbw.output,Nat.le_trans hbw.size hUk.size,fun i hi=>(hUk.block i (by have:=hbw.size;omega) (by omega)).trans (hbw.block i hi)⟩
   have c1:wr.cell? ⟨w.heap.size,0,none⟩=some (.slice ao gs.length c):=hLY.cell 0
   clear hUk hPk hPX hLX hFX c0 hbw
   rename World=>Y
   have hmk:=make_rows Y gs.length hgs
   have hRZ:=dD.made Y gs.length (knK gs gs.length) gs
   have hbZ:=ae Y (.cells (madeCells #[.slice none 0 0] gs.length) 36)
   go_upto_region 8 with fail
   generalize Y.alloc (.cells (madeCells #[.slice none 0 0] gs.length) 36)=Z at *
   obtain⟨b,hb⟩:∃ b,b=Y.heap.size:=⟨_,rfl⟩
   rw[← hb] at hRZ hmw ⊢
   have hLZ:=hLY.up hbZ
   have hFZ:=hFY.up hbZ
   have hPZ:=hPY.up hbZ
   have hBZ:=Below.thn hBY hbZ
   have hwm:w.heap.size<m:=hwW
   have c2:Z.cell? ⟨w.heap.size,0,none⟩=some (.slice ao gs.length c):=hLZ.cell 0
   clear hmk hLY hFY hPY hBY c1 hbZ hb
   go_wp2_with fail
   go_loopw [31] (fun v wr=>∃ k:Nat,k≤gs.length∧v=.int .i64 k∧dD wr b gs.length (knK gs gs.length) gs k∧ButS (·=b) Z wr) (fun v _=>gs.length-(intOf v).toNat)
   case atStart=>exact⟨0,Nat.zero_le _,rfl,hRZ,.refl _ _⟩
   case round=>
    obtain⟨k,hkn,rfl,hRk,hUk⟩:=hrel
    by_cases hlt:k<gs.length
    ·have hmem:gs.getD k fd∈gs:=by rw[List.getD_eq_getElem?_getD,List.getElem?_eq_getElem hlt];exact List.getElem_mem hlt
     have hFk:FlW wr A ao gs:=hFZ.keep2 hUk.size fun k h hl=>hUk.block k hl (by have:=hA k h;omega)
     obtain⟨g,vs,rfl,_,hv,hxv⟩:=hFk.at k hlt
     have hbd:=(hln _ hmem).body
     have hsz1:=hsz _ hmem
     have hone:=kr hxv
     have hlen:=hxv.len
     have hPk:Fk wr m gs.length (knK gs gs.length):=hPZ.block (hUk.block m hPZ.lt (by omega))
     obtain⟨ap,cp,es,hvs,-,he1⟩:=hxv
     obtain⟨y,hy⟩:∃ y,y=(gs.getD k fd).body:=⟨_,rfl⟩
     have HY:Hid (y=(gs.getD k fd).body):=hy
     rw[← hy] at hbd hsz1 he1
     obtain⟨x0,x1,x2,x3,x4,x5,x6,rfl⟩:=aQ he1.len
     obtain⟨u0,u1,u2,u3,u4,u5,u6,u7,u8,u9,u10,rfl⟩:=ib hlen
     simp only[List.cons_append,List.nil_append,List.cons.injEq,and_true] at hvs
     obtain⟨-,-,-,rfl,rfl,rfl,rfl,rfl,rfl,rfl,-⟩:=hvs
     obtain⟨d0,d1,d2,d3,d4,d5,d6,d7,d8,d9,d10⟩:=fJ hv
     have hZ:=Bk.new wr 60 #[.string ⟨#[]⟩,.slice none 0 0,.int .i64 0,.int .i64 0,.string ⟨#[]⟩,.string ⟨#[]⟩,.int .i64 0,.complex .f64 0 0,.slice none 0 0,.int .i64 0,.int .i64 0]
     clear hv hlen hy hmem hFk
     go_upto_region 11 with (refine ah rfl 60 (.tmp 8) (.tmp 35) rfl wr.heap.size 0 [u0,u1,u2,u3,u4,u5,u6,u7,u8,u9,u10] rfl rfl hZ (Nat.le_refl 11) Tryz.infoF11 hone ?_;intro w3 hV3 hO3)
     have hV3:Bk w3 wr.heap.size 60 [u0,u1,u2,u3,u4,u5,u6,u7,u8,u9,u10]:=hV3
     have hb3:Below wr.heap.size wr w3:=(ae wr _).trans (hO3.below (Nat.le_refl _))
     clear hZ hO3 hone d0 d1 d2 d3 d4 d5 d6 d7 d8 d9 d10
     have hmm:=@run_makeMap Tryz.prog
     have hS:=Si.made w3
     have hbM:=ae w3 (.map #[] 0)
     go_upto_region 12 with fail
     obtain⟨M,hM⟩:∃ M,M=w3.alloc (.map #[] 0):=⟨_,rfl⟩
     rw[← hM] at hS hbM ⊢
     clear hM hmm
     have hw3:wr.heap.size<w3.heap.size:=hV3.lt
     have hB4:=Below.thn hb3 hbM
     have hV4:=hV3.up hbM
     have he4:=he1.up hB4
     have hP4:=hPk.up hB4
     have hbw:=hRk.lt
     have hwZ:=hBZ.size
     have hZw:=hUk.size
     obtain⟨e0,e1,e2,e3,e4,e5,e6,e7,e8,e9,e10⟩:=Bk.eleven (show Bk M wr.heap.size 60 [_,_,_,_,_,_,_,_,_,_,_] from hV4)
     have hrec:=addCalled_any (mk:=m) (mc:=w3.heap.size) (nk:=gs.length) (kn:=knK gs gs.length) (by omega) (ki_knK gs _ hgs) 65536 y hsz1 (Nat.le_refl _) hbd M A [u3,u4,u5,u6,u7,u8,u9] [] he4 (fun j h=>by have:=hA j h;omega) hP4 hS (by simp only[List.length_nil];omega)
     rw[List.nil_append] at hrec
     clear hb3 hbM hV3 he1 he4 hPk hP4 hS
     go_wp2_with fail
     refine hrec.mono ?_
     rintro e w6 ⟨rfl,hS6,hU6⟩
     have hB6:Below wr.heap.size wr w6:=hB4.trans (hU6.toBelow hB4.size (by rintro _ rfl;omega))
     clear hrec hV4 hU6 e0 e1 e2 e3 e4 e5 e6 e7 e8 e9 e10
     have hk:=keysI_any (some w3.heap.size) w6
     have hs:=sortedI_any hS6 (by have:=nz (knK gs gs.length) y;omega)
     go_wp2_with fail
     refine hk.mono ?_
     rintro e w7 ⟨rfl,rfl⟩
     clear hk
     go_wp2_with fail
     refine hs.mono ?_
     rintro e w8 ⟨⟨v,o,rfl,hIs,hOw⟩,hb8⟩
     have hB8:=Below.thn hB6 hb8
     have hR8:=hRk.up hB8
     have hrd:RdI w8 (b+1) v o:=hOw.rd.mono (by have:=hB6.size;omega)
     rw[HY.out] at hIs
     have hset:=hR8.set hlt hIs hrd
     have hUe:ButS (·=b) Z (w8.setCell ⟨b,k,none⟩ v):=(hUk.trans (.below hB8)).trans (.oth ((Oth.refl b w8).set k v))
     obtain⟨av,cv,hve,-⟩:=id hrd
     obtain⟨vs,oss,hBk,hvl,-⟩:=id hR8
     obtain⟨z0,hz0⟩:∃ z0,vs[k]?=some z0:=⟨_,List.getElem?_eq_getElem (by omega)⟩
     have hcell:w8.cell? ⟨b,k,none⟩=some z0:=(hBk.cell k).trans hz0
     have hfrz:=hBk.frz k
     subst hve
     have HR:Hid (dD (w8.setCell ⟨b,k,none⟩ (.slice av o.length cv)) b gs.length (knK gs gs.length) gs (k+1)∧ButS (·=b) Z (w8.setCell ⟨b,k,none⟩ (.slice av o.length cv))):=⟨hset,hUe⟩
     clear hs hOw hIs hrd hset hUe hB8 hB6 hR8 hBk hz0 hvl hb8 hRk hUk hB4 hS6
     go_wp2_with fail
     go_roundw
     case rel=>exact⟨k+1,by omega,by go_num,HR.out.1,HR.out.2⟩
     case measure=>simp[intOf];omega
    ·have hke:k=gs.length:=by omega
     subst hke
     have hBe:Below w.heap.size w wr:=hBZ.trans (hUk.toBelow hBZ.size (by rintro _ rfl;omega))
     go_wp2_with fail
     go_ret
     exact⟨b,rfl,by omega,hRk,hBe⟩
end Go.Proofs.YtimoappbefindaaGreat
