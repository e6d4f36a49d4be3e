/-
  9 texts in one: what each proves stands at its head.
-/
import Derived.Test.YtimoappbefindaaGreatUgd
import Derived.Shelf.Bits.Mul64
import Derived.Laws.CopyOwn
import Derived.Deep.OwnRows
import Derived.Deep.RegionLaw
import Derived.Deep.RegionHeld2
import Derived.RegionTactic
import Derived.Deep.Cut
import Derived.Test.YtimoappbefindaaGreatUgc
namespace Go.Proofs.YtimoappbefindaaGreat
set_option maxHeartbeats 16000000
open Go.RowKit
set_option maxRecDepth 100000
theorem Tryz.sizeI:(Tryz.prog.info? 3).map (·.size)=some 1:=by kernel_rfl
namespace Gw
theorem mul64_one (w:World) (y:Nat) (hy:y≤100000):Calls Tryz.prog 99 #[.int .u64 1,.int .u64 y] w fun e w'=>e=.returned (.tuple #[.int .u64 0,.int .u64 y])∧w'=w:=by
 have m1:=Mul64.maskN y (by omega)
 have m0:bits .and .u64 (1:Int) 4294967295=1:=by decide
 have mz:bits .and .u64 (0:Int) 4294967295=0:=by decide
 have d1:((y:Int) % 4294967296)=y:=by omega
 have d2:((y:Int) / 4294967296)=0:=by omega
 have w1:IntKind.u64.wrap (y:Int)=y:=by rw[IntKind.wrap_u64];omega
 go_enter Tryz.func99,Tryz.ntmps99
 go_wp2
 go_ret2
 exact⟨rfl,rfl⟩
theorem mul_one (w:World) (y:Nat) (hy:y≤100000):Calls Tryz.prog 74 #[.int .u64 1,.int .u64 y] w fun e w'=>e=.returned (.tuple #[.int .u64 0,.int .u64 y])∧w'=w:=by
 have h:=mul64_one w y hy
 have w1:IntKind.u64.wrap (y:Int)=y:=by rw[IntKind.wrap_u64];omega
 go_enter Tryz.func74,Tryz.ntmps74
 go_wp2_with fail
 refine h.mono ?_
 rintro e w' ⟨rfl,rfl⟩
 go_wp2
 go_ret2
 exact⟨rfl,rfl⟩
theorem made (z:Value) (n:Nat):madeCells #[z] n=(List.replicate n z).toArray:=by
 apply Array.ext
 ·simp[size_madeCells]
 ·intro i h1 h2
  simp[madeCells,Nat.mod_one]
theorem jE (n m k:Nat) (x:Value) (z:Value) (_:m+k≤n):splice (List.replicate m x++List.replicate (n-m) z) m (List.replicate k x)=List.replicate (m+k) x++List.replicate (n-(m+k)) z:=by
 unfold splice
 rw[List.take_left' (by simp),List.length_replicate,← List.append_assoc,List.replicate_append_replicate]
 congr 1
 rw[List.drop_append,List.drop_eq_nil_of_le (by simp),List.nil_append]
 simp
 omega
theorem repeat_any (w:World) (g0 n:Nat) (h0:w.cell? ⟨g0,0,none⟩=some (.int .i64 (-1))) (hn:n≤100000) :
  Calls Tryz.prog 52 #[.slice (some ⟨g0,0,none⟩) 1 1,.int .i64 n] w fun e w'=>e=.returned (.slice (some ⟨w.heap.size,0,none⟩) n n)∧Bi w' w.heap.size (List.replicate n (-1))∧Below w.heap.size w w':=by
 have hmul:=mul_one w n hn
 obtain⟨k,hk⟩:∃ k,k=min 1 n:=⟨_,rfl⟩
 have hmk:∀ W:World,(Instr.makeSlice 36 (.int .i64 (n:Int)) (.int .i64 (n:Int))).run Tryz.prog W=.ok (.slice (some ⟨W.heap.size,0,none⟩) n n) (W.alloc (.cells (madeCells #[.int .i64 0] n) 3)):=fun W=>run_make_row' _ _ _ 8 Tryz.underI Tryz.infoI rfl _ _ n (by omega) (by omega) W
 have w1:IntKind.u64.wrap (n:Int)=n:=by rw[IntKind.wrap_u64];omega
 have w2:IntKind.i64.wrap (n:Int)=n:=by rw[IntKind.wrap_i64];omega
 have hlt:g0<w.heap.size:=cell_below h0
 go_enter Tryz.func52,Tryz.ntmps52
 go_wp2_with fail
 refine hmul.mono ?_
 rintro e w' ⟨rfl,rfl⟩
 rename World=>w
 rename w.cell? _=_=>h0
 go_upto_region 7 with fail
 rw[made]
 have hg1:(w.alloc (.cells (List.replicate n (.int .i64 0)).toArray 3)).heap[w.heap.size]?=some (.cells (List.replicate n (.int .i64 0)).toArray 3 (0,0)):=by
  show (w.heap.push _)[w.heap.size]?=_
  exact Array.getElem?_push_size
 have hb1:Below w.heap.size w (w.alloc (.cells (List.replicate n (.int .i64 0)).toArray 3)):=(Below.refl _ _).alloc (Nat.le_refl _) _
 have hp1:∀ j v,(List.replicate (k) (Value.int .i64 (-1)))[j]?=some v→(w.alloc (.cells (List.replicate n (.int .i64 0)).toArray 3)).cell? ((⟨g0,0,none⟩:Addr).add j)=some v:=fun j v hv=>by
  rw[List.getElem?_replicate] at hv
  split at hv
  ·rename_i hj
   obtain rfl:j=0:=by omega
   cases hv
   have:(⟨g0,0,none⟩:Addr).add 0=⟨g0,0,none⟩:=rfl
   rw[this,hb1.cell (by show g0<w.heap.size;exact hlt)]
   exact h0
  ·cases hv
 generalize hW1:w.alloc (.cells (List.replicate n (.int .i64 0)).toArray 3)=W1 at *
 have HG1:Hid (W1.heap[w.heap.size]?=some (.cells (List.replicate n (.int .i64 0)).toArray 3 (0,0))):=hg1
 have HP1:Hid (∀ j v,(List.replicate (k) (Value.int .i64 (-1)))[j]?=some v→W1.cell? ((⟨g0,0,none⟩:Addr).add j)=some v):=hp1
 clear hg1 hp1 hW1 hmk
 have hcp:∃ W2,(Builtin.copy_ #[36,36] 3 #[.slice (some ⟨w.heap.size,0,none⟩) n n,.slice (some ⟨g0,0,none⟩) 1 1]).run Tryz.prog W1=.ok (goInt k) W2∧W2.heap[w.heap.size]?=some (.cells (splice (List.replicate n (Value.int .i64 0)) 0 (List.replicate (k) (.int .i64 (-1)))).toArray 3 (0,0))∧Below w.heap.size w W2:=by
  have h:=run_copy_row (P:=Tryz.prog) W1 36 36 3 3 w.heap.size 0 n n ⟨g0,0,none⟩ 1 1 _ _ (List.replicate (k) (.int .i64 (-1))) Tryz.underI Tryz.sizeI HG1.out (by rw[List.length_replicate,hk]) HP1.out (by simp only[List.length_replicate,List.size_toArray];omega) (fun v hv=>by rw[List.eq_of_mem_replicate hv];rfl)
  rw[List.length_replicate] at h
  refine⟨_,h,?_,below_setRow hb1 (Nat.le_refl _) _⟩
  rw[setRow_heap _ _ _ _ _ _ HG1.out]
  simp[splice]
 obtain⟨W2,hcp,hg2,hb2⟩:=hcp
 have HG2:Hid (W2.heap[w.heap.size]?=some (.cells (splice (List.replicate n (Value.int .i64 0)) 0 (List.replicate (k) (.int .i64 (-1)))).toArray 3 (0,0))):=hg2
 have HKM:Hid (k=min 1 n):=hk
 clear hg2 hb1 hk hmul
 go_wp2
 go_loopw [8] (fun mv wr=>∃ m:Nat,mv=.int .i64 m∧m≤n∧(0<m∨n=0)∧Hid (wr.heap[w.heap.size]?=some (.cells (List.replicate m (Value.int .i64 (-1))++List.replicate (n-m) (Value.int .i64 0)).toArray 3 (0,0)))∧Below w.heap.size w wr) (fun mv _=>n-(intOf mv).toNat)
 case atStart=>
  have e:=jE n 0 k (Value.int .i64 (-1)) (Value.int .i64 0) (by have:=HKM.out;omega)
  rw[List.replicate_zero,List.nil_append,Nat.sub_zero,Nat.zero_add] at e
  have h2:=HG2.out
  rw[e] at h2
  exact⟨k,rfl,by have:=HKM.out;omega,by have:=HKM.out;omega,h2,hb2⟩
 case round=>
  obtain⟨m,rfl,hmn,hm0,hg,hb⟩:=hrel
  by_cases hlt:m<n
  ·obtain⟨q,hq⟩:∃ q,q=min m (n-m):=⟨_,rfl⟩
   have hqn:m+q≤n:=by omega
   have hq0:0<q:=by omega
   have HQ:Hid (q=min m (n-m)):=hq
   have hcs:Hid (∀ j v,(List.replicate q (Value.int .i64 (-1)))[j]?=some v→wr.cell? ((⟨w.heap.size,0,none⟩:Addr).add j)=some v):=fun j v hv=>by
    rw[List.getElem?_replicate] at hv
    split at hv
    ·rename_i hj
     cases hv
     have:(⟨w.heap.size,0,none⟩:Addr).add j=⟨w.heap.size,0+j,none⟩:=by unfold Addr.add;split<;>simp_all
     rw[this,Nat.zero_add,cell_of_row _ _ _ _ _ _ hg.out]
     rw[List.getElem?_toArray,List.getElem?_append_left (by rw[List.length_replicate];omega),List.getElem?_replicate,if_pos (by omega)]
    ·cases hv
   clear hq HG2 HP1 HG1 hcp hb2
   go_upto_region 9 with fail
   have e1:((m:Int)+(q:Int)).toNat=m+q:=by omega
   have e2:IntKind.i64.wrap ((m:Int)+(q:Int))=(m:Int)+(q:Int):=by rw[IntKind.wrap_i64];omega
   have hmn2:¬ n<m:=by omega
   have hne:¬ n=m:=by omega
   have hne2:¬ m=n:=by omega
   go_region_law (refine step_copy_splice rfl (.tmp 41) (.tmp 44) 36 36 rfl 3 Tryz.underI Tryz.sizeI (some ⟨w.heap.size,m,none⟩) (some ⟨w.heap.size,0,none⟩) (n-m) (n-m) m n (by simp[Act.eval,Act.put]) (by simp[Act.eval,Act.put]) w.heap.size m (List.replicate m (Value.int .i64 (-1))++List.replicate (n-m) (Value.int .i64 0)) 3 hg.out (List.replicate q (Value.int .i64 (-1))) (by rw[List.length_replicate];exact HQ.out) (fun _=>⟨rfl,_,rfl,hcs.out⟩) (by simp only[List.length_append,List.length_replicate];omega) (fun v hv=>by rw[List.eq_of_mem_replicate hv];rfl) w.heap.size w (by first|exact hb|exact hb.drew|exact below_drewN hb _) (Nat.le_refl _) ?_;intro w4 hg4 hb4)
   have hsp:=jE n m q (Value.int .i64 (-1)) (Value.int .i64 0) hqn
   have h4:=hg4.out
   rw[hsp] at h4
   have H4:Hid (w4.heap[w.heap.size]?=some (.cells (List.replicate (m+q) (Value.int .i64 (-1))++List.replicate (n-(m+q)) (Value.int .i64 0)).toArray 3 (0,0))):=h4
   clear h4 hsp hg4 hcs hg
   simp[Act.put,Exit.inBlock]
   go_roundw
   case rel=>exact⟨_,_,_,_,_,_,_,_,_,_,_,_,_,_,⟨m+q,by go_num,hqn,.inl (by omega),H4,hb4⟩,rfl⟩
   case measure=>simp[intOf];omega
  ·obtain rfl:m=n:=by omega
   have h4:=hg.out
   rw[Nat.sub_self,List.replicate_zero,List.append_nil] at h4
   have hbi:Bi wr w.heap.size (List.replicate m (-1)):=by unfold Bi;rw[List.map_replicate];exact h4
   have HBI:Hid (Bi wr w.heap.size (List.replicate m (-1))):=hbi
   clear h4 hg hbi HG2 HP1 HG1 hcp hb2 hm0
   go_wp2
   go_ret
   exact⟨rfl,HBI.out,hb⟩
end Gw
namespace Rg
theorem thn {B:Nat} {a w w':World} (h:Below B a w) (hb:Below w.heap.size w w') (hB:B≤a.heap.size:=by exact Nat.le_refl _):Below B a w':=h.trans (hb.mono (Nat.le_trans hB h.size))
def upd (d:Nat→Bool) (i:Nat):Nat→Bool:=fun j=>j==i||d j
theorem bA (l:Array Bool) (i:Nat) (hi:i<l.size):(fun j=>(l.setIfInBounds i true).getD j false)=upd (fun j=>l.getD j false) i:=by
 funext j
 unfold upd
 by_cases h:j=i
 ·subst h
  simp[hi]
 ·have h2:¬ i=j:=fun e=>h e.symm
  simp[h,h2]
theorem upd_ne {d:Nat→Bool} {k j:Nat} (h:j≠k) (hd:upd d k j=true):d j=true:=by
 unfold upd at hd
 simpa [h] using hd
theorem di:∀ (l:List Bool) (i:Nat),l[i]?=some false→(l.set i true).count false+1=l.count false
 |[],i,h=>by simp at h
 |b::r,0,h=>by simp at h;subst h;simp
 |b::r,i+1,h=>by
  have:=di r i (by simpa using h)
  simp only[List.set_cons_succ,List.count_cons]
  omega
theorem bq {md:Region.Mode} {ops:Array Oper} {l:Array Bool} {i:Nat} (h:i∈Region.ready md ops l):l.getD i true=false∧i<ops.size:=by
 unfold Region.ready at h
 simp only[List.mem_filter,List.mem_range,Bool.and_eq_true,Bool.not_eq_true'] at h
 exact⟨h.2.1,h.1⟩
theorem bT {l:Array Bool} {i:Nat} (h:l.getD i true=false):i<l.size∧l.toList[i]?=some false:=by
 by_cases hi:i<l.size
 ·refine⟨hi,?_⟩
  simp[hi] at h
  simp[hi,h]
 ·simp[hi] at h
theorem dx {P:Program} {md:Region.Mode} {ops:Array Oper} {Q:Exit→Act→World→Prop} (I:Array Bool→Act→World→Prop)
  (step:∀ l a w i,i∈Region.ready md ops l→I l a w→wpOp P ops Q i (fun a' w'=>I (l.setIfInBounds i true) a' w') a w)
  (fin:∀ l a w,Region.ready md ops l=[]→I l a w→Q .normal a w):∀ (fuel:Nat) (l:Array Bool) (a:Act) (w:World),l.toList.count false≤fuel→I l a w→wpAny P md ops Q fuel l a w:=by
 intro fuel
 induction fuel with
 |zero=>
  intro l a w hc hI
  have hr:Region.ready md ops l=[]:=by
   cases e:Region.ready md ops l with
   |nil=>rfl
   |cons i r=>
    exfalso
    have hm:i∈Region.ready md ops l:=by rw[e];simp
    have h1:=(bT (bq hm).1).2
    have h2:=di l.toList i h1
    omega
  exact⟨hr,fin l a w hr hI⟩
 |succ fuel ih=>
  intro l a w hc hI
  refine⟨fun hr=>fin l a w hr hI,fun i hi=>?_⟩
  refine wpOp_mono (fun a' w' h'=>ih _ a' w' ?_ h') (step l a w i hi hI)
  have h1:=(bT (bq hi).1).2
  have h2:=di l.toList i h1
  have h3:(l.setIfInBounds i true).toList=l.toList.set i true:=by simp
  rw[h3]
  omega
def ev (a:Act) (k:Nat):Value:=a.eval (.tmp k)
theorem dn (a:Act) (k:Nat) (v:Value) (hk:k<a.tmps.size) (j:Nat):ev (a.put (some k) v) j=if j=k then v else ev a j:=by
 unfold ev Act.put Act.eval
 by_cases h:j=k
 ·subst h
  simp[hk]
 ·have h2:¬ k=j:=fun e=>h e.symm
  simp[h,h2]
theorem mK {a:Act} {k:Nat} {v:Value} (h:ev a k=v) (hk:k<a.tmps.size):a.tmps[k]?=some v:=by
 unfold ev Act.eval at h
 simp[hk] at h
 simp[hk,h]
def deps (ops:Array Oper) (i:Nat):List Nat:=match ops[i]? with|some o=>(o.after.toList.filter (Region.binds .any)).map (·.on)|none=>[]
theorem dh {ops:Array Oper} {l:Array Bool} {i:Nat} (h:i∈Region.ready .any ops l):∀ j∈deps ops i,l.getD j false=true:=by
 obtain⟨_,hi⟩:=bq h
 unfold Region.ready at h
 simp only[List.mem_filter,List.mem_range,Bool.and_eq_true] at h
 have h4:=h.2.2
 unfold deps
 rw[Array.getElem?_eq_getElem hi] at h4 ⊢
 simp only[Option.map_some,Option.getD_some] at h4
 intro j hj
 simp only[List.mem_map,List.mem_filter] at hj
 obtain⟨e,⟨he,hb⟩,rfl⟩:=hj
 rw[Array.all_eq_true_iff_forall_mem] at h4
 have:=h4 e (by simpa using he)
 rw[hb] at this
 simpa using this
theorem dN {ops:Array Oper} {l:Array Bool} (hl:l.size=ops.size) (hlow:∀ i,i<ops.size→∀ j∈deps ops i,j<i) (h:Region.ready .any ops l=[]):∀ i,i<ops.size→l.getD i false=true:=by
 intro i
 induction i using Nat.strongRecOn with
 |ind i ih=>
  intro hi
  have hd:∀ j∈deps ops i,l.getD j false=true:=fun j hj=>ih j (hlow i hi j hj) (by have:=hlow i hi j hj;omega)
  cases e:l.getD i false with
  |true=>rfl
  |false=>
   exfalso
   unfold Region.ready at h
   rw[List.filter_eq_nil_iff] at h
   refine h i (List.mem_range.2 hi) ?_
   have e1:l.getD i true=false:=by
    have hil:i<l.size:=by omega
    simp[hil] at e ⊢
    exact e
   rw[e1,Array.getElem?_eq_getElem hi]
   simp only[Option.map_some,Option.getD_some,Bool.not_false,Bool.true_and]
   rw[Array.all_eq_true_iff_forall_mem]
   intro x hx
   cases hb:Region.binds .any x with
   |false=>rfl
   |true=>
    have:l.getD x.on false=true:=hd x.on (by
     unfold deps
     rw[Array.getElem?_eq_getElem hi]
     simp only[List.mem_map,List.mem_filter]
     exact⟨x,⟨by simpa using hx,hb⟩,rfl⟩)
    rw[this]
    rfl
structure Off (N:Nat) (slot:Nat→Nat) (a0 a:Act):Prop where
 def_:a.defers=a0.defers
 size:a.tmps.size=a0.tmps.size
 same:∀ k,(∀ j,j<N→k≠slot j)→ev a k=ev a0 k
section
variable {P:Program} {ops:Array Oper} {Q:Exit→Act→World→Prop} {X0:World} {a0:Act} (N:Nat) (slot:Nat→Nat) (V:Nat→Value)
theorem region (hN:ops.size=N) (hlow:∀ i,i<N→∀ j∈deps ops i,j<i) (hinj:∀ i,i<N→∀ j,j<N→j≠i→slot j≠slot i) (hsz:∀ j,j<N→slot j<a0.tmps.size) {w0:World} (hw:Below X0.heap.size X0 w0)
  (hstep:∀ i a w,i<N→Off N slot a0 a→Below X0.heap.size X0 w→(∀ j∈deps ops i,ev a (slot j)=V j)→wpOp P ops Q i (fun a' w'=>a'=a.put (some (slot i)) (V i)∧Below X0.heap.size X0 w') a w)
  (hQ:∀ a w,Off N slot a0 a→Below X0.heap.size X0 w→(∀ j,j<N→ev a (slot j)=V j)→Q .normal a w):wpAny P .any ops Q N (Array.replicate N false) a0 w0:=by
 refine dx (fun l a w=>l.size=N∧Off N slot a0 a∧Below X0.heap.size X0 w∧∀ j,j<N→l.getD j false=true→ev a (slot j)=V j) ?_ ?_ N _ _ _ (by simp) ⟨by simp,⟨rfl,rfl,fun _ _=>rfl⟩,hw,?_⟩
 ·rintro l a w i hi ⟨hl,hO,hB,hf⟩
  obtain⟨hi1,hi2⟩:=bq hi
  rw[hN] at hi2
  have hdn:=dh hi
  refine wpOp_mono ?_ (hstep i a w hi2 hO hB fun j hj=>hf j (by have:=hlow i hi2 j hj;omega) (hdn j hj))
  rintro a' w' ⟨rfl,hB'⟩
  have hs:slot i<a.tmps.size:=by rw[hO.size];exact hsz i hi2
  refine⟨by simp[hl],⟨hO.def_,by rw[← hO.size];simp[Act.put],fun k hk=>?_⟩,hB',fun j hj hd=>?_⟩
  ·rw[dn a _ _ hs,if_neg (hk i hi2)]
   exact hO.same k hk
  ·rw[dn a _ _ hs]
   by_cases e:j=i
   ·subst e
    exact if_pos rfl
   ·rw[if_neg (hinj i hi2 j hj e)]
    refine hf j hj ?_
    have:=congrFun (bA l i (by omega)) j
    rw[this] at hd
    exact upd_ne e hd
 ·rintro l a w hr ⟨hl,hO,hB,hf⟩
  have:=dN (by omega) (by rw[hN];exact hlow) hr
  rw[hN] at this
  exact hQ a w hO hB fun j hj=>hf j hj (this j hj)
 ·intro j hj hd
  simp[hj] at hd
end
structure Offs (N:Nat) (dst:Nat→Option Nat) (a0 a:Act):Prop where
 def_:a.defers=a0.defers
 size:a.tmps.size=a0.tmps.size
 same:∀ k,(∀ j,j<N→dst j≠some k)→ev a k=ev a0 k
def eD (dst:Nat→Option Nat) (f:Nat→Value):Nat→Act→Act
 |0,a=>a
 |n+1,a=>(eD dst f n a).put (dst n) (f n)
theorem fE (dst:Nat→Option Nat) (f:Nat→Value) (a:Act):∀ n,(eD dst f n a).tmps.size=a.tmps.size
 |0=>rfl
 |n+1=>by
  rw[eD,← fE dst f a n]
  cases dst n<;>simp[Act.put]
theorem gJ (dst:Nat→Option Nat) (f:Nat→Value) (a:Act):∀ n,(eD dst f n a).defers=a.defers
 |0=>rfl
 |n+1=>by
  rw[eD,← gJ dst f a n]
  cases dst n<;>rfl
def slv (dst:Nat→Option Nat) (a:Act) (j:Nat):Value:=match dst j with|some s=>ev a s|none=>undef
theorem Offs.eq {N:Nat} {dst:Nat→Option Nat} {a0 a:Act} (h:Offs N dst a0 a) (hsz:∀ j,j<N→∀ s,dst j=some s→s<a0.tmps.size):a=eD dst (slv dst a) N a0:=by
 have key:∀ n,n≤N→∀ k,ev (eD dst (slv dst a) n a0) k=ev a k∨((∀ j,j<n→dst j≠some k)∧ev (eD dst (slv dst a) n a0) k=ev a0 k):=by
  intro n
  induction n with
  |zero=>exact fun _ k=>.inr ⟨fun j hj=>absurd hj (Nat.not_lt_zero j),rfl⟩
  |succ n ih=>
   intro hn k
   rw[eD]
   cases hd:dst n with
   |none=>
    rcases ih (by omega) k with e|⟨e1,e2⟩
    ·exact .inl e
    ·refine .inr ⟨fun j hj=>?_,e2⟩
     rcases Nat.lt_or_ge j n with hjn|hjn
     ·exact e1 j hjn
     ·rw[show j=n by omega,hd]
      exact fun e=>by cases e
   |some s=>
    have hv:slv dst a n=ev a s:=by unfold slv;rw[hd]
    rw[hv,dn _ s _ (by rw[fE];exact hsz n hn s hd)]
    by_cases e:k=s
    ·rw[if_pos e,e]
     exact .inl rfl
    ·rw[if_neg e]
     rcases ih (by omega) k with e2|⟨e1,e2⟩
     ·exact .inl e2
     ·refine .inr ⟨fun j hj=>?_,e2⟩
      rcases Nat.lt_or_ge j n with hjn|hjn
      ·exact e1 j hjn
      ·rw[show j=n by omega,hd]
       exact fun e3=>e (Option.some.inj e3).symm
 have hev:∀ k,ev a k=ev (eD dst (slv dst a) N a0) k:=fun k=>by
  rcases key N (Nat.le_refl N) k with e|⟨e1,e2⟩
  ·exact e.symm
  ·rw[e2]
   exact h.same k e1
 have hs:=fE dst (slv dst a) a0 N
 have hde:=gJ dst (slv dst a) a0 N
 have ha:=h.size
 have hd:=h.def_
 generalize eD dst (slv dst a) N a0=b at *
 obtain⟨ta,da⟩:=a
 obtain⟨tb,db⟩:=b
 simp only at hs hde ha hd
 have ht:ta=tb:=by
  apply Array.ext
  ·omega
  ·intro i h1 h2
   have:=hev i
   simp only[ev,Act.eval] at this
   simpa [h1,h2] using this
 rw[ht,hd,hde]
theorem Off.offs {N:Nat} {slot:Nat→Nat} {a0 a:Act} (h:Off N slot a0 a):Offs N (fun j=>some (slot j)) a0 a:=⟨h.def_,h.size,fun k hk=>h.same k fun j hj e=>hk j hj (by rw[e])⟩
theorem region2 {P:Program} {ops:Array Oper} {Q:Exit→Act→World→Prop} {a0:Act} (N:Nat) (dst:Nat→Option Nat) (V:Nat→Value) (J:(Nat→Bool)→World→Prop) (hN:ops.size=N) (hlow:∀ i,i<N→∀ j∈deps ops i,j<i) (hinj:∀ i,i<N→∀ j,j<N→j≠i→∀ s,dst i=some s→dst j≠some s) (hsz:∀ j,j<N→∀ s,dst j=some s→s<a0.tmps.size) {w0:World} (hw:J (fun _=>false) w0)
  (hstep:∀ d i a w,i<N→d i=false→(∀ j∈deps ops i,d j=true)→(∀ j,d j=true→j<N)→Offs N dst a0 a→J d w→(∀ j∈deps ops i,∀ s,dst j=some s→ev a s=V j)→wpOp P ops Q i (fun a' w'=>a'=a.put (dst i) (V i)∧J (upd d i) w') a w)
  (hQ:∀ d a w,(∀ j,j<N→d j=true)→Offs N dst a0 a→J d w→(∀ j,j<N→∀ s,dst j=some s→ev a s=V j)→Q .normal a w):wpAny P .any ops Q N (Array.replicate N false) a0 w0:=by
 have hd0:(fun j=>(Array.replicate N false).getD j false)=fun _:Nat=>false:=by
  funext j
  by_cases h:j<N<;>simp[h]
 refine dx (fun l a w=>l.size=N∧Offs N dst a0 a∧J (fun j=>l.getD j false) w∧∀ j,j<N→l.getD j false=true→∀ s,dst j=some s→ev a s=V j) ?_ ?_ N _ _ _ (by simp) ⟨by simp,⟨rfl,rfl,fun _ _=>rfl⟩,by rw[hd0];exact hw,?_⟩
 ·rintro l a w i hi ⟨hl,hO,hJ,hf⟩
  obtain⟨hi1,hi2⟩:=bq hi
  rw[hN] at hi2
  have hdn:=dh hi
  have hi3:l.getD i false=false:=by
   have:=(bT hi1).1
   simp[this] at hi1 ⊢
   exact hi1
  refine wpOp_mono ?_ (hstep (fun j=>l.getD j false) i a w hi2 hi3 hdn (fun j hj=>by
   rcases Nat.lt_or_ge j N with h|h
   ·exact h
   ·exfalso
    have:¬ j<l.size:=by omega
    simp[this] at hj) hO hJ fun j hj s hs=>hf j (by have:=hlow i hi2 j hj;omega) (hdn j hj) s hs)
  rintro a' w' ⟨rfl,hJ'⟩
  refine⟨by simp[hl],⟨?_,?_,fun k hk=>?_⟩,by rw[bA l i (by omega)];exact hJ',fun j hj hd s hs=>?_⟩
  ·cases dst i<;>exact hO.def_
  ·cases h:dst i with
   |none=>exact hO.size
   |some s=>rw[← hO.size];simp[Act.put]
  ·cases h:dst i with
   |none=>exact hO.same k hk
   |some s=>
    have hs:s<a.tmps.size:=by rw[hO.size];exact hsz i hi2 s h
    rw[dn a _ _ hs,if_neg (fun e=>hk i hi2 (by rw[h,e]))]
    exact hO.same k hk
  ·have hdj:j≠i→l.getD j false=true:=fun e=>by
    have:=congrFun (bA l i (by omega)) j
    rw[this] at hd
    exact upd_ne e hd
   cases h:dst i with
   |none=>
    by_cases e:j=i
    ·subst e;rw[h] at hs;cases hs
    ·exact hf j hj (hdj e) s hs
   |some t=>
    have ht:t<a.tmps.size:=by rw[hO.size];exact hsz i hi2 t h
    rw[dn a _ _ ht]
    by_cases e:j=i
    ·subst e
     rw[h] at hs
     cases hs
     exact if_pos rfl
    ·rw[if_neg (fun x=>hinj i hi2 j hj e t h (by rw[hs,x]))]
     exact hf j hj (hdj e) s hs
 ·rintro l a w hr ⟨hl,hO,hJ,hf⟩
  have:=dN (by omega) (by rw[hN];exact hlow) hr
  rw[hN] at this
  exact hQ _ a w this hO hJ fun j hj s hs=>hf j hj (this j hj) s hs
 ·intro j hj hd
  simp[hj] at hd
section
variable {P:Program} {ops:Array Oper} {Q:Exit→Act→World→Prop} {X0:World} {i:Nat} {o:Oper} {a:Act} {w:World} {v:Value} {s:Nat}
theorem wp (ho:ops[i]?=some o) (hw:Region.wanted o (yielded ops a.tmps)=true) {K:Act→World→Prop} (h:Oper.wp P o a w K Q):wpOp P ops Q i K a w:=by
 unfold wpOp
 rw[ho]
 show if Region.wanted o (yielded ops a.tmps)=true then _ else _
 rw[if_pos hw]
 exact .inl h
theorem run (ho:ops[i]?=some o) (hd:o.dst=some s) (hw:Region.wanted o (yielded ops a.tmps)=true) (hr:(execOp a.eval o).run P w=.ok (.value v) w) (hB:Below X0.heap.size X0 w):wpOp P ops Q i (fun a' w'=>a'=a.put (some s) v∧Below X0.heap.size X0 w') a w:=by
 refine wp ho hw ?_
 unfold Oper.wp
 rw[hr]
 show a.put o.dst v=_∧_
 rw[hd]
 exact⟨rfl,hB⟩
theorem call {f:Nat} {vs:Array Value} (ho:ops[i]?=some o) (hd:o.dst=some s) (hw:Region.wanted o (yielded ops a.tmps)=true) (hr:(execOp a.eval o).run P w=.ok (.enter f vs) w) (hB:Below X0.heap.size X0 w)
  (hc:Calls P f vs w fun e w'=>e=.returned v∧Below w.heap.size w w'):wpOp P ops Q i (fun a' w'=>a'=a.put (some s) v∧Below X0.heap.size X0 w') a w:=by
 refine wp ho hw ?_
 unfold Oper.wp
 rw[hr,Oper.upon_enter]
 refine hc.mono ?_
 rintro e w' ⟨rfl,hb⟩
 show a.put o.dst v=_∧_
 rw[hd]
 exact⟨rfl,thn hB hb⟩
theorem skip (ho:ops[i]?=some o) (hd:o.dst=some s) (hw:Region.wanted o (yielded ops a.tmps)=false) (hB:Below X0.heap.size X0 w):wpOp P ops Q i (fun a' w'=>a'=a.put (some s) undef∧Below X0.heap.size X0 w') a w:=by
 unfold wpOp
 rw[ho]
 show if Region.wanted o (yielded ops a.tmps)=true then _ else _
 rw[if_neg (by rw[hw];decide)]
 show a.put o.dst undef=_∧_
 rw[hd]
 exact⟨rfl,hB⟩
theorem want_free (hg:o.guard=none) {y:Nat→Option Bool}:Region.wanted o y=true:=by
 unfold Region.wanted
 rw[hg]
theorem want_if {j:Nat} {o':Oper} {b b':Bool} (hg:o.guard=some (j,b')) (ho:ops[j]?=some o') (hd:o'.dst=some s) (hs:s<a.tmps.size) (hv:ev a s=.bool b):Region.wanted o (yielded ops a.tmps)=(b==b'):=by
 have e2:=mK hv hs
 have e3:yielded ops a.tmps j=some b:=by
  unfold yielded
  rw[ho]
  simp only[Option.bind_some,hd,e2]
 unfold Region.wanted
 rw[hg]
 show (yielded ops a.tmps j==some b')=_
 rw[e3]
 cases b<;>cases b'<;>rfl
end
theorem relso {P:Program} {ops:Array Oper} {Q:Exit→Act→World→Prop} {X0:World} {a0:Act} (N:Nat) (slot:Nat→Nat) (G:Nat→Value→World→Prop) (own:Nat→Value→Option Nat) (hown:∀ i v w,G i v w→∀ g,own i v=some g→g<w.heap.size) (K:Act→World→Prop) (hG:∀ i v w w',Below w.heap.size w w'→G i v w→G i v w')
  (hN:ops.size=N+1) (hlow:∀ i,i<N+1→∀ j∈deps ops i,j<i) (hall:∀ j,j<N→j∈deps ops N) (hinj:∀ i,i<N→∀ j,j<N→j≠i→slot j≠slot i) (hsz:∀ j,j<N→slot j<a0.tmps.size) {w0:World} (hw:Below X0.heap.size X0 w0)
  (hstep:∀ i a w,i<N→Off N slot a0 a→Below X0.heap.size X0 w→(∀ j∈deps ops i,G j (ev a (slot j)) w)→(∀ j∈deps ops i,∀ k∈deps ops i,j≠k→∀ g,own j (ev a (slot j))=some g→own k (ev a (slot k))≠some g)→wpOp P ops Q i (fun a' w'=>∃ v,a'=a.put (some (slot i)) v∧(G i v w'∧∀ g,own i v=some g→w.heap.size≤g)∧Below w.heap.size w w') a w)
  (hstore:∀ a w,Off N slot a0 a→Below X0.heap.size X0 w→(∀ j,j<N→G j (ev a (slot j)) w)→(∀ j k,j<N→k<N→j≠k→∀ g,own j (ev a (slot j))=some g→own k (ev a (slot k))≠some g)→wpOp P ops Q N (fun a' w'=>a'=a∧K a w') a w)
  (hQ:∀ a w,Off N slot a0 a→K a w→Q .normal a w):wpAny P .any ops Q (N+1) (Array.replicate (N+1) false) a0 w0:=by
 refine dx (fun l a w=>l.size=N+1∧Off N slot a0 a∧(l.getD N false=true→∀ j,j<N→l.getD j false=true)∧((l.getD N false=true∧K a w)∨(l.getD N false=false∧Below X0.heap.size X0 w∧(∀ j,j<N→l.getD j false=true→G j (ev a (slot j)) w)∧∀ j k,j<N→k<N→l.getD j false=true→l.getD k false=true→j≠k→∀ g,own j (ev a (slot j))=some g→own k (ev a (slot k))≠some g))) ?_ ?_ (N+1) _ _ _ (by simp) ⟨by simp,⟨rfl,rfl,fun _ _=>rfl⟩,?_,.inr ⟨?_,hw,?_,?_⟩⟩
 ·rintro l a w i hi ⟨hl,hO,hd,hS⟩
  obtain⟨hi1,hi2⟩:=bq hi
  rw[hN] at hi2
  have hdn:=dh hi
  have hi3:l.getD i false=false:=by
   have:=(bT hi1).1
   simp[this] at hi1 ⊢
   exact hi1
  have hset:∀ j,(l.setIfInBounds i true).getD j false=upd (fun j=>l.getD j false) i j:=congrFun (bA l i (by omega))
  have hne:∀ j,j≠i→(l.setIfInBounds i true).getD j false=l.getD j false:=fun j e=>by rw[hset];unfold upd;simp[e]
  have hii:(l.setIfInBounds i true).getD i false=true:=by rw[hset];unfold upd;simp
  have hls:(l.setIfInBounds i true).size=N+1:=by simp[hl]
  have hNf:i≠N→l.getD N false=false:=fun hiN=>by
   cases h:l.getD N false with
   |false=>rfl
   |true=>rw[hd h i (by omega)] at hi3;cases hi3
  by_cases hiN:i=N
  ·subst hiN
   have hdone:∀ j,j<i→l.getD j false=true:=fun j hj=>hdn j (hall j hj)
   rcases hS with⟨h,_⟩|⟨_,hB,hg,hne2⟩
   ·rw[hi3] at h;cases h
   ·refine wpOp_mono ?_ (hstore a w hO hB (fun j hj=>hg j hj (hdone j hj)) fun j k hj hk=>hne2 j k hj hk (hdone j hj) (hdone k hk))
    rintro a' w' ⟨rfl,hK⟩
    exact⟨hls,hO,fun _ j hj=>by rw[hne j (by omega)];exact hdone j hj,.inl ⟨hii,hK⟩⟩
  ·have hiN':i<N:=by omega
   have hs:slot i<a.tmps.size:=by rw[hO.size];exact hsz i hiN'
   rcases hS with⟨h,_⟩|⟨_,hB,hg,hne2⟩
   ·rw[hNf hiN] at h;cases h
   ·refine wpOp_mono ?_ (hstep i a w hiN' hO hB (fun j hj=>hg j (by have:=hlow i (by omega) j hj;omega) (hdn j hj)) fun j hj k hk=>hne2 j k (by have:=hlow i (by omega) j hj;omega) (by have:=hlow i (by omega) k hk;omega) (hdn j hj) (hdn k hk))
    rintro a' w' ⟨v,rfl,⟨hv,hvo⟩,hb⟩
    have hkeep:∀ j,j<N→j≠i→ev (a.put (some (slot i)) v) (slot j)=ev a (slot j):=fun j hj e=>by rw[dn a _ _ hs,if_neg (hinj i hiN' j hj e)]
    have hnew:ev (a.put (some (slot i)) v) (slot i)=v:=by rw[dn a _ _ hs,if_pos rfl]
    refine⟨hls,⟨hO.def_,by rw[← hO.size];simp[Act.put],fun k hk=>by rw[dn a _ _ hs,if_neg (hk i hiN')];exact hO.same k hk⟩,fun h=>?_,.inr ⟨?_,thn hB hb,fun j hj hdj=>?_,fun j k hj hk hdj hdk hjk g hgj hgk=>?_⟩⟩
    ·rw[hne N (fun e=>hiN e.symm),hNf hiN] at h;cases h
    ·rw[hne N (fun e=>hiN e.symm)];exact hNf hiN
    ·by_cases e:j=i
     ·subst e;rw[hnew];exact hv
     ·rw[hkeep j hj e]
      exact hG j _ w w' hb (hg j hj (by rw[← hne j e];exact hdj))
    ·by_cases e:j=i
     ·subst e
      rw[hnew] at hgj
      rw[hkeep k hk (fun h=>hjk h.symm)] at hgk
      have h1:=hown k _ w (hg k hk (by rw[← hne k (fun h=>hjk h.symm)];exact hdk)) g hgk
      have h2:=hvo g hgj
      omega
     ·rw[hkeep j hj e] at hgj
      have hdj2:l.getD j false=true:=by rw[← hne j e];exact hdj
      by_cases e2:k=i
      ·subst e2
       rw[hnew] at hgk
       have h1:=hown j _ w (hg j hj hdj2) g hgj
       have h2:=hvo g hgk
       omega
      ·rw[hkeep k hk e2] at hgk
       exact hne2 j k hj hk hdj2 (by rw[← hne k e2];exact hdk) hjk g hgj hgk
 ·rintro l a w hr ⟨hl,hO,hd,hS⟩
  have:=dN (by omega) (by rw[hN];exact hlow) hr
  rw[hN] at this
  rcases hS with⟨_,hK⟩|⟨h,_⟩
  ·exact hQ a w hO hK
  ·rw[this N (by omega)] at h;cases h
 ·intro h
  simp at h
 ·simp
 ·intro j hj hd
  simp[show j<N+1 by omega] at hd
 ·intro j k hj hk hd
  simp[show j<N+1 by omega] at hd
theorem rungo {P:Program} {ops:Array Oper} {Q:Exit→Act→World→Prop} {i:Nat} {o:Oper} {a:Act} {w w':World} {v:Value} {s:Nat} {R:Value→World→Prop} {ow:Value→Option Nat} (ho:ops[i]?=some o) (hd:o.dst=some s) (hw:Region.wanted o (yielded ops a.tmps)=true) (hr:(execOp a.eval o).run P w=.ok (.value v) w') (hv:R v w') (hg:∀ g,ow v=some g→w.heap.size≤g) (hb:Below w.heap.size w w'):wpOp P ops Q i (fun a' w'=>∃ v,a'=a.put (some s) v∧(R v w'∧∀ g,ow v=some g→w.heap.size≤g)∧Below w.heap.size w w') a w:=by
 refine wp ho hw ?_
 unfold Oper.wp
 rw[hr]
 refine⟨v,?_,⟨hv,hg⟩,hb⟩
 show a.put o.dst v=_
 rw[hd]
theorem callo {P:Program} {ops:Array Oper} {Q:Exit→Act→World→Prop} {i:Nat} {o:Oper} {a:Act} {w:World} {s f:Nat} {vs:Array Value} {G:Value→World→Prop} (ho:ops[i]?=some o) (hd:o.dst=some s) (hw:Region.wanted o (yielded ops a.tmps)=true) (hr:(execOp a.eval o).run P w=.ok (.enter f vs) w)
  (hc:Calls P f vs w fun e w'=>∃ v,e=.returned v∧G v w'):wpOp P ops Q i (fun a' w'=>∃ v,a'=a.put (some s) v∧G v w') a w:=by
 refine wp ho hw ?_
 unfold Oper.wp
 rw[hr,Oper.upon_enter]
 refine hc.mono ?_
 rintro e w' ⟨v,rfl,hg⟩
 show ∃ v',a.put o.dst v=_∧_
 rw[hd]
 exact⟨v,rfl,hg⟩
theorem storeo {P:Program} {ops:Array Oper} {Q:Exit→Act→World→Prop} {i:Nat} {o:Oper} {a:Act} {w w':World} {K:Act→World→Prop} (ho:ops[i]?=some o) (hd:o.dst=none) (hw:Region.wanted o (yielded ops a.tmps)=true) (hr:(execOp a.eval o).run P w=.ok .skip w') (hK:K a w'):wpOp P ops Q i (fun a' w'=>a'=a∧K a w') a w:=by
 refine wp ho hw ?_
 unfold Oper.wp
 rw[hr]
 show a.put o.dst undef=_∧_
 rw[hd]
 exact⟨rfl,hK⟩
section
variable {P:Program} {ops:Array Oper} {Q:Exit→Act→World→Prop} {X0:World} {i:Nat} {o:Oper} {a:Act} {w w':World} {v:Value} {s:Nat}
end
end Rg
namespace Gw
open Tj
def lg0 : Oper := { dst := some 8, op := Op.move (Operand.tmp 0), type := 29, pos := "walk.go:21", after := #[], guard := none }
def lg1 : Oper := { dst := some 9, op := Op.move (Operand.tmp 3), type := 3, pos := "walk.go:21", after := #[], guard := none }
def lg2 : Oper := { dst := some 10, op := Op.makeSlice 36 (Operand.tmp 9) (Operand.tmp 9), type := 36, pos := "walk.go:21", after := #[{ on := 1, ground := Ground.data }, { on := 1, ground := Ground.data }], guard := none }
def lg3 : Oper := { dst := some 11, op := Op.move (Operand.tmp 3), type := 3, pos := "walk.go:21", after := #[], guard := none }
def lg4 : Oper := { dst := some 12, op := Op.makeSlice 36 (Operand.tmp 11) (Operand.tmp 11), type := 36, pos := "walk.go:21", after := #[{ on := 3, ground := Ground.data }, { on := 3, ground := Ground.data }], guard := none }
def lg5 : Oper := { dst := some 13, op := Op.move (Operand.tmp 3), type := 3, pos := "walk.go:21", after := #[], guard := none }
def lg6 : Oper := { dst := some 14, op := Op.makeSlice 36 (Operand.tmp 13) (Operand.tmp 13), type := 36, pos := "walk.go:21", after := #[{ on := 5, ground := Ground.data }, { on := 5, ground := Ground.data }], guard := none }
def lg7 : Oper := { dst := some 15, op := Op.buildSlice 36 1 #[(0, Operand.const (Value.int IntKind.i64 (-1)))], type := 36, pos := "walk.go:21", after := #[], guard := none }
def lg8 : Oper := { dst := some 16, op := Op.move (Operand.tmp 3), type := 3, pos := "walk.go:21", after := #[], guard := none }
def lg9 : Oper := { dst := some 17, op := Op.call { callee := Callee.value (Operand.func 52), args := #[Operand.tmp 15, Operand.tmp 16], argTypes := #[36, 3] }, type := 36, pos := "walk.go:21", after := #[{ on := 7, ground := Ground.data }, { on := 8, ground := Ground.data }], guard := none }
def lg10 : Oper := { dst := some 18, op := Op.build 111 #[(0, Operand.tmp 8), (1, Operand.tmp 10), (2, Operand.tmp 12), (3, Operand.tmp 14), (7, Operand.tmp 17)], type := 111, pos := "walk.go:21", after := #[{ on := 0, ground := Ground.data }, { on := 2, ground := Ground.data }, { on := 4, ground := Ground.data }, { on := 6, ground := Ground.data }, { on := 9, ground := Ground.data }], guard := none }
def lg11 : Oper := { dst := some 4, op := Op.alloc 111, type := 0, pos := "walk.go:21", after := #[], guard := none }
def lg12 : Oper := { dst := none, op := Op.store 111 (Operand.tmp 4) (Operand.tmp 18), type := 0, pos := "walk.go:21", after := #[{ on := 11, ground := Ground.data }, { on := 10, ground := Ground.data }, { on := 9, ground := Ground.chain }, { on := 0, ground := Ground.phase }, { on := 1, ground := Ground.phase }, { on := 2, ground := Ground.phase }, { on := 3, ground := Ground.phase }, { on := 4, ground := Ground.phase }, { on := 5, ground := Ground.phase }, { on := 6, ground := Ground.phase }, { on := 7, ground := Ground.phase }, { on := 8, ground := Ground.phase }, { on := 9, ground := Ground.phase }, { on := 10, ground := Ground.phase }, { on := 11, ground := Ground.phase }], guard := none }
def lgops:Array Oper:=#[lg0,lg1,lg2,lg3,lg4,lg5,lg6,lg7,lg8,lg9,lg10,lg11,lg12]
def setF (w:World) (S:Nat):Nat→List Value→World
 |_,[]=>w
 |i,x::xs=>setF (w.setCell ⟨S,i,none⟩ x) S (i+1) xs
def setA (c:Array Value):Nat→List Value→Array Value
 |_,[]=>c
 |i,x::xs=>setA (c.setIfInBounds i x) (i+1) xs
theorem jC (S k:Nat) (hk:k≠S):∀ (xs:List Value) (w:World) (i:Nat),(setF w S i xs).heap[k]?=w.heap[k]?
 |[],_,_=>rfl
 |_::xs,_,_=>(jC S k hk xs _ _).trans (Below.heap_setCell _ _ _ _ hk)
theorem jJ {Z:Nat} {w0:World} (S:Nat) (hS:Z≤S):∀ (xs:List Value) (w:World) (i:Nat),Below Z w0 w→Below Z w0 (setF w S i xs)
 |[],_,_,h=>h
 |_::xs,_,_,h=>jJ S hS xs _ _ (h.setCell hS _)
theorem lN {S:Nat} {t:TypeId}:∀ (xs:List Value) (w:World) (i:Nat) (c:Array Value),w.heap[S]?=some (.cells c t (0,0))→(setF w S i xs).heap[S]?=some (.cells (setA c i xs) t (0,0))
 |[],_,_,_,h=>h
 |x::xs,w,i,c,h=>lN xs _ _ _ (heap_setCell_same w S i c t x h)
def lgG (Z cb n ccap:Nat):Nat→Value→World→Prop
 |0=>fun v _=>v=.slice (some ⟨cb,0,none⟩) n ccap
 |2=>fun v w=>∃ g,v=.slice (some ⟨g,0,none⟩) n n∧Z≤g∧Bi w g (List.replicate n 0)
 |4=>fun v w=>∃ g,v=.slice (some ⟨g,0,none⟩) n n∧Z≤g∧Bi w g (List.replicate n 0)
 |6=>fun v w=>∃ g,v=.slice (some ⟨g,0,none⟩) n n∧Z≤g∧Bi w g (List.replicate n 0)
 |7=>fun v w=>∃ g,v=.slice (some ⟨g,0,none⟩) 1 1∧w.cell? ⟨g,0,none⟩=some (.int .i64 (-1))
 |9=>fun v w=>∃ g,v=.slice (some ⟨g,0,none⟩) n n∧Z≤g∧Bi w g (List.replicate n (-1))
 |10=>fun v w=>∃ g1 g2 g3 g4,v=.agg #[.slice (some ⟨cb,0,none⟩) n ccap,.slice (some ⟨g1,0,none⟩) n n,.slice (some ⟨g2,0,none⟩) n n,.slice (some ⟨g3,0,none⟩) n n,.slice none 0 0,.slice none 0 0,.int .i64 0,.slice (some ⟨g4,0,none⟩) n n]∧(Z≤g1∧Z≤g2∧Z≤g3∧Z≤g4)∧(g1≠g2∧g1≠g3∧g1≠g4∧g2≠g3∧g2≠g4∧g3≠g4)∧Bi w g1 (List.replicate n 0)∧Bi w g2 (List.replicate n 0)∧Bi w g3 (List.replicate n 0)∧Bi w g4 (List.replicate n (-1))
 |11=>fun v w=>∃ S,v=.pointer (some ⟨S,0,none⟩)∧Z≤S∧w.heap[S]?=some (.cells #[.slice none 0 0,.slice none 0 0,.slice none 0 0,.slice none 0 0,.slice none 0 0,.slice none 0 0,.int .i64 0,.slice none 0 0] 111 (0,0))
 |_=>fun v _=>v=.int .i64 n
def lgO:Nat→Value→Option Nat
 |2,v=>v.ownBlock
 |4,v=>v.ownBlock
 |6,v=>v.ownBlock
 |9,v=>v.ownBlock
 |_,_=>none
theorem Bi.keep {w w':World} {g:Nat} {L:List Int} (h:Bi w g L) (hb:Below w.heap.size w w'):Bi w' g L:=h.other (hb.block _ h.lt)
theorem lgG_up (Z cb n ccap i:Nat) (v:Value) (w w':World) (hb:Below w.heap.size w w') (h:lgG Z cb n ccap i v w):lgG Z cb n ccap i v w':=by
 match i,h with
 |0,h=>exact h
 |1,h=>exact h
 |2,⟨g,e,hz,hg⟩=>exact⟨g,e,hz,hg.keep hb⟩
 |3,h=>exact h
 |4,⟨g,e,hz,hg⟩=>exact⟨g,e,hz,hg.keep hb⟩
 |5,h=>exact h
 |6,⟨g,e,hz,hg⟩=>exact⟨g,e,hz,hg.keep hb⟩
 |7,⟨g,e,hg⟩=>exact⟨g,e,by rw[hb.cell (cell_below hg)];exact hg⟩
 |8,h=>exact h
 |9,⟨g,e,hz,hg⟩=>exact⟨g,e,hz,hg.keep hb⟩
 |10,⟨g1,g2,g3,g4,e,hz,hd,a1,a2,a3,a4⟩=>exact⟨g1,g2,g3,g4,e,hz,hd,a1.keep hb,a2.keep hb,a3.keep hb,a4.keep hb⟩
 |11,⟨S,e,hz,hg⟩=>exact⟨S,e,hz,by rw[hb.block S (Array.getElem?_eq_some_iff.1 hg).1];exact hg⟩
 |_+12,h=>exact h
theorem lgG_own (Z cb n ccap i:Nat) (v:Value) (w:World) (h:lgG Z cb n ccap i v w) (g:Nat) (hg:lgO i v=some g):g<w.heap.size:=by
 match i,h,hg with
 |2,⟨g',e,_,hb⟩,hg=>subst e;cases hg;exact hb.lt
 |4,⟨g',e,_,hb⟩,hg=>subst e;cases hg;exact hb.lt
 |6,⟨g',e,_,hb⟩,hg=>subst e;cases hg;exact hb.lt
 |9,⟨g',e,_,hb⟩,hg=>subst e;cases hg;exact hb.lt
 |0,_,hg=>cases hg
 |1,_,hg=>cases hg
 |3,_,hg=>cases hg
 |5,_,hg=>cases hg
 |7,_,hg=>cases hg
 |8,_,hg=>cases hg
 |10,_,hg=>cases hg
 |11,_,hg=>cases hg
 |_+12,_,hg=>cases hg
def lgK (cb n ccap:Nat) (X0:World) (a:Act) (w:World):Prop:=∃ S g1 g2 g3 g4,Rg.ev a 4=.pointer (some ⟨S,0,none⟩)∧X0.heap.size≤S∧w.heap[S]?=some (.cells #[.slice (some ⟨cb,0,none⟩) n ccap,.slice (some ⟨g1,0,none⟩) n n,.slice (some ⟨g2,0,none⟩) n n,.slice (some ⟨g3,0,none⟩) n n,.slice none 0 0,.slice none 0 0,.int .i64 0,.slice (some ⟨g4,0,none⟩) n n] 111 (0,0))∧(X0.heap.size≤g1∧X0.heap.size≤g2∧X0.heap.size≤g3∧X0.heap.size≤g4)∧(g1≠g2∧g1≠g3∧g1≠g4∧g2≠g3∧g2≠g4∧g3≠g4)∧(S≠g1∧S≠g2∧S≠g3∧S≠g4)∧Bi w g1 (List.replicate n 0)∧Bi w g2 (List.replicate n 0)∧Bi w g3 (List.replicate n 0)∧Bi w g4 (List.replicate n (-1))∧Below X0.heap.size X0 w
def lgS (k:Nat):Nat:=if k=11 then 4 else k+8
section
variable {Q:Exit→Act→World→Prop} {X0 w0:World} {a0:Act}
theorem rW (W:World) (n:Nat):Bi (W.alloc (.cells (madeCells #[.int .i64 0] n) 3)) W.heap.size (List.replicate n 0):=by
 unfold Bi
 rw[made,List.map_replicate]
 show (W.heap.push _)[W.heap.size]?=_
 exact Array.getElem?_push_size
theorem cB (W:World) (o:Obj):Below W.heap.size W (W.alloc o):=(Below.refl _ _).alloc (Nat.le_refl _) o
theorem least_region {cb n ccap:Nat} (hn:n≤100000) (hs:35=a0.tmps.size) (e0:Rg.ev a0 0=.slice (some ⟨cb,0,none⟩) n ccap) (e3:Rg.ev a0 3=.int .i64 n) (hw:Below X0.heap.size X0 w0)
  (hQ:∀ a w,Rg.Off 12 lgS a0 a→lgK cb n ccap X0 a w→Q .normal a w):wpAny Tryz.prog .any lgops Q 13 (Array.replicate 13 false) a0 w0:=by
 refine Rg.relso (X0:=X0) 12 lgS (lgG X0.heap.size cb n ccap) lgO (lgG_own _ _ _ _) (lgK cb n ccap X0) (lgG_up _ _ _ _) rfl (by decide) (by decide) (by decide) (fun j hj=>by rw[← hs];exact (by decide:∀ j,j<12→lgS j<35) j hj) hw ?_ ?_ hQ
 ·intro i a W hi hO hW hd hdo
  have hev:∀ j,a.eval (.tmp j)=Rg.ev a j:=fun _=>rfl
  have g0:Rg.ev a 0=.slice (some ⟨cb,0,none⟩) n ccap:=(hO.same 0 (by decide)).trans e0
  have g3:Rg.ev a 3=.int .i64 n:=(hO.same 3 (by decide)).trans e3
  have hB0:=Below.refl W.heap.size W
  have hZ:=hW.size
  have hmk:(Instr.makeSlice 36 (.int .i64 (n:Int)) (.int .i64 (n:Int))).run Tryz.prog W=.ok (.slice (some ⟨W.heap.size,0,none⟩) n n) (W.alloc (.cells (madeCells #[.int .i64 0] n) 3)):=run_make_row' _ _ _ 8 Tryz.underI Tryz.infoI rfl _ _ n (by omega) (by omega) W
  have hN:i=0∨i=1∨i=2∨i=3∨i=4∨i=5∨i=6∨i=7∨i=8∨i=9∨i=10∨i=11:=by omega
  rcases hN with rfl|rfl|rfl|rfl|rfl|rfl|rfl|rfl|rfl|rfl|rfl|rfl
  ·exact Rg.rungo (o:=lg0) rfl rfl (Rg.want_free rfl) (by unfold lg0;simp only[execOp,hev,g0];go_simp<;>rfl) rfl (by intro g h;cases h) hB0
  ·exact Rg.rungo (o:=lg1) rfl rfl (Rg.want_free rfl) (by unfold lg1;simp only[execOp,hev,g3];go_simp<;>rfl) rfl (by intro g h;cases h) hB0
  ·have d:Rg.ev a 9=.int .i64 n:=hd 1 (by decide)
   exact Rg.rungo (o:=lg2) rfl rfl (Rg.want_free rfl) (by unfold lg2;simp only[execOp,hev,d];go_simp<;>rfl) ⟨_,rfl,hZ,rW W n⟩ (by intro g h;cases h;exact Nat.le_refl _) (cB _ _)
  ·exact Rg.rungo (o:=lg3) rfl rfl (Rg.want_free rfl) (by unfold lg3;simp only[execOp,hev,g3];go_simp<;>rfl) rfl (by intro g h;cases h) hB0
  ·have d:Rg.ev a 11=.int .i64 n:=hd 3 (by decide)
   exact Rg.rungo (o:=lg4) rfl rfl (Rg.want_free rfl) (by unfold lg4;simp only[execOp,hev,d];go_simp<;>rfl) ⟨_,rfl,hZ,rW W n⟩ (by intro g h;cases h;exact Nat.le_refl _) (cB _ _)
  ·exact Rg.rungo (o:=lg5) rfl rfl (Rg.want_free rfl) (by unfold lg5;simp only[execOp,hev,g3];go_simp<;>rfl) rfl (by intro g h;cases h) hB0
  ·have d:Rg.ev a 13=.int .i64 n:=hd 5 (by decide)
   exact Rg.rungo (o:=lg6) rfl rfl (Rg.want_free rfl) (by unfold lg6;simp only[execOp,hev,d];go_simp<;>rfl) ⟨_,rfl,hZ,rW W n⟩ (by intro g h;cases h;exact Nat.le_refl _) (cB _ _)
  ·exact Rg.rungo (o:=lg7) (w':=W.alloc (.cells #[.int .i64 (-1)] 3)) (v:=.slice (some ⟨W.heap.size,0,none⟩) 1 1) rfl rfl (Rg.want_free rfl) (by unfold lg7;simp only[execOp];go_simp<;>rfl) ⟨_,rfl,by simp⟩ (by intro g h;cases h) (cB _ _)
  ·exact Rg.rungo (o:=lg8) rfl rfl (Rg.want_free rfl) (by unfold lg8;simp only[execOp,hev,g3];go_simp<;>rfl) rfl (by intro g h;cases h) hB0
  ·obtain⟨g,d15,hg⟩:=hd 7 (by decide)
   have d16:Rg.ev a 16=.int .i64 n:=hd 8 (by decide)
   replace d15:Rg.ev a 15=_:=d15
   refine Rg.callo (o:=lg9) rfl rfl (Rg.want_free rfl) (f:=52) (vs:=#[.slice (some ⟨g,0,none⟩) 1 1,.int .i64 n]) (by unfold lg9;simp only[execOp,resolve,hev,d15,d16,List.map_toArray,List.map_cons,List.map_nil];go_simp<;>rfl) ?_
   refine (repeat_any W g n hg hn).mono ?_
   rintro e w' ⟨rfl,hbi,hb⟩
   exact⟨_,rfl,⟨⟨_,rfl,hZ,hbi⟩,by intro g h;cases h;exact Nat.le_refl _⟩,hb⟩
  ·have d8:Rg.ev a 8=.slice (some ⟨cb,0,none⟩) n ccap:=hd 0 (by decide)
   obtain⟨g1,d10,z1,b1⟩:=hd 2 (by decide)
   obtain⟨g2,d12,z2,b2⟩:=hd 4 (by decide)
   obtain⟨g3',d14,z3,b3⟩:=hd 6 (by decide)
   obtain⟨g4,d17,z4,b4⟩:=hd 9 (by decide)
   have o12:=hdo 2 (by decide) 4 (by decide) (by decide) g1 (by rw[d10];rfl)
   have o13:=hdo 2 (by decide) 6 (by decide) (by decide) g1 (by rw[d10];rfl)
   have o14:=hdo 2 (by decide) 9 (by decide) (by decide) g1 (by rw[d10];rfl)
   have o23:=hdo 4 (by decide) 6 (by decide) (by decide) g2 (by rw[d12];rfl)
   have o24:=hdo 4 (by decide) 9 (by decide) (by decide) g2 (by rw[d12];rfl)
   have o34:=hdo 6 (by decide) 9 (by decide) (by decide) g3' (by rw[d14];rfl)
   rw[d12] at o12
   rw[d14] at o13 o23
   rw[d17] at o14 o24 o34
   replace d10:Rg.ev a 10=_:=d10
   replace d12:Rg.ev a 12=_:=d12
   replace d14:Rg.ev a 14=_:=d14
   replace d17:Rg.ev a 17=_:=d17
   exact Rg.rungo (o:=lg10) rfl rfl (Rg.want_free rfl) (by unfold lg10;simp only[execOp,List.map_toArray,List.map_cons,List.map_nil,hev,d8,d10,d12,d14,d17];go_simp<;>rfl) ⟨g1,g2,g3',g4,rfl,⟨z1,z2,z3,z4⟩,⟨fun h=>o12 (by rw[h];rfl),fun h=>o13 (by rw[h];rfl),fun h=>o14 (by rw[h];rfl),fun h=>o23 (by rw[h];rfl),fun h=>o24 (by rw[h];rfl),fun h=>o34 (by rw[h];rfl)⟩,b1,b2,b3,b4⟩ (by intro g h;cases h) hB0
  ·exact Rg.rungo (o:=lg11) (w':=W.alloc (.cells #[.slice none 0 0,.slice none 0 0,.slice none 0 0,.slice none 0 0,.slice none 0 0,.slice none 0 0,.int .i64 0,.slice none 0 0] 111)) (v:=.pointer (some ⟨W.heap.size,0,none⟩)) rfl rfl (Rg.want_free rfl) (by unfold lg11;simp only[execOp];go_simp<;>rfl) ⟨_,rfl,hZ,by show (W.heap.push _)[W.heap.size]?=_;exact Array.getElem?_push_size⟩ (by intro g h;cases h) (cB _ _)
 ·intro a W hO hW hg hdo
  have hev:∀ j,a.eval (.tmp j)=Rg.ev a j:=fun _=>rfl
  obtain⟨g1,g2,g3,g4,d18,hz,hdd,b1,b2,b3,b4⟩:=hg 10 (by decide)
  obtain⟨S,d4,hzS,hS⟩:=hg 11 (by decide)
  replace d18:Rg.ev a 18=_:=d18
  replace d4:Rg.ev a 4=_:=d4
  have hSg:∀ g L,Bi W g L→S≠g:=fun g L hb e=>by
   subst e
   unfold Bi at hb
   rw[hS] at hb
   simp at hb
  have k:=fun g L (hb:Bi W g L)=>hb.other (jC S g (hSg g L hb).symm [.slice (some ⟨cb,0,none⟩) n ccap,.slice (some ⟨g1,0,none⟩) n n,.slice (some ⟨g2,0,none⟩) n n,.slice (some ⟨g3,0,none⟩) n n,.slice none 0 0,.slice none 0 0,.int .i64 0,.slice (some ⟨g4,0,none⟩) n n] W 0)
  have c0:=cell_of_row _ _ 0 _ _ _ hS
  have c1:=cell_of_row _ _ 1 _ _ _ hS
  have c2:=cell_of_row _ _ 2 _ _ _ hS
  have c3:=cell_of_row _ _ 3 _ _ _ hS
  have c4:=cell_of_row _ _ 4 _ _ _ hS
  have c5:=cell_of_row _ _ 5 _ _ _ hS
  have c6:=cell_of_row _ _ 6 _ _ _ hS
  have c7:=cell_of_row _ _ 7 _ _ _ hS
  simp at c0 c1 c2 c3 c4 c5 c6 c7
  have f:=fun k=>frozen_of_row W S k _ _ hS
  have f0:=f 0
  have f1:=f 1
  have f2:=f 2
  have f3:=f 3
  have f4:=f 4
  have f5:=f 5
  have f6:=f 6
  have f7:=f 7
  exact Rg.storeo (K:=lgK cb n ccap X0) (o:=lg12) (a:=a) (w:=W) (w':=setF W S 0 [.slice (some ⟨cb,0,none⟩) n ccap,.slice (some ⟨g1,0,none⟩) n n,.slice (some ⟨g2,0,none⟩) n n,.slice (some ⟨g3,0,none⟩) n n,.slice none 0 0,.slice none 0 0,.int .i64 0,.slice (some ⟨g4,0,none⟩) n n]) rfl rfl (Rg.want_free rfl) (by unfold lg12;simp only[setF,Nat.zero_add,Nat.reduceAdd,execOp,hev,d4,d18];go_simp<;>rfl) ⟨S,g1,g2,g3,g4,d4,hzS,(lN _ W 0 _ hS).trans (by kernel_rfl),hz,hdd,⟨hSg _ _ b1,hSg _ _ b2,hSg _ _ b3,hSg _ _ b4⟩,k _ _ b1,k _ _ b2,k _ _ b3,k _ _ b4,jJ S hzS _ W 0 hW⟩
end
def Bs (w:World) (g n:Nat) (V:Nat→Value):Prop:=w.heap[g]?=some (.cells ((List.range n).map V).toArray 36 (0,0))
section
variable {w w':World} {g n v:Nat} {V:Nat→Value}
theorem Bs.lt (h:Bs w g n V):g<w.heap.size:=by
 rcases Nat.lt_or_ge g w.heap.size with k|k
 ·exact k
 ·unfold Bs at h;rw[Array.getElem?_eq_none k] at h;cases h
theorem Bs.cell (h:Bs w g n V) (hv:v<n):w.cell? ⟨g,v,none⟩=some (V v):=by
 rw[cell_of_row w g v _ _ _ h]
 simp[hv]
theorem Bs.free (h:Bs w g n V) (t:Nat):w.frozen? ⟨g,t,none⟩=false:=frozen_of_row w g t _ _ h
theorem Bs.set (h:Bs w g n V) (x:Value):Bs (w.setCell ⟨g,v,none⟩ x) g n (fun u=>if u=v then x else V u):=by
 unfold Bs
 rw[heap_setCell_same w g v _ _ _ h]
 congr 2
 apply Array.ext
 ·simp
 ·intro i h1 h2
  have hi:i<n:=by simpa using h2
  simp only[List.getElem_toArray,List.getElem_map,List.getElem_range]
  by_cases e:v=i
  ·subst e;simp
  ·have e2:¬ i=v:=fun k=>e k.symm
   simp[e,e2]
theorem Bs.other (h:Bs w g n V) (hb:w'.heap[g]?=w.heap[g]?):Bs w' g n V:=by unfold Bs;rw[hb];exact h
end
structure Lw (w:World) (S:Nat) (T:Nat→Nat) (kw Z n:Nat) (V:Nat→Nat→Value) (R:Nat→Nat→List Int) (Ws:List Int):Prop where
 blk:w.heap[S]?=some (.cells #[.slice (some ⟨T 0,0,none⟩) n n,.slice (some ⟨T 1,0,none⟩) n n,.slice (some ⟨kw,0,none⟩) n n] 76 (0,0))
 tab:∀ t,t<2→Bs w (T t) n (V t)
 wts:Bi w kw Ws
 nw:Ws.length=n
 row:∀ t v,t<2→v<n→w.ownsRow Z 3 1 (V t v) (R t v).length ((R t v).map fun z=>.int .i64 z)
 zS:Z≤S
 zT:∀ t,t<2→Z≤T t
 zw:Z≤kw
 dT:T 0≠T 1
 dS:∀ t,t<2→S≠T t
 dw:∀ t,t<2→kw≠T t
 sw:S≠kw
 od:∀ t v g,t<2→v<n→(V t v).ownBlock=some g→g≠S∧g≠kw∧∀ t',t'<2→g≠T t'
 ap:∀ t v t' v' g,t<2→v<n→t'<2→v'<n→(t≠t'∨v≠v')→(V t v).ownBlock=some g→(V t' v').ownBlock≠some g
def up2 {α:Type} (f:Nat→Nat→α) (t v:Nat) (x:α):Nat→Nat→α:=fun a b=>if a=t∧b=v then x else f a b
theorem eX {α:Type} (f:Nat→Nat→α) (t v:Nat) (x:α):up2 f t v x t v=x:=if_pos ⟨rfl,rfl⟩
theorem gZ {α:Type} (f:Nat→Nat→α) {t v a b:Nat} (x:α) (h:a≠t∨b≠v):up2 f t v x a b=f a b:=if_neg fun e=>h.elim (fun k=>k e.1) fun k=>k e.2
section
variable {w:World} {S kw Z n:Nat} {T:Nat→Nat} {V:Nat→Nat→Value} {R:Nat→Nat→List Int} {Ws:List Int}
theorem Lw.lt (h:Lw w S T kw Z n V R Ws):S<w.heap.size:=(Array.getElem?_eq_some_iff.1 h.blk).1
theorem Lw.le (h:Lw w S T kw Z n V R Ws):Z≤w.heap.size:=Nat.le_trans h.zS (Nat.le_of_lt h.lt)
theorem Lw.cells (h:Lw w S T kw Z n V R Ws):w.cell? ⟨S,0,none⟩=some (.slice (some ⟨T 0,0,none⟩) n n)∧w.cell? ⟨S,1,none⟩=some (.slice (some ⟨T 1,0,none⟩) n n)∧w.cell? ⟨S,2,none⟩=some (.slice (some ⟨kw,0,none⟩) n n):=by
 refine⟨?_,?_,?_⟩
 all_goals rw[cell_of_row w S _ _ _ _ h.blk];rfl
theorem Lw.up (h:Lw w S T kw Z n V R Ws) {w':World} (hb:Below w.heap.size w w'):Lw w' S T kw Z n V R Ws:=
 { blk:=by rw[hb.block S h.lt];exact h.blk,tab:=fun t ht=>(h.tab t ht).other (hb.block _ (h.tab t ht).lt),wts:=h.wts.other (hb.block _ h.wts.lt),nw:=h.nw,row:=fun t v ht hv=>aX (h.row t v ht hv) hb,zS:=h.zS,zT:=h.zT,zw:=h.zw,dT:=h.dT,dS:=h.dS,dw:=h.dw,sw:=h.sw,od:=h.od,ap:=h.ap }
theorem Lw.keep (h:Lw w S T kw Z n V R Ws) {w':World} (hb:∀ k,Z≤k→w'.heap[k]?=w.heap[k]?):Lw w' S T kw Z n V R Ws:=
 { blk:=by rw[hb S h.zS];exact h.blk,tab:=fun t ht=>(h.tab t ht).other (hb _ (h.zT t ht)),wts:=h.wts.other (hb _ h.zw),nw:=h.nw,row:=fun t v ht hv=>aD (h.row t v ht hv) fun g hg=>hb g ((h.row t v ht hv).lt g hg).1,zS:=h.zS,zT:=h.zT,zw:=h.zw,dT:=h.dT,dS:=h.dS,dw:=h.dw,sw:=h.sw,od:=h.od,ap:=h.ap }
theorem Lw.wait (h:Lw w S T kw Z n V R Ws) (v:Nat) (x:Int):Lw (w.setCell ⟨kw,v,none⟩ (.int .i64 x)) S T kw Z n V R (Ws.set v x):=by
 have ho:∀ k,k≠kw→(w.setCell ⟨kw,v,none⟩ (.int .i64 x)).heap[k]?=w.heap[k]?:=fun k hk=>Below.heap_setCell _ _ _ _ hk
 exact { blk:=by rw[ho _ h.sw];exact h.blk,tab:=fun t ht=>(h.tab t ht).other (ho _ (h.dw t ht).symm),wts:=h.wts.set v x,nw:=by rw[List.length_set];exact h.nw,row:=fun t u ht hu=>aD (h.row t u ht hu) fun g hg=>ho g (h.od t u g ht hu hg).2.1,zS:=h.zS,zT:=h.zT,zw:=h.zw,dT:=h.dT,dS:=h.dS,dw:=h.dw,sw:=h.sw,od:=h.od,ap:=h.ap }
theorem Lw.push (h:Lw w S T kw Z n V R Ws) {t v:Nat} (ht:t<2) (hv:v<n) {w':World} {vq:Value} {Q:List Int} (hg:w.grownBy w' (V t v).ownBlock) (hq:w'.ownsRow Z 3 1 vq Q.length (Q.map fun z=>.int .i64 z)) (hl:vq.ownBlock=(V t v).ownBlock∨vq.ownBlock=some w.heap.size) :
  (w'.cell? ⟨S,t,none⟩=some (.slice (some ⟨T t,0,none⟩) n n)∧w'.cell? ⟨T t,v,none⟩=some (V t v)∧w'.frozen? ⟨T t,v,none⟩=false)∧Lw (w'.setCell ⟨T t,v,none⟩ vq) S T kw Z n (up2 V t v vq) (up2 R t v Q) Ws:=by
 have hk:∀ k,k<w.heap.size→(V t v).ownBlock≠some k→w'.heap[k]?=w.heap[k]?:=fun k h1 h2=>hg.block k h1 fun e=>h2 e.symm
 have hn:=fun g hg=>h.od t v g ht hv hg
 have hT:∀ t',t'<2→w'.heap[T t']?=w.heap[T t']?:=fun t' ht'=>hk _ (h.tab t' ht').lt fun e=>(hn _ e).2.2 t' ht' rfl
 have hS:w'.heap[S]?=w.heap[S]?:=hk S h.lt fun e=>(hn S e).1 rfl
 have hw:w'.heap[kw]?=w.heap[kw]?:=hk kw h.wts.lt fun e=>(hn kw e).2.1 rfl
 have htab:=(h.tab t ht).other (hT t ht)
 have hlt:=h.lt
 have hlw:=h.wts.lt
 have hlT:=fun t' ht'=>(h.tab t' ht').lt
 have hd:∀ g,vq.ownBlock=some g→g≠S∧g≠kw∧∀ t',t'<2→g≠T t':=fun g e=>by
  rcases hl with e2|e2
  ·exact hn g (e2 ▸ e)
  ·rw[e2] at e
   obtain rfl:=Option.some.inj e
   exact⟨by omega,by omega,fun t' ht'=>by have:=hlT t' ht';omega⟩
 have hx:∀ t' v' g,t'<2→v'<n→(t≠t'∨v≠v')→vq.ownBlock=some g→(V t' v').ownBlock≠some g:=fun t' v' g h1 h2 h3 e k2=>by
  rcases hl with e2|e2
  ·exact h.ap t v t' v' g ht hv h1 h2 h3 (e2 ▸ e) k2
  ·rw[e2] at e
   obtain rfl:=Option.some.inj e
   have:=((h.row t' v' h1 h2).lt _ k2).2
   omega
 refine⟨⟨?_,htab.cell hv,htab.free v⟩,?_⟩
 ·rw[World.cell?_of_block (w:=w) (a:=⟨S,t,none⟩) hS]
  obtain⟨c0,c1,_⟩:=h.cells
  have:t=0∨t=1:=by omega
  rcases this with rfl|rfl
  ·exact c0
  ·exact c1
 have ho:∀ k,k≠T t→(w'.setCell ⟨T t,v,none⟩ vq).heap[k]?=w'.heap[k]?:=fun k hk=>Below.heap_setCell _ _ _ _ hk
 have hne:∀ t',t'<2→t'≠t→T t'≠T t:=fun t' h1 h2=>by
  have hd:=h.dT
  have:(t=0∧t'=1)∨(t=1∧t'=0):=by omega
  rcases this with⟨rfl,rfl⟩|⟨rfl,rfl⟩
  ·exact hd.symm
  ·exact hd
 exact {
     blk:=(by rw[ho _ (h.dS t ht),hS];exact h.blk)
     tab:=fun t' ht'=>by
      by_cases e:t'=t
      ·subst e
       have e2:up2 V t' v vq t'=fun u=>if u=v then vq else V t' u:=by
        funext u
        by_cases e3:u=v
        ·subst e3;rw[eX];simp
        ·rw[gZ V vq (.inr e3)];simp[e3]
       rw[e2]
       exact htab.set vq
      ·have e2:up2 V t v vq t'=V t':=funext fun u=>gZ V vq (.inl e)
       rw[e2]
       exact ((h.tab t' ht').other (hT t' ht')).other (ho _ (hne t' ht' e))
     wts:=h.wts.other ((ho _ (h.dw t ht)).trans hw)
     nw:=h.nw
     row:=fun t' v' ht' hv'=>by
      by_cases e:t'=t∧v'=v
      ·obtain⟨rfl,rfl⟩:=e
       rw[eX,eX]
       exact aD hq fun g hg=>ho g ((hd g hg).2.2 _ ht)
      ·have e2:t'≠t∨v'≠v:=by
        by_cases e3:t'=t
        ·exact .inr fun e4=>e ⟨e3,e4⟩
        ·exact .inl e3
       rw[gZ V vq e2,gZ R Q e2]
       exact aD (h.row t' v' ht' hv') fun g hg=>(ho g ((h.od t' v' g ht' hv' hg).2.2 _ ht)).trans (hk g ((h.row t' v' ht' hv').lt _ hg).2 fun e5=>h.ap t' v' t v g ht' hv' ht hv e2 hg e5)
     zS:=h.zS
     zT:=h.zT
     zw:=h.zw
     dT:=h.dT
     dS:=h.dS
     dw:=h.dw
     sw:=h.sw
     od:=fun t' v' g ht' hv' hg=>by
      by_cases e:t'=t∧v'=v
      ·obtain⟨rfl,rfl⟩:=e
       rw[eX] at hg
       exact hd g hg
      ·have e2:t'≠t∨v'≠v:=by
        by_cases e3:t'=t
        ·exact .inr fun e4=>e ⟨e3,e4⟩
        ·exact .inl e3
       rw[gZ V vq e2] at hg
       exact h.od t' v' g ht' hv' hg
     ap:=fun t1 v1 t2 v2 g h1 g1 h2 g2 hne2 hg1 hg2=>by
      by_cases e1:t1=t∧v1=v
      ·obtain⟨rfl,rfl⟩:=e1
       rw[eX] at hg1
       rw[gZ V vq (by rcases hne2 with k|k;exact .inl (fun e=>k e.symm);exact .inr fun e=>k e.symm)] at hg2
       exact hx t2 v2 g h2 g2 hne2 hg1 hg2
      ·have e3:t1≠t∨v1≠v:=by
        by_cases e3:t1=t
        ·exact .inr fun e4=>e1 ⟨e3,e4⟩
        ·exact .inl e3
       rw[gZ V vq e3] at hg1
       by_cases e2:t2=t∧v2=v
       ·obtain⟨rfl,rfl⟩:=e2
        rw[eX] at hg2
        exact hx t1 v1 g h1 g1 (by rcases e3 with k|k;exact .inl (fun e=>k e.symm);exact .inr fun e=>k e.symm) hg2 hg1
       ·have e4:t2≠t∨v2≠v:=by
         by_cases e4:t2=t
         ·exact .inr fun e5=>e2 ⟨e4,e5⟩
         ·exact .inl e4
        rw[gZ V vq e4] at hg2
        exact h.ap t1 v1 t2 v2 g h1 g1 h2 g2 hne2 hg1 hg2 }
end
def lq0 : Oper := { dst := some 15, op := Op.move (Operand.tmp 5), type := 3, pos := "order.go:31", after := #[], guard := none }
def lq1 : Oper := { dst := some 16, op := Op.makeSlice 29 (Operand.tmp 15) (Operand.tmp 15), type := 29, pos := "order.go:31", after := #[{ on := 0, ground := Ground.data }, { on := 0, ground := Ground.data }], guard := none }
def lq2 : Oper := { dst := some 17, op := Op.move (Operand.tmp 5), type := 3, pos := "order.go:31", after := #[], guard := none }
def lq3 : Oper := { dst := some 18, op := Op.makeSlice 29 (Operand.tmp 17) (Operand.tmp 17), type := 29, pos := "order.go:31", after := #[{ on := 2, ground := Ground.data }, { on := 2, ground := Ground.data }], guard := none }
def lq4 : Oper := { dst := some 19, op := Op.move (Operand.tmp 5), type := 3, pos := "order.go:31", after := #[], guard := none }
def lq5 : Oper := { dst := some 20, op := Op.makeSlice 36 (Operand.tmp 19) (Operand.tmp 19), type := 36, pos := "order.go:31", after := #[{ on := 4, ground := Ground.data }, { on := 4, ground := Ground.data }], guard := none }
def lq6 : Oper := { dst := some 21, op := Op.build 76 #[(0, Operand.tmp 16), (1, Operand.tmp 18), (2, Operand.tmp 20)], type := 76, pos := "order.go:31", after := #[{ on := 1, ground := Ground.data }, { on := 3, ground := Ground.data }, { on := 5, ground := Ground.data }], guard := none }
def lq7 : Oper := { dst := some 6, op := Op.alloc 76, type := 0, pos := "order.go:31", after := #[], guard := none }
def lq8 : Oper := { dst := none, op := Op.store 76 (Operand.tmp 6) (Operand.tmp 21), type := 0, pos := "order.go:31", after := #[{ on := 7, ground := Ground.data }, { on := 6, ground := Ground.data }, { on := 0, ground := Ground.phase }, { on := 1, ground := Ground.phase }, { on := 2, ground := Ground.phase }, { on := 3, ground := Ground.phase }, { on := 4, ground := Ground.phase }, { on := 5, ground := Ground.phase }, { on := 6, ground := Ground.phase }, { on := 7, ground := Ground.phase }], guard := none }
def lqops:Array Oper:=#[lq0,lq1,lq2,lq3,lq4,lq5,lq6,lq7,lq8]
def lqG (Z n:Nat):Nat→Value→World→Prop
 |1=>fun v w=>∃ g,v=.slice (some ⟨g,0,none⟩) n n∧Z≤g∧Bs w g n (fun _=>.slice none 0 0)
 |3=>fun v w=>∃ g,v=.slice (some ⟨g,0,none⟩) n n∧Z≤g∧Bs w g n (fun _=>.slice none 0 0)
 |5=>fun v w=>∃ g,v=.slice (some ⟨g,0,none⟩) n n∧Z≤g∧Bi w g (List.replicate n 0)
 |6=>fun v w=>∃ g1 g2 g3,v=.agg #[.slice (some ⟨g1,0,none⟩) n n,.slice (some ⟨g2,0,none⟩) n n,.slice (some ⟨g3,0,none⟩) n n]∧(Z≤g1∧Z≤g2∧Z≤g3)∧(g1≠g2∧g1≠g3∧g2≠g3)∧Bs w g1 n (fun _=>.slice none 0 0)∧Bs w g2 n (fun _=>.slice none 0 0)∧Bi w g3 (List.replicate n 0)
 |7=>fun v w=>∃ S,v=.pointer (some ⟨S,0,none⟩)∧Z≤S∧w.heap[S]?=some (.cells #[.slice none 0 0,.slice none 0 0,.slice none 0 0] 76 (0,0))
 |_=>fun v _=>v=.int .i64 n
def lqO:Nat→Value→Option Nat
 |1,v=>v.ownBlock
 |3,v=>v.ownBlock
 |5,v=>v.ownBlock
 |_,_=>none
theorem Bs.keep {w w':World} {g n:Nat} {V:Nat→Value} (h:Bs w g n V) (hb:Below w.heap.size w w'):Bs w' g n V:=h.other (hb.block _ h.lt)
theorem lqG_up (Z n i:Nat) (v:Value) (w w':World) (hb:Below w.heap.size w w') (h:lqG Z n i v w):lqG Z n i v w':=by
 match i,h with
 |0,h=>exact h
 |1,⟨g,e,hz,hg⟩=>exact⟨g,e,hz,hg.keep hb⟩
 |2,h=>exact h
 |3,⟨g,e,hz,hg⟩=>exact⟨g,e,hz,hg.keep hb⟩
 |4,h=>exact h
 |5,⟨g,e,hz,hg⟩=>exact⟨g,e,hz,hg.keep hb⟩
 |6,⟨g1,g2,g3,e,hz,hd,a1,a2,a3⟩=>exact⟨g1,g2,g3,e,hz,hd,a1.keep hb,a2.keep hb,a3.keep hb⟩
 |7,⟨S,e,hz,hg⟩=>exact⟨S,e,hz,by rw[hb.block S (Array.getElem?_eq_some_iff.1 hg).1];exact hg⟩
 |_+8,h=>exact h
theorem lqG_own (Z n i:Nat) (v:Value) (w:World) (h:lqG Z n i v w) (g:Nat) (hg:lqO i v=some g):g<w.heap.size:=by
 match i,h,hg with
 |1,⟨g',e,_,hb⟩,hg=>subst e;cases hg;exact hb.lt
 |3,⟨g',e,_,hb⟩,hg=>subst e;cases hg;exact hb.lt
 |5,⟨g',e,_,hb⟩,hg=>subst e;cases hg;exact hb.lt
 |0,_,hg=>cases hg
 |2,_,hg=>cases hg
 |4,_,hg=>cases hg
 |6,_,hg=>cases hg
 |7,_,hg=>cases hg
 |_+8,_,hg=>cases hg
theorem Lw.begin {w:World} {S g1 g2 g3 Z n:Nat} (hS:w.heap[S]?=some (.cells #[.slice (some ⟨g1,0,none⟩) n n,.slice (some ⟨g2,0,none⟩) n n,.slice (some ⟨g3,0,none⟩) n n] 76 (0,0))) (hzS:Z≤S) (hz:Z≤g1∧Z≤g2∧Z≤g3) (hd:g1≠g2∧g1≠g3∧g2≠g3) (hs:S≠g1∧S≠g2∧S≠g3) (b1:Bs w g1 n (fun _=>.slice none 0 0)) (b2:Bs w g2 n (fun _=>.slice none 0 0)) (b3:Bi w g3 (List.replicate n 0)) :
  Lw w S (fun t=>if t=0 then g1 else g2) g3 Z n (fun _ _=>.slice none 0 0) (fun _ _=>[]) (List.replicate n 0) where
 blk:=hS
 tab:=fun t ht=>by
  have:t=0∨t=1:=by omega
  rcases this with rfl|rfl
  ·exact b1
  ·exact b2
 wts:=b3
 nw:=by simp
 row:=fun t v _ _=>⟨rfl,.inl ⟨rfl,rfl⟩⟩
 zS:=hzS
 zT:=fun t ht=>by show Z≤ite _ _ _;split;exact hz.1;exact hz.2.1
 zw:=hz.2.2
 dT:=hd.1
 dS:=fun t ht=>by show S≠ite _ _ _;split;exact hs.1;exact hs.2.1
 dw:=fun t ht=>by show g3≠ite _ _ _;split;exact hd.2.1.symm;exact hd.2.2.symm
 sw:=hs.2.2
 od:=by intro t v g _ _ e;cases e
 ap:=by intro t v t' v' g _ _ _ _ _ e;cases e
def lqK (n:Nat) (X0:World) (a:Act) (w:World):Prop:=∃ S T kw,Rg.ev a 6=.pointer (some ⟨S,0,none⟩)∧Lw w S T kw X0.heap.size n (fun _ _=>.slice none 0 0) (fun _ _=>[]) (List.replicate n 0)∧Below X0.heap.size X0 w
def lqS (k:Nat):Nat:=if k=7 then 6 else k+15
def set3 (w:World) (S:Nat) (x0 x1 x2:Value):World:=((w.setCell ⟨S,0,none⟩ x0).setCell ⟨S,1,none⟩ x1).setCell ⟨S,2,none⟩ x2
theorem jO (w:World) (S:Nat) (x0 x1 x2:Value) (k:Nat) (hk:k≠S):(set3 w S x0 x1 x2).heap[k]?=w.heap[k]?:=by
 unfold set3
 rw[Below.heap_setCell _ _ _ _ hk,Below.heap_setCell _ _ _ _ hk,Below.heap_setCell _ _ _ _ hk]
theorem jI {Z:Nat} {w0 w:World} (h:Below Z w0 w) (S:Nat) (hS:Z≤S) (x0 x1 x2:Value):Below Z w0 (set3 w S x0 x1 x2):=by
 unfold set3
 exact ((h.setCell hS _).setCell hS _).setCell hS _
theorem lH {w:World} {S:Nat} {y0 y1 y2:Value} {t:TypeId} (x0 x1 x2:Value) (h0:w.heap[S]?=some (.cells #[y0,y1,y2] t (0,0))):(set3 w S x0 x1 x2).heap[S]?=some (.cells #[x0,x1,x2] t (0,0)):=by
 have h1:=heap_setCell_same _ S 0 _ _ x0 h0
 have h2:=heap_setCell_same _ S 1 _ _ x1 h1
 have h3:=heap_setCell_same _ S 2 _ _ x2 h2
 exact h3
theorem Tryz.infoS:(Tryz.prog.info? 36).map (fun i=>(i.zero,i.size,i.bytes))=some (some (.slice none 0 0),1,24):=by kernel_rfl
theorem Tryz.underS:Tryz.prog.underlying 29=some (.slice 36):=by kernel_rfl
theorem uk (W:World) (n:Nat):Bs (W.alloc (.cells (madeCells #[.slice none 0 0] n) 36)) W.heap.size n (fun _=>.slice none 0 0):=by
 unfold Bs
 rw[made,show (List.range n).map (fun _=>Value.slice none 0 0)=List.replicate n (.slice none 0 0) from by rw[List.map_const',List.length_range]]
 show (W.heap.push _)[W.heap.size]?=_
 exact Array.getElem?_push_size
section
variable {Q:Exit→Act→World→Prop} {X0 w0:World} {a0:Act}
theorem lean_region {n:Nat} (hn:n≤100000) (hs:80=a0.tmps.size) (e5:Rg.ev a0 5=.int .i64 n) (hw:Below X0.heap.size X0 w0)
  (hQ:∀ a w,Rg.Off 8 lqS a0 a→lqK n X0 a w→Q .normal a w):wpAny Tryz.prog .any lqops Q 9 (Array.replicate 9 false) a0 w0:=by
 refine Rg.relso (X0:=X0) 8 lqS (lqG X0.heap.size n) lqO (lqG_own _ _) (lqK n X0) (lqG_up _ _) rfl (by decide) (by decide) (by decide) (fun j hj=>by rw[← hs];exact (by decide:∀ j,j<8→lqS j<80) j hj) hw ?_ ?_ hQ
 ·intro i a W hi hO hW hd hdo
  have hev:∀ j,a.eval (.tmp j)=Rg.ev a j:=fun _=>rfl
  have g3:Rg.ev a 5=.int .i64 n:=(hO.same 5 (by decide)).trans e5
  have hB0:=Below.refl W.heap.size W
  have hZ:=hW.size
  have hmk:(Instr.makeSlice 36 (.int .i64 (n:Int)) (.int .i64 (n:Int))).run Tryz.prog W=.ok (.slice (some ⟨W.heap.size,0,none⟩) n n) (W.alloc (.cells (madeCells #[.int .i64 0] n) 3)):=run_make_row' _ _ _ 8 Tryz.underI Tryz.infoI rfl _ _ n (by omega) (by omega) W
  have hms:(Instr.makeSlice 29 (.int .i64 (n:Int)) (.int .i64 (n:Int))).run Tryz.prog W=.ok (.slice (some ⟨W.heap.size,0,none⟩) n n) (W.alloc (.cells (madeCells #[.slice none 0 0] n) 36)):=run_make_row' _ _ _ 24 Tryz.underS Tryz.infoS rfl _ _ n (by omega) (by omega) W
  have hN:i=0∨i=1∨i=2∨i=3∨i=4∨i=5∨i=6∨i=7:=by omega
  rcases hN with rfl|rfl|rfl|rfl|rfl|rfl|rfl|rfl
  ·exact Rg.rungo (o:=lq0) rfl rfl (Rg.want_free rfl) (by unfold lq0;simp only[execOp,hev,g3];go_simp<;>rfl) rfl (by intro g h;cases h) hB0
  ·have d:Rg.ev a 15=.int .i64 n:=hd 0 (by decide)
   exact Rg.rungo (o:=lq1) rfl rfl (Rg.want_free rfl) (by unfold lq1;simp only[execOp,hev,d];go_simp<;>rfl) ⟨_,rfl,hZ,uk W n⟩ (by intro g h;cases h;exact Nat.le_refl _) (cB _ _)
  ·exact Rg.rungo (o:=lq2) rfl rfl (Rg.want_free rfl) (by unfold lq2;simp only[execOp,hev,g3];go_simp<;>rfl) rfl (by intro g h;cases h) hB0
  ·have d:Rg.ev a 17=.int .i64 n:=hd 2 (by decide)
   exact Rg.rungo (o:=lq3) rfl rfl (Rg.want_free rfl) (by unfold lq3;simp only[execOp,hev,d];go_simp<;>rfl) ⟨_,rfl,hZ,uk W n⟩ (by intro g h;cases h;exact Nat.le_refl _) (cB _ _)
  ·exact Rg.rungo (o:=lq4) rfl rfl (Rg.want_free rfl) (by unfold lq4;simp only[execOp,hev,g3];go_simp<;>rfl) rfl (by intro g h;cases h) hB0
  ·have d:Rg.ev a 19=.int .i64 n:=hd 4 (by decide)
   exact Rg.rungo (o:=lq5) rfl rfl (Rg.want_free rfl) (by unfold lq5;simp only[execOp,hev,d];go_simp<;>rfl) ⟨_,rfl,hZ,rW W n⟩ (by intro g h;cases h;exact Nat.le_refl _) (cB _ _)
  ·obtain⟨g1,d16,z1,b1⟩:=hd 1 (by decide)
   obtain⟨g2,d18,z2,b2⟩:=hd 3 (by decide)
   obtain⟨g3',d20,z3,b3⟩:=hd 5 (by decide)
   have o12:=hdo 1 (by decide) 3 (by decide) (by decide) g1 (by rw[d16];rfl)
   have o13:=hdo 1 (by decide) 5 (by decide) (by decide) g1 (by rw[d16];rfl)
   have o23:=hdo 3 (by decide) 5 (by decide) (by decide) g2 (by rw[d18];rfl)
   rw[d18] at o12
   rw[d20] at o13 o23
   replace d16:Rg.ev a 16=_:=d16
   replace d18:Rg.ev a 18=_:=d18
   replace d20:Rg.ev a 20=_:=d20
   exact Rg.rungo (o:=lq6) rfl rfl (Rg.want_free rfl) (by unfold lq6;simp only[execOp,List.map_toArray,List.map_cons,List.map_nil,hev,d16,d18,d20];go_simp<;>rfl) ⟨g1,g2,g3',rfl,⟨z1,z2,z3⟩,⟨fun h=>o12 (by rw[h];rfl),fun h=>o13 (by rw[h];rfl),fun h=>o23 (by rw[h];rfl)⟩,b1,b2,b3⟩ (by intro g h;cases h) hB0
  ·exact Rg.rungo (o:=lq7) (w':=W.alloc (.cells #[.slice none 0 0,.slice none 0 0,.slice none 0 0] 76)) (v:=.pointer (some ⟨W.heap.size,0,none⟩)) rfl rfl (Rg.want_free rfl) (by unfold lq7;simp only[execOp];go_simp<;>rfl) ⟨_,rfl,hZ,by show (W.heap.push _)[W.heap.size]?=_;exact Array.getElem?_push_size⟩ (by intro g h;cases h) (cB _ _)
 ·intro a W hO hW hg hdo
  have hev:∀ j,a.eval (.tmp j)=Rg.ev a j:=fun _=>rfl
  obtain⟨g1,g2,g3,d21,hz,hdd,b1,b2,b3⟩:=hg 6 (by decide)
  obtain⟨S,d6,hzS,hS⟩:=hg 7 (by decide)
  replace d21:Rg.ev a 21=_:=d21
  replace d6:Rg.ev a 6=_:=d6
  have hS1:∀ g V,Bs W g n V→S≠g:=fun g V hb e=>by
   subst e
   unfold Bs at hb
   rw[hS] at hb
   simp at hb
  have hS3:∀ g L,Bi W g L→S≠g:=fun g L hb e=>by
   subst e
   unfold Bi at hb
   rw[hS] at hb
   simp at hb
  have ko:=jO W S (.slice (some ⟨g1,0,none⟩) n n) (.slice (some ⟨g2,0,none⟩) n n) (.slice (some ⟨g3,0,none⟩) n n)
  have c0:=cell_of_row _ _ 0 _ _ _ hS
  have c1:=cell_of_row _ _ 1 _ _ _ hS
  have c2:=cell_of_row _ _ 2 _ _ _ hS
  simp at c0 c1 c2
  have f:=fun k=>frozen_of_row W S k _ _ hS
  have f0:=f 0
  have f1:=f 1
  have f2:=f 2
  exact Rg.storeo (K:=lqK n X0) (o:=lq8) (a:=a) (w:=W) (w':=set3 W S (.slice (some ⟨g1,0,none⟩) n n) (.slice (some ⟨g2,0,none⟩) n n) (.slice (some ⟨g3,0,none⟩) n n)) rfl rfl (Rg.want_free rfl) (by unfold lq8;simp only[execOp,hev,d6,d21];go_simp<;>rfl) ⟨S,_,g3,d6,Lw.begin (lH _ _ _ hS) hzS hz hdd ⟨hS1 _ _ b1,hS1 _ _ b2,hS3 _ _ b3⟩ (b1.other (ko _ (hS1 _ _ b1).symm)) (b2.other (ko _ (hS1 _ _ b2).symm)) (b3.other (ko _ (hS3 _ _ b3).symm)),jI hW S hzS _ _ _⟩
end
def pJ (w0 w1 w2 w3:World) (d:Nat→Bool) (w:World):Prop:=(d 12=true∧(∀ j,j<12→d j=true)∧w=w3)∨(d 12=false∧((d 10=true∧d 9=true∧w=w2)∨(d 10=false∧d 9=true∧w=w1)∨(d 10=false∧d 9=false∧w=w0)))
section
variable {w0 w1 w2 w3 w:World} {d:Nat→Bool}
theorem kE {d:Nat→Bool} {i j:Nat} (h:j≠i):Rg.upd d i j=d j:=by simp[Rg.upd,h]
theorem qf {d:Nat→Bool} {i:Nat}:Rg.upd d i i=true:=by simp[Rg.upd]
theorem rJ (h:pJ w0 w1 w2 w3 d w) {i:Nat} (h12:i<12) (hd:d i=false):d 12=false:=by
 rcases h with⟨_,h2,_⟩|⟨h1,_⟩
 ·rw[h2 i h12] at hd;cases hd
 ·exact h1
theorem pI (h:pJ w0 w1 w2 w3 d w) {i:Nat} (h9:i≠9) (h10:i≠10) (h12:i≠12):pJ w0 w1 w2 w3 (Rg.upd d i) w:=by
 unfold pJ
 rw[kE (Ne.symm h9),kE (Ne.symm h10),kE (Ne.symm h12)]
 rcases h with⟨h1,h2,h3⟩|h
 ·refine .inl ⟨h1,fun j hj=>?_,h3⟩
  unfold Rg.upd
  rw[h2 j hj,Bool.or_true]
 ·exact .inr h
theorem iD (h:pJ w0 w1 w2 w3 d w) (h12:d 12=false):w=w2∨w=w1∨w=w0:=by
 rcases h with⟨h1,_⟩|⟨_,h|h|h⟩
 ·rw[h12] at h1;cases h1
 ·exact .inl h.2.2
 ·exact .inr (.inl h.2.2)
 ·exact .inr (.inr h.2.2)
theorem pY (h:pJ w0 w1 w2 w3 d w) (h9:d 9=false):w=w0∧pJ w0 w1 w2 w3 (Rg.upd d 9) w1:=by
 rcases h with⟨_,h2,_⟩|⟨h1,h|h|⟨h2,h3,h4⟩⟩
 ·rw[h2 9 (by decide)] at h9;cases h9
 ·rw[h.2.1] at h9;cases h9
 ·rw[h.2.1] at h9;cases h9
 ·exact⟨h4,.inr ⟨h1,.inr (.inl ⟨h2,qf,rfl⟩)⟩⟩
theorem su (h:pJ w0 w1 w2 w3 d w) (h10:d 10=false) (h9:d 9=true) (_:d 7=true):w=w1∧pJ w0 w1 w2 w3 (Rg.upd d 10) w2:=by
 rcases h with⟨_,h2,_⟩|⟨h1,h|⟨h2,h3,h4⟩|h⟩
 ·rw[h2 10 (by decide)] at h10;cases h10
 ·rw[h.1] at h10;cases h10
 ·exact⟨h4,.inr ⟨h1,.inl ⟨qf,h3,rfl⟩⟩⟩
 ·rw[h.2.1] at h9;cases h9
theorem lY (h:pJ w0 w1 w2 w3 d w) (h12:d 12=false) (hd:∀ j,j<12→d j=true):w=w2∧pJ w0 w1 w2 w3 (Rg.upd d 12) w3:=by
 rcases h with⟨h1,_⟩|⟨_,h|h|h⟩
 ·rw[h1] at h12;cases h12
 ·exact⟨h.2.2,.inl ⟨qf,fun j hj=>by rw[kE (by omega)];exact hd j hj,rfl⟩⟩
 ·have:=h.1;rw[hd 10 (by decide)] at this;cases this
 ·have:=h.1;rw[hd 10 (by decide)] at this;cases this
theorem sN (h:pJ w0 w1 w2 w3 d w) (h12:d 12=true):w=w3:=by
 rcases h with⟨_,_,h⟩|⟨h,_⟩
 ·exact h
 ·rw[h12] at h;cases h
end
theorem run2 {P:Program} {ops:Array Oper} {Q:Exit→Act→World→Prop} {i:Nat} {o:Oper} {a:Act} {w w':World} {v:Value} {s:Option Nat} {J:World→Prop} (ho:ops[i]?=some o) (hd:o.dst=s) (hw:Region.wanted o (yielded ops a.tmps)=true) (hr:(execOp a.eval o).run P w=.ok (.value v) w') (hJ:J w'):wpOp P ops Q i (fun a' w'=>a'=a.put s v∧J w') a w:=by
 refine Rg.wp ho hw ?_
 unfold Oper.wp
 rw[hr]
 refine⟨?_,hJ⟩
 show a.put o.dst v=_
 rw[hd]
theorem sM {P:Program} {ops:Array Oper} {Q:Exit→Act→World→Prop} {i:Nat} {o:Oper} {a:Act} {w w':World} {v:Value} {J:World→Prop} (ho:ops[i]?=some o) (hd:o.dst=none) (hw:Region.wanted o (yielded ops a.tmps)=true) (hr:(execOp a.eval o).run P w=.ok .skip w') (hJ:J w'):wpOp P ops Q i (fun a' w'=>a'=a.put none v∧J w') a w:=by
 refine Rg.wp ho hw ?_
 unfold Oper.wp
 rw[hr]
 refine⟨?_,hJ⟩
 show a.put o.dst undef=_
 rw[hd]
 rfl
theorem lq_frame {x0 x1 x2 x3 x4 x5 x6 x7 x8 x9 x10 x11 x12 x13 x14 x15 x16 x17 x18 x19 x20 x21 x22 x23 x24 x25 x26 x27 x28 x29 x30 x31 x32 x33 x34 x35 x36 x37 x38 x39 x40 x41 x42 x43 x44 x45 x46 x47 x48 x49 x50 x51 x52 x53 x54 x55 x56 x57 x58 x59 x60 x61 x62 x63 x64 x65 x66 x67 x68 x69 x70 x71 x72 x73 x74 x75 x76 x77 x78 x79:Value} {a:Act} (h:Rg.Off 8 lqS { tmps:=#[x0,x1,x2,x3,x4,x5,x6,x7,x8,x9,x10,x11,x12,x13,x14,x15,x16,x17,x18,x19,x20,x21,x22,x23,x24,x25,x26,x27,x28,x29,x30,x31,x32,x33,x34,x35,x36,x37,x38,x39,x40,x41,x42,x43,x44,x45,x46,x47,x48,x49,x50,x51,x52,x53,x54,x55,x56,x57,x58,x59,x60,x61,x62,x63,x64,x65,x66,x67,x68,x69,x70,x71,x72,x73,x74,x75,x76,x77,x78,x79],defers:=[] } a) {y:Value} (hy:Rg.ev a 6=y):∃ f:Nat→Value,f 7=y∧a={ tmps:=#[x0,x1,x2,x3,x4,x5,f 7,x7,x8,x9,x10,x11,x12,x13,x14,f 0,f 1,f 2,f 3,f 4,f 5,f 6,x22,x23,x24,x25,x26,x27,x28,x29,x30,x31,x32,x33,x34,x35,x36,x37,x38,x39,x40,x41,x42,x43,x44,x45,x46,x47,x48,x49,x50,x51,x52,x53,x54,x55,x56,x57,x58,x59,x60,x61,x62,x63,x64,x65,x66,x67,x68,x69,x70,x71,x72,x73,x74,x75,x76,x77,x78,x79],defers:=[] }:=
 ⟨Rg.slv (fun j=>some (lqS j)) a,hy,(h.offs.eq fun j hj s e=>(by decide:∀ j,j<8→∀ s∈some (lqS j),s<80) j hj s e).trans (by kernel_rfl)⟩
def la0 : Oper := { dst := some 33, op := Op.fieldAddr 76 (Operand.tmp 6) 0, type := 0, pos := "order.go:34", after := #[], guard := none }
def la1 : Oper := { dst := some 34, op := Op.load 29 (Operand.tmp 33), type := 29, pos := "order.go:34", after := #[{ on := 0, ground := Ground.data }], guard := none }
def la2 : Oper := { dst := some 35, op := Op.move (Operand.tmp 9), type := 3, pos := "order.go:34", after := #[], guard := none }
def la3 : Oper := { dst := some 36, op := Op.fieldAddr 76 (Operand.tmp 6) 0, type := 0, pos := "order.go:34", after := #[], guard := none }
def la4 : Oper := { dst := some 37, op := Op.load 29 (Operand.tmp 36), type := 29, pos := "order.go:34", after := #[{ on := 3, ground := Ground.data }], guard := none }
def la5 : Oper := { dst := some 38, op := Op.move (Operand.tmp 9), type := 3, pos := "order.go:34", after := #[], guard := none }
def la6 : Oper := { dst := some 39, op := Op.indexAddr 29 (Operand.tmp 37) (Operand.tmp 38), type := 0, pos := "order.go:34", after := #[{ on := 4, ground := Ground.data }, { on := 5, ground := Ground.data }], guard := none }
def la7 : Oper := { dst := some 40, op := Op.load 36 (Operand.tmp 39), type := 36, pos := "order.go:34", after := #[{ on := 6, ground := Ground.data }], guard := none }
def la8 : Oper := { dst := some 41, op := Op.move (Operand.tmp 7), type := 3, pos := "order.go:34", after := #[], guard := none }
def la9 : Oper := { dst := some 42, op := Op.buildSlice 36 1 #[(0, Operand.tmp 41)], type := 36, pos := "order.go:34", after := #[{ on := 8, ground := Ground.data }], guard := none }
def la10 : Oper := { dst := some 43, op := Op.call { callee := Callee.builtin Builtin.append, args := #[Operand.tmp 40, Operand.tmp 42], argTypes := #[36, 36] }, type := 36, pos := "order.go:34", after := #[{ on := 7, ground := Ground.data }, { on := 9, ground := Ground.data }], guard := none }
def la11 : Oper := { dst := some 44, op := Op.indexAddr 29 (Operand.tmp 34) (Operand.tmp 35), type := 0, pos := "order.go:34", after := #[{ on := 1, ground := Ground.data }, { on := 2, ground := Ground.data }, { on := 0, ground := Ground.phase }, { on := 1, ground := Ground.phase }, { on := 2, ground := Ground.phase }, { on := 3, ground := Ground.phase }, { on := 4, ground := Ground.phase }, { on := 5, ground := Ground.phase }, { on := 6, ground := Ground.phase }, { on := 7, ground := Ground.phase }, { on := 8, ground := Ground.phase }, { on := 9, ground := Ground.phase }, { on := 10, ground := Ground.phase }], guard := none }
def la12 : Oper := { dst := none, op := Op.store 36 (Operand.tmp 44) (Operand.tmp 43), type := 0, pos := "order.go:34", after := #[{ on := 11, ground := Ground.data }, { on := 10, ground := Ground.data }, { on := 10, ground := Ground.chain }, { on := 0, ground := Ground.phase }, { on := 1, ground := Ground.phase }, { on := 2, ground := Ground.phase }, { on := 3, ground := Ground.phase }, { on := 4, ground := Ground.phase }, { on := 5, ground := Ground.phase }, { on := 6, ground := Ground.phase }, { on := 7, ground := Ground.phase }, { on := 8, ground := Ground.phase }, { on := 9, ground := Ground.phase }, { on := 10, ground := Ground.phase }], guard := none }
def tX:Array Oper:=#[la0,la1,la2,la3,la4,la5,la6,la7,la8,la9,la10,la11,la12]
def laD (k:Nat):Option Nat:=if k=12 then none else some (k+33)
def laV (S T n o x:Nat) (v vq:Value) (z:Nat):Nat→Value
 |0=>.pointer (some ⟨S,0,none⟩)
 |1=>.slice (some ⟨T,0,none⟩) n n
 |2=>.int .i64 o
 |3=>.pointer (some ⟨S,0,none⟩)
 |4=>.slice (some ⟨T,0,none⟩) n n
 |5=>.int .i64 o
 |6=>.pointer (some ⟨T,o,none⟩)
 |7=>v
 |8=>.int .i64 x
 |9=>.slice (some ⟨z,0,none⟩) 1 1
 |10=>vq
 |11=>.pointer (some ⟨T,o,none⟩)
 |_=>undef
theorem la_region {Q:Exit→Act→World→Prop} {a0:Act} {w0 w2:World} {S T n o x:Nat} {v vq:Value} (hs:80=a0.tmps.size) (e6:Rg.ev a0 6=.pointer (some ⟨S,0,none⟩)) (eo:Rg.ev a0 9=.int .i64 o) (ex:Rg.ev a0 7=.int .i64 x) (hon:o<n)
  (c0:w0.cell? ⟨S,0,none⟩=some (.slice (some ⟨T,0,none⟩) n n)) (c2:w2.cell? ⟨S,0,none⟩=some (.slice (some ⟨T,0,none⟩) n n)) (r0:w0.cell? ⟨T,o,none⟩=some v) (r2:w2.cell? ⟨T,o,none⟩=some v) (f2:w2.frozen? ⟨T,o,none⟩=false)
  (ha:(Builtin.append_ #[36,36] 36 #[v,.slice (some ⟨w0.heap.size,0,none⟩) 1 1]).run Tryz.prog (w0.alloc (.cells #[.int .i64 x] 3))=.ok vq w2) (hv:∃ r l c,v=.slice r l c) (hvq:∃ r l c,vq=.slice r l c)
  (hQ:∀ a,Rg.Offs 13 laD a0 a→(∀ j,j<13→∀ s,laD j=some s→Rg.ev a s=laV S T n o x v vq w0.heap.size j)→Q .normal a (w2.setCell ⟨T,o,none⟩ vq)):wpAny Tryz.prog .any tX Q 13 (Array.replicate 13 false) a0 w0:=by
 obtain⟨vr,vl,vc,rfl⟩:=hv
 obtain⟨qr,ql,qc,rfl⟩:=hvq
 have c1:(w0.alloc (.cells #[.int .i64 x] 3)).cell? ⟨S,0,none⟩=some (.slice (some ⟨T,0,none⟩) n n):=by rw[(ae w0 _).cell (cell_below c0)];exact c0
 have r1:(w0.alloc (.cells #[.int .i64 x] 3)).cell? ⟨T,o,none⟩=some (.slice vr vl vc):=by rw[(ae w0 _).cell (cell_below r0)];exact r0
 generalize hw1:w0.alloc (.cells #[.int .i64 x] 3)=w1 at *
 refine Rg.region2 13 laD (laV S T n o x (.slice vr vl vc) (.slice qr ql qc) w0.heap.size) (pJ w0 w1 w2 (w2.setCell ⟨T,o,none⟩ (.slice qr ql qc))) rfl (by decide) (by decide) (fun j hj s h=>by rw[← hs];exact (by decide:∀ j,j<13→∀ s∈laD j,s<80) j hj s h) (.inr ⟨rfl,.inr (.inr ⟨rfl,rfl,rfl⟩)⟩) ?_ ?_
 ·intro d i a W hi hdi hdn hdl hO hJ hd
  have hev:∀ j,a.eval (.tmp j)=Rg.ev a j:=fun _=>rfl
  have g6:Rg.ev a 6=_:=(hO.same 6 (by decide)).trans e6
  have go:Rg.ev a 9=_:=(hO.same 9 (by decide)).trans eo
  have gx:Rg.ev a 7=_:=(hO.same 7 (by decide)).trans ex
  have hJq:∀ i,i≠9→i≠10→i≠12→pJ w0 w1 w2 (w2.setCell ⟨T,o,none⟩ (.slice qr ql qc)) (Rg.upd d i) W:=fun i h1 h2 h3=>pI hJ h1 h2 h3
  have h12:i≠12→d 12=false:=fun h=>rJ hJ (by omega) hdi
  have hc:i≠12→W.cell? ⟨S,0,none⟩=some (.slice (some ⟨T,0,none⟩) n n):=fun h=>by rcases iD hJ (h12 h) with e|e|e<;>(rw[e];assumption)
  have hN:i=0∨i=1∨i=2∨i=3∨i=4∨i=5∨i=6∨i=7∨i=8∨i=9∨i=10∨i=11∨i=12:=by omega
  rcases hN with rfl|rfl|rfl|rfl|rfl|rfl|rfl|rfl|rfl|rfl|rfl|rfl|rfl
  ·exact run2 (o:=la0) rfl rfl (Rg.want_free rfl) (by unfold la0;simp only[execOp,hev,g6];go_simp<;>rfl) (hJq 0 (by decide) (by decide) (by decide))
  ·have d0:Rg.ev a 33=.pointer (some ⟨S,0,none⟩):=hd 0 (by decide) 33 rfl
   replace hc:=hc (by decide)
   exact run2 (o:=la1) rfl rfl (Rg.want_free rfl) (by unfold la1;simp only[execOp,hev,d0];go_simp<;>rfl) (hJq 1 (by decide) (by decide) (by decide))
  ·exact run2 (o:=la2) rfl rfl (Rg.want_free rfl) (by unfold la2;simp only[execOp,hev,go];go_simp<;>rfl) (hJq 2 (by decide) (by decide) (by decide))
  ·exact run2 (o:=la3) rfl rfl (Rg.want_free rfl) (by unfold la3;simp only[execOp,hev,g6];go_simp<;>rfl) (hJq 3 (by decide) (by decide) (by decide))
  ·have d3:Rg.ev a 36=.pointer (some ⟨S,0,none⟩):=hd 3 (by decide) 36 rfl
   replace hc:=hc (by decide)
   exact run2 (o:=la4) rfl rfl (Rg.want_free rfl) (by unfold la4;simp only[execOp,hev,d3];go_simp<;>rfl) (hJq 4 (by decide) (by decide) (by decide))
  ·exact run2 (o:=la5) rfl rfl (Rg.want_free rfl) (by unfold la5;simp only[execOp,hev,go];go_simp<;>rfl) (hJq 5 (by decide) (by decide) (by decide))
  ·have d4:Rg.ev a 37=.slice (some ⟨T,0,none⟩) n n:=hd 4 (by decide) 37 rfl
   have d5:Rg.ev a 38=.int .i64 o:=hd 5 (by decide) 38 rfl
   exact run2 (o:=la6) rfl rfl (Rg.want_free rfl) (by unfold la6;simp only[execOp,hev,d4,d5];go_simp<;>rfl) (hJq 6 (by decide) (by decide) (by decide))
  ·have d6:Rg.ev a 39=.pointer (some ⟨T,o,none⟩):=hd 6 (by decide) 39 rfl
   have hr:W.cell? ⟨T,o,none⟩=some (.slice vr vl vc):=by rcases iD hJ (h12 (by decide)) with e|e|e<;>(rw[e];assumption)
   exact run2 (o:=la7) rfl rfl (Rg.want_free rfl) (by unfold la7;simp only[execOp,hev,d6];go_simp<;>rfl) (hJq 7 (by decide) (by decide) (by decide))
  ·exact run2 (o:=la8) rfl rfl (Rg.want_free rfl) (by unfold la8;simp only[execOp,hev,gx];go_simp<;>rfl) (hJq 8 (by decide) (by decide) (by decide))
  ·have d8:Rg.ev a 41=.int .i64 x:=hd 8 (by decide) 41 rfl
   obtain⟨rfl,hJ'⟩:=pY hJ hdi
   exact run2 (o:=la9) (w':=w1) rfl rfl (Rg.want_free rfl) (by unfold la9;rw[← hw1];simp only[execOp,List.map_toArray,List.map_cons,List.map_nil,hev,d8];go_simp<;>rfl) hJ'
  ·have d7:Rg.ev a 40=.slice vr vl vc:=hd 7 (by decide) 40 rfl
   have d9:Rg.ev a 42=.slice (some ⟨w0.heap.size,0,none⟩) 1 1:=hd 9 (by decide) 42 rfl
   obtain⟨rfl,hJ'⟩:=su hJ hdi (hdn 9 (by decide)) (hdn 7 (by decide))
   exact run2 (o:=la10) (w':=w2) rfl rfl (Rg.want_free rfl) (by unfold la10;simp only[execOp,resolve,invoke,builtin,Sem.run_bind,Sem.run_pure,Result.andThen_ok,List.map_toArray,List.map_cons,List.map_nil,hev,d7,d9,ha];rfl) hJ'
  ·have d1:Rg.ev a 34=.slice (some ⟨T,0,none⟩) n n:=hd 1 (by decide) 34 rfl
   have d2:Rg.ev a 35=.int .i64 o:=hd 2 (by decide) 35 rfl
   exact run2 (o:=la11) rfl rfl (Rg.want_free rfl) (by unfold la11;simp only[execOp,hev,d1,d2];go_simp<;>rfl) (hJq 11 (by decide) (by decide) (by decide))
  ·have d11:Rg.ev a 44=.pointer (some ⟨T,o,none⟩):=hd 11 (by decide) 44 rfl
   have d10:Rg.ev a 43=.slice qr ql qc:=hd 10 (by decide) 43 rfl
   obtain⟨rfl,hJ'⟩:=lY hJ hdi fun j hj=>hdn j ((by decide:∀ j,j<12→j∈Rg.deps tX 12) j hj)
   exact sM (o:=la12) (w':=W.setCell ⟨T,o,none⟩ (.slice qr ql qc)) rfl rfl (Rg.want_free rfl) (by unfold la12;simp only[execOp,hev,d10,d11];go_simp<;>rfl) hJ'
 ·intro d a w hall hO hJ hd
  obtain rfl:=sN hJ (hall 12 (by decide))
  exact hQ a hO hd
theorem la_frame {x0 x1 x2 x3 x4 x5 x6 x7 x8 x9 x10 x11 x12 x13 x14 x15 x16 x17 x18 x19 x20 x21 x22 x23 x24 x25 x26 x27 x28 x29 x30 x31 x32 x33 x34 x35 x36 x37 x38 x39 x40 x41 x42 x43 x44 x45 x46 x47 x48 x49 x50 x51 x52 x53 x54 x55 x56 x57 x58 x59 x60 x61 x62 x63 x64 x65 x66 x67 x68 x69 x70 x71 x72 x73 x74 x75 x76 x77 x78 x79:Value} {a:Act} (h:Rg.Offs 13 laD { tmps:=#[x0,x1,x2,x3,x4,x5,x6,x7,x8,x9,x10,x11,x12,x13,x14,x15,x16,x17,x18,x19,x20,x21,x22,x23,x24,x25,x26,x27,x28,x29,x30,x31,x32,x33,x34,x35,x36,x37,x38,x39,x40,x41,x42,x43,x44,x45,x46,x47,x48,x49,x50,x51,x52,x53,x54,x55,x56,x57,x58,x59,x60,x61,x62,x63,x64,x65,x66,x67,x68,x69,x70,x71,x72,x73,x74,x75,x76,x77,x78,x79],defers:=[] } a):∃ f:Nat→Value,a={ tmps:=#[x0,x1,x2,x3,x4,x5,x6,x7,x8,x9,x10,x11,x12,x13,x14,x15,x16,x17,x18,x19,x20,x21,x22,x23,x24,x25,x26,x27,x28,x29,x30,x31,x32,f 0,f 1,f 2,f 3,f 4,f 5,f 6,f 7,f 8,f 9,f 10,f 11,x45,x46,x47,x48,x49,x50,x51,x52,x53,x54,x55,x56,x57,x58,x59,x60,x61,x62,x63,x64,x65,x66,x67,x68,x69,x70,x71,x72,x73,x74,x75,x76,x77,x78,x79],defers:=[] }:=
 ⟨Rg.slv laD a,(h.eq fun j hj s e=>(by decide:∀ j,j<13→∀ s∈laD j,s<80) j hj s e).trans (by kernel_rfl)⟩
def lb0 : Oper := { dst := some 58, op := Op.fieldAddr 76 (Operand.tmp 6) 1, type := 0, pos := "order.go:37", after := #[], guard := none }
def lb1 : Oper := { dst := some 59, op := Op.load 29 (Operand.tmp 58), type := 29, pos := "order.go:37", after := #[{ on := 0, ground := Ground.data }], guard := none }
def lb2 : Oper := { dst := some 60, op := Op.move (Operand.tmp 12), type := 3, pos := "order.go:37", after := #[], guard := none }
def lb3 : Oper := { dst := some 61, op := Op.fieldAddr 76 (Operand.tmp 6) 1, type := 0, pos := "order.go:37", after := #[], guard := none }
def lb4 : Oper := { dst := some 62, op := Op.load 29 (Operand.tmp 61), type := 29, pos := "order.go:37", after := #[{ on := 3, ground := Ground.data }], guard := none }
def lb5 : Oper := { dst := some 63, op := Op.move (Operand.tmp 12), type := 3, pos := "order.go:37", after := #[], guard := none }
def lb6 : Oper := { dst := some 64, op := Op.indexAddr 29 (Operand.tmp 62) (Operand.tmp 63), type := 0, pos := "order.go:37", after := #[{ on := 4, ground := Ground.data }, { on := 5, ground := Ground.data }], guard := none }
def lb7 : Oper := { dst := some 65, op := Op.load 36 (Operand.tmp 64), type := 36, pos := "order.go:37", after := #[{ on := 6, ground := Ground.data }], guard := none }
def lb8 : Oper := { dst := some 66, op := Op.move (Operand.tmp 9), type := 3, pos := "order.go:37", after := #[], guard := none }
def lb9 : Oper := { dst := some 67, op := Op.buildSlice 36 1 #[(0, Operand.tmp 66)], type := 36, pos := "order.go:37", after := #[{ on := 8, ground := Ground.data }], guard := none }
def lb10 : Oper := { dst := some 68, op := Op.call { callee := Callee.builtin Builtin.append, args := #[Operand.tmp 65, Operand.tmp 67], argTypes := #[36, 36] }, type := 36, pos := "order.go:37", after := #[{ on := 7, ground := Ground.data }, { on := 9, ground := Ground.data }], guard := none }
def lb11 : Oper := { dst := some 69, op := Op.indexAddr 29 (Operand.tmp 59) (Operand.tmp 60), type := 0, pos := "order.go:37", after := #[{ on := 1, ground := Ground.data }, { on := 2, ground := Ground.data }, { on := 0, ground := Ground.phase }, { on := 1, ground := Ground.phase }, { on := 2, ground := Ground.phase }, { on := 3, ground := Ground.phase }, { on := 4, ground := Ground.phase }, { on := 5, ground := Ground.phase }, { on := 6, ground := Ground.phase }, { on := 7, ground := Ground.phase }, { on := 8, ground := Ground.phase }, { on := 9, ground := Ground.phase }, { on := 10, ground := Ground.phase }], guard := none }
def lb12 : Oper := { dst := none, op := Op.store 36 (Operand.tmp 69) (Operand.tmp 68), type := 0, pos := "order.go:37", after := #[{ on := 11, ground := Ground.data }, { on := 10, ground := Ground.data }, { on := 10, ground := Ground.chain }, { on := 0, ground := Ground.phase }, { on := 1, ground := Ground.phase }, { on := 2, ground := Ground.phase }, { on := 3, ground := Ground.phase }, { on := 4, ground := Ground.phase }, { on := 5, ground := Ground.phase }, { on := 6, ground := Ground.phase }, { on := 7, ground := Ground.phase }, { on := 8, ground := Ground.phase }, { on := 9, ground := Ground.phase }, { on := 10, ground := Ground.phase }], guard := none }
def uj:Array Oper:=#[lb0,lb1,lb2,lb3,lb4,lb5,lb6,lb7,lb8,lb9,lb10,lb11,lb12]
def lbD (k:Nat):Option Nat:=if k=12 then none else some (k+58)
def lbV (S T n o x:Nat) (v vq:Value) (z:Nat):Nat→Value
 |0=>.pointer (some ⟨S,1,none⟩)
 |1=>.slice (some ⟨T,0,none⟩) n n
 |2=>.int .i64 o
 |3=>.pointer (some ⟨S,1,none⟩)
 |4=>.slice (some ⟨T,0,none⟩) n n
 |5=>.int .i64 o
 |6=>.pointer (some ⟨T,o,none⟩)
 |7=>v
 |8=>.int .i64 x
 |9=>.slice (some ⟨z,0,none⟩) 1 1
 |10=>vq
 |11=>.pointer (some ⟨T,o,none⟩)
 |_=>undef
theorem lb_region {Q:Exit→Act→World→Prop} {a0:Act} {w0 w2:World} {S T n o x:Nat} {v vq:Value} (hs:80=a0.tmps.size) (e6:Rg.ev a0 6=.pointer (some ⟨S,0,none⟩)) (eo:Rg.ev a0 12=.int .i64 o) (ex:Rg.ev a0 9=.int .i64 x) (hon:o<n)
  (c0:w0.cell? ⟨S,1,none⟩=some (.slice (some ⟨T,0,none⟩) n n)) (c2:w2.cell? ⟨S,1,none⟩=some (.slice (some ⟨T,0,none⟩) n n)) (r0:w0.cell? ⟨T,o,none⟩=some v) (r2:w2.cell? ⟨T,o,none⟩=some v) (f2:w2.frozen? ⟨T,o,none⟩=false)
  (ha:(Builtin.append_ #[36,36] 36 #[v,.slice (some ⟨w0.heap.size,0,none⟩) 1 1]).run Tryz.prog (w0.alloc (.cells #[.int .i64 x] 3))=.ok vq w2) (hv:∃ r l c,v=.slice r l c) (hvq:∃ r l c,vq=.slice r l c)
  (hQ:∀ a,Rg.Offs 13 lbD a0 a→(∀ j,j<13→∀ s,lbD j=some s→Rg.ev a s=lbV S T n o x v vq w0.heap.size j)→Q .normal a (w2.setCell ⟨T,o,none⟩ vq)):wpAny Tryz.prog .any uj Q 13 (Array.replicate 13 false) a0 w0:=by
 obtain⟨vr,vl,vc,rfl⟩:=hv
 obtain⟨qr,ql,qc,rfl⟩:=hvq
 have c1:(w0.alloc (.cells #[.int .i64 x] 3)).cell? ⟨S,1,none⟩=some (.slice (some ⟨T,0,none⟩) n n):=by rw[(ae w0 _).cell (cell_below c0)];exact c0
 have r1:(w0.alloc (.cells #[.int .i64 x] 3)).cell? ⟨T,o,none⟩=some (.slice vr vl vc):=by rw[(ae w0 _).cell (cell_below r0)];exact r0
 generalize hw1:w0.alloc (.cells #[.int .i64 x] 3)=w1 at *
 refine Rg.region2 13 lbD (lbV S T n o x (.slice vr vl vc) (.slice qr ql qc) w0.heap.size) (pJ w0 w1 w2 (w2.setCell ⟨T,o,none⟩ (.slice qr ql qc))) rfl (by decide) (by decide) (fun j hj s h=>by rw[← hs];exact (by decide:∀ j,j<13→∀ s∈lbD j,s<80) j hj s h) (.inr ⟨rfl,.inr (.inr ⟨rfl,rfl,rfl⟩)⟩) ?_ ?_
 ·intro d i a W hi hdi hdn hdl hO hJ hd
  have hev:∀ j,a.eval (.tmp j)=Rg.ev a j:=fun _=>rfl
  have g6:Rg.ev a 6=_:=(hO.same 6 (by decide)).trans e6
  have go:Rg.ev a 12=_:=(hO.same 12 (by decide)).trans eo
  have gx:Rg.ev a 9=_:=(hO.same 9 (by decide)).trans ex
  have hJq:∀ i,i≠9→i≠10→i≠12→pJ w0 w1 w2 (w2.setCell ⟨T,o,none⟩ (.slice qr ql qc)) (Rg.upd d i) W:=fun i h1 h2 h3=>pI hJ h1 h2 h3
  have h12:i≠12→d 12=false:=fun h=>rJ hJ (by omega) hdi
  have hc:i≠12→W.cell? ⟨S,1,none⟩=some (.slice (some ⟨T,0,none⟩) n n):=fun h=>by rcases iD hJ (h12 h) with e|e|e<;>(rw[e];assumption)
  have hN:i=0∨i=1∨i=2∨i=3∨i=4∨i=5∨i=6∨i=7∨i=8∨i=9∨i=10∨i=11∨i=12:=by omega
  rcases hN with rfl|rfl|rfl|rfl|rfl|rfl|rfl|rfl|rfl|rfl|rfl|rfl|rfl
  ·exact run2 (o:=lb0) rfl rfl (Rg.want_free rfl) (by unfold lb0;simp only[execOp,hev,g6];go_simp<;>rfl) (hJq 0 (by decide) (by decide) (by decide))
  ·have d0:Rg.ev a 58=.pointer (some ⟨S,1,none⟩):=hd 0 (by decide) 58 rfl
   replace hc:=hc (by decide)
   exact run2 (o:=lb1) rfl rfl (Rg.want_free rfl) (by unfold lb1;simp only[execOp,hev,d0];go_simp<;>rfl) (hJq 1 (by decide) (by decide) (by decide))
  ·exact run2 (o:=lb2) rfl rfl (Rg.want_free rfl) (by unfold lb2;simp only[execOp,hev,go];go_simp<;>rfl) (hJq 2 (by decide) (by decide) (by decide))
  ·exact run2 (o:=lb3) rfl rfl (Rg.want_free rfl) (by unfold lb3;simp only[execOp,hev,g6];go_simp<;>rfl) (hJq 3 (by decide) (by decide) (by decide))
  ·have d3:Rg.ev a 61=.pointer (some ⟨S,1,none⟩):=hd 3 (by decide) 61 rfl
   replace hc:=hc (by decide)
   exact run2 (o:=lb4) rfl rfl (Rg.want_free rfl) (by unfold lb4;simp only[execOp,hev,d3];go_simp<;>rfl) (hJq 4 (by decide) (by decide) (by decide))
  ·exact run2 (o:=lb5) rfl rfl (Rg.want_free rfl) (by unfold lb5;simp only[execOp,hev,go];go_simp<;>rfl) (hJq 5 (by decide) (by decide) (by decide))
  ·have d4:Rg.ev a 62=.slice (some ⟨T,0,none⟩) n n:=hd 4 (by decide) 62 rfl
   have d5:Rg.ev a 63=.int .i64 o:=hd 5 (by decide) 63 rfl
   exact run2 (o:=lb6) rfl rfl (Rg.want_free rfl) (by unfold lb6;simp only[execOp,hev,d4,d5];go_simp<;>rfl) (hJq 6 (by decide) (by decide) (by decide))
  ·have d6:Rg.ev a 64=.pointer (some ⟨T,o,none⟩):=hd 6 (by decide) 64 rfl
   have hr:W.cell? ⟨T,o,none⟩=some (.slice vr vl vc):=by rcases iD hJ (h12 (by decide)) with e|e|e<;>(rw[e];assumption)
   exact run2 (o:=lb7) rfl rfl (Rg.want_free rfl) (by unfold lb7;simp only[execOp,hev,d6];go_simp<;>rfl) (hJq 7 (by decide) (by decide) (by decide))
  ·exact run2 (o:=lb8) rfl rfl (Rg.want_free rfl) (by unfold lb8;simp only[execOp,hev,gx];go_simp<;>rfl) (hJq 8 (by decide) (by decide) (by decide))
  ·have d8:Rg.ev a 66=.int .i64 x:=hd 8 (by decide) 66 rfl
   obtain⟨rfl,hJ'⟩:=pY hJ hdi
   exact run2 (o:=lb9) (w':=w1) rfl rfl (Rg.want_free rfl) (by unfold lb9;rw[← hw1];simp only[execOp,List.map_toArray,List.map_cons,List.map_nil,hev,d8];go_simp<;>rfl) hJ'
  ·have d7:Rg.ev a 65=.slice vr vl vc:=hd 7 (by decide) 65 rfl
   have d9:Rg.ev a 67=.slice (some ⟨w0.heap.size,0,none⟩) 1 1:=hd 9 (by decide) 67 rfl
   obtain⟨rfl,hJ'⟩:=su hJ hdi (hdn 9 (by decide)) (hdn 7 (by decide))
   exact run2 (o:=lb10) (w':=w2) rfl rfl (Rg.want_free rfl) (by unfold lb10;simp only[execOp,resolve,invoke,builtin,Sem.run_bind,Sem.run_pure,Result.andThen_ok,List.map_toArray,List.map_cons,List.map_nil,hev,d7,d9,ha];rfl) hJ'
  ·have d1:Rg.ev a 59=.slice (some ⟨T,0,none⟩) n n:=hd 1 (by decide) 59 rfl
   have d2:Rg.ev a 60=.int .i64 o:=hd 2 (by decide) 60 rfl
   exact run2 (o:=lb11) rfl rfl (Rg.want_free rfl) (by unfold lb11;simp only[execOp,hev,d1,d2];go_simp<;>rfl) (hJq 11 (by decide) (by decide) (by decide))
  ·have d11:Rg.ev a 69=.pointer (some ⟨T,o,none⟩):=hd 11 (by decide) 69 rfl
   have d10:Rg.ev a 68=.slice qr ql qc:=hd 10 (by decide) 68 rfl
   obtain⟨rfl,hJ'⟩:=lY hJ hdi fun j hj=>hdn j ((by decide:∀ j,j<12→j∈Rg.deps uj 12) j hj)
   exact sM (o:=lb12) (w':=W.setCell ⟨T,o,none⟩ (.slice qr ql qc)) rfl rfl (Rg.want_free rfl) (by unfold lb12;simp only[execOp,hev,d10,d11];go_simp<;>rfl) hJ'
 ·intro d a w hall hO hJ hd
  obtain rfl:=sN hJ (hall 12 (by decide))
  exact hQ a hO hd
theorem lb_frame {x0 x1 x2 x3 x4 x5 x6 x7 x8 x9 x10 x11 x12 x13 x14 x15 x16 x17 x18 x19 x20 x21 x22 x23 x24 x25 x26 x27 x28 x29 x30 x31 x32 x33 x34 x35 x36 x37 x38 x39 x40 x41 x42 x43 x44 x45 x46 x47 x48 x49 x50 x51 x52 x53 x54 x55 x56 x57 x58 x59 x60 x61 x62 x63 x64 x65 x66 x67 x68 x69 x70 x71 x72 x73 x74 x75 x76 x77 x78 x79:Value} {a:Act} (h:Rg.Offs 13 lbD { tmps:=#[x0,x1,x2,x3,x4,x5,x6,x7,x8,x9,x10,x11,x12,x13,x14,x15,x16,x17,x18,x19,x20,x21,x22,x23,x24,x25,x26,x27,x28,x29,x30,x31,x32,x33,x34,x35,x36,x37,x38,x39,x40,x41,x42,x43,x44,x45,x46,x47,x48,x49,x50,x51,x52,x53,x54,x55,x56,x57,x58,x59,x60,x61,x62,x63,x64,x65,x66,x67,x68,x69,x70,x71,x72,x73,x74,x75,x76,x77,x78,x79],defers:=[] } a):∃ f:Nat→Value,a={ tmps:=#[x0,x1,x2,x3,x4,x5,x6,x7,x8,x9,x10,x11,x12,x13,x14,x15,x16,x17,x18,x19,x20,x21,x22,x23,x24,x25,x26,x27,x28,x29,x30,x31,x32,x33,x34,x35,x36,x37,x38,x39,x40,x41,x42,x43,x44,x45,x46,x47,x48,x49,x50,x51,x52,x53,x54,x55,x56,x57,f 0,f 1,f 2,f 3,f 4,f 5,f 6,f 7,f 8,f 9,f 10,f 11,x70,x71,x72,x73,x74,x75,x76,x77,x78,x79],defers:=[] }:=
 ⟨Rg.slv lbD a,(h.eq fun j hj s e=>(by decide:∀ j,j<13→∀ s∈lbD j,s<80) j hj s e).trans (by kernel_rfl)⟩
def grp (lst:Nat→Nat) (i g:Nat):List Nat:=(List.range i).filter fun v=>decide (lst v=g)
def lR (lst:Nat→Nat) (i:Nat) (es:List (Nat × Nat)):Nat→Nat→List Int:=fun t v=>if t=0 then zs (grp lst i v) else if t=1 then zs (Od.leaning es v) else []
def wI (es:List (Nat × Nat)) (n:Nat):List Int:=(List.range n).map fun g=>((Od.waits es [] g:Nat):Int)
def prt (adj:Nat→List Nat) (lst:Nat→Nat) (i k:Nat):List (Nat × Nat):=Od.edges adj lst i++(((adj i).take k).filter fun w=>lst w≠lst i).map fun w=>(lst i,lst w)
section
variable {adj:Nat→List Nat} {lst:Nat→Nat}
theorem grp_succ (i g:Nat):grp lst (i+1) g=grp lst i g++if lst i=g then [i] else []:=by
 unfold grp
 rw[List.range_succ,List.filter_append]
 congr 1
 by_cases e:lst i=g<;>simp[e]
theorem mM (i g:Nat):(grp lst i g).length≤i:=by
 unfold grp
 have:=List.length_filter_le (fun v=>decide (lst v=g)) (List.range i)
 rwa[List.length_range] at this
theorem lR_own (i:Nat) (es:List (Nat × Nat)):up2 (lR lst i es) 0 (lst i) (zs (grp lst i (lst i))++[(i:Int)])=lR lst (i+1) es:=by
 funext t v
 unfold up2 lR
 by_cases e:t=0
 ·subst e
  rw[if_pos rfl,if_pos rfl,grp_succ]
  by_cases e2:v=lst i
  ·subst e2
   rw[if_pos ⟨rfl,rfl⟩,if_pos rfl,lD]
  ·rw[if_neg (fun k=>e2 k.2),if_neg (fun k=>e2 k.symm),List.append_nil]
 ·rw[if_neg (fun k=>e k.1),if_neg e,if_neg e]
theorem leaning_app (es:List (Nat × Nat)) (a b g:Nat):Od.leaning (es++[(a,b)]) g=Od.leaning es g++if b=g then [a] else []:=by
 unfold Od.leaning
 rw[List.filter_append,List.map_append]
 congr 1
 by_cases e:b=g<;>simp[e]
theorem lR_lean (i:Nat) (es:List (Nat × Nat)) (a b:Nat):up2 (lR lst i es) 1 b (zs (Od.leaning es b)++[(a:Int)])=lR lst i (es++[(a,b)]):=by
 funext t v
 unfold up2 lR
 by_cases e:t=0
 ·subst e
  rw[if_neg (by simp),if_pos rfl,if_pos rfl]
 ·rw[if_neg e,if_neg e,leaning_app]
  by_cases e1:t=1
  ·subst e1
   rw[if_pos rfl,if_pos rfl]
   by_cases e2:v=b
   ·subst e2
    rw[if_pos ⟨rfl,rfl⟩,if_pos rfl,lD]
   ·rw[if_neg (fun k=>e2 k.2),if_neg (fun k=>e2 k.symm),List.append_nil]
  ·rw[if_neg (fun k=>e1 k.1),if_neg e1,if_neg e1]
theorem waits_app (es:List (Nat × Nat)) (a b h:Nat):Od.waits (es++[(a,b)]) [] h=Od.waits es [] h+if a=h then 1 else 0:=by
 unfold Od.waits
 rw[List.countP_append]
 congr 1
 by_cases e:a=h<;>simp[e]
theorem wI_len (es:List (Nat × Nat)) (n:Nat):(wI es n).length=n:=by simp[wI]
theorem wI_get (es:List (Nat × Nat)) {n g:Nat} (hg:g<n):(wI es n).getD g 0=((Od.waits es [] g:Nat):Int):=by
 unfold wI
 rw[List.getD_eq_getElem?_getD,List.getElem?_map,List.getElem?_range hg]
 rfl
theorem wI_more (es:List (Nat × Nat)) {n a b:Nat}:(wI es n).set a (((Od.waits es [] a:Nat):Int)+1)=wI (es++[(a,b)]) n:=by
 apply List.ext_getElem
 ·simp[wI]
 ·intro i h1 h2
  unfold wI at h1 h2 ⊢
  rw[List.getElem_set]
  simp only[List.getElem_map,List.getElem_range,waits_app]
  by_cases e:a=i
  ·subst e;simp
  ·simp[e]
theorem wI_nil (n:Nat):wI [] n=List.replicate n 0:=by
 unfold wI
 rw[show (fun g=>((Od.waits [] [] g:Nat):Int))=fun _=>0 from rfl,List.map_const',List.length_range]
theorem pM (i:Nat):prt adj lst i 0=Od.edges adj lst i:=by simp[prt]
theorem qN (i:Nat):prt adj lst i (adj i).length=Od.edges adj lst (i+1):=by
 unfold prt Od.edges
 rw[List.take_length,List.range_succ,List.flatMap_append]
 simp
theorem prt_succ {i k:Nat} (hk:k<(adj i).length):prt adj lst i (k+1)=if lst ((adj i).getD k 0)≠lst i then prt adj lst i k++[(lst i,lst ((adj i).getD k 0))] else prt adj lst i k:=by
 unfold prt
 rw[Od.take_more hk,List.filter_append,List.map_append]
 generalize (adj i).getD k 0=x
 by_cases e:lst x=lst i
 ·rw[if_neg (fun h=>h e)]
  simp[e]
 ·rw[if_pos e]
  simp[e]
theorem edges_zero:Od.edges adj lst 0=[]:=rfl
theorem ru {m:Nat} (h:∀ v,(adj v).length≤m) (i k:Nat):(prt adj lst i k).length≤(i+1)*m:=by
 have he:∀ i,(Od.edges adj lst i).length≤i*m:=by
  intro i
  induction i with
  |zero=>simp[Od.edges]
  |succ i ih=>
   rw[← qN]
   unfold prt
   rw[List.length_append,List.length_map,List.take_length]
   have h1:=List.length_filter_le (fun w=>decide (lst w≠lst i)) (adj i)
   have h2:=h i
   rw[Nat.add_mul]
   omega
 unfold prt
 rw[List.length_append,List.length_map]
 have h1:=List.length_filter_le (fun w=>decide (lst w≠lst i)) ((adj i).take k)
 have h2:=h i
 have h3:=he i
 rw[List.length_take] at h1
 rw[Nat.add_mul]
 omega
theorem jm (es:List (Nat × Nat)) (g:Nat):(Od.leaning es g).length≤es.length:=by
 unfold Od.leaning
 rw[List.length_map]
 exact List.length_filter_le _ _
theorem iW (es:List (Nat × Nat)) (o:List Nat) (g:Nat):Od.waits es o g≤es.length:=List.countP_le_length
end
theorem lg_frame {x0 x1 x2 x3 x4 x5 x6 x7 x8 x9 x10 x11 x12 x13 x14 x15 x16 x17 x18 x19 x20 x21 x22 x23 x24 x25 x26 x27 x28 x29 x30 x31 x32 x33 x34:Value} {a:Act} (h:Rg.Off 12 lgS { tmps:=#[x0,x1,x2,x3,x4,x5,x6,x7,x8,x9,x10,x11,x12,x13,x14,x15,x16,x17,x18,x19,x20,x21,x22,x23,x24,x25,x26,x27,x28,x29,x30,x31,x32,x33,x34],defers:=[] } a) {y:Value} (hy:Rg.ev a 4=y):∃ f:Nat→Value,f 11=y∧a={ tmps:=#[x0,x1,x2,x3,f 11,x5,x6,x7,f 0,f 1,f 2,f 3,f 4,f 5,f 6,f 7,f 8,f 9,f 10,x19,x20,x21,x22,x23,x24,x25,x26,x27,x28,x29,x30,x31,x32,x33,x34],defers:=[] }:=
 ⟨Rg.slv (fun j=>some (lgS j)) a,hy,(h.offs.eq fun j hj s e=>(by decide:∀ j,j<12→∀ s∈some (lgS j),s<35) j hj s e).trans (by kernel_rfl)⟩
theorem gG (n:Nat) (z:Int) (v:Nat):(List.replicate n z).getD v 0=if v<n then z else 0:=by
 rw[List.getD_eq_getElem?_getD,List.getElem?_replicate]
 split<;>rfl
theorem sF (n:Nat):fn (List.replicate n 0)=fun _=>0:=by
 funext v
 unfold fn
 rw[gG]
 split<;>rfl
theorem qK:∀ n,un (fun _=>0) n=n
 |0=>rfl
 |n+1=>by
  unfold un
  rw[qK n,if_pos rfl]
theorem inv_begin (adj:Nat→List Nat) (n:Nat) (bk:Nat→Nat) (ls:Nat→Int) (hl:∀ v,v<n→ls v=-1):Inv adj n 0 (fun _=>0) bk (fun _=>0) ls [] [] where
 lt:=by simp
 ent:=fun v hv=>by simp[hl v hv]
 opn:=by simp
 cnt:=by simp
 srt:=by simp
 sub:=by simp
 head:=by simp
 cls:=fun v hv h=>by rw[hl v hv] at h;omega
 lst:=fun v hv h=>by rw[hl v hv] at h;omega
 gle:=by simp
 new:=by simp
 done:=by simp
 proc:=by simp
 ble:=by simp
 bwit:=by simp
 bleft:=by simp
 reach:=by simp
 link:=by simp
 low:=by simp[Owns]
theorem sta_begin {w:World} {S g1 g2 g3 g4 cb ccap Z n:Nat} {cs:List (List Int)} (hS:w.heap[S]?=some (.cells #[.slice (some ⟨cb,0,none⟩) n ccap,.slice (some ⟨g1,0,none⟩) n n,.slice (some ⟨g2,0,none⟩) n n,.slice (some ⟨g3,0,none⟩) n n,.slice none 0 0,.slice none 0 0,.int .i64 0,.slice (some ⟨g4,0,none⟩) n n] 111 (0,0))) (hc:CsW w cb Z cs) (hn:cs.length=n) (hzS:Z≤S) (hz:Z≤g1∧Z≤g2∧Z≤g3∧Z≤g4) (hd:g1≠g2∧g1≠g3∧g1≠g4∧g2≠g3∧g2≠g4∧g3≠g4) (hs:S≠g1∧S≠g2∧S≠g3∧S≠g4)
  (b1:Bi w g1 (List.replicate n 0)) (b2:Bi w g2 (List.replicate n 0)) (b3:Bi w g3 (List.replicate n 0)) (b4:Bi w g4 (List.replicate n (-1))) :
  Sta w S g1 g2 g3 g4 cb ccap Z n cs [] [] (List.replicate n 0) (List.replicate n 0) (List.replicate n 0) (List.replicate n (-1)) 0 (.slice none 0 0) (.slice none 0 0) where
 m:={ blk:=hS,calls:=hc,nc:=hn,g:=b1,e:=b2,b:=b3,l:=b4,ng:=by simp,ne:=by simp,nb:=by simp,nl:=by simp,p:=⟨rfl,.inl ⟨rfl,rfl⟩⟩,o:=⟨rfl,.inl ⟨rfl,rfl⟩⟩,z:=⟨hzS,hz⟩,d:=hd,s:=hs,pd:=(by intro h e;cases e),od:=(by intro h e;cases e),po:=(by intro h e;cases e) }
 i:=by
  rw[sF]
  exact inv_begin _ _ _ _ fun v hv=>by rw[gG,if_pos hv]
 pg:=fun v=>by rw[gG];split<;>omega
 pe:=fun v=>by rw[gG];split<;>omega
 pb:=fun v=>by rw[gG];split<;>omega
 cn:=by rw[sF,qK];omega
theorem least_any (w:World) (cb n ccap:Nat) (cs:List (List Int)) (hc:CsW w cb w.heap.size cs) (hx:Csx cs n) (hcc:n≤ccap) :
  Calls Tryz.prog 35 #[.slice (some ⟨cb,0,none⟩) n ccap] w fun e w'=>∃ kl Ll,e=.returned (.slice (some ⟨kl,0,none⟩) n n)∧w.heap.size≤kl∧Bi w' kl Ll∧Ll.length=n∧(∀ v,v<n→0≤Ll.getD v 0∧Sc (aH cs) v (Ll.getD v 0).toNat∧∀ u,Sc (aH cs) v u→(Ll.getD v 0).toNat≤u)∧Below w.heap.size w w':=by
 have hn1:=hx.n1
 go_enter Tryz.func35,Tryz.ntmps35
 go_upto_region 2 with fail
 refine wp_region_any (by kernel_rfl) ?_
 refine least_region (X0:=w) (cb:=cb) (n:=n) (ccap:=ccap) hn1 rfl rfl rfl (by first|exact Below.refl _ _|exact (Below.refl _ _).drew) ?_
 intro a w1 hO hK
 obtain⟨S,g1,g2,g3,g4,h4,hzS,hS,hz,hd,hs,b1,b2,b3,b4,hb⟩:=hK
 obtain⟨f,hf,rfl⟩:=lg_frame hO h4
 rw[hf]
 have hst:=sta_begin (ccap:=ccap) hS (hc.low hb) hx.len hzS hz hd hs b1 b2 b3 b4
 clear hO h4 hf hS hz hd hs b1 b2 b3 b4
 go_wp2
 go_loopw [21] (fun iv wr=>∃ (i:Nat) (Lg Le Lb Ll:List Int) (c:Nat) (vp vo:Value),iv=.int .i64 i∧i≤n∧Sta wr S g1 g2 g3 g4 cb ccap w.heap.size n cs [] [] Lg Le Lb Ll c vp vo∧Hid (∀ v,v<i→fn Le v≠0)∧Below w.heap.size w wr) (fun iv _=>n-(intOf iv).toNat)
 case atStart=>exact⟨0,_,_,_,_,0,_,_,rfl,Nat.zero_le _,hst,fun v hv=>absurd hv (Nat.not_lt_zero v),hb⟩
 case round=>
  obtain⟨i,Lg,Le,Lb,Ll,c,vp,vo,rfl,hi,hS,hen,hbw⟩:=hrel
  obtain⟨c0,c1,c2,c3,c4,c5,c6,c7⟩:=hS.m.cells
  by_cases hlt:i<n
  ·have he:=hS.m.e.cell (show i<Le.length by rw[hS.m.ne];exact hlt)
   rw[gV hS.pe i] at he
   obtain⟨ex,hex⟩:∃ ex,ex=fn Le i:=⟨_,rfl⟩
   rw[← hex] at he
   by_cases h00:ex=0
   ·have hfr:=from_any wr S g1 g2 g3 g4 cb ccap w.heap.size n cs Lg Le Lb Ll c vp vo i hS hx hlt (by rw[← hex];exact h00) hcc
    subst h00
    clear hex hS hst
    go_wp2_with fail
    refine hfr.mono ?_
    rintro e w2 ⟨rfl,Lg2,Le2,Lb2,Ll2,c2',vp2,vo2,hS2,hX2⟩
    have hen2:Hid (∀ v,v<i+1→fn Le2 v≠0):=fun v hv=>hX2.en v (by omega) (by
     rcases Nat.lt_or_ge v i with k|k
     ·exact .inl (hen.out v k)
     ·exact .inr (by omega))
    have hb2:=hbw.trans hX2.be
    clear hfr hX2 hen c0 c1 c2 c3 c4 c5 c6 c7 he
    go_wp2
    go_roundw
    case rel=>exact⟨i+1,Lg2,Le2,Lb2,Ll2,c2',vp2,vo2,by go_num,by omega,hS2,hen2,hb2⟩
    case measure=>simp[intOf];omega
   ·have hen2:Hid (∀ v,v<i+1→fn Le v≠0):=fun v hv=>by
     rcases Nat.lt_or_ge v i with k|k
     ·exact hen.out v k
     ·have:v=i:=by omega
      rw[this,← hex]
      exact h00
    have hd0:((ex:Int)==0)=false:=by rw[beq_eq_false_iff_ne];omega
    have HS:Hid (Sta wr S g1 g2 g3 g4 cb ccap w.heap.size n cs [] [] Lg Le Lb Ll c vp vo):=hS
    clear hex hS hst hen
    go_wp2
    go_roundw
    case rel=>exact⟨i+1,Lg,Le,Lb,Ll,c,vp,vo,by go_num,by omega,HS.out,hen2,hbw⟩
    case measure=>simp[intOf];omega
  ·obtain rfl:i=n:=by omega
   have hl:=fun v hv=>hS.i.least (fun u hu=>hen.out u hu) v hv
   have HL:Hid (∀ v,v<i→0≤Ll.getD v 0∧Sc (aH cs) v (Ll.getD v 0).toNat∧∀ u,Sc (aH cs) v u→(Ll.getD v 0).toNat≤u):=hl
   have HB:Hid (Bi wr g4 Ll∧Ll.length=i∧w.heap.size≤g4):=⟨hS.m.l,hS.m.nl,hS.m.z.2.2.2.2⟩
   clear hl hS hst hen
   go_wp2
   go_ret
   exact⟨g4,Ll,rfl,HB.out.2.2,HB.out.1,HB.out.2.1,HL.out,hbw⟩
theorem app_big (w:World) (Z:Nat) (v:Value) (xs:List Int) (x:Int) (h:w.ownsRow Z 3 1 v xs.length (xs.map fun z=>.int .i64 z)) (hZ:Z≤w.heap.size) (hl:xs.length≤100000000000) :
  ∃ g cq w',(Builtin.append_ #[36,36] 36 #[v,.slice (some ⟨w.heap.size,0,none⟩) 1 1]).run Tryz.prog (w.alloc (.cells #[.int .i64 x] 3))=.ok (.slice (some ⟨g,0,none⟩) (xs.length+1) cq) w' ∧
   w'.ownsRow Z 3 1 (.slice (some ⟨g,0,none⟩) (xs.length+1) cq) (xs++[x]).length ((xs++[x]).map fun z=>.int .i64 z)∧(w.alloc (.cells #[.int .i64 x] 3)).grownBy w' v.ownBlock∧(some g=v.ownBlock∨g=(w.alloc (.cells #[.int .i64 x] 3)).heap.size):=by
 obtain⟨i0,hi,hz0,hz1,hz2⟩:=info_parts Tryz.infoI
 have hb:=ae w (.cells #[.int .i64 x] 3)
 obtain⟨v',w',hr,ho,hg,_,hloc⟩:=run_append_own_at (P:=Tryz.prog) (w.alloc (.cells #[.int .i64 x] 3)) Z 36 36 3 i0 (.int .i64 0) 1 8 Tryz.underI hi hz0 hz1 hz2 rfl (by decide) v xs.length _ (aX h hb) ⟨w.heap.size,0,none⟩ 1 1 [.int .i64 x] rfl (cell_one_new w (.int .i64 x) 3) (by intro u hu;simp at hu;subst hu;rfl) (by unfold maxLen;omega) (by omega) (by simp;omega)
 have e1:(xs++[x]).length=xs.length+1:=by simp
 have e2:((xs++[x]).map fun z=>Value.int .i64 z)=(xs.map fun z=>Value.int .i64 z)++[.int .i64 x]:=by simp
 rcases ho.2 with⟨_,h0⟩|⟨g,cq,cur,rfl,_⟩
 ·omega
 ·refine⟨g,cq,w',hr,by rw[e1,e2];exact ho,hg,?_⟩
  rcases hloc with e|e
  ·exact .inl e
  ·exact .inr (Option.some.inj e)
theorem jN {w:World} {B:Nat} {T:TypeId} {k n:Nat} {v:Value} {xs:List Value} (h:w.ownsRow B T k v n xs):∃ r l c,v=.slice r l c:=by
 rcases h.2 with⟨e,_⟩|⟨g,c,_,e,_⟩
 ·exact⟨_,_,_,e⟩
 ·exact⟨_,_,_,e⟩
theorem Lw.pushed {w:World} {S kw Z n:Nat} {T:Nat→Nat} {V:Nat→Nat→Value} {R:Nat→Nat→List Int} {Ws:List Int} (h:Lw w S T kw Z n V R Ws) {t v:Nat} (ht:t<2) (hv:v<n) (x:Nat) (hl:(R t v).length≤100000000000) :
  ∃ g cq w2,(Builtin.append_ #[36,36] 36 #[V t v,.slice (some ⟨w.heap.size,0,none⟩) 1 1]).run Tryz.prog (w.alloc (.cells #[.int .i64 (x:Int)] 3))=.ok (.slice (some ⟨g,0,none⟩) ((R t v).length+1) cq) w2∧w2.cell? ⟨S,t,none⟩=some (.slice (some ⟨T t,0,none⟩) n n)∧w2.cell? ⟨T t,v,none⟩=some (V t v)∧w2.frozen? ⟨T t,v,none⟩=false ∧
   Lw (w2.setCell ⟨T t,v,none⟩ (.slice (some ⟨g,0,none⟩) ((R t v).length+1) cq)) S T kw Z n (up2 V t v (.slice (some ⟨g,0,none⟩) ((R t v).length+1) cq)) (up2 R t v (R t v++[(x:Int)])) Ws∧Below Z w (w2.setCell ⟨T t,v,none⟩ (.slice (some ⟨g,0,none⟩) ((R t v).length+1) cq)):=by
 obtain⟨g,cq,w2,hr,ho,hg,hl2⟩:=app_big w Z (V t v) (R t v) x (h.row t v ht hv) h.le hl
 have hb:=ae w (.cells #[.int .i64 (x:Int)] 3)
 have h1:=h.up hb
 obtain⟨⟨k1,k2,k3⟩,k4⟩:=h1.push ht hv hg ho (by
  rcases hl2 with e|e
  ·exact .inl e
  ·exact .inr (by rw[e];rfl))
 exact⟨g,cq,w2,hr,k1,k2,k3,k4,((hb.mono h.le).grown hg (Nat.le_trans h.le (by simp)) fun k e=>((h.row t v ht hv).lt k e).1).setCell (h.zT t ht) _⟩
theorem leanings_any (w:World) (cb n ccap kl:Nat) (cs:List (List Int)) (Ll:List Int) (hc:CsW w cb w.heap.size cs) (hx:Csx cs n) (hcc:n≤ccap) (hkl:Bi w kl Ll) (hnl:Ll.length=n) (hp:∀ v,v<n→0≤Ll.getD v 0∧Ll.getD v 0<n) :
  Calls Tryz.prog 34 #[.slice (some ⟨cb,0,none⟩) n ccap,.slice (some ⟨kl,0,none⟩) n n] w fun e w'=>∃ S T kw Z V,e=.returned (.agg #[.slice (some ⟨T 0,0,none⟩) n n,.slice (some ⟨T 1,0,none⟩) n n,.slice (some ⟨kw,0,none⟩) n n])∧w.heap.size≤Z∧Lw w' S T kw Z n V (lR (fn Ll) n (Od.edges (aH cs) (fn Ll) n)) (wI (Od.edges (aH cs) (fn Ll) n) n)∧Below w.heap.size w w':=by
 have hn1:=hx.n1
 have hbX:=ae w (.cells #[.slice none 0 0,.slice none 0 0,.slice none 0 0] 76)
 have hrv:(w.alloc (.cells #[.slice none 0 0,.slice none 0 0,.slice none 0 0] 76)).heap[w.heap.size]?=some (.cells #[.slice none 0 0,.slice none 0 0,.slice none 0 0] 76 (0,0)):=by show (w.heap.push _)[w.heap.size]?=_;exact Array.getElem?_push_size
 have hsz:w.heap.size<(w.alloc (.cells #[.slice none 0 0,.slice none 0 0,.slice none 0 0] 76)).heap.size:=by simp
 have hcX:=hc.low hbX
 have hkX:=hkl.other (hbX.block _ hkl.lt)
 have hklt:=hkl.lt
 have hp0:∀ v,0≤Ll.getD v 0:=fun v=>by
  rcases Nat.lt_or_ge v n with k|k
  ·exact (hp v k).1
  ·rw[List.getD_eq_getElem?_getD,List.getElem?_eq_none (by omega)];exact Int.le_refl _
 have hfn:∀ v,v<n→fn Ll v<n:=fun v hv=>by have:=hp v hv;unfold fn;omega
 have hlen:∀ v,(aH cs v).length≤100000:=fun v=>by
  rw[fH]
  rcases Nat.lt_or_ge v n with k|k
  ·exact hx.l1 v k
  ·rw[List.getD_eq_getElem?_getD,List.getElem?_eq_none (by rw[hx.len];omega)];exact Nat.zero_le _
 go_enter Tryz.func34,Tryz.ntmps34
 go_upto_region 2 with fail
 refine wp_region_any (by kernel_rfl) ?_
 refine lean_region (X0:=w.alloc (.cells #[.slice none 0 0,.slice none 0 0,.slice none 0 0] 76)) (n:=n) hn1 rfl rfl (by first|exact Below.refl _ _|exact (Below.refl _ _).drew) ?_
 intro a w1 hO hK
 obtain⟨S,T,kw,h6,hL,hb⟩:=hK
 obtain⟨f,hf,rfl⟩:=lq_frame hO h6
 rw[hf]
 clear hO h6 hf
 generalize w.alloc (.cells #[.slice none 0 0,.slice none 0 0,.slice none 0 0] 76)=X0 at *
 go_wp2
 go_loopw [24] (fun iv wr=>∃ (i:Nat) (V:Nat→Nat→Value),iv=.int .i64 i∧i≤n∧Lw wr S T kw X0.heap.size n V (lR (fn Ll) i (Od.edges (aH cs) (fn Ll) i)) (wI (Od.edges (aH cs) (fn Ll) i) n)∧Below X0.heap.size X0 wr) (fun iv _=>n-(intOf iv).toNat)
 case atStart=>exact⟨0,_,rfl,Nat.zero_le _,by
  rw[edges_zero,wI_nil,show lR (fn Ll) 0 []=fun _ _=>[] from by funext t v;unfold lR;split;rfl;split;rfl;rfl]
  exact hL,hb⟩
 case round=>
  obtain⟨i,V,rfl,hi,hL,hbr⟩:=hrel
  have hcbX:cb<X0.heap.size:=Nat.lt_trans hc.lo hsz
  have hkr:=hkX.other (hbr.block kl (by omega))
  by_cases hlt:i<n
  ·obtain⟨ro,rc,a1,a2⟩:=hcX.row i (by rw[hx.len];exact hlt)
   rw[← hbr.cell (by exact hcbX)] at a1
   have l1:=hkr.cell (show i<Ll.length by omega)
   rw[gV hp0 i] at l1
   obtain⟨o,ho⟩:∃ o,o=fn Ll i:=⟨_,rfl⟩
   have hon:o<n:=by rw[ho];exact hfn i hlt
   rw[← ho] at l1
   obtain⟨rl,hrl⟩:∃ rl,rl=(cs.getD i []).length:=⟨_,rfl⟩
   have hrl1:rl≤100000:=by rw[hrl];exact hx.l1 i hlt
   rw[← hrl] at a1 a2
   have HO:Hid (o=fn Ll i):=ho
   have HRL:Hid (rl=(cs.getD i []).length):=hrl
   have HA:Hid (cs.getD i []=[]∨∃ g,ro=some ⟨g,0,none⟩∧g<w.heap.size∧∀ t,t<rl→X0.cell? ⟨g,t,none⟩=some (.int .i64 ((cs.getD i []).getD t 0))):=a2
   clear ho hrl a2
   go_upto_region 7 with fail
   refine wp_region_any (by kernel_rfl) ?_
   change wpAny _ _ _ _ _ _ _ (World.drew _)
   have hL0:=hL.up (Below.refl _ _).drew
   have hbr0:=hbr.drew
   clear hL hbr a1 l1 hkr
   generalize wr.drew=W0 at *
   have hRl:lR (fn Ll) i (Od.edges (aH cs) (fn Ll) i) 0 o=zs (grp (fn Ll) i o):=if_pos rfl
   obtain⟨g,cq,w2,hr,k1,k2,k3,hL2,hb2⟩:=hL0.pushed (t:=0) (v:=o) (by decide) hon i (by rw[hRl,bF];have:=mM (lst:=fn Ll) i o;omega)
   rw[hRl,bF] at hr hL2 hb2
   refine la_region (S:=S) (T:=T 0) (n:=n) (o:=o) (x:=i) rfl rfl rfl rfl hon hL0.cells.1 k1 ((hL0.tab 0 (by decide)).cell hon) k2 k3 hr (jN (hL0.row 0 o (by decide) hon)) ⟨_,_,_,rfl⟩ ?_
   intro a hO hV
   obtain⟨fa,rfl⟩:=la_frame hO
   replace hb2:=hbr0.trans hb2
   clear hO hV hr k1 k2 k3 hL0 hbr0
   rw[HO.out,lR_own i (Od.edges (aH cs) (fn Ll) i),← HO.out] at hL2
   generalize w2.setCell ⟨T 0,o,none⟩ (.slice (some ⟨g,0,none⟩) ((grp (fn Ll) i o).length+1) cq)=W1 at *
   generalize up2 V 0 o (.slice (some ⟨g,0,none⟩) ((grp (fn Ll) i o).length+1) cq)=V1 at *
   clear hRl
   rw[← pM (adj:=aH cs) (lst:=fn Ll) i] at hL2
   go_wp2_with fail
   go_loopw [47] (fun kv wr=>∃ (k:Nat) (V:Nat→Nat→Value),kv=.int .i64 k∧k≤rl∧Lw wr S T kw X0.heap.size n V (lR (fn Ll) (i+1) (prt (aH cs) (fn Ll) i k)) (wI (prt (aH cs) (fn Ll) i k) n)∧Below X0.heap.size X0 wr) (fun kv _=>rl-(intOf kv).toNat)
   case atStart=>exact⟨0,_,rfl,Nat.zero_le _,hL2,hb2⟩
   case round=>
    rename World=>wr1
    obtain⟨k,V2,rfl,hk,hL3,hbr3⟩:=hrel
    by_cases hkl2:k<rl
    ·obtain⟨cg,ce,cl,hcell⟩:∃ cg,ro=some ⟨cg,0,none⟩∧cg<w.heap.size∧∀ t,t<rl→X0.cell? ⟨cg,t,none⟩=some (.int .i64 ((cs.getD i []).getD t 0)):=by
      rcases HA.out with e|e
      ·have:=HRL.out
       rw[e] at this
       simp at this
       omega
      ·exact e
     subst ce
     have b1:=hcell k hkl2
     obtain⟨x,hx1,hx2,hx3⟩:=hx.get hlt (show k<(cs.getD i []).length by rw[← HRL.out];exact hkl2)
     rw[hx1,← hbr3.cell (by exact Nat.lt_trans cl hsz)] at b1
     have hkr:=hkX.other (hbr3.block kl (by omega))
     have m1:=hkr.cell (show x<Ll.length by omega)
     rw[gV hp0 x] at m1
     have hsucc:=prt_succ (adj:=aH cs) (lst:=fn Ll) (i:=i) (k:=k) (by rw[fH,← HRL.out];exact hkl2)
     rw[hx3] at hsucc
     obtain⟨p,hpp⟩:∃ p,p=fn Ll x:=⟨_,rfl⟩
     have hpn:p<n:=by rw[hpp];exact hfn x hx2
     rw[← hpp] at m1 hsucc
     rw[← HO.out] at hsucc
     have HSU:Hid (prt (aH cs) (fn Ll) i (k+1)=if p≠o then prt (aH cs) (fn Ll) i k++[(o,p)] else prt (aH cs) (fn Ll) i k):=hsucc
     have hkr1:=hkl2
     clear hcell hx1 hx3 hkr hpp hsucc
     by_cases hpo:p=o
     ·have hd:((p:Int) != o)=false:=by rw[hpo];exact bne_self_eq_false _
      have hq:prt (aH cs) (fn Ll) i (k+1)=prt (aH cs) (fn Ll) i k:=by rw[HSU.out,if_neg (fun h=>h hpo)]
      rw[← hq] at hL3
      have HL3:Hid (Lw wr1 S T kw X0.heap.size n V2 (lR (fn Ll) (i+1) (prt (aH cs) (fn Ll) i (k+1))) (wI (prt (aH cs) (fn Ll) i (k+1)) n)):=hL3
      clear hL3 hq
      go_wp2
      go_roundw
      case rel=>exact⟨k+1,V2,by go_num,by omega,HL3.out,hbr3⟩
      case measure=>simp[intOf];omega
     ·have hd:((p:Int) != o)=true:=by rw[bne_iff_ne];omega
      go_upto_region 13 with fail
      refine wp_region_any (by kernel_rfl) ?_
      change wpAny _ _ _ _ _ _ _ (World.drew _)
      have hL0:=hL3.up (Below.refl _ _).drew
      have hbr0:=hbr3.drew
      clear hL3 hbr3 b1 m1
      generalize wr1.drew=W0 at *
      have hRl:lR (fn Ll) (i+1) (prt (aH cs) (fn Ll) i k) 1 p=zs (Od.leaning (prt (aH cs) (fn Ll) i k) p):=rfl
      have hpl:=ru (lst:=fn Ll) hlen i k
      have hpm:(prt (aH cs) (fn Ll) i k).length≤10000000000:=Nat.le_trans hpl (by omega)
      obtain⟨g2,cq2,w2,hr,k1,k2,k3,hL4,hb4⟩:=hL0.pushed (t:=1) (v:=p) (by decide) hpn o (by rw[hRl,bF];have:=jm (prt (aH cs) (fn Ll) i k) p;omega)
      rw[hRl,bF] at hr hL4 hb4
      refine lb_region (S:=S) (T:=T 1) (n:=n) (o:=p) (x:=o) rfl rfl rfl rfl hpn hL0.cells.2.1 k1 ((hL0.tab 1 (by decide)).cell hpn) k2 k3 hr (jN (hL0.row 1 p (by decide) hpn)) ⟨_,_,_,rfl⟩ ?_
      intro a hO hV
      obtain⟨fb,rfl⟩:=lb_frame hO
      replace hb4:=hbr0.trans hb4
      clear hO hV hr k1 k2 k3 hL0 hbr0
      rw[lR_lean (i+1) (prt (aH cs) (fn Ll) i k) o p] at hL4
      generalize w2.setCell ⟨T 1,p,none⟩ (.slice (some ⟨g2,0,none⟩) ((Od.leaning (prt (aH cs) (fn Ll) i k) p).length+1) cq2)=W2 at *
      generalize up2 V2 1 p (.slice (some ⟨g2,0,none⟩) ((Od.leaning (prt (aH cs) (fn Ll) i k) p).length+1) cq2)=V3 at *
      clear hRl
      have hwl:=iW (prt (aH cs) (fn Ll) i k) [] o
      obtain⟨wt,hwt⟩:∃ wt,wt=Od.waits (prt (aH cs) (fn Ll) i k) [] o:=⟨_,rfl⟩
      have d1:=hL4.wts.cell (show o<(wI (prt (aH cs) (fn Ll) i k) n).length by rw[wI_len];exact hon)
      rw[wI_get _ hon,← hwt] at d1
      rw[← hwt] at hwl
      have d2:=hL4.wts.free o
      have d3:=hL4.cells.2.2
      have hL5:=hL4.wait o (wt+1)
      rw[hwt,wI_more (prt (aH cs) (fn Ll) i k) (b:=p),← hwt] at hL5
      have hq:prt (aH cs) (fn Ll) i (k+1)=prt (aH cs) (fn Ll) i k++[(o,p)]:=by rw[HSU.out,if_pos hpo]
      rw[← hq] at hL5
      have hb5:=hb4.setCell (p:=⟨kw,o,none⟩) hL4.zw (.int .i64 ((wt:Int)+1))
      clear hL4 hq hwt hpl
      go_wp2
      exact⟨⟨k+1,V3,by go_num,by omega,hL5,hb5⟩,by simp[intOf];omega⟩
    ·obtain rfl:k=rl:=by omega
     have hq:=qN (adj:=aH cs) (lst:=fn Ll) i
     rw[fH,← HRL.out] at hq
     rw[hq] at hL3
     clear hq
     have HL3:Hid (Lw wr1 S T kw X0.heap.size n V2 (lR (fn Ll) (i+1) (Od.edges (aH cs) (fn Ll) (i+1))) (wI (Od.edges (aH cs) (fn Ll) (i+1)) n)):=hL3
     clear hL3
     go_wp2
     go_roundw
     case rel=>exact⟨i+1,V2,by go_num,by omega,HL3.out,hbr3⟩
     case measure=>simp[intOf];omega
  ·obtain rfl:i=n:=by omega
   obtain⟨c0,c1,c2⟩:=hL.cells
   have hr0:=hrv
   rw[← hbr.block w.heap.size hsz] at hr0
   have hSr:S≠w.heap.size:=fun e=>by have:=hL.zS;omega
   have e0:=cell_of_row _ _ 0 _ _ _ hr0
   have e1:=cell_of_row _ _ 1 _ _ _ hr0
   have e2:=cell_of_row _ _ 2 _ _ _ hr0
   simp at e0 e1 e2
   have f:=fun k=>frozen_of_row _ _ k _ _ hr0
   have f0:=f 0
   have f1:=f 1
   have f2:=f 2
   have ko:=jO wr w.heap.size (.slice (some ⟨T 0,0,none⟩) i i) (.slice (some ⟨T 1,0,none⟩) i i) (.slice (some ⟨kw,0,none⟩) i i)
   have hL2:=hL.keep (w':=set3 wr w.heap.size (.slice (some ⟨T 0,0,none⟩) i i) (.slice (some ⟨T 1,0,none⟩) i i) (.slice (some ⟨kw,0,none⟩) i i)) fun k hk=>ko k (by omega)
   have hb2:=jI (hbX.trans (hbr.mono (Nat.le_of_lt hsz))) w.heap.size (Nat.le_refl _) (.slice (some ⟨T 0,0,none⟩) i i) (.slice (some ⟨T 1,0,none⟩) i i) (.slice (some ⟨kw,0,none⟩) i i)
   have HL2:Hid (Lw (set3 wr w.heap.size (.slice (some ⟨T 0,0,none⟩) i i) (.slice (some ⟨T 1,0,none⟩) i i) (.slice (some ⟨kw,0,none⟩) i i)) S T kw X0.heap.size i V (lR (fn Ll) i (Od.edges (aH cs) (fn Ll) i)) (wI (Od.edges (aH cs) (fn Ll) i) i)∧Below w.heap.size w (set3 wr w.heap.size (.slice (some ⟨T 0,0,none⟩) i i) (.slice (some ⟨T 1,0,none⟩) i i) (.slice (some ⟨kw,0,none⟩) i i))):=⟨hL2,hb2⟩
   have hs3:=lH (.slice (some ⟨T 0,0,none⟩) i i) (.slice (some ⟨T 1,0,none⟩) i i) (.slice (some ⟨kw,0,none⟩) i i) hr0
   have q0:=cell_of_row _ _ 0 _ _ _ hs3
   have q1:=cell_of_row _ _ 1 _ _ _ hs3
   have q2:=cell_of_row _ _ 2 _ _ _ hs3
   simp at q0 q1 q2
   unfold set3 at q0 q1 q2
   clear hL2 hb2 ko hL hr0 f hs3
   go_wp2
   exact bodyPost_ret (v:=.agg #[.slice (some ⟨T 0,0,none⟩) i i,.slice (some ⟨T 1,0,none⟩) i i,.slice (some ⟨kw,0,none⟩) i i]) (by simp[results,Tryz.results34,go_sem,q0,q1,q2]) rfl ⟨S,T,kw,X0.heap.size,V,rfl,by omega,HL2.out.1,HL2.out.2⟩
end Gw
end Go.Proofs.YtimoappbefindaaGreat
