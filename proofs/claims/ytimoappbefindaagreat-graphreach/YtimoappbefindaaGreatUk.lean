/-
  4 texts in one: what each proves stands at its head.
-/
import Derived.Maps.OwnSet
import Derived.Maps.OwnOps
import Derived.StringKeys
import Derived.Test.YtimoappbefindaaGreatUC
import Derived.Test.YtimoappbefindaaGreatUO
import Derived.Test.YtimoappbefindaaGreatUW
import Derived.BigQuiet
namespace Go.Proofs.YtimoappbefindaaGreat
set_option maxHeartbeats 8000000
open Go.RowKit Go.Maps Go.WideMaps
set_option maxRecDepth 100000
def rdr (v:Value):Option (DataW Value × List MemPlace):=some (.held v,[])
def MapW (P:Program) (k:TypeId) (w:World) (b n:Nat) (f:List UInt8→Option Value):Prop:=
 ∃ D,w.ownsMap P k rdr b n D∧∀ s:List UInt8,Maps.has D (.string s)=(f s).isSome∧∀ z,D.atKey (.string s) (.held z)=.held ((f s).getD z)
def putF (f:List UInt8→Option Value) (s:List UInt8) (v:Value):List UInt8→Option Value:=fun t=>if t=s then some v else f t
section
variable {P:Program} {k e t:TypeId} {w w':World} {b n:Nat} {f:List UInt8→Option Value}
theorem MapW.lt (h:MapW P k w b n f):b<w.heap.size:=by
 obtain⟨D,h,_⟩:=h
 exact h.lt
theorem MapW.mono (h:MapW P k w b n f) {m:Nat} (hm:n≤m):MapW P k w b m f:=by
 obtain⟨D,h,r⟩:=h
 exact⟨D,h.mono hm,r⟩
theorem MapW.congr (h:MapW P k w b n f) {g:List UInt8→Option Value} (e:∀ s,g s=f s):MapW P k w b n g:=by
 obtain rfl:g=f:=funext e
 exact h
theorem MapW.block (h:MapW P k w b n f) (hb:w'.heap[b]?=w.heap[b]?):MapW P k w' b n f:=by
 obtain⟨D,⟨es,clock,h1,r⟩,r2⟩:=h
 exact⟨D,⟨es,clock,hb.trans h1,r⟩,r2⟩
theorem MapW.made (w:World) (P:Program) (k:TypeId):MapW P k (w.alloc (.map #[] 0)) w.heap.size 0 fun _=>none:=
 ⟨.map [],World.ownsMap_made w P k rdr,fun _=>⟨rfl,fun _=>rfl⟩⟩
theorem oC (hk:P.underlying k=some .string) {s:List UInt8} (hs:s.length≤maxLen):keyOf P k (.string (bs s))=some (.string s):=by
 have:=keyOf_string_mk hk (s:=bs s) (by rw[bA];exact hs)
 rwa[fA] at this
theorem MapW.look (h:MapW P k w b n f) (hk:P.underlying k=some .string) (ht:P.underlying t=some (.map k e)) {z:Value} (hz:(zeroValue e).run P w=.ok z w) {s:List UInt8} (hs:s.length≤maxLen) :
  (Instr.lookup t (.map (some b)) (.string (bs s)) false).run P w=.ok ((f s).getD z) w:=by
 obtain⟨D,h,r⟩:=h
 obtain⟨v,ps,hrun,hv⟩:=h.lookup (string_keyed hk) ht hz (zd:=.held z) (zp:=[]) rfl (oC hk hs)
 rw[(r s).2 z] at hv
 simp only[rdr,Option.some.injEq,Prod.mk.injEq,DataW.held.injEq] at hv
 rw[hrun,hv.1]
theorem MapW.look_ok (h:MapW P k w b n f) (hk:P.underlying k=some .string) (ht:P.underlying t=some (.map k e)) {z:Value} (hz:(zeroValue e).run P w=.ok z w) {s:List UInt8} (hs:s.length≤maxLen) :
  (Instr.lookup t (.map (some b)) (.string (bs s)) true).run P w=.ok (.tuple #[(f s).getD z,.bool (f s).isSome]) w:=by
 obtain⟨D,h,r⟩:=h
 obtain⟨v,ps,hrun,hv⟩:=World.ownsMap.look_ok h (string_keyed hk) ht hz (zd:=.held z) (zp:=[]) rfl (oC hk hs)
 rw[(r s).2 z] at hv
 simp only[rdr,Option.some.injEq,Prod.mk.injEq,DataW.held.injEq] at hv
 rw[hrun,hv.1,(r s).1]
theorem fM (s:List UInt8):WideAt.IsKeyLit (.string s):=trivial
theorem MapW.put (h:MapW P k w b n f) (hk:P.underlying k=some .string) (ht:P.underlying t=some (.map k e)) (hn:n<maxLen) {s:List UInt8} (hs:s.length≤maxLen) (v:Value) :
  ∃ w',(Instr.mapUpdate t (.map (some b)) (.string (bs s)) v).run P w=.ok () w'∧MapW P k w' b (n+1) (putF f s v)∧w.grownBy w' (some b):=by
 obtain⟨D,h,r⟩:=h
 obtain⟨w',hrun,ho,hg⟩:=h.update (string_keyed hk) ht hn (oC hk hs) (val:=v) (d:=.held v) (ps:=[]) rfl
 refine⟨w',hrun,⟨_,ho,fun t=>?_⟩,hg⟩
 unfold putF
 by_cases e:t=s
 ·subst e
  rw[if_pos rfl]
  exact⟨has_put_same h.isMap (fM t) _,fun z=>atKey_put_same h.isMap (fM t) _ _⟩
 ·rw[if_neg e]
  have hne:(Lit.string t)≠.string s:=fun x=>e (by cases x;rfl)
  exact⟨(has_put_other hne _).trans (r t).1,fun z=>(atKey_put_other hne _ _).trans ((r t).2 z)⟩
end
/-! ## At the operation -/
section
variable {P:Program} {w:World} {ops:Array Oper} {rest:List Oper} {o:Oper} {a:Act} {Q:Exit→Act→World→Prop} {k e t:TypeId} {b n:Nat} {f:List UInt8→Option Value}
theorem wpList_look (hg:o.guard=none) (m x:Operand) (hop:o.op=Op.lookup t m x false) (hk:P.underlying k=some .string) (ht:P.underlying t=some (.map k e)) {z:Value} (hz:(zeroValue e).run P w=.ok z w) (h:MapW P k w b n f) {s:List UInt8} (hs:s.length≤maxLen)
  (hm:a.eval m=.map (some b)) (hx:a.eval x=.string (bs s)) (hK:wpList P ops Q rest (a.put o.dst ((f s).getD z)) w):wpList P ops Q (o::rest) a w:=by
 refine wpList_plain hg fun K' hK'=>?_
 unfold Oper.wp
 simp[execOp,hop,hm,hx,h.look hk ht hz hs,Result.andThen]
 exact hK' _ _ hK
theorem iL (hg:o.guard=none) (m x y:Operand) (hop:o.op=Op.mapUpdate t m x y) (hk:P.underlying k=some .string) (ht:P.underlying t=some (.map k e)) (h:MapW P k w b n f) (hn:n<maxLen) {s:List UInt8} (hs:s.length≤maxLen) (v:Value)
  (hm:a.eval m=.map (some b)) (hx:a.eval x=.string (bs s)) (hy:a.eval y=v) (hK:∀ w',MapW P k w' b (n+1) (putF f s v)→w.grownBy w' (some b)→wpList P ops Q rest (a.put o.dst undef) w'):wpList P ops Q (o::rest) a w:=by
 refine wpList_plain hg fun K' hK'=>?_
 obtain⟨w',hrun,r1,r2⟩:=h.put hk ht hn hs v
 unfold Oper.wp
 simp[execOp,hop,hm,hx,hy,hrun,Result.andThen]
 exact hK' _ _ (hK w' r1 r2)
end
open Go.RowKit Go.Maps
structure ButS (S:Nat→Prop) (w w':World):Prop where
 os:w'.os=w.os
 tape:w'.tape=w.tape
 output:w'.output=w.output
 size:w.heap.size≤w'.heap.size
 block:∀ k,k<w.heap.size→¬ S k→w'.heap[k]?=w.heap[k]?
section
variable {S S':Nat→Prop} {w w' w'':World}
theorem ButS.refl (S:Nat→Prop) (w:World):ButS S w w:=⟨rfl,rfl,rfl,Nat.le_refl _,fun _ _ _=>rfl⟩
theorem ButS.trans (h:ButS S w w') (k:ButS S w' w''):ButS S w w'':=
 ⟨k.os.trans h.os,k.tape.trans h.tape,k.output.trans h.output,Nat.le_trans h.size k.size,fun b hb hs=>(k.block b (Nat.lt_of_lt_of_le hb h.size) hs).trans (h.block b hb hs)⟩
theorem ButS.mono (h:ButS S w w') (hs:∀ b,S b→S' b):ButS S' w w':=⟨h.os,h.tape,h.output,h.size,fun b hb hn=>h.block b hb fun k=>hn (hs b k)⟩
theorem ButS.below (h:Below w.heap.size w w'):ButS S w w':=⟨h.os,h.tape,h.output,h.size,fun b hb _=>h.block b hb⟩
theorem ButS.grown {b:Nat} (h:w.grownBy w' (some b)):ButS (·=b) w w':=⟨h.os,h.tape,h.output,h.size,fun k hk hn=>h.block k hk fun e=>hn (Option.some.inj e)⟩
theorem ButS.oth {b:Nat} (h:Oth b w w'):ButS (·=b) w w':=⟨h.os,h.tape,h.output,by rw[h.size];exact Nat.le_refl _,fun k _ hn=>h.block k hn⟩
theorem ButS.toBelow {B:Nat} (h:ButS S w w') (hB:B≤w.heap.size) (hs:∀ b,S b→B≤b):Below B w w':=
 ⟨h.os,h.tape,h.output,h.size,fun k hk=>h.block k (by omega) fun e=>by have:=hs k e;omega⟩
theorem ButS.bk (h:ButS S w w') {b:Nat} {t:TypeId} {vs:List Value} (hb:Bk w b t vs) (hn:¬ S b):Bk w' b t vs:=(h.block b hb.lt hn).trans hb
theorem ButS.map (h:ButS S w w') {P:Program} {k:TypeId} {b n:Nat} {f:List UInt8→Option Value} (hm:MapW P k w b n f) (hn:¬ S b):MapW P k w' b n f:=hm.block (h.block b hm.lt hn)
theorem ButS.ex (h:ButS S w w') {A:Nat→Prop} {e:Ex} {vs:List Value} (hx:ExW w A e vs) (hA:∀ b,A b→¬ S b):ExW w' A e vs:=hx.keep fun b hb hl=>h.block b hl (hA b hb)
end
/-! ## Names, counted -/
def Cn (w:World) (b n:Nat) (c:List UInt8→Nat):Prop:=∃ f,MapW Tryz.prog 9 w b n f∧∀ s,(f s).getD (.int .i64 0)=.int .i64 (c s)
theorem Cn.lt {w:World} {b n:Nat} {c:List UInt8→Nat} (h:Cn w b n c):b<w.heap.size:=by obtain⟨f,h,_⟩:=h;exact h.lt
theorem Cn.but {S:Nat→Prop} {w w':World} {b n:Nat} {c:List UInt8→Nat} (h:Cn w b n c) (hu:ButS S w w') (hn:¬ S b):Cn w' b n c:=by
 obtain⟨f,h,r⟩:=h
 exact⟨f,hu.map h hn,r⟩
theorem Cn.up {w w':World} {b n:Nat} {c:List UInt8→Nat} (h:Cn w b n c) (hu:Below w.heap.size w w'):Cn w' b n c:=h.but (S:=fun _=>False) (.below hu) id
theorem Cn.mono {w:World} {b n m:Nat} {c:List UInt8→Nat} (h:Cn w b n c) (hm:n≤m):Cn w b m c:=by
 obtain⟨f,h,r⟩:=h
 exact⟨f,h.mono hm,r⟩
theorem Cn.congr {w:World} {b n:Nat} {c d:List UInt8→Nat} (h:Cn w b n c) (e:∀ s,d s=c s):Cn w b n d:=by
 obtain rfl:d=c:=funext e
 exact h
theorem Cn.made (w:World):Cn (w.alloc (.map #[] 0)) w.heap.size 0 fun _=>0:=⟨_,MapW.made w Tryz.prog 9,fun _=>rfl⟩
def Ns (w:World) (ao:Option Addr) (xs:List (List UInt8)):Prop:=∀ j s,xs[j]?=some s→∃ g off,ao=some ⟨g,off,none⟩∧w.cell? ⟨g,off+j,none⟩=some (.string (bs s))
theorem Ns.nil (w:World) (ao:Option Addr):Ns w ao []:=fun j s h=>by simp at h
def dn (y a why at_:Int):Int × Int:=if y=0∨at_<a∨(at_=a∧why<y) then (why,at_) else (y,a)
def Ck (w:World) (bc m:Nat) (p:Int × Int):Prop:=Bk w bc 84 [.map (some m),.int .i64 p.1,.int .i64 p.2]
theorem Ck.up {w w':World} {bc m:Nat} {p:Int × Int} (h:Ck w bc m p) (hb:Below w.heap.size w w'):Ck w' bc m p:=Bk.up h hb
theorem dL {w:World} {bc m:Nat} {y a:Int} (hC:Ck w bc m (y,a)) (why at_:Int) :
  Calls Tryz.prog 57 #[.pointer (some ⟨bc,0,none⟩),.int .i64 why,.int .i64 at_] w fun e w'=>e=.returned (.tuple #[])∧Ck w' bc m (dn y a why at_)∧Oth bc w w':=by
 have c1:w.cell? ⟨bc,1,none⟩=some (.int .i64 y):=hC.cell 1
 have c2:w.cell? ⟨bc,2,none⟩=some (.int .i64 a):=hC.cell 2
 have f1:=hC.frz 1
 have f2:=hC.frz 2
 have hst:Ck ((w.setCell ⟨bc,1,none⟩ (.int .i64 why)).setCell ⟨bc,2,none⟩ (.int .i64 at_)) bc m (why,at_):=(Bk.set (Bk.set hC 1 (.int .i64 why)) 2 (.int .i64 at_))
 have hot:Oth bc w ((w.setCell ⟨bc,1,none⟩ (.int .i64 why)).setCell ⟨bc,2,none⟩ (.int .i64 at_)):=((Oth.refl bc w).set 1 _).set 2 _
 go_enter Tryz.func57,Tryz.ntmps57
 by_cases h1:y=0
 ·subst h1
  have e:dn 0 a why at_=(why,at_):=if_pos (.inl rfl)
  rw[e]
  go_wp2
  go_end0
  exact⟨rfl,hst,hot⟩
 ·have g1:(y==0)=false:=by simpa using h1
  by_cases h2:at_<a
  ·have e:dn y a why at_=(why,at_):=if_pos (.inr (.inl h2))
   rw[e]
   go_wp2
   go_end0
   exact⟨rfl,hst,hot⟩
  ·have g2:decide (at_<a)=false:=by simpa using h2
   by_cases h3:at_=a
   ·subst h3
    by_cases h4:why<y
    ·have e:dn y at_ why at_=(why,at_):=if_pos (.inr (.inr ⟨rfl,h4⟩))
     rw[e]
     go_wp2
     go_end0
     exact⟨rfl,hst,hot⟩
    ·have g4:decide (why<y)=false:=by simpa using h4
     have e:dn y at_ why at_=(y,at_):=if_neg (by omega)
     rw[e]
     go_wp2
     go_end0
     exact⟨rfl,hC,Oth.refl _ _⟩
   ·have g3:(at_==a)=false:=by simpa using h3
    have e:dn y a why at_=(y,a):=if_neg (by omega)
    rw[e]
    go_wp2
    go_end0
    exact⟨rfl,hC,Oth.refl _ _⟩
theorem Tryz.undBn:Tryz.prog.underlying 123=some (.map 9 3):=by kernel_rfl
theorem oN (w:World):(zeroValue 3).run Tryz.prog w=.ok (.int .i64 0) w:=by kernel_rfl
theorem lT {w:World} {b n:Nat} {c:List UInt8→Nat} (hC:Cn w b n c) (s:List UInt8) (hs:s.length≤maxLen) :
  Calls Tryz.prog 58 #[.map (some b),.string (bs s)] w fun e w'=>e=.returned (.bool (decide (0<c s)))∧w'=w:=by
 obtain⟨f,hM,hf⟩:=hC
 have hr:=hM.look Tryz.underlying9 Tryz.undBn (oN w) hs
 rw[hf s] at hr
 have hd:decide (0<c s)=decide ((0:Int)<(c s:Int)):=by simp
 rw[hd]
 go_enter Tryz.func58,Tryz.ntmps58
 go_wp2
 go_ret
 exact⟨rfl,rfl⟩
theorem gD {w:World} {b n:Nat} {c:List UInt8→Nat} (hC:Cn w b n c) (t:Int) (ao:Option Addr) (cap:Nat) (xs:List (List UInt8)) (hN:Ns w ao xs) (hne:∀ g off,ao=some ⟨g,off,none⟩→g≠b) (hs:∀ s∈xs,s.length≤maxLen) (hl:xs.length≤1073741824) (hn:n≤1099511627776)
  (d:List UInt8→Nat→Nat) (h0:∀ s,d s 0=c s) (hd:∀ s k,k<xs.length→(d s (k+1):Int)=(d s k:Int)+if xs.getD k []=s then t else 0) (hbd:∀ s k,d s k≤1099511627776) :
  Calls Tryz.prog 59 #[.map (some b),.int .i64 t,.slice ao xs.length cap] w fun e w'=>e=.returned (.tuple #[])∧Cn w' b (n+xs.length) (fun s=>d s xs.length)∧ButS (·=b) w w':=by
 go_enter Tryz.func59,Tryz.ntmps59
 go_wp2
 go_loopw [10] (fun v wr=>∃ k:Nat,k≤xs.length∧v=.int .i64 k∧Cn wr b (n+k) (fun s=>d s k)∧ButS (·=b) w wr) (fun v _=>xs.length-(intOf v).toNat)
 case atStart=>exact⟨0,Nat.zero_le _,rfl,hC.congr h0,.refl _ _⟩
 case round=>
  obtain⟨k,hkn,rfl,hK,hU⟩:=hrel
  by_cases hlt:k<xs.length
  ·obtain⟨s,hsn⟩:∃ s,s=xs.getD k []:=⟨_,rfl⟩
   obtain⟨g,off,rfl,hc0⟩:=hN k s (by rw[hsn];simp[hlt])
   have hgb:=hne g off rfl
   have hc:wr.cell? ⟨g,off+k,none⟩=some (.string (bs s)):=by
    rw[← hc0]
    unfold World.cell?
    rw[hU.block g (eu hc0) hgb]
   have hsk:=hs s (by rw[hsn,List.getD_eq_getElem?_getD,List.getElem?_eq_getElem hlt];exact List.getElem_mem hlt)
   have hds:∀ r,(d r (k+1):Int)=(d r k:Int)+if s=r then t else 0:=fun r=>by rw[hsn];exact hd r k hlt
   obtain⟨f,hM,hf⟩:=hK
   have hr:=hM.look Tryz.underlying9 Tryz.undBn (oN wr) hsk
   rw[hf] at hr
   have hr:(Instr.lookup 123 (.map (some b)) (.string (bs s)) false).run Tryz.prog wr=.ok (.int .i64 (d s k:Int)) wr:=hr
   have hadd:(d s k:Int)+t=(d s (k+1):Int):=by rw[hds s,if_pos rfl]
   have hb1:=hbd s (k+1)
   have HX:Hid ((∀ r,(d r (k+1):Int)=(d r k:Int)+if s=r then t else 0)∧(∀ r,(f r).getD (.int .i64 0)=.int .i64 ((d r k:Nat):Int))∧(d s k:Int)+t=(d s (k+1):Int)∧d s (k+1)≤1099511627776):=⟨hds,hf,hadd,hb1⟩
   clear hsn hN hne hc0 hs hd hds hf hadd hb1 h0 hbd
   go_wp2_with (first|(at_mapUpdate;refine iL rfl _ _ _ rfl Tryz.underlying9 Tryz.undBn hM (by unfold maxLen;omega) hsk _ rfl rfl rfl ?_;intro w1 hM1 hg1)|go_in)
   go_roundw
   case rel=>
    refine⟨k+1,by omega,by go_num,⟨_,hM1,fun r=>?_⟩,hU.trans (.grown hg1)⟩
    unfold putF
    by_cases e:r=s
    ·subst e
     rw[if_pos rfl]
     show Value.int .i64 _=Value.int .i64 _
     congr 1
     obtain⟨_,_,hadd,hb1⟩:=HX.out
     rw[hadd]
     first|(simp only[wrap64];omega)|(show wrap64 _=_;simp only[wrap64];omega)
    ·rw[if_neg e,HX.out.2.1 r]
     show Value.int .i64 (d r k:Int)=Value.int .i64 (d r (k+1):Int)
     rw[HX.out.1 r,if_neg (fun x=>e x.symm),Int.add_zero]
   case measure=>simp[intOf];omega
  ·have hke:k=xs.length:=by omega
   subst hke
   go_wp2
   go_end0
   exact⟨rfl,hK,hU⟩
def bnd6 (op:Int) (name tail:List UInt8) (i:Nat):List (List UInt8):=if op=21∨(op=22∧i=1) then [name] else if op=20∧i=2 then [name,tail] else []
def oM (w:World) (xs:List (List UInt8)) (e:Ending) (w':World):Prop:=∃ ao,e=.returned (.slice ao xs.length xs.length)∧Ns w' ao xs∧(∀ g off,ao=some ⟨g,off,none⟩→w.heap.size≤g)∧Below w.heap.size w w'
theorem gV {w w':World} (hb:Below w.heap.size w w'):oM w [] (.returned (.slice none 0 0)) w':=⟨none,rfl,.nil _ _,fun g off h=>(by cases h),hb⟩
theorem kK {w w1:World} (s:List UInt8) (t:TypeId) (hb:Below w.heap.size w w1):oM w [s] (.returned (.slice (some ⟨w1.heap.size,0,none⟩) 1 1)) (w1.alloc (.cells #[.string (bs s)] t)):=
 ⟨_,rfl,fun j x hj=>by
  cases j with
  |zero=>cases hj;exact⟨_,0,rfl,(Bk.new w1 t #[.string (bs s)]).cell 0⟩
  |succ j=>simp at hj,fun g off h=>(by cases h;exact hb.size),Below.thn hb (ae _ _)⟩
theorem newNs_two {w w1:World} (s s':List UInt8) (t:TypeId) (hb:Below w.heap.size w w1):oM w [s,s'] (.returned (.slice (some ⟨w1.heap.size,0,none⟩) 2 2)) (w1.alloc (.cells #[.string (bs s),.string (bs s')] t)):=
 ⟨_,rfl,fun j x hj=>by
  cases j with
  |zero=>cases hj;exact⟨_,0,rfl,(Bk.new w1 t #[.string (bs s),.string (bs s')]).cell 0⟩
  |succ j=>
   cases j with
   |zero=>cases hj;exact⟨_,0,rfl,(Bk.new w1 t #[.string (bs s),.string (bs s')]).cell 1⟩
   |succ j=>simp at hj,fun g off h=>(by cases h;exact hb.size),Below.thn hb (ae _ _)⟩
theorem boundIn6_any {w:World} (op:Int) (name tail:List UInt8) (v3 v4 v5 v6:Value) (i:Nat) :
  Calls Tryz.prog 80 #[.agg #[.int .i64 op,.string (bs name),.string (bs tail),v3,v4,v5,v6],.int .i64 i] w fun e w'=>oM w (bnd6 op name tail i) e w':=by
 have hb0:=ae w (.cells #[.int .i64 op,.string (bs name),.string (bs tail),v3,v4,v5,v6] 58)
 have hL:=Bk.new w 58 #[.int .i64 op,.string (bs name),.string (bs tail),v3,v4,v5,v6]
 go_enter Tryz.func80,Tryz.ntmps80
 go_upto_region 1 with fail
 generalize w.alloc (.cells #[.int .i64 op,.string (bs name),.string (bs tail),v3,v4,v5,v6] 58)=W at *
 have c0:W.cell? ⟨w.heap.size,0,none⟩=some (.int .i64 op):=hL.cell 0
 have c1:W.cell? ⟨w.heap.size,1,none⟩=some (.string (bs name)):=hL.cell 1
 have c2:W.cell? ⟨w.heap.size,2,none⟩=some (.string (bs tail)):=hL.cell 2
 clear hL
 by_cases h1:op=21
 ·subst h1
  have e:bnd6 21 name tail i=[name]:=by simp[bnd6]
  go_wp2
  go_ret
  rw[e]
  exact kK name _ hb0
 ·have g1:(op==21)=false:=by simpa using h1
  by_cases h2:op=22
  ·subst h2
   by_cases h3:i=1
   ·subst h3
    have e:bnd6 22 name tail 1=[name]:=by simp[bnd6]
    go_wp2
    go_ret
    rw[e]
    exact kK name _ hb0
   ·have g3:((i:Int)==1)=false:=by simp;omega
    have e:bnd6 22 name tail i=[]:=by simp[bnd6,h3]
    go_wp2
    go_ret
    rw[e]
    exact gV hb0
  ·have g2:(op==22)=false:=by simpa using h2
   by_cases h4:op=20
   ·subst h4
    by_cases h5:i=2
    ·subst h5
     have e:bnd6 20 name tail 2=[name,tail]:=by simp[bnd6]
     go_wp2
     go_ret
     rw[e]
     exact newNs_two name tail _ hb0
    ·have g5:((i:Int)==2)=false:=by simp;omega
     have e:bnd6 20 name tail i=[]:=by simp[bnd6,h5]
     go_wp2
     go_ret
     rw[e]
     exact gV hb0
   ·have g4:(op==20)=false:=by simpa using h4
    have e:bnd6 op name tail i=[]:=by simp[bnd6,h1,h2,h4]
    go_wp2
    go_ret
    rw[e]
    exact gV hb0
theorem leavesFree_any {w:World} {b n:Nat} {c:List UInt8→Nat} (hC:Cn w b n c) (op:Int) (name:List UInt8) (hs:name.length≤maxLen) (v2 v3 v4 v5 v6:Value) :
  Calls Tryz.prog 62 #[.map (some b),.agg #[.int .i64 op,.string (bs name),v2,v3,v4,v5,v6]] w fun e w'=>e=.returned (.bool (decide (op=6∧c name=0)))∧Below w.heap.size w w':=by
 have hb0:=ae w (.cells #[.int .i64 op,.string (bs name),v2,v3,v4,v5,v6] 58)
 have hL:=Bk.new w 58 #[.int .i64 op,.string (bs name),v2,v3,v4,v5,v6]
 go_enter Tryz.func62,Tryz.ntmps62
 go_upto_region 1 with fail
 generalize w.alloc (.cells #[.int .i64 op,.string (bs name),v2,v3,v4,v5,v6] 58)=W at *
 have c0:W.cell? ⟨w.heap.size,0,none⟩=some (.int .i64 op):=hL.cell 0
 have c1:W.cell? ⟨w.heap.size,1,none⟩=some (.string (bs name)):=hL.cell 1
 have hh:=lT (hC.up hb0) name hs
 clear hL
 by_cases h1:op=6
 ·subst h1
  go_wp2_with fail
  refine hh.mono ?_
  rintro e w1 ⟨rfl,rfl⟩
  by_cases h2:c name=0
  ·have e1:decide (0<c name)=false:=by simp[h2]
   have e2:decide ((6:Int)=6∧c name=0)=true:=by simp[h2]
   rw[e1]
   go_wp2
   go_ret
   first|exact⟨rfl,hb0⟩|exact⟨by rw[e2];rfl,hb0⟩
  ·have e1:decide (0<c name)=true:=by simp;omega
   have e2:decide ((6:Int)=6∧c name=0)=false:=by simp[h2]
   rw[e1]
   go_wp2
   go_ret
   first|exact⟨rfl,hb0⟩|exact⟨by rw[e2];rfl,hb0⟩
 ·have g1:(op==6)=false:=by simpa using h1
  have e2:decide (op=6∧c name=0)=false:=by simp[h1]
  go_wp2
  go_ret
  first|exact⟨rfl,hb0⟩|exact⟨by rw[e2];rfl,hb0⟩
theorem Tryz.undPm:Tryz.prog.underlying 82=some (.map 9 3):=by kernel_rfl
def Pm6 (w:World) (m n:Nat) (pf:List UInt8→Option Nat):Prop:=MapW Tryz.prog 9 w m n fun s=>(pf s).map fun k=>.int .i64 (k:Int)
theorem Pm6.up {w w':World} {m n:Nat} {pf:List UInt8→Option Nat} (h:Pm6 w m n pf) (hb:Below w.heap.size w w'):Pm6 w' m n pf:=h.block (hb.block m h.lt)
theorem Pm6.but {S:Nat→Prop} {w w':World} {m n:Nat} {pf:List UInt8→Option Nat} (h:Pm6 w m n pf) (hu:ButS S w w') (hn:¬ S m):Pm6 w' m n pf:=hu.map h hn
def ic (pf:List UInt8→Option Nat) (name:List UInt8) (n:Nat) (p:Int × Int) (at_:Int):Int × Int:=
 match pf name with
 |none=>dn p.1 p.2 32 at_
 |some k=>if k=n then p else dn p.1 p.2 33 at_
theorem call6_any {w:World} {bc m nm:Nat} {p:Int × Int} {pf:List UInt8→Option Nat} (hC:Ck w bc m p) (hP:Pm6 w m nm pf) (v0:Value) (name:List UInt8) (hs:name.length≤maxLen) (v2 v3 v4:Value) (ao:Option Addr) (n c:Nat) (at_:Int) :
  Calls Tryz.prog 63 #[.pointer (some ⟨bc,0,none⟩),.agg #[v0,.string (bs name),v2,v3,v4,.slice ao n c,.int .i64 at_]] w fun e w'=>e=.returned (.tuple #[])∧Ck w' bc m (ic pf name n p at_)∧ButS (·=bc) w w':=by
 obtain⟨y,a⟩:=p
 have hb0:=ae w (.cells #[v0,.string (bs name),v2,v3,v4,.slice ao n c,.int .i64 at_] 58)
 have hL:=Bk.new w 58 #[v0,.string (bs name),v2,v3,v4,.slice ao n c,.int .i64 at_]
 have hC1:=hC.up hb0
 have hP1:=hP.up hb0
 go_enter Tryz.func63,Tryz.ntmps63
 go_upto_region 1 with fail
 generalize w.alloc (.cells #[v0,.string (bs name),v2,v3,v4,.slice ao n c,.int .i64 at_] 58)=W at *
 have c1:W.cell? ⟨w.heap.size,1,none⟩=some (.string (bs name)):=hL.cell 1
 have c5:W.cell? ⟨w.heap.size,5,none⟩=some (.slice ao n c):=hL.cell 5
 have c6:W.cell? ⟨w.heap.size,6,none⟩=some (.int .i64 at_):=hL.cell 6
 have d0:W.cell? ⟨bc,0,none⟩=some (.map (some m)):=hC1.cell 0
 have hr:=(show Pm6 W.drew m nm pf from hP1).look_ok Tryz.underlying9 Tryz.undPm (oN W.drew) hs
 clear hC hP c5 c6
 cases hpf:pf name with
 |none=>
  rw[hpf] at hr
  have hr:(Instr.lookup 82 (.map (some m)) (.string (bs name)) true).run Tryz.prog W.drew=.ok (.tuple #[.int .i64 0,.bool false]) W.drew:=hr
  have e0:ic pf name n (y,a) at_=dn y a 32 at_:=by unfold ic;rw[hpf]
  go_cut [4,5] (fun x y wx=>x=.int .i64 0∧y=.bool false∧Below W.heap.size W wx)
  case first=>
   go_region
   all_goals
    go_wp2_with fail
    go_meet
    case rel=>exact⟨rfl,rfl,(Below.refl _ W).drew⟩
  case rest=>
   obtain⟨rfl,rfl,hB2⟩:=hcut
   have hC2:=hC1.up hB2
   have hL2:=hL.up hB2
   have hU2:ButS (·=bc) w wc:=.below (Below.thn hb0 hB2)
   have c5:wc.cell? ⟨w.heap.size,5,none⟩=some (.slice ao n c):=hL2.cell 5
   have c6:wc.cell? ⟨w.heap.size,6,none⟩=some (.int .i64 at_):=hL2.cell 6
   have ht:=dL hC2 32 at_
   clear hC1 hC2 hL hL2 hP1 hr c1 d0
   go_wp2_with fail
   refine ht.mono ?_
   rintro e w3 ⟨rfl,hC3,hO3⟩
   have hU3:=hU2.trans (.oth hO3)
   clear ht c5 c6
   go_wp2_with fail
   go_end0
   exact⟨rfl,by rw[e0];exact hC3,hU3⟩
 |some k=>
  rw[hpf] at hr
  have hr:(Instr.lookup 82 (.map (some m)) (.string (bs name)) true).run Tryz.prog W.drew=.ok (.tuple #[.int .i64 (k:Int),.bool true]) W.drew:=hr
  go_cut [4,5] (fun x y wx=>x=.int .i64 (k:Int)∧y=.bool true∧Below W.heap.size W wx)
  case first=>
   go_region
   all_goals
    go_wp2_with fail
    go_meet
    case rel=>exact⟨rfl,rfl,(Below.refl _ W).drew⟩
  case rest=>
   obtain⟨rfl,rfl,hB2⟩:=hcut
   have hC2:=hC1.up hB2
   have hL2:=hL.up hB2
   have hU2:ButS (·=bc) w wc:=.below (Below.thn hb0 hB2)
   have c5:wc.cell? ⟨w.heap.size,5,none⟩=some (.slice ao n c):=hL2.cell 5
   have c6:wc.cell? ⟨w.heap.size,6,none⟩=some (.int .i64 at_):=hL2.cell 6
   by_cases hk:k=n
   ·subst hk
    have e0:ic pf name k (y,a) at_=(y,a):=by unfold ic;rw[hpf];simp
    clear hC1 hL hL2 hP1 hr c1 d0
    go_wp2_with fail
    go_end0
    exact⟨rfl,by rw[e0];exact hC2,hU2⟩
   ·have e0:ic pf name n (y,a) at_=dn y a 33 at_:=by unfold ic;rw[hpf];simp[hk]
    have g1:((k:Int) != (n:Int))=true:=by simp;omega
    have ht:=dL hC2 33 at_
    clear hC1 hC2 hL hL2 hP1 hr c1 d0
    go_wp2_with fail
    refine ht.mono ?_
    rintro e w3 ⟨rfl,hC3,hO3⟩
    have hU3:=hU2.trans (.oth hO3)
    clear ht c5 c6
    go_wp2_with fail
    go_end0
    exact⟨rfl,by rw[e0];exact hC3,hU3⟩
def seeP (pf:List UInt8→Option Nat) (cn:List UInt8→Nat) (op:Int) (name:List UInt8) (n:Nat) (at_:Int) (p:Int × Int):Int × Int:=
 let p1:=if op=6∧cn name=0 then dn p.1 p.2 31 at_ else p
 if op=7 then ic pf name n p1 at_ else p1
theorem meet6_any {w:World} {bc m nm b nb ba bp:Nat} {p:Int × Int} {pf:List UInt8→Option Nat} {cn:List UInt8→Nat} (hC:Ck w bc m p) (hP:Pm6 w m nm pf) (hN:Cn w b nb cn) (hA:Bk w ba 123 [.map (some b)]) (hp:Bk w bp 120 [.pointer (some ⟨bc,0,none⟩)])
  (op:Int) (name:List UInt8) (hs:name.length≤maxLen) (v2 v3 v4:Value) (ao:Option Addr) (n c:Nat) (at_:Int) :
  Calls Tryz.prog 61 #[.agg #[.int .i64 op,.string (bs name),v2,v3,v4,.slice ao n c,.int .i64 at_],.pointer (some ⟨ba,0,none⟩),.pointer (some ⟨bp,0,none⟩)] w fun e w'=>e=.returned (.tuple #[])∧Ck w' bc m (seeP pf cn op name n at_ p)∧ButS (·=bc) w w':=by
 have hb0:=ae w (.cells #[.int .i64 op,.string (bs name),v2,v3,v4,.slice ao n c,.int .i64 at_] 58)
 have hL:=Bk.new w 58 #[.int .i64 op,.string (bs name),v2,v3,v4,.slice ao n c,.int .i64 at_]
 have hC1:=hC.up hb0
 have hP1:=hP.up hb0
 have hN1:=hN.up hb0
 have hA1:=hA.up hb0
 have hp1:=hp.up hb0
 have hlt:bc<w.heap.size:=Bk.lt hC
 clear hC hP hN hA hp
 go_enter Tryz.func61,Tryz.ntmps61
 go_upto_region 1 with fail
 generalize w.alloc (.cells #[.int .i64 op,.string (bs name),v2,v3,v4,.slice ao n c,.int .i64 at_] 58)=W at *
 obtain⟨c0,c1,c2,c3,c4,c5,c6⟩:=Bk.seven (show Bk W w.heap.size 58 [_,_,_,_,_,_,_] from hL)
 have a0:W.cell? ⟨ba,0,none⟩=some (.map (some b)):=hA1.cell 0
 have hf:=leavesFree_any hN1 op name hs v2 v3 v4 (.slice ao n c) (.int .i64 at_)
 go_wp2_with fail
 refine hf.mono ?_
 rintro e w2 ⟨rfl,hb2⟩
 have hC2:=hC1.up hb2
 have hP2:=hP1.up hb2
 have hp2:=hp1.up hb2
 have hL2:=hL.up hb2
 have hU2:ButS (·=bc) w w2:=.below (Below.thn hb0 hb2)
 clear hf c0 c1 c2 c3 c4 c5 c6 a0 hN1 hA1 hC1 hP1 hp1 hL hb2
 have q0:w2.cell? ⟨bp,0,none⟩=some (.pointer (some ⟨bc,0,none⟩)):=hp2.cell 0
 obtain⟨c0,c1,c2,c3,c4,c5,c6⟩:=Bk.seven (show Bk w2 w.heap.size 58 [_,_,_,_,_,_,_] from hL2)
 by_cases h1:op=6∧cn name=0
 ·have e1:decide (op=6∧cn name=0)=true:=decide_eq_true h1
  obtain⟨rfl,h1'⟩:=h1
  have e0:seeP pf cn 6 name n at_ p=dn p.1 p.2 31 at_:=by unfold seeP;simp[h1']
  rw[e1]
  have ht:=dL (show Ck w2 bc m (p.1,p.2) from hC2) 31 at_
  go_wp2_with fail
  refine ht.mono ?_
  rintro e w3 ⟨rfl,hC3,hO3⟩
  have hL3:=hL2.oth hO3 (by omega)
  have hU3:=hU2.trans (.oth hO3)
  clear ht c0 c1 c2 c3 c4 c5 c6 q0
  have c0:w3.cell? ⟨w.heap.size,0,none⟩=some (.int .i64 6):=hL3.cell 0
  go_wp2_with fail
  go_end0
  exact⟨rfl,by rw[e0];exact hC3,hU3⟩
 ·have e1:decide (op=6∧cn name=0)=false:=decide_eq_false h1
  rw[e1]
  by_cases h7:op=7
  ·subst h7
   have e0:seeP pf cn 7 name n at_ p=ic pf name n p at_:=by unfold seeP;simp
   have ht:=call6_any hC2 hP2 (.int .i64 7) name hs v2 v3 v4 ao n c at_
   go_wp2_with fail
   refine ht.mono ?_
   rintro e w3 ⟨rfl,hC3,hO3⟩
   have hU3:=hU2.trans hO3
   clear ht
   go_wp2_with fail
   go_end0
   exact⟨rfl,by rw[e0];exact hC3,hU3⟩
  ·have e0:seeP pf cn op name n at_ p=p:=by unfold seeP;rw[if_neg h1];simp[h7]
   have g7:(op==7)=false:=by simpa using h7
   go_wp2_with fail
   go_end0
   exact⟨rfl,by rw[e0];exact hC2,hU2⟩
end Go.Proofs.YtimoappbefindaaGreat
