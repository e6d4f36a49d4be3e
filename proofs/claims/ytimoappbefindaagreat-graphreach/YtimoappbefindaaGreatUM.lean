/-
  5 texts in one: what each proves stands at its head.
-/
import Derived.Test.YtimoappbefindaaGreatUL
import Derived.Test.YtimoappbefindaaGreatUA
import Derived.Test.YtimoappbefindaaGreatUI
import Derived.Defers
import Derived.Recover
import Derived.RegionTactic
import Derived.Lib.SlBytesConst
import Derived.Test.YtimoappbefindaaGreatUH
import Derived.Deep.RegionLaw
namespace Go.Proofs.YtimoappbefindaaGreat
open Go.RowKit
set_option maxRecDepth 100000
theorem Tryz.infoFs:(Tryz.prog.info? 60).map (fun i=>(i.zero,i.size,i.bytes))=some (some (.agg fz),11,152):=by kernel_rfl
theorem Tryz.underFs:Tryz.prog.underlying 24=some (.slice 60):=by kernel_rfl
theorem FnW.keep {w w':World} {A:Nat→Prop} {g:Fn1} {vs:List Value} (h:FnW w A g vs) (hs:w.heap.size≤w'.heap.size) (hk:∀ b,A b→b<w.heap.size→w'.heap[b]?=w.heap[b]?):FnW w' A g vs:=by
 obtain⟨ao,c,es,e,h1,h2⟩:=h
 exact⟨ao,c,es,e,h1.keep hs hk,h2.keep hk⟩
theorem FnW.imp {w:World} {A A':Nat→Prop} {g:Fn1} {vs:List Value} (h:FnW w A g vs) (hk:∀ b,A b→b<w.heap.size→A' b):FnW w A' g vs:=by
 obtain⟨ao,c,es,e,h1,h2⟩:=h
 exact⟨ao,c,es,e,h1.imp hk,h2.imp hk⟩
theorem FnW.len {w:World} {A:Nat→Prop} {g:Fn1} {vs:List Value} (h:FnW w A g vs):vs.length=11:=by
 obtain⟨ao,c,es,rfl,h1,h2⟩:=h
 simp[h2.len]
theorem FnW.one {w:World} {A:Nat→Prop} {g:Fn1} {vs:List Value} (h:FnW w A g vs):∀ v∈vs,v.oneCell'=true:=by
 obtain⟨ao,c,es,rfl,h1,h2⟩:=h
 intro v hv
 simp only[List.mem_cons,List.mem_append,List.not_mem_nil,or_false] at hv
 rcases hv with rfl|rfl|rfl|hv|rfl
 ·rfl
 ·rfl
 ·rfl
 ·exact h2.one v hv
 ·rfl
inductive FsW (w:World) (A:Nat→Prop):List Fn1→List Value→Prop
 |nil:FsW w A [] []
 |cons {x:Fn1} {vs:List Value} {xs:List Fn1} {cs:List Value}:FnW w A x vs→FsW w A xs cs→FsW w A (x::xs) (vs++cs)
theorem FsW.snoc {w:World} {A:Nat→Prop} {x:Fn1} {vs:List Value} (hx:FnW w A x vs):∀ {xs:List Fn1} {cs:List Value},FsW w A xs cs→FsW w A (xs++[x]) (cs++vs)
 |_,_,.nil=>by
  have:=FsW.cons hx FsW.nil
  simpa using this
 |_,_,.cons h hs=>by
  rw[List.append_assoc]
  exact .cons h (hs.snoc hx)
theorem FsW.keep {w w':World} {A:Nat→Prop} (hs:w.heap.size≤w'.heap.size) (hb:∀ b,A b→b<w.heap.size→w'.heap[b]?=w.heap[b]?):∀ {xs:List Fn1} {cs:List Value},FsW w A xs cs→FsW w' A xs cs
 |_,_,.nil=>.nil
 |_,_,.cons h h2=>.cons (h.keep hs hb) (h2.keep hs hb)
theorem FsW.imp {w:World} {A A':Nat→Prop} (hb:∀ b,A b→b<w.heap.size→A' b):∀ {xs:List Fn1} {cs:List Value},FsW w A xs cs→FsW w A' xs cs
 |_,_,.nil=>.nil
 |_,_,.cons h hs=>.cons (h.imp hb) (hs.imp hb)
structure FRow (w:World) (B:Nat) (v:Value) (gs:List Fn1):Prop where
 cs:∃ cs,w.ownsRow B 60 11 v gs.length cs∧FsW w (fun b=>B≤b∧v.ownBlock≠some b) gs cs
def FlW (w:World) (A:Nat→Prop) (ao:Option Addr) (gs:List Fn1):Prop:=gs=[]∨∃ g cs,ao=some ⟨g,0,none⟩∧A g∧g<w.heap.size∧w.rangeAt g 0 cs∧FsW w A gs cs
theorem FRow.keep {w w':World} {B:Nat} {v:Value} {gs:List Fn1} (h:FRow w B v gs) (hs:w.heap.size≤w'.heap.size) (hk:∀ b,B≤b→b<w.heap.size→w'.heap[b]?=w.heap[b]?):FRow w' B v gs:=by
 obtain⟨cs,h1,h2⟩:=h
 exact⟨cs,bu h1 fun b hb=>hk b (aN h1 b hb).1 (aN h1 b hb).2,h2.keep hs fun b hb hl=>hk b hb.1 hl⟩
theorem FRow.up {w w':World} {B:Nat} {v:Value} {gs:List Fn1} (h:FRow w B v gs) (hb:Below w.heap.size w w'):FRow w' B v gs:=h.keep hb.size fun b _ hl=>hb.block b hl
theorem FRow.but {w w':World} {B R:Nat} {v:Value} {gs:List Fn1} (h:FRow w B v gs) (hU:But R w w') (hR:R<B):FRow w' B v gs:=h.keep hU.size fun b hb hl=>hU.block b hl (by omega)
theorem FRow.read {w:World} {B:Nat} {v:Value} {gs:List Fn1} (h:FRow w B v gs):∃ ao c,v=.slice ao gs.length c∧FlW w (fun b=>B≤b) ao gs∧gs.length≤c:=by
 obtain⟨cs,h1,h2⟩:=h
 rcases h1.2 with⟨rfl,h0⟩|⟨g,cap,cur,rfl,h3,h4,hnc,_,h5,h6⟩
 ·exact⟨none,0,by rw[h0],.inl (List.length_eq_zero_iff.1 h0),by omega⟩
 ·refine⟨some ⟨g,0,none⟩,cap,rfl,.inr ⟨g,cs,rfl,h3,(aN h1 g rfl).2,fun j u hu=>?_,h2.imp fun b hb _=>hb.1⟩,hnc⟩
  rw[Nat.zero_add,cell_of_row w g j _ _ _ h4]
  have hj:=(List.getElem?_eq_some_iff.1 hu).1
  have hl:=h1.1
  have e:cur[j]?=(cur.toList.take (gs.length*11))[j]?:=by rw[List.getElem?_take,if_pos (by omega)];simp
  rw[e,h6,hu]
theorem iw {vs:List Value} (h:vs.length=11):∃ a b c d e f g i j k l,vs=[a,b,c,d,e,f,g,i,j,k,l]:=by
 match vs,h with
 |[a,b,c,d,e,f,g,i,j,k,l],_=>exact⟨a,b,c,d,e,f,g,i,j,k,l,rfl⟩
theorem FRow.app {w:World} {B:Nat} {v:Value} {gs:List Fn1} {g:Fn1} {x0 x1 x2 x3 x4 x5 x6 x7 x8 x9 x10:Value} (h:FRow w B v gs) (hB:B≤w.heap.size) (hx:FnW w (fun b=>B≤b∧v.ownBlock≠some b) g [x0,x1,x2,x3,x4,x5,x6,x7,x8,x9,x10]) (hl:gs.length≤10000000) :
  ∃ v' w',(Builtin.append_ #[24,24] 24 #[v,.slice (some ⟨w.heap.size,0,none⟩) 1 1]).run Tryz.prog (w.alloc (.cells #[x0,x1,x2,x3,x4,x5,x6,x7,x8,x9,x10] 60))=.ok v' w'∧FRow w' B v' (gs++[g])∧Below B w w':=by
 obtain⟨i0,hi,hz0,hz1,hz2⟩:=info_parts Tryz.infoFs
 have hh:=h.up (ae w (.cells #[x0,x1,x2,x3,x4,x5,x6,x7,x8,x9,x10] 60))
 obtain⟨cs,ho,hls⟩:=hh
 obtain⟨cs0,ho0,hls0⟩:=h
 have hlow0:=aN ho0
 have hk:=Bk.new w 60 #[x0,x1,x2,x3,x4,x5,x6,x7,x8,x9,x10]
 have hnews:∀ j u,[x0,x1,x2,x3,x4,x5,x6,x7,x8,x9,x10][j]?=some u→(w.alloc (.cells #[x0,x1,x2,x3,x4,x5,x6,x7,x8,x9,x10] 60)).cell? ((⟨w.heap.size,0,none⟩:Addr).add j)=some u:=by
  intro j u hj
  rw[Addr.add_mid,Nat.zero_add,hk.cell]
  exact hj
 have hBs:B≤(w.alloc (.cells #[x0,x1,x2,x3,x4,x5,x6,x7,x8,x9,x10] 60)).heap.size:=by simp;omega
 obtain⟨v',w',hr,ho',hgr,hfr⟩:=dD Tryz.underFs hi hz0 hz1 hz2 rfl (by decide) ho ⟨w.heap.size,0,none⟩ [x0,x1,x2,x3,x4,x5,x6,x7,x8,x9,x10] rfl hnews hx.one hl (by decide) hBs
 have hfr2:∀ b,v'.ownBlock=some b→v.ownBlock=some b∨w.heap.size<b:=fun b hb=>(hfr b hb).imp id (by simp;omega)
 have hg2:w.grownBy w' v.ownBlock:=⟨hgr.os,hgr.tape,hgr.output,Nat.le_trans (by simp) hgr.size,fun b hb hn=>by rw[hgr.block b (by simp;omega) hn,Below.heap_alloc _ _ _ hb]⟩
 refine⟨v',w',hr,⟨cs++[x0,x1,x2,x3,x4,x5,x6,x7,x8,x9,x10],by simpa using ho',?_⟩,(Below.refl B w).grown hg2 hB fun k hk=>(hlow0 k hk).1⟩
 have e:cs=cs0:=ownsRow_cells ho0 ho fun b hb=>Below.heap_alloc _ _ _ (hlow0 b hb).2
 rw[e]
 have h5:=(hls0.snoc hx).imp (A':=fun b=>(B≤b∧v'.ownBlock≠some b)∧v.ownBlock≠some b) fun b hb hl=>⟨⟨hb.1,fun e=>(hfr2 b e).elim hb.2 (by omega)⟩,hb.2⟩
 exact (h5.keep (w':=w') hg2.size fun b hb hl=>hg2.block b hl (fun e=>hb.2 e.symm)).imp fun b hb _=>hb.1
theorem FlW.imp {w:World} {A A':Nat→Prop} {ao:Option Addr} {gs:List Fn1} (h:FlW w A ao gs) (hk:∀ b,A b→b<w.heap.size→A' b):FlW w A' ao gs:=by
 rcases h with h|⟨g,cs,e,ha,hl,hr,hf⟩
 ·exact .inl h
 ·exact .inr ⟨g,cs,e,hk g ha hl,hl,hr,hf.imp hk⟩
theorem Tryz.infoPr:(Tryz.prog.info? 26).map (·.size)=some 1:=by kernel_rfl
theorem ol {M:Nat→Mk} {L:Lm} {f n k:Nat} {g:Fn1} {j:Nat} (h:defP M L f n k=.ok g j):k+1≤j:=by
 unfold defP at h
 obtain⟨x,k1,h1,h⟩:=ak.1 h
 obtain⟨ps,k2,h2,h⟩:=ak.1 h
 obtain⟨_,k3,h3,h⟩:=ak.1 h
 obtain⟨t,k4,h4,h⟩:=ak.1 h
 obtain⟨_,k5,h5,h⟩:=ak.1 h
 obtain⟨b,k6,h6,h⟩:=ak.1 h
 obtain⟨_,k7,h7,h⟩:=ak.1 h
 cases h
 have a1:k1=k+1:=by
  unfold au aJ at h1
  split at h1
  ·cases h1
  ·split at h1
   ·cases h1;rfl
   ·cases h1
 have a2:k1≤k2:=by have:=kJ M L f k1;rw[h2] at this;exact this
 have a3:k2≤k3:=by have:=bV M [58] k2;rw[h3] at this;exact this
 have a4:k3≤k4:=by have:=dJ M k3;rw[h4] at this;exact this
 have a5:k4≤k5:=by have:=bV M [61] k4;rw[h5] at this;exact this
 have a6:k5≤k6:=by have:=(lh M L f).exprP 0 k5;rw[h6] at this;exact this
 have a7:k6≤j:=by have:=bV M [59] k6;rw[h7] at this;exact this
 omega
structure TwO (p q:Nat) (w w':World):Prop where
 os:w'.os=w.os
 tape:w'.tape=w.tape
 output:w'.output=w.output
 size:w'.heap.size=w.heap.size
 block:∀ b,b≠p→b≠q→w'.heap[b]?=w.heap[b]?
theorem TwO.refl (p q:Nat) (w:World):TwO p q w w:=⟨rfl,rfl,rfl,rfl,fun _ _ _=>rfl⟩
theorem TwO.setP {p q:Nat} {a b:World} (h:TwO p q a b) (j:Nat) (v:Value):TwO p q a (b.setCell ⟨p,j,none⟩ v):=
 ⟨h.os,h.tape,h.output,by simpa [World.setCell] using h.size,fun i hi hn=>by rw[Below.heap_setCell _ _ _ _ hi];exact h.block i hi hn⟩
theorem TwO.setQ {p q:Nat} {a b:World} (h:TwO p q a b) (j:Nat) (v:Value):TwO p q a (b.setCell ⟨q,j,none⟩ v):=
 ⟨h.os,h.tape,h.output,by simpa [World.setCell] using h.size,fun i hi hn=>by rw[Below.heap_setCell _ _ _ _ hn];exact h.block i hi hn⟩
theorem TwO.drew {p q:Nat} {a b:World} (h:TwO p q a b):TwO p q a b.drew:=⟨h.os,h.tape,h.output,h.size,h.block⟩
theorem Bk.out {w:World} {b g j:Nat} {t:TypeId} {vs:List Value} {v:Value} (h:Bk w b t vs) (hn:b≠g):Bk (w.setCell ⟨g,j,none⟩ v) b t vs:=h.oth ((Oth.refl g w).set j v) hn
def cT (t:Int):Int:=min (max t 0) 32768
def dU (y a:Int):Value:=.tuple #[.agg #[.slice none 0 0],.agg #[.int .i64 y,.int .i64 a]]
theorem FlW.keep {w w':World} {A:Nat→Prop} {ao:Option Addr} {gs:List Fn1} (h:FlW w A ao gs) (hs:w.heap.size≤w'.heap.size) (hk:∀ b,A b→b<w.heap.size→w'.heap[b]?=w.heap[b]?):FlW w' A ao gs:=by
 rcases h with h|⟨g,cs,e,ha,hl,hr,hf⟩
 ·exact .inl h
 ·refine .inr ⟨g,cs,e,ha,by omega,fun j v hv=>?_,hf.keep hs hk⟩
  rw[show w'.cell? ⟨g,0+j,none⟩=w.cell? ⟨g,0+j,none⟩ from World.cell?_of_block (w:=w) (hk g ha hl)]
  exact hr j v hv
theorem TwO.below {p q B:Nat} {a b:World} (h:TwO p q a b) (hp:B≤p) (hq:B≤q):Below B a b:=⟨h.os,h.tape,h.output,Nat.le_of_eq h.size.symm,fun k hk=>h.block k (by omega) (by omega)⟩
def paV (l:List UInt8) (lt lf la ln:Int) (f:Nat) (B:Nat) (e:Ending) (w':World):Prop:=
 if cT lt<l.length then e=.returned (dU 22 (cT lt)) else
 match cut rdN l 0 with
 |.bad k=>e=.returned (dU 20 k)
 |.ok ms=>match aQ (mf ms) ⟨max lf 0,max la 0,max ln 0⟩ f [] 0 with
  |.ok gs _=>∃ ao c,e=.returned (.tuple #[.agg #[.slice ao gs.length c],.agg #[.int .i64 0,.int .i64 0]])∧FlW w' (fun b=>B≤b) ao gs∧gs.length≤c
  |.bad y k=>e=.returned (dU y (mf ms k).at_)
  |.out=>True
theorem Tryz.underL:Tryz.prog.underlying 65=some (.struct (Tryz.prog.underlying 65 |>.map (fun|.struct f=>f|_=>#[]) |>.getD #[])):=by kernel_rfl
theorem Tryz.infoL:(Tryz.prog.info? 65).map (·.size)=some 4:=by kernel_rfl
def gA:Fn1:=⟨[102],[⟨[120],1,2⟩],1,.mk 8 [] [] 0 0 0 [.mk 6 [120] [] 0 0 0 [] 9,.mk 1 [] [] 0 1 0 [] 11] 10,0⟩
theorem fuel_ok (l:List UInt8) (L:Lm) (f:Nat) (hf:12*(l.length+1)+9≤f) (ms:List Mk) (hc:cut rdN l 0=.ok ms):aQ (mf ms) L f [] 0≠.out:=by
 have hr:=jf rdN _ _ _ hc
 have hfew:=kM _ _ _ hc
 have hg:=oH (mf ms) L hr.ends f [] 0 hr.pos (by omega)
 intro e
 rw[e] at hg
 exact hg
theorem Bd.take {w:World} {b o:Nat} {l:List UInt8} (h:Bd w (some ⟨b,o,none⟩) l) (n:Nat):Bd w (some ⟨b,o,none⟩) (l.take n):=by
 refine⟨fun hne=>?_⟩
 have hl:l≠[]:=by intro e;subst e;simp at hne
 obtain⟨b',o',e,hc⟩:=h.pl hl
 refine⟨b',o',e,fun t ht=>?_⟩
 rw[List.length_take] at ht
 rw[hc t (by omega)]
 simp[List.getD_eq_getElem?_getD,List.getElem?_take]
 rw[if_pos (by omega)]
end Go.Proofs.YtimoappbefindaaGreat
