/-
  The walk of unbind: a range over slices.Backward.
-/
import Derived.Test.YtkbglnhdbnijlaaUn
import Derived.Maps.OwnIn
namespace Go.Proofs.Ytkbglnhdbnijlaa
open Go.RowKit Go.Shelf Go.Maps
set_option maxRecDepth 100000
attribute [local go_sem] Oper.semAt_some
def unbL (ps:List Pm) (bt:Nat→Int) (pre:List (Fin ps.length)) (tf:List UInt8→Int):List UInt8→Int:=pre.foldl (fun tf x=>setT tf (pmAt ps x).name (bt x.1)) tf
theorem unbL_snoc (ps:List Pm) (bt:Nat→Int) (pre:List (Fin ps.length)) (x:Fin ps.length) (tf:List UInt8→Int):unbL ps bt (pre++[x]) tf=setT (unbL ps bt pre tf) (pmAt ps x).name (bt x.1):=by
 unfold unbL
 rw[List.foldl_append]
 rfl
theorem putObj_other (W:World) (l k:Nat) (o:Obj) (h:k≠l):(W.putObj l o).heap[k]?=W.heap[k]?:=by
 unfold World.putObj
 simp[Ne.symm h]
section
variable {F:Fence} {nF:Nat} {P:Program} {w:World} {ops:Array Oper} {rest:List Oper} {o:Oper} {a:Act} {Q:Exit→Act→World→Prop} {k e t:TypeId} {b n:Nat} {f:List UInt8→Option Value}
end
set_option maxHeartbeats 4000000 in
theorem unbind_in (F:Fence) (n:Nat) (h55:F.fn 55) (h75:F.fn 75) (h85:F.fn 85) (hro:F.round=none) (hn:3≤n) {w:World} {b nb:Nat} {tf:List UInt8→Int} (hT:Tn w b nb tf) {A:Nat→Prop} {ao:Option Addr} {cap:Nat} {ps:List Pm} (hP:PlW w A ao ps) (hA:∀ k,A k→k<w.heap.size∧k≠b)
  {gb cb:Nat} {vs:List Value} {bt:Nat→Int} (hV:Bk w gb 35 vs) (hgb:gb≠b) (hbt:∀ j,j<ps.length→vs[j]?=some (.int .i64 (bt j))) (hln:∀ p∈ps,p.name.length≤140737488355328) (hl:ps.length≤65536) (hnb:nb≤17592186044416) :
  CallsIn F n Try.prog 55 #[.map (some b),.slice ao ps.length cap,.slice (some ⟨gb,0,none⟩) ps.length cb] w fun e w'=>e=.returned (.tuple #[])∧Tn w' b (nb+ps.length) (unbL ps bt (dn ps.length ps.length) tf)∧ButS (·=b) w w':=by
 have h1:1≤n:=by omega
 refine callsIn_of_wp_marks Try.func55 rfl h55 ?_ hro
 simp only[Try.ntmps55,List.size_toArray,List.length_cons,List.length_nil,Nat.reduceAdd,Nat.reduceSub,Array.replicate_succ,Array.replicate_zero,List.push_toArray,List.append_toArray,List.nil_append,List.cons_append]
 gi_wp2_with (gi_at_call 75;refine (back_in F (n-1) h75 hro _ _ _ _).mono ?_;rintro e w' ⟨rfl,rfl⟩)
 have hN:=((Bk.new w 62 #[.map (some b)]).alloc (.cells #[.slice (some ⟨gb,0,none⟩) ps.length cb] 86)).alloc (.cells #[.slice ao ps.length cap] 34)
 have hB:=(Bk.newAt (w:=w.alloc (.cells #[.map (some b)] 62)) (n:=w.heap.size+1) 86 #[.slice (some ⟨gb,0,none⟩) ps.length cb] (by simp)).alloc (.cells #[.slice ao ps.length cap] 34)
 have hS:=Bk.newAt (w:=(w.alloc (.cells #[.map (some b)] 62)).alloc (.cells #[.slice (some ⟨gb,0,none⟩) ps.length cb] 86)) (n:=w.heap.size+1+1) 34 #[.slice ao ps.length cap] (by simp)
 have hb0:Below w.heap.size w (((w.alloc (.cells #[.map (some b)] 62)).alloc (.cells #[.slice (some ⟨gb,0,none⟩) ps.length cb] 86)).alloc (.cells #[.slice ao ps.length cap] 34)):=(((Below.refl _ w).alloc (Nat.le_refl _) _).alloc (by simp) _).alloc (by simp;omega) _
 have hsz:(((w.alloc (.cells #[.map (some b)] 62)).alloc (.cells #[.slice (some ⟨gb,0,none⟩) ps.length cb] 86)).alloc (.cells #[.slice ao ps.length cap] 34)).heap.size=w.heap.size+3:=by simp
 have hbw:b<w.heap.size:=hT.lt
 have hgw:gb<w.heap.size:=hV.lt
 obtain⟨W0,hW0⟩:∃ W0,W0=(((w.alloc (.cells #[.map (some b)] 62)).alloc (.cells #[.slice (some ⟨gb,0,none⟩) ps.length cb] 86)).alloc (.cells #[.slice ao ps.length cap] 34)):=⟨_,rfl⟩
 rw[← hW0] at hN hB hS hb0 hsz ⊢
 clear hW0
 have hT0:=hT.up hb0
 have hP0:=hP.up hb0
 have hV0:=hV.up hb0
 have hAo:∀ g off,0<ps.length→ao=some ⟨g,off,none⟩→g<w.heap.size∧g≠b:=fun g off l0 e=>by
  rcases hP with rfl|⟨g',e',ha,_⟩
  ·exact absurd l0 (by simp)
  ·rw[e] at e';cases e';exact hA _ ha
 have hKa:∀ W W',W0.heap.size≤W.heap.size→ButS (·=b) W W'→KpB (w.heap.size+1+1) ao ps.length W W':=fun W W' hs hu=>
  ⟨hu.block _ (by omega) (by omega),fun g off l0 e=>hu.block _ (by have:=hAo g off l0 e;omega) (hAo g off l0 e).2⟩
 refine wpIn_rangeFunc_ownH hro h1 (gf:=85) (lb:=#[.pointer (some ⟨w.heap.size+1+1,0,none⟩)]) rfl h85 (enters_of Try.func85 (by kernel_rfl) rfl)
  (back_stops F (n-1) h85 hro (by omega) (w.heap.size+1+1) ao cap ps A hl W0 hS hP0) KpB.trans
  (fun W l o o' hl _ _ _=>⟨putObj_other W l _ o' (by omega),fun g off l0 e=>putObj_other W l _ o' (by have:=hAo g off l0 e;omega)⟩)
  (Below.refl _ _) (fun _=>rfl)
  (fun pre W=>Tn W b (nb+pre.length) (unbL ps bt pre tf)∧ButS (·=b) W0 W)
  (fun _ _ _=>False)
  (fun pre W W' row hs hg hr=>⟨hs.1.but (S:=fun k=>W0.heap.size≤k) ⟨hg.os,hg.tape,hg.output,hg.size,fun k hk hn=>hg.block k hk fun e=>hn (hr k e.symm).1⟩ (by omega),⟨hg.os.trans hs.2.os,hg.tape.trans hs.2.tape,hg.output.trans hs.2.output,Nat.le_trans hs.2.size hg.size,fun k hk hn=>(hg.block k (Nat.lt_of_lt_of_le hk hs.2.size) (fun e=>by have:=(hr k e.symm).1;omega)).trans (hs.2.block k hk hn)⟩⟩)
  (fun _ _ _ _ _ hs _ _=>hs)
  ⟨hT0,.refl _ _⟩
  (fun x a' W=>∃ Bx,W0.heap.size≤Bx∧Bk W Bx 47 [.string (bs (pmAt ps x).name),.int .i64 (pmAt ps x).ty,.int .i64 (pmAt ps x).pos]∧a'={ tmps:=#[.map (some b),.slice ao ps.length cap,.slice (some ⟨gb,0,none⟩) ps.length cb,.pointer (some ⟨w.heap.size,0,none⟩),undef,.pointer (some ⟨w.heap.size+1,0,none⟩),.int .i64 (x.1:Int),.pointer (some ⟨Bx,0,none⟩),.slice ao ps.length cap,.func (.func 85) #[] #[.pointer (some ⟨w.heap.size+1+1,0,none⟩)],.int .i64 (x.1:Int),.agg #[.string (bs (pmAt ps x).name),.int .i64 (pmAt ps x).ty,.int .i64 (pmAt ps x).pos],undef,undef,undef,undef,undef,undef,undef],defers:=[] })
  (fun x a' _ X Y row hs hg hr=>by
   obtain⟨Bx,h1,h2,h3⟩:=hs
   refine⟨Bx,h1,(hg.block Bx h2.lt fun e=>?_).trans h2,h3⟩
   obtain⟨_,o,ho,hc⟩:=hr Bx e.symm
   rw[show X.heap[Bx]?=_ from h2] at ho
   cases ho
   cases hc)
  ?assign ?body ?done ?stop
 case assign=>
  rintro l pre x W K ⟨hT1,hU1⟩ hK
  simp only[encP]
  gi_wp2
  have hbl:=below_alloc W (.cells #[.string (bs (pmAt ps x).name),.int .i64 (pmAt ps x).ty,.int .i64 (pmAt ps x).pos] 47)
  exact hK _ _ ((KeepsOthers.alloc _ _).from _) (hKa _ _ hU1.size (.below hbl)) ⟨hT1.up hbl,hU1.trans (.below hbl)⟩ ⟨W.heap.size,hU1.size,Bk.new W _ _,rfl⟩
 case body=>
  rintro l pre x a' W hwl hr ⟨hT1,hU1⟩ ⟨Bx,hBx,hX,rfl⟩ hlen
  have hN1:=hU1.bk hN (by omega)
  have hB1:=hU1.bk hB (by omega)
  have hV1:=hU1.bk hV0 hgb
  have c0:W.cell? ⟨w.heap.size,0,none⟩=some (.map (some b)):=hN1.cell 0
  have c1:W.cell? ⟨w.heap.size+1,0,none⟩=some (.slice (some ⟨gb,0,none⟩) ps.length cb):=hB1.cell 0
  have c2:W.cell? ⟨gb,x.1,none⟩=some (.int .i64 (bt x.1)):=(hV1.cell x.1).trans (hbt x.1 x.2)
  have c3:W.cell? ⟨Bx,0,none⟩=some (.string (bs (pmAt ps x).name)):=hX.cell 0
  have hml:(pmAt ps x).name.length≤maxLen:=by
   have:=hln (pmAt ps x) (by unfold pmAt;rw[List.getD_eq_getElem?_getD,List.getElem?_eq_getElem x.2];exact List.getElem_mem _)
   unfold maxLen;omega
  have hx2:=x.2
  obtain⟨f,hM,hf⟩:=hT1
  have hMd:MapW Try.prog 9 W.drew b (nb+pre.length) f:=hM.block rfl
  obtain⟨w6,hrun,hM6,hg6⟩:=hMd.put Try.underlying9 Try.undTn (by unfold maxLen;omega) hml (.int .i64 (bt x.1))
  have hmx:Try.prog.follows .mixedOrders=true:=by kernel_rfl
  have hT6:Tn w6 b (nb+(pre++[x]).length) (unbL ps bt (pre++[x]) tf):=by
   rw[unbL_snoc,List.length_append]
   refine⟨_,hM6,fun r=>?_⟩
   unfold putF setT
   by_cases e:r=(pmAt ps x).name
   ·rw[if_pos e,if_pos e];rfl
   ·rw[if_neg e,if_neg e];exact hf r
  have hU6:ButS (·=b) W w6:=⟨hg6.os,hg6.tape,hg6.output,hg6.size,fun k hk hn=>hg6.block k hk fun e=>hn (Option.some.inj e)⟩
  have HX:Hid (KeepsFrom W0.heap.size W w6∧KpB (w.heap.size+1+1) ao ps.length W w6∧Tn w6 b (nb+(pre++[x]).length) (unbL ps bt (pre++[x]) tf)∧ButS (·=b) W0 w6):=
   ⟨⟨hU6.size,fun k o hk ho _=>(hU6.block k (Array.getElem?_eq_some_iff.1 ho).1 (by omega)).trans ho⟩,hKa _ _ hU1.size hU6,hT6,hU1.trans hU6⟩
  clear hM6 hg6 hMd hT6 hU6 hKa hAo hS hB hN hT0 hP0 hV0 hV1 hN1 hB1 hX hM hf
  gi_wp2
  gi_region_with_o (fail)
  all_goals first|exact HX.out|(gi_wp2;exact HX.out)
 case done=>
  rintro D xs W hD rfl ⟨hT1,hU1⟩ hK
  gi_wp2
  refine⟨by simp,.inl ⟨_,_,rfl,run_takeDeferred hK,?_⟩⟩
  have hU2:ButS (·=D) W (W.putObj D (.deferred none)):=⟨rfl,rfl,rfl,by simp[World.putObj],fun k _ hn=>putObj_other W D k _ hn⟩
  rw[dn_len _ _ (Nat.le_refl _)] at hT1
  exact⟨_,results_none rfl _ _ _,rfl,hT1.but hU2 (by omega),hU2.os.trans (hU1.os.trans hb0.os),hU2.tape.trans (hU1.tape.trans hb0.tape),hU2.output.trans (hU1.output.trans hb0.output),Nat.le_trans hb0.size (Nat.le_trans hU1.size hU2.size),fun k hk hn=>(hU2.block k (Nat.lt_of_lt_of_le hk (Nat.le_trans hb0.size hU1.size)) (by omega)).trans ((hU1.block k (by omega) hn).trans (hb0.block k hk))⟩
 case stop=>
  rintro D c pre W _ _ h _
  exact h.elim
end Go.Proofs.Ytkbglnhdbnijlaa
