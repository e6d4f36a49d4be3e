/-
  1 texts in one: what each proves stands at its head.
-/
import Derived.Test.YtimoappbefindaaGreatUkc
import Derived.Sort.Walk0
import Derived.BigQuiet
namespace Go.Proofs.YtimoappbefindaaGreat
open Go.RowKit Go.Maps
set_option maxRecDepth 100000
theorem OwN.set {w:World} {B:Nat} {v:Value} {xs:List (List UInt8)} (h:OwN w B v xs) {j:Nat} (hj:j<xs.length) (s:List UInt8) :
  ∃ g c,v=.slice (some ⟨g,0,none⟩) xs.length c∧B≤g∧g<w.heap.size∧w.frozen? ⟨g,j,none⟩=false∧w.cell? ⟨g,j,none⟩=some (.string (bs (xs.getD j [])))∧OwN (w.setCell ⟨g,j,none⟩ (.string (bs s))) B v (xs.set j s)∧Oth g w (w.setCell ⟨g,j,none⟩ (.string (bs s))):=by
 rcases h.2 with⟨_,h0⟩|⟨g,c,cur,rfl,hb,hg,h1,h2,h3,h4⟩
 ·omega
 ·have hB:Bk w g 9 cur.toList:=by unfold Bk;rw[Array.toArray_toList];exact hg
  have hc:=hB.cell j
  have h5:(cur.toList.take (xs.length*1))[j]?=some (.string (bs (xs.getD j []))):=by
   rw[h4,List.getElem?_map,List.getElem?_eq_getElem hj,List.getD_eq_getElem?_getD,List.getElem?_eq_getElem hj]
   rfl
  rw[List.getElem?_take_of_lt (by omega)] at h5
  refine⟨g,c,rfl,hb,hB.lt,hB.frz j,hc.trans h5,⟨by simp,.inr ⟨g,c,(cur.toList.set j (.string (bs s))).toArray,by rw[List.length_set],hb,hB.set j _,by rw[List.length_set];exact h1,h2,by simp;omega,?_⟩⟩,(Oth.refl g w).set j _⟩
  rw[List.length_set,List.toList_toArray,List.take_set,h4,List.map_set]
def rowq (o:List (List UInt8)) (q:Nat) (h:List UInt8):List (List UInt8):=o.take q++h::o.drop q
theorem dQ (o:List (List UInt8)) (q:Nat) (h:List UInt8) (hq:q≤o.length):(rowq o q h).length=o.length+1:=by
 unfold rowq
 rw[List.length_append,List.length_cons,List.length_take,List.length_drop]
 omega
theorem rowq_end (o:List (List UInt8)) (s:List UInt8):o++[s]=rowq o o.length s:=by unfold rowq;rw[List.take_length,List.drop_length]
theorem rowq_ahead (o:List (List UInt8)) (q j:Nat) (h:List UInt8) (hq:q≤o.length) (hj:j<q):(rowq o q h).getD j []=o.getD j []:=by
 unfold rowq
 rw[List.getD_eq_getElem?_getD,List.getD_eq_getElem?_getD,List.getElem?_append_left (by rw[List.length_take];omega),List.getElem?_take_of_lt hj]
theorem kZ (o:List (List UInt8)) (q:Nat) (h s:List UInt8) (hq:q≤o.length):(rowq o q h).set q s=rowq o q s:=by
 unfold rowq
 have e:(o.take q).length=q:=by rw[List.length_take];omega
 rw[List.set_append_right _ _ (by omega),e,Nat.sub_self,List.set_cons_zero]
theorem rowq_step (o:List (List UInt8)) (q:Nat) (hq:q+1≤o.length):rowq o (q+1) (o.getD q [])=rowq o q (o.getD q []):=by
 unfold rowq
 have h1:o[q]?=some (o.getD q []):=by rw[List.getD_eq_getElem?_getD,List.getElem?_eq_getElem (by omega)];rfl
 have h2:o.drop q=o.getD q []::o.drop (q+1):=by
  rw[List.drop_eq_getElem_cons (by omega:q<o.length)]
  congr 1
  rw[List.getD_eq_getElem?_getD,List.getElem?_eq_getElem (by omega)]
  rfl
 rw[List.take_add_one,h1,h2,List.append_assoc]
 rfl
theorem rowq_srt {L o:List (List UInt8)} {s:List UInt8} {q:Nat} (h:fB L o) (hq:q≤o.length) (h1:q=0∨o.getD (q-1) []<s) (h2:∀ j,q≤j→j<o.length→s<o.getD j []):fB (L++[s]) (rowq o q s):=by
 have hd:∀ x∈o.drop q,s<x:=fun x hx=>by
  obtain⟨i,hi,rfl⟩:=List.mem_iff_getElem.1 hx
  rw[List.length_drop] at hi
  have:=h2 (q+i) (by omega) (by omega)
  rw[List.getD_eq_getElem?_getD,List.getElem?_eq_getElem (by omega)] at this
  rw[List.getElem_drop]
  exact this
 have hsplit:(o.take q++o.drop q).Pairwise (·<·):=by rw[List.take_append_drop];exact h.1
 obtain⟨p1,p2,p3⟩:=List.pairwise_append.1 hsplit
 have ht:∀ x∈o.take q,x<s:=fun x hx=>by
  rcases h1 with h1|h1
  ·subst h1;simp at hx
  ·obtain⟨i,hi,rfl⟩:=List.mem_iff_getElem.1 hx
   rw[List.length_take] at hi
   rw[List.getElem_take]
   have hq1:q-1<o.length:=by omega
   rw[List.getD_eq_getElem?_getD,List.getElem?_eq_getElem hq1] at h1
   by_cases e:i=q-1
   ·subst e;exact h1
   ·exact List.lt_trans (List.pairwise_iff_getElem.1 h.1 i (q-1) (by omega) hq1 (by omega)) h1
 refine⟨?_,fun x=>?_⟩
 ·unfold rowq
  refine List.pairwise_append.2 ⟨p1,List.pairwise_cons.2 ⟨hd,p2⟩,fun a ha b hb=>?_⟩
  rcases List.mem_cons.1 hb with rfl|hb
  ·exact ht a ha
  ·exact p3 a ha b hb
 ·unfold rowq
  rw[List.mem_append,List.mem_cons,List.mem_append,List.mem_singleton,← h.2 x]
  have:x∈o↔x∈o.take q∨x∈o.drop q:=by rw[← List.mem_append,List.take_append_drop]
  rw[this]
  constructor
  ·rintro (h|h|h)
   ·exact .inl (.inl h)
   ·exact .inr h
   ·exact .inl (.inr h)
  ·rintro ((h|h)|h)
   ·exact .inl h
   ·exact .inr (.inr h)
   ·exact .inr (.inl h)
theorem srt_dup {L o:List (List UInt8)} {s:List UInt8} (h:fB L o) (hs:s∈o):fB (L++[s]) o:=by
 refine⟨h.1,fun x=>?_⟩
 rw[List.mem_append,List.mem_singleton,h.2 x]
 constructor
 ·exact .inl
 ·rintro (k|rfl)
  ·exact k
  ·exact (h.2 x).1 hs
theorem rO {L o:List (List UInt8)} (h:fB L o):o.length≤L.length:=by
 have key:∀ (s t:List (List UInt8)),s.Nodup→(∀ x∈s,x∈t)→s.length≤t.length:=by
  intro s
  induction s with
  |nil=>exact fun _ _ _=>Nat.zero_le _
  |cons x s ih=>
   intro t hn hs
   have h0:=List.nodup_cons.1 hn
   have h1:=ih (t.erase x) h0.2 fun y hy=>(List.mem_erase_of_ne (fun e=>by subst e;exact h0.1 hy)).2 (hs y (List.mem_cons_of_mem _ hy))
   have hx:=hs x List.mem_cons_self
   rw[List.length_erase_of_mem hx] at h1
   have:=List.length_pos_of_mem hx
   simp only[List.length_cons]
   omega
 exact key o L h.nodup fun x hx=>(h.2 x).1 hx
theorem rQ (a b:List UInt8):(!(Op.bytesLess (bs a).toList (bs b).toList||(bs a).toList==(bs b).toList))=decide (b<a):=by
 rw[aG,aG,bytesLess_eq]
 by_cases h:a<b
 ·have:=List.lt_asymm h
  simp[h,this]
 ·by_cases e:a=b
  ·subst e;simp[List.lt_irrefl]
  ·have:b<a:=Decidable.byContradiction fun h'=>e (List.le_antisymm h' h)
   simp[h,e,this]
theorem lt_of_not {s t:List UInt8} (h:¬ s<t) (e:¬ t=s):t<s:=Decidable.byContradiction fun h'=>e (List.le_antisymm h h')
theorem OwN.put {w:World} {B g n c:Nat} {xs:List (List UInt8)} (h:OwN w B (.slice (some ⟨g,0,none⟩) n c) xs) {j:Nat} (hj:j<xs.length) (s:List UInt8) :
  w.frozen? ⟨g,j,none⟩=false∧w.cell? ⟨g,j,none⟩=some (.string (bs (xs.getD j [])))∧OwN (w.setCell ⟨g,j,none⟩ (.string (bs s))) B (.slice (some ⟨g,0,none⟩) n c) (xs.set j s)∧Below B w (w.setCell ⟨g,j,none⟩ (.string (bs s))):=by
 obtain⟨g',c',e,h1,h2,h3,h4,h5,h6⟩:=h.set hj s
 cases e
 exact⟨h3,h4,h5,h6.below h1⟩
theorem OwN.drewN {w:World} {B:Nat} {v:Value} {xs:List (List UInt8)} (h:OwN w B v xs) (q:Nat):OwN (w.drewN q) B v xs:=h.upp (below_drewN (Below.refl _ _) q)
set_option maxHeartbeats 8000000 in
theorem rsorted_any {w:World} {ao:Option Addr} {cap:Nat} {l:List (List UInt8)} (hN:Ns w ao l) (hl:l.length≤1099511627776) :
  Calls Tryz.prog 48 #[.slice ao l.length cap] w fun e w'=>(∃ v o,e=.returned v∧fB l o∧OwN w' w.heap.size v o)∧Below w.heap.size w w':=by
 have HN:Hid (Ns w ao l):=hN
 clear hN
 go_enter Tryz.func48,Tryz.ntmps48
 go_wp2_with fail
 go_loopw [3,4] (fun u v wr=>∃ k:Nat,k≤l.length∧v=.int .i64 k∧(∃ o,Hid (fB (l.take k) o)∧OwN wr w.heap.size u o)∧Below w.heap.size w wr) (fun _ v _=>l.length-(intOf v).toNat)
 case atStart=>exact⟨0,Nat.zero_le _,rfl,⟨[],by rw[List.take_zero];exact⟨List.Pairwise.nil,fun x=>Iff.rfl⟩,World.ownsRow_nil _ _ _ _⟩,Below.refl _ _⟩
 case round=>
  obtain⟨k,hkn,rfl,⟨o,hso,hO⟩,hB⟩:=hrel
  have hol:=rO hso.out
  rw[List.length_take] at hol
  by_cases hlt:k<l.length
  ·have hk:l[k]?=some (l[k]):=List.getElem?_eq_getElem hlt
   have htk:l.take (k+1)=l.take k++[l[k]]:=by rw[List.take_succ_eq_append_getElem hlt]
   obtain⟨s,hs⟩:∃ s,s=l[k]:=⟨_,rfl⟩
   rw[← hs] at hk htk
   obtain⟨g,off,rfl,c0⟩:=HN.out k s hk
   have hgw:=cu c0
   have c1:wr.cell? ⟨g,off+k,none⟩=some (.string (bs s)):=(hB.cell hgw).trans c0
   obtain⟨ar,cr,rfl,hNr,hcr,har⟩:=hO.names
   have HTK:Hid (l.take (k+1)=l.take k++[s]):=htk
   have HC:Hid (w.cell? ⟨g,off+k,none⟩=some (.string (bs s))):=c0
   have hh:=iA (cap:=cr) hNr (by omega) s
   have hBs:=hB.size
   clear hk htk hs hcr har c0
   go_wp2_with fail
   refine hh.mono ?_
   rintro e w2 ⟨rfl,rfl⟩
   clear hh hNr
   by_cases hin:s∈o
   ·rw[decide_eq_true hin]
    have HS:Hid (fB (l.take (k+1)) o):=by show fB _ _;rw[HTK.out];exact srt_dup hso.out hin
    clear hin
    go_wp2_with fail
    go_roundw
    case rel=>exact⟨k+1,by omega,by go_num,⟨o,HS,hO⟩,hB⟩
    case measure=>simp[intOf];omega
   ·rw[decide_eq_false hin]
    have HIN:Hid (s ∉ o):=hin
    clear hin
    have hb5:=ae w2 (.cells #[.string (bs s)] 9)
    obtain⟨v6,w6,R6,hO6,hb6⟩:=dX (w2.alloc (.cells #[.string (bs s)] 9)) w.heap.size _ o (hO.upp hb5) (by have:=hb5.size;omega) (some ⟨w2.heap.size,0,none⟩) 1 [s] (sD (Bk.new w2 9 #[.string (bs s)])) (fun e=>by cases e) (fun e=>by cases e) (by simp only[List.length_cons,List.length_nil];omega)
    have hB6:=(hB.trans (hb5.mono hBs)).trans hb6
    obtain⟨g6,c6,e6,hg6,_⟩:=OwN.set hO6 (j:=o.length) (by simp) s
    rw[show (o++[s]).length=o.length+1 by simp] at e6
    subst e6
    rw[rowq_end] at hO6
    clear hb5 hb6
    go_upto_region 8 with (at_builtin;refine wpList_append_run rfl (.tmp 20) (.tmp 25) 104 rfl rfl _ _ rfl rfl _ _ (show _=_ from R6) ?_)
    clear R6 hO c1
    have hol1:o.length<1099511627777:=by omega
    go_loopw [5] (fun v wr=>∃ (q:Nat) (h:List UInt8),q≤o.length∧v=.int .i64 q∧OwN wr w.heap.size (.slice (some ⟨g6,0,none⟩) (o.length+1) c6) (rowq o q h)∧Below w.heap.size w wr∧Hid (∀ j,q≤j→j<o.length→s<o.getD j [])) (fun v _=>(intOf v).toNat)
    case atStart=>exact⟨o.length,s,Nat.le_refl _,rfl,hO6,hB6,fun j h1 h2=>by omega⟩
    case round=>
     obtain⟨q,h,hq,rfl,hOq,hBq,hgt⟩:=hrel
     have c1:wr.cell? ⟨g,off+k,none⟩=some (.string (bs s)):=(hBq.cell hgw).trans HC.out
     have fin:(q=0∨o.getD (q-1) []<s)→Hid (fB (l.take (k+1)) (rowq o q s)):=fun h1=>by
      show fB _ _
      rw[HTK.out]
      exact rowq_srt hso.out hq h1 hgt.out
     rcases q with _|p
     ·have HF:=fin (.inl rfl)
      obtain⟨f1,f2,_,_⟩:=OwN.put hOq (j:=0) (by rw[dQ _ _ _ hq];omega) s
      have HX:Hid (∀ n,OwN ((wr.drewN n).setCell ⟨g6,0,none⟩ (.string (bs s))) w.heap.size (.slice (some ⟨g6,0,none⟩) (o.length+1) c6) (rowq o 0 s)∧Below w.heap.size w ((wr.drewN n).setCell ⟨g6,0,none⟩ (.string (bs s)))):=fun n=>by
       obtain⟨_,_,f3,f4⟩:=OwN.put (hOq.drewN n) (j:=0) (by rw[dQ _ _ _ hq];omega) s
       rw[kZ _ _ _ _ hq] at f3
       exact⟨f3,(below_drewN hBq n).trans f4⟩
      clear fin
      go_upto_region 8 with fail
      go_quiet (fail)
      go_wp2_with fail
      go_roundw
      case rel=>exact⟨k+1,by omega,by go_num,⟨_,HF,(HX.out _).1⟩,(HX.out _).2⟩
      case measure=>simp[intOf];omega
     ·have hpl:p<o.length:=by omega
      obtain⟨t,htd⟩:∃ t,t=o.getD p []:=⟨_,rfl⟩
      have c2:wr.cell? ⟨g6,p,none⟩=some (.string (bs t)):=by
       have:=(OwN.put hOq (j:=p) (by rw[dQ _ _ _ hq];omega) s).2.1
       rw[rowq_ahead _ _ _ _ hq (by omega),← htd] at this
       exact this
      by_cases hts:s<t
      ·have g1:(!(Op.bytesLess (bs t).toList (bs s).toList||(bs t).toList==(bs s).toList))=true:=by rw[rQ];exact decide_eq_true hts
       obtain⟨f1,f2,_,_⟩:=OwN.put hOq (j:=p+1) (by rw[dQ _ _ _ hq];omega) t
       have HX:Hid (∀ n,OwN ((wr.drewN n).setCell ⟨g6,p+1,none⟩ (.string (bs t))) w.heap.size (.slice (some ⟨g6,0,none⟩) (o.length+1) c6) (rowq o p t)∧Below w.heap.size w ((wr.drewN n).setCell ⟨g6,p+1,none⟩ (.string (bs t)))):=fun n=>by
        obtain⟨_,_,f3,f4⟩:=OwN.put (hOq.drewN n) (j:=p+1) (by rw[dQ _ _ _ hq];omega) t
        rw[kZ _ _ _ _ hq,htd,rowq_step _ _ (by omega),← htd] at f3
        exact⟨f3,(below_drewN hBq n).trans f4⟩
       have HG:Hid (∀ j,p≤j→j<o.length→s<o.getD j []):=fun j h1 h2=>by
        by_cases e:j=p
        ·subst e;rw[← htd];exact hts
        ·exact hgt.out j (by omega) h2
       clear fin htd
       go_upto_region 8 with fail
       go_quiet (fail)
       go_wp2_with fail
       go_roundw
       case rel=>exact⟨p,t,by omega,by go_num,(HX.out _).1,(HX.out _).2,HG⟩
       case measure=>simp[intOf]
      ·have g1:(!(Op.bytesLess (bs t).toList (bs s).toList||(bs t).toList==(bs s).toList))=false:=by rw[rQ];exact decide_eq_false hts
       have hne:¬ t=s:=fun e=>HIN.out (by rw[← e,htd,List.getD_eq_getElem?_getD,List.getElem?_eq_getElem hpl];exact List.getElem_mem hpl)
       have HF:=fin (.inr (by rw[Nat.add_sub_cancel,← htd];exact lt_of_not hts hne))
       obtain⟨f1,f2,_,_⟩:=OwN.put hOq (j:=p+1) (by rw[dQ _ _ _ hq];omega) s
       have HX:Hid (∀ n,OwN ((wr.drewN n).setCell ⟨g6,p+1,none⟩ (.string (bs s))) w.heap.size (.slice (some ⟨g6,0,none⟩) (o.length+1) c6) (rowq o (p+1) s)∧Below w.heap.size w ((wr.drewN n).setCell ⟨g6,p+1,none⟩ (.string (bs s)))):=fun n=>by
        obtain⟨_,_,f3,f4⟩:=OwN.put (hOq.drewN n) (j:=p+1) (by rw[dQ _ _ _ hq];omega) s
        rw[kZ _ _ _ _ hq] at f3
        exact⟨f3,(below_drewN hBq n).trans f4⟩
       clear fin htd
       go_upto_region 8 with fail
       go_quiet (fail)
       go_wp2_with fail
       go_roundw
       case rel=>exact⟨k+1,by omega,by go_num,⟨_,HF,(HX.out _).1⟩,(HX.out _).2⟩
       case measure=>simp[intOf];omega
  ·have hke:k=l.length:=by omega
   subst hke
   rw[List.take_length] at hso
   have HX:Hid (fB l o∧OwN wr w.heap.size u3 o∧Below w.heap.size w wr):=⟨hso.out,hO,hB⟩
   clear hso hO hB
   go_wp2_with fail
   go_ret
   exact⟨⟨_,_,rfl,HX.out.1,HX.out.2.1⟩,HX.out.2.2⟩
end Go.Proofs.YtimoappbefindaaGreat
