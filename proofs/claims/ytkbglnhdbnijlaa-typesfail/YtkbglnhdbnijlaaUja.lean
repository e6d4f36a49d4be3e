/-
  4 texts in one: what each proves stands at its head.
-/
import Derived.Test.YtkbglnhdbnijlaaUz
import Derived.Test.YtkbglnhdbnijlaaUn
import Derived.Test.YtkbglnhdbnijlaaUr
namespace Go.Proofs.Ytkbglnhdbnijlaa
open Go.RowKit
set_option maxRecDepth 100000
def PaS (w:World) (v:Value) (qs:List Pa):Prop:=∃ ao cap,v=.slice ao qs.length cap∧PaW w ao qs∧(ao=none→qs=[])
theorem PaS.up {w w':World} {v:Value} {qs:List Pa} (h:PaS w v qs) (hb:Below w.heap.size w w'):PaS w' v qs:=by
 obtain⟨ao,cap,e,h1,h2⟩:=h
 exact⟨ao,cap,e,h1.up hb,h2⟩
theorem PaO.slice {w:World} {B:Nat} {v:Value} {qs:List Pa} (h:PaO w B v qs):PaS w v qs:=by
 have h0:=h
 rcases h.2 with⟨rfl,e⟩|⟨g,c,cur,rfl,hb,hg,h1,h2,h3,h4⟩
 ·have e:=List.length_eq_zero_iff.1 e
  subst e
  exact⟨none,0,rfl,fun h=>absurd rfl h,fun _=>rfl⟩
 ·refine⟨_,c,rfl,fun hne=>⟨g,0,rfl,fun i hi=>?_⟩,fun e=>(by cases e)⟩
  obtain⟨g',cap',e',_,_,h6⟩:=h0.row (by omega)
  cases e'
  rw[Nat.zero_add]
  exact h6 i hi
def hdF (gs:List Fn1) (s:List UInt8):Option Fn1:=gs.find? fun g=>g.name==s
theorem hdF_at {gs:List Fn1} {s:List UInt8} {k:Nat} (hk:k<gs.length) (h:∀ j,j<k→¬ (gs.getD j fd).name=s) (e:(gs.getD k fd).name=s):hdF gs s=some (gs.getD k fd):=by
 unfold hdF
 rw[List.getD_eq_getElem?_getD,List.getElem?_eq_getElem hk] at e ⊢
 rw[List.find?_eq_some_iff_getElem]
 refine⟨by simpa using e,k,hk,rfl,fun j hj=>?_⟩
 have:=h j hj
 rw[List.getD_eq_getElem?_getD,List.getElem?_eq_getElem (by omega)] at this
 simpa using this
theorem hdF_no {gs:List Fn1} {s:List UInt8} (h:∀ j,j<gs.length→¬ (gs.getD j fd).name=s):hdF gs s=none:=by
 unfold hdF
 rw[List.find?_eq_none]
 intro g hg
 obtain⟨j,hj,e⟩:=List.mem_iff_getElem.1 hg
 have:=h j hj
 rw[List.getD_eq_getElem?_getD,List.getElem?_eq_getElem hj] at this
 simp only[Option.getD_some,e] at this
 simpa using this
def HdA (gs:List Fn1) (s:List UInt8) (A:Nat→Prop) (w:World) (e:Ending) (w':World):Prop:=
 ∃ us:List Value,us.length=11∧(∀ v∈us,v.oneCell'=true)∧e=.returned (.tuple #[.agg us.toArray,.bool (hdF gs s).isSome])∧Below w.heap.size w w'∧∀ g,hdF gs s=some g→FnW w' A g us
set_option maxHeartbeats 8000000 in
theorem head07_any {w:World} {A:Nat→Prop} {ao:Option Addr} {gs:List Fn1} {c:Nat} (hF:FlW w A ao gs) (hA:∀ k,A k→k<w.heap.size) (hgs:gs.length≤1073741824) (s:List UInt8) :
  Calls Try.prog 38 #[.agg #[.slice ao gs.length c],.string (bs s)] w fun e w'=>HdA gs s A w e w':=by
 have hb0:=below_alloc w (.cells #[.slice ao gs.length c] 26)
 have hL:=Bk.new w 26 #[.slice ao gs.length c]
 have hWs:(w.alloc (.cells #[.slice ao gs.length c] 26)).heap.size=w.heap.size+1:=by simp
 go_enter Try.func38,Try.ntmps38
 go_upto_region 1 with fail
 generalize w.alloc (.cells #[.slice ao gs.length c] 26)=V at *
 have hbV:=below_alloc V (.cells #[.string ⟨#[]⟩,.slice none 0 0,.int .i64 0,.int .i64 0,.string ⟨#[]⟩,.string ⟨#[]⟩,.int .i64 0,.complex .f64 0 0,.slice none 0 0,.int .i64 0,.int .i64 0] 42)
 have hZ:=Bk.new V 42 #[.string ⟨#[]⟩,.slice none 0 0,.int .i64 0,.int .i64 0,.string ⟨#[]⟩,.string ⟨#[]⟩,.int .i64 0,.complex .f64 0 0,.slice none 0 0,.int .i64 0,.int .i64 0]
 obtain⟨W,hW⟩:∃ W,W=V.alloc (.cells #[.string ⟨#[]⟩,.slice none 0 0,.int .i64 0,.int .i64 0,.string ⟨#[]⟩,.string ⟨#[]⟩,.int .i64 0,.complex .f64 0 0,.slice none 0 0,.int .i64 0,.int .i64 0] 42):=⟨_,rfl⟩
 rw[← hW] at hbV hZ ⊢
 clear hW
 have hb1:=Below.thn hb0 hbV
 obtain⟨bz,hbz⟩:∃ bz,bz=w.heap.size+1:=⟨_,rfl⟩
 rw[hWs,← hbz] at hZ
 rw[← hbz]
 have hFW:=hF.up hb1
 have c0:W.cell? ⟨w.heap.size,0,none⟩=some (.slice ao gs.length c):=(hL.up hbV).cell 0
 have hbzw:w.heap.size<bz:=by omega
 have HB:Hid (Below w.heap.size w W):=hb1
 clear hL hF hb0 hbV hb1 hbz hWs
 go_wp2_with fail
 go_loop [6] (fun i=>∃ k:Nat,k≤gs.length∧i=.int .i64 k∧Hid (∀ j,j<k→¬ (gs.getD j fd).name=s)) (fun i=>gs.length-(intOf i).toNat)
 case atStart=>exact⟨0,Nat.zero_le _,rfl,fun j hj=>absurd hj (by omega)⟩
 case round=>
  obtain⟨k,hkn,rfl,hno⟩:=hrel
  by_cases hlt:k<gs.length
  ·obtain⟨g,vs,rfl,_,hv,hxv⟩:=hFW.at k hlt
   have hone:∀ v∈vs,v.oneCell'=true:=fnW_one hxv
   obtain⟨u0,u1,u2,u3,u4,u5,u6,u7,u8,u9,u10,rfl⟩:=list11 hxv.len
   obtain⟨d0,d1,d2,d3,d4,d5,d6,d7,d8,d9,d10⟩:=range11 hv
   have hu0:u0=.string (bs (gs.getD k fd).name):=by obtain⟨_,_,_,e,_⟩:=hxv;exact (List.cons.inj e).1
   obtain⟨t,ht⟩:∃ t,t=(gs.getD k fd).name:=⟨_,rfl⟩
   rw[← ht] at hu0
   subst hu0
   have HT:Hid (t=(gs.getD k fd).name):=ht
   clear ht hv
   by_cases hq:t=s
   ·subst hq
    have h1:((bs t).toList==(bs t).toList)=true:=by simp
    have HD:Hid (hdF gs t=some (gs.getD k fd)):=hdF_at hlt hno.out HT.out.symm
    go_wp2_with (refine wpList_storeN rfl 42 (.tmp 4) (.tmp 26) rfl bz 0 [.string (bs t),u1,u2,u3,u4,u5,u6,u7,u8,u9,u10] rfl rfl hZ (Nat.le_refl 11) Try.infoF11 hone ?_;intro w3 hV3 hO3)
    have hV3:Bk w3 bz 42 [.string (bs t),u1,u2,u3,u4,u5,u6,u7,u8,u9,u10]:=hV3
    have e0:w3.cell? ⟨bz,0,none⟩=some (.string (bs t)):=hV3.cell 0
    have e1:w3.cell? ⟨bz,1,none⟩=some u1:=hV3.cell 1
    have e2:w3.cell? ⟨bz,2,none⟩=some u2:=hV3.cell 2
    have e3:w3.cell? ⟨bz,3,none⟩=some u3:=hV3.cell 3
    have e4:w3.cell? ⟨bz,4,none⟩=some u4:=hV3.cell 4
    have e5:w3.cell? ⟨bz,5,none⟩=some u5:=hV3.cell 5
    have e6:w3.cell? ⟨bz,6,none⟩=some u6:=hV3.cell 6
    have e7:w3.cell? ⟨bz,7,none⟩=some u7:=hV3.cell 7
    have e8:w3.cell? ⟨bz,8,none⟩=some u8:=hV3.cell 8
    have e9:w3.cell? ⟨bz,9,none⟩=some u9:=hV3.cell 9
    have e10:w3.cell? ⟨bz,10,none⟩=some u10:=hV3.cell 10
    have HX:Hid (FnW w3 A (gs.getD k fd) [.string (bs t),u1,u2,u3,u4,u5,u6,u7,u8,u9,u10]):=hxv.keep (by rw[hO3.size];exact Nat.le_refl _) fun b hb _=>hO3.block b (by have:=hA b hb;omega)
    have HBB:Hid (Below w.heap.size w w3):=HB.out.trans (hO3.below (by omega))
    have HO:Hid (∀ v∈[.string (bs t),u1,u2,u3,u4,u5,u6,u7,u8,u9,u10],v.oneCell'=true):=hone
    clear hone hxv d0 d1 d2 d3 d4 d5 d6 d7 d8 d9 d10
    refine bodyPost_ret (v:=.tuple #[.agg #[.string (bs t),u1,u2,u3,u4,u5,u6,u7,u8,u9,u10],.bool true]) (by simp[results,Try.results38,go_sem,e0,e1,e2,e3,e4,e5,e6,e7,e8,e9,e10]) rfl ?_
    refine⟨[.string (bs t),u1,u2,u3,u4,u5,u6,u7,u8,u9,u10],rfl,HO.out,by rw[HD.out];rfl,HBB.out,fun g' hg'=>?_⟩
    rw[HD.out] at hg'
    cases hg'
    exact HX.out
   ·have h1:((bs t).toList==(bs s).toList)=false:=by rw[bs_toList,bs_toList,beq_eq_false_iff_ne];exact hq
    have HD:Hid (∀ j,j<k+1→¬ (gs.getD j fd).name=s):=fun j hj=>by
     rcases Nat.lt_or_ge j k with h|h
     ·exact hno.out j h
     ·obtain rfl:j=k:=by omega
      rw[← HT.out]
      exact hq
    clear hone d1 d2 d3 d4 d5 d6 d7 d8 d9 d10
    go_wp2_with fail
    go_round
    case rel=>exact⟨k+1,by omega,by go_num,HD⟩
    case measure=>simp[intOf];omega
  ·have hke:k=gs.length:=by omega
   subst hke
   have HD:Hid (hdF gs s=none):=hdF_no hno.out
   go_wp2_with (refine wpList_storeN rfl 42 (.tmp 4) (.tmp 27) rfl bz 0 #[.string ⟨#[]⟩,.slice none 0 0,.int .i64 0,.int .i64 0,.string ⟨#[]⟩,.string ⟨#[]⟩,.int .i64 0,.complex .f64 0 0,.slice none 0 0,.int .i64 0,.int .i64 0].toList rfl rfl hZ (Nat.le_refl 11) Try.infoF11 (by intro v hv;simp only[List.mem_cons,List.not_mem_nil,or_false] at hv;rcases hv with rfl|rfl|rfl|rfl|rfl|rfl|rfl|rfl|rfl|rfl|rfl<;>rfl) ?_;intro w3 hV3 hO3)
   have hV3:Bk w3 bz 42 [.string ⟨#[]⟩,.slice none 0 0,.int .i64 0,.int .i64 0,.string ⟨#[]⟩,.string ⟨#[]⟩,.int .i64 0,.complex .f64 0 0,.slice none 0 0,.int .i64 0,.int .i64 0]:=hV3
   have e0:w3.cell? ⟨bz,0,none⟩=some (.string ⟨#[]⟩):=hV3.cell 0
   have e1:w3.cell? ⟨bz,1,none⟩=some (.slice none 0 0):=hV3.cell 1
   have e2:w3.cell? ⟨bz,2,none⟩=some (.int .i64 0):=hV3.cell 2
   have e3:w3.cell? ⟨bz,3,none⟩=some (.int .i64 0):=hV3.cell 3
   have e4:w3.cell? ⟨bz,4,none⟩=some (.string ⟨#[]⟩):=hV3.cell 4
   have e5:w3.cell? ⟨bz,5,none⟩=some (.string ⟨#[]⟩):=hV3.cell 5
   have e6:w3.cell? ⟨bz,6,none⟩=some (.int .i64 0):=hV3.cell 6
   have e7:w3.cell? ⟨bz,7,none⟩=some (.complex .f64 0 0):=hV3.cell 7
   have e8:w3.cell? ⟨bz,8,none⟩=some (.slice none 0 0):=hV3.cell 8
   have e9:w3.cell? ⟨bz,9,none⟩=some (.int .i64 0):=hV3.cell 9
   have e10:w3.cell? ⟨bz,10,none⟩=some (.int .i64 0):=hV3.cell 10
   have HBB:Hid (Below w.heap.size w w3):=HB.out.trans (hO3.below (by omega))
   refine bodyPost_ret (v:=.tuple #[.agg #[.string ⟨#[]⟩,.slice none 0 0,.int .i64 0,.int .i64 0,.string ⟨#[]⟩,.string ⟨#[]⟩,.int .i64 0,.complex .f64 0 0,.slice none 0 0,.int .i64 0,.int .i64 0],.bool false]) (by simp[results,Try.results38,go_sem,e0,e1,e2,e3,e4,e5,e6,e7,e8,e9,e10]) rfl ?_
   refine⟨[.string ⟨#[]⟩,.slice none 0 0,.int .i64 0,.int .i64 0,.string ⟨#[]⟩,.string ⟨#[]⟩,.int .i64 0,.complex .f64 0 0,.slice none 0 0,.int .i64 0,.int .i64 0],rfl,by intro v hv;simp only[List.mem_cons,List.not_mem_nil,or_false] at hv;rcases hv with rfl|rfl|rfl|rfl|rfl|rfl|rfl|rfl|rfl|rfl|rfl<;>rfl,by rw[HD.out];rfl,HBB.out,fun g' hg'=>?_⟩
   rw[HD.out] at hg'
   cases hg'
end Go.Proofs.Ytkbglnhdbnijlaa
namespace Go.Proofs.Ytkbglnhdbnijlaa
open Go.RowKit
set_option maxRecDepth 100000
end Go.Proofs.Ytkbglnhdbnijlaa
namespace Go.Proofs.Ytkbglnhdbnijlaa
open Go.RowKit
set_option maxRecDepth 100000
def lookR (l:List Pa) (s:List UInt8):Int:=match l.reverse.find? (fun q=>q.name==s) with|some q=>q.ty|none=>-1
end Go.Proofs.Ytkbglnhdbnijlaa
namespace Go.Proofs.Ytkbglnhdbnijlaa
open Go.RowKit
set_option maxRecDepth 100000
def argR (gs:List Fn1) (s:List UInt8) (i:Nat):Int:=match hdF gs s with|none=>1|some g=>if i<g.pms.length then (g.pms.getD i pd).ty else 1
def wntR (gs:List Fn1) (op:Int) (name:List UInt8) (ty:Int) (i:Nat) (t:Int):Int:=
 if op=14 then 2 else if op=18 then (if i=1 then 3 else 1) else if op=7 then argR gs name i else if op=19 then (if i=0 then 2 else t) else if op=20 then (if i=0 then 3 else t) else if op=21∨op=22 then (if i=0 then ty else t) else 1
set_option maxHeartbeats 16000000 in
theorem wanted07_any {w:World} {A:Nat→Prop} {ao:Option Addr} {gs:List Fn1} {c:Nat} (hF:FlW w A ao gs) (hA:∀ k,A k→k<w.heap.size) (hgs:gs.length≤1073741824) (op:Int) (name tail:List UInt8) (ty:Int) (v4 v5 v6:Value) (i:Nat) (t:Int)
  (hop:op=1∨op=2∨op=3∨op=4∨op=5∨op=6∨op=7∨op=8∨op=9∨op=10∨op=11∨op=12∨op=13∨op=14∨op=15∨op=16∨op=17∨op=18∨op=19∨op=20∨op=21∨op=22) :
  Calls Try.prog 25 #[.agg #[.slice ao gs.length c],.agg #[.int .i64 op,.string (bs name),.string (bs tail),.int .i64 ty,v4,v5,v6],.int .i64 i,.int .i64 t] w fun e w'=>e=.returned (.int .i64 (wntR gs op name ty i t))∧Below w.heap.size w w':=by
 have hb0:=below_alloc w (.cells #[.slice ao gs.length c] 26)
 have hL:=Bk.new w 26 #[.slice ao gs.length c]
 have hVs:(w.alloc (.cells #[.slice ao gs.length c] 26)).heap.size=w.heap.size+1:=by simp
 go_enter Try.func25,Try.ntmps25
 go_upto_region 1 with fail
 generalize w.alloc (.cells #[.slice ao gs.length c] 26)=V at *
 have hbV:=below_alloc V (.cells #[.int .i64 op,.string (bs name),.string (bs tail),.int .i64 ty,v4,v5,v6] 40)
 have hE:=Bk.new V 40 #[.int .i64 op,.string (bs name),.string (bs tail),.int .i64 ty,v4,v5,v6]
 obtain⟨W,hW⟩:∃ W,W=V.alloc (.cells #[.int .i64 op,.string (bs name),.string (bs tail),.int .i64 ty,v4,v5,v6] 40):=⟨_,rfl⟩
 rw[← hW] at hbV hE ⊢
 clear hW
 have hb1:=Below.thn hb0 hbV
 obtain⟨be,hbe⟩:∃ be,be=w.heap.size+1:=⟨_,rfl⟩
 rw[hVs,← hbe] at hE
 rw[← hbe]
 have hbew:w.heap.size<be:=by omega
 clear hbe
 have hFW:=hF.up hb1
 have hWs:=hb1.size
 have p0:W.cell? ⟨w.heap.size,0,none⟩=some (.slice ao gs.length c):=(hL.up hbV).cell 0
 obtain⟨c0,c1,c2,c3,c4,c5,c6⟩:=Bk.seven (show Bk W be 40 [_,_,_,_,_,_,_] from hE)
 have HB:Hid (Below w.heap.size w W):=hb1
 clear hL hb0 hbV hb1 hVs hF
 rcases hop with rfl|rfl|rfl|rfl|rfl|rfl|h7|rfl|rfl|rfl|rfl|rfl|rfl|rfl|rfl|rfl|rfl|h18|h19|h20|h21|h22
 case' inr.inr.inr.inr.inr.inr.inl=>
  subst h7
  have hc:=head07_any (c:=c) hFW (fun k h=>by have:=hA k h;omega) hgs name
  clear hFW
  go_wp2_with fail
  refine hc.mono ?_
  rintro e w2 ⟨us,hul,hone,rfl,hb2,hus⟩
  have hB2:=Below.thn HB.out hb2
  obtain⟨u0,u1,u2,u3,u4,u5,u6,u7,u8,u9,u10,rfl⟩:=list11 hul
  have hZ2:=Bk.new w2 42 #[.string ⟨#[]⟩,.slice none 0 0,.int .i64 0,.int .i64 0,.string ⟨#[]⟩,.string ⟨#[]⟩,.int .i64 0,.complex .f64 0 0,.slice none 0 0,.int .i64 0,.int .i64 0]
  clear hc c0 c1 c2 c3 c4 c5 c6 p0 hul
  cases hp:hdF gs name with
  |none=>
   have HE:Hid (wntR gs 7 name ty i t=1):=by show argR gs name i=1;unfold argR;rw[hp]
   rw[Option.isSome_none]
   clear hus hp
   go_upto_region 9 with (refine wpList_storeN rfl 42 (.tmp 9) (.tmp 26) rfl w2.heap.size 0 [u0,u1,u2,u3,u4,u5,u6,u7,u8,u9,u10] rfl rfl hZ2 (Nat.le_refl 11) Try.infoF11 hone ?_;intro w3 hV3 hO3)
   have HB3:Hid (Below w.heap.size w w3):=Below.thn hB2 ((below_alloc w2 _).trans (hO3.below (Nat.le_refl _)))
   go_wp2_with fail
   go_ret
   exact⟨by rw[HE.out];rfl,HB3.out⟩
  |some g=>
   rw[Option.isSome_some]
   obtain⟨ag,cg,es,e,hpl,-⟩:=hus g hp
   have e1:u1=.slice ag g.pms.length cg:=(List.cons.inj (List.cons.inj e).2).1
   subst e1
   have HP:Hid (hdF gs name=some g):=hp
   clear hus hp e
   go_upto_region 9 with (refine wpList_storeN rfl 42 (.tmp 9) (.tmp 26) rfl w2.heap.size 0 [u0,.slice ag g.pms.length cg,u2,u3,u4,u5,u6,u7,u8,u9,u10] rfl rfl hZ2 (Nat.le_refl 11) Try.infoF11 hone ?_;intro w3 hV3 hO3)
   have hV3:Bk w3 w2.heap.size 42 [u0,.slice ag g.pms.length cg,u2,u3,u4,u5,u6,u7,u8,u9,u10]:=hV3
   have hb3:=(below_alloc w2 (.cells #[.string ⟨#[]⟩,.slice none 0 0,.int .i64 0,.int .i64 0,.string ⟨#[]⟩,.string ⟨#[]⟩,.int .i64 0,.complex .f64 0 0,.slice none 0 0,.int .i64 0,.int .i64 0] 42)).trans (hO3.below (Nat.le_refl _))
   have HB3:Hid (Below w.heap.size w w3):=Below.thn hB2 hb3
   have f1:w3.cell? ⟨w2.heap.size,1,none⟩=some (.slice ag g.pms.length cg):=hV3.cell 1
   have hpl3:=PlW.q (hpl.keep hb3.size fun b _ hl=>hb3.block b hl)
   clear hone hZ2 hO3 hb3 hpl
   by_cases hk:i<g.pms.length
   ·have HE:Hid (wntR gs 7 name ty i t=(g.pms.getD i pd).ty):=by show argR gs name i=_;unfold argR;rw[HP.out];simp[hk]
    obtain⟨b,z,rfl,hr⟩:=hpl3.at i hk
    have d1:w3.cell? ⟨b,i*3+1,none⟩=some (.int .i64 (g.pms.getD i pd).ty):=hr 1 _ rfl
    obtain⟨y,hy⟩:∃ y,y=(g.pms.getD i pd).ty:=⟨_,rfl⟩
    rw[← hy] at d1 HE
    clear hy hr hpl3
    go_wp2_with fail
    go_ret
    exact⟨by rw[HE.out];rfl,HB3.out⟩
   ·have HE:Hid (wntR gs 7 name ty i t=1):=by show argR gs name i=_;unfold argR;rw[HP.out];simp[hk]
    clear hpl3
    go_wp2_with fail
    go_ret
    exact⟨by rw[HE.out];rfl,HB3.out⟩
 case' inr.inr.inr.inr.inr.inr.inr.inr.inr.inr.inr.inr.inr.inr.inr.inr.inr.inl=>
  subst h18
  clear hFW p0 c1 c2 c4 c5 c6 hWs
  by_cases hi:i=1
  ·subst hi
   go_wp2_with fail
   go_ret
   exact⟨rfl,HB.out⟩
  ·have gi:((i:Int)==1)=false:=by rw[beq_eq_false_iff_ne];omega
   have HE:Hid (wntR gs 18 name ty i t=1):=by show wntR gs 18 name ty i t=1;simp[wntR,hi]
   go_wp2_with fail
   go_ret
   exact⟨by rw[HE.out];rfl,HB.out⟩
 case' inr.inr.inr.inr.inr.inr.inr.inr.inr.inr.inr.inr.inr.inr.inr.inr.inr.inr.inl=>
  subst h19
  clear hFW p0 c1 c2 c4 c5 c6 hWs
  by_cases hi:i=0
  ·subst hi
   go_wp2_with fail
   go_ret
   exact⟨rfl,HB.out⟩
  ·have gi:((i:Int)==0)=false:=by rw[beq_eq_false_iff_ne];omega
   have HE:Hid (wntR gs 19 name ty i t=t):=by show wntR gs 19 name ty i t=t;simp[wntR,hi]
   go_wp2_with fail
   go_ret
   exact⟨by rw[HE.out];rfl,HB.out⟩
 case' inr.inr.inr.inr.inr.inr.inr.inr.inr.inr.inr.inr.inr.inr.inr.inr.inr.inr.inr.inl=>
  subst h20
  clear hFW p0 c1 c2 c4 c5 c6 hWs
  by_cases hi:i=0
  ·subst hi
   go_wp2_with fail
   go_ret
   exact⟨rfl,HB.out⟩
  ·have gi:((i:Int)==0)=false:=by rw[beq_eq_false_iff_ne];omega
   have HE:Hid (wntR gs 20 name ty i t=t):=by show wntR gs 20 name ty i t=t;simp[wntR,hi]
   go_wp2_with fail
   go_ret
   exact⟨by rw[HE.out];rfl,HB.out⟩
 case' inr.inr.inr.inr.inr.inr.inr.inr.inr.inr.inr.inr.inr.inr.inr.inr.inr.inr.inr.inr.inl=>
  subst h21
  clear hFW p0 c1 c2 c4 c5 c6 hWs
  by_cases hi:i=0
  ·subst hi
   go_wp2_with fail
   go_ret
   exact⟨rfl,HB.out⟩
  ·have gi:((i:Int)==0)=false:=by rw[beq_eq_false_iff_ne];omega
   have HE:Hid (wntR gs 21 name ty i t=t):=by show wntR gs 21 name ty i t=t;simp[wntR,hi]
   go_wp2_with fail
   go_ret
   exact⟨by rw[HE.out];rfl,HB.out⟩
 case' inr.inr.inr.inr.inr.inr.inr.inr.inr.inr.inr.inr.inr.inr.inr.inr.inr.inr.inr.inr.inr=>
  subst h22
  clear hFW p0 c1 c2 c4 c5 c6 hWs
  by_cases hi:i=0
  ·subst hi
   go_wp2_with fail
   go_ret
   exact⟨rfl,HB.out⟩
  ·have gi:((i:Int)==0)=false:=by rw[beq_eq_false_iff_ne];omega
   have HE:Hid (wntR gs 22 name ty i t=t):=by show wntR gs 22 name ty i t=t;simp[wntR,hi]
   go_wp2_with fail
   go_ret
   exact⟨by rw[HE.out];rfl,HB.out⟩
 all_goals
  clear hFW p0 c1 c2 c4 c5 c6 hWs
  go_wp2_with fail
  go_ret
  exact⟨rfl,HB.out⟩
end Go.Proofs.Ytkbglnhdbnijlaa
