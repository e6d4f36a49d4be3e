/-
  The walk of ShowBack.
-/
import Derived.Test.YtdncofkjncanfaaGreatDoorUY
import Derived.Test.YtdncofkjncanfaaGreatDoorUM
import Derived.Lib.ConvBytes
namespace Go.Proofs.YtdncofkjncanfaaGreatDoor
open Go.RowKit
set_option maxRecDepth 100000
mutual
theorem ExR.imp {ρ ρ':Nat→Nat→Prop} (h:∀ a b,ρ a b→ρ' a b):∀ {x y:Ex},ExR ρ x y→ExR ρ' x y
 |.mk _ _ _ _ _ _ _ _,_,k=>by cases k with|mk a b=>exact .mk (h _ _ a) (b.imp h)
theorem ExsR.imp {ρ ρ':Nat→Nat→Prop} (h:∀ a b,ρ a b→ρ' a b):∀ {xs ys:List Ex},ExsR ρ xs ys→ExsR ρ' xs ys
 |[],_,k=>by cases k;exact .nil
 |_::_,_,k=>by cases k with|cons a b=>exact .cons (a.imp h) (b.imp h)
end
theorem LiR.imp {α β:Type} {A B:α→β→Prop} (h:∀ a b,A a b→B a b):∀ {xs:List α} {ys:List β},LiR A xs ys→LiR B xs ys
 |[],_,k=>by cases k;exact .nil
 |_::_,_,k=>by cases k with|cons a b=>exact .cons (h _ _ a) (b.imp h)
theorem FnR.imp {ρ ρ':Nat→Nat→Prop} (h:∀ a b,ρ a b→ρ' a b) {f g:Fn1} (k:FnR ρ f g):FnR ρ' f g:=
 ⟨k.name,k.pms.imp fun _ _ e=>⟨e.name,e.ty,h _ _ e.pos⟩,k.ty,k.body.imp h,h _ _ k.pos⟩
theorem rd_two {l:List UInt8} {f B:Nat} {w':World} {ao:Option Addr} {n c:Nat} {y:Int} (h:rdV l f B (.returned (.tuple #[.agg #[.slice ao n c],.bool (y==0)])) w') :
  (y=0∧∃ ms gs j,n=gs.length∧l.length≤32768∧cut rdN l 0=.ok ms∧progL (mf ms) LW5 f [] 0=.ok gs j∧FlW w' (fun b=>B≤b) ao gs)∨(y≠0∧n=0):=by
 rcases h with⟨ms,gs,j,ao2,c2,h1,h2,h3,h4,h5⟩|⟨_,h⟩
 ·refine .inl ?_
  simp only[Ending.returned.injEq,Value.tuple.injEq,Array.mk.injEq,List.cons.injEq,Value.agg.injEq,Value.slice.injEq,Value.bool.injEq,and_true,beq_iff_eq] at h4
  obtain⟨⟨rfl,e,rfl⟩,e0⟩:=h4
  exact⟨e0,ms,gs,j,e,h1,h2,h3,h5⟩
 ·refine .inr ?_
  simp only[Ending.returned.injEq,Value.tuple.injEq,Array.mk.injEq,List.cons.injEq,Value.agg.injEq,Value.slice.injEq,Value.bool.injEq,and_true,beq_eq_false_iff_ne] at h
  exact⟨h.2,h.1.2.1⟩
theorem below_bytes (w:World) (e:TypeId) (s:ByteArray):Below w.heap.size w (Lib.bytesWorld w e s):=
 ⟨rfl,rfl,rfl,by rw[Lib.bytesWorld_size];omega,fun k hk=>Lib.bytesWorld_at_old w e s k hk⟩
theorem paV_of {l:List UInt8} {f B:Nat} {e:Ending} {w':World} {ms:List Mk} {gs:List Fn1} {j:Nat} (hl:l.length≤32768) (hc:cut rdN l 0=.ok ms) (hp:progL (mf ms) LW5 f [] 0=.ok gs j) (h:paV l 32768 32768 32768 32768 f B e w') :
  ∃ ao c,e=.returned (.tuple #[.agg #[.slice ao gs.length c],.agg #[.int .i64 0,.int .i64 0]])∧FlW w' (fun b=>B≤b) ao gs:=by
 unfold paV at h
 rw[if_neg (by rw[cT_max];omega),hc] at h
 dsimp only at h
 rw[hp] at h
 obtain⟨ao,c,e,hf,_⟩:=h
 exact⟨ao,c,e,hf⟩
set_option maxHeartbeats 8000000 in
theorem showBack_any (ao:Option Addr) (cap:Nat) (l:List UInt8) (hcap:l.length≤cap) (w:World) (hG:Gl w) (hE:Env w) (hT:Bd w ao l) :
  Calls Tryz.prog 5 #[.slice ao l.length cap] w fun e w'=>e=.returned (.bool true)∧Below w.heap.size w w':=by
 obtain⟨F,hF⟩:∃ F,F=12*(l.length+1)+9:=⟨_,rfl⟩
 have hfu:∀ ms,cut rdN l 0=.ok ms→progL (mf ms) LW5 F [] 0≠.out:=fuel_ok l LW5 F (by omega)
 have HF:Hid (F=12*(l.length+1)+9):=hF
 clear hF
 go_enter Tryz.func5,Tryz.ntmps5
 go_wp2_with fail
 refine (awake5_any w hE.tab).mono ?_
 rintro e w1 ⟨rfl,hb1⟩
 go_wp2_with fail
 refine (wide_any w1).mono ?_
 rintro e w2 ⟨rfl,hb2⟩
 have hB2:=Below.thn hb1 hb2
 have hB3:=Below.thn hB2 (below_alloc w2 (.cells #[.int .i64 32768,.int .i64 32768,.int .i64 32768,.int .i64 32768] 25))
 have hL3:=Bk.new w2 25 #[.int .i64 32768,.int .i64 32768,.int .i64 32768,.int .i64 32768]
 generalize hW3:w2.alloc (.cells #[.int .i64 32768,.int .i64 32768,.int .i64 32768,.int .i64 32768] 25)=W3 at *
 have m3:=langParse_all ao cap l hcap 32768 32768 32768 32768 (by decide) W3 (hG.up hB3) (env_keep hE hB3) (hT.up hB3) F hfu
 obtain⟨l0,l1,l2,l3⟩:=Bk.four (show Bk W3 w2.heap.size 25 [_,_,_,_] from hL3)
 clear hb1 hb2 hB2 hT
 go_wp2_with fail
 first|rw[hW3]|skip
 clear hW3
 refine m3.mono ?_
 rintro e w4 ⟨hb4,hpa⟩
 obtain⟨a4,n4,c4,y,aa,rfl⟩:=paV_shape hpa hfu
 have hrd:=rd_two (paV_rd hfu hpa)
 have hB4:=Below.thn hB3 hb4
 have HW4:Hid (w.heap.size≤w4.heap.size):=hB4.size
 have hL4:=hL3.up hb4
 clear m3 hpa l0 l1 l2 l3 hb4 hL3 hB3 hfu
 have hb5:=below_two w4 (.cells #[.slice a4 n4 c4] 29) (.cells #[.int .i64 y,.int .i64 aa] 32)
 have hP5:=(Bk.new w4 29 #[.slice a4 n4 c4]).up (below_alloc _ (.cells #[.int .i64 y,.int .i64 aa] 32))
 have hF5:=Bk.newAt (w:=w4.alloc (.cells #[.slice a4 n4 c4] 29)) (n:=w4.heap.size+1) 32 #[.int .i64 y,.int .i64 aa] (by simp)
 generalize hW5:(w4.alloc (.cells #[.slice a4 n4 c4] 29)).alloc (.cells #[.int .i64 y,.int .i64 aa] 32)=W5 at *
 have hB5:=Below.thn hB4 hb5
 have p5:W5.cell? ⟨w4.heap.size,0,none⟩=some (.slice a4 n4 c4):=hP5.cell 0
 have f5:W5.cell? ⟨w4.heap.size+1,0,none⟩=some (.int .i64 y):=hF5.cell 0
 rcases hrd with⟨hy,ms,gs,j,hn4,hl,hc,hp,hfl⟩|⟨hy,hn4⟩
 ·subst hy hn4
  have hok:PrgOk gs:=prgOk hl (by rw[HF.out];exact Nat.le_refl _) hc hp
  have hfl5:=(hfl.imp (A':=fun b=>b<w4.heap.size) fun b _ hb=>hb).up hb5
  have m6:=showProgram_ok (tab_keep hE.tab hB5) hok (c:=c4) hfl5
  obtain⟨ms',hcut',hback⟩:=back rd_back hc (by decide) (by decide) hp hok.ne
  generalize hTT:prT gs=T at *
  have HFL:Hid (FlW W5 _ a4 gs):=hfl5
  have HOK:Hid (PrgOk gs):=hok
  have HP5:Hid (Bk W5 w4.heap.size 29 [.slice a4 gs.length c4]):=hP5
  have HF5:Hid (Bk W5 (w4.heap.size+1) 32 [.int .i64 0,.int .i64 aa]):=hF5
  have HL5:Hid (Bk W5 w2.heap.size 25 [.int .i64 32768,.int .i64 32768,.int .i64 32768,.int .i64 32768]):=hL4.up hb5
  have HB5:Hid (Below w.heap.size w W5):=hB5
  have HBK:Hid (∀ f',progL (mf ms') LW5 f' [] 0≠.out→∃ gs' j',progL (mf ms') LW5 f' [] 0=.ok gs' j'∧LiR (FnR tt) gs gs'):=hback
  have HCU:Hid (cut rdN T 0=.ok ms'):=hcut'
  have HTT:Hid (prT gs=T):=hTT
  clear hfl hfl5 hok hP5 hF5 hL4 hB5 hb5 hback hcut' hTT hc hp hl hB4
  go_wp2_with fail
  first|rw[hW5]|skip
  clear hW5
  refine m6.mono ?_
  rintro e w6 ⟨rfl,hb6⟩
  have HB6:Hid (Below w.heap.size w w6):=Below.thn HB5.out hb6
  have HL6:Hid (Bk w6 w2.heap.size 25 [.int .i64 32768,.int .i64 32768,.int .i64 32768,.int .i64 32768]):=HL5.out.up hb6
  have HP6:Hid (Bk w6 w4.heap.size 29 [.slice a4 gs.length c4]):=HP5.out.up hb6
  have HF6:Hid (Bk w6 (w4.heap.size+1) 32 [.int .i64 0,.int .i64 aa]):=HF5.out.up hb6
  have HFL6:Hid (FlW w6 _ a4 gs):=HFL.out.up hb6
  clear m6 p5 f5 hb6
  have hsz:(bs T).size=T.length:=bs_size T
  by_cases hbig:32768<T.length
  ·have hbi:(32768:Int)<T.length:=by omega
   go_wp2_with fail
   go_ret
   exact⟨rfl,HB6.out⟩
  ·have hsm:(T.length:Int)≤32768:=by omega
   have hcv:=Lib.run_convert_string_bytes (P:=Tryz.prog) w6 9 22 5 (bs T) Tryz.strU Tryz.underBs (by kernel_rfl)
   rw[hsz] at hcv
   have hcap7:=grownCap_ge w6 T.length 0 5
   have hb7:=below_bytes w6 5 (bs T)
   have hbd7:Bd (Lib.bytesWorld w6 5 (bs T)) (some ⟨w6.heap.size,0,none⟩) T:=⟨fun _=>⟨w6.heap.size,0,rfl,fun t ht=>by
    rw[Nat.zero_add,Lib.bytesWorld_cell _ _ _ _ (by rw[hsz];exact ht),bs_list]⟩⟩
   generalize hW7:Lib.bytesWorld w6 5 (bs T)=W7 at *
   generalize hC7:grownCap w6 T.length 0 5=C7 at *
   obtain⟨F2,hF2⟩:∃ F2,F2=12*(T.length+1)+9:=⟨_,rfl⟩
   have hfu2:∀ ms,cut rdN T 0=.ok ms→progL (mf ms) LW5 F2 [] 0≠.out:=fuel_ok T LW5 F2 (by omega)
   obtain⟨gs',j',hp',hr'⟩:=HBK.out F2 (hfu2 _ HCU.out)
   have hok':PrgOk gs':=prgOk (l:=T) (by omega) (by omega) HCU.out hp'
   have hT':prT gs'=T:=by rw[← prT_R hr'];exact HTT.out
   have HB7:Hid (Below w.heap.size w W7):=Below.thn HB6.out hb7
   have m8:=langParse_all (some ⟨w6.heap.size,0,none⟩) C7 T hcap7 32768 32768 32768 32768 (by decide) W7 (hG.up HB7.out) (env_keep hE HB7.out) hbd7 F2 hfu2
   have HL7:Hid (Bk W7 w2.heap.size 25 [.int .i64 32768,.int .i64 32768,.int .i64 32768,.int .i64 32768]):=HL6.out.up hb7
   have HP7:Hid (Bk W7 w4.heap.size 29 [.slice a4 gs.length c4]):=HP6.out.up hb7
   have HF7:Hid (Bk W7 (w4.heap.size+1) 32 [.int .i64 0,.int .i64 aa]):=HF6.out.up hb7
   have HFL7:Hid (FlW W7 _ a4 gs):=HFL6.out.up hb7
   have HOK':Hid (PrgOk gs'):=hok'
   have HT':Hid (prT gs'=T):=hT'
   have HR':Hid (LiR (FnR tt) gs gs'):=hr'
   have HPR:Hid (progL (mf ms') LW5 F2 [] 0=.ok gs' j'):=hp'
   obtain⟨l0,l1,l2,l3⟩:=Bk.four (show Bk W7 w2.heap.size 25 [_,_,_,_] from HL7.out)
   clear hb7 hbd7 hF2 hp' hok' hT' hr' hbig
   go_wp2_with fail
   refine m8.mono ?_
   rintro e w8 ⟨hb8,hpa⟩
   obtain⟨a8,c8,rfl,hfl8⟩:=paV_of (by omega) HCU.out HPR.out hpa
   have hb9:=below_alloc w8 (.cells #[.slice a8 gs'.length c8] 29)
   have hb89:=Below.thn hb8 hb9
   have hF9:=HF7.out.up hb89
   have HP9:Hid (Bk (w8.alloc (.cells #[.slice a8 gs'.length c8] 29)) w4.heap.size 29 [.slice a4 gs.length c4]):=HP7.out.up hb89
   have HQ9:Hid (Bk (w8.alloc (.cells #[.slice a8 gs'.length c8] 29)) w8.heap.size 29 [.slice a8 gs'.length c8]):=Bk.new w8 29 #[.slice a8 gs'.length c8]
   have HB9:Hid (Below w.heap.size w (w8.alloc (.cells #[.slice a8 gs'.length c8] 29))):=Below.thn HB7.out hb89
   have HFL9:Hid (FlW (w8.alloc (.cells #[.slice a8 gs'.length c8] 29)) _ a4 gs):=HFL7.out.up hb89
   have HFQ9:Hid (FlW (w8.alloc (.cells #[.slice a8 gs'.length c8] 29)) _ a8 gs'):=hfl8.up hb9
   have hlt7:w4.heap.size+1<W7.heap.size:=HF7.out.lt
   have hlt8:W7.heap.size≤w8.heap.size:=hb8.size
   have hlt5:w.heap.size≤w4.heap.size:=HW4.out
   clear m8 l0 l1 l2 l3 hpa hb8 hb9 hb89 hfl8
   go_upto_region 11 with (first
    |(refine wpList_storeN rfl 32 (.tmp 5) (.tmp 35) rfl (w4.heap.size+1) 0 [.int .i64 0,.int .i64 0] rfl rfl hF9 (Nat.le_refl 2) Tryz.infoF (by intro v hv;simp only[List.mem_cons,List.not_mem_nil,or_false] at hv;rcases hv with rfl|rfl<;>rfl) ?_;intro w10 hF10 ho10)
    |fail)
   have f10:w10.cell? ⟨w4.heap.size+1,0,none⟩=some (.int .i64 0):=hF10.cell 0
   have p10:w10.cell? ⟨w4.heap.size,0,none⟩=some (.slice a4 gs.length c4):=(HP9.out.oth ho10 (by omega)).cell 0
   have q10:w10.cell? ⟨w8.heap.size,0,none⟩=some (.slice a8 gs'.length c8):=(HQ9.out.oth ho10 (by omega)).cell 0
   have hs10:(w8.alloc (.cells #[.slice a8 gs'.length c8] 29)).heap.size≤w10.heap.size:=by rw[ho10.size];exact Nat.le_refl _
   have hx10:FlW w10 (fun b=>b<w4.heap.size) a4 gs:=HFL9.out.keep2 hs10 fun b hb _=>ho10.block b (by omega)
   have hy10:FlW w10 (fun b=>W7.heap.size≤b) a8 gs':=HFQ9.out.keep2 hs10 fun b hb _=>ho10.block b (by omega)
   have hB10:Below w.heap.size w w10:=⟨ho10.os.trans HB9.out.os,ho10.tape.trans HB9.out.tape,ho10.output.trans HB9.out.output,by have:=HB9.out.size;omega,fun k hk=>(ho10.block k (by omega)).trans (HB9.out.block k hk)⟩
   have m11:=same4_any false gs gs' (fun g hg=>by have:=HOK.out.sz g hg;omega) (fun g hg=>by have:=HOK.out.pms g hg;omega) (by have:=HOK.out.num;omega) (HR'.out.imp fun _ _ h=>h.imp fun _ _ _ e=>by cases e) w10 _ _ a4 a8 c4 c8 hx10 hy10
   have HB10:Hid (Below w.heap.size w w10):=hB10
   have HY10:Hid (FlW w10 (fun b=>W7.heap.size≤b) a8 gs'):=hy10
   have HQ10:Hid (Bk w10 w8.heap.size 29 [.slice a8 gs'.length c8]):=HQ9.out.oth ho10 (by omega)
   clear hF10 ho10 hF9 hx10 hy10 hB10 hs10
   go_wp2_with fail
   refine m11.mono ?_
   rintro e w11 ⟨rfl,hb11⟩
   have HB11:Hid (Below w.heap.size w w11):=Below.thn HB10.out hb11
   have q11:w11.cell? ⟨w8.heap.size,0,none⟩=some (.slice a8 gs'.length c8):=(HQ10.out.up hb11).cell 0
   have m12:=showProgram_ok (tab_keep hE.tab HB11.out) HOK'.out (c:=c8) (HY10.out.up hb11)
   rw[HT'.out] at m12
   clear m11 f10 p10 q10 hb11
   go_wp2_with fail
   refine m12.mono ?_
   rintro e w12 ⟨rfl,hb12⟩
   have HB12:Hid (Below w.heap.size w w12):=Below.thn HB11.out hb12
   have hqq:((bs T).toList==(bs T).toList)=true:=by simp
   clear m12 q11 hb12
   go_wp2_with fail
   go_ret
   exact⟨rfl,HB12.out⟩
 ·have y0:(y==0)=false:=by simpa using hy
  subst hn4
  go_wp2_with fail
  go_ret
  exact⟨rfl,hB5⟩
end Go.Proofs.YtdncofkjncanfaaGreatDoor
