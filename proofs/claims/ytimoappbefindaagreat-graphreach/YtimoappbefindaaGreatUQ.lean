/-
  2 texts in one: what each proves stands at its head.
-/
import Derived.Test.YtimoappbefindaaGreatUP
namespace Go.Proofs.YtimoappbefindaaGreat
set_option maxHeartbeats 8000000
open Go.RowKit
set_option maxRecDepth 100000
theorem iX (w:World):S4 ((w.alloc z4).alloc z4) w.heap.size (.int .i64 0) (.string ⟨#[]⟩) (.complex .f64 0 0) (.int .i64 0)∧S4 ((w.alloc z4).alloc z4) (w.heap.size+1) (.int .i64 0) (.string ⟨#[]⟩) (.complex .f64 0 0) (.int .i64 0):=two4 w _ _ _ _ _ _ _ _
section
variable (b off cap:Nat) (l:List UInt8) (k:Nat) (hlen:l.length≤16777216) (hcap:l.length≤cap) (hk:k<l.length) (w:World) (hc:∀ t,t<l.length→w.cell? ⟨b,off+t,none⟩=some (.int .u8 ((l.getD t 0).toNat:Int)))
include hlen hcap hk hc
theorem one_name (T:List UInt8) (hT:(l.drop k).takeWhile inRn=T) (hn:0<T.length) (hd:isDg (l.getD k 0)=false) (hu:l.getD k 0≠95) :
  Calls Tryz.prog 66 #[.slice (some ⟨b,off,none⟩) l.length cap,.int .i64 k] w fun e w'=>e=.returned (.tuple #[mkV ⟨if isWd T then 1 else 0,T,0,0,k⟩,.bool true])∧Below w.heap.size w w':=by
 have b1:=ae w z4
 have hc1:∀ t,t<l.length→(w.alloc z4).cell? ⟨b,off+t,none⟩=some (.int .u8 ((l.getD t 0).toNat:Int)):=fun t ht=>keep b1 (hc t ht)
 have hrun:=dP b off cap l k hlen (by omega) (w.alloc z4) hc1
 have htl:=iy inRn (l.drop k)
 rw[List.length_drop,hT] at htl
 have hpl:((l.drop k).take T.length)=T:=by have:=jd inRn (l.drop k);rw[hT] at this;exact this
 have hcv:=eY (w.alloc z4) b (off+k) T.length (cap-k) ((l.drop k).take T.length) (by rw[hpl]) (dR hc1 k T.length (by omega))
 rw[hpl] at hcv
 rw[hT] at hrun
 obtain⟨s1,s2⟩:=iX w
 have b2:=bC w z4 z4
 obtain⟨c,hcd⟩:∃ c,c=l.getD k 0:=⟨_,rfl⟩
 have hdg:=fun W=>df c W
 rw[← hcd] at hd hu
 rw[hd] at hdg
 have h95:((c.toNat:Int)==95)=false:=by
  rw[beq_eq_false_iff_ne];intro e;exact hu (UInt8.toNat_inj.1 (by have:(95:UInt8).toNat=95:=rfl;omega))
 have hck:=hc k hk
 rw[← hcd] at hck
 have hres:=fun W=>refReserved_any T W
 clear hT hpl hcd hu
 cases hw:isWd T with
 |true=>
  rw[hw] at hres
  go_enter Tryz.func66,Tryz.ntmps66
  go_wp2_with (first
   |(go_at_call 81;refine hrun.mono ?_;rintro e w' ⟨rfl,hw'⟩;rw[hw'];clear hw')
   |(refine aI rfl (.tmp 7) (.tmp 21) rfl (w.heap.size+1) _ _ _ _ rfl rfl s2 ⟨rfl,rfl,rfl,rfl⟩ ?_;intro w1 s3 oth;have s4:=oth.s4 s1 (by omega);have hb:=b2.trans (oth.below (Nat.le_succ _));have hck1:=keep hb hck;obtain⟨_,d1,_,_⟩:=s3.cells;clear s1 s2 oth b2 hc hc1 hcv hrun hck)
   |(go_at_call 82;refine (hdg _).mono ?_;rintro e w' ⟨rfl,hw'⟩;rw[hw'];clear hw')
   |(go_at_call 85;refine (hres _).mono ?_;rintro e w2 ⟨rfl,hb2⟩;have s5:=s3.up hb2;have s6:=s4.up hb2;have hB:=Below.thn hb hb2;have t5:=s5.set0 (.int .i64 1);have t6:=s6.other (a:=⟨w.heap.size+1,0,none⟩) (by simp) (.int .i64 1);obtain⟨c0,c1,c2,c3⟩:=s5.cells;obtain⟨f0,f1,f2,f3⟩:=s5.frz)
   |(refine bK rfl (.tmp 7) rfl (w.heap.size+1) rfl t5 ?_)
   |(refine aI rfl (.tmp 4) (.tmp 63) rfl (w.heap.size) _ _ _ _ rfl rfl t6 ⟨rfl,rfl,rfl,rfl⟩ ?_;intro w3 s7 oth2;obtain⟨q0,q1,q2,q3⟩:=s7.cells))
  refine bodyPost_ret (v:=.tuple #[mkV ⟨1,T,0,0,k⟩,.bool true]) (by simp[results,Tryz.results66,go_sem,q0,q1,q2,q3,mkV,fE]) rfl ⟨rfl,?_⟩
  exact (hB.setCell (Nat.le_succ _) _).trans (oth2.below (Nat.le_refl _))
 |false=>
  rw[hw] at hres
  go_enter Tryz.func66,Tryz.ntmps66
  go_wp2_with (first
   |(go_at_call 81;refine hrun.mono ?_;rintro e w' ⟨rfl,hw'⟩;rw[hw'];clear hw')
   |(refine aI rfl (.tmp 7) (.tmp 21) rfl (w.heap.size+1) _ _ _ _ rfl rfl s2 ⟨rfl,rfl,rfl,rfl⟩ ?_;intro w1 s3 oth;have s4:=oth.s4 s1 (by omega);have hb:=b2.trans (oth.below (Nat.le_succ _));have hck1:=keep hb hck;obtain⟨_,d1,_,_⟩:=s3.cells;clear s1 s2 oth b2 hc hc1 hcv hrun hck)
   |(go_at_call 82;refine (hdg _).mono ?_;rintro e w' ⟨rfl,hw'⟩;rw[hw'];clear hw')
   |(go_at_call 85;refine (hres _).mono ?_;rintro e w2 ⟨rfl,hb2⟩;have s5:=s3.up hb2;have s6:=s4.up hb2;have hB:=Below.thn hb hb2)
   |(refine bK rfl (.tmp 7) rfl (w.heap.size+1) rfl s5 ?_)
   |(refine aI rfl (.tmp 4) (.tmp 63) rfl (w.heap.size) _ _ _ _ rfl rfl s6 ⟨rfl,rfl,rfl,rfl⟩ ?_;intro w3 s7 oth2;obtain⟨q0,q1,q2,q3⟩:=s7.cells))
  refine bodyPost_ret (v:=.tuple #[mkV ⟨0,T,0,0,k⟩,.bool true]) (by simp[results,Tryz.results66,go_sem,q0,q1,q2,q3,mkV,fE]) rfl ⟨rfl,?_⟩
  exact hB.trans (oth2.below (Nat.le_refl _))
theorem one_us (T:List UInt8) (hT:(l.drop k).takeWhile inRn=T) (hn:0<T.length) (hu:l.getD k 0=95) :
  Calls Tryz.prog 66 #[.slice (some ⟨b,off,none⟩) l.length cap,.int .i64 k] w fun e w'=>e=.returned (.tuple #[mkV ⟨0,T,0,0,k⟩,.bool false])∧Below w.heap.size w w':=by
 have b1:=ae w z4
 have hc1:∀ t,t<l.length→(w.alloc z4).cell? ⟨b,off+t,none⟩=some (.int .u8 ((l.getD t 0).toNat:Int)):=fun t ht=>keep b1 (hc t ht)
 have hrun:=dP b off cap l k hlen (by omega) (w.alloc z4) hc1
 have htl:=iy inRn (l.drop k)
 rw[List.length_drop,hT] at htl
 have hpl:((l.drop k).take T.length)=T:=by have:=jd inRn (l.drop k);rw[hT] at this;exact this
 have hcv:=eY (w.alloc z4) b (off+k) T.length (cap-k) ((l.drop k).take T.length) (by rw[hpl]) (dR hc1 k T.length (by omega))
 rw[hpl] at hcv
 rw[hT] at hrun
 obtain⟨s1,s2⟩:=iX w
 have b2:=bC w z4 z4
 obtain⟨c,hcd⟩:∃ c,c=l.getD k 0:=⟨_,rfl⟩
 have hdg:=fun W=>df c W
 have hd:isDg c=false:=by rw[hcd,hu];decide
 rw[hd] at hdg
 have h95:((c.toNat:Int)==95)=true:=by rw[hcd,hu];rfl
 have hck:=hc k hk
 rw[← hcd] at hck
 clear hT hpl hcd hu hc
 go_enter Tryz.func66,Tryz.ntmps66
 go_wp2_with (first
   |(go_at_call 81;refine hrun.mono ?_;rintro e w' ⟨rfl,hw'⟩;rw[hw'];clear hw')
   |(refine aI rfl (.tmp 7) (.tmp 21) rfl (w.heap.size+1) _ _ _ _ rfl rfl s2 ⟨rfl,rfl,rfl,rfl⟩ ?_;intro w1 s3 oth;have s4:=oth.s4 s1 (by omega);have hb:=b2.trans (oth.below (Nat.le_succ _));have hck1:=keep hb hck;obtain⟨_,d1,_,_⟩:=s3.cells;clear s1 s2 oth b2 hc1 hcv hrun hck)
   |(go_at_call 82;refine (hdg _).mono ?_;rintro e w' ⟨rfl,hw'⟩;rw[hw'];clear hw')
   |(refine bK rfl (.tmp 7) rfl (w.heap.size+1) rfl s3 ?_)
   |(refine aI rfl (.tmp 4) (.tmp 55) rfl (w.heap.size) _ _ _ _ rfl rfl s4 ⟨rfl,rfl,rfl,rfl⟩ ?_;intro w3 s7 oth2;obtain⟨q0,q1,q2,q3⟩:=s7.cells))
 refine bodyPost_ret (v:=.tuple #[mkV ⟨0,T,0,0,k⟩,.bool false]) (by simp[results,Tryz.results66,go_sem,q0,q1,q2,q3,mkV,fE]) rfl ⟨rfl,?_⟩
 exact hb.trans (oth2.below (Nat.le_refl _))
theorem one_num (T:List UInt8) (hT:(l.drop k).takeWhile inRn=T) (hn:0<T.length) (hd:isDg (l.getD k 0)=true) :
  Calls Tryz.prog 66 #[.slice (some ⟨b,off,none⟩) l.length cap,.int .i64 k] w fun e w'=>e=.returned (.tuple #[mkV ⟨2,T,rdP T,rdQ T,k⟩,.bool (rdE T==0)])∧Below w.heap.size w w':=by
 have b1:=ae w z4
 have hc1:∀ t,t<l.length→(w.alloc z4).cell? ⟨b,off+t,none⟩=some (.int .u8 ((l.getD t 0).toNat:Int)):=fun t ht=>keep b1 (hc t ht)
 have hrun:=dP b off cap l k hlen (by omega) (w.alloc z4) hc1
 have htl:=iy inRn (l.drop k)
 rw[List.length_drop,hT] at htl
 have hpl:((l.drop k).take T.length)=T:=by have:=jd inRn (l.drop k);rw[hT] at this;exact this
 have hcv:=eY (w.alloc z4) b (off+k) T.length (cap-k) ((l.drop k).take T.length) (by rw[hpl]) (dR hc1 k T.length (by omega))
 rw[hpl] at hcv
 rw[hT] at hrun
 obtain⟨s1,s2⟩:=iX w
 have b2:=bC w z4 z4
 obtain⟨c,hcd⟩:∃ c,c=l.getD k 0:=⟨_,rfl⟩
 have hdg:=fun W=>df c W
 rw[← hcd] at hd
 rw[hd] at hdg
 have hck:=hc k hk
 rw[← hcd] at hck
 have hpa:=fun W=>refparse_w T (by omega) W
 obtain⟨x,hx⟩:∃ x,x=rdP T:=⟨_,rfl⟩
 obtain⟨y,hy⟩:∃ y,y=rdQ T:=⟨_,rfl⟩
 obtain⟨z,hz⟩:∃ z,z=rdE T:=⟨_,rfl⟩
 rw[← hx,← hy,← hz] at hpa ⊢
 clear hT hpl hcd hc hx hy hz hd
 go_enter Tryz.func66,Tryz.ntmps66
 go_wp2_with (first
   |(go_at_call 81;refine hrun.mono ?_;rintro e w' ⟨rfl,hw'⟩;rw[hw'];clear hw')
   |(refine aI rfl (.tmp 7) (.tmp 21) rfl (w.heap.size+1) _ _ _ _ rfl rfl s2 ⟨rfl,rfl,rfl,rfl⟩ ?_;intro w1 s3 oth;have s4:=oth.s4 s1 (by omega);have hb:=b2.trans (oth.below (Nat.le_succ _));have hck1:=keep hb hck;obtain⟨_,d1,_,_⟩:=s3.cells;clear s1 s2 oth b2 hc1 hcv hrun hck)
   |(go_at_call 82;refine (hdg _).mono ?_;rintro e w' ⟨rfl,hw'⟩;rw[hw'];clear hw')
   |(go_at_call 83;refine (hpa _).mono ?_;rintro e w2 ⟨rfl,hb2⟩;have s5:=s3.up hb2;have s6:=s4.up hb2;have hB:=Below.thn hb hb2;have hl1:=s5.lt;have s7:=s5.alloc (.cells #[.int .i64 x,.int .i64 y] 161);have s8:=s6.alloc (.cells #[.int .i64 x,.int .i64 y] 161);have hB2:=Below.thn hB (ae w2 (.cells #[.int .i64 x,.int .i64 y] 161));obtain⟨c0,c1,c2,c3⟩:=s7.cells;obtain⟨f0,f1,f2,f3⟩:=s7.frz)
   |(go_at_call 84;refine (refz_any _ _ _).mono ?_;rintro e w4 ⟨rfl,hw4⟩;have s9:=((s5.set0 (.int .i64 2)).alloc (.cells #[.int .i64 x,.int .i64 y] 161)).alloc (.cells #[.int .i64 x,.int .i64 y] 161);have s10:=((s6.other (a:=⟨w.heap.size+1,0,none⟩) (by simp) (.int .i64 2)).alloc (.cells #[.int .i64 x,.int .i64 y] 161)).alloc (.cells #[.int .i64 x,.int .i64 y] 161);have hB3:=bal (o:=.cells #[.int .i64 x,.int .i64 y] 161) (bal (o:=.cells #[.int .i64 x,.int .i64 y] 161) (hB.setCell (p:=⟨w.heap.size+1,0,none⟩) (Nat.le_succ _) (.int .i64 2)));rw[← hw4] at s9 s10 hB3;clear hw4;have t9:=s9.set2 (.complex .f64 (fl x) (fl y));have t10:=s10.other (a:=⟨w.heap.size+1,2,none⟩) (by simp) (.complex .f64 (fl x) (fl y)))
   |(refine wpList_store1 rfl 55 (.tmp 41) (.tmp 40) rfl (w.heap.size+1) 2 (.complex .f64 (fl x) (fl y)) rfl rfl rfl (sv_cplx _ _ _ _) (by rw[s9.cells.2.2.1];rfl) s9.frz.2.2.1 ?_)
   |(refine bK rfl (.tmp 7) rfl (w.heap.size+1) rfl t9 ?_)
   |(refine aI rfl (.tmp 4) (.tmp 42) rfl (w.heap.size) _ _ _ _ rfl rfl t10 ⟨rfl,rfl,rfl,rfl⟩ ?_;intro w3 s11 oth2;obtain⟨q0,q1,q2,q3⟩:=s11.cells))
 refine bodyPost_ret (v:=.tuple #[mkV ⟨2,T,x,y,k⟩,.bool (z==0)]) (by simp[results,Tryz.results66,go_sem,q0,q1,q2,q3,mkV]) rfl ⟨rfl,?_⟩
 exact (hB3.setCell (Nat.le_succ _) _).trans (oth2.below (Nat.le_refl _))
theorem one_sign (hT:(l.drop k).takeWhile inRn=[]) :
  Calls Tryz.prog 66 #[.slice (some ⟨b,off,none⟩) l.length cap,.int .i64 k] w fun e w'=>e=.returned (.tuple #[mkV ⟨3,dI (l.drop k),0,0,k⟩,.bool (decide (0<(dI (l.drop k)).length))])∧Below w.heap.size w w':=by
 have b1:=ae w z4
 have hc1:∀ t,t<l.length→(w.alloc z4).cell? ⟨b,off+t,none⟩=some (.int .u8 ((l.getD t 0).toNat:Int)):=fun t ht=>keep b1 (hc t ht)
 have hrun:=dP b off cap l k hlen (by omega) (w.alloc z4) hc1
 rw[hT] at hrun
 have hcv:=eY (w.alloc z4) b (off+k) 0 (cap-k) [] rfl (fun t ht=>absurd ht (by omega))
 obtain⟨S,hS⟩:∃ S,S=dI (l.drop k):=⟨_,rfl⟩
 have hSl:k+S.length≤l.length∧(l.drop k).take S.length=S:=by
  by_cases he:S=[]
  ·rw[he];exact⟨by simp;omega,rfl⟩
  ·rw[hS,drop_at hk] at he
   obtain⟨_,g2,g3⟩:=kC he
   rw[hS]
   rw[← drop_at hk] at g2 g3
   rw[List.length_drop] at g2
   exact⟨by omega,g3⟩
 obtain⟨hSl,hSt⟩:=hSl
 have hsg:=fun W h=>refsign_any b off cap l k hlen hk W h
 rw[← hS] at hsg ⊢
 obtain⟨s1,s2⟩:=iX w
 have b2:=bC w z4 z4
 have HC:Hid (∀ t,t<l.length→w.cell? ⟨b,off+t,none⟩=some (.int .u8 ((l.getD t 0).toNat:Int))):=hc
 clear hT hc hS
 go_enter Tryz.func66,Tryz.ntmps66
 go_wp2_with (first
   |(go_at_call 81;refine hrun.mono ?_;rintro e w' ⟨rfl,hw'⟩;rw[hw'];clear hw')
   |(refine aI rfl (.tmp 7) (.tmp 21) rfl (w.heap.size+1) _ _ _ _ rfl rfl s2 ⟨rfl,rfl,rfl,rfl⟩ ?_;intro w1 s3 oth;have s4:=oth.s4 s1 (by omega);have hb:=b2.trans (oth.below (Nat.le_succ _));clear s1 s2 oth b2 hc1 hcv hrun;obtain⟨c0,c1,c2,c3⟩:=s3.cells;obtain⟨f0,f1,f2,f3⟩:=s3.frz;have s5:=s3.set0 (.int .i64 3);have s6:=s4.other (a:=⟨w.heap.size+1,0,none⟩) (by simp) (.int .i64 3);have t5:=s5.set1 (.string (bs S));have t6:=s6.other (a:=⟨w.heap.size+1,1,none⟩) (by simp) (.string (bs S));have hB:=hb.setCell (p:=⟨w.heap.size+1,0,none⟩) (Nat.le_succ _) (.int .i64 3);have hcv2:=eY (w1.setCell ⟨w.heap.size+1,0,none⟩ (.int .i64 3)) b (off+k) S.length (cap-k) ((l.drop k).take S.length) (by rw[hSt]) (dR (fun t ht=>keep hB ((show ∀ t,t<l.length→_ from HC) t ht)) k S.length hSl);rw[hSt] at hcv2;have hsg1:=hsg w1 (fun t ht=>keep hb ((show ∀ t,t<l.length→_ from HC) t ht)))
   |(go_at_call 86;refine hsg1.mono ?_;rintro e w' ⟨rfl,hw'⟩;rw[hw'];clear hw')
   |(refine bK rfl (.tmp 7) rfl (w.heap.size+1) rfl t5 ?_)
   |(refine aI rfl (.tmp 4) (.tmp 76) rfl (w.heap.size) _ _ _ _ rfl rfl t6 ⟨rfl,rfl,rfl,rfl⟩ ?_;intro w3 s7 oth2;obtain⟨q0,q1,q2,q3⟩:=s7.cells))
 refine bodyPost_ret (v:=.tuple #[mkV ⟨3,S,0,0,k⟩,.bool (decide (0<S.length))]) (by simp[results,Tryz.results66,go_sem,q0,q1,q2,q3,mkV,fE]) rfl ⟨rfl,?_⟩
 exact (hB.setCell (Nat.le_succ _) _).trans (oth2.below (Nat.le_refl _))
theorem one_any :
  Calls Tryz.prog 66 #[.slice (some ⟨b,off,none⟩) l.length cap,.int .i64 k] w fun e w'=>(∃ m,e=.returned (.tuple #[mkV m,.bool (oneM rdN (l.drop k) k).isSome])∧∀ m',oneM rdN (l.drop k) k=some m'→m=m')∧Below w.heap.size w w':=by
 have hone:oneM rdN (l.drop k) k=if inRn (l.getD k 0) then runM rdN ((l.drop k).takeWhile inRn) k else mE (l.drop k) k:=by
  rw[drop_at hk]
  rfl
 rw[hone]
 clear hone
 by_cases hr:inRn (l.getD k 0)=true
 ·rw[if_pos hr]
  obtain⟨T,hT⟩:∃ T,(l.drop k).takeWhile inRn=T:=⟨_,rfl⟩
  have hTc:T=l.getD k 0::(l.drop (k+1)).takeWhile inRn:=by rw[← hT,drop_at hk,List.takeWhile_cons,if_pos hr]
  have hn:0<T.length:=by rw[hTc];simp
  rw[hT]
  by_cases hd:isDg (l.getD k 0)=true
  ·have hw:isWd T=false:=by
    cases h:isWd T with
    |false=>rfl
    |true=>
     obtain⟨c,r,e,hlt,_⟩:=ky h
     rw[hTc] at e
     cases e
     rw[iZ,decide_eq_true_eq] at hlt
     rw[iT,decide_eq_true_eq] at hd
     omega
   refine (one_num b off cap l k hlen hcap hk w hc T hT hn hd).mono ?_
   rintro e w' ⟨rfl,hb⟩
   have hrm:runM rdN T k=if rdOk T then some ⟨2,T,rdP T,rdQ T,k⟩ else none:=by
    rw[hTc] at hw ⊢
    unfold runM
    rw[hw]
    dsimp only
    rw[if_neg (by simp),if_pos hd]
    rfl
   rw[hrm]
   refine⟨⟨⟨2,T,rdP T,rdQ T,k⟩,?_,?_⟩,hb⟩
   ·unfold rdE
    cases rdOk T<;>rfl
   ·intro m' h
    split at h
    ·cases h;rfl
    ·cases h
  ·have hd':isDg (l.getD k 0)=false:=by simpa using hd
   by_cases hu:l.getD k 0=95
   ·refine (one_us b off cap l k hlen hcap hk w hc T hT hn hu).mono ?_
    rintro e w' ⟨rfl,hb⟩
    have hrm:runM rdN T k=none:=by
     have hw:isWd T=false:=by
      cases h:isWd T with
      |false=>rfl
      |true=>
       obtain⟨c,r,e,hlt,_⟩:=ky h
       rw[hTc,hu] at e
       cases e
       exact absurd hlt (by decide)
     rw[hTc,hu] at hw ⊢
     unfold runM
     rw[hw]
     rfl
    rw[hrm]
    exact⟨⟨_,rfl,fun m' h=>by cases h⟩,hb⟩
   ·refine (one_name b off cap l k hlen hcap hk w hc T hT hn hd' hu).mono ?_
    rintro e w' ⟨rfl,hb⟩
    have hlt:isLt (l.getD k 0)=true:=by
     rw[inRn_eq,decide_eq_true_eq] at hr
     rw[iT,decide_eq_false_iff_not] at hd'
     have hu':(l.getD k 0).toNat≠95:=fun e=>hu (UInt8.toNat_inj.1 e)
     rw[iZ,decide_eq_true_eq]
     omega
    have hrm:runM rdN T k=some ⟨if isWd T then 1 else 0,T,0,0,k⟩:=by
     unfold runM
     cases hw:isWd T with
     |true=>rfl
     |false=>
      rw[if_neg (by simp)]
      conv=>lhs;rw[hTc]
      dsimp only
      rw[hd',hlt,← hTc]
      rfl
    rw[hrm]
    exact⟨⟨_,rfl,fun m' h=>by cases h;rfl⟩,hb⟩
 ·rw[if_neg hr]
  have hT:(l.drop k).takeWhile inRn=[]:=by rw[drop_at hk,List.takeWhile_cons,if_neg hr]
  refine (one_sign b off cap l k hlen hcap hk w hc hT).mono ?_
  rintro e w' ⟨rfl,hb⟩
  refine⟨⟨⟨3,dI (l.drop k),0,0,k⟩,?_,?_⟩,hb⟩
  ·unfold mE
   by_cases h:dI (l.drop k)=[]
   ·rw[if_pos h,h];rfl
   ·rw[if_neg h]
    have:0<(dI (l.drop k)).length:=List.length_pos_iff.2 h
    simp[this]
  ·intro m' h
   unfold mE at h
   split at h
   ·cases h
   ·cases h;rfl
end
structure Wr (w0 w:World) (v:Value) (ms:List Mk):Prop where
 bel:Below w0.heap.size w0 w
 own:w.ownsRow w0.heap.size 135 4 v ms.length (mksC ms)
theorem Wr.up {w0 w w':World} {v:Value} {ms:List Mk} (h:Wr w0 w v ms) (hb:Below w.heap.size w w'):Wr w0 w' v ms:=⟨Below.thn h.bel hb,aX h.own hb⟩
theorem Wr.app {w0 w w':World} {v v':Value} {ms:List Mk} {cs:List Value} (m:Mk) (hm:mkC m=cs) (h:Wr w0 w v ms) (hown:w'.ownsRow w0.heap.size 135 4 v' (ms.length+1) (mksC ms++cs)) (hg:w.grownBy w' v.ownBlock):Wr w0 w' v' (ms++[m]):=by
 subst hm
 have hb:Below w0.heap.size w w':=(Below.refl _ w).grown hg h.bel.size (owns_low h.own)
 refine⟨h.bel.trans hb,?_⟩
 rw[mksC_app]
 simpa [mksC] using hown
theorem mV {w:World} {B:Nat} {v:Value} {n:Nat} {xs:List Value} (h:w.ownsRow B 135 4 v n xs):∀ k,v.ownBlock=some k→k<w.heap.size:=by
 intro k hk
 rcases h.2 with⟨rfl,_⟩|⟨g,cap,cur,rfl,h2,h3,_⟩
 ·simp[Value.ownBlock] at hk
 ·simp[Value.ownBlock] at hk
  subst hk
  rcases Nat.lt_or_ge g w.heap.size with j|j
  ·exact j
  ·rw[Array.getElem?_eq_none j] at h3;cases h3
def pV (w w':World) (e:Ending):Cu→Prop
 |.ok ms=>∃ g c,e=.returned (.tuple #[.slice (some ⟨g,0,none⟩) ms.length c,.int .i64 (-1)])∧w'.ownsRow w.heap.size 135 4 (.slice (some ⟨g,0,none⟩) ms.length c) ms.length (mksC ms)
 |.bad k=>e=.returned (.tuple #[.slice none 0 0,.int .i64 k])
theorem step_one {l:List UInt8} {k:Nat} (h:k<l.length) (hb:isBl (l.getD k 0)=false) (hc:l.getD k 0≠35) :
  cut rdN (l.drop k) k=match oneM rdN (l.drop k) k with|none=>.bad k|some m=>(cut rdN (l.drop (k+m.text.length)) (k+m.text.length)).pre [m]:=by
 have hs:stp rdN (l.drop k) k=match oneM rdN (l.drop k) k with|none=>.bad|some m=>.mark m:=by
  rw[drop_at h]
  exact stp_one hb hc
 cases hm:oneM rdN (l.drop k) k with
 |none=>rw[hm] at hs;exact kN rdN hs
 |some m=>
  rw[hm] at hs
  rw[je rdN hs,List.drop_drop]
theorem one_len {l:List UInt8} {k:Nat} {m:Mk} (h:k<l.length) (hm:oneM rdN (l.drop k) k=some m):1≤m.text.length∧k+m.text.length≤l.length:=by
 rw[drop_at h] at hm
 obtain⟨h1,h2,_⟩:=gH rdN hm
 rw[← drop_at h,List.length_drop] at h2
 exact⟨h1,by omega⟩
theorem refMarks_some (b off cap:Nat) (l:List UInt8) (_hl:l≠[]) (hlen:l.length≤16777216) (hcap:l.length≤cap) (w:World) (hT:Bd w (some ⟨b,off,none⟩) l) :
  Calls Tryz.prog 42 #[.slice (some ⟨b,off,none⟩) l.length cap] w fun e w'=>pV w w' e (cut rdN l 0)∧Below w.heap.size w w':=by
 obtain⟨i0,hi,hz0,hz1,hz2⟩:=info_parts Tryz.infoMk
 go_enter Tryz.func42,Tryz.ntmps42
 go_wp2
 go_loopw [4,5] (fun a i wr=>∃ (v:Value) (ms:List Mk) (k:Nat),v=a∧k≤l.length∧i=.int .i64 k∧Wr w wr v ms∧Hid (ms.length≤k∧cut rdN l 0=(cut rdN (l.drop k) k).pre ms)) (fun _ i _=>l.length-(intOf i).toNat)
 case atStart=>exact⟨_,[],0,rfl,Nat.zero_le _,rfl,⟨Below.refl _ _,⟨rfl,.inl ⟨rfl,rfl⟩⟩⟩,Nat.le_refl _,by rw[pre_nil];rfl⟩
 case round=>
  obtain⟨v,ms,k,hv,hk,rfl,hW,hc⟩:=hrel
  subst hv
  have hml:ms.length≤16777216:=by have:=(show _∧_ from hc).1;omega
  by_cases hk3:k<l.length
  ·obtain⟨c,hcd⟩:∃ c,c=l.getD k 0:=⟨_,rfl⟩
   have hck:=keep hW.bel (hT.cells k hk3)
   rw[← hcd] at hck
   have HC:Hid (c=l.getD k 0):=hcd
   clear hcd
   by_cases hb:isBl c=true
   ·have hbl:=fH c wr
    rw[hb] at hbl
    have HW:Hid (Wr w wr v ms):=hW
    clear hW hT
    go_wp2_with (go_at_call 65;refine hbl.mono ?_;rintro e w1 ⟨rfl,hw1⟩;rw[hw1];clear hw1)
    go_roundw
    case rel=>
     refine⟨v,ms,k+1,rfl,by omega,by go_num,HW,?_,?_⟩
     ·have:=(show _∧_ from hc).1;omega
     ·rw[(show _∧_ from hc).2,step_blank hk3 (by rw[← show c=_ from HC];exact hb)]
    case measure=>simp[intOf];omega
   ·have hb':isBl c=false:=by simpa using hb
    have hbl:=fH c wr
    rw[hb'] at hbl
    by_cases h35:c=35
    ·have e35:((c.toNat:Int)==35)=true:=by rw[h35];rfl
     have H35:Hid (c=35):=h35
     have HW:Hid (Wr w wr v ms):=hW
     have hTr:∀ t,t<l.length→wr.cell? ⟨b,off+t,none⟩=some (.int .u8 ((l.getD t 0).toNat:Int)):=fun t ht=>keep hW.bel (hT.cells t ht)
     have hst:Hid (cut rdN l 0=(cut rdN ((l.drop k).dropWhile (· != 10)) (k+((l.drop k).takeWhile (· != 10)).length)).pre ms):=by
      show cut rdN l 0=_
      rw[(show _∧_ from hc).2,step_hash hk3 (by rw[← show c=_ from HC];exact hb') (by rw[← show c=_ from HC];exact h35)]
     have hlow:=(show _∧_ from hc).1
     clear h35 hW hT hc
     go_wp2_with (go_at_call 65;refine hbl.mono ?_;rintro e w1 ⟨rfl,hw1⟩;rw[hw1];clear hw1)
     go_hide hQ
     go_loop [5] (fun i=>∃ j:Nat,k≤j∧j≤l.length∧i=.int .i64 j∧Hid (cut rdN l 0=(cut rdN ((l.drop j).dropWhile (· != 10)) (j+((l.drop j).takeWhile (· != 10)).length)).pre ms)) (fun i=>l.length-(intOf i).toNat)
     case atStart=>exact⟨k,Nat.le_refl _,hk,rfl,hst⟩
     case round=>
      obtain⟨j,hkj,hj,rfl,hcj⟩:=hrel
      by_cases hj3:j<l.length
      ·obtain⟨d,hdd⟩:∃ d,d=l.getD j 0:=⟨_,rfl⟩
       have hdk:=hTr j hj3
       rw[← hdd] at hdk
       have HD:Hid (d=l.getD j 0):=hdd
       clear hdd hTr hck hbl e35
       by_cases h10:d=10
       ·have e10:((d.toNat:Int) != 10)=false:=by rw[h10];rfl
        have H10:Hid (d=10):=h10
        clear h10
        go_wp2
        subst hQ
        go_wp2
        go_roundw
        case rel=>
         refine⟨v,ms,j,rfl,hj,by go_num,HW,by omega,?_⟩
         have:=show cut rdN l 0=_ from hcj
         rw[drop_at hj3,← show d=_ from HD,show d=10 from H10,List.dropWhile_cons,if_neg (by decide),List.takeWhile_cons,if_neg (by decide)] at this
         rw[drop_at hj3,← show d=_ from HD,show d=10 from H10]
         exact this
        case measure=>
         have:k≠j:=by
          intro e
          subst e
          have h1:=(show c=_ from HC).symm.trans (show c=35 from H35)
          have h2:=(show d=_ from HD).symm.trans (show d=10 from H10)
          rw[h1] at h2
          exact absurd h2 (by decide)
         simp[intOf];omega
       ·have e10:((d.toNat:Int) != 10)=true:=by
         rw[bne_iff_ne];intro e;exact h10 (UInt8.toNat_inj.1 (by have:(10:UInt8).toNat=10:=rfl;omega))
        have H10:Hid (d≠10):=h10
        clear h10
        go_wp2
        go_round
        case rel=>
         refine⟨j+1,by omega,by omega,by go_num,?_⟩
         have hpc:(d != 10)=true:=by rw[bne_iff_ne];exact H10
         have:=show cut rdN l 0=_ from hcj
         rw[drop_at hj3,← show d=_ from HD,List.dropWhile_cons,if_pos hpc,List.takeWhile_cons,if_pos hpc,List.length_cons] at this
         show cut rdN l 0=_
         rw[this,show j+1+(List.takeWhile (· != 10) (l.drop (j+1))).length=j+((List.takeWhile (· != 10) (l.drop (j+1))).length+1) by omega]
        case measure=>simp[intOf];omega
      ·clear hTr hck hbl e35
       go_wp2
       subst hQ
       go_wp2
       go_roundw
       case rel=>
        refine⟨v,ms,j,rfl,hj,by go_num,HW,by omega,?_⟩
        have:=show cut rdN l 0=_ from hcj
        rw[List.drop_eq_nil_of_le (by omega)] at this ⊢
        exact this
       case measure=>simp[intOf];omega
    ·have e35:((c.toNat:Int)==35)=false:=by
      rw[beq_eq_false_iff_ne];intro e;exact h35 (UInt8.toNat_inj.1 (by have:(35:UInt8).toNat=35:=rfl;omega))
     have hs1:=step_one hk3 (by rw[← show c=_ from HC];exact hb') (by rw[← show c=_ from HC];exact h35)
     have hon:=one_any b off cap l k hlen hcap hk3 wr (fun t ht=>keep hW.bel (hT.cells t ht))
     have HW:Hid (Wr w wr v ms):=hW
     have hlow:=(show _∧_ from hc).1
     have hcu:=(show _∧_ from hc).2
     rw[hs1] at hcu
     have hszr:=hW.bel.size
     clear h35 hW hT hc hs1
     cases hm:oneM rdN (l.drop k) k with
     |none=>
      rw[hm] at hon hcu
      have HB:Hid (cut rdN l 0=.bad k):=hcu
      clear hm hcu
      go_wp2_with (first
       |(go_at_call 65;refine hbl.mono ?_;rintro e w1 ⟨rfl,hw1⟩;rw[hw1];clear hw1)
       |(go_at_call 66;refine hon.mono ?_;rintro e w2 ⟨⟨m,rfl,_⟩,hb2⟩;have s2:=S4.new w2 (.int .i64 0) (.string ⟨#[]⟩) (.complex .f64 0 0) (.int .i64 0);have hB:=Below.thn (show Wr w wr v ms from HW).bel hb2;simp only[mkV,Option.isSome_none])
       |(refine aI rfl (.tmp 6) (.tmp 41) rfl w2.heap.size _ _ _ _ rfl rfl s2 ⟨rfl,rfl,rfl,rfl⟩ ?_;intro w3 s3 oth3))
      go_ret2
      refine⟨?_,(bal hB).trans (oth3.below hB.size)⟩
      rw[show cut rdN l 0=_ from HB]
      exact rfl
     |some m=>
      rw[hm] at hon hcu
      obtain⟨hm1,hm2⟩:=one_len hk3 hm
      have HB:Hid (cut rdN l 0=(cut rdN (l.drop (k+m.text.length)) (k+m.text.length)).pre (ms++[m])):=by
       show cut rdN l 0=_
       have hcu':cut rdN l 0=((cut rdN (l.drop (k+m.text.length)) (k+m.text.length)).pre [m]).pre ms:=hcu
       rw[hcu',← pre_pre]
      have hz:=bA m.text
      clear hm hcu
      go_wp2_with (first
       |(go_at_call 65;refine hbl.mono ?_;rintro e w1 ⟨rfl,hw1⟩;rw[hw1];clear hw1)
       |(go_at_call 66;refine hon.mono ?_;rintro e w2 ⟨⟨m0,rfl,hm0⟩,hb2⟩;have e0:=(hm0 m rfl).symm;subst e0;clear hm0;have s2:=S4.new w2 (.int .i64 0) (.string ⟨#[]⟩) (.complex .f64 0 0) (.int .i64 0);have HW2:Hid (Wr w w2 v ms):=(show Wr w wr v ms from HW).up hb2;have hsz2:=(show Wr w w2 v ms from HW2).bel.size;simp only[mkV,Option.isSome_some];clear hck hbl)
       |(refine aI rfl (.tmp 6) (.tmp 41) rfl w2.heap.size _ _ _ _ rfl rfl s2 ⟨rfl,rfl,rfl,rfl⟩ ?_;intro w3 s3 oth3;have HW3:Hid (Wr w w3 v ms):=(show Wr w w2 v ms from HW2).up ((ae w2 z4).trans (oth3.below (Nat.le_refl _)));have hsz3:=(show Wr w w3 v ms from HW3).bel.size)
       |(refine bK rfl (.tmp 6) rfl w2.heap.size rfl s3 ?_)
       |(at_builtin;refine wpList_append_own _ rfl (.tmp 46) (.tmp 48) 87 rfl w.heap.size 135 i0 (.agg #[.int .i64 0,.string ⟨#[]⟩,.complex .f64 0 0,.int .i64 0]) 4 48 Tryz.underMs hi hz0 hz1 hz2 rfl (by decide) _ _ _ rfl (aX (show Wr w w3 v ms from HW3).own (ae _ _)) ⟨w3.heap.size,0,none⟩ 1 1 [.int .i64 m.kind,.string (bs m.text),.complex .f64 (fl m.p) (fl m.q),.int .i64 m.at_] rfl rfl (new4 w3 [.int .i64 m.kind,.string (bs m.text),.complex .f64 (fl m.p) (fl m.q),.int .i64 m.at_] 135) (pU _ _ _ _ _) (by unfold maxLen;omega) (by omega) (by simp;omega) ?_;intro v' w9 hown' hgrow _;have HW9:Hid (Wr w w9 v' (ms++[m])):=((show Wr w w3 v ms from HW3).up (ae _ (.cells #[.int .i64 m.kind,.string (bs m.text),.complex .f64 (fl m.p) (fl m.q),.int .i64 m.at_] 135))).app (m) rfl hown' hgrow;have d9:=hgrow.cell ((s3.alloc (.cells #[.int .i64 m.kind,.string (bs m.text),.complex .f64 (fl m.p) (fl m.q),.int .i64 m.at_] 135)).cells.2.1) (fun e=>absurd (mV (show Wr w w2 v ms from HW2).own _ e.symm) (Nat.lt_irrefl _));clear hown' hgrow))
      go_roundw
      case rel=>
       refine⟨v',ms++[m],k+m.text.length,rfl,hm2,?_,HW9,?_,HB⟩
       ·go_num
       ·simp;omega
      case measure=>simp[intOf];omega
  ·have hke:k=l.length:=by omega
   subst hke
   have HW:Hid (Wr w wr v ms):=hW
   have hsz:=hW.bel.size
   clear hT hW
   go_wp2_with (at_builtin;refine wpList_append_own _ rfl (.tmp 55) (.tmp 59) 87 rfl w.heap.size 135 i0 (.agg #[.int .i64 0,.string ⟨#[]⟩,.complex .f64 0 0,.int .i64 0]) 4 48 Tryz.underMs hi hz0 hz1 hz2 rfl (by decide) _ _ _ rfl (aX (show Wr w wr v ms from HW).own (ae _ _)) ⟨wr.heap.size,0,none⟩ 1 1 [.int .i64 4,.string ⟨#[]⟩,.complex .f64 0 0,.int .i64 l.length] rfl rfl (new4 wr [.int .i64 4,.string ⟨#[]⟩,.complex .f64 0 0,.int .i64 l.length] 135) (pU _ _ _ _ _) (by unfold maxLen;omega) (by omega) (by simp;omega) ?_;intro v' w9 hown' hgrow _;have HW9:Hid (Wr w w9 v' (ms++[endM l.length])):=((show Wr w wr v ms from HW).up (ae _ (.cells #[.int .i64 4,.string ⟨#[]⟩,.complex .f64 0 0,.int .i64 l.length] 135))).app (endM l.length) (mK _) hown' hgrow;clear hown' hgrow)
   have ho:=(show Wr w w9 v' (ms++[endM l.length]) from HW9).own
   rcases ho.2 with⟨_,h0⟩|⟨g,cp,cur,rfl,_⟩
   ·simp at h0
   ·go_ret2
    refine⟨?_,(show Wr w w9 _ (ms++[endM l.length]) from HW9).bel⟩
    rw[(show _∧_ from hc).2,List.drop_length,nM]
    exact⟨g,cp,rfl,ho⟩
theorem refMarks_nil (ao:Option Addr) (cap:Nat) (w:World) :
  Calls Tryz.prog 42 #[.slice ao 0 cap] w fun e w'=>pV w w' e (cut rdN [] 0)∧Below w.heap.size w w':=by
 obtain⟨i0,hi,hz0,hz1,hz2⟩:=info_parts Tryz.infoMk
 obtain⟨v,hv⟩:∃ v,v=Value.slice none 0 0:=⟨_,rfl⟩
 obtain⟨ms,hms⟩:∃ ms:List Mk,ms=[]:=⟨_,rfl⟩
 have HW:Hid (Wr w w v ms):=by rw[hv,hms];exact⟨Below.refl _ _,⟨rfl,.inl ⟨rfl,rfl⟩⟩⟩
 have hml:ms.length=0:=by rw[hms];rfl
 go_enter Tryz.func42,Tryz.ntmps42
 go_wp2
 refine wp_loop_rounds 1 ?_
 rw[rounds_succ]
 rw[← hv]
 go_wp2_with (at_builtin;refine wpList_append_own _ rfl (.tmp 55) (.tmp 59) 87 rfl w.heap.size 135 i0 (.agg #[.int .i64 0,.string ⟨#[]⟩,.complex .f64 0 0,.int .i64 0]) 4 48 Tryz.underMs hi hz0 hz1 hz2 rfl (by decide) _ _ _ rfl (aX (show Wr w w v ms from HW).own (ae _ _)) ⟨w.heap.size,0,none⟩ 1 1 [.int .i64 4,.string ⟨#[]⟩,.complex .f64 0 0,.int .i64 0] rfl rfl (new4 w [.int .i64 4,.string ⟨#[]⟩,.complex .f64 0 0,.int .i64 0] 135) (pU _ _ _ _ _) (by unfold maxLen;omega) (by omega) (by simp) ?_;intro v' w9 hown' hgrow _;have HW9:Hid (Wr w w9 v' (ms++[endM 0])):=((show Wr w w v ms from HW).up (ae _ (.cells #[.int .i64 4,.string ⟨#[]⟩,.complex .f64 0 0,.int .i64 0] 135))).app (endM 0) (mK 0) hown' hgrow;clear hown' hgrow)
 have ho:=(show Wr w w9 v' (ms++[endM 0]) from HW9).own
 have hbel:=(show Wr w w9 v' (ms++[endM 0]) from HW9).bel
 subst hms
 rcases ho.2 with⟨_,h0⟩|⟨g,cp,cur,rfl,_⟩
 ·simp at h0
 ·go_ret2
  refine⟨?_,hbel⟩
  rw[nM]
  exact⟨g,cp,rfl,ho⟩
theorem refMarks_any (ao:Option Addr) (cap:Nat) (l:List UInt8) (hlen:l.length≤16777216) (hcap:l.length≤cap) (w:World) (hT:Bd w ao l) :
  Calls Tryz.prog 42 #[.slice ao l.length cap] w fun e w'=>pV w w' e (cut rdN l 0)∧Below w.heap.size w w':=by
 by_cases hl:l=[]
 ·subst hl
  exact refMarks_nil ao cap w
 ·obtain⟨b,off,rfl,_⟩:=hT.pl hl
  exact refMarks_some b off cap l hl hlen hcap w hT
end Go.Proofs.YtimoappbefindaaGreat
