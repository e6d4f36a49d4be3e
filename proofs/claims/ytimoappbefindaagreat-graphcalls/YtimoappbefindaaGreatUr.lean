/-
  3 texts in one: what each proves stands at its head.
-/
import Derived.Test.YtimoappbefindaaGreatRw
import Derived.Deep.RegionWith
namespace Go.Proofs.YtimoappbefindaaGreat
open Go.RowKit Go.Maps
set_option maxRecDepth 100000
def snO (env:List (List UInt8)) (op:Int) (name tail:List UInt8) (ty p q:Int) (xs:List Ex) (i:Nat):List (Ex × Bool):=if op=6∨op=7 then [(.mk op name tail ty p q xs i,decide (op=6∧name ∉ env))] else []
mutual
def snE (env:List (List UInt8)):Ex→List (Ex × Bool)
 |.mk op name tail ty p q xs i=>snO env op name tail ty p q xs i++snL env op name tail 0 xs
def snL (env:List (List UInt8)) (op:Int) (name tail:List UInt8) (i:Nat):List Ex→List (Ex × Bool)
 |[]=>[]
 |x::xs=>snE (env++bnd6 op name tail i) x++snL env op name tail (i+1) xs
end
section
variable (env:List (List UInt8)) (op:Int) (name tail:List UInt8)
theorem oN (ty p q:Int) (xs:List Ex) (i:Nat):snE env (.mk op name tail ty p q xs i)=snO env op name tail ty p q xs i++snL env op name tail 0 xs:=by rw[snE]
theorem jg (i:Nat):snL env op name tail i []=[]:=by rw[snL]
theorem eU (i:Nat) (x:Ex) (xs:List Ex):snL env op name tail i (x::xs)=snE (env++bnd6 op name tail i) x++snL env op name tail (i+1) xs:=by rw[snL]
theorem pR:∀ (xs:List Ex) (i k:Nat),k<xs.length→snL env op name tail i (xs.take (k+1))=snL env op name tail i (xs.take k)++snE (env++bnd6 op name tail (i+k)) (xs.getD k ed)
 |[],_,_,h=>by simp at h
 |x::xs,i,0,_=>by simp[eU,jg]
 |x::xs,i,k+1,h=>by
  rw[List.take_succ_cons,eU,pR xs (i+1) k (by simpa using h),List.take_succ_cons,eU,List.getD_cons_succ,show i+1+k=i+(k+1) by omega,List.append_assoc]
theorem qy (ty p q:Int) (xs:List Ex) (i:Nat):(snO env op name tail ty p q xs i).length≤1:=by
 unfold snO
 split<;>simp
end
mutual
theorem kF (env:List (List UInt8)):∀ x:Ex,(snE env x).length≤szE x
 |.mk op name tail ty p q xs i=>by
  rw[oN,bP,List.length_append]
  have:=qy env op name tail ty p q xs i
  have:=nK env op name tail 0 xs
  omega
theorem nK (env:List (List UInt8)) (op:Int) (name tail:List UInt8) (i:Nat):∀ xs:List Ex,(snL env op name tail i xs).length≤szL xs
 |[]=>by rw[jg];simp
 |x::xs=>by
  rw[eU,aO,List.length_append]
  have:=kF (env++bnd6 op name tail i) x
  have:=nK env op name tail (i+1) xs
  omega
end
theorem SnW.up {w w':World} {A:Nat→Prop} {B:Nat} {v:Value} {ys:List (Ex × Bool)} (h:SnW w A B v ys) (hb:Below w.heap.size w w'):SnW w' A B v ys:=by
 obtain⟨cs,h1,h2⟩:=h
 exact⟨cs,bi h1 fun b hk=>hb.block b (aR h1 b hk).2,gu (fun b _ hl=>hb.block b hl) h2⟩
theorem lit55 (f:Nat→Value):((List.range 55).map f).toArray=#[f 0,f 1,f 2,f 3,f 4,f 5,f 6,f 7,f 8,f 9,f 10,f 11,f 12,f 13,f 14,f 15,f 16,f 17,f 18,f 19,f 20,f 21,f 22,f 23,f 24,f 25,f 26,f 27,f 28,f 29,f 30,f 31,f 32,f 33,f 34,f 35,f 36,f 37,f 38,f 39,f 40,f 41,f 42,f 43,f 44,f 45,f 46,f 47,f 48,f 49,f 50,f 51,f 52,f 53,f 54]:=rfl
theorem tmps55 (a:Act) (h:a.tmps.size=55):a.tmps=((List.range 55).map (Rv.ev a)).toArray:=by
 apply Array.ext
 ·simp[h]
 ·intro i h1 h2
  simp[Rv.ev,Act.eval,h1]
theorem offE {x0 x1 x2 x3 x4 x5 x6 x7 x8 x9 x10 x11 x12 x13 x14 x15 x16 x17 x18 x19 x20 x21 x22 x23 x24 x25 x26 x27 x28 x29 x30 x31 x32 x33 x34 x35 x36 x37 x38 x39 x40 x41 x42 x43 x44 x45 x46 x47 x48 x49 x50 x51 x52 x53 x54:Value} {a:Act} (h:Rv.Offs 16 dsE { tmps:=#[x0,x1,x2,x3,x4,x5,x6,x7,x8,x9,x10,x11,x12,x13,x14,x15,x16,x17,x18,x19,x20,x21,x22,x23,x24,x25,x26,x27,x28,x29,x30,x31,x32,x33,x34,x35,x36,x37,x38,x39,x40,x41,x42,x43,x44,x45,x46,x47,x48,x49,x50,x51,x52,x53,x54],defers:=[] } a):∃ y5 y17 y18 y19 y20 y21 y22 y23 y24 y25 y26 y27 y28 y29 y30 y31,Rv.ev a 5=y5∧a={ tmps:=#[x0,x1,x2,x3,x4,y5,x6,x7,x8,x9,x10,x11,x12,x13,x14,x15,x16,y17,y18,y19,y20,y21,y22,y23,y24,y25,y26,y27,y28,y29,y30,y31,x32,x33,x34,x35,x36,x37,x38,x39,x40,x41,x42,x43,x44,x45,x46,x47,x48,x49,x50,x51,x52,x53,x54],defers:=[] }:=by
 refine⟨Rv.ev a 5,Rv.ev a 17,Rv.ev a 18,Rv.ev a 19,Rv.ev a 20,Rv.ev a 21,Rv.ev a 22,Rv.ev a 23,Rv.ev a 24,Rv.ev a 25,Rv.ev a 26,Rv.ev a 27,Rv.ev a 28,Rv.ev a 29,Rv.ev a 30,Rv.ev a 31,rfl,?_⟩
 have e:=tmps55 a h.size
 rw[lit55] at e
 have h0:Rv.ev a 0=x0:=h.same 0 (by decide)
 have h1:Rv.ev a 1=x1:=h.same 1 (by decide)
 have h2:Rv.ev a 2=x2:=h.same 2 (by decide)
 have h3:Rv.ev a 3=x3:=h.same 3 (by decide)
 have h4:Rv.ev a 4=x4:=h.same 4 (by decide)
 have h6:Rv.ev a 6=x6:=h.same 6 (by decide)
 have h7:Rv.ev a 7=x7:=h.same 7 (by decide)
 have h8:Rv.ev a 8=x8:=h.same 8 (by decide)
 have h9:Rv.ev a 9=x9:=h.same 9 (by decide)
 have h10:Rv.ev a 10=x10:=h.same 10 (by decide)
 have h11:Rv.ev a 11=x11:=h.same 11 (by decide)
 have h12:Rv.ev a 12=x12:=h.same 12 (by decide)
 have h13:Rv.ev a 13=x13:=h.same 13 (by decide)
 have h14:Rv.ev a 14=x14:=h.same 14 (by decide)
 have h15:Rv.ev a 15=x15:=h.same 15 (by decide)
 have h16:Rv.ev a 16=x16:=h.same 16 (by decide)
 have h32:Rv.ev a 32=x32:=h.same 32 (by decide)
 have h33:Rv.ev a 33=x33:=h.same 33 (by decide)
 have h34:Rv.ev a 34=x34:=h.same 34 (by decide)
 have h35:Rv.ev a 35=x35:=h.same 35 (by decide)
 have h36:Rv.ev a 36=x36:=h.same 36 (by decide)
 have h37:Rv.ev a 37=x37:=h.same 37 (by decide)
 have h38:Rv.ev a 38=x38:=h.same 38 (by decide)
 have h39:Rv.ev a 39=x39:=h.same 39 (by decide)
 have h40:Rv.ev a 40=x40:=h.same 40 (by decide)
 have h41:Rv.ev a 41=x41:=h.same 41 (by decide)
 have h42:Rv.ev a 42=x42:=h.same 42 (by decide)
 have h43:Rv.ev a 43=x43:=h.same 43 (by decide)
 have h44:Rv.ev a 44=x44:=h.same 44 (by decide)
 have h45:Rv.ev a 45=x45:=h.same 45 (by decide)
 have h46:Rv.ev a 46=x46:=h.same 46 (by decide)
 have h47:Rv.ev a 47=x47:=h.same 47 (by decide)
 have h48:Rv.ev a 48=x48:=h.same 48 (by decide)
 have h49:Rv.ev a 49=x49:=h.same 49 (by decide)
 have h50:Rv.ev a 50=x50:=h.same 50 (by decide)
 have h51:Rv.ev a 51=x51:=h.same 51 (by decide)
 have h52:Rv.ev a 52=x52:=h.same 52 (by decide)
 have h53:Rv.ev a 53=x53:=h.same 53 (by decide)
 have h54:Rv.ev a 54=x54:=h.same 54 (by decide)
 rw[h0,h1,h2,h3,h4,h6,h7,h8,h9,h10,h11,h12,h13,h14,h15,h16,h32,h33,h34,h35,h36,h37,h38,h39,h40,h41,h42,h43,h44,h45,h46,h47,h48,h49,h50,h51,h52,h53,h54] at e
 have hd:a.defers=[]:=h.def_
 cases a
 simp only at e hd
 rw[hd]
 exact congrArg (fun t=>({ tmps:=t,defers:=[] }:Act)) e
set_option maxHeartbeats 16000000 in
theorem seen_any:∀ (n:Nat) (x:Ex),szE x≤n→n≤65536→∀ (w:World) (A:Nat→Prop) (us:List Value) (env:List (List UInt8)) (an:Option Addr) (cn:Nat),ExW w A x us→(∀ k,A k→k<w.heap.size)→Ns w an env→(an=none→cn=0)→env.length+2*szE x≤100000000 →
  Calls Tryz.prog 73 #[.agg us.toArray,.slice an env.length cn] w fun e w'=>(∃ v,e=.returned v∧SnW w' A w.heap.size v (snE env x))∧Below w.heap.size w w':=by
 intro n
 induction n with
 |zero=>intro x h;have:=eu x;omega
 |succ n ih=>
  intro x ht hn w A us env an cn hx hA hN hcn hen
  have IH:Hid _:=ih
  clear ih
  have HCN:Hid (an=none→cn=0):=hcn
  clear hcn
  cases hx with
  |mk hl=>
   rename_i op name tail ty p q xs i ao c
   rw[bP] at ht hen
   have hlen:=dH xs
   have hb0:=ae w (.cells #[.int .i64 op,.string (bs name),.string (bs tail),.int .i64 ty,.complex .f64 (fl p) (fl q),.slice ao xs.length c,.int .i64 i] 58)
   have hL:=Bk.new w 58 #[.int .i64 op,.string (bs name),.string (bs tail),.int .i64 ty,.complex .f64 (fl p) (fl q),.slice ao xs.length c,.int .i64 i]
   have hW0:(w.alloc (.cells #[.int .i64 op,.string (bs name),.string (bs tail),.int .i64 ty,.complex .f64 (fl p) (fl q),.slice ao xs.length c,.int .i64 i] 58)).heap.size=w.heap.size+1:=by simp
   have hl0:=hl.up hb0
   have hN0:=hN.up hb0
   go_enter Tryz.func73,Tryz.ntmps73
   go_upto_region 2 with fail
   generalize w.alloc (.cells #[.int .i64 op,.string (bs name),.string (bs tail),.int .i64 ty,.complex .f64 (fl p) (fl q),.slice ao xs.length c,.int .i64 i] 58)=W at *
   obtain⟨c0,c1,c2,c3,c4,c5,c6⟩:=Bk.seven (show Bk W w.heap.size 58 [_,_,_,_,_,_,_] from hL)
   obtain⟨y0,hy0⟩:∃ y0,y0=snO env op name tail ty p q xs i:=⟨_,rfl⟩
   have hyl:y0.length≤1:=by rw[hy0];exact qy ..
   have HE:Hid (snE env (.mk op name tail ty p q xs i)=y0++snL env op name tail 0 xs):=by rw[hy0];exact oN ..
   rename_i K1 hK1 K0 hK0
   have tail_:∀ (v9 v10 v11 v12 v13 v14 v15 v16 v17 v18 v19 v20 v21 v22 v23 v24 v25 v26 v27 v28 v29 v30 v31 v5:Value) (w1:World),SnW w1 A W.heap.size v5 y0→Below W.heap.size W w1→K1 { tmps:=#[.agg #[.int .i64 op,.string (bs name),.string (bs tail),.int .i64 ty,.complex .f64 (fl p) (fl q),.slice ao xs.length c,.int .i64 i],.slice an env.length cn,.pointer (some ⟨w.heap.size,0,none⟩),undef,.slice none 0 0,v5,undef,undef,undef,v9,v10,v11,v12,v13,v14,v15,v16,v17,v18,v19,v20,v21,v22,v23,v24,v25,v26,v27,v28,v29,v30,v31,undef,undef,undef,undef,undef,undef,undef,undef,undef,undef,undef,undef,undef,undef,undef,undef,undef,undef,undef,undef,undef,undef,undef],defers:=[] } w1:=by
    intro v9 v10 v11 v12 v13 v14 v15 v16 v17 v18 v19 v20 v21 v22 v23 v24 v25 v26 v27 v28 v29 v30 v31 v5 w1 hS1 hb1
    have hL1:=hL.up hb1
    have hl1:=hl0.up hb1
    have hN1:=hN0.up hb1
    have c5:w1.cell? ⟨w.heap.size,5,none⟩=some (.slice ao xs.length c):=hL1.cell 5
    clear c0 c1 c2 c3 c4 c6 hl hN hy0 hK0 hl1 hN1
    go_wp2_with fail
    go_loopw [5,6] (fun u v wr=>∃ k:Nat,k≤xs.length∧v=.int .i64 k∧SnW wr A W.heap.size u (y0++snL env op name tail 0 (xs.take k))∧Below W.heap.size w1 wr) (fun _ v _=>xs.length-(intOf v).toNat)
    case atStart=>exact⟨0,Nat.zero_le _,rfl,by rw[List.take_zero,jg,List.append_nil];exact hS1,Below.refl _ _⟩
    case round=>
     obtain⟨k,hkn,rfl,hSk,hBk⟩:=hrel
     have hw1:=hb1.size
     have hwr:=hBk.size
     have hLr:Bk wr w.heap.size 58 _:=(hBk.block w.heap.size (by omega)).trans hL1
     obtain⟨c0,c1,c2,c3,c4,c5',c6⟩:=Bk.seven (show Bk wr w.heap.size 58 [_,_,_,_,_,_,_] from hLr)
     by_cases hlt:k<xs.length
     ·have hBW:=hb1.trans hBk
      have hlk:=hl0.up hBW
      have hNk:=hN0.up hBW
      have HS:Hid (y0++snL env op name tail 0 (xs.take (k+1))=(y0++snL env op name tail 0 (xs.take k))++snE (env++bnd6 op name tail k) (xs.getD k ed)):=by
       have:=pR env op name tail xs 0 k hlt
       rw[Nat.zero_add] at this
       rw[this,List.append_assoc]
       rfl
      have hsz:=lw xs k hlt
      have hst:=fZ xs k hlt
      have hsT:szL (xs.take (k+1))≤szL xs:=mq xs (k+1)
      have hl5:(y0++snL env op name tail 0 (xs.take k)).length≤1+szL (xs.take k):=by
       rw[List.length_append]
       have:=nK env op name tail 0 (xs.take k)
       omega
      obtain⟨yk,hyk⟩:∃ yk,yk=y0++snL env op name tail 0 (xs.take k):=⟨_,rfl⟩
      rw[← hyk] at hSk HS hl5
      clear hyk
      have hbn:=rbound_any (w:=wr) op name tail (.int .i64 ty) (.complex .f64 (fl p) (fl q)) (.slice ao xs.length c) (.int .i64 i) k
      obtain⟨B,hBd⟩:∃ B,B=bnd6 op name tail k:=⟨_,rfl⟩
      have hB2:=oH op name tail k
      rw[← hBd] at hbn HS hB2
      clear hBd
      go_wp2_with fail
      refine hbn.mono ?_
      rintro e w2 ⟨am,rfl,hm2,_,hb2⟩
      have hw:=with_any (cap:=cn) (hNk.up hb2) HCN.out (cm:=B.length) hm2 (fun e=>by subst e;rw[hm2.none];rfl) (by omega)
      obtain⟨E2,hE2⟩:∃ E2,E2=env++B:=⟨_,rfl⟩
      have hEl:E2.length≤env.length+2:=by rw[hE2,List.length_append];omega
      rw[← hE2] at hw HS
      clear hbn c0 c1 c2 c3 c4 c5' c6 hE2
      go_wp2_with fail
      refine hw.mono ?_
      rintro e w3 ⟨⟨v3,rfl,ho3⟩,hb3⟩
      obtain⟨a3,c3,rfl,hN3,hc3,_⟩:=ho3.names
      have HC3:Hid (a3=none→c3=0):=hc3
      clear hc3
      have hB3:Below wr.heap.size wr w3:=Below.thn hb2 hb3
      have hw3:=hB3.size
      have hl3:=hlk.up hB3
      obtain⟨g,off,rfl⟩:=hl3.place (by intro e;simp[e] at hlt)
      obtain⟨vs,hv,hxv⟩:=hl3.at k hlt
      obtain⟨u0,u1,u2,u3,u4,u5,u6,rfl⟩:=aQ hxv.len
      obtain⟨d0,d1,d2,d3,d4,d5,d6⟩:=oU hv
      have hrec:=IH.out (xs.getD k ed) (by omega) (by omega) w3 A [u0,u1,u2,u3,u4,u5,u6] E2 a3 c3 hxv (fun j h=>by have:=hA j h;omega) hN3 HC3.out (by omega)
      have e5:w3.cell? ⟨w.heap.size,5,none⟩=some (.slice (some ⟨g,off,none⟩) xs.length c):=(hLr.up hB3).cell 5
      clear hw hv
      go_wp2_with fail
      refine hrec.mono ?_
      rintro e w4 ⟨⟨v4,rfl,hS4⟩,hb4⟩
      have hl6:=kF E2 (xs.getD k ed)
      have hB4:Below wr.heap.size wr w4:=Below.thn hB3 hb4
      have hw4:=hB4.size
      obtain⟨v5',w5,R5,hS5,hb5⟩:=sn_two (hSk.up hB4) (by omega) (fun j h=>by have:=hA j h;omega) hS4 (by omega)
      rw[← HS.out] at hS5
      have hBe:Below W.heap.size w1 w5:=(hBk.trans (hB4.mono (by omega))).trans hb5
      clear hrec d0 d1 d2 d3 d4 d5 d6 e5 hS4 hSk
      go_wp2_with (at_builtin;refine wpList_append_run rfl (.tmp 51) (.tmp 52) 143 rfl rfl _ _ rfl rfl _ _ (show _=_ from R5) ?_)
      go_roundw
      case rel=>exact⟨k+1,by omega,by go_num,hS5,hBe⟩
      case measure=>simp[intOf];omega
     ·have hke:k=xs.length:=by omega
      subst hke
      rw[List.take_length,← HE.out] at hSk
      have HB:Hid (Below w.heap.size w wr):=⟨hBk.os.trans (hb1.os.trans hb0.os),hBk.tape.trans (hb1.tape.trans hb0.tape),hBk.output.trans (hb1.output.trans hb0.output),by omega,fun j hj=>((hBk.block j (by omega)).trans (hb1.block j (by omega))).trans (hb0.block j hj)⟩
      go_wp2_with fail
      go_ret
      refine⟨⟨_,rfl,?_⟩,HB.out⟩
      obtain⟨cs,ho,hc⟩:=hSk
      refine⟨cs,⟨ho.1,?_⟩,hc⟩
      rcases ho.2 with h|⟨g,cp,cur,h1,h2,h3⟩
      ·exact .inl h
      ·exact .inr ⟨g,cp,cur,h1,by omega,h3⟩
   clear hK1
   have HA:Hid (∀ k,A k→k<w.heap.size):=hA
   have hWw:w.heap.size<W.heap.size:=hL.lt
   clear hA hl hN hW0
   by_cases h67:op=6∨op=7
   ·have hy1:y0=[(.mk op name tail ty p q xs i,(decide (op=6)&&!decide (name∈env)))]:=by rw[hy0];unfold snO;rw[if_pos h67];simp
    have hb8:Below W.heap.size W (W.drew.alloc (.cells #[.int .i64 op,.string (bs name),.string (bs tail),.int .i64 ty,.complex .f64 (fl p) (fl q),.slice ao xs.length c,.int .i64 i,.bool (decide (op=6)&&!decide (name∈env))] 146)):=(Below.refl W.heap.size W).drew.alloc (Nat.le_refl _) _
    obtain⟨v',w',R,hS',hb'⟩:=sU (A:=A) (B:=W.heap.size) (SnW.nil _ A _) hb8.size (fun k h=>by have:=HA.out k h;omega) (zs:=[(.mk op name tail ty p q xs i,(decide (op=6)&&!decide (name∈env)))]) (ds:=[.int .i64 op,.string (bs name),.string (bs tail),.int .i64 ty,.complex .f64 (fl p) (fl q),.slice ao xs.length c,.int .i64 i,.bool (decide (op=6)&&!decide (name∈env))])
     ⟨_,[],rfl,.mk (hl0.up hb8),rfl⟩ ⟨W.heap.size,0,none⟩ 1 (fun j u hj=>by rw[Addr.add_mid,Nat.zero_add];exact ((Bk.new W.drew 146 _).cell j).trans hj) (by simp)
    rw[List.nil_append,← hy1] at hS'
    have HX:Hid (SnW w' A W.heap.size v' y0∧Below W.heap.size W w'):=⟨hS',hb8.trans hb'⟩
    clear hS' hb' hb8 hy1 hy0 hl0
    by_cases h6:op=6
    ·have g1:(op==6)=true:=by simpa using h6
     clear h67 h6
     go_upto_region 3 with fail
     refine wp_region_any (by kernel_rfl) ?_
     refine tZ (W:=W) (an:=an) (env:=env) (cn:=cn) (b2:=w.heap.size) (by show 55≤55;decide) rfl rfl rfl hL (by intro v hv;simp only[List.mem_cons,List.not_mem_nil,or_false] at hv;rcases hv with rfl|rfl|rfl|rfl<;>rfl) hN0 (by omega) R HX.out.2 ?_
     intro a hO e5
     obtain⟨y5,y17,y18,y19,y20,y21,y22,y23,y24,y25,y26,y27,y28,y29,y30,y31,e',rfl⟩:=offE hO
     rw[e'] at e5
     subst e5
     clear hO e' R
     go_wp2_with fail
     exact tail_ _ _ _ _ _ _ _ _ _ _ _ _ _ _ _ _ _ _ _ _ _ _ _ _ w' HX.out.1 HX.out.2
    ·have g1:(op==6)=false:=by simpa using h6
     have g2:(op==7)=true:=by simpa [h6] using h67
     clear h67 h6
     go_upto_region 3 with fail
     refine wp_region_any (by kernel_rfl) ?_
     refine tZ (W:=W) (an:=an) (env:=env) (cn:=cn) (b2:=w.heap.size) (by show 55≤55;decide) rfl rfl rfl hL (by intro v hv;simp only[List.mem_cons,List.not_mem_nil,or_false] at hv;rcases hv with rfl|rfl|rfl|rfl<;>rfl) hN0 (by omega) R HX.out.2 ?_
     intro a hO e5
     obtain⟨y5,y17,y18,y19,y20,y21,y22,y23,y24,y25,y26,y27,y28,y29,y30,y31,e',rfl⟩:=offE hO
     rw[e'] at e5
     subst e5
     clear hO e' R
     go_wp2_with fail
     exact tail_ _ _ _ _ _ _ _ _ _ _ _ _ _ _ _ _ _ _ _ _ _ _ _ _ w' HX.out.1 HX.out.2
   ·have h6:¬ op=6:=fun e=>h67 (.inl e)
    have h7:¬ op=7:=fun e=>h67 (.inr e)
    have hy1:y0=[]:=by rw[hy0];unfold snO;rw[if_neg (by simp[h6,h7])]
    have g1:(op==6)=false:=by simpa using h6
    have g2:(op==7)=false:=by simpa using h7
    have HX:Hid (SnW W A W.heap.size (.slice none 0 0) y0):=by rw[hy1];exact SnW.nil _ _ _
    clear hy1 hy0 h6 h7 hl0 hN0
    go_wp2_with fail
    exact tail_ _ _ _ _ _ _ _ _ _ _ _ _ _ _ _ _ _ _ _ _ _ _ _ _ W HX.out (Below.refl _ _)
structure Kx (S:TypeId→Prop) (B:Nat) (w w':World):Prop where
 os:w'.os=w.os
 tape:w'.tape=w.tape
 output:w'.output=w.output
 size:w.heap.size≤w'.heap.size
 block:∀ k,k<w.heap.size→(k<B∨∀ cs T m,w.heap[k]?=some (.cells cs T m)→¬ S T)→w'.heap[k]?=w.heap[k]?
section
variable {S S':TypeId→Prop} {B:Nat} {w w' w'':World}
theorem Kx.refl (S:TypeId→Prop) (B:Nat) (w:World):Kx S B w w:=⟨rfl,rfl,rfl,Nat.le_refl _,fun _ _ _=>rfl⟩
theorem Kx.trans (h:Kx S B w w') (k:Kx S B w' w''):Kx S B w w'':=
 ⟨k.os.trans h.os,k.tape.trans h.tape,k.output.trans h.output,Nat.le_trans h.size k.size,fun b hb hc=>by
  have e:=h.block b hb hc
  refine (k.block b (Nat.lt_of_lt_of_le hb h.size) ?_).trans e
  rw[e]
  exact hc⟩
theorem Kx.mono (h:Kx S B w w') (hs:∀ t,S t→S' t):Kx S' B w w':=⟨h.os,h.tape,h.output,h.size,fun b hb hc=>h.block b hb (hc.imp id fun k cs T m e hS=>k cs T m e (hs T hS))⟩
theorem Kx.of (h:Below w.heap.size w w'):Kx S B w w':=⟨h.os,h.tape,h.output,h.size,fun b hb _=>h.block b hb⟩
theorem Kx.below (h:Kx S B w w') (hB:B≤w.heap.size):Below B w w':=⟨h.os,h.tape,h.output,h.size,fun b hb=>h.block b (by omega) (.inl hb)⟩
theorem Kx.bk (h:Kx S B w w') {b:Nat} {t:TypeId} {vs:List Value} (hb:Bk w b t vs) (ht:¬ S t):Bk w' b t vs:=
 (h.block b hb.lt (.inr fun cs T m e=>by rw[show w.heap[b]?=_ from hb] at e;cases e;exact ht)).trans hb
theorem pW {e:TypeId} {size n:Nat} {v:Value} {xs:List Value} (h:w.ownsRow B e size v n xs):∀ k,v.ownBlock=some k→B≤k∧∃ cur,w.heap[k]?=some (.cells cur e (0,0)):=by
 intro k hk
 rcases h.2 with⟨rfl,_⟩|⟨g,cap,cur,rfl,h2,h3,_⟩
 ·simp[Value.ownBlock] at hk
 ·simp only[Value.ownBlock,Option.some.injEq] at hk
  subst hk
  exact⟨h2,cur,h3⟩
theorem Kx.own (h:Kx S B w w') {B':Nat} {e:TypeId} {size n:Nat} {v:Value} {xs:List Value} (ho:w.ownsRow B' e size v n xs) (ht:¬ S e):w'.ownsRow B' e size v n xs:=bi ho fun b hb=>by
 obtain⟨_,cur,hc⟩:=pW ho b hb
 exact h.block b (Array.getElem?_eq_some_iff.1 hc).1 (.inr fun cs T m e'=>by rw[hc] at e';cases e';exact ht)
theorem Kx.grown {e:TypeId} {size n:Nat} {v:Value} {xs:List Value} (ho:w.ownsRow B e size v n xs) (hg:w.grownBy w' v.ownBlock) (hS:S e):Kx S B w w':=
 ⟨hg.os,hg.tape,hg.output,hg.size,fun k hk hc=>hg.block k hk fun e'=>by
  obtain⟨h1,cur,h2⟩:=pW ho k e'.symm
  rcases hc with hc|hc
  ·omega
  ·exact hc _ _ _ h2 hS⟩
theorem Kx.fl (h:Kx S B w w') {A:Nat→Prop} {ao:Option Addr} {gs:List Fn1} (hF:FlW w A ao gs) (hA:∀ k,A k→k<B):FlW w' A ao gs:=hF.keep2 h.size fun b hb hl=>h.block b hl (.inl (hA b hb))
theorem Kx.ex (h:Kx S B w w') {A:Nat→Prop} {x:Ex} {us:List Value} (hx:ExW w A x us) (hA:∀ k,A k→k<B):ExW w' A x us:=hx.keep fun b hb hl=>h.block b hl (.inl (hA b hb))
theorem Kx.pl (h:Kx S B w w') {A:Nat→Prop} {ao:Option Addr} {ps:List Pm} (hP:PlW w A ao ps) (hA:∀ k,A k→k<B):PlW w' A ao ps:=hP.keep h.size fun b hb hl=>h.block b hl (.inl (hA b hb))
theorem Kx.sn (h:Kx S B w w') {A:Nat→Prop} {C:Nat} {v:Value} {ys:List (Ex × Bool)} (hs:SnW w A C v ys) (hA:∀ k,A k→k<B) (ht:¬ S 146):SnW w' A C v ys:=by
 obtain⟨cs,h1,h2⟩:=hs
 exact⟨cs,h.own h1 ht,gu (fun b hb hl=>h.block b hl (.inl (hA b hb))) h2⟩
end
def ftC (fs:List (Int × Int)):List Value:=fs.flatMap fun f=>[.int .i64 f.1,.int .i64 f.2]
theorem ku (f:Int × Int) (fs:List (Int × Int)):ftC (f::fs)=.int .i64 f.1::.int .i64 f.2::ftC fs:=by simp[ftC]
theorem qP:∀ fs:List (Int × Int),(ftC fs).length=fs.length*2
 |[]=>rfl
 |f::fs=>by rw[ku,List.length_cons,List.length_cons,qP fs,List.length_cons];omega
theorem qz:∀ (fs:List (Int × Int)) (k:Nat),k<fs.length→(ftC fs)[k*2]?=some (.int .i64 (fs.getD k (0,0)).1)∧(ftC fs)[k*2+1]?=some (.int .i64 (fs.getD k (0,0)).2)
 |[],k,h=>by simp at h
 |f::fs,0,_=>by rw[ku];exact⟨rfl,rfl⟩
 |f::fs,k+1,h=>by
  rw[ku,show (k+1)*2=k*2+1+1 by omega,List.getElem?_cons_succ,List.getElem?_cons_succ,List.getElem?_cons_succ,List.getElem?_cons_succ,List.getD_cons_succ]
  exact qz fs k (by simpa using h)
def FtW (w:World) (B:Nat) (v:Value) (fs:List (Int × Int)):Prop:=w.ownsRow B 49 2 v fs.length (ftC fs)
theorem FtW.nil (w:World) (B:Nat):FtW w B (.slice none 0 0) []:=World.ownsRow_nil _ _ _ _
theorem Tryz.infoF2:(Tryz.prog.info? 49).map (fun i=>(i.zero,i.size,i.bytes))=some (some (.agg #[.int .i64 0,.int .i64 0]),2,16):=by kernel_rfl
theorem Tryz.underFt:Tryz.prog.underlying 102=some (.slice 49):=by kernel_rfl
theorem ft_one {w:World} {B:Nat} {v:Value} {fs:List (Int × Int)} (h:FtW w B v fs) (hB:B≤w.heap.size) (hn:fs.length≤1000000000000) {g o cap:Nat} {y z:Int} (h0:w.cell? ⟨g,o,none⟩=some (.int .i64 y)) (h1:w.cell? ⟨g,o+1,none⟩=some (.int .i64 z)) :
  ∃ v' w',(Builtin.append_ #[102,102] 102 #[v,.slice (some ⟨g,o,none⟩) 1 cap]).run Tryz.prog w=.ok v' w'∧FtW w' B v' (fs++[(y,z)])∧Kx (·=49) B w w':=by
 obtain⟨i0,hi,hz0,hz1,hz2⟩:=info_parts Tryz.infoF2
 obtain⟨v',w',hr,ho',hgr,_⟩:=run_append_own (P:=Tryz.prog) w B 102 102 49 i0 _ 2 16 Tryz.underFt hi hz0 hz1 hz2 rfl (by decide) v fs.length _ h ⟨g,o,none⟩ 1 cap [.int .i64 y,.int .i64 z] rfl
  (fun j u hj=>by
   match j,hj with
   |0,hj=>cases hj;rw[Addr.add_mid,Nat.add_zero];exact h0
   |1,hj=>cases hj;rw[Addr.add_mid];exact h1)
  (by intro u hu;simp only[List.mem_cons,List.not_mem_nil,or_false] at hu;rcases hu with rfl|rfl<;>rfl) (by unfold maxLen;omega) (by omega) hB
 refine⟨v',w',hr,?_,.grown h hgr rfl⟩
 unfold FtW
 rw[List.length_append]
 have e:ftC (fs++[(y,z)])=ftC fs++[.int .i64 y,.int .i64 z]:=by simp[ftC]
 rw[e]
 exact ho'
theorem FtW.row {w:World} {B:Nat} {v:Value} {fs:List (Int × Int)} (h:FtW w B v fs):∃ ao cap,v=.slice ao fs.length cap∧∀ k,k<fs.length→∃ g,ao=some ⟨g,0,none⟩∧w.cell? ⟨g,k*2,none⟩=some (.int .i64 (fs.getD k (0,0)).1)∧w.cell? ⟨g,k*2+1,none⟩=some (.int .i64 (fs.getD k (0,0)).2):=by
 have ho:w.ownsRow B 49 2 v fs.length (ftC fs):=h
 rcases ho.2 with⟨rfl,h0⟩|⟨g,c,cur,rfl,hb,hg,h1,h2,h3,h4⟩
 ·have e:=List.length_eq_zero_iff.1 h0
  subst e
  exact⟨none,0,rfl,fun k hk=>by simp at hk⟩
 ·refine⟨_,c,rfl,fun k hk=>⟨g,rfl,?_⟩⟩
  have hc:∀ j u,(ftC fs)[j]?=some u→w.cell? ⟨g,j,none⟩=some u:=fun j u hj=>by
   have hl:j<(ftC fs).length:=(List.getElem?_eq_some_iff.1 hj).1
   have h5:(cur.toList.take (fs.length*2))[j]?=some u:=by rw[h4];exact hj
   rw[List.getElem?_take_of_lt (by rw[← qP];exact hl)] at h5
   unfold World.cell?
   simp only[hg]
   simpa using h5
  have:=qz fs k hk
  exact⟨hc _ _ this.1,hc _ _ this.2⟩
theorem on_one {w:World} {B:Nat} {v:Value} {ws:List (List UInt8)} (h:OwN w B v ws) (hB:B≤w.heap.size) (hn:ws.length≤1000000000) {g o cap:Nat} {s:List UInt8} (h0:w.cell? ⟨g,o,none⟩=some (.string (bs s))) :
  ∃ v' w',(Builtin.append_ #[104,104] 104 #[v,.slice (some ⟨g,o,none⟩) 1 cap]).run Tryz.prog w=.ok v' w'∧OwN w' B v' (ws++[s])∧Kx (·=9) B w w':=by
 obtain⟨i0,hi,hz0,hz1,hz2⟩:=info_parts Tryz.infoSt
 obtain⟨v',w',hr,ho',hgr,_⟩:=run_append_own (P:=Tryz.prog) w B 104 104 9 i0 _ 1 16 Tryz.underSt hi hz0 hz1 hz2 rfl (by decide) v ws.length _ h ⟨g,o,none⟩ 1 cap [.string (bs s)] rfl
  (fun j u hj=>by
   match j,hj with
   |0,hj=>cases hj;rw[Addr.add_mid,Nat.add_zero];exact h0)
  (by intro u hu;simp only[List.mem_cons,List.not_mem_nil,or_false] at hu;rcases hu with rfl;rfl) (by unfold maxLen;omega) (by omega) hB
 refine⟨v',w',hr,?_,.grown h hgr rfl⟩
 unfold OwN
 rw[List.length_append,List.map_append]
 exact ho'
def yd:Ex × Bool:=(ed,false)
theorem sI {w:World} {A:Nat→Prop}:∀ {ys:List (Ex × Bool)} {cs:List Value},snC w A ys cs→∀ k,k<ys.length→∃ us,(∀ j u,us[j]?=some u→cs[k*8+j]?=some u)∧cs[k*8+7]?=some (.bool (ys.getD k yd).2)∧ExW w A (ys.getD k yd).1 us
 |[],_,_,k,h=>by simp at h
 |y::ys,cs,h,0,_=>by
  obtain⟨us,es,rfl,h1,h2⟩:=h
  have hl:=h1.len
  refine⟨us,fun j u hj=>?_,?_,h1⟩
  ·have:=(List.getElem?_eq_some_iff.1 hj).1
   rw[Nat.zero_mul,Nat.zero_add,List.getElem?_append_left this]
   exact hj
  ·rw[Nat.zero_mul,Nat.zero_add,List.getElem?_append_right (by omega),hl]
   rfl
 |y::ys,cs,h,k+1,hk=>by
  obtain⟨us,es,rfl,h1,h2⟩:=h
  have hl:=h1.len
  obtain⟨vs,g1,g2,g3⟩:=sI h2 k (by simpa using hk)
  have e:∀ j,(us++(Value.bool y.2::es))[(k+1)*8+j]?=es[k*8+j]?:=fun j=>by
   rw[List.getElem?_append_right (by omega),show (k+1)*8+j-us.length=(k*8+j)+1 by omega,List.getElem?_cons_succ]
  exact⟨vs,fun j u hj=>by rw[e];exact g1 j u hj,by rw[e];exact g2,g3⟩
theorem SnW.at {w:World} {A:Nat→Prop} {B:Nat} {v:Value} {ys:List (Ex × Bool)} (h:SnW w A B v ys):∃ ao cap,v=.slice ao ys.length cap∧∀ k,k<ys.length→∃ g us,ao=some ⟨g,0,none⟩∧w.rangeAt g (k*8) us∧w.cell? ⟨g,k*8+7,none⟩=some (.bool (ys.getD k yd).2)∧ExW w A (ys.getD k yd).1 us:=by
 obtain⟨ao,cap,rfl,hr⟩:=h.row
 refine⟨ao,cap,rfl,fun k hk=>?_⟩
 rcases hr with⟨_,_,rfl⟩|⟨g,ds,rfl,_,_,hd,hc⟩
 ·simp at hk
 ·obtain⟨us,h1,h2,h3⟩:=sI hd k hk
  exact⟨g,us,rfl,fun j u hj=>hc _ _ (h1 j u hj),hc _ _ h2,h3⟩
/-! The faults, plainly. -/
def prmF (ps:List Pm) (j:Nat):List (Int × Int):=if (ps.getD j pd).name∈(ps.take j).map (·.name) then [(30,((ps.getD j pd).pos:Int))] else []
def prmK (ps:List Pm) (k:Nat):List (Int × Int):=(List.range k).flatMap (prmF ps)
theorem fT (ps:List Pm) (k:Nat):prmK ps (k+1)=prmK ps k++prmF ps k:=by unfold prmK;rw[List.range_succ,List.flatMap_append,List.flatMap_singleton]
def calF (gs:List Fn1) (name:List UInt8) (n i:Nat):List (Int × Int):=if hdN gs name<0 then [(32,(i:Int))] else if (gs.getD (hdN gs name).toNat fd).pms.length≠n then [(33,(i:Int))] else []
def snF (gs:List Fn1):Ex × Bool→List (Int × Int)
 |(.mk op name _ _ _ _ xs i,fr)=>(if fr then [(31,(i:Int))] else [])++if op=7 then calF gs name xs.length i else []
def fV (gs:List Fn1) (k:Nat):List (Int × Int):=if hdN gs (gs.getD k fd).name<k then [(30,((gs.getD k fd).pos:Int))] else []
def bodF (gs:List Fn1) (g:Fn1):List (Int × Int):=(snE (g.pms.map (·.name)) g.body).flatMap (snF gs)
def fnF (gs:List Fn1) (k:Nat):List (Int × Int):=fV gs k++(prmK (gs.getD k fd).pms (gs.getD k fd).pms.length++bodF gs (gs.getD k fd))
def fnK (gs:List Fn1) (k:Nat):List (Int × Int):=(List.range k).flatMap (fnF gs)
theorem nN (gs:List Fn1) (k:Nat):fnK gs (k+1)=fnK gs k++fnF gs k:=by unfold fnK;rw[List.range_succ,List.flatMap_append,List.flatMap_singleton]
def ftP (gs:List Fn1):List (Int × Int):=fnK gs gs.length
def lsP (fs:List (Int × Int)):Int × Int:=fs.foldl (fun l f=>if l.1=0∨f.2<l.2 then f else l) (0,0)
theorem lsP_step (fs:List (Int × Int)) (k:Nat) (h:k<fs.length):lsP (fs.take (k+1))=if (lsP (fs.take k)).1=0∨(fs.getD k (0,0)).2<(lsP (fs.take k)).2 then fs.getD k (0,0) else lsP (fs.take k):=by
 unfold lsP
 rw[List.take_add_one,List.getElem?_eq_getElem h,Option.toList_some,List.foldl_append]
 simp only[List.foldl_cons,List.foldl_nil]
 rw[List.getD_eq_getElem?_getD,List.getElem?_eq_getElem h]
 rfl
theorem qY (gs:List Fn1) (y:Ex × Bool):(snF gs y).length≤2:=by
 obtain⟨⟨op,name,_,_,_,_,xs,i⟩,fr⟩:=y
 unfold snF calF
 dsimp only
 split<;>split<;>(try split)<;>(try split)<;>simp
def cntF (gs:List Fn1) (s:List UInt8):Option Nat:=(gs.find? fun g=>g.name==s).map fun g=>g.pms.length
theorem dfnL_cons (g:Fn1) (gs:List Fn1) (q:(List UInt8→Option Nat) × (Int × Int)):dfnL (g::gs) q=dfnL gs (dfnP g q):=rfl
theorem iB:∀ (gs:List Fn1) (f:List UInt8→Option Nat) (p:Int × Int) (s:List UInt8),(dfnL gs (f,p)).1 s=match f s with|some n=>some n|none=>cntF gs s
 |[],f,p,s=>by
  show f s=_
  cases f s<;>simp[cntF]
 |g::gs,f,p,s=>by
  rw[dfnL_cons]
  unfold dfnP
  dsimp only
  cases hf:f g.name with
  |some n=>
   dsimp only
   rw[iB gs f _ s]
   cases hs:f s with
   |some m=>rfl
   |none=>
    have:¬ g.name=s:=by intro e;rw[e,hs] at hf;cases hf
    simp[cntF,this]
  |none=>
   dsimp only
   rw[iB gs _ _ s]
   unfold putN
   by_cases e:s=g.name
   ·subst e
    rw[if_pos rfl,hf]
    simp[cntF]
   ·have e':¬ g.name=s:=fun h=>e h.symm
    rw[if_neg e]
    cases hs:f s with
    |some m=>rfl
    |none=>simp[cntF,e']
theorem hdN_lt {gs:List Fn1} {s:List UInt8} {j:Nat} (hj:j<gs.length) (e:(gs.getD j fd).name=s):hdN gs s≤j:=by
 induction j using Nat.strongRecOn with
 |ind j ih=>
  by_cases h:∃ i,i<j∧(gs.getD i fd).name=s
  ·obtain⟨i,hi,e2⟩:=h
   have:=ih i hi (by omega) e2
   omega
  ·rw[qh hj (fun i hi e2=>h ⟨i,hi,e2⟩) e]
   exact Int.le_refl _
theorem hdN_find (gs:List Fn1) (s:List UInt8):(hdN gs s<0↔cntF gs s=none)∧(¬ hdN gs s<0→cntF gs s=some (gs.getD (hdN gs s).toNat fd).pms.length):=by
 unfold hdN cntF
 cases h:gs.findIdx? (fun g=>g.name==s) with
 |none=>
  have:gs.find? (fun g=>g.name==s)=none:=by
   rw[List.find?_eq_none]
   rw[List.findIdx?_eq_none_iff] at h
   intro g hg
   simp[h g hg]
  rw[this]
  exact⟨⟨fun _=>rfl,fun _=>by decide⟩,fun e=>absurd (by decide) e⟩
 |some i=>
  have hi:=List.findIdx?_eq_some_iff_getElem.1 h
  obtain⟨h1,h2,h3⟩:=hi
  have:gs.find? (fun g=>g.name==s)=some gs[i]:=by
   rw[List.find?_eq_some_iff_getElem]
   exact⟨h2,i,h1,rfl,fun j hj=>by simpa using h3 j hj⟩
  rw[this]
  refine⟨⟨fun e=>?_,fun e=>by cases e⟩,fun _=>?_⟩
  ·exact absurd e (by simp)
  ·simp[List.getD_eq_getElem?_getD,List.getElem?_eq_getElem h1]
theorem qD:∀ (xs:List Ex) (y:Ex),y∈xs→szE y≤szL xs
 |x::xs,y,h=>by
  rw[aO]
  rcases List.mem_cons.1 h with rfl|h
  ·omega
  ·have:=qD xs y h
   omega
theorem ftP_why (gs:List Fn1):∀ f∈ftP gs,¬ f.1=0:=by
 intro f hf
 unfold ftP fnK at hf
 rw[List.mem_flatMap] at hf
 obtain⟨k,_,hk⟩:=hf
 unfold fnF at hk
 rw[List.mem_append,List.mem_append] at hk
 rcases hk with h|h|h
 ·unfold fV at h
  split at h
  ·simp only[List.mem_singleton] at h
   rw[h]
   intro e;cases e
  ·cases h
 ·unfold prmK at h
  rw[List.mem_flatMap] at h
  obtain⟨j,_,h⟩:=h
  unfold prmF at h
  split at h
  ·simp only[List.mem_singleton] at h
   rw[h]
   intro e;cases e
  ·cases h
 ·unfold bodF at h
  rw[List.mem_flatMap] at h
  obtain⟨⟨⟨op,name,_,_,_,_,xs,i⟩,fr⟩,_,h⟩:=h
  unfold snF at h
  rw[List.mem_append] at h
  rcases h with h|h
  ·split at h
   ·simp only[List.mem_singleton] at h
    rw[h]
    intro e;cases e
   ·cases h
  ·split at h
   ·unfold calF at h
    split at h
    ·simp only[List.mem_singleton] at h
     rw[h]
     intro e;cases e
    ·split at h
     ·simp only[List.mem_singleton] at h
      rw[h]
      intro e;cases e
     ·cases h
   ·cases h
end Go.Proofs.YtimoappbefindaaGreat
