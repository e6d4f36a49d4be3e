/-
  4 texts in one: what each proves stands at its head.
-/
import Derived.Test.YtimoappbefindaaGreatUF
import Derived.Laws.BytesString
import Derived.Scope
import Derived.OwnWalk
import Derived.Laws.OwnMore
import Derived.Deep.RegionWith
namespace Go.Proofs.YtimoappbefindaaGreat
open Go.RowKit
set_option maxRecDepth 100000
/-! ## Bytes read as a string -/
theorem fold_push (ns:List UInt8):∀ s:ByteArray,((ns.map fun c=>(c.toNat:Int)).foldl (fun r n=>r.push (UInt8.ofNat n.toNat)) s)=s++bs ns:=by
 induction ns with
 |nil=>intro s;apply ByteArray.ext;simp[bs]
 |cons c ns ih=>
  intro s
  rw[List.map_cons,List.foldl_cons,ih]
  apply ByteArray.ext
  simp[bs,ByteArray.data_push,ByteArray.data_append]
theorem gy (w:World) (b o n c:Nat) (ns:List UInt8) (hn:ns.length=n) (h:∀ t,t<n→w.cell? ⟨b,o+t,none⟩=some (.int .u8 ((ns.getD t 0).toNat:Int))) :
  (convert 22 9 (.slice (some ⟨b,o,none⟩) n c)).run Tryz.prog w=.ok (.string (bs ns)) w:=by
 rw[run_convert_bytes_string w 22 9 5 _ _ _ (by kernel_rfl) (by kernel_rfl) (by kernel_rfl)]
 have:=run_bytesToString (P:=Tryz.prog) w ⟨b,o,none⟩ n c (ns.map fun c=>(c.toNat:Int)) (by
  have:=run_loadCells_list (P:=Tryz.prog) w ⟨b,o,none⟩ ((ns.map fun c=>(c.toNat:Int)).map (Value.int .u8)) (by
   intro j v hj
   rw[Addr.add_mid]
   rw[List.map_map,List.getElem?_map] at hj
   cases hq:ns[j]? with
   |none=>rw[hq] at hj;cases hj
   |some x=>
    rw[hq] at hj
    simp only[Option.map_some,Option.some.injEq] at hj
    subst hj
    have hl:j<n:=by rw[← hn];exact (List.getElem?_eq_some_iff.1 hq).1
    rw[h j hl,List.getD_eq_getElem?_getD,hq]
    rfl)
  simpa [hn] using this)
 rw[this,fold_push]
 rw[show ByteArray.empty++bs ns=bs ns by apply ByteArray.ext;simp]
theorem Bd.cells {w:World} {b off:Nat} {l:List UInt8} (h:Bd w (some ⟨b,off,none⟩) l):∀ t,t<l.length→w.cell? ⟨b,off+t,none⟩=some (.int .u8 ((l.getD t 0).toNat:Int)):=by
 intro t ht
 obtain⟨b',off',e',hc⟩:=h.pl (by intro e;rw[e] at ht;simp at ht)
 simp only[Option.some.injEq,Addr.mk.injEq,and_true] at e'
 obtain⟨rfl,rfl⟩:=e'
 exact hc t ht
theorem fo {w:World} {b off:Nat} {l:List UInt8} (hc:∀ t,t<l.length→w.cell? ⟨b,off+t,none⟩=some (.int .u8 ((l.getD t 0).toNat:Int))) (k n:Nat) (hk:k+n≤l.length) :
  ∀ t,t<n→w.cell? ⟨b,off+k+t,none⟩=some (.int .u8 ((((l.drop k).take n).getD t 0).toNat:Int)):=by
 intro t ht
 rw[Nat.add_assoc,hc (k+t) (by omega)]
 congr 3
 simp[List.getD_eq_getElem?_getD,ht,List.getElem?_drop]
def jumps (J:Nat→Act→World→Prop) (Q:Exit→Act→World→Prop):Exit→Act→World→Prop
 |.goto l,a,w=>J l a w
 |e,a,w=>Q e a w
def mkC (m:Mk):List Value:=[.int .i64 m.kind,.string (bs m.text),.complex .f64 (fl m.p) (fl m.q),.int .i64 m.at_]
def mksC (ms:List Mk):List Value:=ms.flatMap mkC
theorem mksC_app (a b:List Mk):mksC (a++b)=mksC a++mksC b:=by simp[mksC]
theorem Tryz.infoMk:(Tryz.prog.info? 135).map (fun i=>(i.zero,i.size,i.bytes))=some (some (.agg #[.int .i64 0,.string ⟨#[]⟩,.complex .f64 0 0,.int .i64 0]),4,48):=by kernel_rfl
theorem Tryz.underMs:Tryz.prog.underlying 87=some (.slice 135):=by kernel_rfl
def S2 (w:World) (b:Nat) (x y:Value):Prop:=w.heap[b]?=some (.cells #[x,y] 49 (0,0))
theorem S2.cells {w:World} {b:Nat} {x y:Value} (h:S2 w b x y):w.cell? ⟨b,0,none⟩=some x∧w.cell? ⟨b,1,none⟩=some y∧w.frozen? ⟨b,0,none⟩=false∧w.frozen? ⟨b,1,none⟩=false:=by
 refine⟨?_,?_,?_,?_⟩
 ·rw[cell_of_row w _ 0 _ _ _ h];rfl
 ·rw[cell_of_row w _ 1 _ _ _ h];rfl
 ·exact frozen_of_row w _ 0 _ _ h
 ·exact frozen_of_row w _ 1 _ _ h
theorem Tryz.infoF:(Tryz.prog.info? 49).map (·.size)=some 2:=by kernel_rfl
theorem aX {w w':World} {B:Nat} {v:Value} {n:Nat} {xs:List Value} (h:w.ownsRow B 135 4 v n xs) (hb:Below w.heap.size w w'):w'.ownsRow B 135 4 v n xs:=by
 refine⟨h.1,?_⟩
 rcases h.2 with h'|⟨g,cap,cur,h1,h2,h3,h4⟩
 ·exact .inl h'
 ·refine .inr ⟨g,cap,cur,h1,h2,?_,h4⟩
  rw[hb.block g ?_]
  ·exact h3
  ·rcases Nat.lt_or_ge g w.heap.size with k|k
   ·exact k
   ·rw[Array.getElem?_eq_none k] at h3;cases h3
theorem owns_low {w:World} {B:Nat} {v:Value} {n:Nat} {xs:List Value} (h:w.ownsRow B 135 4 v n xs):∀ k,v.ownBlock=some k→B≤k:=by
 intro k hk
 rcases h.2 with⟨rfl,_⟩|⟨g,cap,cur,rfl,h2,_⟩
 ·simp[Value.ownBlock] at hk
 ·simp[Value.ownBlock] at hk;omega
structure Ws (w0 w:World) (v:Value) (ms:List Mk):Prop where
 bel:Below w0.heap.size w0 w
 own:w.ownsRow (w0.heap.size+2) 135 4 v ms.length (mksC ms)
 ft:S2 w w0.heap.size (.int .i64 0) (.int .i64 0)
 mv:∃ p q r s,S4 w (w0.heap.size+1) p q r s
theorem new4 (w:World) (cs:List Value) (t:TypeId):∀ j u,cs[j]?=some u→(w.alloc (.cells cs.toArray t)).cell? ((⟨w.heap.size,0,none⟩:Addr).add j)=some u:=by
 intro j u hj
 rw[Addr.add_mid,Nat.zero_add,cell_of_row _ _ j _ _ _ (heap_alloc_new w (.cells cs.toArray t))]
 simpa using hj
theorem qw (k:Nat):mkC (endM k)=[.int .i64 4,.string ⟨#[]⟩,.complex .f64 0 0,.int .i64 k]:=by
 unfold mkC endM
 rw[gL]
 rfl
theorem tH (x:Int) (s:ByteArray) (p q:Nat) (y:Int):∀ u∈[Value.int .i64 x,.string s,.complex .f64 p q,.int .i64 y],u.oneCell'=true:=by
 intro u hu
 simp only[List.mem_cons,List.not_mem_nil,or_false] at hu
 rcases hu with rfl|rfl|rfl|rfl<;>rfl
def MJ (T F M v:Value) (k fr:Nat) (a:Act):Prop:=∃ U:Nat→Value,a={ tmps:=#[T,U 1,.slice none 0 0,F,v,M,U 6,.int .i64 k,.int .i64 fr,U 9,U 10,U 11,U 12,U 13,U 14,U 15,U 16,U 17,U 18,U 19,U 20,U 21,U 22,U 23,U 24,U 25,U 26,U 27,U 28,U 29,U 30,U 31,U 32,U 33,U 34,U 35,U 36,U 37,U 38,U 39,U 40,U 41,U 42,U 43,U 44,U 45,U 46,U 47,U 48,U 49,U 50,U 51,U 52,U 53,U 54,U 55,U 56,U 57,U 58,U 59,U 60,U 61,U 62,U 63,U 64,U 65,U 66,U 67,U 68,U 69,U 70,U 71,U 72,U 73,U 74,U 75,U 76,U 77,U 78,U 79,U 80,U 81,U 82,U 83,U 84,U 85,U 86,U 87,U 88,U 89,U 90,U 91,U 92,U 93,U 94,U 95,U 96,U 97,U 98,U 99,U 100],defers:=[] }
theorem MJ.mk {T F M v:Value} {k fr:Nat} {u1 u6 u9 u10 u11 u12 u13 u14 u15 u16 u17 u18 u19 u20 u21 u22 u23 u24 u25 u26 u27 u28 u29 u30 u31 u32 u33 u34 u35 u36 u37 u38 u39 u40 u41 u42 u43 u44 u45 u46 u47 u48 u49 u50 u51 u52 u53 u54 u55 u56 u57 u58 u59 u60 u61 u62 u63 u64 u65 u66 u67 u68 u69 u70 u71 u72 u73 u74 u75 u76 u77 u78 u79 u80 u81 u82 u83 u84 u85 u86 u87 u88 u89 u90 u91 u92 u93 u94 u95 u96 u97 u98 u99 u100:Value}:MJ T F M v k fr { tmps:=#[T,u1,.slice none 0 0,F,v,M,u6,.int .i64 k,.int .i64 fr,u9,u10,u11,u12,u13,u14,u15,u16,u17,u18,u19,u20,u21,u22,u23,u24,u25,u26,u27,u28,u29,u30,u31,u32,u33,u34,u35,u36,u37,u38,u39,u40,u41,u42,u43,u44,u45,u46,u47,u48,u49,u50,u51,u52,u53,u54,u55,u56,u57,u58,u59,u60,u61,u62,u63,u64,u65,u66,u67,u68,u69,u70,u71,u72,u73,u74,u75,u76,u77,u78,u79,u80,u81,u82,u83,u84,u85,u86,u87,u88,u89,u90,u91,u92,u93,u94,u95,u96,u97,u98,u99,u100],defers:=[] }:=
 ⟨fun i=>(#[T,u1,.slice none 0 0,F,v,M,u6,.int .i64 k,.int .i64 fr,u9,u10,u11,u12,u13,u14,u15,u16,u17,u18,u19,u20,u21,u22,u23,u24,u25,u26,u27,u28,u29,u30,u31,u32,u33,u34,u35,u36,u37,u38,u39,u40,u41,u42,u43,u44,u45,u46,u47,u48,u49,u50,u51,u52,u53,u54,u55,u56,u57,u58,u59,u60,u61,u62,u63,u64,u65,u66,u67,u68,u69,u70,u71,u72,u73,u74,u75,u76,u77,u78,u79,u80,u81,u82,u83,u84,u85,u86,u87,u88,u89,u90,u91,u92,u93,u94,u95,u96,u97,u98,u99,u100]:Array Value).getD i undef,rfl⟩
def atOf (a:Act):Nat:=(intOf (a.tmps.getD 7 undef)).toNat
theorem MJ.at {T F M v:Value} {k fr:Nat} {a:Act} (h:MJ T F M v k fr a):atOf a=k:=by
 obtain⟨U,rfl⟩:=h
 rfl
theorem drop_at {l:List UInt8} {k:Nat} (h:k<l.length):l.drop k=l.getD k 0::l.drop (k+1):=by
 rw[List.drop_eq_getElem_cons h]
 congr 1
 rw[List.getD_eq_getElem?_getD,List.getElem?_eq_getElem h]
 rfl
theorem step_blank {l:List UInt8} {k:Nat} (h:k<l.length) (hb:isBl (l.getD k 0)=true):cut rdN (l.drop k) k=cut rdN (l.drop (k+1)) (k+1):=by
 rw[drop_at h]
 exact gap_one rdN _ hb _ _
theorem step_hash {l:List UInt8} {k:Nat} (h:k<l.length) (_hb:isBl (l.getD k 0)=false) (hc:l.getD k 0=35) :
  cut rdN (l.drop k) k=cut rdN ((l.drop k).dropWhile (· != 10)) (k+((l.drop k).takeWhile (· != 10)).length):=by
 have hs:stp rdN (l.drop k) k=.skip (1+((l.drop (k+1)).takeWhile (· != 10)).length):=by
  rw[drop_at h,hc]
  rfl
 rw[iN rdN hs,Nat.add_comm 1,drop_at h,hc,List.drop_succ_cons,tw_drop]
 have e1:((35:UInt8)::l.drop (k+1)).dropWhile (· != 10)=(l.drop (k+1)).dropWhile (· != 10):=by rw[List.dropWhile_cons,if_pos (by decide)]
 have e2:(((35:UInt8)::l.drop (k+1)).takeWhile (· != 10)).length=((l.drop (k+1)).takeWhile (· != 10)).length+1:=by rw[List.takeWhile_cons,if_pos (by decide)];rfl
 rw[e1,e2]
theorem stp_one {c:UInt8} {r:List UInt8} {k:Nat} (hb:isBl c=false) (hc:c≠35):stp rdN (c::r) k=match oneM rdN (c::r) k with|none=>.bad|some m=>.mark m:=by
 have hc':(c==35)=false:=by rw[beq_eq_false_iff_ne];exact hc
 unfold stp
 dsimp only
 rw[hb,hc']
 rfl
end Go.Proofs.YtimoappbefindaaGreat
