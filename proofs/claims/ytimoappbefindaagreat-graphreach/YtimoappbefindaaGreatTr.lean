/-
  A law's texts and parameters that came in, opened.
-/
import Derived.Test.YtimoappbefindaaGreatUO
import Derived.Test.YtimoappbefindaaGreatRows
import Derived.Test.YtimoappbefindaaGreatChecked
import Derived.ProofKit
import Derived.OpenShut
import Derived.Lib.SmallJoins
import Derived.SizedLaws
import Derived.Carry
import Derived.SliceStrings
import Derived.Deep.Strs
import Derived.Deep.DeepHandedRow
namespace Go.Proofs.YtimoappbefindaaGreat
open Go.ChangeShapes Go.WideShapes Go.ChangeAt Go.RowKit Go.Joins
open Go.Lib
set_option maxRecDepth 100000
theorem own:ownKnob Tryz.prog.godebug=none:=by kernel_rfl
theorem laidOut:laidOutB Tryz.prog=true:=by kernel_rfl
theorem oQ {H:Type} (d:DataW H):1≤Rows.uptoBulk d:=by
 cases d with
 |lit l=>cases l<;>simp[Rows.uptoBulk]
 |nil=>simp[Rows.uptoBulk]
 |ptr d=>simp[Rows.uptoBulk]
 |slice elems spare=>simp[Rows.uptoBulk]
 |agg parts=>simp[Rows.uptoBulk]
 |iface t d=>simp[Rows.uptoBulk]
 |map entries=>simp[Rows.uptoBulk]
 |held h=>simp[Rows.uptoBulk]
theorem length_le {H:Type} (l:List (DataW H)):l.length≤Rows.uptoBulkAll l:=by
 induction l with
 |nil=>simp[Rows.uptoBulkAll]
 |cons x r ih=>have:=oQ x;simp only[Rows.uptoBulkAll,List.length_cons];omega
theorem cellsByte:Tryz.prog.cellsOf 5=1:=by kernel_rfl
theorem bd_of_ints {w:World} {a:Addr} {len:Nat} {zs:List Int} (hl:len≤zs.length) (hc:∀ i,i<zs.length→w.cell? (a.add i)=some (.int .u8 (zs.getD i 0))) (hw:∀ n∈zs,(Lit.int .u8 n).wf=true) :
  ∃ xs:List UInt8,xs.length=len∧Bd w (some a) xs:=by
 have hb:∀ n∈zs,0≤n∧n<256:=by
  intro n hn
  have:=hw n hn
  simp[Lit.wf,IntKind.min,IntKind.max,IntKind.bits,IntKind.signed] at this
  omega
 refine⟨(zs.take len).map fun z=>UInt8.ofNat z.toNat,by simp;omega,⟨fun hne=>?_⟩⟩
 have hp:0<len:=by
  rcases Nat.eq_zero_or_pos len with h|h
  ·subst h;simp at hne
  ·exact h
 obtain⟨b,off,spot⟩:=a
 have h0:=hc 0 (by omega)
 have hspot:spot=none:=by simpa [Addr.add] using World.cell?_spot h0
 subst hspot
 refine⟨b,off,rfl,fun t ht=>?_⟩
 have htl:t<len:=by simpa using Nat.lt_of_lt_of_le ht (by simp;omega)
 have h1:=hc t (by omega)
 rw[Addr.add_mid] at h1
 rw[h1]
 have hz:zs.getD t 0∈zs:=by
  rw[List.getD_eq_getElem?_getD,List.getElem?_eq_getElem (by omega)]
  exact List.getElem_mem _
 have h2:=hb _ hz
 have h3:((zs.take len).map fun z=>UInt8.ofNat z.toNat).getD t 0=UInt8.ofNat (zs.getD t 0).toNat:=by
  have ht2:t<zs.length:=by omega
  simp[List.getD_eq_getElem?_getD,htl,ht2]
 rw[h3]
 generalize zs.getD t 0=z at *
 have h4:(UInt8.ofNat z.toNat).toNat=z.toNat:=by simp;omega
 rw[h4,Int.toNat_of_nonneg h2.1]
theorem slice_le {H:Type} (elems spare:List (DataW H)):elems.length+spare.length+1≤Rows.uptoBulk (.slice elems spare):=by
 have h1:=length_le elems
 have h2:=length_le spare
 simp only[Rows.uptoBulk]
 omega
theorem open_bytes {H:Type} {enc:TypeId × Value→H} {w:World} {r:Reach} {b0:Nat} {v:Value} {d:DataW H} {p:List MemPlace}
  (hv:Value.okWide Tryz.prog w r b0 22 v) (h:DataW.Trod enc Tryz.prog w 0 (fun _=>true) true 22 v d p) :
  ∃ (ao:Option Addr) (cap:Nat) (xs:List UInt8),v=.slice ao xs.length cap∧Bd w ao xs∧xs.length≤cap∧(ao=none→cap=0)∧xs.length+1≤Rows.uptoBulk d:=by
 obtain⟨a0,n0,c0,rfl⟩:=okWide_slice Tryz.underlying22 hv
 obtain⟨m,hm⟩:=h
 rcases open_ints Tryz.underlying22 Tryz.underlying5 cellsByte hm with⟨hcs,hx⟩|⟨a,len,cap,zs,hcs,_,hl,hmx,hzs,hx,hcell,hwz⟩
 ·simp[Value.cells] at hcs
  obtain⟨rfl,rfl,rfl⟩:=hcs
  exact⟨none,0,[],rfl,Bd.nil _ _,by simp,fun _=>rfl,oQ _⟩
 ·simp[Value.cells] at hcs
  obtain⟨rfl,rfl,rfl⟩:=hcs
  simp only[if_true] at hzs
  obtain⟨xs,hxl,hr⟩:=bd_of_ints (w:=w) (a:=a) (len:=n0) (by omega) hcell hwz
  subst hxl
  refine⟨some a,c0,xs,rfl,hr,hl,fun e=>(by cases e),?_⟩
  have hd:d=.slice (lits .u8 (zs.take xs.length)) (lits .u8 (zs.drop xs.length)):=congrArg Prod.fst hx
  rw[hd]
  have:=slice_le (H:=H) (lits .u8 (zs.take xs.length)) (lits .u8 (zs.drop xs.length))
  have e1:(lits (H:=H) .u8 (zs.take xs.length)).length=xs.length:=by simp[lits];omega
  omega
end Go.Proofs.YtimoappbefindaaGreat
