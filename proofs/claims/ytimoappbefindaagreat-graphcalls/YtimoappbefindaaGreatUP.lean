/-
  2 texts in one: what each proves stands at its head.
-/
import Derived.Test.YtimoappbefindaaGreatUH
namespace Go.Proofs.YtimoappbefindaaGreat
set_option maxHeartbeats 4000000
open Go.RowKit
set_option maxRecDepth 100000
theorem mV {k:IntKind} {a b:Int} (h:a=b):Ending.returned (.int k a)=.returned (.int k b):=by rw[h]
def Wb (w:World) (b:Nat):Prop:=w.heap[b]?=some (.cells (eO.map strV).toArray 9 (0,0))
theorem Wb.cell {w:World} {b:Nat} (h:Wb w b) (i:Nat) (hi:i<19):w.cell? ⟨b,i,none⟩=some (.string (bs (eO.getD i []))):=by
 rw[cell_of_row w b i _ _ _ h]
 have hi':i<eO.length:=hi
 simp[List.getD_eq_getElem?_getD,hi',strV]
theorem refWords_any (w:World) :
  Calls Tryz.prog 105 #[] w fun e w'=>e=.returned (.slice (some ⟨w.heap.size,0,none⟩) 19 19)∧Wb w' w.heap.size∧Below w.heap.size w w':=by
 go_enter Tryz.func105,Tryz.ntmps105
 go_wp2
 go_ret
 exact⟨rfl,heap_alloc_new w _,ae _ _⟩
theorem isWd_false_iff (l:List UInt8):isWd l=false↔∀ j,j<19→eO.getD j []≠l:=by
 rw[← Bool.not_eq_true,isWd,List.contains_iff_mem]
 constructor
 ·intro h j hj e
  apply h
  have hj':j<eO.length:=hj
  rw[← e,List.getD_eq_getElem?_getD,List.getElem?_eq_getElem hj']
  exact List.getElem_mem hj'
 ·intro h hm
  obtain⟨j,hj,e⟩:=List.mem_iff_getElem.1 hm
  refine h j hj ?_
  rw[List.getD_eq_getElem?_getD,List.getElem?_eq_getElem hj]
  exact e
theorem refReserved_any (l:List UInt8) (w:World) :
  Calls Tryz.prog 85 #[.string (bs l)] w fun e w'=>e=.returned (.bool (isWd l))∧Below w.heap.size w w':=by
 have HF:Hid (isWd l=false↔∀ j,j<19→eO.getD j []≠l):=isWd_false_iff l
 go_enter Tryz.func85,Tryz.ntmps85
 go_wp2_with fail
 refine (refWords_any _).mono ?_
 rintro e w1 ⟨rfl,hw1,hB⟩
 obtain⟨g,hg⟩:∃ g,g=w.heap.size:=⟨_,rfl⟩
 rw[← hg] at hw1 ⊢
 clear hg
 go_wp2
 go_loop [4] (fun i=>∃ k:Nat,k≤19∧i=.int .i64 k∧Hid (∀ j,j<k→eO.getD j []≠l)) (fun i=>19-(intOf i).toNat)
 case atStart=>exact⟨0,Nat.zero_le _,rfl,fun j hj=>absurd hj (by omega)⟩
 case round=>
  obtain⟨k,hk,rfl,hall⟩:=hrel
  by_cases hlt:k<19
  ·obtain⟨x,hx⟩:∃ x,x=eO.getD k []:=⟨_,rfl⟩
   have ha:=hw1.cell k hlt
   rw[← hx] at ha
   have HX:Hid (x=eO.getD k []):=hx
   clear hx hw1
   by_cases he:x=l
   ·subst he
    have h1:((bs x).toList==(bs x).toList)=true:=by simp
    go_wp2
    go_ret
    refine⟨gD ?_,hB⟩
    cases h:isWd x with
    |true=>rfl
    |false=>exact absurd (show x=_ from HX).symm ((show _↔_ from HF).1 h k hlt)
   ·have h1:((bs x).toList==(bs l).toList)=false:=by rw[aG,aG,beq_eq_false_iff_ne];exact he
    go_wp2
    go_round
    case rel=>
     refine⟨k+1,by omega,by go_num,fun j hj=>?_⟩
     rcases Nat.lt_or_ge j k with h|h
     ·exact (show ∀ j,j<k→_ from hall) j h
     ·have e:j=k:=by omega
      rw[e,← show x=_ from HX]
      exact he
    case measure=>simp[intOf];omega
  ·have hke:k=19:=by omega
   subst hke
   go_wp2
   go_ret
   exact⟨gD ((show _↔_ from HF).2 hall).symm,hB⟩
theorem tw_at {l:List UInt8} {k:Nat} (h:k<l.length) (hr:inRn (l.getD k 0)=true):((l.drop k).takeWhile inRn).length=((l.drop (k+1)).takeWhile inRn).length+1:=by
 rw[drop_at h,List.takeWhile_cons,if_pos hr];rfl
theorem qH {l:List UInt8} {k:Nat} (h:l.length≤k∨inRn (l.getD k 0)=false):((l.drop k).takeWhile inRn).length=0:=by
 by_cases hk:k<l.length
 ·rcases h with h|h
  ·omega
  ·rw[drop_at hk,List.takeWhile_cons,if_neg (by rw[h];simp)];rfl
 ·rw[List.drop_eq_nil_of_le (by omega)];rfl
theorem eZ (b off cap:Nat) (l:List UInt8) (k:Nat) (hlen:l.length≤16777216) (hk:k≤l.length) (w:World) (hc:∀ t,t<l.length→w.cell? ⟨b,off+t,none⟩=some (.int .u8 ((l.getD t 0).toNat:Int))) :
  Calls Tryz.prog 81 #[.slice (some ⟨b,off,none⟩) l.length cap,.int .i64 k] w fun e w'=>e=.returned (.int .i64 (((l.drop k).takeWhile inRn).length:Nat))∧w'=w:=by
 obtain⟨N,hN⟩:∃ N,N=((l.drop k).takeWhile inRn).length:=⟨_,rfl⟩
 have hNl:k+N≤l.length:=by
  have:=jH inRn (l.drop k)
  rw[List.length_drop] at this
  omega
 have HN:Hid (N=((l.drop k).takeWhile inRn).length):=hN
 rw[← hN]
 clear hN
 go_enter Tryz.func81,Tryz.ntmps81
 go_wp2
 go_loop [5] (fun i=>∃ j:Nat,k+j≤l.length∧i=.int .i64 j∧Hid (N=j+((l.drop (k+j)).takeWhile inRn).length)) (fun i=>l.length-(intOf i).toNat)
 case atStart=>exact⟨0,by omega,rfl,by show N=_;rw[Nat.zero_add];exact HN⟩
 case round=>
  obtain⟨j,hj,rfl,hjn⟩:=hrel
  by_cases hlt:k+j<l.length
  ·obtain⟨c,hcd⟩:∃ c,c=l.getD (k+j) 0:=⟨_,rfl⟩
   have hck:=hc (k+j) hlt
   rw[← hcd] at hck
   have HC:Hid (c=l.getD (k+j) 0):=hcd
   clear hc hcd
   have g1:=refletter_any c w
   have g2:=dB c w
   have hin:inRn c=(isLt c||isDg c||c==95):=rfl
   have h95:(c==95)=((c.toNat:Int)==95):=by rw[Bool.eq_iff_iff];simp[← UInt8.toNat_inj];omega
   rw[h95] at hin
   have HI:Hid (inRn c=(isLt c||isDg c||((c.toNat:Int)==95))):=hin
   clear hin h95
   generalize isLt c=x at *
   generalize isDg c=y at *
   have hstop:inRn c=false→N=j:=by
    intro h
    rw[show N=_ from hjn,qH (.inr (by rw[← show c=_ from HC];exact h))]
    rfl
   have hgo:inRn c=true→Hid (N=j+1+((l.drop (k+(j+1))).takeWhile inRn).length):=by
    intro h
    show N=_
    rw[show N=_ from hjn,tw_at hlt (by rw[← show c=_ from HC];exact h)]
    rw[show k+j+1=k+(j+1) by omega]
    omega
   rw[show inRn c=_ from HI] at hstop hgo
   have HS:Hid _:=hstop
   have HO:Hid _:=hgo
   clear hstop hgo hjn HN
   cases h9:((c.toNat:Int)==95) with
   |true=>
    rw[h9] at HO
    cases x<;>cases y
    all_goals
     go_wp2_with (first
      |(go_at_call 101;refine g1.mono ?_;rintro e w' ⟨rfl,hw'⟩;rw[hw'];clear hw')
      |(go_at_call 82;refine g2.mono ?_;rintro e w' ⟨rfl,hw'⟩;rw[hw'];clear hw'))
     go_round
     case rel=>exact⟨j+1,by omega,by go_num,(show _→_ from HO) rfl⟩
     case measure=>simp[intOf];omega
   |false=>
    rw[h9] at HO HS
    cases x<;>cases y
    ·go_wp2_with (first
      |(go_at_call 101;refine g1.mono ?_;rintro e w' ⟨rfl,hw'⟩;rw[hw'];clear hw')
      |(go_at_call 82;refine g2.mono ?_;rintro e w' ⟨rfl,hw'⟩;rw[hw'];clear hw'))
     go_ret
     exact⟨mV (by rw[(show _→_ from HS) rfl]),rfl⟩
    all_goals
     go_wp2_with (first
      |(go_at_call 101;refine g1.mono ?_;rintro e w' ⟨rfl,hw'⟩;rw[hw'];clear hw')
      |(go_at_call 82;refine g2.mono ?_;rintro e w' ⟨rfl,hw'⟩;rw[hw'];clear hw'))
     go_round
     case rel=>exact⟨j+1,by omega,by go_num,(show _→_ from HO) rfl⟩
     case measure=>simp[intOf];omega
  ·have hNj:N=j:=by rw[show N=_ from hjn,qH (.inl (by omega))];rfl
   clear hjn HN
   go_wp2
   go_ret
   exact⟨rfl,rfl⟩
def sgN (c d:Nat):Int:=if (c=45∧d=62)∨(c=61∧d=61) then 2 else if c=40∨c=41∨c=44∨c=58∨c=59∨c=61∨c=43∨c=45∨c=42∨c=47∨c=60∨c=124 then 1 else 0
theorem sgN_eq (c:UInt8) (r:List UInt8):((eB (c::r)).length:Int)=sgN c.toNat ((r.head?.map UInt8.toNat).getD 256):=by
 have hc:∀ d:UInt8,(c=d↔c.toNat=d.toNat):=fun d=>UInt8.toNat_inj.symm
 have hs:(nY.contains c=true)↔(c.toNat=40∨c.toNat=41∨c.toNat=44∨c.toNat=58∨c.toNat=59∨c.toNat=61∨c.toNat=43∨c.toNat=45∨c.toNat=42∨c.toNat=47∨c.toNat=60∨c.toNat=124):=by
  rw[List.contains_iff_mem]
  simp[nY,hc]
 have h2:(((c==45&&r.head?==some 62)||(c==61&&r.head?==some 61))=true)↔((c.toNat=45∧(r.head?.map UInt8.toNat).getD 256=62)∨(c.toNat=61∧(r.head?.map UInt8.toNat).getD 256=61)):=by
  cases r with
  |nil=>simp
  |cons d r=>
   have hd:∀ e:UInt8,(d=e↔d.toNat=e.toNat):=fun e=>UInt8.toNat_inj.symm
   simp[hc,hd]
 have h3:(((c==45&&r.head?==some 62)||(c==61&&r.head?==some 61))=true)→r≠[]:=by
  intro h e;subst e;simp at h
 unfold eB sgN
 dsimp only
 by_cases h:((c==45&&r.head?==some 62)||(c==61&&r.head?==some 61))=true
 ·rw[if_pos h,if_pos (h2.1 h)]
  cases r with
  |nil=>exact absurd rfl (h3 h)
  |cons d r=>rfl
 ·rw[if_neg h,if_neg (fun g=>h (h2.2 g))]
  by_cases h:nY.contains c=true
  ·rw[if_pos h,if_pos (hs.1 h)];rfl
  ·rw[if_neg h,if_neg (fun g=>h (hs.2 g))];rfl
theorem refsign_two (b off cap:Nat) (l:List UInt8) (k c d:Nat) (hlen:l.length≤16777216) (hk:k+1<l.length) (w:World) (hc:w.cell? ⟨b,off+k,none⟩=some (.int .u8 (c:Int))) (hd:w.cell? ⟨b,off+(k+1),none⟩=some (.int .u8 (d:Int))) :
  Calls Tryz.prog 86 #[.slice (some ⟨b,off,none⟩) l.length cap,.int .i64 k] w fun e w'=>e=.returned (.int .i64 (sgN c d))∧w'=w:=by
 go_enter Tryz.func86,Tryz.ntmps86
 go_wp2
 all_goals go_ret
 all_goals refine⟨mV ?_,rfl⟩
 all_goals clear hc
 all_goals unfold sgN
 all_goals try simp only[beq_iff_eq,beq_eq_false_iff_ne,ne_eq] at *
 all_goals first
  |(rw[if_pos (by omega)])
  |(rw[if_neg (by omega),if_pos (by omega)])
  |(rw[if_neg (by omega),if_neg (by omega)])
theorem refsign_one (b off cap:Nat) (l:List UInt8) (k c:Nat) (hlen:l.length≤16777216) (hk:k+1=l.length) (w:World) (hc:w.cell? ⟨b,off+k,none⟩=some (.int .u8 (c:Int))) :
  Calls Tryz.prog 86 #[.slice (some ⟨b,off,none⟩) l.length cap,.int .i64 k] w fun e w'=>e=.returned (.int .i64 (sgN c 256))∧w'=w:=by
 go_enter Tryz.func86,Tryz.ntmps86
 go_wp2
 all_goals go_ret
 all_goals refine⟨mV ?_,rfl⟩
 all_goals clear hc
 all_goals unfold sgN
 all_goals try simp only[beq_iff_eq,beq_eq_false_iff_ne,ne_eq] at *
 all_goals first
  |(rw[if_pos (by omega)])
  |(rw[if_neg (by omega),if_pos (by omega)])
  |(rw[if_neg (by omega),if_neg (by omega)])
theorem refsign_any (b off cap:Nat) (l:List UInt8) (k:Nat) (hlen:l.length≤16777216) (hk:k<l.length) (w:World) (hc:∀ t,t<l.length→w.cell? ⟨b,off+t,none⟩=some (.int .u8 ((l.getD t 0).toNat:Int))) :
  Calls Tryz.prog 86 #[.slice (some ⟨b,off,none⟩) l.length cap,.int .i64 k] w fun e w'=>e=.returned (.int .i64 ((eB (l.drop k)).length:Nat))∧w'=w:=by
 rw[drop_at hk,sgN_eq]
 by_cases h:k+1<l.length
 ·have e:(l.drop (k+1)).head?=some (l.getD (k+1) 0):=by rw[drop_at h];rfl
  rw[e]
  exact refsign_two b off cap l k _ _ hlen h w (hc k hk) (hc (k+1) h)
 ·rw[List.drop_eq_nil_of_le (by omega)]
  exact refsign_one b off cap l k _ hlen (by omega) w (hc k hk)
end Go.Proofs.YtimoappbefindaaGreat
