/-
  4 texts in one: what each proves stands at its head.
-/
import Derived.Test.YtimoappbefindaaGreatUC
import Derived.Test.YtimoappbefindaaGreatUB
import Derived.Laws.Runes
import Derived.WalkMore
import Derived.Laws.RangeString
import Derived.Deep.QuietTactic
import Derived.BigQuiet
import Derived.Deep.RegionWith
import Derived.Laws.IdiomStrings
import Derived.Lib.ItoaLen
namespace Go.Proofs.YtimoappbefindaaGreat
set_option maxHeartbeats 2000000
open Go.RowKit
set_option maxRecDepth 100000
open Go.Lib
def digB (b:UInt8):Bool:=decide (48≤b.toNat)&&decide (b.toNat≤57)
def accW (acc:Int):List UInt8→Int
 |[]=>acc
 |b::r=>if digB b then accW (min (10*acc+((b.toNat:Int)-48)) 16777217) r else acc
def lenW:List UInt8→Nat
 |[]=>0
 |b::r=>if digB b then lenW r+1 else 0
theorem dC {a b c d:Int} (h:a=c) (k:b=d):Ending.returned (.tuple #[.int .i64 a,.int .i64 b])=.returned (.tuple #[.int .i64 c,.int .i64 d]):=by rw[h,k]
def wV (sg:Int) (l:List UInt8):Int:=if lenW l=0 then 0 else sg*accW 0 l
def wK (i:Nat) (l:List UInt8):Int:=if lenW l=0 then 0 else (lenW l:Int)+i
theorem jM (s:ByteArray) (k:Nat) (h:k<s.size):s.data.toList.drop k=s[k]::s.data.toList.drop (k+1):=by
 rw[List.drop_eq_getElem_cons (by simpa using h)];rfl
theorem whole_neg (s:ByteArray) (hs:s.size≤281474976710656) (h0:0<s.size) (h45:((s[0].toNat:Int)==45)=true) (T:List UInt8) (HT:Hid (s.data.toList.drop 1=T)) (w:World) :
  Calls Tryz.prog 102 #[.string s] w fun e w'=>e=.returned (.tuple #[.int .i64 (wV (-1) T),.int .i64 (wK 1 T)])∧w'=w:=by
 have hz:(0:Int)<(s.size:Int):=by omega
 go_enter Tryz.func102,Tryz.ntmps102
 go_wp2_with fail
 go_loop [5,6] (fun nv kv=>∃ (a:Int) (k:Nat),1≤k∧k≤s.size∧nv=.int .i64 a∧kv=.int .i64 k∧0≤a∧a≤16777217∧Hid (accW 0 T=accW a (s.data.toList.drop k))∧Hid (lenW T+1=k+lenW (s.data.toList.drop k))) (fun _ kv=>s.size-(RowKit.intOf kv).toNat)
 case atStart=>exact⟨0,1,by omega,by omega,rfl,rfl,by omega,by omega,show _=_ from by rw[HT.out],show _=_ from by rw[HT.out];omega⟩
 case round=>
  obtain⟨a,k,hk0,hk,rfl,rfl,ha0,ha1,hA,hL⟩:=hrel
  have key:accW a (s.data.toList.drop k)=a→lenW (s.data.toList.drop k)=0→Hid (wV (-1) T=(if k=1 then 0 else -1*a)∧wK 1 T=(if k=1 then 0 else (k:Int))):=by
   intro e1 e2
   have h1:=hA.out
   have h2:=hL.out
   rw[e1] at h1
   rw[e2] at h2
   show _∧_
   unfold wV wK
   by_cases hki:k=1
   ·have hz:lenW T=0:=by omega
    simp only[hz,hki,if_true,and_self]
   ·have hz:¬ lenW T=0:=by omega
    simp only[hz,hki,if_false,h1,true_and];omega
  have KEY:Hid (accW a (s.data.toList.drop k)=a→lenW (s.data.toList.drop k)=0→Hid (wV (-1) T=(if k=1 then 0 else -1*a)∧wK 1 T=(if k=1 then 0 else (k:Int)))):=key
  clear key
  by_cases hlt:k<s.size
  ·have hd:Hid (s.data.toList.drop k=s[k]::s.data.toList.drop (k+1)):=jM s k hlt
   have hzk:(k:Int)<(s.size:Int):=by omega
   by_cases hg:digB s[k]=true
   ·have hg':=hg
    unfold digB at hg'
    simp at hg'
    obtain⟨g1,g2⟩:=hg'
    have g3:(48:Int)≤(s[k].toNat:Int):=by omega
    have g4:(s[k].toNat:Int)≤57:=by omega
    go_wp2_with fail
    go_round
    case rel=>
     refine⟨_,k+1,by omega,by omega,rfl,by go_num,by omega,by omega,?_,?_⟩
     ·show _=_
      rw[hA.out,hd.out];simp only[accW];rw[if_pos hg]
     ·show _=_
      rw[hL.out,hd.out];simp only[lenW];rw[if_pos hg];omega
    case measure=>simp[RowKit.intOf];omega
   ·have e1:accW a (s.data.toList.drop k)=a:=by rw[hd.out];simp only[accW];rw[if_neg hg]
    have e2:lenW (s.data.toList.drop k)=0:=by rw[hd.out];simp only[lenW];rw[if_neg hg]
    have EV:=KEY.out e1 e2
    clear e1 e2 KEY hA hL hd
    have hg2:¬ (48:Int)≤(s[k].toNat:Int)∨((48:Int)≤(s[k].toNat:Int)∧¬ (s[k].toNat:Int)≤57):=by
     unfold digB at hg
     simp at hg
     omega
    clear hg
    by_cases hki:k=1
    ·subst hki
     rcases hg2 with g3|⟨g3,g4⟩
     all_goals
      go_wp2_with fail
      go_ret2
      refine⟨dC ?_ ?_,rfl⟩
      ·rw[EV.out.1];simp
      ·rw[EV.out.2];simp
    ·have hki':((k:Int)==1)=false:=by simp;omega
     rcases hg2 with g3|⟨g3,g4⟩
     all_goals
      go_wp2_with fail
      go_ret2
      refine⟨dC ?_ ?_,rfl⟩
      ·rw[EV.out.1,if_neg hki];omega
      ·rw[EV.out.2,if_neg hki]
  ·have hke:s.data.toList.drop k=[]:=List.drop_of_length_le (by rw[← Lib.size_eq];omega)
   have EV:=KEY.out (by rw[hke];rfl) (by rw[hke];rfl)
   have hzk:¬ (k:Int)<(s.size:Int):=by omega
   clear hke KEY hA hL
   by_cases hki:k=1
   ·subst hki
    go_wp2_with fail
    go_ret2
    refine⟨dC ?_ ?_,rfl⟩
    ·rw[EV.out.1];simp
    ·rw[EV.out.2];simp
   ·have hki':((k:Int)==1)=false:=by simp;omega
    go_wp2_with fail
    go_ret2
    refine⟨dC ?_ ?_,rfl⟩
    ·rw[EV.out.1,if_neg hki];omega
    ·rw[EV.out.2,if_neg hki]
theorem whole_pos (s:ByteArray) (hs:s.size≤281474976710656) (h0:0<s.size) (h45:((s[0].toNat:Int)==45)=false) (T:List UInt8) (HT:Hid (s.data.toList.drop 0=T)) (w:World) :
  Calls Tryz.prog 102 #[.string s] w fun e w'=>e=.returned (.tuple #[.int .i64 (wV (1) T),.int .i64 (wK 0 T)])∧w'=w:=by
 have hz:(0:Int)<(s.size:Int):=by omega
 go_enter Tryz.func102,Tryz.ntmps102
 go_wp2_with fail
 go_loop [5,6] (fun nv kv=>∃ (a:Int) (k:Nat),0≤k∧k≤s.size∧nv=.int .i64 a∧kv=.int .i64 k∧0≤a∧a≤16777217∧Hid (accW 0 T=accW a (s.data.toList.drop k))∧Hid (lenW T+0=k+lenW (s.data.toList.drop k))) (fun _ kv=>s.size-(RowKit.intOf kv).toNat)
 case atStart=>exact⟨0,0,by omega,by omega,rfl,rfl,by omega,by omega,show _=_ from by rw[HT.out],show _=_ from by rw[HT.out];omega⟩
 case round=>
  obtain⟨a,k,hk0,hk,rfl,rfl,ha0,ha1,hA,hL⟩:=hrel
  have key:accW a (s.data.toList.drop k)=a→lenW (s.data.toList.drop k)=0→Hid (wV (1) T=(if k=0 then 0 else 1*a)∧wK 0 T=(if k=0 then 0 else (k:Int))):=by
   intro e1 e2
   have h1:=hA.out
   have h2:=hL.out
   rw[e1] at h1
   rw[e2] at h2
   show _∧_
   unfold wV wK
   by_cases hki:k=0
   ·have hz:lenW T=0:=by omega
    simp only[hz,hki,if_true,and_self]
   ·have hz:¬ lenW T=0:=by omega
    simp only[hz,hki,if_false,h1,true_and];omega
  have KEY:Hid (accW a (s.data.toList.drop k)=a→lenW (s.data.toList.drop k)=0→Hid (wV (1) T=(if k=0 then 0 else 1*a)∧wK 0 T=(if k=0 then 0 else (k:Int)))):=key
  clear key
  by_cases hlt:k<s.size
  ·have hd:Hid (s.data.toList.drop k=s[k]::s.data.toList.drop (k+1)):=jM s k hlt
   have hzk:(k:Int)<(s.size:Int):=by omega
   by_cases hg:digB s[k]=true
   ·have hg':=hg
    unfold digB at hg'
    simp at hg'
    obtain⟨g1,g2⟩:=hg'
    have g3:(48:Int)≤(s[k].toNat:Int):=by omega
    have g4:(s[k].toNat:Int)≤57:=by omega
    go_wp2_with fail
    go_round
    case rel=>
     refine⟨_,k+1,by omega,by omega,rfl,by go_num,by omega,by omega,?_,?_⟩
     ·show _=_
      rw[hA.out,hd.out];simp only[accW];rw[if_pos hg]
     ·show _=_
      rw[hL.out,hd.out];simp only[lenW];rw[if_pos hg];omega
    case measure=>simp[RowKit.intOf];omega
   ·have e1:accW a (s.data.toList.drop k)=a:=by rw[hd.out];simp only[accW];rw[if_neg hg]
    have e2:lenW (s.data.toList.drop k)=0:=by rw[hd.out];simp only[lenW];rw[if_neg hg]
    have EV:=KEY.out e1 e2
    clear e1 e2 KEY hA hL hd
    have hg2:¬ (48:Int)≤(s[k].toNat:Int)∨((48:Int)≤(s[k].toNat:Int)∧¬ (s[k].toNat:Int)≤57):=by
     unfold digB at hg
     simp at hg
     omega
    clear hg
    by_cases hki:k=0
    ·subst hki
     rcases hg2 with g3|⟨g3,g4⟩
     all_goals
      go_wp2_with fail
      go_ret2
      refine⟨dC ?_ ?_,rfl⟩
      ·rw[EV.out.1];simp
      ·rw[EV.out.2];simp
    ·have hki':((k:Int)==0)=false:=by simp;omega
     rcases hg2 with g3|⟨g3,g4⟩
     all_goals
      go_wp2_with fail
      go_ret2
      refine⟨dC ?_ ?_,rfl⟩
      ·rw[EV.out.1,if_neg hki];omega
      ·rw[EV.out.2,if_neg hki]
  ·have hke:s.data.toList.drop k=[]:=List.drop_of_length_le (by rw[← Lib.size_eq];omega)
   have EV:=KEY.out (by rw[hke];rfl) (by rw[hke];rfl)
   have hzk:¬ (k:Int)<(s.size:Int):=by omega
   clear hke KEY hA hL
   by_cases hki:k=0
   ·exfalso;omega
   ·have hki':((k:Int)==0)=false:=by simp;omega
    go_wp2_with fail
    go_ret2
    refine⟨dC ?_ ?_,rfl⟩
    ·rw[EV.out.1,if_neg hki];omega
    ·rw[EV.out.2,if_neg hki]
theorem whole_nil (s:ByteArray) (h0:s.size=0) (w:World) :
  Calls Tryz.prog 102 #[.string s] w fun e w'=>e=.returned (.tuple #[.int .i64 0,.int .i64 0])∧w'=w:=by
 have hz:¬ (0:Int)<(s.size:Int):=by omega
 go_enter Tryz.func102,Tryz.ntmps102
 go_wp2_with fail
 refine wp_loop_rounds 1 ?_
 rw[rounds_succ]
 go_wp2
 go_ret2
 exact⟨rfl,rfl⟩
def mU (n:Nat):ByteArray:=bs [UInt8.ofNat (48+n % 10)]
theorem dW {a b:ByteArray} (h:a=b):Ending.returned (.string a)=.returned (.string b):=by rw[h]
theorem conv_one (n:Nat) (w:World) :
  (convert 22 9 (.slice (some ⟨w.heap.size,0,none⟩) 1 1)).run Tryz.prog (w.alloc (.cells #[.int .u8 (48+(n:Int) % 10)] 5))=.ok (.string (mU n)) (w.alloc (.cells #[.int .u8 (48+(n:Int) % 10)] 5)):=by
 have:=run_convert_bytes_back (P:=Tryz.prog) (w.alloc (.cells #[.int .u8 (48+(n:Int) % 10)] 5)) 22 9 5 ⟨w.heap.size,0,none⟩ 1 [UInt8.ofNat (48+n % 10)] Tryz.underlying22 Tryz.underlying5 Tryz.underlying9 (by
  intro j hj
  have h0:j=0:=by simp at hj;omega
  subst h0
  have e:([UInt8.ofNat (48+n % 10)][0].toNat:Int)=48+(n:Int) % 10:=by
   have:=dig_of (show n % 10<10 by omega)
   simp only[List.getElem_cons_zero]
   rw[this];omega
  rw[e]
  show (w.alloc (.cells #[.int .u8 (48+(n:Int) % 10)] 5)).cell? ⟨w.heap.size,0,none⟩=_
  go_simp)
 exact this
theorem il (n:Nat):n<4294967296→∀ w:World,
  Calls Tryz.prog 121 #[.int .i64 n] w fun e w'=>e=.returned (.string (bs (decDigits n)))∧Below w.heap.size w w':=by
 induction n using Nat.strongRecOn with
 |_ n ih=>
  intro hn w
  have hcv:=conv_one n w
  have h0:¬ (n:Int)<0:=by omega
  by_cases h:n<10
  ·have h1:¬ (10:Int)≤n:=by omega
   clear ih
   go_enter Tryz.func121,Tryz.ntmps121
   go_wp2_with fail
   go_ret
   refine⟨dW ?_,bal (Below.refl _ _)⟩
   unfold mU
   rw[decDigits_one h,show n % 10=n by omega]
  ·have h1:(10:Int)≤n:=by omega
   have IH:Hid (∀ w:World,Calls Tryz.prog 121 #[.int .i64 ((n / 10:Nat):Int)] w fun e w'=>e=.returned (.string (bs (decDigits (n / 10))))∧Below w.heap.size w w'):=ih (n / 10) (by omega) (by omega)
   clear ih
   have hl:(decDigits (n / 10)).length≤20:=by
    rw[decDigits_length]
    exact nDigits_le20 _ (by omega)
   have hsz:(bs (decDigits (n / 10))).size≤20:=by rw[bA];exact hl
   have hs1:(mU n).size≤1:=by unfold mU;rw[bA];exact Nat.le_refl _
   clear hl
   go_enter Tryz.func121,Tryz.ntmps121
   go_wp2_with fail
   have e1:((n:Int) / 10)=((n / 10:Nat):Int):=by omega
   rw[e1]
   clear e1
   refine (IH.out _).mono ?_
   rintro e w1 ⟨rfl,hb⟩
   go_wp2_with fail
   go_ret
   refine⟨dW ?_,(bal (Below.refl _ _)).trans (hb.mono (by simp))⟩
   unfold mU
   have e:decDigits n=decDigits (n / 10)++[UInt8.ofNat (48+n % 10)]:=by rw[decDigits,dif_neg h]
   rw[fI,e]
theorem gu (n:Int) (w:World) (h:n.natAbs≤16777216) :
  Calls Tryz.prog 121 #[.int .i64 n] w fun e w'=>e=.returned (.string (bs (itoa n)))∧Below w.heap.size w w':=by
 by_cases h0:n<0
 ·have hl:(decDigits n.natAbs).length≤20:=by
   rw[decDigits_length]
   exact nDigits_le20 _ (by omega)
  have hsz:(bs (decDigits n.natAbs)).size≤20:=by rw[bA];exact hl
  have HD:Hid (∀ w,Calls Tryz.prog 121 #[.int .i64 (-n)] w fun e w'=>e=.returned (.string (bs (decDigits n.natAbs)))∧Below w.heap.size w w'):=by
   intro w
   have:=il n.natAbs (by omega) w
   rwa[show ((n.natAbs:Nat):Int)=-n by omega] at this
  have e:Hid (itoa n=[45]++decDigits n.natAbs):=by show itoa n=_;unfold itoa;rw[if_pos h0];rfl
  clear hl
  go_enter Tryz.func121,Tryz.ntmps121
  go_wp2_with fail
  refine (HD.out _).mono ?_
  rintro _ w1 ⟨rfl,hb⟩
  go_wp2_with fail
  go_ret
  refine⟨dW ?_,hb⟩
  rw[e.out,← fI];rfl
 ·have:=il n.toNat (by omega) w
  rw[show ((n.toNat:Nat):Int)=n by omega] at this
  have e:itoa n=decDigits n.toNat:=by unfold itoa;rw[if_neg h0]
  rw[e]
  exact this
theorem iD {w a b:World} (h:Below w.heap.size w a) (hb:Below a.heap.size a b):Below w.heap.size w b:=h.trans (hb.mono h.size)
theorem rtext_c (p q:Int) (w:World) (h1:¬ p=0) (h2:0<q) (hp:p.natAbs≤16777216) (hq:q.natAbs≤16777216) :
  Calls Tryz.prog 104 #[.agg #[.int .i64 p,.int .i64 q]] w fun e w'=>e=.returned (.string (bs (itoa p++[43]++itoa q++[105])))∧Below w.heap.size w w':=by
 have hz:=(dO hq).2
 have hy:=(dO hp).2
 have hsz:(bs (itoa q)).size≤9:=by rw[bA];exact hz
 have hsy:(bs (itoa p)).size≤9:=by rw[bA];exact hy
 clear hz hy
 go_enter Tryz.func104,Tryz.ntmps104
 go_wp2_with fail
 have ca:(w.alloc (.cells #[.int .i64 p,.int .i64 q] 161)).cell? ⟨w.heap.size,0,none⟩=some (.int .i64 p):=by go_simp
 have cb:(w.alloc (.cells #[.int .i64 p,.int .i64 q] 161)).cell? ⟨w.heap.size,1,none⟩=some (.int .i64 q):=by go_simp
 go_region_with (go_at_call 121;refine (gu _ _ (by assumption)).mono ?_;rintro _ w1 ⟨rfl,hb⟩;have ka:=keep (b:=w.heap.size) (o:=0) (v:=.int .i64 p) hb (by first|assumption|(simp;done)|(simp;assumption));have kb:=keep (b:=w.heap.size) (o:=1) (v:=.int .i64 q) hb (by first|assumption|(simp;done)|(simp;assumption)))
 all_goals
  go_wp2
  go_ret
  refine⟨dW ?_,?_⟩
 all_goals first
  |(rw[← fI,← fI,← fI];rfl)
  |(repeat (first|exact Below.refl _ _|refine bal ?_|refine below_drewN ?_ _|refine Below.drew ?_|refine iD ?_ (by assumption)))
theorem rtext_d (p q:Int) (w:World) (h0:¬ q=0) (h1:¬ p=0) (h2:¬ 0<q) (hp:p.natAbs≤16777216) (hq:q.natAbs≤16777216) :
  Calls Tryz.prog 104 #[.agg #[.int .i64 p,.int .i64 q]] w fun e w'=>e=.returned (.string (bs (itoa p++itoa q++[105])))∧Below w.heap.size w w':=by
 have hz:=(dO hq).2
 have hy:=(dO hp).2
 have hsz:(bs (itoa q)).size≤9:=by rw[bA];exact hz
 have hsy:(bs (itoa p)).size≤9:=by rw[bA];exact hy
 clear hz hy
 go_enter Tryz.func104,Tryz.ntmps104
 go_wp2_with fail
 have ca:(w.alloc (.cells #[.int .i64 p,.int .i64 q] 161)).cell? ⟨w.heap.size,0,none⟩=some (.int .i64 p):=by go_simp
 have cb:(w.alloc (.cells #[.int .i64 p,.int .i64 q] 161)).cell? ⟨w.heap.size,1,none⟩=some (.int .i64 q):=by go_simp
 go_region_with (go_at_call 121;refine (gu _ _ (by assumption)).mono ?_;rintro _ w1 ⟨rfl,hb⟩;have ka:=keep (b:=w.heap.size) (o:=0) (v:=.int .i64 p) hb (by first|assumption|(simp;done)|(simp;assumption));have kb:=keep (b:=w.heap.size) (o:=1) (v:=.int .i64 q) hb (by first|assumption|(simp;done)|(simp;assumption)))
 all_goals
  go_wp2
  go_ret
  refine⟨dW ?_,?_⟩
 all_goals first
  |(rw[← fI,← fI];rfl)
  |(repeat (first|exact Below.refl _ _|refine bal ?_|refine below_drewN ?_ _|refine Below.drew ?_|refine iD ?_ (by assumption)))
theorem rtext_w (p q:Int) (w:World) (hp:p.natAbs≤16777216) (hq:q.natAbs≤16777216) :
  Calls Tryz.prog 104 #[.agg #[.int .i64 p,.int .i64 q]] w fun e w'=>e=.returned (.string (bs (txt p q)))∧Below w.heap.size w w':=by
 have hz:=(dO hq).2
 have hy:=(dO hp).2
 have hsz:(bs (itoa q)).size≤9:=by rw[bA];exact hz
 have hsy:(bs (itoa p)).size≤9:=by rw[bA];exact hy
 clear hz hy
 by_cases h0:q=0
 ·have e:Hid (txt p q=itoa p):=by show txt p q=_;unfold txt;rw[if_pos h0]
  subst h0
  go_enter Tryz.func104,Tryz.ntmps104
  go_wp2_with fail
  refine (gu _ _ hp).mono ?_
  rintro _ w1 ⟨rfl,hb⟩
  go_wp2_with fail
  go_ret
  exact⟨dW (by rw[e.out]),(bal (Below.refl _ _)).trans (hb.mono (by simp))⟩
 ·by_cases h1:p=0
  ·have e:Hid (txt p q=itoa q++[105]):=by show txt p q=_;unfold txt;rw[if_neg h0,if_pos h1]
   subst h1
   go_enter Tryz.func104,Tryz.ntmps104
   go_wp2_with fail
   refine (gu _ _ hq).mono ?_
   rintro _ w1 ⟨rfl,hb⟩
   go_wp2_with fail
   go_ret
   exact⟨dW (by rw[e.out,← fI];rfl),(bal (Below.refl _ _)).trans (hb.mono (by simp))⟩
  ·by_cases h2:0<q
   ·have e:txt p q=itoa p++[43]++itoa q++[105]:=by unfold txt;rw[if_neg h0,if_neg h1,if_pos h2];simp
    rw[e]
    exact rtext_c p q w h1 h2 hp hq
   ·have e:txt p q=itoa p++itoa q++[105]:=by unfold txt;rw[if_neg h0,if_neg h1,if_neg h2];simp
    rw[e]
    exact rtext_d p q w h0 h1 h2 hp hq
def wX (l:List UInt8):Int:=if l.head?=some 45 then wV (-1) (l.drop 1) else wV 1 (l.drop 0)
def wN (i:Nat) (l:List UInt8):Nat:=if lenW l=0 then 0 else lenW l+i
def wL (l:List UInt8):Nat:=if l.head?=some 45 then wN 1 (l.drop 1) else wN 0 (l.drop 0)
theorem nI (i:Nat) (l:List UInt8):wK i l=(wN i l:Nat):=by
 unfold wK wN
 split
 ·rfl
 ·omega
theorem fQ (l:List UInt8) (hl:l.length≤281474976710656) (w:World) :
  Calls Tryz.prog 102 #[.string (bs l)] w fun e w'=>e=.returned (.tuple #[.int .i64 (wX l),.int .i64 (wL l:Nat)])∧w'=w:=by
 have hs:=bA l
 cases l with
 |nil=>exact whole_nil (bs []) (by rw[hs];rfl) w
 |cons b r=>
  have h0:0<(bs (b::r)).size:=by rw[hs];simp
  have hb:(bs (b::r))[0]=b:=by simp[bs,ByteArray.getElem_eq_getElem_data]
  by_cases h45:b=45
  ·have:=whole_neg (bs (b::r)) (by rw[hs];exact hl) h0 (by rw[hb,h45];rfl) _ rfl w
   rw[fA,nI] at this
   unfold wX wL
   rw[if_pos (by rw[h45];rfl),if_pos (by rw[h45];rfl)]
   exact this
  ·have hne:¬ (b::r).head?=some 45:=by simpa using h45
   have:=whole_pos (bs (b::r)) (by rw[hs];exact hl) h0 (by
    rw[hb,beq_eq_false_iff_ne]
    intro e
    apply h45
    apply UInt8.toNat.inj
    show b.toNat=45
    omega) _ rfl w
   rw[fA,nI] at this
   unfold wX wL
   rw[if_neg hne,if_neg hne]
   exact this
theorem oI (l:List UInt8):lenW l≤l.length:=by
 induction l with
 |nil=>simp[lenW]
 |cons b r ih=>
  simp only[lenW]
  split
  ·simp;omega
  ·simp
theorem wL_le (l:List UInt8):wL l≤l.length:=by
 unfold wL wN
 have h0:=oI (l.drop 0)
 have h1:=oI (l.drop 1)
 rw[List.drop_zero] at *
 rw[List.length_drop] at h1
 repeat' split
 all_goals omega
def rst (l:List UInt8):List UInt8:=l.drop (wL l)
def rdX (l:List UInt8):Int:=if rst l=[105] then 0 else wX l
def rdY (l:List UInt8):Int:=
 if rst l=[105] then wX l else if rst l=[] then 0 else wX (if (rst l).head?=some 43 then (rst l).drop 1 else rst l)
def rdOk (l:List UInt8):Bool:=decide (wL l≠0∧(rdX l).natAbs≤16777216∧(rdY l).natAbs≤16777216∧txt (rdX l) (rdY l)=l)
end Go.Proofs.YtimoappbefindaaGreat
