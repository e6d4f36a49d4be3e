/-
  11 texts in one: what each proves stands at its head.
-/
namespace Go.Proofs.YtimoappbefindaaGreat
structure Mk where
 kind:Int
 text:List UInt8
 p:Int
 q:Int
 at_:Nat
inductive Cu where
 |ok (ms:List Mk)
 |bad (k:Nat)
def isBl (c:UInt8):Bool:=c==9||c==10||c==13||c==32
def isLt (c:UInt8):Bool:=(decide (65≤c)&&decide (c≤90))||(decide (97≤c)&&decide (c≤122))
def isDg (c:UInt8):Bool:=decide (48≤c)&&decide (c≤57)
def inRn (c:UInt8):Bool:=isLt c||isDg c||c==95
def dH:List (List UInt8):=[[66],[76],[78],[99,97,115,101],[99,111,110,106],[101,108,115,101],[102,97,105,108],[102,97,108,115,101],[105,102],[105,109],[105,110],[108,101,116],[110,105,108],[110,111,116],[111,102],[114,101],[115,116,114,105,99,116],[116,104,101,110],[116,114,117,101]]
def mq:List UInt8:=[40,41,44,58,59,61,43,45,42,47,60,124]
def isWd (l:List UInt8):Bool:=dH.contains l
def dI:List UInt8→List UInt8
 |[]=>[]
 |c::r=>if (c==45&&r.head?==some 62)||(c==61&&r.head?==some 61) then c::r.take 1 else if mq.contains c then [c] else []
structure Num where
 ok:List UInt8→Bool
 p:List UInt8→Int
 q:List UInt8→Int
section
variable (N:Num)
def runM (l:List UInt8) (k:Nat):Option Mk:=
 if isWd l then some ⟨1,l,0,0,k⟩ else
 match l with
 |[]=>none
 |c::_=>if isDg c then (if N.ok l then some ⟨2,l,N.p l,N.q l,k⟩ else none) else if isLt c then some ⟨0,l,0,0,k⟩ else none
def mE (l:List UInt8) (k:Nat):Option Mk:=if dI l=[] then none else some ⟨3,dI l,0,0,k⟩
def oneM (l:List UInt8) (k:Nat):Option Mk:=
 match l with
 |[]=>none
 |c::_=>if inRn c then runM N (l.takeWhile inRn) k else mE l k
inductive Stp where
 |stop
 |bad
 |skip (n:Nat)
 |mark (m:Mk)
def stp (l:List UInt8) (k:Nat):Stp:=
 match l with
 |[]=>.stop
 |c::r=>if isBl c then .skip 1 else if c==35 then .skip (1+(r.takeWhile (· != 10)).length) else
  match oneM N (c::r) k with
  |none=>.bad
  |some m=>.mark m
def Cu.pre (ms:List Mk):Cu→Cu
 |.ok l=>.ok (ms++l)
 |.bad k=>.bad k
def endM (k:Nat):Mk:=⟨4,[],0,0,k⟩
def cutF:Nat→List UInt8→Nat→Cu
 |0,_,k=>.bad k
 |f+1,l,k=>
  match stp N l k with
  |.stop=>.ok [endM k]
  |.bad=>.bad k
  |.skip n=>cutF f (l.drop n) (k+n)
  |.mark m=>(cutF f (l.drop m.text.length) (k+m.text.length)).pre [m]
def cut (l:List UInt8) (k:Nat):Cu:=cutF N (l.length+1) l k
theorem iy (p:UInt8→Bool) (l:List UInt8):(l.takeWhile p).length≤l.length:=by
 induction l with
 |nil=>simp
 |cons a l ih=>rw[List.takeWhile_cons];split<;>simp;exact ih
theorem jd (p:UInt8→Bool) (l:List UInt8):l.take (l.takeWhile p).length=l.takeWhile p:=by
 induction l with
 |nil=>simp
 |cons a l ih=>rw[List.takeWhile_cons];split<;>simp[ih]
theorem tw_drop (p:UInt8→Bool) (l:List UInt8):l.drop (l.takeWhile p).length=l.dropWhile p:=by
 induction l with
 |nil=>simp
 |cons a l ih=>rw[List.takeWhile_cons,List.dropWhile_cons];split<;>simp_all
theorem kC {c:UInt8} {r:List UInt8} (h:dI (c::r)≠[]):1≤(dI (c::r)).length∧(dI (c::r)).length≤(c::r).length∧(c::r).take (dI (c::r)).length=dI (c::r):=by
 unfold dI at *
 dsimp only at *
 split
 ·cases r<;>simp
 ·split
  ·simp
  ·rename_i h1 h2;rw[if_neg h1,if_neg h2] at h;exact absurd rfl h
theorem runM_some {l:List UInt8} {k:Nat} {m:Mk} (h:runM N l k=some m):m.text=l∧m.at_=k∧m.kind≠4∧m.kind≠3:=by
 unfold runM at h
 split at h
 ·cases h;exact⟨rfl,rfl,by simp,by simp⟩
 ·cases l with
  |nil=>cases h
  |cons c r=>
   dsimp only at h
   split at h
   ·split at h
    ·cases h;exact⟨rfl,rfl,by simp,by simp⟩
    ·cases h
   ·split at h
    ·cases h;exact⟨rfl,rfl,by simp,by simp⟩
    ·cases h
theorem gH {c:UInt8} {r:List UInt8} {k:Nat} {m:Mk} (h:oneM N (c::r) k=some m) :
  1≤m.text.length∧m.text.length≤(c::r).length∧(c::r).take m.text.length=m.text∧m.at_=k∧m.kind≠4:=by
 unfold oneM at h
 dsimp only at h
 split at h
 ·rename_i hc
  have htw:(c::r).takeWhile inRn=c::r.takeWhile inRn:=by rw[List.takeWhile_cons,if_pos hc]
  obtain⟨e1,e2,e3,_⟩:=runM_some N h
  rw[e1]
  exact⟨by rw[htw];simp,iy _ _,jd _ _,e2,e3⟩
 ·unfold mE at h
  split at h
  ·cases h
  ·rename_i hs
   cases h
   obtain⟨h1,h2,h3⟩:=kC hs
   exact⟨h1,h2,h3,rfl,by simp⟩
theorem fT {l:List UInt8} {k n:Nat} (h:stp N l k=.skip n):1≤n∧n≤l.length:=by
 cases l with
 |nil=>simp[stp] at h
 |cons c r=>
  unfold stp at h
  dsimp only at h
  split at h
  ·cases h;simp
  ·split at h
   ·cases h;have:=iy (· != 10) r;simp;omega
   ·split at h<;>cases h
theorem fq {l:List UInt8} {k:Nat} {m:Mk} (h:stp N l k=.mark m):1≤m.text.length∧m.text.length≤l.length∧l.take m.text.length=m.text∧m.at_=k∧m.kind≠4:=by
 cases l with
 |nil=>simp[stp] at h
 |cons c r=>
  unfold stp at h
  dsimp only at h
  split at h
  ·cases h
  ·split at h
   ·cases h
   ·split at h
    ·cases h
    ·cases h;rename_i h';exact gH N h'
theorem jI:∀ (f g:Nat) (l:List UInt8) (k:Nat),l.length<f→l.length<g→cutF N f l k=cutF N g l k:=by
 intro f
 induction f with
 |zero=>intro g l k h;omega
 |succ f ih=>
  intro g l k hf hg
  cases g with
  |zero=>omega
  |succ g=>
   unfold cutF
   cases hs:stp N l k with
   |stop=>rfl
   |bad=>rfl
   |skip n=>
    obtain⟨h1,h2⟩:=fT N hs
    exact ih _ _ _ (by rw[List.length_drop];omega) (by rw[List.length_drop];omega)
   |mark m=>
    obtain⟨h1,h2,_⟩:=fq N hs
    show Cu.pre _ _=Cu.pre _ _
    rw[ih g _ _ (by rw[List.length_drop];omega) (by rw[List.length_drop];omega)]
theorem nM (k:Nat):cut N [] k=.ok [endM k]:=rfl
theorem kN {l:List UInt8} {k:Nat} (h:stp N l k=.bad):cut N l k=.bad k:=by
 unfold cut cutF;rw[h]
theorem fV {l:List UInt8} {k n:Nat} (h:stp N l k=.skip n):cut N l k=cut N (l.drop n) (k+n):=by
 obtain⟨h1,h2⟩:=fT N h
 unfold cut
 conv=>lhs;unfold cutF
 rw[h]
 exact jI N _ _ _ _ (by rw[List.length_drop];omega) (by omega)
theorem je {l:List UInt8} {k:Nat} {m:Mk} (h:stp N l k=.mark m):cut N l k=(cut N (l.drop m.text.length) (k+m.text.length)).pre [m]:=by
 obtain⟨h1,h2,_⟩:=fq N h
 unfold cut
 conv=>lhs;unfold cutF
 rw[h]
 show Cu.pre _ _=Cu.pre _ _
 rw[jI N _ ((l.drop m.text.length).length+1) _ _ (by rw[List.length_drop];omega) (by omega)]
theorem stp_stop {l:List UInt8} {k:Nat} (h:stp N l k=.stop):l=[]:=by
 cases l with
 |nil=>rfl
 |cons c r=>
  unfold stp at h
  dsimp only at h
  split at h
  ·cases h
  ·split at h
   ·cases h
   ·split at h<;>cases h
theorem pre_pre (a b:List Mk) (c:Cu):(c.pre b).pre a=c.pre (a++b):=by cases c<;>simp[Cu.pre]
theorem pre_nil (c:Cu):c.pre []=c:=by cases c<;>simp[Cu.pre]
theorem nS {C:List UInt8→Nat→Prop} (h0:∀ k,C [] k) (hb:∀ l k,stp N l k=.bad→C l k)
  (hs:∀ l k n,stp N l k=.skip n→C (l.drop n) (k+n)→C l k)
  (hm:∀ l k m,stp N l k=.mark m→C (l.drop m.text.length) (k+m.text.length)→C l k):∀ l k,C l k:=by
 intro l
 generalize hn:l.length=n
 induction n using Nat.strongRecOn generalizing l with
 |_ n ih=>
  intro k
  cases h:stp N l k with
  |stop=>rw[stp_stop N h];exact h0 k
  |bad=>exact hb l k h
  |skip j=>
   obtain⟨h1,h2⟩:=fT N h
   exact hs l k j h (ih (l.drop j).length (by rw[List.length_drop];omega) _ rfl _)
  |mark m=>
   obtain⟨h1,h2,_⟩:=fq N h
   exact hm l k m h (ih (l.drop m.text.length).length (by rw[List.length_drop];omega) _ rfl _)
/-! ## Places moved on -/
def Mk.mv (m:Mk) (n:Nat):Mk:={ m with at_:=m.at_+n }
def Cu.mv (n:Nat):Cu→Cu
 |.ok ms=>.ok (ms.map (·.mv n))
 |.bad k=>.bad (k+n)
theorem ky {l:List UInt8} (h:isWd l=true):∃ c r,l=c::r∧isLt c=true∧inRn c=true:=by
 unfold isWd dH at h
 simp only[List.contains_iff_mem,List.mem_cons,List.not_mem_nil,or_false] at h
 rcases h with h|h|h|h|h|h|h|h|h|h|h|h|h|h|h|h|h|h|h<;>exact⟨_,_,h,by decide,by decide⟩
theorem gap_one (c:UInt8) (h:isBl c=true) (l:List UInt8) (k:Nat):cut N (c::l) k=cut N l (k+1):=by
 have:stp N (c::l) k=.skip 1:=by unfold stp;dsimp only;rw[if_pos h]
 rw[fV N this]
 rfl
end
inductive Ex where
 |mk (op:Int) (name tail:List UInt8) (ty p q:Int) (parts:List Ex) (pos:Nat)
structure Pm where
 name:List UInt8
 ty:Int
 pos:Nat
structure Fn1 where
 name:List UInt8
 pms:List Pm
 ty:Int
 body:Ex
 pos:Nat
inductive Rs (α:Type) where
 |ok (a:α) (k:Nat)
 |bad (why:Int) (k:Nat)
 |out
def Rs.bind {α β:Type} (r:Rs α) (g:α→Nat→Rs β):Rs β:=
 match r with
 |.ok a k=>g a k
 |.bad y k=>.bad y k
 |.out=>.out
structure Lm where
 f:Int
 a:Int
 n:Int
section
variable (M:Nat→Mk) (L:Lm)
def tk (s:List UInt8) (k:Nat):Bool:=(M k).text==s
def ai (s:List UInt8) (k:Nat):Rs Unit:=if tk M s k then .ok () (k+1) else .bad 21 k
def aJ (k:Nat):Rs Mk:=if (M k).kind=0 then .ok (M k) (k+1) else .bad 21 k
def au (num:Nat) (most:Int) (k:Nat):Rs Mk:=if most≤num∧(M k).kind=0 then .bad 22 k else aJ M k
def aK (k:Nat):Rs Int:=if tk M [78] k then .ok 1 (k+1) else if tk M [66] k then .ok 2 (k+1) else if tk M [76] k then .ok 3 (k+1) else .bad 21 k
def two (op:Int) (a b:Ex) (m:Mk):Ex:=.mk op [] [] 0 0 0 [a,b] m.at_
def tLet:List UInt8:=[108,101,116]
def aH:List UInt8:=[115,116,114,105,99,116]
def tIf:List UInt8:=[105,102]
def bZ:List UInt8:=[99,97,115,101]
def ig:List UInt8:=[116,104,101,110]
def ik:List UInt8:=[101,108,115,101]
def tIn:List UInt8:=[105,110]
def tOf:List UInt8:=[111,102]
def tNil:List UInt8:=[110,105,108]
def tArr:List UInt8:=[45,62]
def aU (s:List UInt8):Int:=
 if s==[116,114,117,101] then 2 else if s==[102,97,108,115,101] then 3 else if s==tNil then 4 else if s==[102,97,105,108] then 5 else
 if s==[110,111,116] then 14 else if s==[114,101] then 15 else if s==[105,109] then 16 else if s==[99,111,110,106] then 17 else 0
mutual
def exprP:Nat→Nat→Nat→Rs Ex
 |0,_,_=>.out
 |f+1,d,k=>
  if tk M tLet k then bindP f 21 d k else if tk M aH k then bindP f 22 d k else if tk M tIf k then ifP f d k else if tk M bZ k then caseP f d k else consP f d k
def bindP:Nat→Int→Nat→Nat→Rs Ex
 |0,_,_,_=>.out
 |f+1,op,d,k=>
  if L.n≤d then .bad 23 k else
  (aJ M (k+1)).bind fun x k1=>(aK M k1).bind fun t k2=>(ai M [61] k2).bind fun _ k3=>(exprP f (d+1) k3).bind fun a k4=>
  (ai M tIn k4).bind fun _ k5=>(exprP f (d+1) k5).bind fun b k6=>.ok (.mk op x.text [] t 0 0 [a,b] (M k).at_) k6
def ifP:Nat→Nat→Nat→Rs Ex
 |0,_,_=>.out
 |f+1,d,k=>
  (exprP f d (k+1)).bind fun a k1=>(ai M ig k1).bind fun _ k2=>(exprP f d k2).bind fun b k3=>(ai M ik k3).bind fun _ k4=>(exprP f d k4).bind fun c k5=>
  .ok (.mk 19 [] [] 0 0 0 [a,b,c] (M k).at_) k5
def caseP:Nat→Nat→Nat→Rs Ex
 |0,_,_=>.out
 |f+1,d,k=>
  if L.n≤d then .bad 23 k else
  (exprP f (d+1) (k+1)).bind fun a k1=>(ai M tOf k1).bind fun _ k2=>(ai M tNil k2).bind fun _ k3=>(ai M tArr k3).bind fun _ k4=>(exprP f (d+1) k4).bind fun b k5=>
  (ai M [124] k5).bind fun _ k6=>(aJ M k6).bind fun h k7=>(ai M [58] k7).bind fun _ k8=>(aJ M k8).bind fun t k9=>(ai M tArr k9).bind fun _ k10=>
  (exprP f (d+1) k10).bind fun c k11=>.ok (.mk 20 h.text t.text 0 0 0 [a,b,c] (M k).at_) k11
def consP:Nat→Nat→Nat→Rs Ex
 |0,_,_=>.out
 |f+1,d,k=>(compP f d k).bind fun a k1=>if tk M [58] k1 then (consP f d (k1+1)).bind fun b k2=>.ok (two 18 a b (M k1)) k2 else .ok a k1
def compP:Nat→Nat→Nat→Rs Ex
 |0,_,_=>.out
 |f+1,d,k=>(sumP f d k).bind fun a k1=>
  if tk M [61,61] k1 then (sumP f d (k1+1)).bind fun b k2=>.ok (two 12 a b (M k1)) k2 else
  if tk M [60] k1 then (sumP f d (k1+1)).bind fun b k2=>.ok (two 13 a b (M k1)) k2 else .ok a k1
def sumP:Nat→Nat→Nat→Rs Ex
 |0,_,_=>.out
 |f+1,d,k=>(termP f d k).bind fun a k1=>sumL f d a k1
def sumL:Nat→Nat→Ex→Nat→Rs Ex
 |0,_,_,_=>.out
 |f+1,d,a,k=>
  if tk M [43] k then (termP f d (k+1)).bind fun b k1=>sumL f d (two 8 a b (M k)) k1 else
  if tk M [45] k then (termP f d (k+1)).bind fun b k1=>sumL f d (two 9 a b (M k)) k1 else .ok a k
def termP:Nat→Nat→Nat→Rs Ex
 |0,_,_=>.out
 |f+1,d,k=>(unitP f d k).bind fun a k1=>termL f d a k1
def termL:Nat→Nat→Ex→Nat→Rs Ex
 |0,_,_,_=>.out
 |f+1,d,a,k=>
  if tk M [42] k then (unitP f d (k+1)).bind fun b k1=>termL f d (two 10 a b (M k)) k1 else
  if tk M [47] k then (unitP f d (k+1)).bind fun b k1=>termL f d (two 11 a b (M k)) k1 else .ok a k
def unitP:Nat→Nat→Nat→Rs Ex
 |0,_,_=>.out
 |f+1,d,k=>
  if (M k).kind=2 then .ok (.mk 1 [] [] 0 (M k).p (M k).q [] (M k).at_) (k+1) else
  if (M k).kind=0 then namedP f d k else
  if (M k).kind=1 then wordedP f d k else brackP f d k
def namedP:Nat→Nat→Nat→Rs Ex
 |0,_,_=>.out
 |f+1,d,k=>if tk M [40] (k+1) then (argsP f d (k+2)).bind fun l k1=>.ok (.mk 7 (M k).text [] 0 0 0 l (M k).at_) k1 else .ok (.mk 6 (M k).text [] 0 0 0 [] (M k).at_) (k+1)
def wordedP:Nat→Nat→Nat→Rs Ex
 |0,_,_=>.out
 |f+1,d,k=>
  if aU (M k).text=0 then .bad 21 k else
  if aU (M k).text=5 then (aK M (k+1)).bind fun t k1=>.ok (.mk 5 [] [] t 0 0 [] (M k).at_) k1 else
  if 14≤aU (M k).text then (brackP f d (k+1)).bind fun e k1=>.ok (.mk (aU (M k).text) [] [] 0 0 0 [e] (M k).at_) k1 else
  .ok (.mk (aU (M k).text) [] [] 0 0 0 [] (M k).at_) (k+1)
def brackP:Nat→Nat→Nat→Rs Ex
 |0,_,_=>.out
 |f+1,d,k=>(ai M [40] k).bind fun _ k1=>(exprP f d k1).bind fun e k2=>(ai M [41] k2).bind fun _ k3=>.ok e k3
def argsP:Nat→Nat→Nat→Rs (List Ex)
 |0,_,_=>.out
 |f+1,d,k=>if tk M [41] k then .ok [] (k+1) else (exprP f d k).bind fun a k1=>argsL f d [a] k1
def argsL:Nat→Nat→List Ex→Nat→Rs (List Ex)
 |0,_,_,_=>.out
 |f+1,d,acc,k=>if tk M [44] k then (exprP f d (k+1)).bind fun a k1=>argsL f d (acc++[a]) k1 else (ai M [41] k).bind fun _ k1=>.ok acc k1
end
def bg (num k:Nat):Rs Pm:=(au M num L.a k).bind fun x k1=>(aK M k1).bind fun t k2=>.ok ⟨x.text,t,x.at_⟩ k2
def aS:Nat→List Pm→Nat→Rs (List Pm)
 |0,_,_=>.out
 |f+1,acc,k=>if tk M [44] k then (bg M L acc.length (k+1)).bind fun a k1=>aS f (acc++[a]) k1 else (ai M [41] k).bind fun _ k1=>.ok acc k1
def aV (f k:Nat):Rs (List Pm):=
 (ai M [40] k).bind fun _ k1=>if tk M [41] k1 then .ok [] (k1+1) else (bg M L 0 k1).bind fun a k2=>aS M L f [a] k2
def defP (f num k:Nat):Rs Fn1:=
 (au M num L.f k).bind fun x k1=>(aV M L f k1).bind fun ps k2=>(ai M [58] k2).bind fun _ k3=>(aK M k3).bind fun t k4=>(ai M [61] k4).bind fun _ k5=>
 (exprP M L f 0 k5).bind fun b k6=>(ai M [59] k6).bind fun _ k7=>.ok ⟨x.text,ps,t,b,x.at_⟩ k7
def aQ:Nat→List Fn1→Nat→Rs (List Fn1)
 |0,_,_=>.out
 |f+1,acc,k=>(defP M L f acc.length k).bind fun g k1=>if (M k1).kind=4 then .ok (acc++[g]) k1 else aQ f (acc++[g]) k1
end
set_option maxHeartbeats 1000000
/-! ## Positions -/
def Rs.Ge {α:Type} (k:Nat):Rs α→Prop
 |.ok _ j=>k≤j
 |.bad _ j=>k≤j
 |.out=>True
theorem Rs.Ge.bind {α β:Type} {k:Nat} {r:Rs α} {g:α→Nat→Rs β} (h:r.Ge k) (hg:∀ a j,k≤j→(g a j).Ge k):(r.bind g).Ge k:=by
 cases r with
 |ok a j=>exact hg a j h
 |bad y j=>exact h
 |out=>trivial
theorem Rs.Ge.mono {α:Type} {k k':Nat} {r:Rs α} (h:r.Ge k) (hk:k'≤k):r.Ge k':=by
 cases r with
 |ok a j=>exact Nat.le_trans hk h
 |bad y j=>exact Nat.le_trans hk h
 |out=>trivial
theorem mF {α:Type} {k j:Nat} (a:α) (h:k≤j):(Rs.ok a j).Ge k:=h
theorem ge_bad {α:Type} {k j:Nat} (y:Int) (h:k≤j):(Rs.bad (α:=α) y j).Ge k:=h
section
variable (M:Nat→Mk) (L:Lm)
theorem bV (s:List UInt8) (k:Nat):(ai M s k).Ge k:=by unfold ai;split<;>simp[Rs.Ge]
theorem jD (k:Nat):(aJ M k).Ge k:=by unfold aJ;split<;>simp[Rs.Ge]
theorem kE (n:Nat) (m:Int) (k:Nat):(au M n m k).Ge k:=by
 unfold au
 split
 ·simp[Rs.Ge]
 ·exact jD M k
theorem dJ (k:Nat):(aK M k).Ge k:=by
 unfold aK
 repeat' split
 all_goals simp[Rs.Ge]
structure AllGe (f:Nat):Prop where
 exprP:∀ (d:Nat) (k:Nat),(Proofs.YtimoappbefindaaGreat.exprP M L f d k).Ge k
 bindP:∀ (op:Int) (d:Nat) (k:Nat),(Proofs.YtimoappbefindaaGreat.bindP M L f op d k).Ge k
 ifP:∀ (d:Nat) (k:Nat),(Proofs.YtimoappbefindaaGreat.ifP M L f d k).Ge k
 caseP:∀ (d:Nat) (k:Nat),(Proofs.YtimoappbefindaaGreat.caseP M L f d k).Ge k
 consP:∀ (d:Nat) (k:Nat),(Proofs.YtimoappbefindaaGreat.consP M L f d k).Ge k
 compP:∀ (d:Nat) (k:Nat),(Proofs.YtimoappbefindaaGreat.compP M L f d k).Ge k
 sumP:∀ (d:Nat) (k:Nat),(Proofs.YtimoappbefindaaGreat.sumP M L f d k).Ge k
 sumL:∀ (d:Nat) (a:Ex) (k:Nat),(Proofs.YtimoappbefindaaGreat.sumL M L f d a k).Ge k
 termP:∀ (d:Nat) (k:Nat),(Proofs.YtimoappbefindaaGreat.termP M L f d k).Ge k
 termL:∀ (d:Nat) (a:Ex) (k:Nat),(Proofs.YtimoappbefindaaGreat.termL M L f d a k).Ge k
 unitP:∀ (d:Nat) (k:Nat),(Proofs.YtimoappbefindaaGreat.unitP M L f d k).Ge k
 namedP:∀ (d:Nat) (k:Nat),(Proofs.YtimoappbefindaaGreat.namedP M L f d k).Ge k
 wordedP:∀ (d:Nat) (k:Nat),(Proofs.YtimoappbefindaaGreat.wordedP M L f d k).Ge k
 brackP:∀ (d:Nat) (k:Nat),(Proofs.YtimoappbefindaaGreat.brackP M L f d k).Ge k
 argsP:∀ (d:Nat) (k:Nat),(Proofs.YtimoappbefindaaGreat.argsP M L f d k).Ge k
 argsL:∀ (d:Nat) (acc:List Ex) (k:Nat),(Proofs.YtimoappbefindaaGreat.argsL M L f d acc k).Ge k
theorem lh:∀ f,AllGe M L f:=by
 intro f
 induction f with
 |zero=>
  constructor
  all_goals
   intros
   first
   |(rw[Proofs.YtimoappbefindaaGreat.exprP];exact trivial)
   |(rw[Proofs.YtimoappbefindaaGreat.bindP];exact trivial)
   |(rw[Proofs.YtimoappbefindaaGreat.ifP];exact trivial)
   |(rw[Proofs.YtimoappbefindaaGreat.caseP];exact trivial)
   |(rw[Proofs.YtimoappbefindaaGreat.consP];exact trivial)
   |(rw[Proofs.YtimoappbefindaaGreat.compP];exact trivial)
   |(rw[Proofs.YtimoappbefindaaGreat.sumP];exact trivial)
   |(rw[Proofs.YtimoappbefindaaGreat.sumL];exact trivial)
   |(rw[Proofs.YtimoappbefindaaGreat.termP];exact trivial)
   |(rw[Proofs.YtimoappbefindaaGreat.termL];exact trivial)
   |(rw[Proofs.YtimoappbefindaaGreat.unitP];exact trivial)
   |(rw[Proofs.YtimoappbefindaaGreat.namedP];exact trivial)
   |(rw[Proofs.YtimoappbefindaaGreat.wordedP];exact trivial)
   |(rw[Proofs.YtimoappbefindaaGreat.brackP];exact trivial)
   |(rw[Proofs.YtimoappbefindaaGreat.argsP];exact trivial)
   |(rw[Proofs.YtimoappbefindaaGreat.argsL];exact trivial)
 |succ f ih=>
  constructor
  all_goals
   intros
   first
   |rw[Proofs.YtimoappbefindaaGreat.exprP]
   |rw[Proofs.YtimoappbefindaaGreat.bindP]
   |rw[Proofs.YtimoappbefindaaGreat.ifP]
   |rw[Proofs.YtimoappbefindaaGreat.caseP]
   |rw[Proofs.YtimoappbefindaaGreat.consP]
   |rw[Proofs.YtimoappbefindaaGreat.compP]
   |rw[Proofs.YtimoappbefindaaGreat.sumP]
   |rw[Proofs.YtimoappbefindaaGreat.sumL]
   |rw[Proofs.YtimoappbefindaaGreat.termP]
   |rw[Proofs.YtimoappbefindaaGreat.termL]
   |rw[Proofs.YtimoappbefindaaGreat.unitP]
   |rw[Proofs.YtimoappbefindaaGreat.namedP]
   |rw[Proofs.YtimoappbefindaaGreat.wordedP]
   |rw[Proofs.YtimoappbefindaaGreat.brackP]
   |rw[Proofs.YtimoappbefindaaGreat.argsP]
   |rw[Proofs.YtimoappbefindaaGreat.argsL]
  all_goals
   repeat' (first
   |exact mF _ (by omega)
   |exact ge_bad _ (by omega)
   |exact (bV M _ _).mono (by omega)
   |exact (jD M _).mono (by omega)
   |exact (dJ M _).mono (by omega)
   |exact (ih.exprP _ _).mono (by omega)
   |exact (ih.bindP _ _ _).mono (by omega)
   |exact (ih.ifP _ _).mono (by omega)
   |exact (ih.caseP _ _).mono (by omega)
   |exact (ih.consP _ _).mono (by omega)
   |exact (ih.compP _ _).mono (by omega)
   |exact (ih.sumP _ _).mono (by omega)
   |exact (ih.sumL _ _ _).mono (by omega)
   |exact (ih.termP _ _).mono (by omega)
   |exact (ih.termL _ _ _).mono (by omega)
   |exact (ih.unitP _ _).mono (by omega)
   |exact (ih.namedP _ _).mono (by omega)
   |exact (ih.wordedP _ _).mono (by omega)
   |exact (ih.brackP _ _).mono (by omega)
   |exact (ih.argsP _ _).mono (by omega)
   |exact (ih.argsL _ _ _).mono (by omega)
   |refine Rs.Ge.bind ?_ fun _ _ _=>?_
   |split)
theorem ma (n k:Nat):(bg M L n k).Ge k:=by
 unfold bg
 exact (kE M _ _ _).bind fun _ _ h=>((dJ M _).mono h).bind fun _ _ h=>mF _ h
theorem ge_paramsL:∀ f acc k,(aS M L f acc k).Ge k:=by
 intro f
 induction f with
 |zero=>intros;trivial
 |succ f ih=>
  intro acc k
  rw[aS]
  split
  ·exact ((ma M L _ _).mono (by omega)).bind fun _ _ h=>(ih _ _).mono h
  ·exact (bV M _ _).bind fun _ _ h=>mF _ h
theorem kJ (f k:Nat):(aV M L f k).Ge k:=by
 unfold aV
 refine (bV M _ _).bind fun _ _ h=>?_
 split
 ·exact mF _ (by omega)
 ·exact ((ma M L _ _).mono h).bind fun _ _ h=>(ge_paramsL M L _ _ _).mono h
theorem oU (f n k:Nat):(defP M L f n k).Ge k:=by
 unfold defP
 exact (kE M _ _ _).bind fun _ _ h=>((kJ M L _ _).mono h).bind fun _ _ h=>((bV M _ _).mono h).bind fun _ _ h=>((dJ M _).mono h).bind fun _ _ h=>((bV M _ _).mono h).bind fun _ _ h=>
  (((lh M L _).exprP _ _).mono h).bind fun _ _ h=>((bV M _ _).mono h).bind fun _ _ h=>mF _ h
theorem ge_prog:∀ f acc k,(aQ M L f acc k).Ge k:=by
 intro f
 induction f with
 |zero=>intros;trivial
 |succ f ih=>
  intro acc k
  rw[aQ]
  refine (oU M L _ _ _).bind fun _ _ h=>?_
  split
  ·exact mF _ h
  ·exact (ih _ _).mono h
end
/-! ## Fuel enough -/
def Rs.Gd {α:Type} (lo n:Nat):Rs α→Prop
 |.ok _ j=>lo≤j∧j<n
 |.bad _ j=>j<n
 |.out=>False
theorem Rs.Gd.bind {α β:Type} {lo lo' n:Nat} {r:Rs α} {g:α→Nat→Rs β} (h:r.Gd lo n) (hg:∀ a j,lo≤j→j<n→(g a j).Gd lo' n):(r.bind g).Gd lo' n:=by
 cases r with
 |ok a j=>exact hg a j h.1 h.2
 |bad y j=>exact h
 |out=>exact h
theorem Rs.Gd.mono {α:Type} {lo lo' n:Nat} {r:Rs α} (h:r.Gd lo n) (hk:lo'≤lo):r.Gd lo' n:=by
 cases r with
 |ok a j=>exact⟨Nat.le_trans hk h.1,h.2⟩
 |bad y j=>exact h
 |out=>exact h
theorem gL {α:Type} {lo n j:Nat} (a:α) (h:lo≤j) (hn:j<n):(Rs.ok a j).Gd lo n:=⟨h,hn⟩
theorem gd_bad {α:Type} {lo n j:Nat} (y:Int) (h:j<n):(Rs.bad (α:=α) y j).Gd lo n:=h
section
variable (M:Nat→Mk) (L:Lm) {n:Nat}
def Ends (n:Nat):Prop:=∀ k,k<n→(M k).text≠[]∨((M k).kind≠4)→k+1<n
theorem Ends.tk (hE:Ends M n) {s:List UInt8} {k:Nat} (h:tk M s k=true) (hs:s≠[]) (hk:k<n):k+1<n:=by
 unfold Proofs.YtimoappbefindaaGreat.tk at h
 refine hE k hk (.inl ?_)
 rw[beq_iff_eq.1 h]
 exact hs
theorem Ends.kd (hE:Ends M n) {y:Int} {k:Nat} (h:(M k).kind=y) (hs:y≠4) (hk:k<n):k+1<n:=hE k hk (.inr (by rw[h];exact hs))
theorem dX (hE:Ends M n) (s:List UInt8) (hs:s≠[]) (k:Nat) (hk:k<n):(ai M s k).Gd (k+1) n:=by
 unfold ai
 split
 ·exact gL _ (Nat.le_refl _) (hE.tk M ‹_› hs hk)
 ·exact hk
theorem ll (hE:Ends M n) (k:Nat) (hk:k<n):(aJ M k).Gd (k+1) n:=by
 unfold aJ
 split
 ·exact gL _ (Nat.le_refl _) (hE.kd M ‹_› (by decide) hk)
 ·exact hk
theorem jT (hE:Ends M n) (y:Nat) (m:Int) (k:Nat) (hk:k<n):(au M y m k).Gd (k+1) n:=by
 unfold au
 split
 ·exact hk
 ·exact ll M hE k hk
theorem iW (hE:Ends M n) (k:Nat) (hk:k<n):(aK M k).Gd (k+1) n:=by
 unfold aK
 repeat' split
 ·exact gL _ (Nat.le_refl _) (hE.tk M ‹_› (by simp) hk)
 ·exact gL _ (Nat.le_refl _) (hE.tk M ‹_› (by simp) hk)
 ·exact gL _ (Nat.le_refl _) (hE.tk M ‹_› (by simp) hk)
 ·exact hk
structure AllGd (n f:Nat):Prop where
 exprP:∀ (d:Nat) (k:Nat),k<n→12*(n-k)+8≤f→(Proofs.YtimoappbefindaaGreat.exprP M L f d k).Gd (k+1) n
 bindP:∀ (op:Int) (d:Nat) (k:Nat),k+1<n→12*(n-k)+7≤f→(Proofs.YtimoappbefindaaGreat.bindP M L f op d k).Gd (k+1) n
 ifP:∀ (d:Nat) (k:Nat),k+1<n→12*(n-k)+7≤f→(Proofs.YtimoappbefindaaGreat.ifP M L f d k).Gd (k+1) n
 caseP:∀ (d:Nat) (k:Nat),k+1<n→12*(n-k)+7≤f→(Proofs.YtimoappbefindaaGreat.caseP M L f d k).Gd (k+1) n
 consP:∀ (d:Nat) (k:Nat),k<n→12*(n-k)+7≤f→(Proofs.YtimoappbefindaaGreat.consP M L f d k).Gd (k+1) n
 compP:∀ (d:Nat) (k:Nat),k<n→12*(n-k)+6≤f→(Proofs.YtimoappbefindaaGreat.compP M L f d k).Gd (k+1) n
 sumP:∀ (d:Nat) (k:Nat),k<n→12*(n-k)+5≤f→(Proofs.YtimoappbefindaaGreat.sumP M L f d k).Gd (k+1) n
 sumL:∀ (d:Nat) (a:Ex) (k:Nat),k<n→12*(n-k)+5≤f→(Proofs.YtimoappbefindaaGreat.sumL M L f d a k).Gd k n
 termP:∀ (d:Nat) (k:Nat),k<n→12*(n-k)+4≤f→(Proofs.YtimoappbefindaaGreat.termP M L f d k).Gd (k+1) n
 termL:∀ (d:Nat) (a:Ex) (k:Nat),k<n→12*(n-k)+4≤f→(Proofs.YtimoappbefindaaGreat.termL M L f d a k).Gd k n
 unitP:∀ (d:Nat) (k:Nat),k<n→12*(n-k)+3≤f→(Proofs.YtimoappbefindaaGreat.unitP M L f d k).Gd (k+1) n
 namedP:∀ (d:Nat) (k:Nat),k+1<n→12*(n-k)+2≤f→(Proofs.YtimoappbefindaaGreat.namedP M L f d k).Gd (k+1) n
 wordedP:∀ (d:Nat) (k:Nat),k+1<n→12*(n-k)+2≤f→(Proofs.YtimoappbefindaaGreat.wordedP M L f d k).Gd (k+1) n
 brackP:∀ (d:Nat) (k:Nat),k<n→12*(n-k)+2≤f→(Proofs.YtimoappbefindaaGreat.brackP M L f d k).Gd (k+1) n
 argsP:∀ (d:Nat) (k:Nat),k<n→12*(n-k)+9≤f→(Proofs.YtimoappbefindaaGreat.argsP M L f d k).Gd (k+1) n
 argsL:∀ (d:Nat) (acc:List Ex) (k:Nat),k<n→12*(n-k)+9≤f→(Proofs.YtimoappbefindaaGreat.argsL M L f d acc k).Gd (k+1) n
theorem allGd (hE:Ends M n):∀ f,AllGd M L n f:=by
 intro f
 induction f with
 |zero=>constructor<;>intros<;>omega
 |succ f ih=>
  constructor
  all_goals
   intros
   first
   |rw[Proofs.YtimoappbefindaaGreat.exprP]
   |rw[Proofs.YtimoappbefindaaGreat.bindP]
   |rw[Proofs.YtimoappbefindaaGreat.ifP]
   |rw[Proofs.YtimoappbefindaaGreat.caseP]
   |rw[Proofs.YtimoappbefindaaGreat.consP]
   |rw[Proofs.YtimoappbefindaaGreat.compP]
   |rw[Proofs.YtimoappbefindaaGreat.sumP]
   |rw[Proofs.YtimoappbefindaaGreat.sumL]
   |rw[Proofs.YtimoappbefindaaGreat.termP]
   |rw[Proofs.YtimoappbefindaaGreat.termL]
   |rw[Proofs.YtimoappbefindaaGreat.unitP]
   |rw[Proofs.YtimoappbefindaaGreat.namedP]
   |rw[Proofs.YtimoappbefindaaGreat.wordedP]
   |rw[Proofs.YtimoappbefindaaGreat.brackP]
   |rw[Proofs.YtimoappbefindaaGreat.argsP]
   |rw[Proofs.YtimoappbefindaaGreat.argsL]
  all_goals
   repeat' (first
   |exact gd_bad _ (by omega)
   |exact gL _ (by omega) (by omega)
   |exact (dX M hE _ (by decide) _ (by omega)).mono (by omega)
   |exact (ll M hE _ (by omega)).mono (by omega)
   |exact (iW M hE _ (by omega)).mono (by omega)
   |exact (ih.exprP _ _ (by omega) (by omega)).mono (by omega)
   |exact (ih.bindP _ _ _ (by omega) (by omega)).mono (by omega)
   |exact (ih.ifP _ _ (by omega) (by omega)).mono (by omega)
   |exact (ih.caseP _ _ (by omega) (by omega)).mono (by omega)
   |exact (ih.consP _ _ (by omega) (by omega)).mono (by omega)
   |exact (ih.compP _ _ (by omega) (by omega)).mono (by omega)
   |exact (ih.sumP _ _ (by omega) (by omega)).mono (by omega)
   |exact (ih.sumL _ _ _ (by omega) (by omega)).mono (by omega)
   |exact (ih.termP _ _ (by omega) (by omega)).mono (by omega)
   |exact (ih.termL _ _ _ (by omega) (by omega)).mono (by omega)
   |exact (ih.unitP _ _ (by omega) (by omega)).mono (by omega)
   |exact (ih.namedP _ _ (by omega) (by omega)).mono (by omega)
   |exact (ih.wordedP _ _ (by omega) (by omega)).mono (by omega)
   |exact (ih.brackP _ _ (by omega) (by omega)).mono (by omega)
   |exact (ih.argsP _ _ (by omega) (by omega)).mono (by omega)
   |exact (ih.argsL _ _ _ (by omega) (by omega)).mono (by omega)
   |refine Rs.Gd.bind (lo:=_+1) (dX M hE _ (by decide) _ (by omega)) fun _ _ _ _=>?_
   |refine Rs.Gd.bind (ll M hE _ (by omega)) fun _ _ _ _=>?_
   |refine Rs.Gd.bind (iW M hE _ (by omega)) fun _ _ _ _=>?_
   |refine Rs.Gd.bind (ih.exprP _ _ (by omega) (by omega)) fun _ _ _ _=>?_
   |refine Rs.Gd.bind (ih.bindP _ _ _ (by omega) (by omega)) fun _ _ _ _=>?_
   |refine Rs.Gd.bind (ih.ifP _ _ (by omega) (by omega)) fun _ _ _ _=>?_
   |refine Rs.Gd.bind (ih.caseP _ _ (by omega) (by omega)) fun _ _ _ _=>?_
   |refine Rs.Gd.bind (ih.consP _ _ (by omega) (by omega)) fun _ _ _ _=>?_
   |refine Rs.Gd.bind (ih.compP _ _ (by omega) (by omega)) fun _ _ _ _=>?_
   |refine Rs.Gd.bind (ih.sumP _ _ (by omega) (by omega)) fun _ _ _ _=>?_
   |refine Rs.Gd.bind (ih.sumL _ _ _ (by omega) (by omega)) fun _ _ _ _=>?_
   |refine Rs.Gd.bind (ih.termP _ _ (by omega) (by omega)) fun _ _ _ _=>?_
   |refine Rs.Gd.bind (ih.termL _ _ _ (by omega) (by omega)) fun _ _ _ _=>?_
   |refine Rs.Gd.bind (ih.unitP _ _ (by omega) (by omega)) fun _ _ _ _=>?_
   |refine Rs.Gd.bind (ih.namedP _ _ (by omega) (by omega)) fun _ _ _ _=>?_
   |refine Rs.Gd.bind (ih.wordedP _ _ (by omega) (by omega)) fun _ _ _ _=>?_
   |refine Rs.Gd.bind (ih.brackP _ _ (by omega) (by omega)) fun _ _ _ _=>?_
   |refine Rs.Gd.bind (ih.argsP _ _ (by omega) (by omega)) fun _ _ _ _=>?_
   |refine Rs.Gd.bind (ih.argsL _ _ _ (by omega) (by omega)) fun _ _ _ _=>?_
   |(split<;>(try (have hp1:=hE.tk M ‹tk M _ _=true› (by decide) (by omega)))<;>(try (have hp2:=hE.kd M ‹(M _).kind=_› (by decide) (by omega)))))
theorem lM (hE:Ends M n) (y k:Nat) (hk:k<n):(bg M L y k).Gd (k+1) n:=by
 unfold bg
 exact (jT M hE _ _ _ hk).bind fun _ _ h h'=>(iW M hE _ h').bind fun _ _ h2 h3=>gL _ (by omega) h3
theorem gd_paramsL (hE:Ends M n):∀ f acc k,k<n→n-k<f→(aS M L f acc k).Gd (k+1) n:=by
 intro f
 induction f with
 |zero=>intros;omega
 |succ f ih=>
  intro acc k hk hf
  rw[aS]
  split
  ·have:=hE.tk M ‹_› (by simp) hk
   exact (lM M L hE _ _ this).bind fun _ _ h h'=>(ih _ _ h' (by omega)).mono (by omega)
  ·exact (dX M hE _ (by simp) _ hk).bind fun _ _ h h'=>gL _ h h'
theorem gd_params (hE:Ends M n) (f k:Nat) (hk:k<n) (hf:n-k<f):(aV M L f k).Gd (k+1) n:=by
 unfold aV
 refine (dX M hE _ (by simp) _ hk).bind fun _ _ h h'=>?_
 split
 ·exact gL _ (by omega) (hE.tk M ‹_› (by simp) h')
 ·exact (lM M L hE _ _ h').bind fun _ _ h2 h3=>(gd_paramsL M L hE _ _ _ h3 (by omega)).mono (by omega)
theorem gd_def (hE:Ends M n) (f y k:Nat) (hk:k<n) (hf:12*(n-k)+8≤f):(defP M L f y k).Gd (k+1) n:=by
 unfold defP
 refine (jT M hE _ _ _ hk).bind fun _ _ h1 g1=>?_
 refine (gd_params M L hE _ _ g1 (by omega)).bind fun _ _ h2 g2=>?_
 refine (dX M hE _ (by simp) _ g2).bind fun _ _ h3 g3=>?_
 refine (iW M hE _ g3).bind fun _ _ h4 g4=>?_
 refine (dX M hE _ (by simp) _ g4).bind fun _ _ h5 g5=>?_
 refine ((allGd M L hE _).exprP _ _ g5 (by omega)).bind fun _ _ h6 g6=>?_
 refine (dX M hE _ (by simp) _ g6).bind fun _ _ h7 g7=>?_
 exact gL _ (by omega) g7
theorem oH (hE:Ends M n):∀ f acc k,k<n→12*(n-k)+9≤f→(aQ M L f acc k).Gd (k+1) n:=by
 intro f
 induction f with
 |zero=>intros;omega
 |succ f ih=>
  intro acc k hk hf
  rw[aQ]
  refine (gd_def M L hE _ _ _ hk (by omega)).bind fun _ _ h h'=>?_
  split
  ·exact gL _ h h'
  ·exact (ih _ _ h' (by omega)).mono (by omega)
end
set_option maxHeartbeats 1000000
mutual
inductive ExR (ρ:Nat→Nat→Prop):Ex→Ex→Prop
 |mk {op:Int} {name tail:List UInt8} {ty p q:Int} {xs ys:List Ex} {i j:Nat}:ρ i j→ExsR ρ xs ys→ExR ρ (.mk op name tail ty p q xs i) (.mk op name tail ty p q ys j)
inductive ExsR (ρ:Nat→Nat→Prop):List Ex→List Ex→Prop
 |nil:ExsR ρ [] []
 |cons {x y:Ex} {xs ys:List Ex}:ExR ρ x y→ExsR ρ xs ys→ExsR ρ (x::xs) (y::ys)
end
structure PmR (ρ:Nat→Nat→Prop) (a b:Pm):Prop where
 name:a.name=b.name
 ty:a.ty=b.ty
 pos:ρ a.pos b.pos
inductive LiR {α β:Type} (A:α→β→Prop):List α→List β→Prop
 |nil:LiR A [] []
 |cons {x:α} {y:β} {xs:List α} {ys:List β}:A x y→LiR A xs ys→LiR A (x::xs) (y::ys)
theorem LiR.length {α β:Type} {A:α→β→Prop}:∀ {xs:List α} {ys:List β},LiR A xs ys→xs.length=ys.length
 |[],_,h=>by cases h;rfl
 |_::_,_,h=>by cases h with|cons h1 h2=>simp[h2.length]
structure FnR (ρ:Nat→Nat→Prop) (a b:Fn1):Prop where
 name:a.name=b.name
 pms:LiR (PmR ρ) a.pms b.pms
 ty:a.ty=b.ty
 body:ExR ρ a.body b.body
 pos:ρ a.pos b.pos
structure MR (ρ:Nat→Nat→Prop) (a b:Mk):Prop where
 kind:b.kind=a.kind
 text:b.text=a.text
 p:b.p=a.p
 q:b.q=a.q
 at_:ρ a.at_ b.at_
def SR {α β:Type} (A:α→β→Prop) (K:Nat→Prop) (s:Nat) (r:Rs α) (r':Rs β):Prop:=
 match r with
 |.out=>True
 |.ok a k=>K k→∃ b,r'=.ok b (k+s)∧A a b
 |.bad y k=>K k→r'=.bad y (k+s)
section
variable {ρ:Nat→Nat→Prop} {K:Nat→Prop} {k0 s:Nat} (hd:∀ i j,k0≤i→i≤j→K j→K i)
include hd
end
theorem SR.ok {α β:Type} {A:α→β→Prop} {K:Nat→Prop} {s j j':Nat} {a:α} {b:β} (h:A a b) (e:j'=j+s):SR A K s (.ok a j) (.ok b j'):=fun _=>⟨b,by rw[e],h⟩
theorem SR.bad {α β:Type} {A:α→β→Prop} {K:Nat→Prop} {s j j':Nat} {y:Int} (e:j'=j+s):SR (α:=α) (β:=β) A K s (.bad y j) (.bad y j'):=fun _=>by rw[e]
section
variable {ρ:Nat→Nat→Prop} {K:Nat→Prop} {k0 s:Nat} (M M':Nat→Mk) (L:Lm) (hd:∀ i j,k0≤i→i≤j→K j→K i) (hM:∀ k,k0≤k→K k→MR ρ (M k) (M' (k+s)))
include hM
include hd
variable (ρ K k0 s) in
end
set_option maxHeartbeats 1000000
def Rs.Fk {α:Type} (M:Nat→Mk):Rs α→Prop
 |.ok _ _=>True
 |.bad y k=>y=21∨((y=22∨y=23)∧(M k).kind≠4)
 |.out=>True
theorem Rs.Fk.bind {α β:Type} {M:Nat→Mk} {r:Rs α} {g:α→Nat→Rs β} (h:r.Fk M) (hg:∀ a j,(g a j).Fk M):(r.bind g).Fk M:=by
 cases r with
 |ok a j=>exact hg a j
 |bad y j=>exact h
 |out=>trivial
section
variable (M:Nat→Mk) (L:Lm) (hT:∀ k,(M k).kind=4→(M k).text=[])
theorem fk_21 {α:Type} (k:Nat):(Rs.bad (α:=α) 21 k).Fk M:=.inl rfl
theorem fD (s:List UInt8) (k:Nat):(ai M s k).Fk M:=by
 unfold ai;split
 ·trivial
 ·exact .inl rfl
theorem ni (k:Nat):(aJ M k).Fk M:=by
 unfold aJ;split
 ·trivial
 ·exact .inl rfl
theorem kG (n:Nat) (m:Int) (k:Nat):(au M n m k).Fk M:=by
 unfold au;split
 ·rename_i h
  refine .inr ⟨.inl rfl,?_⟩
  rw[h.2];decide
 ·exact ni M k
theorem kW (k:Nat):(aK M k).Fk M:=by
 unfold aK
 repeat' split
 all_goals first|exact trivial|exact .inl rfl
include hT
theorem nU {s:List UInt8} {k:Nat} (h:tk M s k=true) (hs:s≠[]):(M k).kind≠4:=by
 intro e
 have:=hT k e
 unfold tk at h
 rw[this,beq_iff_eq] at h
 exact hs h.symm
omit hT
structure AllFk (f:Nat):Prop where
 exprP:∀ (d:Nat) (k:Nat),(Proofs.YtimoappbefindaaGreat.exprP M L f d k).Fk M
 bindP:∀ (op:Int) (d:Nat) (k:Nat),(M k).kind≠4→(Proofs.YtimoappbefindaaGreat.bindP M L f op d k).Fk M
 ifP:∀ (d:Nat) (k:Nat),(Proofs.YtimoappbefindaaGreat.ifP M L f d k).Fk M
 caseP:∀ (d:Nat) (k:Nat),(M k).kind≠4→(Proofs.YtimoappbefindaaGreat.caseP M L f d k).Fk M
 consP:∀ (d:Nat) (k:Nat),(Proofs.YtimoappbefindaaGreat.consP M L f d k).Fk M
 compP:∀ (d:Nat) (k:Nat),(Proofs.YtimoappbefindaaGreat.compP M L f d k).Fk M
 sumP:∀ (d:Nat) (k:Nat),(Proofs.YtimoappbefindaaGreat.sumP M L f d k).Fk M
 sumL:∀ (d:Nat) (a:Ex) (k:Nat),(Proofs.YtimoappbefindaaGreat.sumL M L f d a k).Fk M
 termP:∀ (d:Nat) (k:Nat),(Proofs.YtimoappbefindaaGreat.termP M L f d k).Fk M
 termL:∀ (d:Nat) (a:Ex) (k:Nat),(Proofs.YtimoappbefindaaGreat.termL M L f d a k).Fk M
 unitP:∀ (d:Nat) (k:Nat),(Proofs.YtimoappbefindaaGreat.unitP M L f d k).Fk M
 namedP:∀ (d:Nat) (k:Nat),(Proofs.YtimoappbefindaaGreat.namedP M L f d k).Fk M
 wordedP:∀ (d:Nat) (k:Nat),(Proofs.YtimoappbefindaaGreat.wordedP M L f d k).Fk M
 brackP:∀ (d:Nat) (k:Nat),(Proofs.YtimoappbefindaaGreat.brackP M L f d k).Fk M
 argsP:∀ (d:Nat) (k:Nat),(Proofs.YtimoappbefindaaGreat.argsP M L f d k).Fk M
 argsL:∀ (d:Nat) (acc:List Ex) (k:Nat),(Proofs.YtimoappbefindaaGreat.argsL M L f d acc k).Fk M
include hT
theorem allFk:∀ f,AllFk M L f:=by
 intro f
 induction f with
 |zero=>
  constructor
  all_goals
   intros
   first
   |(rw[Proofs.YtimoappbefindaaGreat.exprP];exact trivial)
   |(rw[Proofs.YtimoappbefindaaGreat.bindP];exact trivial)
   |(rw[Proofs.YtimoappbefindaaGreat.ifP];exact trivial)
   |(rw[Proofs.YtimoappbefindaaGreat.caseP];exact trivial)
   |(rw[Proofs.YtimoappbefindaaGreat.consP];exact trivial)
   |(rw[Proofs.YtimoappbefindaaGreat.compP];exact trivial)
   |(rw[Proofs.YtimoappbefindaaGreat.sumP];exact trivial)
   |(rw[Proofs.YtimoappbefindaaGreat.sumL];exact trivial)
   |(rw[Proofs.YtimoappbefindaaGreat.termP];exact trivial)
   |(rw[Proofs.YtimoappbefindaaGreat.termL];exact trivial)
   |(rw[Proofs.YtimoappbefindaaGreat.unitP];exact trivial)
   |(rw[Proofs.YtimoappbefindaaGreat.namedP];exact trivial)
   |(rw[Proofs.YtimoappbefindaaGreat.wordedP];exact trivial)
   |(rw[Proofs.YtimoappbefindaaGreat.brackP];exact trivial)
   |(rw[Proofs.YtimoappbefindaaGreat.argsP];exact trivial)
   |(rw[Proofs.YtimoappbefindaaGreat.argsL];exact trivial)
 |succ f ih=>
  constructor
  all_goals
   intros
   first
   |rw[Proofs.YtimoappbefindaaGreat.exprP]
   |rw[Proofs.YtimoappbefindaaGreat.bindP]
   |rw[Proofs.YtimoappbefindaaGreat.ifP]
   |rw[Proofs.YtimoappbefindaaGreat.caseP]
   |rw[Proofs.YtimoappbefindaaGreat.consP]
   |rw[Proofs.YtimoappbefindaaGreat.compP]
   |rw[Proofs.YtimoappbefindaaGreat.sumP]
   |rw[Proofs.YtimoappbefindaaGreat.sumL]
   |rw[Proofs.YtimoappbefindaaGreat.termP]
   |rw[Proofs.YtimoappbefindaaGreat.termL]
   |rw[Proofs.YtimoappbefindaaGreat.unitP]
   |rw[Proofs.YtimoappbefindaaGreat.namedP]
   |rw[Proofs.YtimoappbefindaaGreat.wordedP]
   |rw[Proofs.YtimoappbefindaaGreat.brackP]
   |rw[Proofs.YtimoappbefindaaGreat.argsP]
   |rw[Proofs.YtimoappbefindaaGreat.argsL]
  all_goals
   repeat' (first
   |exact trivial
   |exact fk_21 M _
   |exact .inr ⟨.inr rfl,‹_›⟩
   |exact fD M _ _
   |exact ni M _
   |exact kW M _
   |exact ih.exprP _ _
   |exact ih.bindP _ _ _ (nU M hT ‹_› (by decide))
   |exact ih.ifP _ _
   |exact ih.caseP _ _ (nU M hT ‹_› (by decide))
   |exact ih.consP _ _
   |exact ih.compP _ _
   |exact ih.sumP _ _
   |exact ih.sumL _ _ _
   |exact ih.termP _ _
   |exact ih.termL _ _ _
   |exact ih.unitP _ _
   |exact ih.namedP _ _
   |exact ih.wordedP _ _
   |exact ih.brackP _ _
   |exact ih.argsP _ _
   |exact ih.argsL _ _ _
   |refine Rs.Fk.bind ?_ fun _ _=>?_
   |split)
omit hT
theorem l5 (n k:Nat):(bg M L n k).Fk M:=by
 unfold bg
 exact (kG M _ _ _).bind fun _ _=>(kW M _).bind fun _ _=>trivial
theorem fk_paramsL:∀ f acc k,(aS M L f acc k).Fk M:=by
 intro f
 induction f with
 |zero=>intros;trivial
 |succ f ih=>
  intro acc k
  rw[aS]
  split
  ·exact (l5 M L _ _).bind fun _ _=>ih _ _
  ·exact (fD M _ _).bind fun _ _=>trivial
theorem fk_params (f k:Nat):(aV M L f k).Fk M:=by
 unfold aV
 refine (fD M _ _).bind fun _ _=>?_
 split
 ·trivial
 ·exact (l5 M L _ _).bind fun _ _=>fk_paramsL M L _ _ _
include hT
theorem fk_def (f n k:Nat):(defP M L f n k).Fk M:=by
 unfold defP
 exact (kG M _ _ _).bind fun _ _=>(fk_params M L _ _).bind fun _ _=>(fD M _ _).bind fun _ _=>(kW M _).bind fun _ _=>(fD M _ _).bind fun _ _=>
  ((allFk M L hT _).exprP _ _).bind fun _ _=>(fD M _ _).bind fun _ _=>trivial
theorem fk_prog:∀ f acc k,(aQ M L f acc k).Fk M:=by
 intro f
 induction f with
 |zero=>intros;trivial
 |succ f ih=>
  intro acc k
  rw[aQ]
  refine (fk_def M L hT _ _ _).bind fun _ _=>?_
  split
  ·trivial
  ·exact ih _ _
end
section
variable {ρ:Nat→Nat→Prop} {K:Nat→Prop} {k0 s:Nat} (M M':Nat→Mk) (L:Lm) (hd:∀ i j,k0≤i→i≤j→K j→K i) (hM:∀ k,k0≤k→K k→MR ρ (M k) (M' (k+s)))
include hd hM
end
set_option maxHeartbeats 1000000
section
variable (N:Num)
structure Row1 (k e:Nat) (ms:List Mk):Prop where
 ex:∃ init,ms=init++[endM e]∧∀ m∈init,m.kind≠4∧m.text≠[]
 inc:ms.Pairwise fun a b=>a.at_<b.at_
 lo:∀ m∈ms,k≤m.at_
theorem jf:∀ l k ms,cut N l k=.ok ms→Row1 k (k+l.length) ms:=by
 refine nS N ?_ ?_ ?_ ?_
 ·intro k ms h
  cases h
  exact⟨⟨[],rfl,fun m h=>by cases h⟩,by simp,by simp[endM]⟩
 ·intro l k h ms e
  rw[kN N h] at e
  cases e
 ·intro l k n h ih ms e
  obtain⟨h1,h2⟩:=fT N h
  rw[fV N h] at e
  have i:=ih ms e
  rw[List.length_drop,show k+n+(l.length-n)=k+l.length by omega] at i
  exact⟨i.ex,i.inc,fun m hm=>by have:=i.lo m hm;omega⟩
 ·intro l k m h ih ms e
  obtain⟨h1,h2,h3,h4,h5⟩:=fq N h
  rw[je N h] at e
  cases hc:cut N (l.drop m.text.length) (k+m.text.length) with
  |bad i=>rw[hc] at e;cases e
  |ok ms'=>
   rw[hc] at e
   cases e
   have i:=ih ms' hc
   rw[List.length_drop,show k+m.text.length+(l.length-m.text.length)=k+l.length by omega] at i
   obtain⟨init,e1,e2⟩:=i.ex
   refine⟨⟨m::init,by rw[e1];rfl,?_⟩,?_,?_⟩
   ·intro x hx
    rcases List.mem_cons.1 hx with rfl|hx
    ·exact⟨h5,by intro e;rw[e] at h1;simp at h1⟩
    ·exact e2 x hx
   ·show (m::ms').Pairwise _
    refine List.pairwise_cons.2 ⟨fun x hx=>?_,i.inc⟩
    have:=i.lo x hx
    omega
   ·intro x hx
    rcases List.mem_cons.1 (show x∈m::ms' from hx) with rfl|hx
    ·omega
    ·have:=i.lo x hx
     omega
def mf (ms:List Mk) (k:Nat):Mk:=ms.getD k ⟨4,[],0,0,0⟩
theorem oP {ms:List Mk} {k:Nat} (h:k<ms.length):ms[k]?=some (mf ms k):=by
 unfold mf
 rw[List.getD_eq_getElem?_getD,List.getElem?_eq_getElem h]
 rfl
theorem Row1.pos {k e:Nat} {ms:List Mk} (h:Row1 k e ms):0<ms.length:=by
 obtain⟨init,e1,_⟩:=h.ex
 rw[e1];simp
theorem Row1.last {k e:Nat} {ms:List Mk} (h:Row1 k e ms) {t:Nat} (ht:t+1=ms.length):mf ms t=endM e:=by
 obtain⟨init,e1,_⟩:=h.ex
 rw[e1] at ht ⊢
 unfold mf
 simp at ht
 subst ht
 simp[List.getD_eq_getElem?_getD]
theorem Row1.inner {k e:Nat} {ms:List Mk} (h:Row1 k e ms) {t:Nat} (ht:t+1<ms.length):(mf ms t).kind≠4∧(mf ms t).text≠[]:=by
 obtain⟨init,e1,e2⟩:=h.ex
 rw[e1] at ht ⊢
 simp at ht
 unfold mf
 rw[List.getD_eq_getElem?_getD,List.getElem?_append_left ht,List.getElem?_eq_getElem ht]
 exact e2 _ (List.getElem_mem ht)
theorem Row1.ends {k e:Nat} {ms:List Mk} (h:Row1 k e ms):Ends (mf ms) ms.length:=by
 intro t ht hx
 rcases Nat.lt_or_ge (t+1) ms.length with h1|h1
 ·exact h1
 ·rw[h.last (show t+1=ms.length by omega)] at hx
  simp[endM] at hx
theorem Row1.four {k e:Nat} {ms:List Mk} (h:Row1 k e ms) (t:Nat) (h4:(mf ms t).kind=4):(mf ms t).text=[]:=by
 rcases Nat.lt_or_ge (t+1) ms.length with h1|h1
 ·exact absurd h4 (h.inner h1).1
 ·rcases Nat.lt_or_ge t ms.length with h2|h2
  ·rw[h.last (show t+1=ms.length by omega)];rfl
  ·unfold mf
   rw[List.getD_eq_getElem?_getD,List.getElem?_eq_none h2]
   rfl
end
set_option maxHeartbeats 2000000
mutual
def nE:Ex→Nat
 |.mk op _ _ _ _ _ ps _=>nL ps+(if op=20∨op=21∨op=22 then 1 else 0)
def nL:List Ex→Nat
 |[]=>0
 |x::xs=>max (nE x) (nL xs)
end
theorem ak {α β:Type} {r:Rs α} {g:α→Nat→Rs β} {b:β} {k:Nat}:r.bind g=.ok b k↔∃ a j,r=.ok a j∧g a j=.ok b k:=by
 cases r with
 |ok a j=>simp only[Rs.bind,Rs.ok.injEq];exact⟨fun h=>⟨a,j,⟨rfl,rfl⟩,h⟩,fun ⟨_,_,⟨h1,h2⟩,h⟩=>by subst h1 h2;exact h⟩
 |bad y j=>simp[Rs.bind]
 |out=>simp[Rs.bind]
theorem aj {α β:Type} {r:Rs α} {g:α→Nat→Rs β} {a:α} {j:Nat} (h:r=.ok a j):r.bind g=g a j:=by rw[h];rfl
theorem gW {α β:Type} {r:Rs α} {g:α→Nat→Rs β} {y:Int} {j:Nat} (h:r=.bad y j):r.bind g=.bad y j:=by rw[h];rfl
section
variable (M:Nat→Mk) (L L':Lm)
def Ft (d n:Nat):Prop:=n=0∨(d:Int)+n≤L'.n
def LR {α:Type} (sz:α→Nat) (d:Nat) (q q':Rs α):Prop:=∀ a k,q=.ok a k→(Ft L' d (sz a)∧q'=.ok a k)∨(¬ Ft L' d (sz a)∧∃ j,q'=.bad 23 j)
theorem LR.ok {α:Type} {sz:α→Nat} {d k:Nat} {a:α} (h:Ft L' d (sz a)):LR L' sz d (.ok a k) (.ok a k):=by
 intro b j e
 cases e
 exact .inl ⟨h,rfl⟩
theorem Ft.max {d a b:Nat} (h1:Ft L' d a) (h2:Ft L' d b):Ft L' d (max a b):=by
 unfold Ft at *
 rcases Nat.le_total a b with h|h
 ·rw[Nat.max_eq_right h];exact h2
 ·rw[Nat.max_eq_left h];exact h1
end
set_option maxHeartbeats 2000000
section
variable (M:Nat→Mk) (L:Lm)
end
set_option maxHeartbeats 2000000
mutual
def szE:Ex→Nat
 |.mk _ _ _ _ _ _ ps _=>szL ps+1
def szL:List Ex→Nat
 |[]=>0
 |x::xs=>szE x+szL xs
end
theorem bW (op:Int) (a b:List UInt8) (t p q:Int) (ps:List Ex) (at_:Nat):szE (.mk op a b t p q ps at_)=szL ps+1:=by rw[szE]
theorem bB:szL []=0:=by rw[szL]
theorem aO (x:Ex) (xs:List Ex):szL (x::xs)=szE x+szL xs:=by rw[szL]
theorem lZ:∀ (xs:List Ex) (x:Ex),szL (xs++[x])=szL xs+szE x
 |[],x=>by simp[szL]
 |y::xs,x=>by simp only[List.cons_append,szL,lZ xs x];omega
theorem eB (op:Int) (a b:Ex) (m:Mk):szE (two op a b m)=szE a+szE b+1:=by
 unfold two
 rw[bW,aO,aO,bB];omega
theorem gJ (x:Ex):0<szE x:=by
 cases x
 rw[bW]
 omega
theorem fC:∀ xs:List Ex,xs.length≤szL xs
 |[]=>by simp[szL]
 |x::xs=>by
  have:=fC xs
  have:=gJ x
  simp only[szL,List.length_cons]
  omega
def Zs {α:Type} (sz:α→Nat) (k c:Nat) (q:Rs α):Prop:=∀ a j,q=.ok a j→k+sz a≤j+c
theorem Zs.ok {α:Type} {sz:α→Nat} {k c j:Nat} {a:α} (h:k+sz a≤j+c):Zs sz k c (.ok a j):=by
 intro b i e
 cases e
 exact h
theorem Zs.bad {α:Type} {sz:α→Nat} {k c j:Nat} {y:Int}:Zs sz k c (.bad y j):=by
 intro b i e
 cases e
theorem Zs.out {α:Type} {sz:α→Nat} {k c:Nat}:Zs sz k c .out:=by
 intro b i e
 cases e
theorem Zs.le {α:Type} {sz:α→Nat} {k c k' c':Nat} {q:Rs α} (h:Zs sz k' c' q) (hl:k+c'≤k'+c):Zs sz k c q:=by
 intro b i e
 have:=h b i e
 omega
theorem Zs.ite {α:Type} {sz:α→Nat} {k c:Nat} {p:Prop} [Decidable p] {x y:Rs α} (h1:Zs sz k c x) (h2:Zs sz k c y):Zs sz k c (if p then x else y):=by
 by_cases h:p
 ·rw[if_pos h];exact h1
 ·rw[if_neg h];exact h2
theorem Zs.part {α β:Type} {sz:β→Nat} {sa:α→Nat} {k c k' c':Nat} {q:Rs α} {g:α→Nat→Rs β} (hq:Zs sa k' c' q) (h:∀ a j,k'+sa a≤j+c'→Zs sz k c (g a j)):Zs sz k c (q.bind g):=by
 intro b i e
 obtain⟨a,j,e1,e2⟩:=ak.1 e
 exact h a j (hq a j e1) b i e2
section
variable (M:Nat→Mk) (L:Lm)
theorem bO (s:List UInt8) (k:Nat):Zs (fun _=>1) k 0 (ai M s k):=by
 unfold ai
 exact Zs.ite (Zs.ok (by omega)) Zs.bad
theorem kX (k:Nat):Zs (fun _=>1) k 0 (aJ M k):=by
 unfold aJ
 exact Zs.ite (Zs.ok (by omega)) Zs.bad
theorem nP (k:Nat):Zs (fun _=>1) k 0 (aK M k):=by
 unfold aK
 exact Zs.ite (Zs.ok (by omega)) (Zs.ite (Zs.ok (by omega)) (Zs.ite (Zs.ok (by omega)) Zs.bad))
structure AllZs (f:Nat):Prop where
 exprP:∀ d k,Zs szE k 0 (Proofs.YtimoappbefindaaGreat.exprP M L f d k)
 bindP:∀ op d k,Zs szE k 0 (Proofs.YtimoappbefindaaGreat.bindP M L f op d k)
 ifP:∀ d k,Zs szE k 0 (Proofs.YtimoappbefindaaGreat.ifP M L f d k)
 caseP:∀ d k,Zs szE k 0 (Proofs.YtimoappbefindaaGreat.caseP M L f d k)
 consP:∀ d k,Zs szE k 0 (Proofs.YtimoappbefindaaGreat.consP M L f d k)
 compP:∀ d k,Zs szE k 0 (Proofs.YtimoappbefindaaGreat.compP M L f d k)
 sumP:∀ d k,Zs szE k 0 (Proofs.YtimoappbefindaaGreat.sumP M L f d k)
 sumL:∀ d a k,Zs szE k (szE a) (Proofs.YtimoappbefindaaGreat.sumL M L f d a k)
 termP:∀ d k,Zs szE k 0 (Proofs.YtimoappbefindaaGreat.termP M L f d k)
 termL:∀ d a k,Zs szE k (szE a) (Proofs.YtimoappbefindaaGreat.termL M L f d a k)
 unitP:∀ d k,Zs szE k 0 (Proofs.YtimoappbefindaaGreat.unitP M L f d k)
 namedP:∀ d k,Zs szE k 0 (Proofs.YtimoappbefindaaGreat.namedP M L f d k)
 wordedP:∀ d k,Zs szE k 0 (Proofs.YtimoappbefindaaGreat.wordedP M L f d k)
 brackP:∀ d k,Zs szE k 0 (Proofs.YtimoappbefindaaGreat.brackP M L f d k)
 argsP:∀ d k,Zs szL k 0 (Proofs.YtimoappbefindaaGreat.argsP M L f d k)
 argsL:∀ d acc k,Zs szL k (szL acc) (Proofs.YtimoappbefindaaGreat.argsL M L f d acc k)
theorem qg:∀ f,AllZs M L f:=by
 intro f
 induction f with
 |zero=>
  constructor
  ·intro d k;rw[Proofs.YtimoappbefindaaGreat.exprP];exact Zs.out
  ·intro op d k;rw[Proofs.YtimoappbefindaaGreat.bindP];exact Zs.out
  ·intro d k;rw[Proofs.YtimoappbefindaaGreat.ifP];exact Zs.out
  ·intro d k;rw[Proofs.YtimoappbefindaaGreat.caseP];exact Zs.out
  ·intro d k;rw[Proofs.YtimoappbefindaaGreat.consP];exact Zs.out
  ·intro d k;rw[Proofs.YtimoappbefindaaGreat.compP];exact Zs.out
  ·intro d k;rw[Proofs.YtimoappbefindaaGreat.sumP];exact Zs.out
  ·intro d a k;rw[Proofs.YtimoappbefindaaGreat.sumL];exact Zs.out
  ·intro d k;rw[Proofs.YtimoappbefindaaGreat.termP];exact Zs.out
  ·intro d a k;rw[Proofs.YtimoappbefindaaGreat.termL];exact Zs.out
  ·intro d k;rw[Proofs.YtimoappbefindaaGreat.unitP];exact Zs.out
  ·intro d k;rw[Proofs.YtimoappbefindaaGreat.namedP];exact Zs.out
  ·intro d k;rw[Proofs.YtimoappbefindaaGreat.wordedP];exact Zs.out
  ·intro d k;rw[Proofs.YtimoappbefindaaGreat.brackP];exact Zs.out
  ·intro d k;rw[Proofs.YtimoappbefindaaGreat.argsP];exact Zs.out
  ·intro d acc k;rw[Proofs.YtimoappbefindaaGreat.argsL];exact Zs.out
 |succ f ih=>
  constructor
  ·intro d k;rw[Proofs.YtimoappbefindaaGreat.exprP]
   exact Zs.ite (ih.bindP _ _ _) (Zs.ite (ih.bindP _ _ _) (Zs.ite (ih.ifP _ _) (Zs.ite (ih.caseP _ _) (ih.consP _ _))))
  ·intro op d k;rw[Proofs.YtimoappbefindaaGreat.bindP]
   refine Zs.ite Zs.bad ?_
   refine Zs.part (kX M _) fun x k1 h1=>Zs.part (nP M _) fun t k2 h2=>Zs.part (bO M _ _) fun _ k3 h3=>Zs.part (ih.exprP _ _) fun a k4 h4=>Zs.part (bO M _ _) fun _ k5 h5=>Zs.part (ih.exprP _ _) fun b k6 h6=>Zs.ok ?_
   rw[bW,aO,aO,bB];omega
  ·intro d k;rw[Proofs.YtimoappbefindaaGreat.ifP]
   refine Zs.part (ih.exprP _ _) fun a k1 h1=>Zs.part (bO M _ _) fun _ k2 h2=>Zs.part (ih.exprP _ _) fun b k3 h3=>Zs.part (bO M _ _) fun _ k4 h4=>Zs.part (ih.exprP _ _) fun c k5 h5=>Zs.ok ?_
   rw[bW,aO,aO,aO,bB];omega
  ·intro d k;rw[Proofs.YtimoappbefindaaGreat.caseP]
   refine Zs.ite Zs.bad ?_
   refine Zs.part (ih.exprP _ _) fun a k1 h1=>Zs.part (bO M _ _) fun _ k2 h2=>Zs.part (bO M _ _) fun _ k3 h3=>Zs.part (bO M _ _) fun _ k4 h4=>Zs.part (ih.exprP _ _) fun b k5 h5=>?_
   refine Zs.part (bO M _ _) fun _ k6 h6=>Zs.part (kX M _) fun x k7 h7=>Zs.part (bO M _ _) fun _ k8 h8=>Zs.part (kX M _) fun y k9 h9=>Zs.part (bO M _ _) fun _ k10 h10=>Zs.part (ih.exprP _ _) fun c k11 h11=>Zs.ok ?_
   rw[bW,aO,aO,aO,bB];omega
  ·intro d k;rw[Proofs.YtimoappbefindaaGreat.consP]
   refine Zs.part (ih.compP _ _) fun a k1 h1=>Zs.ite (Zs.part (ih.consP _ _) fun b k2 h2=>Zs.ok ?_) (Zs.ok (by omega))
   rw[eB];omega
  ·intro d k;rw[Proofs.YtimoappbefindaaGreat.compP]
   refine Zs.part (ih.sumP _ _) fun a k1 h1=>Zs.ite (Zs.part (ih.sumP _ _) fun b k2 h2=>Zs.ok ?_) (Zs.ite (Zs.part (ih.sumP _ _) fun b k2 h2=>Zs.ok ?_) (Zs.ok (by omega)))
   ·rw[eB];omega
   ·rw[eB];omega
  ·intro d k;rw[Proofs.YtimoappbefindaaGreat.sumP]
   exact Zs.part (ih.termP _ _) fun a k1 h1=>(ih.sumL _ _ _).le (by omega)
  ·intro d a k;rw[Proofs.YtimoappbefindaaGreat.sumL]
   refine Zs.ite (Zs.part (ih.termP _ _) fun b k1 h1=>(ih.sumL _ _ _).le ?_) (Zs.ite (Zs.part (ih.termP _ _) fun b k1 h1=>(ih.sumL _ _ _).le ?_) (Zs.ok (by omega)))
   ·rw[eB];omega
   ·rw[eB];omega
  ·intro d k;rw[Proofs.YtimoappbefindaaGreat.termP]
   exact Zs.part (ih.unitP _ _) fun a k1 h1=>(ih.termL _ _ _).le (by omega)
  ·intro d a k;rw[Proofs.YtimoappbefindaaGreat.termL]
   refine Zs.ite (Zs.part (ih.unitP _ _) fun b k1 h1=>(ih.termL _ _ _).le ?_) (Zs.ite (Zs.part (ih.unitP _ _) fun b k1 h1=>(ih.termL _ _ _).le ?_) (Zs.ok (by omega)))
   ·rw[eB];omega
   ·rw[eB];omega
  ·intro d k;rw[Proofs.YtimoappbefindaaGreat.unitP]
   refine Zs.ite (Zs.ok ?_) (Zs.ite (ih.namedP _ _) (Zs.ite (ih.wordedP _ _) (ih.brackP _ _)))
   rw[bW,bB];omega
  ·intro d k;rw[Proofs.YtimoappbefindaaGreat.namedP]
   refine Zs.ite (Zs.part (ih.argsP _ _) fun l k1 h1=>Zs.ok ?_) (Zs.ok ?_)
   ·rw[bW];omega
   ·rw[bW,bB];omega
  ·intro d k;rw[Proofs.YtimoappbefindaaGreat.wordedP]
   refine Zs.ite Zs.bad (Zs.ite (Zs.part (nP M _) fun t k1 h1=>Zs.ok ?_) (Zs.ite (Zs.part (ih.brackP _ _) fun e k1 h1=>Zs.ok ?_) (Zs.ok ?_)))
   ·rw[bW,bB];omega
   ·rw[bW,aO,bB];omega
   ·rw[bW,bB];omega
  ·intro d k;rw[Proofs.YtimoappbefindaaGreat.brackP]
   exact Zs.part (bO M _ _) fun _ k1 h1=>Zs.part (ih.exprP _ _) fun e k2 h2=>Zs.part (bO M _ _) fun _ k3 h3=>Zs.ok (by omega)
  ·intro d k;rw[Proofs.YtimoappbefindaaGreat.argsP]
   refine Zs.ite (Zs.ok ?_) (Zs.part (ih.exprP _ _) fun a k1 h1=>(ih.argsL _ _ _).le ?_)
   ·rw[bB];omega
   ·rw[aO,bB];omega
  ·intro d acc k;rw[Proofs.YtimoappbefindaaGreat.argsL]
   refine Zs.ite (Zs.part (ih.exprP _ _) fun a k1 h1=>(ih.argsL _ _ _).le ?_) (Zs.part (bO M _ _) fun _ k1 h1=>Zs.ok (by omega))
   rw[lZ];omega
theorem sz_def {f num k:Nat} {g:Fn1} {j:Nat} (h:defP M L f num k=.ok g j):k≤j∧szE g.body≤j:=by
 have hg:=oU M L f num k
 rw[h] at hg
 refine⟨hg,?_⟩
 unfold defP at h
 obtain⟨x,k1,h1,h2⟩:=ak.1 h
 obtain⟨ps,k2,h3,h4⟩:=ak.1 h2
 obtain⟨_,k3,h5,h6⟩:=ak.1 h4
 obtain⟨t,k4,h7,h8⟩:=ak.1 h6
 obtain⟨_,k5,h9,h10⟩:=ak.1 h8
 obtain⟨b,k6,h11,h12⟩:=ak.1 h10
 obtain⟨_,k7,h13,h14⟩:=ak.1 h12
 cases h14
 have q1:=(qg M L f).exprP _ _ _ _ h11
 have q2:=bO M _ _ _ _ h13
 dsimp only
 omega
theorem sz_prog:∀ f acc k gs j,aQ M L f acc k=.ok gs j→(∀ g∈acc,szE g.body≤j)→∀ g∈gs,szE g.body≤j:=by
 intro f
 induction f with
 |zero=>intro acc k gs j h;cases h
 |succ f ih=>
  intro acc k gs j h ha
  rw[aQ] at h
  obtain⟨g,k1,h1,h2⟩:=ak.1 h
  obtain⟨_,q2⟩:=sz_def M L h1
  split at h2
  ·cases h2
   intro x hx
   rcases List.mem_append.1 hx with hx|hx
   ·exact ha x hx
   ·obtain rfl:=List.mem_singleton.1 hx
    exact q2
  ·refine ih _ _ _ _ h2 fun x hx=>?_
   have hj:=ge_prog M L f (acc++[g]) k1
   rw[h2] at hj
   have hj':k1≤j:=hj
   rcases List.mem_append.1 hx with hx|hx
   ·exact ha x hx
   ·obtain rfl:=List.mem_singleton.1 hx
    omega
end
abbrev ed:Ex:=.mk 0 [] [] 0 0 0 [] 0
abbrev fd:Fn1:=⟨[],[],0,ed,0⟩
abbrev pd:Pm:=⟨[],0,0⟩
theorem nT:∀ (xs:List Ex) (k:Nat),k<xs.length→szE (xs.getD k ed)≤szL xs
 |[],k,h=>by simp at h
 |x::xs,0,_=>by rw[aO,List.getD_cons_zero];omega
 |x::xs,k+1,h=>by
  have:=nT xs k (by simpa using h)
  rw[aO,List.getD_cons_succ]
  omega
theorem ExsR.length {ρ:Nat→Nat→Prop}:∀ {xs ys:List Ex},ExsR ρ xs ys→xs.length=ys.length
 |[],_,h=>by cases h;rfl
 |_::_,_,h=>by cases h with|cons h1 h2=>simp[h2.length]
theorem ExsR.at {ρ:Nat→Nat→Prop}:∀ {xs ys:List Ex},ExsR ρ xs ys→∀ k,k<xs.length→ExR ρ (xs.getD k ed) (ys.getD k ed)
 |[],_,_,k,hk=>by simp at hk
 |_::_,_,h,0,_=>by cases h with|cons h1 h2=>exact h1
 |_::_,_,h,k+1,hk=>by
  cases h with
  |cons h1 h2=>
   rw[List.getD_cons_succ,List.getD_cons_succ]
   exact h2.at k (by simpa using hk)
theorem LiR.at {α β:Type} {A:α→β→Prop} (a:α) (b:β):∀ {xs:List α} {ys:List β},LiR A xs ys→∀ k,k<xs.length→A (xs.getD k a) (ys.getD k b)
 |[],_,_,k,hk=>by simp at hk
 |_::_,_,h,0,_=>by cases h with|cons h1 h2=>exact h1
 |_::_,_,h,k+1,hk=>by
  cases h with
  |cons h1 h2=>
   rw[List.getD_cons_succ,List.getD_cons_succ]
   exact h2.at a b k (by simpa using hk)
mutual
theorem ExR.refl {ρ:Nat→Nat→Prop} (h:∀ i,ρ i i):∀ x:Ex,ExR ρ x x
 |.mk _ _ _ _ _ _ ps i=>.mk (h i) (ExsR.refl h ps)
theorem ExsR.refl {ρ:Nat→Nat→Prop} (h:∀ i,ρ i i):∀ xs:List Ex,ExsR ρ xs xs
 |[]=>.nil
 |x::xs=>.cons (ExR.refl h x) (ExsR.refl h xs)
end
theorem LiR.refl {α:Type} {A:α→α→Prop} (h:∀ x,A x x):∀ xs:List α,LiR A xs xs
 |[]=>.nil
 |x::xs=>.cons (h x) (LiR.refl h xs)
theorem FnR.refl {ρ:Nat→Nat→Prop} (h:∀ i,ρ i i) (g:Fn1):FnR ρ g g:=⟨rfl,LiR.refl (fun _=>⟨rfl,rfl,h _⟩) _,rfl,ExR.refl h _,h _⟩
set_option maxHeartbeats 2000000
theorem jN {M:Nat→Mk} {n:Nat} {m:Int} {k:Nat} {x:Mk} {j:Nat} (h:au M n m k=.ok x j):aJ M k=.ok x j∧(n:Int)<m:=by
 unfold au at h
 split at h
 ·cases h
 ·rename_i hc
  refine⟨h,?_⟩
  unfold aJ at h
  split at h
  ·rename_i hk
   by_cases hx:m≤n
   ·exact absurd ⟨hx,hk⟩ hc
   ·omega
  ·cases h
theorem iV {M:Nat→Mk} {s:List UInt8} {k j:Nat} {u:Unit} (h:ai M s k=.ok u j):tk M s k=true∧j=k+1:=by
 unfold ai at h
 split at h
 ·cases h;exact⟨by assumption,rfl⟩
 ·cases h
section
variable {ρ:Nat→Nat→Prop} {K:Nat→Prop} {s:Nat} (M M':Nat→Mk) (L:Lm) (hd:∀ i j,0≤i→i≤j→K j→K i) (hM:∀ k,0≤k→K k→MR ρ (M k) (M' (k+s)))
include hd hM
end
set_option maxHeartbeats 2000000
section
variable (M:Nat→Mk) (L L':Lm) (hn:∀ d:Nat,(L.n≤(d:Int))=(L'.n≤(d:Int)))
structure AllCl (f:Nat):Prop where
 exprP:∀ d k,Proofs.YtimoappbefindaaGreat.exprP M L f d k=Proofs.YtimoappbefindaaGreat.exprP M L' f d k
 bindP:∀ op d k,Proofs.YtimoappbefindaaGreat.bindP M L f op d k=Proofs.YtimoappbefindaaGreat.bindP M L' f op d k
 ifP:∀ d k,Proofs.YtimoappbefindaaGreat.ifP M L f d k=Proofs.YtimoappbefindaaGreat.ifP M L' f d k
 caseP:∀ d k,Proofs.YtimoappbefindaaGreat.caseP M L f d k=Proofs.YtimoappbefindaaGreat.caseP M L' f d k
 consP:∀ d k,Proofs.YtimoappbefindaaGreat.consP M L f d k=Proofs.YtimoappbefindaaGreat.consP M L' f d k
 compP:∀ d k,Proofs.YtimoappbefindaaGreat.compP M L f d k=Proofs.YtimoappbefindaaGreat.compP M L' f d k
 sumP:∀ d k,Proofs.YtimoappbefindaaGreat.sumP M L f d k=Proofs.YtimoappbefindaaGreat.sumP M L' f d k
 sumL:∀ d a k,Proofs.YtimoappbefindaaGreat.sumL M L f d a k=Proofs.YtimoappbefindaaGreat.sumL M L' f d a k
 termP:∀ d k,Proofs.YtimoappbefindaaGreat.termP M L f d k=Proofs.YtimoappbefindaaGreat.termP M L' f d k
 termL:∀ d a k,Proofs.YtimoappbefindaaGreat.termL M L f d a k=Proofs.YtimoappbefindaaGreat.termL M L' f d a k
 unitP:∀ d k,Proofs.YtimoappbefindaaGreat.unitP M L f d k=Proofs.YtimoappbefindaaGreat.unitP M L' f d k
 namedP:∀ d k,Proofs.YtimoappbefindaaGreat.namedP M L f d k=Proofs.YtimoappbefindaaGreat.namedP M L' f d k
 wordedP:∀ d k,Proofs.YtimoappbefindaaGreat.wordedP M L f d k=Proofs.YtimoappbefindaaGreat.wordedP M L' f d k
 brackP:∀ d k,Proofs.YtimoappbefindaaGreat.brackP M L f d k=Proofs.YtimoappbefindaaGreat.brackP M L' f d k
 argsP:∀ d k,Proofs.YtimoappbefindaaGreat.argsP M L f d k=Proofs.YtimoappbefindaaGreat.argsP M L' f d k
 argsL:∀ d acc k,Proofs.YtimoappbefindaaGreat.argsL M L f d acc k=Proofs.YtimoappbefindaaGreat.argsL M L' f d acc k
include hn
theorem allCl:∀ f,AllCl M L L' f:=by
 intro f
 induction f with
 |zero=>
  constructor
  ·intro d k;rw[Proofs.YtimoappbefindaaGreat.exprP,Proofs.YtimoappbefindaaGreat.exprP]
  ·intro op d k;rw[Proofs.YtimoappbefindaaGreat.bindP,Proofs.YtimoappbefindaaGreat.bindP]
  ·intro d k;rw[Proofs.YtimoappbefindaaGreat.ifP,Proofs.YtimoappbefindaaGreat.ifP]
  ·intro d k;rw[Proofs.YtimoappbefindaaGreat.caseP,Proofs.YtimoappbefindaaGreat.caseP]
  ·intro d k;rw[Proofs.YtimoappbefindaaGreat.consP,Proofs.YtimoappbefindaaGreat.consP]
  ·intro d k;rw[Proofs.YtimoappbefindaaGreat.compP,Proofs.YtimoappbefindaaGreat.compP]
  ·intro d k;rw[Proofs.YtimoappbefindaaGreat.sumP,Proofs.YtimoappbefindaaGreat.sumP]
  ·intro d a k;rw[Proofs.YtimoappbefindaaGreat.sumL,Proofs.YtimoappbefindaaGreat.sumL]
  ·intro d k;rw[Proofs.YtimoappbefindaaGreat.termP,Proofs.YtimoappbefindaaGreat.termP]
  ·intro d a k;rw[Proofs.YtimoappbefindaaGreat.termL,Proofs.YtimoappbefindaaGreat.termL]
  ·intro d k;rw[Proofs.YtimoappbefindaaGreat.unitP,Proofs.YtimoappbefindaaGreat.unitP]
  ·intro d k;rw[Proofs.YtimoappbefindaaGreat.namedP,Proofs.YtimoappbefindaaGreat.namedP]
  ·intro d k;rw[Proofs.YtimoappbefindaaGreat.wordedP,Proofs.YtimoappbefindaaGreat.wordedP]
  ·intro d k;rw[Proofs.YtimoappbefindaaGreat.brackP,Proofs.YtimoappbefindaaGreat.brackP]
  ·intro d k;rw[Proofs.YtimoappbefindaaGreat.argsP,Proofs.YtimoappbefindaaGreat.argsP]
  ·intro d acc k;rw[Proofs.YtimoappbefindaaGreat.argsL,Proofs.YtimoappbefindaaGreat.argsL]
 |succ f ih=>
  constructor
  ·intro d k;rw[Proofs.YtimoappbefindaaGreat.exprP,Proofs.YtimoappbefindaaGreat.exprP];simp only[ih.bindP,ih.ifP,ih.caseP,ih.consP]
  ·intro op d k;rw[Proofs.YtimoappbefindaaGreat.bindP,Proofs.YtimoappbefindaaGreat.bindP];simp only[ih.exprP,hn]
  ·intro d k;rw[Proofs.YtimoappbefindaaGreat.ifP,Proofs.YtimoappbefindaaGreat.ifP];simp only[ih.exprP]
  ·intro d k;rw[Proofs.YtimoappbefindaaGreat.caseP,Proofs.YtimoappbefindaaGreat.caseP];simp only[ih.exprP,hn]
  ·intro d k;rw[Proofs.YtimoappbefindaaGreat.consP,Proofs.YtimoappbefindaaGreat.consP];simp only[ih.compP,ih.consP]
  ·intro d k;rw[Proofs.YtimoappbefindaaGreat.compP,Proofs.YtimoappbefindaaGreat.compP];simp only[ih.sumP]
  ·intro d k;rw[Proofs.YtimoappbefindaaGreat.sumP,Proofs.YtimoappbefindaaGreat.sumP];simp only[ih.termP,ih.sumL]
  ·intro d a k;rw[Proofs.YtimoappbefindaaGreat.sumL,Proofs.YtimoappbefindaaGreat.sumL];simp only[ih.termP,ih.sumL]
  ·intro d k;rw[Proofs.YtimoappbefindaaGreat.termP,Proofs.YtimoappbefindaaGreat.termP];simp only[ih.unitP,ih.termL]
  ·intro d a k;rw[Proofs.YtimoappbefindaaGreat.termL,Proofs.YtimoappbefindaaGreat.termL];simp only[ih.unitP,ih.termL]
  ·intro d k;rw[Proofs.YtimoappbefindaaGreat.unitP,Proofs.YtimoappbefindaaGreat.unitP];simp only[ih.namedP,ih.wordedP,ih.brackP]
  ·intro d k;rw[Proofs.YtimoappbefindaaGreat.namedP,Proofs.YtimoappbefindaaGreat.namedP];simp only[ih.argsP]
  ·intro d k;rw[Proofs.YtimoappbefindaaGreat.wordedP,Proofs.YtimoappbefindaaGreat.wordedP];simp only[ih.brackP]
  ·intro d k;rw[Proofs.YtimoappbefindaaGreat.brackP,Proofs.YtimoappbefindaaGreat.brackP];simp only[ih.exprP]
  ·intro d k;rw[Proofs.YtimoappbefindaaGreat.argsP,Proofs.YtimoappbefindaaGreat.argsP];simp only[ih.exprP,ih.argsL]
  ·intro d acc k;rw[Proofs.YtimoappbefindaaGreat.argsL,Proofs.YtimoappbefindaaGreat.argsL];simp only[ih.exprP,ih.argsL]
variable (ha:∀ d:Nat,(L.a≤(d:Int))=(L'.a≤(d:Int))) (hf:∀ d:Nat,(L.f≤(d:Int))=(L'.f≤(d:Int)))
include ha
omit hn in
theorem lq (n k:Nat):bg M L n k=bg M L' n k:=by
 unfold bg au
 simp only[ha]
omit hn in
theorem cl_paramsL:∀ f acc k,aS M L f acc k=aS M L' f acc k:=by
 intro f
 induction f with
 |zero=>intro acc k;rfl
 |succ f ih=>
  intro acc k
  rw[aS,aS]
  simp only[lq M L L' ha,ih]
omit hn in
theorem cl_params (f k:Nat):aV M L f k=aV M L' f k:=by
 unfold aV
 simp only[lq M L L' ha,cl_paramsL M L L' ha]
include hf
theorem cl_def (f n k:Nat):defP M L f n k=defP M L' f n k:=by
 unfold defP
 have h1:∀ k,au M n L.f k=au M n L'.f k:=by
  intro k
  unfold au
  simp only[hf]
 simp only[h1,cl_params M L L' ha,(allCl M L L' hn f).exprP]
theorem cl_prog:∀ f acc k,aQ M L f acc k=aQ M L' f acc k:=by
 intro f
 induction f with
 |zero=>intro acc k;rfl
 |succ f ih=>
  intro acc k
  rw[aQ,aQ]
  simp only[cl_def M L L' hn ha hf,ih]
end
theorem clamped (M:Nat→Mk) (lf la ln:Int) (f:Nat) (acc:List Fn1) (k:Nat):aQ M ⟨lf,la,ln⟩ f acc k=aQ M ⟨max lf 0,max la 0,max ln 0⟩ f acc k:=
 cl_prog M _ _ (fun d=>propext (by dsimp only;omega)) (fun d=>propext (by dsimp only;omega)) (fun d=>propext (by dsimp only;omega)) f acc k
end Go.Proofs.YtimoappbefindaaGreat
