/-
  The parser, plainly: what a row of marks is parsed as, under limits. No dump.
-/
import Derived.Test.YtkonkplalgoekaaGreatDoorMp
namespace Go.Proofs.YtkonkplalgoekaaGreatDoor

/-- An expression, plainly. -/
inductive Ex where
  | mk (op : Int) (name tail : List UInt8) (ty p q : Int) (parts : List Ex) (pos : Nat)

structure Pm where
  name : List UInt8
  ty : Int
  pos : Nat

structure Fn1 where
  name : List UInt8
  pms : List Pm
  ty : Int
  body : Ex
  pos : Nat

/-- What a reading comes to: a thing and the mark behind it; a fault at a mark; out: the fuel gave out. -/
inductive Rs (α : Type) where
  | ok (a : α) (k : Nat)
  | bad (why : Int) (k : Nat)
  | out

def Rs.bind {α β : Type} (r : Rs α) (g : α → Nat → Rs β) : Rs β :=
  match r with
  | .ok a k => g a k
  | .bad y k => .bad y k
  | .out => .out

structure Lm where
  f : Int
  a : Int
  n : Int

section
variable (M : Nat → Mk) (L : Lm)

def tk (s : List UInt8) (k : Nat) : Bool := (M k).text == s

def mustP (s : List UInt8) (k : Nat) : Rs Unit := if tk M s k then .ok () (k + 1) else .bad 21 k
def nameP (k : Nat) : Rs Mk := if (M k).kind = 0 then .ok (M k) (k + 1) else .bad 21 k
def nameOfP (num : Nat) (most : Int) (k : Nat) : Rs Mk := if most ≤ num ∧ (M k).kind = 0 then .bad 22 k else nameP M k
def typeP (k : Nat) : Rs Int := if tk M [78] k then .ok 1 (k + 1) else if tk M [66] k then .ok 2 (k + 1) else if tk M [76] k then .ok 3 (k + 1) else .bad 21 k

def two (op : Int) (a b : Ex) (m : Mk) : Ex := .mk op [] [] 0 0 0 [a, b] m.at_

def tLet : List UInt8 := [108, 101, 116]
def tStrict : List UInt8 := [115, 116, 114, 105, 99, 116]
def tIf : List UInt8 := [105, 102]
def tCase : List UInt8 := [99, 97, 115, 101]
def tThen : List UInt8 := [116, 104, 101, 110]
def tElse : List UInt8 := [101, 108, 115, 101]
def tIn : List UInt8 := [105, 110]
def tOf : List UInt8 := [111, 102]
def tNil : List UInt8 := [110, 105, 108]
def tArr : List UInt8 := [45, 62]

def wordOp (s : List UInt8) : Int :=
  if s == [116, 114, 117, 101] then 2 else if s == [102, 97, 108, 115, 101] then 3 else if s == tNil then 4 else if s == [102, 97, 105, 108] then 5 else
  if s == [110, 111, 116] then 14 else if s == [114, 101] then 15 else if s == [105, 109] then 16 else if s == [99, 111, 110, 106] then 17 else 0

mutual
/-- Fuel, the nesting, the mark. -/
def exprP : Nat → Nat → Nat → Rs Ex
  | 0, _, _ => .out
  | f + 1, d, k =>
    if tk M tLet k then bindP f 21 d k else if tk M tStrict k then bindP f 22 d k else if tk M tIf k then ifP f d k else if tk M tCase k then caseP f d k else consP f d k

def bindP : Nat → Int → Nat → Nat → Rs Ex
  | 0, _, _, _ => .out
  | f + 1, op, d, k =>
    if L.n ≤ d then .bad 23 k else
    (nameP M (k + 1)).bind fun x k1 => (typeP M k1).bind fun t k2 => (mustP M [61] k2).bind fun _ k3 => (exprP f (d + 1) k3).bind fun a k4 =>
    (mustP M tIn k4).bind fun _ k5 => (exprP f (d + 1) k5).bind fun b k6 => .ok (.mk op x.text [] t 0 0 [a, b] (M k).at_) k6

def ifP : Nat → Nat → Nat → Rs Ex
  | 0, _, _ => .out
  | f + 1, d, k =>
    (exprP f d (k + 1)).bind fun a k1 => (mustP M tThen k1).bind fun _ k2 => (exprP f d k2).bind fun b k3 => (mustP M tElse k3).bind fun _ k4 => (exprP f d k4).bind fun c k5 =>
    .ok (.mk 19 [] [] 0 0 0 [a, b, c] (M k).at_) k5

def caseP : Nat → Nat → Nat → Rs Ex
  | 0, _, _ => .out
  | f + 1, d, k =>
    if L.n ≤ d then .bad 23 k else
    (exprP f (d + 1) (k + 1)).bind fun a k1 => (mustP M tOf k1).bind fun _ k2 => (mustP M tNil k2).bind fun _ k3 => (mustP M tArr k3).bind fun _ k4 => (exprP f (d + 1) k4).bind fun b k5 =>
    (mustP M [124] k5).bind fun _ k6 => (nameP M k6).bind fun h k7 => (mustP M [58] k7).bind fun _ k8 => (nameP M k8).bind fun t k9 => (mustP M tArr k9).bind fun _ k10 =>
    (exprP f (d + 1) k10).bind fun c k11 => .ok (.mk 20 h.text t.text 0 0 0 [a, b, c] (M k).at_) k11

def consP : Nat → Nat → Nat → Rs Ex
  | 0, _, _ => .out
  | f + 1, d, k => (compP f d k).bind fun a k1 => if tk M [58] k1 then (consP f d (k1 + 1)).bind fun b k2 => .ok (two 18 a b (M k1)) k2 else .ok a k1

def compP : Nat → Nat → Nat → Rs Ex
  | 0, _, _ => .out
  | f + 1, d, k => (sumP f d k).bind fun a k1 =>
    if tk M [61, 61] k1 then (sumP f d (k1 + 1)).bind fun b k2 => .ok (two 12 a b (M k1)) k2 else
    if tk M [60] k1 then (sumP f d (k1 + 1)).bind fun b k2 => .ok (two 13 a b (M k1)) k2 else .ok a k1

def sumP : Nat → Nat → Nat → Rs Ex
  | 0, _, _ => .out
  | f + 1, d, k => (termP f d k).bind fun a k1 => sumL f d a k1

def sumL : Nat → Nat → Ex → Nat → Rs Ex
  | 0, _, _, _ => .out
  | f + 1, d, a, k =>
    if tk M [43] k then (termP f d (k + 1)).bind fun b k1 => sumL f d (two 8 a b (M k)) k1 else
    if tk M [45] k then (termP f d (k + 1)).bind fun b k1 => sumL f d (two 9 a b (M k)) k1 else .ok a k

def termP : Nat → Nat → Nat → Rs Ex
  | 0, _, _ => .out
  | f + 1, d, k => (unitP f d k).bind fun a k1 => termL f d a k1

def termL : Nat → Nat → Ex → Nat → Rs Ex
  | 0, _, _, _ => .out
  | f + 1, d, a, k =>
    if tk M [42] k then (unitP f d (k + 1)).bind fun b k1 => termL f d (two 10 a b (M k)) k1 else
    if tk M [47] k then (unitP f d (k + 1)).bind fun b k1 => termL f d (two 11 a b (M k)) k1 else .ok a k

def unitP : Nat → Nat → Nat → Rs Ex
  | 0, _, _ => .out
  | f + 1, d, k =>
    if (M k).kind = 2 then .ok (.mk 1 [] [] 0 (M k).p (M k).q [] (M k).at_) (k + 1) else
    if (M k).kind = 0 then namedP f d k else
    if (M k).kind = 1 then wordedP f d k else brackP f d k

def namedP : Nat → Nat → Nat → Rs Ex
  | 0, _, _ => .out
  | f + 1, d, k => if tk M [40] (k + 1) then (argsP f d (k + 2)).bind fun l k1 => .ok (.mk 7 (M k).text [] 0 0 0 l (M k).at_) k1 else .ok (.mk 6 (M k).text [] 0 0 0 [] (M k).at_) (k + 1)

def wordedP : Nat → Nat → Nat → Rs Ex
  | 0, _, _ => .out
  | f + 1, d, k =>
    if wordOp (M k).text = 0 then .bad 21 k else
    if wordOp (M k).text = 5 then (typeP M (k + 1)).bind fun t k1 => .ok (.mk 5 [] [] t 0 0 [] (M k).at_) k1 else
    if 14 ≤ wordOp (M k).text then (brackP f d (k + 1)).bind fun e k1 => .ok (.mk (wordOp (M k).text) [] [] 0 0 0 [e] (M k).at_) k1 else
    .ok (.mk (wordOp (M k).text) [] [] 0 0 0 [] (M k).at_) (k + 1)

def brackP : Nat → Nat → Nat → Rs Ex
  | 0, _, _ => .out
  | f + 1, d, k => (mustP M [40] k).bind fun _ k1 => (exprP f d k1).bind fun e k2 => (mustP M [41] k2).bind fun _ k3 => .ok e k3

/-- The arguments, behind the bracket. -/
def argsP : Nat → Nat → Nat → Rs (List Ex)
  | 0, _, _ => .out
  | f + 1, d, k => if tk M [41] k then .ok [] (k + 1) else (exprP f d k).bind fun a k1 => argsL f d [a] k1

def argsL : Nat → Nat → List Ex → Nat → Rs (List Ex)
  | 0, _, _, _ => .out
  | f + 1, d, acc, k => if tk M [44] k then (exprP f d (k + 1)).bind fun a k1 => argsL f d (acc ++ [a]) k1 else (mustP M [41] k).bind fun _ k1 => .ok acc k1
end

def paramP (num k : Nat) : Rs Pm := (nameOfP M num L.a k).bind fun x k1 => (typeP M k1).bind fun t k2 => .ok ⟨x.text, t, x.at_⟩ k2

def paramsL : Nat → List Pm → Nat → Rs (List Pm)
  | 0, _, _ => .out
  | f + 1, acc, k => if tk M [44] k then (paramP M L acc.length (k + 1)).bind fun a k1 => paramsL f (acc ++ [a]) k1 else (mustP M [41] k).bind fun _ k1 => .ok acc k1

def paramsP (f k : Nat) : Rs (List Pm) :=
  (mustP M [40] k).bind fun _ k1 => if tk M [41] k1 then .ok [] (k1 + 1) else (paramP M L 0 k1).bind fun a k2 => paramsL M L f [a] k2

def defP (f num k : Nat) : Rs Fn1 :=
  (nameOfP M num L.f k).bind fun x k1 => (paramsP M L f k1).bind fun ps k2 => (mustP M [58] k2).bind fun _ k3 => (typeP M k3).bind fun t k4 => (mustP M [61] k4).bind fun _ k5 =>
  (exprP M L f 0 k5).bind fun b k6 => (mustP M [59] k6).bind fun _ k7 => .ok ⟨x.text, ps, t, b, x.at_⟩ k7

def progL : Nat → List Fn1 → Nat → Rs (List Fn1)
  | 0, _, _ => .out
  | f + 1, acc, k => (defP M L f acc.length k).bind fun g k1 => if (M k1).kind = 4 then .ok (acc ++ [g]) k1 else progL f (acc ++ [g]) k1
end
end Go.Proofs.YtkonkplalgoekaaGreatDoor
