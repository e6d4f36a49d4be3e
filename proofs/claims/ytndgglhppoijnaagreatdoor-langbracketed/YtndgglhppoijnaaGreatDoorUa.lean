/-
  7 texts in one: what each proves stands at its head.
-/
import Derived.Test.YtndgglhppoijnaaGreatDoorUW
import Derived.Test.YtndgglhppoijnaaGreatDoorUA
/-
  LangBracketed, plainly: what stands around an expression that was read. No dump.
-/
namespace Go.Proofs.YtndgglhppoijnaaGreatDoor
set_option maxHeartbeats 2000000

section
variable {M : Nat → Mk} {L : Lm} {d k j : Nat} {e : Ex}
/-- Marks stand one behind the other. -/
theorem ag_one {t : Mk} {T : List Mk} (h : Ag M k (t :: T)) : MR tt t (M k) := h.1

theorem ev_br (h0 : MR tt (sgT [40]) (M k)) (h : Ev fun f => exprP M L f d (k + 1) = .ok e j) (h9 : MR tt (sgT [41]) (M j)) : Ev fun f => unitP M L f d k = .ok e (j + 1) := by
  refine Ev.succ (Ev.succ (h.imp fun f g => ?_))
  have hk : (M k).kind = 3 := h0.kind
  rw [unitP, hk, if_neg (by decide), if_neg (by decide), if_neg (by decide), brackP, bind_ok5 (mr_must (s := [40]) h0 rfl), bind_ok5 g, bind_ok5 (mr_must (s := [41]) h9 rfl)]
theorem ev_term (h : Ev fun f => unitP M L f d k = .ok e j) (hf : Fol g4 (M j)) : Ev fun f => termP M L f d k = .ok e j := by
  refine Ev.succ (Ev.and h (Ev.succ (Ev.all fun f => ?_) : Ev fun f => termL M L f d e j = .ok e j) |>.imp fun f g => ?_)
  · rw [termL, hf.tk (s := [42]) (by simp [g4]), hf.tk (s := [47]) (by simp [g4])]
    rfl
  · rw [termP, bind_ok5 g.1]
    exact g.2
theorem ev_sum (h : Ev fun f => termP M L f d k = .ok e j) (hf : Fol g3 (M j)) : Ev fun f => sumP M L f d k = .ok e j := by
  refine Ev.succ (Ev.and h (Ev.succ (Ev.all fun f => ?_) : Ev fun f => sumL M L f d e j = .ok e j) |>.imp fun f g => ?_)
  · rw [sumL, hf.tk (s := [43]) (by simp [g3]), hf.tk (s := [45]) (by simp [g3])]
    rfl
  · rw [sumP, bind_ok5 g.1]
    exact g.2
theorem ev_comp (h : Ev fun f => sumP M L f d k = .ok e j) (hf : Fol g2 (M j)) : Ev fun f => compP M L f d k = .ok e j := by
  refine Ev.succ (h.imp fun f g => ?_)
  rw [compP, bind_ok5 g, hf.tk (s := [61, 61]) (by simp [g2]), hf.tk (s := [60]) (by simp [g2])]
  rfl
theorem ev_cons (h : Ev fun f => compP M L f d k = .ok e j) (hf : Fol g1 (M j)) : Ev fun f => consP M L f d k = .ok e j := by
  refine Ev.succ (h.imp fun f g => ?_)
  rw [consP, bind_ok5 g, hf.tk (s := [58]) (by simp [g1])]
  rfl
theorem ev_expr (h : Ev fun f => consP M L f d k = .ok e j) (hn : NoKw M k) : Ev fun f => exprP M L f d k = .ok e j := by
  obtain ⟨h1, h2, h3, h4⟩ := hn
  refine Ev.succ (h.imp fun f g => ?_)
  rw [exprP, h1, h2, h3, h4]
  exact g
theorem ev_up (h : Ev fun f => unitP M L f d k = .ok e j) (hf : Fol g1 (M j)) (hn : NoKw M k) : Ev fun f => exprP M L f d k = .ok e j :=
  ev_expr (ev_cons (ev_comp (ev_sum (ev_term h (hf.sub (by simp [g1, g2, g3, g4, g5]))) (hf.sub (by simp [g1, g2, g3, g4, g5]))) (hf.sub (by simp [g1, g2, g3, g4, g5]))) hf) hn
theorem nokw_of {t : Mk} (h0 : MR tt t (M k)) (h : Odd t.text) : NoKw M k := by
  unfold NoKw
  rw [mr_tk h0, mr_tk h0, mr_tk h0, mr_tk h0]
  simp [h.1, h.2.1, h.2.2.1, h.2.2.2.1]

/-- (E) -/
theorem way0 (h0 : MR tt (sgT [40]) (M k)) (h : Ev fun f => exprP M L f d (k + 1) = .ok e j) (h9 : MR tt (sgT [41]) (M j)) (hf : Fol g1 (M (j + 1))) : Ev fun f => exprP M L f d k = .ok e (j + 1) :=
  ev_up (ev_br h0 h h9) hf (nokw_of h0 (by unfold Odd; decide))
/-- 1+(E) -/
theorem way2 (h1 : MR tt (nuT 1 0) (M k)) (hp : MR tt (sgT [43]) (M (k + 1))) (h0 : MR tt (sgT [40]) (M (k + 1 + 1))) (h : Ev fun f => exprP M L f d (k + 1 + 1 + 1) = .ok e j) (h9 : MR tt (sgT [41]) (M j)) (hf : Fol g1 (M (j + 1))) :
    ∃ a i, Ev fun f => exprP M L f d k = .ok (.mk 8 [] [] 0 0 0 [a, e] i) (j + 1) := by
  have hb : Ev fun f => termP M L f d (k + 1 + 1) = .ok e (j + 1) := ev_term (ev_br h0 h h9) (hf.sub (by simp [g1, g2, g3, g4, g5]))
  refine ⟨.mk 1 [] [] 0 (M k).p (M k).q [] (M k).at_, (M (k + 1)).at_, ?_⟩
  have hu : Ev fun f => termP M L f d k = .ok (.mk 1 [] [] 0 (M k).p (M k).q [] (M k).at_) (k + 1) := by
    refine ev_term (Ev.succ (Ev.all fun f => ?_)) (mr_fol hp (by unfold Fol; decide))
    have hk : (M k).kind = 2 := h1.kind
    rw [unitP, hk, if_pos rfl]
  refine ev_expr (ev_cons (ev_comp ?_ (hf.sub (by simp [g1, g2, g3, g4, g5]))) hf) (nokw_of h1 ?_)
  · have hs : Ev fun f => sumL M L f d (two 8 (.mk 1 [] [] 0 (M k).p (M k).q [] (M k).at_) e (M (k + 1))) (j + 1) = .ok (two 8 (.mk 1 [] [] 0 (M k).p (M k).q [] (M k).at_) e (M (k + 1))) (j + 1) := by
      refine Ev.succ (Ev.all fun f => ?_)
      rw [sumL, hf.tk (s := [43]) (by simp [g1, g2, g3]), hf.tk (s := [45]) (by simp [g1, g2, g3])]
      rfl
    have hs2 : Ev fun f => sumL M L f d (.mk 1 [] [] 0 (M k).p (M k).q [] (M k).at_) (k + 1) = .ok (two 8 (.mk 1 [] [] 0 (M k).p (M k).q [] (M k).at_) e (M (k + 1))) (j + 1) := by
      refine Ev.succ ((hb.and hs).imp fun f g => ?_)
      rw [sumL, if_pos (by rw [mr_tk hp]; rfl), bind_ok5 g.1]
      exact g.2
    refine Ev.succ ((hu.and hs2).imp fun f g => ?_)
    rw [sumP, bind_ok5 g.1]
    exact g.2
  · have : (nuT 1 0).text = [49] := by simp [nuT, txt, Lib.itoa, Lib.decDigits]
    rw [this]
    unfold Odd
    decide

theorem ev_num {t : Mk} (h1 : MR tt t (M k)) (hk : t.kind = 2) (ho : Odd t.text) (hf : Fol g1 (M (k + 1))) : ∃ a, Ev fun f => exprP M L f d k = .ok a (k + 1) := by
  refine ⟨.mk 1 [] [] 0 (M k).p (M k).q [] (M k).at_, ev_up (Ev.succ (Ev.all fun f => ?_)) hf (nokw_of h1 ho)⟩
  have e : (M k).kind = 2 := by rw [h1.kind]; exact hk
  rw [unitP, e, if_pos rfl]
/-- g(1,(E)) -/
theorem way3 {x : List UInt8} {t : Mk} (hx : MR tt (nmT x) (M k)) (hox : Odd x) (ho : MR tt (sgT [40]) (M (k + 1))) (h1 : MR tt t (M (k + 1 + 1))) (hk : t.kind = 2) (hot : Odd t.text) (hc : MR tt (sgT [44]) (M (k + 1 + 1 + 1))) (h0 : MR tt (sgT [40]) (M (k + 1 + 1 + 1 + 1)))
    (h : Ev fun f => exprP M L f d (k + 1 + 1 + 1 + 1 + 1) = .ok e j) (h9 : MR tt (sgT [41]) (M j)) (h8 : MR tt (sgT [41]) (M (j + 1))) (hf : Fol g1 (M (j + 1 + 1))) :
    ∃ a i, Ev fun f => exprP M L f d k = .ok (.mk 7 x [] 0 0 0 [a, e] i) (j + 1 + 1) := by
  obtain ⟨a, ha⟩ := ev_num (L := L) (d := d) h1 hk hot (mr_fol hc (by unfold Fol; decide))
  have hb := way0 h0 h h9 (mr_fol h8 (by unfold Fol; decide))
  refine ⟨a, (M k).at_, ev_up ?_ hf (nokw_of hx hox)⟩
  have hl : Ev fun f => argsL M L f d [a, e] (j + 1) = .ok [a, e] (j + 1 + 1) := by
    refine Ev.succ (Ev.all fun f => ?_)
    rw [argsL, if_neg (by rw [mr_tk h8]; decide), bind_ok5 (mr_must (s := [41]) h8 rfl)]
  have hl2 : Ev fun f => argsL M L f d [a] (k + 1 + 1 + 1) = .ok [a, e] (j + 1 + 1) := by
    refine Ev.succ ((hb.and hl).imp fun f g => ?_)
    rw [argsL, if_pos (by rw [mr_tk hc]; rfl), bind_ok5 g.1]
    exact g.2
  have hl3 : Ev fun f => argsP M L f d (k + 2) = .ok [a, e] (j + 1 + 1) := by
    refine Ev.succ ((ha.and hl2).imp fun f g => ?_)
    rw [argsP, if_neg (by rw [show k + 2 = k + 1 + 1 from rfl, mr_tk h1]; simpa using hot.2.2.2.2), show k + 2 = k + 1 + 1 from rfl, bind_ok5 g.1]
    exact g.2
  refine Ev.succ (Ev.succ (hl3.imp fun f g => ?_))
  have hkd : (M k).kind = 0 := hx.kind
  rw [unitP, hkd, if_neg (by decide), if_pos rfl, namedP, if_pos (by rw [mr_tk ho]; rfl), bind_ok5 g, hx.text]
  rfl
/-- not((E)) -/
theorem way4 (hw : MR tt (kwT (wordT 14)) (M k)) (ho : MR tt (sgT [40]) (M (k + 1))) (h0 : MR tt (sgT [40]) (M (k + 1 + 1))) (h : Ev fun f => exprP M L f d (k + 1 + 1 + 1) = .ok e j) (h9 : MR tt (sgT [41]) (M j)) (h8 : MR tt (sgT [41]) (M (j + 1))) (hf : Fol g1 (M (j + 1 + 1))) :
    ∃ i, Ev fun f => exprP M L f d k = .ok (.mk 14 [] [] 0 0 0 [e] i) (j + 1 + 1) := by
  have hb := way0 h0 h h9 (mr_fol h8 (by unfold Fol; decide))
  refine ⟨(M k).at_, ev_up ?_ hf (nokw_of hw (by unfold Odd; decide))⟩
  refine Ev.succ (Ev.succ (Ev.succ (hb.imp fun f g => ?_)))
  have hkd : (M k).kind = 1 := hw.kind
  have hwo : wordOp (M k).text = 14 := by rw [hw.text]; exact wordOp_wordT (op := 14) (by decide)
  rw [unitP, hkd, if_neg (by decide), if_neg (by decide), if_pos rfl, wordedP, hwo, if_neg (by decide), if_neg (by decide), if_pos (by decide), brackP, bind_ok5 (mr_must (s := [40]) ho rfl), bind_ok5 g, bind_ok5 (mr_must (s := [41]) h8 rfl)]
  rfl
/-- let x N=(E) in 1 -/
theorem way5 {x : List UInt8} {t : Mk} (hw : MR tt (kwT tLet) (M k)) (hx : MR tt (nmT x) (M (k + 1))) (hy : MR tt (kwT (letT 1)) (M (k + 1 + 1))) (hq : MR tt (sgT [61]) (M (k + 1 + 1 + 1))) (h0 : MR tt (sgT [40]) (M (k + 1 + 1 + 1 + 1)))
    (hd : (d : Int) < L.n) (h : Ev fun f => exprP M L f (d + 1) (k + 1 + 1 + 1 + 1 + 1) = .ok e j) (h9 : MR tt (sgT [41]) (M j)) (hi : MR tt (kwT tIn) (M (j + 1))) (h1 : MR tt t (M (j + 1 + 1))) (hk : t.kind = 2) (hot : Odd t.text) (hf : Fol g1 (M (j + 1 + 1 + 1))) :
    ∃ b i, Ev fun f => exprP M L f d k = .ok (.mk 21 x [] 1 0 0 [e, b] i) (j + 1 + 1 + 1) := by
  obtain ⟨b, hb⟩ := ev_num (L := L) (d := d + 1) h1 hk hot hf
  have ha := way0 h0 h h9 (mr_fol hi (by unfold Fol; decide))
  refine ⟨b, (M k).at_, Ev.succ (Ev.succ ((ha.and hb).imp fun f g => ?_))⟩
  rw [exprP, if_pos (by rw [mr_tk hw]; rfl), bindP, if_neg (by omega), bind_ok5 (name_of hx), bind_ok5 (type_of hy (.inl rfl)), bind_ok5 (mr_must (s := [61]) hq rfl), bind_ok5 g.1, bind_ok5 (mr_must (s := tIn) hi rfl), bind_ok5 g.2, hx.text]
  rfl
/-- if true then (E) else 1 -/
theorem way7 {t : Mk} (hw : MR tt (kwT tIf) (M k)) (hu : MR tt (kwT (wordT 2)) (M (k + 1))) (ht : MR tt (kwT tThen) (M (k + 1 + 1))) (h0 : MR tt (sgT [40]) (M (k + 1 + 1 + 1))) (h : Ev fun f => exprP M L f d (k + 1 + 1 + 1 + 1) = .ok e j) (h9 : MR tt (sgT [41]) (M j))
    (hl : MR tt (kwT tElse) (M (j + 1))) (h1 : MR tt t (M (j + 1 + 1))) (hk : t.kind = 2) (hot : Odd t.text) (hf : Fol g1 (M (j + 1 + 1 + 1))) :
    ∃ a b i, Ev fun f => exprP M L f d k = .ok (.mk 19 [] [] 0 0 0 [a, e, b] i) (j + 1 + 1 + 1) := by
  obtain ⟨b, hb⟩ := ev_num (L := L) (d := d) h1 hk hot hf
  have ha := way0 h0 h h9 (mr_fol hl (by unfold Fol; decide))
  have hc : Ev fun f => exprP M L f d (k + 1) = .ok (.mk 2 [] [] 0 0 0 [] (M (k + 1)).at_) (k + 1 + 1) := by
    refine ev_up (Ev.succ (Ev.succ (Ev.all fun f => ?_))) (mr_fol ht (by unfold Fol; decide)) (nokw_of hu (by unfold Odd; decide))
    have hkd : (M (k + 1)).kind = 1 := hu.kind
    have hwo : wordOp (M (k + 1)).text = 2 := by rw [hu.text]; exact wordOp_wordT (op := 2) (by decide)
    rw [unitP, hkd, if_neg (by decide), if_neg (by decide), if_pos rfl, wordedP, hwo, if_neg (by decide), if_neg (by decide), if_neg (by decide)]
  refine ⟨.mk 2 [] [] 0 0 0 [] (M (k + 1)).at_, b, (M k).at_, Ev.succ (Ev.succ ((hc.and (ha.and hb)).imp fun f g => ?_))⟩
  rw [exprP, if_neg (by rw [mr_tk hw]; decide), if_neg (by rw [mr_tk hw]; decide), if_pos (by rw [mr_tk hw]; rfl), ifP, bind_ok5 g.1, bind_ok5 (mr_must (s := tThen) ht rfl), bind_ok5 g.2.1, bind_ok5 (mr_must (s := tElse) hl rfl), bind_ok5 g.2.2]
/-- case (E) of nil->1|h:t->2 -/
theorem way6 {x y : List UInt8} {t u : Mk} (hw : MR tt (kwT tCase) (M k)) (h0 : MR tt (sgT [40]) (M (k + 1))) (hd : (d : Int) < L.n) (h : Ev fun f => exprP M L f (d + 1) (k + 1 + 1) = .ok e j) (h9 : MR tt (sgT [41]) (M j)) (ho : MR tt (kwT tOf) (M (j + 1))) (hn : MR tt (kwT tNil) (M (j + 1 + 1)))
    (hr : MR tt (sgT tArr) (M (j + 1 + 1 + 1))) (h1 : MR tt t (M (j + 1 + 1 + 1 + 1))) (hk : t.kind = 2) (hot : Odd t.text) (hv : MR tt (sgT [124]) (M (j + 1 + 1 + 1 + 1 + 1))) (hx : MR tt (nmT x) (M (j + 1 + 1 + 1 + 1 + 1 + 1))) (hc : MR tt (sgT [58]) (M (j + 1 + 1 + 1 + 1 + 1 + 1 + 1)))
    (hy : MR tt (nmT y) (M (j + 1 + 1 + 1 + 1 + 1 + 1 + 1 + 1))) (hs : MR tt (sgT tArr) (M (j + 1 + 1 + 1 + 1 + 1 + 1 + 1 + 1 + 1))) (h2 : MR tt u (M (j + 1 + 1 + 1 + 1 + 1 + 1 + 1 + 1 + 1 + 1))) (hk2 : u.kind = 2) (hou : Odd u.text) (hf : Fol g1 (M (j + 1 + 1 + 1 + 1 + 1 + 1 + 1 + 1 + 1 + 1 + 1))) :
    ∃ b c i, Ev fun f => exprP M L f d k = .ok (.mk 20 x y 0 0 0 [e, b, c] i) (j + 1 + 1 + 1 + 1 + 1 + 1 + 1 + 1 + 1 + 1 + 1) := by
  obtain ⟨b, hb⟩ := ev_num (L := L) (d := d + 1) h1 hk hot (mr_fol hv (by unfold Fol; decide))
  obtain ⟨c, hc2⟩ := ev_num (L := L) (d := d + 1) h2 hk2 hou hf
  have ha := way0 h0 h h9 (mr_fol ho (by unfold Fol; decide))
  refine ⟨b, c, (M k).at_, Ev.succ (Ev.succ ((ha.and (hb.and hc2)).imp fun f g => ?_))⟩
  rw [exprP, if_neg (by rw [mr_tk hw]; decide), if_neg (by rw [mr_tk hw]; decide), if_neg (by rw [mr_tk hw]; decide), if_pos (by rw [mr_tk hw]; rfl), caseP, if_neg (by omega), bind_ok5 g.1, bind_ok5 (mr_must (s := tOf) ho rfl), bind_ok5 (mr_must (s := tNil) hn rfl),
    bind_ok5 (mr_must (s := tArr) hr rfl), bind_ok5 g.2.1, bind_ok5 (mr_must (s := [124]) hv rfl), bind_ok5 (name_of hx), bind_ok5 (mr_must (s := [58]) hc rfl), bind_ok5 (name_of hy), bind_ok5 (mr_must (s := tArr) hs rfl), bind_ok5 g.2.2, hx.text, hy.text]
  rfl
end
/-- f():N= and an expression ;  -/
theorem ev_prog {M : Nat → Mk} {L : Lm} {e : Ex} {j : Nat} (hh : Ag M 0 [nmT [102], sgT [40], sgT [41], sgT [58], kwT (letT 1), sgT [61]]) (h : Ev fun f => exprP M L f 0 6 = .ok e j) (h9 : MR tt (sgT [59]) (M j)) (h4 : (M (j + 1)).kind = 4) (hl : (0 : Int) < L.f) :
    Ev fun f => progL M L f [] 0 = .ok [⟨[102], [], 1, e, (M 0).at_⟩] (j + 1) := by
  obtain ⟨m0, m1, m2, m3, m4, m5, _⟩ := hh
  refine Ev.succ (h.imp fun f g => ?_)
  have hd : defP M L f ([] : List Fn1).length 0 = .ok ⟨[102], [], 1, e, (M 0).at_⟩ (j + 1) := by
    unfold defP paramsP
    rw [bind_ok5 (nameOf_of m0 (by simpa using hl)), bind_ok5 (α := List Pm) (a := []) (k := 3) (by rw [bind_ok5 (mr_must (s := [40]) m1 rfl), if_pos (by rw [mr_tk m2]; rfl)]), bind_ok5 (mr_must (s := [58]) m3 rfl), bind_ok5 (type_of m4 (.inl rfl)), bind_ok5 (mr_must (s := [61]) m5 rfl), bind_ok5 g, bind_ok5 (mr_must (s := [59]) h9 rfl), m0.text]
    rfl
  rw [progL, bind_ok5 hd, if_pos h4]
  rfl
end Go.Proofs.YtndgglhppoijnaaGreatDoor
/-
  An expression's reading hangs on the mark behind it only by whether it goes on there.
-/
namespace Go.Proofs.YtndgglhppoijnaaGreatDoor
set_option maxHeartbeats 4000000

/-- The signs that let an expression go on. -/
def goOn : List (List UInt8) := [[58], [61, 61], [60], [43], [45], [42], [47], [40]]

section
variable (M M1 : Nat → Mk) (L : Lm) (J : Nat) (hM : ∀ i, i < J → M1 i = M i) (hJ : ∀ s ∈ goOn, tk M1 s J = tk M s J)
include hM
theorem fo_tk {s : List UInt8} {k : Nat} (h : k < J) : tk M1 s k = tk M s k := by unfold tk; rw [hM k h]
theorem fo_must {s : List UInt8} {k j : Nat} {u : Unit} (h : mustP M s k = .ok u j) (hj : j ≤ J) : mustP M1 s k = .ok u j := by
  obtain ⟨h1, h2⟩ := must_ok h
  unfold mustP at h ⊢
  rw [fo_tk M M1 J hM (by omega)]
  exact h
theorem fo_name {k j : Nat} {x : Mk} (h : nameP M k = .ok x j) (hj : j ≤ J) : nameP M1 k = .ok x j := by
  unfold nameP at h ⊢
  split at h
  · cases h
    rw [hM k (by omega), if_pos (by assumption)]
  · cases h
theorem fo_type {k j : Nat} {x : Int} (h : typeP M k = .ok x j) (hj : j ≤ J) : typeP M1 k = .ok x j := by
  have hk : k < J := by
    unfold typeP at h
    split at h
    · cases h; omega
    · split at h
      · cases h; omega
      · split at h
        · cases h; omega
        · cases h
  unfold typeP at h ⊢
  rw [fo_tk M M1 J hM hk, fo_tk M M1 J hM hk, fo_tk M M1 J hM hk]
  exact h
include hJ
theorem fo_peek {s : List UInt8} {k : Nat} (hs : s ∈ goOn) (h : k ≤ J) : tk M1 s k = tk M s k := by
  rcases Nat.lt_or_ge k J with hx | hx
  · exact fo_tk M M1 J hM hx
  · rw [show k = J by omega]
    exact hJ s hs
omit hM hJ

structure AllFo (f : Nat) : Prop where
  exprP : ∀ d k x j, Proofs.YtndgglhppoijnaaGreatDoor.exprP M L f d k = .ok x j → j ≤ J → Proofs.YtndgglhppoijnaaGreatDoor.exprP M1 L f d k = .ok x j
  bindP : ∀ op d k x j, Proofs.YtndgglhppoijnaaGreatDoor.bindP M L f op d k = .ok x j → j ≤ J → Proofs.YtndgglhppoijnaaGreatDoor.bindP M1 L f op d k = .ok x j
  ifP : ∀ d k x j, Proofs.YtndgglhppoijnaaGreatDoor.ifP M L f d k = .ok x j → j ≤ J → Proofs.YtndgglhppoijnaaGreatDoor.ifP M1 L f d k = .ok x j
  caseP : ∀ d k x j, Proofs.YtndgglhppoijnaaGreatDoor.caseP M L f d k = .ok x j → j ≤ J → Proofs.YtndgglhppoijnaaGreatDoor.caseP M1 L f d k = .ok x j
  consP : ∀ d k x j, Proofs.YtndgglhppoijnaaGreatDoor.consP M L f d k = .ok x j → j ≤ J → Proofs.YtndgglhppoijnaaGreatDoor.consP M1 L f d k = .ok x j
  compP : ∀ d k x j, Proofs.YtndgglhppoijnaaGreatDoor.compP M L f d k = .ok x j → j ≤ J → Proofs.YtndgglhppoijnaaGreatDoor.compP M1 L f d k = .ok x j
  sumP : ∀ d k x j, Proofs.YtndgglhppoijnaaGreatDoor.sumP M L f d k = .ok x j → j ≤ J → Proofs.YtndgglhppoijnaaGreatDoor.sumP M1 L f d k = .ok x j
  sumL : ∀ d a k x j, Proofs.YtndgglhppoijnaaGreatDoor.sumL M L f d a k = .ok x j → j ≤ J → Proofs.YtndgglhppoijnaaGreatDoor.sumL M1 L f d a k = .ok x j
  termP : ∀ d k x j, Proofs.YtndgglhppoijnaaGreatDoor.termP M L f d k = .ok x j → j ≤ J → Proofs.YtndgglhppoijnaaGreatDoor.termP M1 L f d k = .ok x j
  termL : ∀ d a k x j, Proofs.YtndgglhppoijnaaGreatDoor.termL M L f d a k = .ok x j → j ≤ J → Proofs.YtndgglhppoijnaaGreatDoor.termL M1 L f d a k = .ok x j
  unitP : ∀ d k x j, Proofs.YtndgglhppoijnaaGreatDoor.unitP M L f d k = .ok x j → j ≤ J → Proofs.YtndgglhppoijnaaGreatDoor.unitP M1 L f d k = .ok x j
  namedP : ∀ d k x j, Proofs.YtndgglhppoijnaaGreatDoor.namedP M L f d k = .ok x j → j ≤ J → Proofs.YtndgglhppoijnaaGreatDoor.namedP M1 L f d k = .ok x j
  wordedP : ∀ d k x j, Proofs.YtndgglhppoijnaaGreatDoor.wordedP M L f d k = .ok x j → j ≤ J → Proofs.YtndgglhppoijnaaGreatDoor.wordedP M1 L f d k = .ok x j
  brackP : ∀ d k x j, Proofs.YtndgglhppoijnaaGreatDoor.brackP M L f d k = .ok x j → j ≤ J → Proofs.YtndgglhppoijnaaGreatDoor.brackP M1 L f d k = .ok x j
  argsP : ∀ d k x j, Proofs.YtndgglhppoijnaaGreatDoor.argsP M L f d k = .ok x j → j ≤ J → Proofs.YtndgglhppoijnaaGreatDoor.argsP M1 L f d k = .ok x j
  argsL : ∀ d acc k x j, Proofs.YtndgglhppoijnaaGreatDoor.argsL M L f d acc k = .ok x j → j ≤ J → Proofs.YtndgglhppoijnaaGreatDoor.argsL M1 L f d acc k = .ok x j

include hM hJ
theorem allFo : ∀ f, AllFo M M1 L J f := by
  intro f
  induction f with
  | zero =>
    constructor
    · intro d k x j h _; rw [Proofs.YtndgglhppoijnaaGreatDoor.exprP] at h; cases h
    · intro op d k x j h _; rw [Proofs.YtndgglhppoijnaaGreatDoor.bindP] at h; cases h
    · intro d k x j h _; rw [Proofs.YtndgglhppoijnaaGreatDoor.ifP] at h; cases h
    · intro d k x j h _; rw [Proofs.YtndgglhppoijnaaGreatDoor.caseP] at h; cases h
    · intro d k x j h _; rw [Proofs.YtndgglhppoijnaaGreatDoor.consP] at h; cases h
    · intro d k x j h _; rw [Proofs.YtndgglhppoijnaaGreatDoor.compP] at h; cases h
    · intro d k x j h _; rw [Proofs.YtndgglhppoijnaaGreatDoor.sumP] at h; cases h
    · intro d a k x j h _; rw [Proofs.YtndgglhppoijnaaGreatDoor.sumL] at h; cases h
    · intro d k x j h _; rw [Proofs.YtndgglhppoijnaaGreatDoor.termP] at h; cases h
    · intro d a k x j h _; rw [Proofs.YtndgglhppoijnaaGreatDoor.termL] at h; cases h
    · intro d k x j h _; rw [Proofs.YtndgglhppoijnaaGreatDoor.unitP] at h; cases h
    · intro d k x j h _; rw [Proofs.YtndgglhppoijnaaGreatDoor.namedP] at h; cases h
    · intro d k x j h _; rw [Proofs.YtndgglhppoijnaaGreatDoor.wordedP] at h; cases h
    · intro d k x j h _; rw [Proofs.YtndgglhppoijnaaGreatDoor.brackP] at h; cases h
    · intro d k x j h _; rw [Proofs.YtndgglhppoijnaaGreatDoor.argsP] at h; cases h
    · intro d acc k x j h _; rw [Proofs.YtndgglhppoijnaaGreatDoor.argsL] at h; cases h
  | succ f ih =>
    have ge := allGe M L f
    have zs := allZs M L f
    constructor
    · intro d k x j h hj
      have hk : k + 1 ≤ j := by
        have := (allZs M L (f + 1)).exprP d k x j h
        have := szE_pos x
        omega
      rw [Proofs.YtndgglhppoijnaaGreatDoor.exprP] at h ⊢
      rw [fo_tk M M1 J hM (by omega), fo_tk M M1 J hM (by omega), fo_tk M M1 J hM (by omega), fo_tk M M1 J hM (by omega)]
      repeat' split at h
      · rw [if_pos (by assumption)]; exact ih.bindP _ _ _ _ _ h hj
      · rw [if_neg (by assumption), if_pos (by assumption)]; exact ih.bindP _ _ _ _ _ h hj
      · rw [if_neg (by assumption), if_neg (by assumption), if_pos (by assumption)]; exact ih.ifP _ _ _ _ h hj
      · rw [if_neg (by assumption), if_neg (by assumption), if_neg (by assumption), if_pos (by assumption)]; exact ih.caseP _ _ _ _ h hj
      · rw [if_neg (by assumption), if_neg (by assumption), if_neg (by assumption), if_neg (by assumption)]; exact ih.consP _ _ _ _ h hj
    · intro op d k x j h hj
      rw [Proofs.YtndgglhppoijnaaGreatDoor.bindP] at h ⊢
      split at h
      · cases h
      · rename_i hg
        rw [if_neg hg]
        obtain ⟨x1, j0, e0, h⟩ := bind_eq.1 h
        obtain ⟨t1, j1, e1, h⟩ := bind_eq.1 h
        obtain ⟨_, j2, e2, h⟩ := bind_eq.1 h
        obtain ⟨a1, j3, e3, h⟩ := bind_eq.1 h
        obtain ⟨_, j4, e4, h⟩ := bind_eq.1 h
        obtain ⟨b1, j5, e5, h⟩ := bind_eq.1 h
        cases h
        have g0 : (k + 1) ≤ j0 := by have := ge_name M (k + 1); rw [e0] at this; exact this
        have g1 : j0 ≤ j1 := by have := ge_type M j0; rw [e1] at this; exact this
        have g2 : j1 ≤ j2 := by have := ge_must M [61] j1; rw [e2] at this; exact this
        have g3 : j2 ≤ j3 := by have := ge.exprP (d + 1) j2; rw [e3] at this; exact this
        have g4 : j3 ≤ j4 := by have := ge_must M tIn j3; rw [e4] at this; exact this
        have g5 : j4 ≤ j := by have := ge.exprP (d + 1) j4; rw [e5] at this; exact this
        rw [bind_eq_ok (fo_name M M1 J hM e0 (by omega)), bind_eq_ok (fo_type M M1 J hM e1 (by omega)), bind_eq_ok (fo_must M M1 J hM e2 (by omega)), bind_eq_ok (ih.exprP (d + 1) j2 _ _ e3 (by omega)), bind_eq_ok (fo_must M M1 J hM e4 (by omega)), bind_eq_ok (ih.exprP (d + 1) j4 _ _ e5 (by omega))]
        rw [hM k (by omega)]
    · intro d k x j h hj
      rw [Proofs.YtndgglhppoijnaaGreatDoor.ifP] at h ⊢
      obtain ⟨a1, j0, e0, h⟩ := bind_eq.1 h
      obtain ⟨_, j1, e1, h⟩ := bind_eq.1 h
      obtain ⟨b1, j2, e2, h⟩ := bind_eq.1 h
      obtain ⟨_, j3, e3, h⟩ := bind_eq.1 h
      obtain ⟨c1, j4, e4, h⟩ := bind_eq.1 h
      cases h
      have g0 : (k + 1) ≤ j0 := by have := ge.exprP d (k + 1); rw [e0] at this; exact this
      have g1 : j0 ≤ j1 := by have := ge_must M tThen j0; rw [e1] at this; exact this
      have g2 : j1 ≤ j2 := by have := ge.exprP d j1; rw [e2] at this; exact this
      have g3 : j2 ≤ j3 := by have := ge_must M tElse j2; rw [e3] at this; exact this
      have g4 : j3 ≤ j := by have := ge.exprP d j3; rw [e4] at this; exact this
      rw [bind_eq_ok (ih.exprP d (k + 1) _ _ e0 (by omega)), bind_eq_ok (fo_must M M1 J hM e1 (by omega)), bind_eq_ok (ih.exprP d j1 _ _ e2 (by omega)), bind_eq_ok (fo_must M M1 J hM e3 (by omega)), bind_eq_ok (ih.exprP d j3 _ _ e4 (by omega))]
      rw [hM k (by omega)]
    · intro d k x j h hj
      rw [Proofs.YtndgglhppoijnaaGreatDoor.caseP] at h ⊢
      split at h
      · cases h
      · rename_i hg
        rw [if_neg hg]
        obtain ⟨a1, j0, e0, h⟩ := bind_eq.1 h
        obtain ⟨_, j1, e1, h⟩ := bind_eq.1 h
        obtain ⟨_, j2, e2, h⟩ := bind_eq.1 h
        obtain ⟨_, j3, e3, h⟩ := bind_eq.1 h
        obtain ⟨b1, j4, e4, h⟩ := bind_eq.1 h
        obtain ⟨_, j5, e5, h⟩ := bind_eq.1 h
        obtain ⟨h1, j6, e6, h⟩ := bind_eq.1 h
        obtain ⟨_, j7, e7, h⟩ := bind_eq.1 h
        obtain ⟨t1, j8, e8, h⟩ := bind_eq.1 h
        obtain ⟨_, j9, e9, h⟩ := bind_eq.1 h
        obtain ⟨c1, j10, e10, h⟩ := bind_eq.1 h
        cases h
        have g0 : (k + 1) ≤ j0 := by have := ge.exprP (d + 1) (k + 1); rw [e0] at this; exact this
        have g1 : j0 ≤ j1 := by have := ge_must M tOf j0; rw [e1] at this; exact this
        have g2 : j1 ≤ j2 := by have := ge_must M tNil j1; rw [e2] at this; exact this
        have g3 : j2 ≤ j3 := by have := ge_must M tArr j2; rw [e3] at this; exact this
        have g4 : j3 ≤ j4 := by have := ge.exprP (d + 1) j3; rw [e4] at this; exact this
        have g5 : j4 ≤ j5 := by have := ge_must M [124] j4; rw [e5] at this; exact this
        have g6 : j5 ≤ j6 := by have := ge_name M j5; rw [e6] at this; exact this
        have g7 : j6 ≤ j7 := by have := ge_must M [58] j6; rw [e7] at this; exact this
        have g8 : j7 ≤ j8 := by have := ge_name M j7; rw [e8] at this; exact this
        have g9 : j8 ≤ j9 := by have := ge_must M tArr j8; rw [e9] at this; exact this
        have g10 : j9 ≤ j := by have := ge.exprP (d + 1) j9; rw [e10] at this; exact this
        rw [bind_eq_ok (ih.exprP (d + 1) (k + 1) _ _ e0 (by omega)), bind_eq_ok (fo_must M M1 J hM e1 (by omega)), bind_eq_ok (fo_must M M1 J hM e2 (by omega)), bind_eq_ok (fo_must M M1 J hM e3 (by omega)), bind_eq_ok (ih.exprP (d + 1) j3 _ _ e4 (by omega)), bind_eq_ok (fo_must M M1 J hM e5 (by omega)), bind_eq_ok (fo_name M M1 J hM e6 (by omega)), bind_eq_ok (fo_must M M1 J hM e7 (by omega)), bind_eq_ok (fo_name M M1 J hM e8 (by omega)), bind_eq_ok (fo_must M M1 J hM e9 (by omega)), bind_eq_ok (ih.exprP (d + 1) j9 _ _ e10 (by omega))]
        rw [hM k (by omega)]
    · intro d k x j h hj
      rw [Proofs.YtndgglhppoijnaaGreatDoor.consP] at h ⊢
      obtain ⟨a1, k1, e0, h⟩ := bind_eq.1 h
      have g1 : k1 ≤ j := by
        split at h
        · obtain ⟨b1, k2, e1, h⟩ := bind_eq.1 h
          cases h
          have := ge.consP d (k1 + 1); rw [e1] at this
          have : k1 + 1 ≤ j := this
          omega
        · cases h; exact Nat.le_refl _
      rw [bind_eq_ok (ih.compP d k _ _ e0 (by omega)), fo_peek M M1 J hM hJ (by simp [goOn]) (by omega)]
      split at h
      · obtain ⟨b1, k2, e1, h⟩ := bind_eq.1 h
        cases h
        have g2 : k1 + 1 ≤ j := by have := ge.consP d (k1 + 1); rw [e1] at this; exact this
        rw [if_pos (by assumption), bind_eq_ok (ih.consP d (k1 + 1) _ _ e1 hj), hM k1 (by omega)]
      · cases h
        rw [if_neg (by assumption)]
    · intro d k x j h hj
      rw [Proofs.YtndgglhppoijnaaGreatDoor.compP] at h ⊢
      obtain ⟨a1, k1, e0, h⟩ := bind_eq.1 h
      have g1 : k1 ≤ j := by
        split at h
        · obtain ⟨b1, k2, e1, h⟩ := bind_eq.1 h
          cases h
          have := ge.sumP d (k1 + 1); rw [e1] at this
          have : k1 + 1 ≤ j := this
          omega
        · split at h
          · obtain ⟨b1, k2, e1, h⟩ := bind_eq.1 h
            cases h
            have := ge.sumP d (k1 + 1); rw [e1] at this
            have : k1 + 1 ≤ j := this
            omega
          · cases h; exact Nat.le_refl _
      rw [bind_eq_ok (ih.sumP d k _ _ e0 (by omega)), fo_peek M M1 J hM hJ (s := [61, 61]) (by simp [goOn]) (by omega), fo_peek M M1 J hM hJ (s := [60]) (by simp [goOn]) (by omega)]
      split at h
      · obtain ⟨b1, k2, e1, h⟩ := bind_eq.1 h
        cases h
        have g2 : k1 + 1 ≤ j := by have := ge.sumP d (k1 + 1); rw [e1] at this; exact this
        rw [if_pos (by assumption), bind_eq_ok (ih.sumP d (k1 + 1) _ _ e1 hj), hM k1 (by omega)]
      · rw [if_neg (by assumption)]
        split at h
        · obtain ⟨b1, k2, e1, h⟩ := bind_eq.1 h
          cases h
          have g2 : k1 + 1 ≤ j := by have := ge.sumP d (k1 + 1); rw [e1] at this; exact this
          rw [if_pos (by assumption), bind_eq_ok (ih.sumP d (k1 + 1) _ _ e1 hj), hM k1 (by omega)]
        · cases h
          rw [if_neg (by assumption)]
    · intro d k x j h hj
      rw [Proofs.YtndgglhppoijnaaGreatDoor.sumP] at h ⊢
      obtain ⟨a1, k1, e0, h⟩ := bind_eq.1 h
      have g1 : k1 ≤ j := by have := ge.sumL d a1 k1; rw [h] at this; exact this
      rw [bind_eq_ok (ih.termP d k _ _ e0 (by omega))]
      exact ih.sumL d a1 k1 _ _ h hj
    · intro d a k x j h hj
      have g0 : k ≤ j := by have := (allGe M L (f + 1)).sumL d a k; rw [h] at this; exact this
      rw [Proofs.YtndgglhppoijnaaGreatDoor.sumL] at h ⊢
      rw [fo_peek M M1 J hM hJ (s := [43]) (by simp [goOn]) (by omega), fo_peek M M1 J hM hJ (s := [45]) (by simp [goOn]) (by omega)]
      split at h
      · obtain ⟨b1, k1, e1, h⟩ := bind_eq.1 h
        have g2 : k + 1 ≤ k1 := by have := ge.termP d (k + 1); rw [e1] at this; exact this
        have g3 : k1 ≤ j := by have := ge.sumL d (two 8 a b1 (M k)) k1; rw [h] at this; exact this
        rw [if_pos (by assumption), bind_eq_ok (ih.termP d (k + 1) _ _ e1 (by omega)), hM k (by omega)]
        exact ih.sumL d _ k1 _ _ h hj
      · rw [if_neg (by assumption)]
        split at h
        · obtain ⟨b1, k1, e1, h⟩ := bind_eq.1 h
          have g2 : k + 1 ≤ k1 := by have := ge.termP d (k + 1); rw [e1] at this; exact this
          have g3 : k1 ≤ j := by have := ge.sumL d (two 9 a b1 (M k)) k1; rw [h] at this; exact this
          rw [if_pos (by assumption), bind_eq_ok (ih.termP d (k + 1) _ _ e1 (by omega)), hM k (by omega)]
          exact ih.sumL d _ k1 _ _ h hj
        · cases h
          rw [if_neg (by assumption)]
    · intro d k x j h hj
      rw [Proofs.YtndgglhppoijnaaGreatDoor.termP] at h ⊢
      obtain ⟨a1, k1, e0, h⟩ := bind_eq.1 h
      have g1 : k1 ≤ j := by have := ge.termL d a1 k1; rw [h] at this; exact this
      rw [bind_eq_ok (ih.unitP d k _ _ e0 (by omega))]
      exact ih.termL d a1 k1 _ _ h hj
    · intro d a k x j h hj
      have g0 : k ≤ j := by have := (allGe M L (f + 1)).termL d a k; rw [h] at this; exact this
      rw [Proofs.YtndgglhppoijnaaGreatDoor.termL] at h ⊢
      rw [fo_peek M M1 J hM hJ (s := [42]) (by simp [goOn]) (by omega), fo_peek M M1 J hM hJ (s := [47]) (by simp [goOn]) (by omega)]
      split at h
      · obtain ⟨b1, k1, e1, h⟩ := bind_eq.1 h
        have g2 : k + 1 ≤ k1 := by have := ge.unitP d (k + 1); rw [e1] at this; exact this
        have g3 : k1 ≤ j := by have := ge.termL d (two 10 a b1 (M k)) k1; rw [h] at this; exact this
        rw [if_pos (by assumption), bind_eq_ok (ih.unitP d (k + 1) _ _ e1 (by omega)), hM k (by omega)]
        exact ih.termL d _ k1 _ _ h hj
      · rw [if_neg (by assumption)]
        split at h
        · obtain ⟨b1, k1, e1, h⟩ := bind_eq.1 h
          have g2 : k + 1 ≤ k1 := by have := ge.unitP d (k + 1); rw [e1] at this; exact this
          have g3 : k1 ≤ j := by have := ge.termL d (two 11 a b1 (M k)) k1; rw [h] at this; exact this
          rw [if_pos (by assumption), bind_eq_ok (ih.unitP d (k + 1) _ _ e1 (by omega)), hM k (by omega)]
          exact ih.termL d _ k1 _ _ h hj
        · cases h
          rw [if_neg (by assumption)]
    · intro d k x j h hj
      have hk : k + 1 ≤ j := by
        have := (allZs M L (f + 1)).unitP d k x j h
        have := szE_pos x
        omega
      rw [Proofs.YtndgglhppoijnaaGreatDoor.unitP] at h ⊢
      rw [hM k (by omega)]
      split at h
      · cases h
        rw [if_pos (by assumption)]
      · rw [if_neg (by assumption)]
        split at h
        · rw [if_pos (by assumption)]
          exact ih.namedP _ _ _ _ h hj
        · rw [if_neg (by assumption)]
          split at h
          · rw [if_pos (by assumption)]
            exact ih.wordedP _ _ _ _ h hj
          · rw [if_neg (by assumption)]
            exact ih.brackP _ _ _ _ h hj
    · intro d k x j h hj
      rw [Proofs.YtndgglhppoijnaaGreatDoor.namedP] at h ⊢
      have hk : k + 1 ≤ j := by
        split at h
        · obtain ⟨l, k1, e1, h⟩ := bind_eq.1 h
          cases h
          have := ge.argsP d (k + 2); rw [e1] at this
          have : k + 2 ≤ j := this
          omega
        · cases h; exact Nat.le_refl _
      rw [fo_peek M M1 J hM hJ (s := [40]) (by simp [goOn]) (by omega), hM k (by omega)]
      split at h
      · obtain ⟨l, k1, e1, h⟩ := bind_eq.1 h
        cases h
        rw [if_pos (by assumption), bind_eq_ok (ih.argsP d (k + 2) _ _ e1 hj)]
      · cases h
        rw [if_neg (by assumption)]
    · intro d k x j h hj
      have hk : k + 1 ≤ j := by
        have := (allZs M L (f + 1)).wordedP d k x j h
        have := szE_pos x
        omega
      rw [Proofs.YtndgglhppoijnaaGreatDoor.wordedP] at h ⊢
      rw [hM k (by omega)]
      split at h
      · cases h
      · rw [if_neg (by assumption)]
        split at h
        · obtain ⟨t, k1, e1, h⟩ := bind_eq.1 h
          cases h
          rw [if_pos (by assumption), bind_eq_ok (fo_type M M1 J hM e1 hj)]
        · rw [if_neg (by assumption)]
          split at h
          · obtain ⟨t, k1, e1, h⟩ := bind_eq.1 h
            cases h
            rw [if_pos (by assumption), bind_eq_ok (ih.brackP d (k + 1) _ _ e1 hj)]
          · cases h
            rw [if_neg (by assumption)]
    · intro d k x j h hj
      rw [Proofs.YtndgglhppoijnaaGreatDoor.brackP] at h ⊢
      obtain ⟨_, j0, e0, h⟩ := bind_eq.1 h
      obtain ⟨a1, j1, e1, h⟩ := bind_eq.1 h
      obtain ⟨_, j2, e2, h⟩ := bind_eq.1 h
      cases h
      have g1 : j0 ≤ j1 := by have := ge.exprP d j0; rw [e1] at this; exact this
      have g2 : j1 ≤ j := by have := ge_must M [41] j1; rw [e2] at this; exact this
      rw [bind_eq_ok (fo_must M M1 J hM e0 (by omega)), bind_eq_ok (ih.exprP d j0 _ _ e1 (by omega)), bind_eq_ok (fo_must M M1 J hM e2 hj)]
    · intro d k x j h hj
      rw [Proofs.YtndgglhppoijnaaGreatDoor.argsP] at h ⊢
      have hk : k + 1 ≤ j := by
        split at h
        · cases h; exact Nat.le_refl _
        · obtain ⟨a1, k1, e1, h⟩ := bind_eq.1 h
          have := zs.exprP d k a1 k1 e1
          have := szE_pos a1
          have g3 : k1 ≤ j := by have := ge.argsL d [a1] k1; rw [h] at this; exact this
          omega
      rw [fo_tk M M1 J hM (by omega)]
      split at h
      · cases h
        rw [if_pos (by assumption)]
      · obtain ⟨a1, k1, e1, h⟩ := bind_eq.1 h
        have g3 : k1 ≤ j := by have := ge.argsL d [a1] k1; rw [h] at this; exact this
        rw [if_neg (by assumption), bind_eq_ok (ih.exprP d k _ _ e1 (by omega))]
        exact ih.argsL d _ k1 _ _ h hj
    · intro d acc k x j h hj
      rw [Proofs.YtndgglhppoijnaaGreatDoor.argsL] at h ⊢
      split at h
      · obtain ⟨a1, k1, e1, h⟩ := bind_eq.1 h
        have g2 : k + 1 ≤ k1 := by have := ge.exprP d (k + 1); rw [e1] at this; exact this
        have g3 : k1 ≤ j := by have := ge.argsL d (acc ++ [a1]) k1; rw [h] at this; exact this
        rw [fo_tk M M1 J hM (by omega), if_pos (by assumption), bind_eq_ok (ih.exprP d (k + 1) _ _ e1 (by omega))]
        exact ih.argsL d _ k1 _ _ h hj
      · obtain ⟨_, k1, e1, h⟩ := bind_eq.1 h
        cases h
        have := (must_ok e1).2
        rw [fo_tk M M1 J hM (by omega), if_neg (by assumption), bind_eq_ok (fo_must M M1 J hM e1 hj)]
end
end Go.Proofs.YtndgglhppoijnaaGreatDoor
/-
  One binder deeper: as under a limit that is less by one.
-/
namespace Go.Proofs.YtndgglhppoijnaaGreatDoor
set_option maxHeartbeats 2000000

section
variable (M : Nat → Mk) (L L' : Lm) (hn : ∀ d : Nat, (L.n ≤ ((d + 1 : Nat) : Int)) = (L'.n ≤ (d : Int)))

structure AllDp (f : Nat) : Prop where
  exprP : ∀ d k, Proofs.YtndgglhppoijnaaGreatDoor.exprP M L f (d + 1) k = Proofs.YtndgglhppoijnaaGreatDoor.exprP M L' f d k
  bindP : ∀ op d k, Proofs.YtndgglhppoijnaaGreatDoor.bindP M L f op (d + 1) k = Proofs.YtndgglhppoijnaaGreatDoor.bindP M L' f op d k
  ifP : ∀ d k, Proofs.YtndgglhppoijnaaGreatDoor.ifP M L f (d + 1) k = Proofs.YtndgglhppoijnaaGreatDoor.ifP M L' f d k
  caseP : ∀ d k, Proofs.YtndgglhppoijnaaGreatDoor.caseP M L f (d + 1) k = Proofs.YtndgglhppoijnaaGreatDoor.caseP M L' f d k
  consP : ∀ d k, Proofs.YtndgglhppoijnaaGreatDoor.consP M L f (d + 1) k = Proofs.YtndgglhppoijnaaGreatDoor.consP M L' f d k
  compP : ∀ d k, Proofs.YtndgglhppoijnaaGreatDoor.compP M L f (d + 1) k = Proofs.YtndgglhppoijnaaGreatDoor.compP M L' f d k
  sumP : ∀ d k, Proofs.YtndgglhppoijnaaGreatDoor.sumP M L f (d + 1) k = Proofs.YtndgglhppoijnaaGreatDoor.sumP M L' f d k
  sumL : ∀ d a k, Proofs.YtndgglhppoijnaaGreatDoor.sumL M L f (d + 1) a k = Proofs.YtndgglhppoijnaaGreatDoor.sumL M L' f d a k
  termP : ∀ d k, Proofs.YtndgglhppoijnaaGreatDoor.termP M L f (d + 1) k = Proofs.YtndgglhppoijnaaGreatDoor.termP M L' f d k
  termL : ∀ d a k, Proofs.YtndgglhppoijnaaGreatDoor.termL M L f (d + 1) a k = Proofs.YtndgglhppoijnaaGreatDoor.termL M L' f d a k
  unitP : ∀ d k, Proofs.YtndgglhppoijnaaGreatDoor.unitP M L f (d + 1) k = Proofs.YtndgglhppoijnaaGreatDoor.unitP M L' f d k
  namedP : ∀ d k, Proofs.YtndgglhppoijnaaGreatDoor.namedP M L f (d + 1) k = Proofs.YtndgglhppoijnaaGreatDoor.namedP M L' f d k
  wordedP : ∀ d k, Proofs.YtndgglhppoijnaaGreatDoor.wordedP M L f (d + 1) k = Proofs.YtndgglhppoijnaaGreatDoor.wordedP M L' f d k
  brackP : ∀ d k, Proofs.YtndgglhppoijnaaGreatDoor.brackP M L f (d + 1) k = Proofs.YtndgglhppoijnaaGreatDoor.brackP M L' f d k
  argsP : ∀ d k, Proofs.YtndgglhppoijnaaGreatDoor.argsP M L f (d + 1) k = Proofs.YtndgglhppoijnaaGreatDoor.argsP M L' f d k
  argsL : ∀ d acc k, Proofs.YtndgglhppoijnaaGreatDoor.argsL M L f (d + 1) acc k = Proofs.YtndgglhppoijnaaGreatDoor.argsL M L' f d acc k

include hn
theorem allDp : ∀ f, AllDp M L L' f := by
  intro f
  induction f with
  | zero =>
    constructor
    · intro d k; rw [Proofs.YtndgglhppoijnaaGreatDoor.exprP, Proofs.YtndgglhppoijnaaGreatDoor.exprP]
    · intro op d k; rw [Proofs.YtndgglhppoijnaaGreatDoor.bindP, Proofs.YtndgglhppoijnaaGreatDoor.bindP]
    · intro d k; rw [Proofs.YtndgglhppoijnaaGreatDoor.ifP, Proofs.YtndgglhppoijnaaGreatDoor.ifP]
    · intro d k; rw [Proofs.YtndgglhppoijnaaGreatDoor.caseP, Proofs.YtndgglhppoijnaaGreatDoor.caseP]
    · intro d k; rw [Proofs.YtndgglhppoijnaaGreatDoor.consP, Proofs.YtndgglhppoijnaaGreatDoor.consP]
    · intro d k; rw [Proofs.YtndgglhppoijnaaGreatDoor.compP, Proofs.YtndgglhppoijnaaGreatDoor.compP]
    · intro d k; rw [Proofs.YtndgglhppoijnaaGreatDoor.sumP, Proofs.YtndgglhppoijnaaGreatDoor.sumP]
    · intro d a k; rw [Proofs.YtndgglhppoijnaaGreatDoor.sumL, Proofs.YtndgglhppoijnaaGreatDoor.sumL]
    · intro d k; rw [Proofs.YtndgglhppoijnaaGreatDoor.termP, Proofs.YtndgglhppoijnaaGreatDoor.termP]
    · intro d a k; rw [Proofs.YtndgglhppoijnaaGreatDoor.termL, Proofs.YtndgglhppoijnaaGreatDoor.termL]
    · intro d k; rw [Proofs.YtndgglhppoijnaaGreatDoor.unitP, Proofs.YtndgglhppoijnaaGreatDoor.unitP]
    · intro d k; rw [Proofs.YtndgglhppoijnaaGreatDoor.namedP, Proofs.YtndgglhppoijnaaGreatDoor.namedP]
    · intro d k; rw [Proofs.YtndgglhppoijnaaGreatDoor.wordedP, Proofs.YtndgglhppoijnaaGreatDoor.wordedP]
    · intro d k; rw [Proofs.YtndgglhppoijnaaGreatDoor.brackP, Proofs.YtndgglhppoijnaaGreatDoor.brackP]
    · intro d k; rw [Proofs.YtndgglhppoijnaaGreatDoor.argsP, Proofs.YtndgglhppoijnaaGreatDoor.argsP]
    · intro d acc k; rw [Proofs.YtndgglhppoijnaaGreatDoor.argsL, Proofs.YtndgglhppoijnaaGreatDoor.argsL]
  | succ f ih =>
    constructor
    · intro d k; rw [Proofs.YtndgglhppoijnaaGreatDoor.exprP, Proofs.YtndgglhppoijnaaGreatDoor.exprP]; simp only [ih.bindP, ih.ifP, ih.caseP, ih.consP]
    · intro op d k; rw [Proofs.YtndgglhppoijnaaGreatDoor.bindP, Proofs.YtndgglhppoijnaaGreatDoor.bindP]; simp only [ih.exprP, hn]
    · intro d k; rw [Proofs.YtndgglhppoijnaaGreatDoor.ifP, Proofs.YtndgglhppoijnaaGreatDoor.ifP]; simp only [ih.exprP]
    · intro d k; rw [Proofs.YtndgglhppoijnaaGreatDoor.caseP, Proofs.YtndgglhppoijnaaGreatDoor.caseP]; simp only [ih.exprP, hn]
    · intro d k; rw [Proofs.YtndgglhppoijnaaGreatDoor.consP, Proofs.YtndgglhppoijnaaGreatDoor.consP]; simp only [ih.compP, ih.consP]
    · intro d k; rw [Proofs.YtndgglhppoijnaaGreatDoor.compP, Proofs.YtndgglhppoijnaaGreatDoor.compP]; simp only [ih.sumP]
    · intro d k; rw [Proofs.YtndgglhppoijnaaGreatDoor.sumP, Proofs.YtndgglhppoijnaaGreatDoor.sumP]; simp only [ih.termP, ih.sumL]
    · intro d a k; rw [Proofs.YtndgglhppoijnaaGreatDoor.sumL, Proofs.YtndgglhppoijnaaGreatDoor.sumL]; simp only [ih.termP, ih.sumL]
    · intro d k; rw [Proofs.YtndgglhppoijnaaGreatDoor.termP, Proofs.YtndgglhppoijnaaGreatDoor.termP]; simp only [ih.unitP, ih.termL]
    · intro d a k; rw [Proofs.YtndgglhppoijnaaGreatDoor.termL, Proofs.YtndgglhppoijnaaGreatDoor.termL]; simp only [ih.unitP, ih.termL]
    · intro d k; rw [Proofs.YtndgglhppoijnaaGreatDoor.unitP, Proofs.YtndgglhppoijnaaGreatDoor.unitP]; simp only [ih.namedP, ih.wordedP, ih.brackP]
    · intro d k; rw [Proofs.YtndgglhppoijnaaGreatDoor.namedP, Proofs.YtndgglhppoijnaaGreatDoor.namedP]; simp only [ih.argsP]
    · intro d k; rw [Proofs.YtndgglhppoijnaaGreatDoor.wordedP, Proofs.YtndgglhppoijnaaGreatDoor.wordedP]; simp only [ih.brackP]
    · intro d k; rw [Proofs.YtndgglhppoijnaaGreatDoor.brackP, Proofs.YtndgglhppoijnaaGreatDoor.brackP]; simp only [ih.exprP]
    · intro d k; rw [Proofs.YtndgglhppoijnaaGreatDoor.argsP, Proofs.YtndgglhppoijnaaGreatDoor.argsP]; simp only [ih.exprP, ih.argsL]
    · intro d acc k; rw [Proofs.YtndgglhppoijnaaGreatDoor.argsL, Proofs.YtndgglhppoijnaaGreatDoor.argsL]; simp only [ih.exprP, ih.argsL]
omit hn in
theorem expr_deeper {f d k : Nat} {e : Ex} {j : Nat} (h : exprP M L f d k = .ok e j) (hl : nE e = 0 ∨ (d : Int) + nE e ≤ L.n - 1) : exprP M L f (d + 1) k = .ok e j := by
  have h1 := (allLR M L ⟨L.f, L.a, L.n - 1⟩ f).exprP d k e j h
  rcases h1 with ⟨_, h2⟩ | ⟨hb, _⟩
  · rw [(allDp M L ⟨L.f, L.a, L.n - 1⟩ (fun d => by simp; omega) f).exprP d k]
    exact h2
  · exact absurd (show Ft ⟨L.f, L.a, L.n - 1⟩ d (nE e) from hl) hb
end
end Go.Proofs.YtndgglhppoijnaaGreatDoor
/-
  LangBracketed, plainly: an expression that was read is read where its marks stand again. No dump.
-/
namespace Go.Proofs.YtndgglhppoijnaaGreatDoor
set_option maxHeartbeats 2000000

theorem MR.same (m : Mk) : MR tt m m := ⟨rfl, rfl, rfl, rfl, trivial⟩
theorem goOn_g1 : ∀ s ∈ goOn, s ∈ g1 := by decide
theorem read_moved {M1 M2 : Nat → Mk} {L : Lm} {f J s d k : Nat} {e : Ex} (h : exprP M1 L f d k = .ok e J) (hag : ∀ i, k ≤ i → i < J → MR tt (M1 i) (M2 (i + s))) (hJ1 : Fol g1 (M1 J)) (hJ2 : Fol g1 (M2 (J + s))) :
    ∃ e', ExR tt e e' ∧ exprP M2 L f d (k + s) = .ok e' (J + s) := by
  have h1 : exprP (fun i => if i < J then M1 i else M2 (i + s)) L f d k = .ok e J := by
    refine (allFo M1 (fun i => if i < J then M1 i else M2 (i + s)) L J (fun i hi => if_pos hi) (fun t ht => ?_) f).exprP d k e J h (Nat.le_refl _)
    have a : tk M1 t J = false := hJ1.tk (goOn_g1 t ht)
    have b : tk (fun i => if i < J then M1 i else M2 (i + s)) t J = false := by
      unfold tk
      have e : (if J < J then M1 J else M2 (J + s)) = M2 (J + s) := if_neg (Nat.lt_irrefl J)
      show ((if J < J then M1 J else M2 (J + s)).text == t) = false
      rw [e]
      have := hJ2 t (goOn_g1 t ht)
      simpa using this
    rw [a, b]
  have h2 := (allSR (ρ := tt) (K := fun i => i ≤ J) (k0 := k) (s := s) (fun i => if i < J then M1 i else M2 (i + s)) M2 L (fun i j _ h1 h2 => Nat.le_trans h1 h2) (fun i hi hk => by
    show MR tt (if i < J then M1 i else M2 (i + s)) _
    by_cases hlt : i < J
    · rw [if_pos hlt]; exact hag i hi hlt
    · rw [if_neg hlt]; exact MR.same _) f).exprP d k (Nat.le_refl _)
  rw [h1] at h2
  obtain ⟨b, e1, e2⟩ := h2 (Nat.le_refl J)
  exact ⟨b, e2, e1⟩
/-- .. one binder deeper, too. -/
theorem read_moved1 {M1 M2 : Nat → Mk} {L : Lm} {f J s k : Nat} {e : Ex} (h : exprP M1 L f 0 k = .ok e J) (hn : (nE e : Int) ≤ L.n - 1) (hag : ∀ i, k ≤ i → i < J → MR tt (M1 i) (M2 (i + s))) (hJ1 : Fol g1 (M1 J)) (hJ2 : Fol g1 (M2 (J + s))) :
    ∃ e', ExR tt e e' ∧ exprP M2 L f 1 (k + s) = .ok e' (J + s) :=
  read_moved (expr_deeper M1 L h (.inr (by simpa using hn))) hag hJ1 hJ2
theorem prog_len5 (M : Nat → Mk) (L : Lm) : ∀ f acc k gs j, progL M L f acc k = .ok gs j → acc.length + 1 ≤ gs.length := by
  intro f
  induction f with
  | zero => intro acc k gs j h; cases h
  | succ f ih =>
    intro acc k gs j h
    rw [progL] at h
    obtain ⟨g, k1, h1, h2⟩ := bind_eq.1 h
    split at h2
    · cases h2
      simp
    · have := ih _ _ _ _ h2
      simp at this
      omega
/-- A program of one definition f():N=..;, taken apart. -/
theorem prog_one {M : Nat → Mk} {L : Lm} {f : Nat} {g : Fn1} {j : Nat} (h : progL M L f [] 0 = .ok [g] j) : ∃ f' k1 k2 k3 k4 k5 J ps t, nameP M 0 = .ok (M 0) k1 ∧ paramsP M L f' k1 = .ok ps k2 ∧ mustP M [58] k2 = .ok () k3 ∧ typeP M k3 = .ok t k4 ∧ mustP M [61] k4 = .ok () k5 ∧
    exprP M L f' 0 k5 = .ok g.body J ∧ mustP M [59] J = .ok () (J + 1) ∧ (M (J + 1)).kind = 4 := by
  cases f with
  | zero => cases h
  | succ f =>
    rw [progL] at h
    obtain ⟨g0, k, h1, h2⟩ := bind_eq.1 h
    have hk4 : (M k).kind = 4 ∧ g0 = g := by
      split at h2
      · rename_i h4
        cases h2
        exact ⟨h4, rfl⟩
      · exfalso
        have hl := prog_len5 M L f _ _ _ _ h2
        simp at hl
    obtain ⟨h4, rfl⟩ := hk4
    unfold defP at h1
    obtain ⟨x, k1, e1, h1⟩ := bind_eq.1 h1
    obtain ⟨ps, k2, e2, h1⟩ := bind_eq.1 h1
    obtain ⟨_, k3, e3, h1⟩ := bind_eq.1 h1
    obtain ⟨t, k4, e4, h1⟩ := bind_eq.1 h1
    obtain ⟨_, k5, e5, h1⟩ := bind_eq.1 h1
    obtain ⟨b, J, e6, h1⟩ := bind_eq.1 h1
    obtain ⟨_, k7, e7, h1⟩ := bind_eq.1 h1
    cases h1
    have e8 := (must_ok e7).2
    subst e8
    have e9 := (nameOf_ok e1).1
    have e10 : x = M 0 := by
      unfold nameP at e9
      split at e9
      · cases e9; rfl
      · cases e9
    subst e10
    exact ⟨f, k1, k2, k3, k4, k5, J, ps, t, e9, e2, e3, e4, e5, e6, e7, h4⟩
end Go.Proofs.YtndgglhppoijnaaGreatDoor
/-
  LangBracketed, plainly: the marks of a text with an expression's text in the midst. No dump.
-/
namespace Go.Proofs.YtndgglhppoijnaaGreatDoor
set_option maxHeartbeats 2000000

section
variable (N : Num)
def f6M : List Mk := [⟨0, [102], 0, 0, 0⟩, ⟨3, [40], 0, 0, 1⟩, ⟨3, [41], 0, 0, 2⟩, ⟨3, [58], 0, 0, 3⟩, ⟨1, [78], 0, 0, 4⟩, ⟨3, [61], 0, 0, 5⟩]
def f5M : List Mk := [⟨0, [102], 0, 0, 0⟩, ⟨3, [40], 0, 0, 1⟩, ⟨3, [41], 0, 0, 2⟩, ⟨3, [58], 0, 0, 3⟩, ⟨1, [78], 0, 0, 4⟩]
theorem f5_cut (X : List UInt8) : cut N (102 :: 40 :: 41 :: 58 :: 78 :: 61 :: X) 0 = (cut N (61 :: X) 5).pre f5M := by
  rw [show cut N (102 :: 40 :: 41 :: 58 :: 78 :: 61 :: X) 0 = (cut N (40 :: 41 :: 58 :: 78 :: 61 :: X) 1).pre [⟨0, [102], 0, 0, 0⟩] from cut_mark N (show stp N (102 :: 40 :: 41 :: 58 :: 78 :: 61 :: X) 0 = .mark ⟨0, [102], 0, 0, 0⟩ from rfl),
    show cut N (40 :: 41 :: 58 :: 78 :: 61 :: X) 1 = (cut N (41 :: 58 :: 78 :: 61 :: X) 2).pre [⟨3, [40], 0, 0, 1⟩] from cut_mark N (show stp N (40 :: 41 :: 58 :: 78 :: 61 :: X) 1 = .mark ⟨3, [40], 0, 0, 1⟩ from rfl),
    show cut N (41 :: 58 :: 78 :: 61 :: X) 2 = (cut N (58 :: 78 :: 61 :: X) 3).pre [⟨3, [41], 0, 0, 2⟩] from cut_mark N (show stp N (41 :: 58 :: 78 :: 61 :: X) 2 = .mark ⟨3, [41], 0, 0, 2⟩ from rfl),
    show cut N (58 :: 78 :: 61 :: X) 3 = (cut N (78 :: 61 :: X) 4).pre [⟨3, [58], 0, 0, 3⟩] from cut_mark N (show stp N (58 :: 78 :: 61 :: X) 3 = .mark ⟨3, [58], 0, 0, 3⟩ from rfl),
    show cut N (78 :: 61 :: X) 4 = (cut N (61 :: X) 5).pre [⟨1, [78], 0, 0, 4⟩] from cut_mark N (show stp N (78 :: 61 :: X) 4 = .mark ⟨1, [78], 0, 0, 4⟩ from rfl)]
  cases cut N (61 :: X) 5 <;> rfl
theorem f6_cut (X : List UInt8) (h : X.head? ≠ some 61) : cut N (102 :: 40 :: 41 :: 58 :: 78 :: 61 :: X) 0 = (cut N X 6).pre f6M := by
  have hs : stp N (61 :: X) 5 = .mark ⟨3, [61], 0, 0, 5⟩ := by
    cases X with
    | nil => rfl
    | cons c X =>
      have hc : c ≠ 61 := fun e => h (by rw [e]; rfl)
      simp [stp, isBl, oneM, inRn, signM, signL, hc, isLt, isDg, signsL]
  rw [f5_cut, show cut N (61 :: X) 5 = (cut N X 6).pre [⟨3, [61], 0, 0, 5⟩] from cut_mark N hs]
  cases cut N X 6 <;> rfl
theorem f6_eq (X : List UInt8) : cut N (102 :: 40 :: 41 :: 58 :: 78 :: 61 :: 61 :: X) 0 = (cut N X 7).pre (f5M ++ [⟨3, [61, 61], 0, 0, 5⟩]) := by
  rw [f5_cut, show cut N (61 :: 61 :: X) 5 = (cut N X 7).pre [⟨3, [61, 61], 0, 0, 5⟩] from cut_mark N (show stp N (61 :: 61 :: X) 5 = .mark ⟨3, [61, 61], 0, 0, 5⟩ from rfl)]
  cases cut N X 7 <;> rfl
theorem cut_mid {A B E : List UInt8} {AM BM ms0 : List Mk} {a : Nat} (hA : cut N (A ++ (E ++ 10 :: B)) 0 = (cut N (E ++ 10 :: B) a).pre AM) (hE : cut N E 0 = .ok ms0) (hB : cut N B (a + E.length + 1) = .ok BM) :
    cut N (A ++ (E ++ 10 :: B)) 0 = .ok (AM ++ (ms0.dropLast.map (·.mv a) ++ BM)) := by
  have h1 : cut N E a = .ok (ms0.map (·.mv a)) := by
    have := cut_mv N a E 0
    rw [hE, Nat.zero_add] at this
    exact this
  rw [hA, cut_join, h1, hB]
  show Cu.ok (AM ++ ((ms0.map (·.mv a)).dropLast ++ BM)) = _
  rw [List.map_dropLast]
end
/-- Of a program f():N=..; that was read. -/
theorem head_one {M : Nat → Mk} {L : Lm} {f : Nat} {g : Fn1} {j : Nat} (h : progL M L f [] 0 = .ok [g] j) (hh : Ag M 0 [nmT [102], sgT [40], sgT [41], sgT [58], kwT (letT 1)]) :
    ∃ f' J, tk M [61] 5 = true ∧ exprP M L f' 0 6 = .ok g.body J ∧ tk M [59] J = true ∧ (M (J + 1)).kind = 4 := by
  obtain ⟨m0, m1, m2, m3, m4, _⟩ := hh
  obtain ⟨f', k1, k2, k3, k4, k5, J, ps, t, e0, e1, e2, e3, e4, e5, e6, e7⟩ := prog_one h
  rw [name_of m0] at e0
  cases e0
  have e1' : paramsP M L f' 1 = .ok [] 3 := by
    unfold paramsP
    rw [bind_ok5 (mr_must (s := [40]) m1 rfl), if_pos (by rw [mr_tk m2]; rfl)]
  have e1'' := e1'.symm.trans e1
  cases e1''
  have := (must_ok e2).2
  subst this
  have e3' := (type_of m4 (.inl rfl)).symm.trans e3
  cases e3'
  obtain ⟨h5, rfl⟩ := must_ok e4
  exact ⟨f', J, h5, e5, (must_ok e6).1, e7⟩
theorem mf_back {A I B : List Mk} (t : Nat) : mf (A ++ (I ++ B)) (A.length + I.length + t) = mf B t := by
  unfold mf
  rw [List.getD_eq_getElem?_getD, List.getD_eq_getElem?_getD, List.getElem?_append_right (by omega), List.getElem?_append_right (by omega), show A.length + I.length + t - A.length - I.length = t by omega]
theorem mf_mid {A I B : List Mk} {t : Nat} (h : t < I.length) : mf (A ++ (I ++ B)) (A.length + t) = mf I t := by
  unfold mf
  rw [List.getD_eq_getElem?_getD, List.getD_eq_getElem?_getD, List.getElem?_append_right (by omega), List.getElem?_append_left (by omega), show A.length + t - A.length = t by omega]
theorem mf_mv {I : List Mk} {t a b : Nat} (h : t < I.length) : MR tt (mf (I.map (·.mv a)) t) (mf (I.map (·.mv b)) t) := by
  unfold mf
  rw [List.getD_eq_getElem?_getD, List.getD_eq_getElem?_getD, List.getElem?_map, List.getElem?_map, List.getElem?_eq_getElem h]
  exact ⟨rfl, rfl, rfl, rfl, trivial⟩
theorem first_read {N : Num} {E : List UInt8} {ms1 : List Mk} {L : Lm} {f : Nat} {g : Fn1} {j : Nat} (hc : cut N (102 :: 40 :: 41 :: 58 :: 78 :: 61 :: (E ++ 10 :: [59])) 0 = .ok ms1) (hp : progL (mf ms1) L f [] 0 = .ok [g] j) :
    ∃ ms0 f' b, cut N E 0 = .ok ms0 ∧ ms1 = f6M ++ (ms0.dropLast.map (·.mv 6) ++ [⟨3, [59], 0, 0, b⟩, endM (b + 1)]) ∧ exprP (mf ms1) L f' 0 6 = .ok g.body (6 + ms0.dropLast.length) := by
  by_cases hd : (E ++ 10 :: [59]).head? = some 61
  · exfalso
    obtain ⟨Y, hY⟩ : ∃ Y, E ++ 10 :: [59] = 61 :: Y := by
      cases hE : E ++ 10 :: [59] with
      | nil => rw [hE] at hd; cases hd
      | cons c Y => rw [hE] at hd; cases hd; exact ⟨Y, rfl⟩
    rw [hY, f6_eq] at hc
    cases hcy : cut N Y 7 with
    | bad k => rw [hcy] at hc; cases hc
    | ok ms =>
      rw [hcy] at hc
      have e : ms1 = f5M ++ [⟨3, [61, 61], 0, 0, 5⟩] ++ ms := by cases hc; rfl
      subst e
      obtain ⟨f', J, h5, _⟩ := head_one hp ⟨⟨rfl, rfl, rfl, rfl, trivial⟩, ⟨rfl, rfl, rfl, rfl, trivial⟩, ⟨rfl, rfl, rfl, rfl, trivial⟩, ⟨rfl, rfl, rfl, rfl, trivial⟩, ⟨rfl, rfl, rfl, rfl, trivial⟩, trivial⟩
      have : tk (mf (f5M ++ [⟨3, [61, 61], 0, 0, 5⟩] ++ ms)) [61] 5 = false := rfl
      rw [h5] at this
      cases this
  · have hrow := cut_row N _ _ _ hc
    rw [f6_cut N _ hd, cut_join] at hc
    have hmv := cut_mv N 6 E 0
    rw [Nat.zero_add] at hmv
    cases hE : cut N E 0 with
    | bad k => rw [hmv, hE] at hc; cases hc
    | ok ms0 =>
      have hb : cut N [59] (6 + E.length + 1) = .ok [⟨3, [59], 0, 0, 6 + E.length + 1⟩, endM (6 + E.length + 1 + 1)] := rfl
      rw [hmv, hE, hb] at hc
      have e : ms1 = f6M ++ (ms0.dropLast.map (·.mv 6) ++ [⟨3, [59], 0, 0, 6 + E.length + 1⟩, endM (6 + E.length + 1 + 1)]) := by
        rw [List.map_dropLast]
        cases hc
        rfl
      have hag : Ag (mf ms1) 0 [nmT [102], sgT [40], sgT [41], sgT [58], kwT (letT 1)] := by
        rw [e]
        exact ⟨⟨rfl, rfl, rfl, rfl, trivial⟩, ⟨rfl, rfl, rfl, rfl, trivial⟩, ⟨rfl, rfl, rfl, rfl, trivial⟩, ⟨rfl, rfl, rfl, rfl, trivial⟩, ⟨rfl, rfl, rfl, rfl, trivial⟩, trivial⟩
      obtain ⟨f', J, h5, h6, h7, h8⟩ := head_one hp hag
      obtain ⟨init, hi, hall⟩ := hrow.ex
      have hlen : init.length = 6 + ms0.dropLast.length + 1 := by
        have h1 := congrArg List.length hi
        have h2 := congrArg List.length e
        rw [List.length_append] at h1 h2
        simp [f6M] at h1 h2
        simp
        omega
      have hJ : J = 6 + ms0.dropLast.length := by
        have a1 : init.length ≤ J + 1 := by
          rcases Nat.lt_or_ge (J + 1) init.length with h9 | h9
          · exfalso
            have : mf ms1 (J + 1) = init[J + 1] := by
              unfold mf
              rw [hi, List.getD_eq_getElem?_getD, List.getElem?_append_left h9, List.getElem?_eq_getElem h9]
              rfl
            rw [this] at h8
            exact (hall _ (List.getElem_mem h9)).1 h8
          · exact h9
        have a2 : J < init.length := by
          rcases Nat.lt_or_ge J init.length with h9 | h9
          · exact h9
          · exfalso
            have : (mf ms1 J).text = [] := by
              unfold mf
              rw [hi, List.getD_eq_getElem?_getD, List.getElem?_append_right h9]
              cases hk : J - init.length with
              | zero => rfl
              | succ k => rfl
            unfold tk at h7
            rw [this] at h7
            cases h7
        omega
      subst hJ
      exact ⟨ms0, f', _, rfl, e, h6⟩
/-- The expression is read again where it stands between other marks. -/
theorem mid_read {I AM BM : List Mk} {L : Lm} {f a b d : Nat} {e : Ex} (h : exprP (mf (f6M ++ (I.map (·.mv 6) ++ [⟨3, [59], 0, 0, b⟩, endM (b + 1)]))) L f d 6 = .ok e (6 + I.length)) (ha : 6 ≤ AM.length) (hb : Fol g1 (mf BM 0)) :
    ∃ e', ExR tt e e' ∧ Ev fun f => exprP (mf (AM ++ (I.map (·.mv a) ++ BM))) L f d AM.length = .ok e' (AM.length + I.length) := by
  have hl : ∀ n, (I.map (·.mv n)).length = I.length := fun n => List.length_map ..
  obtain ⟨e', h1, h2⟩ := read_moved (M2 := mf (AM ++ (I.map (·.mv a) ++ BM))) (s := AM.length - 6) h (fun i hi hj => by
      obtain ⟨t, rfl⟩ : ∃ t, i = 6 + t := ⟨i - 6, by omega⟩
      have ht : t < I.length := by omega
      have e1 := mf_mid (A := f6M) (I := I.map (·.mv 6)) (B := [⟨3, [59], 0, 0, b⟩, endM (b + 1)]) (t := t) (by rw [hl]; exact ht)
      have e2 := mf_mid (A := AM) (I := I.map (·.mv a)) (B := BM) (t := t) (by rw [hl]; exact ht)
      rw [show 6 + t + (AM.length - 6) = AM.length + t by omega, e2]
      rw [show f6M.length = 6 from rfl] at e1
      rw [e1]
      exact mf_mv ht) (by
      have e1 := mf_back (A := f6M) (I := I.map (·.mv 6)) (B := [⟨3, [59], 0, 0, b⟩, endM (b + 1)]) 0
      rw [hl, show f6M.length = 6 from rfl, Nat.add_zero (6 + I.length)] at e1
      rw [e1]
      unfold Fol
      show ∀ s ∈ g1, ([59] : List UInt8) ≠ s
      decide) (by
      have e1 := mf_back (A := AM) (I := I.map (·.mv a)) (B := BM) 0
      rw [hl, Nat.add_zero (AM.length + I.length)] at e1
      rw [show 6 + I.length + (AM.length - 6) = AM.length + I.length by omega, e1]
      exact hb)
  rw [show 6 + (AM.length - 6) = AM.length by omega, show 6 + I.length + (AM.length - 6) = AM.length + I.length by omega] at h2
  exact ⟨e', h1, ev_of (F := fun f => exprP _ L f d AM.length) (fun f => (allLe _ L f).exprP d AM.length) h2⟩
end Go.Proofs.YtndgglhppoijnaaGreatDoor
/-
  LangBracketed, plainly: the eight ways around an expression that was read. No dump.
-/
namespace Go.Proofs.YtndgglhppoijnaaGreatDoor
set_option maxHeartbeats 2000000

def ahT : Nat → List Mk
  | 0 => [sgT [40]]
  | 1 => [sgT [40], sgT [40]]
  | 2 => [nuT 1 0, sgT [43], sgT [40]]
  | 3 => [nmT [103], sgT [40], nuT 1 0, sgT [44], sgT [40]]
  | 4 => [kwT (wordT 14), sgT [40], sgT [40]]
  | 5 => [kwT tLet, nmT [120], kwT (letT 1), sgT [61], sgT [40]]
  | 6 => [kwT tCase, sgT [40]]
  | _ => [kwT tIf, kwT (wordT 2), kwT tThen, sgT [40]]
def bkT : Nat → List Mk
  | 0 => [sgT [41]]
  | 1 => [sgT [41], sgT [41]]
  | 2 => [sgT [41]]
  | 3 => [sgT [41], sgT [41]]
  | 4 => [sgT [41], sgT [41]]
  | 5 => [sgT [41], kwT tIn, nuT 1 0]
  | 6 => [sgT [41], kwT tOf, kwT tNil, sgT tArr, nuT 1 0, sgT [124], nmT [104], sgT [58], nmT [116], sgT tArr, nuT 2 0]
  | _ => [sgT [41], kwT tElse, nuT 1 0]
/-- How deep it stands there. -/
def dpT : Nat → Nat
  | 5 => 1
  | 6 => 1
  | _ => 0
/-- Which part it is there. -/
def ptN : Nat → Nat
  | 2 => 1
  | 3 => 1
  | 7 => 1
  | _ => 0
def Part (i : Nat) (x e : Ex) : Prop := if i < 2 then x = e else ∃ op a b t p q xs k, x = .mk op a b t p q xs k ∧ xs[ptN i]? = some e
theorem odd1 : Odd (nuT 1 0).text := by
  have : (nuT 1 0).text = [49] := by simp [nuT, txt, Lib.itoa, Lib.decDigits]
  rw [this]
  unfold Odd
  decide
theorem odd2 : Odd (nuT 2 0).text := by
  have : (nuT 2 0).text = [50] := by simp [nuT, txt, Lib.itoa, Lib.decDigits]
  rw [this]
  unfold Odd
  decide
theorem ways {M : Nat → Mk} {L : Lm} {e : Ex} {J : Nat} (hd : (0 : Int) < L.n) : ∀ i, i < 8 → Ag M 6 (ahT i) → (Ev fun f => exprP M L f (dpT i) (6 + (ahT i).length) = .ok e J) → Ag M J (bkT i) → Fol g1 (M (J + (bkT i).length)) →
    ∃ x, (Ev fun f => exprP M L f 0 6 = .ok x (J + (bkT i).length)) ∧ Part i x e
  | 0, _, ⟨a0, _⟩, hx, ⟨b0, _⟩, hf => ⟨e, way0 a0 hx b0 hf, rfl⟩
  | 1, _, ⟨a0, a1, _⟩, hx, ⟨b0, b1, _⟩, hf => ⟨e, way0 a0 (way0 a1 hx b0 (mr_fol b1 (by unfold Fol; decide))) b1 hf, rfl⟩
  | 2, _, ⟨a0, a1, a2, _⟩, hx, ⟨b0, _⟩, hf => by
    obtain ⟨a, k, h⟩ := way2 a0 a1 a2 hx b0 hf
    exact ⟨_, h, ⟨_, _, _, _, _, _, _, _, rfl, rfl⟩⟩
  | 3, _, ⟨a0, a1, a2, a3, a4, _⟩, hx, ⟨b0, b1, _⟩, hf => by
    obtain ⟨a, k, h⟩ := way3 a0 (by unfold Odd; decide) a1 a2 rfl odd1 a3 a4 hx b0 b1 hf
    exact ⟨_, h, ⟨_, _, _, _, _, _, _, _, rfl, rfl⟩⟩
  | 4, _, ⟨a0, a1, a2, _⟩, hx, ⟨b0, b1, _⟩, hf => by
    obtain ⟨k, h⟩ := way4 a0 a1 a2 hx b0 b1 hf
    exact ⟨_, h, ⟨_, _, _, _, _, _, _, _, rfl, rfl⟩⟩
  | 5, _, ⟨a0, a1, a2, a3, a4, _⟩, hx, ⟨b0, b1, b2, _⟩, hf => by
    obtain ⟨b, k, h⟩ := way5 a0 a1 a2 a3 a4 hd hx b0 b1 b2 rfl odd1 hf
    exact ⟨_, h, ⟨_, _, _, _, _, _, _, _, rfl, rfl⟩⟩
  | 6, _, ⟨a0, a1, _⟩, hx, ⟨b0, b1, b2, b3, b4, b5, b6, b7, b8, b9, b10, _⟩, hf => by
    obtain ⟨b, c, k, h⟩ := way6 a0 a1 hd hx b0 b1 b2 b3 b4 rfl odd1 b5 b6 b7 b8 b9 b10 rfl odd2 hf
    exact ⟨_, h, ⟨_, _, _, _, _, _, _, _, rfl, rfl⟩⟩
  | 7, _, ⟨a0, a1, a2, a3, _⟩, hx, ⟨b0, b1, b2, _⟩, hf => by
    obtain ⟨a, b, k, h⟩ := way7 a0 a1 a2 a3 hx b0 b1 b2 rfl odd1 hf
    exact ⟨_, h, ⟨_, _, _, _, _, _, _, _, rfl, rfl⟩⟩
end Go.Proofs.YtndgglhppoijnaaGreatDoor
/-
  LangBracketed, plainly. No dump.
-/
namespace Go.Proofs.YtndgglhppoijnaaGreatDoor
set_option maxHeartbeats 2000000

def h6T : List Mk := [nmT [102], sgT [40], sgT [41], sgT [58], kwT (letT 1), sgT [61]]
theorem bk_head : ∀ i, ∃ T, bkT i = sgT [41] :: T
  | 0 => ⟨_, rfl⟩
  | 1 => ⟨_, rfl⟩
  | 2 => ⟨_, rfl⟩
  | 3 => ⟨_, rfl⟩
  | 4 => ⟨_, rfl⟩
  | 5 => ⟨_, rfl⟩
  | 6 => ⟨_, rfl⟩
  | _ + 7 => ⟨_, rfl⟩
theorem dp_two : ∀ i, dpT i = 0 ∨ dpT i = 1
  | 5 => .inr rfl
  | 6 => .inr rfl
  | 0 => .inl rfl
  | 1 => .inl rfl
  | 2 => .inl rfl
  | 3 => .inl rfl
  | 4 => .inl rfl
  | _ + 7 => .inl rfl
theorem bracketed {N : Num} {E : List UInt8} {ms1 : List Mk} {L : Lm} {f : Nat} {g : Fn1} {j : Nat} (hc : cut N (102 :: 40 :: 41 :: 58 :: 78 :: 61 :: (E ++ 10 :: [59])) 0 = .ok ms1) (hp : progL (mf ms1) L f [] 0 = .ok [g] j) (hm : (ms1.length : Int) ≤ L.n) (hf0 : (0 : Int) < L.f)
    {i : Nat} (hi : i < 8) {AB BB : List UInt8} {AM BM : List Mk} {a z : Nat} (hA : cut N (AB ++ (E ++ 10 :: BB)) 0 = (cut N (E ++ 10 :: BB) a).pre AM) (hAM : LiR (MR tt) (h6T ++ ahT i) AM) (hB : cut N BB (a + E.length + 1) = .ok (BM ++ [endM z])) (hBM : LiR (MR tt) (bkT i ++ [sgT [59]]) BM) :
    ∃ ms2 x e' j', cut N (AB ++ (E ++ 10 :: BB)) 0 = .ok ms2 ∧ ExR tt g.body e' ∧ Part i x e' ∧ Ev fun f => progL (mf ms2) L f [] 0 = .ok [⟨[102], [], 1, x, (mf ms2 0).at_⟩] j' := by
  obtain ⟨ms0, f', b, hE, e1, hx⟩ := first_read hc hp
  have hcut := cut_mid N hA hE hB
  have hlen : ms1.length = 6 + ms0.dropLast.length + 2 := by
    rw [e1, List.length_append, List.length_append, List.length_map]
    simp [f6M]
    omega
  have hd : exprP (mf ms1) L f' (dpT i) 6 = .ok g.body (6 + ms0.dropLast.length) := by
    rcases dp_two i with h | h
    · rw [h]; exact hx
    · rw [h]
      refine expr_deeper (mf ms1) L hx (.inr ?_)
      have h1 := (allZs (mf ms1) L f').exprP 0 6
      rw [hx] at h1
      have h2 : szE g.body + 6 ≤ 6 + ms0.dropLast.length := by
        have := h1 _ _ rfl
        omega
      have h3 := nE_le g.body
      simp
      omega
  have hAl : AM.length = 6 + (ahT i).length := by
    have := hAM.length
    rw [List.length_append] at this
    rw [← this]
    rfl
  have hn0 : (0 : Int) < L.n := by omega
  rw [e1] at hd
  obtain ⟨e', h1, h2⟩ := mid_read (AM := AM) (BM := BM ++ [endM z]) (a := a) hd (by omega) (by
    obtain ⟨T, hT⟩ := bk_head i
    rw [hT, List.cons_append] at hBM
    cases hBM with
    | cons k1 k2 =>
      refine mr_fol (t := sgT [41]) k1 ?_
      unfold Fol
      decide)
  have hagA := ag_of [] (ms0.dropLast.map (·.mv a) ++ (BM ++ [endM z])) hAM
  rw [List.nil_append] at hagA
  obtain ⟨p1, p2⟩ := ag_app.1 hagA
  have hagB := ag_of (AM ++ ms0.dropLast.map (·.mv a)) [endM z] hBM
  rw [List.append_assoc, List.length_append, List.length_map] at hagB
  obtain ⟨q1, q2, _⟩ := ag_app.1 hagB
  rw [hAl] at h2 q1 q2
  obtain ⟨x, hx', hpt⟩ := ways hn0 i hi p2 h2 q1 (mr_fol q2 (by unfold Fol; decide))
  have hz := mf_back (A := AM) (I := ms0.dropLast.map (·.mv a)) (B := BM ++ [endM z]) ((bkT i).length + 1)
  have hBl : BM.length = (bkT i).length + 1 := by
    have := hBM.length
    rw [List.length_append] at this
    rw [← this]
    rfl
  have hzz : mf (BM ++ [endM z]) ((bkT i).length + 1) = endM z := by
    unfold mf
    rw [← hBl, List.getD_eq_getElem?_getD, List.getElem?_append_right (Nat.le_refl _), Nat.sub_self]
    rfl
  rw [hzz, List.length_map, hAl] at hz
  have := ev_prog p1 hx' q2 (by rw [Nat.add_assoc, hz]; rfl) hf0
  exact ⟨_, x, e', _, hcut, h1, hpt, this⟩
end Go.Proofs.YtndgglhppoijnaaGreatDoor
