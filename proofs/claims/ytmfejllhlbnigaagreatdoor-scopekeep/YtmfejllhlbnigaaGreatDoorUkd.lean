/-
  3 texts in one: what each proves stands at its head.
-/
import Derived.Test.YtmfejllhlbnigaaGreatDoorUkc
import Derived.Sort.Walk0
import Derived.BigQuiet
import Derived.Test.YtmfejllhlbnigaaGreatDoorUr
/-
  The document's Sorted: names put in one by one.
-/
namespace Go.Proofs.YtmfejllhlbnigaaGreatDoor
open Go.RowKit Go.Maps
set_option maxRecDepth 100000

/-- A name written over one of the call's own names. -/
theorem OwN.set {w : World} {B : Nat} {v : Value} {xs : List (List UInt8)} (h : OwN w B v xs) {j : Nat} (hj : j < xs.length) (s : List UInt8) :
    ∃ g c, v = .slice (some ⟨g, 0, none⟩) xs.length c ∧ B ≤ g ∧ g < w.heap.size ∧ w.frozen? ⟨g, j, none⟩ = false ∧ w.cell? ⟨g, j, none⟩ = some (.string (bs (xs.getD j []))) ∧ OwN (w.setCell ⟨g, j, none⟩ (.string (bs s))) B v (xs.set j s) ∧ Oth g w (w.setCell ⟨g, j, none⟩ (.string (bs s))) := by
  rcases h.2 with ⟨_, h0⟩ | ⟨g, c, cur, rfl, hb, hg, h1, h2, h3, h4⟩
  · omega
  · have hB : Bk w g 9 cur.toList := by unfold Bk; rw [Array.toArray_toList]; exact hg
    have hc := hB.cell j
    have h5 : (cur.toList.take (xs.length * 1))[j]? = some (.string (bs (xs.getD j []))) := by
      rw [h4, List.getElem?_map, List.getElem?_eq_getElem hj, List.getD_eq_getElem?_getD, List.getElem?_eq_getElem hj]
      rfl
    rw [List.getElem?_take_of_lt (by omega)] at h5
    refine ⟨g, c, rfl, hb, hB.lt, hB.frz j, hc.trans h5, ⟨by simp, .inr ⟨g, c, (cur.toList.set j (.string (bs s))).toArray, by rw [List.length_set], hb, hB.set j _, by rw [List.length_set]; exact h1, h2, by simp; omega, ?_⟩⟩, (Oth.refl g w).set j _⟩
    rw [List.length_set, List.toList_toArray, List.take_set, h4, List.map_set]
/-- The row, as a name is put in: what lies ahead of place q, anything there, and what was from q on. -/
def rowq (o : List (List UInt8)) (q : Nat) (h : List UInt8) : List (List UInt8) := o.take q ++ h :: o.drop q
theorem rowq_len (o : List (List UInt8)) (q : Nat) (h : List UInt8) (hq : q ≤ o.length) : (rowq o q h).length = o.length + 1 := by
  unfold rowq
  rw [List.length_append, List.length_cons, List.length_take, List.length_drop]
  omega
theorem rowq_end (o : List (List UInt8)) (s : List UInt8) : o ++ [s] = rowq o o.length s := by unfold rowq; rw [List.take_length, List.drop_length]
theorem rowq_ahead (o : List (List UInt8)) (q j : Nat) (h : List UInt8) (hq : q ≤ o.length) (hj : j < q) : (rowq o q h).getD j [] = o.getD j [] := by
  unfold rowq
  rw [List.getD_eq_getElem?_getD, List.getD_eq_getElem?_getD, List.getElem?_append_left (by rw [List.length_take]; omega), List.getElem?_take_of_lt hj]
theorem rowq_set (o : List (List UInt8)) (q : Nat) (h s : List UInt8) (hq : q ≤ o.length) : (rowq o q h).set q s = rowq o q s := by
  unfold rowq
  have e : (o.take q).length = q := by rw [List.length_take]; omega
  rw [List.set_append_right _ _ (by omega), e, Nat.sub_self, List.set_cons_zero]
theorem rowq_step (o : List (List UInt8)) (q : Nat) (hq : q + 1 ≤ o.length) : rowq o (q + 1) (o.getD q []) = rowq o q (o.getD q []) := by
  unfold rowq
  have h1 : o[q]? = some (o.getD q []) := by rw [List.getD_eq_getElem?_getD, List.getElem?_eq_getElem (by omega)]; rfl
  have h2 : o.drop q = o.getD q [] :: o.drop (q + 1) := by
    rw [List.drop_eq_getElem_cons (by omega : q < o.length)]
    congr 1
    rw [List.getD_eq_getElem?_getD, List.getElem?_eq_getElem (by omega)]
    rfl
  rw [List.take_add_one, h1, h2, List.append_assoc]
  rfl
/-- It is sorted again. -/
theorem rowq_srt {L o : List (List UInt8)} {s : List UInt8} {q : Nat} (h : IsSrt L o) (hq : q ≤ o.length) (h1 : q = 0 ∨ o.getD (q - 1) [] < s) (h2 : ∀ j, q ≤ j → j < o.length → s < o.getD j []) : IsSrt (L ++ [s]) (rowq o q s) := by
  have hd : ∀ x ∈ o.drop q, s < x := fun x hx => by
    obtain ⟨i, hi, rfl⟩ := List.mem_iff_getElem.1 hx
    rw [List.length_drop] at hi
    have := h2 (q + i) (by omega) (by omega)
    rw [List.getD_eq_getElem?_getD, List.getElem?_eq_getElem (by omega)] at this
    rw [List.getElem_drop]
    exact this
  have hsplit : (o.take q ++ o.drop q).Pairwise (· < ·) := by rw [List.take_append_drop]; exact h.1
  obtain ⟨p1, p2, p3⟩ := List.pairwise_append.1 hsplit
  have ht : ∀ x ∈ o.take q, x < s := fun x hx => by
    rcases h1 with h1 | h1
    · subst h1; simp at hx
    · obtain ⟨i, hi, rfl⟩ := List.mem_iff_getElem.1 hx
      rw [List.length_take] at hi
      rw [List.getElem_take]
      have hq1 : q - 1 < o.length := by omega
      rw [List.getD_eq_getElem?_getD, List.getElem?_eq_getElem hq1] at h1
      by_cases e : i = q - 1
      · subst e; exact h1
      · exact List.lt_trans (List.pairwise_iff_getElem.1 h.1 i (q - 1) (by omega) hq1 (by omega)) h1
  refine ⟨?_, fun x => ?_⟩
  · unfold rowq
    refine List.pairwise_append.2 ⟨p1, List.pairwise_cons.2 ⟨hd, p2⟩, fun a ha b hb => ?_⟩
    rcases List.mem_cons.1 hb with rfl | hb
    · exact ht a ha
    · exact p3 a ha b hb
  · unfold rowq
    rw [List.mem_append, List.mem_cons, List.mem_append, List.mem_singleton, ← h.2 x]
    have : x ∈ o ↔ x ∈ o.take q ∨ x ∈ o.drop q := by rw [← List.mem_append, List.take_append_drop]
    rw [this]
    constructor
    · rintro (h | h | h)
      · exact .inl (.inl h)
      · exact .inr h
      · exact .inl (.inr h)
    · rintro ((h | h) | h)
      · exact .inl h
      · exact .inr (.inr h)
      · exact .inr (.inl h)
theorem srt_dup {L o : List (List UInt8)} {s : List UInt8} (h : IsSrt L o) (hs : s ∈ o) : IsSrt (L ++ [s]) o := by
  refine ⟨h.1, fun x => ?_⟩
  rw [List.mem_append, List.mem_singleton, h.2 x]
  constructor
  · exact .inl
  · rintro (k | rfl)
    · exact k
    · exact (h.2 x).1 hs
theorem srt_len {L o : List (List UInt8)} (h : IsSrt L o) : o.length ≤ L.length := by
  have key : ∀ (s t : List (List UInt8)), s.Nodup → (∀ x ∈ s, x ∈ t) → s.length ≤ t.length := by
    intro s
    induction s with
    | nil => exact fun _ _ _ => Nat.zero_le _
    | cons x s ih =>
      intro t hn hs
      have h0 := List.nodup_cons.1 hn
      have h1 := ih (t.erase x) h0.2 fun y hy => (List.mem_erase_of_ne (fun e => by subst e; exact h0.1 hy)).2 (hs y (List.mem_cons_of_mem _ hy))
      have hx := hs x List.mem_cons_self
      rw [List.length_erase_of_mem hx] at h1
      have := List.length_pos_of_mem hx
      simp only [List.length_cons]
      omega
  exact key o L h.nodup fun x hx => (h.2 x).1 hx
theorem str_gtr (a b : List UInt8) : (!(Op.bytesLess (bs a).toList (bs b).toList || (bs a).toList == (bs b).toList)) = decide (b < a) := by
  rw [bs_toList, bs_toList, bytesLess_eq]
  by_cases h : a < b
  · have := List.lt_asymm h
    simp [h, this]
  · by_cases e : a = b
    · subst e; simp [List.lt_irrefl]
    · have : b < a := Decidable.byContradiction fun h' => e (List.le_antisymm h' h)
      simp [h, e, this]
theorem lt_of_not {s t : List UInt8} (h : ¬ s < t) (e : ¬ t = s) : t < s := Decidable.byContradiction fun h' => e (List.le_antisymm h h')

theorem OwN.put {w : World} {B g n c : Nat} {xs : List (List UInt8)} (h : OwN w B (.slice (some ⟨g, 0, none⟩) n c) xs) {j : Nat} (hj : j < xs.length) (s : List UInt8) :
    w.frozen? ⟨g, j, none⟩ = false ∧ w.cell? ⟨g, j, none⟩ = some (.string (bs (xs.getD j []))) ∧ OwN (w.setCell ⟨g, j, none⟩ (.string (bs s))) B (.slice (some ⟨g, 0, none⟩) n c) (xs.set j s) ∧ Below B w (w.setCell ⟨g, j, none⟩ (.string (bs s))) := by
  obtain ⟨g', c', e, h1, h2, h3, h4, h5, h6⟩ := h.set hj s
  cases e
  exact ⟨h3, h4, h5, h6.below h1⟩
theorem OwN.drewN {w : World} {B : Nat} {v : Value} {xs : List (List UInt8)} (h : OwN w B v xs) (q : Nat) : OwN (w.drewN q) B v xs := h.upp (below_drewN (Below.refl _ _) q)

set_option maxHeartbeats 8000000 in
theorem rsorted_any {w : World} {ao : Option Addr} {cap : Nat} {l : List (List UInt8)} (hN : Ns w ao l) (hl : l.length ≤ 1099511627776) :
    Calls Tryz.prog 35 #[.slice ao l.length cap] w fun e w' => (∃ v o, e = .returned v ∧ IsSrt l o ∧ OwN w' w.heap.size v o) ∧ Below w.heap.size w w' := by
  have HN : Hid (Ns w ao l) := hN
  clear hN
  go_enter Tryz.func35, Tryz.ntmps35
  go_wp2_with fail
  go_loopw [3, 4] (fun u v wr => ∃ k : Nat, k ≤ l.length ∧ v = .int .i64 k ∧ (∃ o, Hid (IsSrt (l.take k) o) ∧ OwN wr w.heap.size u o) ∧ Below w.heap.size w wr) (fun _ v _ => l.length - (intOf v).toNat)
  case atStart => exact ⟨0, Nat.zero_le _, rfl, ⟨[], by rw [List.take_zero]; exact ⟨List.Pairwise.nil, fun x => Iff.rfl⟩, World.ownsRow_nil _ _ _ _⟩, Below.refl _ _⟩
  case round =>
    obtain ⟨k, hkn, rfl, ⟨o, hso, hO⟩, hB⟩ := hrel
    have hol := srt_len hso.out
    rw [List.length_take] at hol
    by_cases hlt : k < l.length
    · have hk : l[k]? = some (l[k]) := List.getElem?_eq_getElem hlt
      have htk : l.take (k + 1) = l.take k ++ [l[k]] := by rw [List.take_succ_eq_append_getElem hlt]
      obtain ⟨s, hs⟩ : ∃ s, s = l[k] := ⟨_, rfl⟩
      rw [← hs] at hk htk
      obtain ⟨g, off, rfl, c0⟩ := HN.out k s hk
      have hgw := cell_lt c0
      have c1 : wr.cell? ⟨g, off + k, none⟩ = some (.string (bs s)) := (hB.cell hgw).trans c0
      obtain ⟨ar, cr, rfl, hNr, hcr, har⟩ := hO.names
      have HTK : Hid (l.take (k + 1) = l.take k ++ [s]) := htk
      have HC : Hid (w.cell? ⟨g, off + k, none⟩ = some (.string (bs s))) := c0
      have hh := rhas_any (cap := cr) hNr (by omega) s
      have hBs := hB.size
      clear hk htk hs hcr har c0
      go_wp2_with fail
      refine hh.mono ?_
      rintro e w2 ⟨rfl, rfl⟩
      clear hh hNr
      by_cases hin : s ∈ o
      · rw [decide_eq_true hin]
        have HS : Hid (IsSrt (l.take (k + 1)) o) := by show IsSrt _ _; rw [HTK.out]; exact srt_dup hso.out hin
        clear hin
        go_wp2_with fail
        go_roundw
        case rel => exact ⟨k + 1, by omega, by go_num, ⟨o, HS, hO⟩, hB⟩
        case measure => simp [intOf]; omega
      · rw [decide_eq_false hin]
        have HIN : Hid (s ∉ o) := hin
        clear hin
        have hb5 := below_alloc w2 (.cells #[.string (bs s)] 9)
        obtain ⟨v6, w6, R6, hO6, hb6⟩ := own_names (w2.alloc (.cells #[.string (bs s)] 9)) w.heap.size _ o (hO.upp hb5) (by have := hb5.size; omega) (some ⟨w2.heap.size, 0, none⟩) 1 [s] (ns_one (Bk.new w2 9 #[.string (bs s)])) (fun e => by cases e) (fun e => by cases e) (by simp only [List.length_cons, List.length_nil]; omega)
        have hB6 := (hB.trans (hb5.mono hBs)).trans hb6
        obtain ⟨g6, c6, e6, hg6, _⟩ := OwN.set hO6 (j := o.length) (by simp) s
        rw [show (o ++ [s]).length = o.length + 1 by simp] at e6
        subst e6
        rw [rowq_end] at hO6
        clear hb5 hb6
        go_upto_region 8 with (at_builtin; refine wpList_append_run rfl (.tmp 20) (.tmp 25) 35 rfl rfl _ _ rfl rfl _ _ (show _ = _ from R6) ?_)
        clear R6 hO c1
        have hol1 : o.length < 1099511627777 := by omega
        go_loopw [5] (fun v wr => ∃ (q : Nat) (h : List UInt8), q ≤ o.length ∧ v = .int .i64 q ∧ OwN wr w.heap.size (.slice (some ⟨g6, 0, none⟩) (o.length + 1) c6) (rowq o q h) ∧ Below w.heap.size w wr ∧ Hid (∀ j, q ≤ j → j < o.length → s < o.getD j [])) (fun v _ => (intOf v).toNat)
        case atStart => exact ⟨o.length, s, Nat.le_refl _, rfl, hO6, hB6, fun j h1 h2 => by omega⟩
        case round =>
          obtain ⟨q, h, hq, rfl, hOq, hBq, hgt⟩ := hrel
          have c1 : wr.cell? ⟨g, off + k, none⟩ = some (.string (bs s)) := (hBq.cell hgw).trans HC.out
          have fin : (q = 0 ∨ o.getD (q - 1) [] < s) → Hid (IsSrt (l.take (k + 1)) (rowq o q s)) := fun h1 => by
            show IsSrt _ _
            rw [HTK.out]
            exact rowq_srt hso.out hq h1 hgt.out
          rcases q with _ | p
          · have HF := fin (.inl rfl)
            obtain ⟨f1, f2, _, _⟩ := OwN.put hOq (j := 0) (by rw [rowq_len _ _ _ hq]; omega) s
            have HX : Hid (∀ n, OwN ((wr.drewN n).setCell ⟨g6, 0, none⟩ (.string (bs s))) w.heap.size (.slice (some ⟨g6, 0, none⟩) (o.length + 1) c6) (rowq o 0 s) ∧ Below w.heap.size w ((wr.drewN n).setCell ⟨g6, 0, none⟩ (.string (bs s)))) := fun n => by
              obtain ⟨_, _, f3, f4⟩ := OwN.put (hOq.drewN n) (j := 0) (by rw [rowq_len _ _ _ hq]; omega) s
              rw [rowq_set _ _ _ _ hq] at f3
              exact ⟨f3, (below_drewN hBq n).trans f4⟩
            clear fin
            go_upto_region 8 with fail
            go_quiet (fail)
            go_wp2_with fail
            go_roundw
            case rel => exact ⟨k + 1, by omega, by go_num, ⟨_, HF, (HX.out _).1⟩, (HX.out _).2⟩
            case measure => simp [intOf]; omega
          · have hpl : p < o.length := by omega
            obtain ⟨t, htd⟩ : ∃ t, t = o.getD p [] := ⟨_, rfl⟩
            have c2 : wr.cell? ⟨g6, p, none⟩ = some (.string (bs t)) := by
              have := (OwN.put hOq (j := p) (by rw [rowq_len _ _ _ hq]; omega) s).2.1
              rw [rowq_ahead _ _ _ _ hq (by omega), ← htd] at this
              exact this
            by_cases hts : s < t
            · have g1 : (!(Op.bytesLess (bs t).toList (bs s).toList || (bs t).toList == (bs s).toList)) = true := by rw [str_gtr]; exact decide_eq_true hts
              obtain ⟨f1, f2, _, _⟩ := OwN.put hOq (j := p + 1) (by rw [rowq_len _ _ _ hq]; omega) t
              have HX : Hid (∀ n, OwN ((wr.drewN n).setCell ⟨g6, p + 1, none⟩ (.string (bs t))) w.heap.size (.slice (some ⟨g6, 0, none⟩) (o.length + 1) c6) (rowq o p t) ∧ Below w.heap.size w ((wr.drewN n).setCell ⟨g6, p + 1, none⟩ (.string (bs t)))) := fun n => by
                obtain ⟨_, _, f3, f4⟩ := OwN.put (hOq.drewN n) (j := p + 1) (by rw [rowq_len _ _ _ hq]; omega) t
                rw [rowq_set _ _ _ _ hq, htd, rowq_step _ _ (by omega), ← htd] at f3
                exact ⟨f3, (below_drewN hBq n).trans f4⟩
              have HG : Hid (∀ j, p ≤ j → j < o.length → s < o.getD j []) := fun j h1 h2 => by
                by_cases e : j = p
                · subst e; rw [← htd]; exact hts
                · exact hgt.out j (by omega) h2
              clear fin htd
              go_upto_region 8 with fail
              go_quiet (fail)
              go_wp2_with fail
              go_roundw
              case rel => exact ⟨p, t, by omega, by go_num, (HX.out _).1, (HX.out _).2, HG⟩
              case measure => simp [intOf]
            · have g1 : (!(Op.bytesLess (bs t).toList (bs s).toList || (bs t).toList == (bs s).toList)) = false := by rw [str_gtr]; exact decide_eq_false hts
              have hne : ¬ t = s := fun e => HIN.out (by rw [← e, htd, List.getD_eq_getElem?_getD, List.getElem?_eq_getElem hpl]; exact List.getElem_mem hpl)
              have HF := fin (.inr (by rw [Nat.add_sub_cancel, ← htd]; exact lt_of_not hts hne))
              obtain ⟨f1, f2, _, _⟩ := OwN.put hOq (j := p + 1) (by rw [rowq_len _ _ _ hq]; omega) s
              have HX : Hid (∀ n, OwN ((wr.drewN n).setCell ⟨g6, p + 1, none⟩ (.string (bs s))) w.heap.size (.slice (some ⟨g6, 0, none⟩) (o.length + 1) c6) (rowq o (p + 1) s) ∧ Below w.heap.size w ((wr.drewN n).setCell ⟨g6, p + 1, none⟩ (.string (bs s)))) := fun n => by
                obtain ⟨_, _, f3, f4⟩ := OwN.put (hOq.drewN n) (j := p + 1) (by rw [rowq_len _ _ _ hq]; omega) s
                rw [rowq_set _ _ _ _ hq] at f3
                exact ⟨f3, (below_drewN hBq n).trans f4⟩
              clear fin htd
              go_upto_region 8 with fail
              go_quiet (fail)
              go_wp2_with fail
              go_roundw
              case rel => exact ⟨k + 1, by omega, by go_num, ⟨_, HF, (HX.out _).1⟩, (HX.out _).2⟩
              case measure => simp [intOf]; omega
    · have hke : k = l.length := by omega
      subst hke
      rw [List.take_length] at hso
      have HX : Hid (IsSrt l o ∧ OwN wr w.heap.size u3 o ∧ Below w.heap.size w wr) := ⟨hso.out, hO, hB⟩
      clear hso hO hB
      go_wp2_with fail
      go_ret
      exact ⟨⟨_, _, rfl, HX.out.1, HX.out.2.1⟩, HX.out.2.2⟩
end Go.Proofs.YtmfejllhlbnigaaGreatDoor
/-
  The document's Free and Uses.
-/
namespace Go.Proofs.YtmfejllhlbnigaaGreatDoor
open Go.RowKit Go.Maps
set_option maxRecDepth 100000

/-- The name that stands at an expression. -/
def nmX : Ex → List UInt8 | .mk _ name _ _ _ _ _ _ => name
theorem nmX_cell {w : World} {A : Nat → Prop} {x : Ex} {us : List Value} (h : ExW w A x us) : us[1]? = some (.string (bs (nmX x))) := by
  cases h with
  | mk hl => rfl
/-- The names of the free ones among those that were seen. -/
def fsY (ys : List (Ex × Bool)) : List (List UInt8) := (ys.filter (·.2)).map fun y => nmX y.1
theorem fsY_yes {ys : List (Ex × Bool)} {k : Nat} (hk : k < ys.length) (h : (ys.getD k yd).2 = true) : fsY (ys.take (k + 1)) = fsY (ys.take k) ++ [nmX (ys.getD k yd).1] := by
  unfold fsY
  rw [List.getD_eq_getElem?_getD, List.getElem?_eq_getElem hk] at h ⊢
  rw [List.take_succ_eq_append_getElem hk, List.filter_append, List.map_append]
  simp only [Option.getD_some] at h ⊢
  rw [List.filter_cons, if_pos h]
  rfl
theorem fsY_no {ys : List (Ex × Bool)} {k : Nat} (hk : k < ys.length) (h : (ys.getD k yd).2 = false) : fsY (ys.take (k + 1)) = fsY (ys.take k) := by
  unfold fsY
  rw [List.getD_eq_getElem?_getD, List.getElem?_eq_getElem hk] at h
  rw [List.take_succ_eq_append_getElem hk, List.filter_append, List.map_append]
  simp only [Option.getD_some] at h
  rw [List.filter_cons, if_neg (by rw [h]; decide)]
  simp
theorem fsY_len (ys : List (Ex × Bool)) : (fsY ys).length ≤ ys.length := by
  unfold fsY
  rw [List.length_map]
  exact List.length_filter_le _ _
/-- The document's free names of an expression. -/
def fsE (x : Ex) : List (List UInt8) := fsY (snE [] x)

set_option maxHeartbeats 8000000 in
theorem rfree_any {x : Ex} (hsz : szE x ≤ 65536) (w : World) (A : Nat → Prop) (us : List Value) (hx : ExW w A x us) (hA : ∀ k, A k → k < w.heap.size) :
    Calls Tryz.prog 23 #[.agg us.toArray] w fun e w' => (∃ v o, e = .returned v ∧ IsSrt (fsE x) o ∧ OwN w' w.heap.size v o) ∧ Below w.heap.size w w' := by
  obtain ⟨u0, u1, u2, u3, u4, u5, u6, rfl⟩ := list7 hx.len
  have hb0 := below_alloc w (.cells #[u0, u1, u2, u3, u4, u5, u6] 43)
  have hE0 := Bk.new w 43 #[u0, u1, u2, u3, u4, u5, u6]
  go_enter Tryz.func23, Tryz.ntmps23
  go_upto_region 2 with fail
  obtain ⟨W, hW⟩ : ∃ W, W = w.alloc (.cells #[u0, u1, u2, u3, u4, u5, u6] 43) := ⟨_, rfl⟩
  rw [← hW] at hb0 hE0 ⊢
  clear hW
  have hWs := hE0.lt
  obtain ⟨d0, d1, d2, d3, d4, d5, d6⟩ := Bk.seven (show Bk W w.heap.size 43 [_, _, _, _, _, _, _] from hE0)
  have hs := seen_any 65536 x hsz (Nat.le_refl _) W A [u0, u1, u2, u3, u4, u5, u6] [] none 0 (hx.up hb0) (fun k hk => by have := hA k hk; omega) (Ns.nil _ _) (fun _ => rfl) (by simp only [List.length_nil]; omega)
  go_wp2_with fail
  refine hs.mono ?_
  rintro e w3 ⟨⟨v, rfl, hS⟩, hb3⟩
  have hyl := snE_len [] x
  have HF : Hid (fsE x = fsY (snE [] x)) := rfl
  obtain ⟨ys, hys⟩ : ∃ ys, ys = snE [] x := ⟨_, rfl⟩
  obtain ⟨L, hL⟩ : ∃ L, L = fsE x := ⟨_, rfl⟩
  rw [← hys] at hS hyl HF
  rw [← hL] at HF
  have HLX : Hid (L = fsE x) := hL
  obtain ⟨ao, cap, rfl, hat⟩ := hS.at
  have HAT : Hid _ := hat
  have hB3 := Below.thn hb0 hb3
  have hw3 := hB3.size
  clear hs d0 d1 d2 d3 d4 d5 d6 hS hat hys hL hb3 hE0 hb0
  go_upto_region 4 with fail
  go_loopw [3, 5] (fun u v wr => ∃ k : Nat, k ≤ ys.length ∧ v = .int .i64 k ∧ OwN wr w3.heap.size u (fsY (ys.take k)) ∧ Below w3.heap.size w3 wr) (fun _ v _ => ys.length - (intOf v).toNat)
  case atStart => exact ⟨0, Nat.zero_le _, rfl, World.ownsRow_nil _ _ _ _, Below.refl _ _⟩
  case round =>
    obtain ⟨k, hkn, rfl, hO, hB⟩ := hrel
    have hBs := hB.size
    by_cases hlt : k < ys.length
    · obtain ⟨g, vs, rfl, hv, hfl, hxv⟩ := HAT.out k hlt
      have c7 : wr.cell? ⟨g, k * 8 + 7, none⟩ = some (.bool (ys.getD k yd).2) := (hB.cell (cell_lt hfl)).trans hfl
      have h1 := hv 1 _ (nmX_cell hxv)
      have c1 : wr.cell? ⟨g, k * 8 + 1, none⟩ = some (.string (bs (nmX (ys.getD k yd).1))) := (hB.cell (cell_lt h1)).trans h1
      have HY : Hid ((ys.getD k yd).2 = true → fsY (ys.take (k + 1)) = fsY (ys.take k) ++ [nmX (ys.getD k yd).1]) := fsY_yes hlt
      have HN : Hid ((ys.getD k yd).2 = false → fsY (ys.take (k + 1)) = fsY (ys.take k)) := fsY_no hlt
      have hfl2 := fsY_len (ys.take k)
      rw [List.length_take] at hfl2
      obtain ⟨bb, hbb⟩ : ∃ bb, bb = (ys.getD k yd).2 := ⟨_, rfl⟩
      obtain ⟨s, hs⟩ : ∃ s, s = nmX (ys.getD k yd).1 := ⟨_, rfl⟩
      obtain ⟨l, hl⟩ : ∃ l, l = fsY (ys.take k) := ⟨_, rfl⟩
      rw [← hbb] at c7 HY HN
      rw [← hs] at c1 HY
      rw [← hl] at hO HY HN hfl2
      clear hv hfl h1 hbb hs hl hxv
      cases bb with
      | true =>
        have hb5 := below_alloc wr (.cells #[.string (bs s)] 9)
        obtain ⟨v6, w6, R6, hO6, hb6⟩ := own_names (wr.alloc (.cells #[.string (bs s)] 9)) w3.heap.size _ l (hO.upp hb5) (by have := hb5.size; omega) (some ⟨wr.heap.size, 0, none⟩) 1 [s] (ns_one (Bk.new wr 9 #[.string (bs s)])) (fun e => by cases e) (fun e => by cases e) (by simp only [List.length_cons, List.length_nil]; omega)
        rw [← HY.out rfl] at hO6
        have hB6 := (hB.trans (hb5.mono hBs)).trans hb6
        clear hb5 hb6 hO HY HN
        go_wp2_with (at_builtin; refine wpList_append_run rfl (.tmp 19) (.tmp 26) 35 rfl rfl _ _ rfl rfl _ _ (show _ = _ from R6) ?_)
        go_roundw
        case rel => exact ⟨k + 1, by omega, by go_num, hO6, hB6⟩
        case measure => simp [intOf]; omega
      | false =>
        rw [← HN.out rfl] at hO
        clear HY HN
        go_wp2_with fail
        go_roundw
        case rel => exact ⟨k + 1, by omega, by go_num, hO, hB⟩
        case measure => simp [intOf]; omega
    · have hke : k = ys.length := by omega
      subst hke
      rw [List.take_length, ← HF.out] at hO
      have hLl : L.length ≤ 1099511627776 := by have := fsY_len ys; rw [HF.out]; omega
      obtain ⟨ar, cr, rfl, hNr, hcr, har⟩ := hO.names
      have hso := rsorted_any (cap := cr) hNr hLl
      have hBw := hB3.trans (hB.mono hw3)
      clear hcr har hO
      go_wp2_with fail
      refine hso.mono ?_
      rintro e w7 ⟨⟨v, o, rfl, hI, hN⟩, hB7⟩
      rw [HLX.out] at hI
      have HX : Hid (IsSrt (fsE x) o ∧ OwN w7 w.heap.size v o ∧ Below w.heap.size w w7) := ⟨hI, hN.base hBw.size, hBw.trans (hB7.mono hBw.size)⟩
      clear hso hI hN hB7
      go_wp2_with fail
      go_ret
      exact ⟨⟨_, _, rfl, HX.out.1, HX.out.2.1⟩, HX.out.2.2⟩

end Go.Proofs.YtmfejllhlbnigaaGreatDoor
/-
  The document's Names: within, Names.
-/
namespace Go.Proofs.YtmfejllhlbnigaaGreatDoor
open Go.RowKit Go.Maps
set_option maxRecDepth 100000

/-- The names that stand at an expression itself. -/
def wnO (name tail : List UInt8) : List (List UInt8) := (if name = [] then [] else [name]) ++ (if tail = [] then [] else [tail])
mutual
def wnE : Ex → List (List UInt8)
  | .mk _ name tail _ _ _ xs _ => wnO name tail ++ wnL xs
def wnL : List Ex → List (List UInt8)
  | [] => []
  | x :: xs => wnE x ++ wnL xs
end
theorem wnE_mk (op : Int) (name tail : List UInt8) (ty p q : Int) (xs : List Ex) (i : Nat) : wnE (.mk op name tail ty p q xs i) = wnO name tail ++ wnL xs := by rw [wnE]
theorem wnL_nil : wnL [] = [] := by rw [wnL]
theorem wnL_cons (x : Ex) (xs : List Ex) : wnL (x :: xs) = wnE x ++ wnL xs := by rw [wnL]
theorem wnL_take : ∀ (xs : List Ex) (k : Nat), k < xs.length → wnL (xs.take (k + 1)) = wnL (xs.take k) ++ wnE (xs.getD k ed)
  | [], _, h => by simp at h
  | x :: xs, 0, h => by simp [wnL_cons, wnL_nil]
  | x :: xs, k + 1, h => by
    rw [List.take_succ_cons, wnL_cons, wnL_take xs k (by simpa using h), List.take_succ_cons, wnL_cons, List.getD_cons_succ, List.append_assoc]
theorem wnO_len (name tail : List UInt8) : (wnO name tail).length ≤ 2 := by
  unfold wnO
  split <;> split <;> simp
mutual
theorem wnE_len : ∀ x : Ex, (wnE x).length ≤ 2 * szE x
  | .mk op name tail ty p q xs i => by
    rw [wnE_mk, szE_mk, List.length_append]
    have := wnL_len xs
    have := wnO_len name tail
    omega
theorem wnL_len : ∀ xs : List Ex, (wnL xs).length ≤ 2 * szL xs
  | [] => by rw [wnL_nil, szL_nil]; simp
  | x :: xs => by
    rw [wnL_cons, szL_cons, List.length_append]
    have := wnE_len x
    have := wnL_len xs
    omega
end
/-- Two rows of names: the one behind the other. -/
theorem own_two {w : World} {B C : Nat} {v u : Value} {ys zs : List (List UInt8)} (h : OwN w B v ys) (hB : B ≤ w.heap.size) (hz : OwN w C u zs) (hn : ys.length + zs.length ≤ 8796093022208) :
    ∃ v' w', (Builtin.append_ #[35, 35] 35 #[v, u]).run Tryz.prog w = .ok v' w' ∧ OwN w' B v' (ys ++ zs) ∧ Below B w w' := by
  obtain ⟨ao, cap, rfl, hN, hc, _⟩ := hz.names
  exact own_names w B v ys h hB ao cap zs hN hc (fun e => by subst e; exact hN.none) hn

set_option maxHeartbeats 8000000 in
theorem rwithin_any : ∀ (n : Nat) (x : Ex), szE x ≤ n → n ≤ 65536 → ∀ (w : World) (A : Nat → Prop) (us : List Value), ExW w A x us → (∀ k, A k → k < w.heap.size) →
    Calls Tryz.prog 34 #[.agg us.toArray] w fun e w' => (∃ v, e = .returned v ∧ OwN w' w.heap.size v (wnE x)) ∧ Below w.heap.size w w' := by
  intro n
  induction n with
  | zero => intro x h; have := szE_pos x; omega
  | succ n ih =>
    intro x ht hn w A us hx hA
    have IH : Hid _ := ih
    have HA : Hid (∀ k, A k → k < w.heap.size) := hA
    clear ih hA
    cases hx with
    | mk hl =>
      rename_i op name tail ty p q xs i ao c
      rw [szE_mk] at ht
      have hlen := length_szL xs
      have hb0 := below_alloc w (.cells #[.int .i64 op, .string (bs name), .string (bs tail), .int .i64 ty, .complex .f64 (fl p) (fl q), .slice ao xs.length c, .int .i64 i] 43)
      have hL := Bk.new w 43 #[.int .i64 op, .string (bs name), .string (bs tail), .int .i64 ty, .complex .f64 (fl p) (fl q), .slice ao xs.length c, .int .i64 i]
      have hl0 := hl.up hb0
      have HE : Hid (wnE (.mk op name tail ty p q xs i) = wnO name tail ++ wnL xs) := wnE_mk ..
      obtain ⟨N, hN⟩ : ∃ N, N = wnE (.mk op name tail ty p q xs i) := ⟨_, rfl⟩
      rw [← hN] at HE ⊢
      clear hN
      go_enter Tryz.func34, Tryz.ntmps34
      go_upto_region 1 with fail
      generalize hWe : w.alloc (.cells #[.int .i64 op, .string (bs name), .string (bs tail), .int .i64 ty, .complex .f64 (fl p) (fl q), .slice ao xs.length c, .int .i64 i] 43) = W at *
      clear hWe
      have hWw := hL.lt
      have c1 : W.cell? ⟨w.heap.size, 1, none⟩ = some (.string (bs name)) := hL.cell 1
      have hWl : W.heap.size ≤ W.heap.size := Nat.le_refl _
      obtain ⟨o1, ho1⟩ : ∃ o1 : List (List UInt8), o1 = if name = [] then [] else [name] := ⟨_, rfl⟩
      obtain ⟨o2, ho2⟩ : ∃ o2 : List (List UInt8), o2 = if tail = [] then [] else [tail] := ⟨_, rfl⟩
      have HE2 : Hid (N = (o1 ++ o2) ++ wnL xs) := by rw [HE.out, ho1, ho2]; exact rfl
      have HO1 : Hid (o1 = if name = [] then [] else [name]) := ho1
      have HO2 : Hid (o2 = if tail = [] then [] else [tail]) := ho2
      have hol : o1.length ≤ 1 ∧ o2.length ≤ 1 := by
        constructor
        · rw [ho1]; split <;> simp
        · rw [ho2]; split <;> simp
      clear ho1 ho2 HE
      go_upto_if 8 with fail
      go_cut [3] (fun v wx => OwN wx W.heap.size v o1 ∧ Below W.heap.size W wx)
      case first =>
        by_cases h : name = []
        · have g1 : (!(bs name).toList.isEmpty) = false := by rw [bs_toList, h]; rfl
          rw [g1]
          have HX : Hid (OwN W W.heap.size (.slice none 0 0) o1 ∧ Below W.heap.size W W) := ⟨by rw [HO1.out, if_pos h]; exact World.ownsRow_nil _ _ _ _, Below.refl _ _⟩
          clear h
          go_wp2_with fail
          go_meet
          case rel => exact HX.out
        · have g1 : (!(bs name).toList.isEmpty) = true := by rw [bs_toList]; cases name with | nil => exact absurd rfl h | cons a l => rfl
          rw [g1]
          have hb5 := below_alloc W (.cells #[.string (bs name)] 9)
          obtain ⟨v6, w6, R6, hO6, hb6⟩ := own_names (W.alloc (.cells #[.string (bs name)] 9)) W.heap.size (.slice none 0 0) [] (World.ownsRow_nil _ _ _ _) (by have := hb5.size; omega) (some ⟨W.heap.size, 0, none⟩) 1 [name] (ns_one (Bk.new W 9 #[.string (bs name)])) (fun e => by cases e) (fun e => by cases e) (by simp only [List.length_cons, List.length_nil]; omega)
          have HX : Hid (OwN w6 W.heap.size v6 o1 ∧ Below W.heap.size W w6) := ⟨by rw [HO1.out, if_neg h]; exact hO6, hb5.trans hb6⟩
          clear h hO6 hb6 hb5
          go_wp2_with (at_builtin; refine wpList_append_run rfl (.tmp 9) (.tmp 12) 35 rfl rfl _ _ rfl rfl _ _ (show _ = _ from R6) ?_)
          go_meet
          case rel => exact HX.out
      case rest =>
        obtain ⟨hOc, hBc⟩ := hcut
        have hLc := hL.up hBc
        have c2 : wc.cell? ⟨w.heap.size, 2, none⟩ = some (.string (bs tail)) := hLc.cell 2
        have hWc := hBc.size
        clear c1
        go_upto_if 16 with fail
        go_cut [3] (fun v wx => OwN wx W.heap.size v (o1 ++ o2) ∧ Below W.heap.size W wx)
        case first =>
          by_cases h : tail = []
          · have g1 : (!(bs tail).toList.isEmpty) = false := by rw [bs_toList, h]; rfl
            rw [g1]
            have HX : Hid (OwN wc W.heap.size _ (o1 ++ o2) ∧ Below W.heap.size W wc) := ⟨by rw [HO2.out, if_pos h, List.append_nil]; exact hOc, hBc⟩
            clear h hOc hBc
            go_wp2_with fail
            go_meet
            case rel => exact HX.out
          · have g1 : (!(bs tail).toList.isEmpty) = true := by rw [bs_toList]; cases tail with | nil => exact absurd rfl h | cons a l => rfl
            rw [g1]
            have hb5 := below_alloc wc (.cells #[.string (bs tail)] 9)
            obtain ⟨v6, w6, R6, hO6, hb6⟩ := own_names (wc.alloc (.cells #[.string (bs tail)] 9)) W.heap.size _ o1 (hOc.upp hb5) (by have := hb5.size; omega) (some ⟨wc.heap.size, 0, none⟩) 1 [tail] (ns_one (Bk.new wc 9 #[.string (bs tail)])) (fun e => by cases e) (fun e => by cases e) (by simp only [List.length_cons, List.length_nil]; omega)
            have HX : Hid (OwN w6 W.heap.size v6 (o1 ++ o2) ∧ Below W.heap.size W w6) := ⟨by rw [HO2.out, if_neg h]; exact hO6, (hBc.trans (hb5.mono hWc)).trans hb6⟩
            clear h hO6 hb6 hb5 hOc
            go_wp2_with (at_builtin; refine wpList_append_run rfl (.tmp 17) (.tmp 20) 35 rfl rfl _ _ rfl rfl _ _ (show _ = _ from R6) ?_)
            go_meet
            case rel => exact HX.out
        case rest =>
          obtain ⟨hOd, hBd⟩ := hcut
          have hoo : (o1 ++ o2).length ≤ 2 := by rw [List.length_append]; omega
          obtain ⟨o3, ho3⟩ : ∃ o3, o3 = o1 ++ o2 := ⟨_, rfl⟩
          rw [← ho3] at hOd HE2 hoo
          clear ho3 c2 hLc hOc hBc hWc
          have hwd := hBd.size
          have hLd := hL.up hBd
          have hld := hl0.up hBd
          have c5 : wc.cell? ⟨w.heap.size, 5, none⟩ = some (.slice ao xs.length c) := hLd.cell 5
          go_wp2_with fail
          go_loopw [3, 4] (fun u v wr => ∃ k : Nat, k ≤ xs.length ∧ v = .int .i64 k ∧ OwN wr W.heap.size u (o3 ++ wnL (xs.take k)) ∧ Below W.heap.size W wr) (fun _ v _ => xs.length - (intOf v).toNat)
          case atStart => exact ⟨0, Nat.zero_le _, rfl, by rw [List.take_zero, wnL_nil, List.append_nil]; exact hOd, hBd⟩
          case round =>
            obtain ⟨k, hkn, rfl, hOk, hBk⟩ := hrel
            have hwr := hBk.size
            have hLk := hL.up hBk
            have c5 : wr.cell? ⟨w.heap.size, 5, none⟩ = some (.slice ao xs.length c) := hLk.cell 5
            by_cases hlt : k < xs.length
            · have hlk := hl0.up hBk
              have hsz := szE_at xs k hlt
              have hst := szL_take xs k hlt
              have hsT : szL (xs.take (k + 1)) ≤ szL xs := szL_le xs (k + 1)
              have hol5 : (o3 ++ wnL (xs.take k)).length ≤ 2 + 2 * szL (xs.take k) := by rw [List.length_append]; have := wnL_len (xs.take k); omega
              have HS : Hid (o3 ++ wnL (xs.take (k + 1)) = (o3 ++ wnL (xs.take k)) ++ wnE (xs.getD k ed)) := by rw [wnL_take xs k hlt, List.append_assoc]; exact rfl
              obtain ⟨yk, hyk⟩ : ∃ yk, yk = o3 ++ wnL (xs.take k) := ⟨_, rfl⟩
              rw [← hyk] at hOk HS hol5
              obtain ⟨g, off, rfl⟩ := hlk.place (by intro e; simp [e] at hlt)
              obtain ⟨vs, hv, hxv⟩ := hlk.at k hlt
              obtain ⟨u0, u1, u2, u3, u4, u5, u6, rfl⟩ := list7 hxv.len
              obtain ⟨d0, d1, d2, d3, d4, d5, d6⟩ := range7 hv
              have hrec := IH.out (xs.getD k ed) (by omega) (by omega) wr A [u0, u1, u2, u3, u4, u5, u6] hxv (fun j h => by have := HA.out j h; omega)
              have hwl := wnE_len (xs.getD k ed)
              clear hyk hv hlk hxv
              go_wp2_with fail
              refine hrec.mono ?_
              rintro e w4 ⟨⟨v4, rfl, hO4⟩, hb4⟩
              have hw4 := hb4.size
              obtain ⟨v5', w5, R5, hO5, hb5⟩ := own_two (hOk.upp hb4) (by omega) hO4 (by omega)
              rw [← HS.out] at hO5
              have hBe : Below W.heap.size W w5 := (hBk.trans (hb4.mono hwr)).trans hb5
              clear hrec d0 d1 d2 d3 d4 d5 d6 hO4 hOk hb4 hb5 c5
              go_wp2_with (at_builtin; refine wpList_append_run rfl (.tmp 35) (.tmp 36) 35 rfl rfl _ _ rfl rfl _ _ (show _ = _ from R5) ?_)
              go_roundw
              case rel => exact ⟨k + 1, by omega, by go_num, hO5, hBe⟩
              case measure => simp [intOf]; omega
            · have hke : k = xs.length := by omega
              subst hke
              rw [List.take_length, ← HE2.out] at hOk
              have HX : Hid (OwN wr w.heap.size _ N ∧ Below w.heap.size w wr) := ⟨hOk.base (by omega), hb0.trans (hBk.mono (by omega))⟩
              clear hOk
              go_wp2_with fail
              go_ret
              exact ⟨⟨_, rfl, HX.out.1⟩, HX.out.2⟩

/-- The document's names of a definition. -/
def rnF (g : Fn1) : List (List UInt8) := ([g.name] ++ nmsP g.pms) ++ wnE g.body
set_option maxHeartbeats 8000000 in
theorem rnames_any {w : World} {A : Nat → Prop} {g : Fn1} {us : List Value} (hF : FnW w A g us) (hA : ∀ k, A k → k < w.heap.size) (hsz : szE g.body ≤ 65536) (hps : g.pms.length ≤ 65536) :
    Calls Tryz.prog 15 #[.agg us.toArray] w fun e w' => (∃ v o, e = .returned v ∧ IsSrt (rnF g) o ∧ OwN w' w.heap.size v o) ∧ Below w.heap.size w w' := by
  obtain ⟨ao, c, es, rfl, hp1, he1⟩ := hF
  obtain ⟨name, ps, ty, body, i⟩ := g
  dsimp only at hp1 he1 hsz hps
  obtain ⟨x0, x1, x2, x3, x4, x5, x6, rfl⟩ := list7 he1.len
  simp only [List.cons_append, List.nil_append]
  have hb0 := below_alloc w (.cells #[.string (bs name), .slice ao ps.length c, .int .i64 ty, x0, x1, x2, x3, x4, x5, x6, .int .i64 i] 45)
  have hL0 := Bk.new w 45 #[.string (bs name), .slice ao ps.length c, .int .i64 ty, x0, x1, x2, x3, x4, x5, x6, .int .i64 i]
  obtain ⟨L, hLd⟩ : ∃ L, L = rnF ⟨name, ps, ty, body, i⟩ := ⟨_, rfl⟩
  rw [← hLd]
  have HLD : Hid (L = rnF ⟨name, ps, ty, body, i⟩) := hLd
  clear hLd
  go_enter Tryz.func15, Tryz.ntmps15
  go_upto_region 1 with fail
  obtain ⟨W, hW⟩ : ∃ W, W = w.alloc (.cells #[.string (bs name), .slice ao ps.length c, .int .i64 ty, x0, x1, x2, x3, x4, x5, x6, .int .i64 i] 45) := ⟨_, rfl⟩
  rw [← hW] at hb0 hL0 ⊢
  clear hW
  have hLw : w.heap.size < W.heap.size := hL0.lt
  have c0 : W.cell? ⟨w.heap.size, 0, none⟩ = some (.string (bs name)) := hL0.cell 0
  go_upto_region 3 with fail
  have hO1 : OwN (W.alloc (.cells #[.string (bs name)] 9)) W.heap.size (.slice (some ⟨W.heap.size, 0, none⟩) 1 1) [name] := ⟨rfl, .inr ⟨W.heap.size, 1, #[.string (bs name)], rfl, Nat.le_refl _, Bk.new W 9 #[.string (bs name)], Nat.le_refl _, by unfold maxLen; omega, rfl, rfl⟩⟩
  have hbX := below_alloc W (.cells #[.string (bs name)] 9)
  obtain ⟨X, hX⟩ : ∃ X, X = W.alloc (.cells #[.string (bs name)] 9) := ⟨_, rfl⟩
  rw [← hX] at hO1 hbX ⊢
  clear hX c0
  have hbw := Below.thn hb0 hbX
  have hp2 := hp1.up hb0
  have he2 := he1.up hb0
  clear hp1 he1
  go_loopw [3, 4] (fun u v wr => ∃ k : Nat, k ≤ ps.length ∧ v = .int .i64 k ∧ OwN wr W.heap.size u ([name] ++ nmsP (ps.take k)) ∧ Below W.heap.size W wr) (fun _ v _ => ps.length - (intOf v).toNat)
  case atStart => exact ⟨0, Nat.zero_le _, rfl, hO1, hbX⟩
  case round =>
    obtain ⟨k, hkn, rfl, hOk, hBk⟩ := hrel
    have hwr := hBk.size
    have hLk := hL0.up hBk
    have c1 : wr.cell? ⟨w.heap.size, 1, none⟩ = some (.slice ao ps.length c) := hLk.cell 1
    by_cases hlt : k < ps.length
    · have hpk := hp2.up hBk
      obtain ⟨g', rfl, hv⟩ := PlW.at hpk k hlt
      have hnt := nmsP_take ps k hlt
      obtain ⟨q, hq⟩ : ∃ q, q = ps.getD k pd := ⟨_, rfl⟩
      rw [← hq] at hv hnt
      clear hq
      obtain ⟨n1, t1, s1⟩ := q
      dsimp only at hnt
      have HN : Hid ([name] ++ nmsP (ps.take (k + 1)) = ([name] ++ nmsP (ps.take k)) ++ [n1]) := by rw [hnt, List.append_assoc]; exact rfl
      have hll : ([name] ++ nmsP (ps.take k)).length ≤ 1 + k := by unfold nmsP; simp; omega
      obtain ⟨l, hl⟩ : ∃ l, l = [name] ++ nmsP (ps.take k) := ⟨_, rfl⟩
      rw [← hl] at hOk HN hll
      obtain ⟨d0, d1, d2⟩ := range3 (show wr.rangeAt g' (k * 3) [.string (bs n1), .int .i64 t1, .int .i64 s1] from hv)
      have hb5 := below_alloc wr (.cells #[.string (bs n1)] 9)
      obtain ⟨v6, w6, R6, hO6, hb6⟩ := own_names (wr.alloc (.cells #[.string (bs n1)] 9)) W.heap.size _ l (hOk.upp hb5) (by have := hb5.size; omega) (some ⟨wr.heap.size, 0, none⟩) 1 [n1] (ns_one (Bk.new wr 9 #[.string (bs n1)])) (fun e => by cases e) (fun e => by cases e) (by simp only [List.length_cons, List.length_nil]; omega)
      rw [← HN.out] at hO6
      have hB6 := (hBk.trans (hb5.mono hwr)).trans hb6
      clear hnt hv hl hpk hb5 hb6 hOk d1 d2
      go_wp2_with (at_builtin; refine wpList_append_run rfl (.tmp 16) (.tmp 23) 35 rfl rfl _ _ rfl rfl _ _ (show _ = _ from R6) ?_)
      go_roundw
      case rel => exact ⟨k + 1, by omega, by go_num, hO6, hB6⟩
      case measure => simp [intOf]; omega
    · have hke : k = ps.length := by omega
      subst hke
      rw [List.take_length] at hOk
      have hll : ([name] ++ nmsP ps).length ≤ 65537 := by unfold nmsP; simp; omega
      obtain ⟨l, hl⟩ : ∃ l, l = [name] ++ nmsP ps := ⟨_, rfl⟩
      have HL : Hid (L = l ++ wnE body) := by rw [HLD.out, hl]; exact rfl
      rw [← hl] at hOk hll
      have hek := he2.up hBk
      obtain ⟨_, _, _, f0, f1, f2, f3, f4, f5, f6, _⟩ := Bk.eleven (show Bk wr w.heap.size 45 [_, _, _, _, _, _, _, _, _, _, _] from hLk)
      have had := rwithin_any 65536 body hsz (Nat.le_refl _) wr A [x0, x1, x2, x3, x4, x5, x6] hek (fun j h => by have := hA j h; omega)
      have hal := wnE_len body
      clear hl c1
      go_wp2_with fail
      refine had.mono ?_
      rintro e w7 ⟨⟨v7, rfl, hO7⟩, hb7⟩
      obtain ⟨a1, c1, rfl, hN1, hc1, _⟩ := (hOk.upp hb7).names
      obtain ⟨a2, c2, rfl, hN2, hc2, _⟩ := hO7.names
      have hw := with_any (cap := c1) hN1 hc1 (cm := c2) hN2 hc2 (by omega)
      rw [← HL.out] at hw
      have hLl : L.length ≤ 1099511627776 := by rw [HL.out, List.length_append]; omega
      have hB7 : Below w.heap.size w w7 := hb0.trans ((hBk.trans (hb7.mono hwr)).mono (by omega))
      clear had f0 f1 f2 f3 f4 f5 f6 hOk hO7 hc1 hc2
      go_wp2_with fail
      refine hw.mono ?_
      rintro e w8 ⟨⟨v8, rfl, hO8⟩, hb8⟩
      obtain ⟨a3, c3, rfl, hN3, hc3, _⟩ := hO8.names
      have hso := rsorted_any (cap := c3) hN3 hLl
      have hB8 := Below.thn hB7 hb8
      clear hw hO8 hc3
      go_wp2_with fail
      refine hso.mono ?_
      rintro e w9 ⟨⟨v, o, rfl, hO, hN⟩, hB9⟩
      have HX : Hid (IsSrt L o ∧ OwN w9 w.heap.size v o ∧ Below w.heap.size w w9) := ⟨hO, hN.base hB8.size, hB8.trans (hB9.mono hB8.size)⟩
      clear hso hO hN hB9
      go_wp2_with fail
      go_ret
      exact ⟨⟨_, _, rfl, HX.out.1, HX.out.2.1⟩, HX.out.2.2⟩
end Go.Proofs.YtmfejllhlbnigaaGreatDoor
