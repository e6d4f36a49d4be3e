/-
  2 texts in one: what each proves stands at its head.
-/
import Derived.Test.YtaneibojiamjeaaGreatDoorUka
/-
  A set of names; what Free's closure does; all names that stand in an expression.
-/
namespace Go.Proofs.YtaneibojiamjeaaGreatDoor
open Go.RowKit Go.Maps
set_option maxRecDepth 100000

theorem Tryz.undNm : Tryz.prog.underlying 74 = some (.map 9 102) := by kernel_rfl
/-- A set of names: those of a list, in at most so many entries. -/
def Sn (w : World) (m : Nat) (l : List (List UInt8)) : Prop := MapW Tryz.prog 9 w m l.length fun s => if s ∈ l then some (.agg #[]) else none
theorem Sn.lt {w : World} {m : Nat} {l : List (List UInt8)} (h : Sn w m l) : m < w.heap.size := MapW.lt h
theorem Sn.but {S : Nat → Prop} {w w' : World} {m : Nat} {l : List (List UInt8)} (h : Sn w m l) (hu : ButS S w w') (hn : ¬ S m) : Sn w' m l := hu.map h hn
theorem Sn.up {w w' : World} {m : Nat} {l : List (List UInt8)} (h : Sn w m l) (hb : Below w.heap.size w w') : Sn w' m l := h.but (S := fun _ => False) (.below hb) id
theorem Sn.made (w : World) : Sn (w.alloc (.map #[] 0)) w.heap.size [] := (MapW.made w Tryz.prog 9).congr fun s => by simp
theorem sn_put {w' : World} {m : Nat} {l : List (List UInt8)} {s : List UInt8} (h : MapW Tryz.prog 9 w' m (l.length + 1) (putF (fun s => if s ∈ l then some (.agg #[]) else none) s (.agg #[]))) : Sn w' m (l ++ [s]) := by
  unfold Sn
  rw [List.length_append]
  refine h.congr fun t => ?_
  unfold putF
  by_cases e : t = s
  · subst e; simp
  · simp [e]

set_option maxHeartbeats 4000000 in
theorem nadd6_any {w : World} {m : Nat} {l : List (List UInt8)} (hM : Sn w m l) (ao : Option Addr) (cap : Nat) (xs : List (List UInt8)) (hN : Ns w ao xs) (hne : ∀ g off, ao = some ⟨g, off, none⟩ → g ≠ m) (hs : ∀ s ∈ xs, s.length ≤ maxLen) (hl : l.length + xs.length ≤ 17592186044416) :
    Calls Tryz.prog 31 #[.map (some m), .slice ao xs.length cap] w fun e w' => e = .returned (.tuple #[]) ∧ Sn w' m (l ++ xs) ∧ ButS (· = m) w w' := by
  go_enter Tryz.func31, Tryz.ntmps31
  go_wp2_with fail
  go_loopw [8] (fun v wr => ∃ k : Nat, k ≤ xs.length ∧ v = .int .i64 k ∧ Sn wr m (l ++ xs.take k) ∧ ButS (· = m) w wr) (fun v _ => xs.length - (intOf v).toNat)
  case atStart => exact ⟨0, Nat.zero_le _, rfl, by simpa using hM, .refl _ _⟩
  case round =>
    obtain ⟨k, hkn, rfl, hMk, hUk⟩ := hrel
    by_cases hlt : k < xs.length
    · have hk : xs[k]? = some (xs[k]) := List.getElem?_eq_getElem hlt
      have hsk : (xs[k]).length ≤ maxLen := hs _ (List.getElem_mem hlt)
      have htk : l ++ xs.take (k + 1) = (l ++ xs.take k) ++ [xs[k]] := by rw [List.take_succ_eq_append_getElem hlt, List.append_assoc]
      obtain ⟨t, ht⟩ : ∃ t, t = xs[k] := ⟨_, rfl⟩
      rw [← ht] at hk hsk htk
      obtain ⟨g, off, rfl, c0⟩ := hN k t hk
      have c1 : wr.cell? ⟨g, off + k, none⟩ = some (.string (bs t)) := by
        rw [← c0]
        unfold World.cell?
        rw [hUk.block g (cell_lt c0) (hne g off rfl)]
      have HTK : Hid (l ++ xs.take (k + 1) = (l ++ xs.take k) ++ [t]) := htk
      have hlk : (l ++ xs.take k).length < maxLen := by rw [List.length_append, List.length_take]; unfold maxLen; omega
      clear ht hk c0 htk
      go_wp2_with (at_mapUpdate; refine wpList_put rfl (.tmp 12) (.tmp 13) (.tmp 14) rfl Tryz.underlying9 Tryz.undNm hMk hlk hsk (.agg #[]) rfl rfl rfl ?_; intro w1 hM1 hg1)
      have hM2 := sn_put hM1
      rw [← HTK.out] at hM2
      have hU2 := hUk.trans (.grown hg1)
      go_roundw
      case rel => exact ⟨k + 1, by omega, by go_num, hM2, hU2⟩
      case measure => simp [intOf]; omega
    · have hke : k = xs.length := by omega
      subst hke
      rw [List.take_length] at hMk
      go_wp2_with fail
      go_end0
      exact ⟨rfl, hMk, hUk⟩

/-- The box of a set, and the set. -/
def Sq (bf m : Nat) (w : World) (l : List (List UInt8)) : Prop := Bk w bf 74 [.map (some m)] ∧ Sn w m l
set_option maxHeartbeats 4000000 in
theorem tellN_any {bf m : Nat} (hne : bf ≠ m) (w : World) (l : List (List UInt8)) (op : Int) (name : List UInt8) (v2 v3 v4 v5 v6 : Value) (hS : Sq bf m w l) (hmu : l.length < 1099511627776) (hn : name.length ≤ maxLen) :
    Calls Tryz.prog 44 #[.agg #[.int .i64 op, .string (bs name), v2, v3, v4, v5, v6], .pointer (some ⟨bf, 0, none⟩)] w fun e w' => e = .returned (.tuple #[]) ∧ Sq bf m w' (l ++ [name]) ∧ ButS (fun k => k = bf ∨ k = m) w w' := by
  obtain ⟨hF, hM⟩ := hS
  have hb0 := below_alloc w (.cells #[.int .i64 op, .string (bs name), v2, v3, v4, v5, v6] 43)
  have hL := Bk.new w 43 #[.int .i64 op, .string (bs name), v2, v3, v4, v5, v6]
  have hF0 := hF.up hb0
  have hM0 := hM.up hb0
  have hmw := hM.lt
  go_enter Tryz.func44, Tryz.ntmps44
  go_upto_region 1 with fail
  generalize w.alloc (.cells #[.int .i64 op, .string (bs name), v2, v3, v4, v5, v6] 43) = W at *
  have hWw := hb0.size
  have d1 : W.cell? ⟨w.heap.size, 1, none⟩ = some (.string (bs name)) := hL.cell 1
  have f0 : W.cell? ⟨bf, 0, none⟩ = some (.map (some m)) := hF0.cell 0
  have hb1 := below_alloc W (.cells #[.string (bs name)] 9)
  have hR1 := Bk.new W 9 #[.string (bs name)]
  have hF1 := hF0.up hb1
  have hM1 := hM0.up hb1
  have hN1 : Ns (W.alloc (.cells #[.string (bs name)] 9)) (some ⟨W.heap.size, 0, none⟩) [name] := fun j s hj => by
    have hj0 := (List.getElem?_eq_some_iff.1 hj).1
    have : j = 0 := by simpa using hj0
    subst this
    cases hj
    exact ⟨W.heap.size, 0, rfl, hR1.cell 0⟩
  have hm := nadd6_any hM1 (some ⟨W.heap.size, 0, none⟩) 1 [name] hN1 (fun g off h => by cases h; omega) (fun s h => by simp at h; subst h; exact hn) (by simp only [List.length_cons, List.length_nil]; omega)
  go_wp2_with fail
  refine hm.mono ?_
  rintro e w2 ⟨rfl, hM2, hU2⟩
  have HX : Hid (Sq bf m w2 (l ++ [name]) ∧ ButS (fun k => k = bf ∨ k = m) w w2) := ⟨⟨hU2.bk hF1 hne, hM2⟩, (ButS.below (Below.thn hb0 hb1)).trans (hU2.mono fun k h => .inr h)⟩
  clear hm hM2 hU2 hF1 hM1 hN1
  go_wp2_with fail
  go_end0
  exact ⟨rfl, HX.out⟩
theorem tellsN {bf m : Nat} (hne : bf ≠ m) : Tells1 44 (.pointer (some ⟨bf, 0, none⟩)) (fun k => k = bf ∨ k = m) (Sq bf m) (fun name l => l ++ [name]) List.length 1099511627776 where
  tell := fun w s op name v2 v3 v4 v5 v6 hS hmu hn => tellN_any hne w s op name v2 v3 v4 v5 v6 hS hmu hn
  keep := fun w w' s T hS hu hn => ⟨hu.bk hS.1 (hn bf (.inl rfl)), hS.2.but hu (hn m (.inr rfl))⟩
  low := fun w s hS k h => by rcases h with rfl | rfl; exact hS.1.lt; exact hS.2.lt
  step := fun name s => by simp
  enter := fun args w => by kernel_rfl
/-- The names of the free variables, as they are met. -/
def frE (x : Ex) : List (List UInt8) := gwE (seeF fun name l => l ++ [name]) [] x []
end Go.Proofs.YtaneibojiamjeaaGreatDoor
/-
  All names that stand in an expression: addOf.
-/
namespace Go.Proofs.YtaneibojiamjeaaGreatDoor
open Go.RowKit Go.Maps
set_option maxRecDepth 100000

/-- The names that stand at an expression itself. -/
def onE (op : Int) (name tail : List UInt8) : List (List UInt8) := if op = 6 ∨ op = 7 ∨ op = 21 ∨ op = 22 then [name] else if op = 20 then [name, tail] else []
mutual
def adE : Ex → List (List UInt8)
  | .mk op name tail _ _ _ xs _ => onE op name tail ++ adL xs
def adL : List Ex → List (List UInt8)
  | [] => []
  | x :: xs => adE x ++ adL xs
end
theorem adE_mk (op : Int) (name tail : List UInt8) (ty p q : Int) (xs : List Ex) (i : Nat) : adE (.mk op name tail ty p q xs i) = onE op name tail ++ adL xs := by rw [adE]
theorem adL_nil : adL [] = [] := by rw [adL]
theorem adL_cons (x : Ex) (xs : List Ex) : adL (x :: xs) = adE x ++ adL xs := by rw [adL]
theorem adL_take : ∀ (xs : List Ex) (k : Nat), k < xs.length → adL (xs.take (k + 1)) = adL (xs.take k) ++ adE (xs.getD k ed)
  | [], _, h => by simp at h
  | x :: xs, 0, _ => by simp [adL_cons, adL_nil]
  | x :: xs, k + 1, h => by
    rw [List.take_succ_cons, adL_cons, adL_take xs k (by simpa using h), List.take_succ_cons, adL_cons, List.getD_cons_succ, List.append_assoc]
theorem onE_len (op : Int) (name tail : List UInt8) : (onE op name tail).length ≤ 2 := by
  unfold onE
  split
  · simp
  · split <;> simp
mutual
theorem adE_len : ∀ x : Ex, (adE x).length ≤ 2 * szE x
  | .mk op name tail ty p q xs i => by
    rw [adE_mk, szE_mk, List.length_append]
    have := adL_len xs
    have := onE_len op name tail
    omega
theorem adL_len : ∀ xs : List Ex, (adL xs).length ≤ 2 * szL xs
  | [] => by rw [adL_nil, szL_nil]; simp
  | x :: xs => by
    rw [adL_cons, szL_cons, List.length_append]
    have := adE_len x
    have := adL_len xs
    omega
end

theorem ns_one {w : World} {t : TypeId} {s : List UInt8} {g : Nat} (h : Bk w g t [.string (bs s)]) : Ns w (some ⟨g, 0, none⟩) [s] := fun j x hj => by
  have hj0 := (List.getElem?_eq_some_iff.1 hj).1
  have : j = 0 := by simpa using hj0
  subst this
  cases hj
  exact ⟨g, 0, rfl, h.cell 0⟩
theorem ns_two {w : World} {t : TypeId} {s u : List UInt8} {g : Nat} (h : Bk w g t [.string (bs s), .string (bs u)]) : Ns w (some ⟨g, 0, none⟩) [s, u] := fun j x hj => by
  have hj0 := (List.getElem?_eq_some_iff.1 hj).1
  have : j = 0 ∨ j = 1 := by simp at hj0; omega
  rcases this with rfl | rfl
  · cases hj
    exact ⟨g, 0, rfl, h.cell 0⟩
  · cases hj
    exact ⟨g, 0, rfl, h.cell 1⟩

set_option maxHeartbeats 8000000 in
theorem addOf6_any {m : Nat} : ∀ (n : Nat) (x : Ex), szE x ≤ n → n ≤ 65536 → lnE x → ∀ (w : World) (A : Nat → Prop) (us : List Value) (l : List (List UInt8)), ExW w A x us → (∀ k, A k → k ≠ m) → Sn w m l → l.length + 2 * szE x ≤ 549755813888 →
    Calls Tryz.prog 32 #[.map (some m), .agg us.toArray] w fun e w' => e = .returned (.tuple #[]) ∧ Sn w' m (l ++ adE x) ∧ ButS (· = m) w w' := by
  intro n
  induction n with
  | zero => intro x h; have := szE_pos x; omega
  | succ n ih =>
    intro x ht hn hw w A us l hx hA hM hl2
    have IH : Hid _ := ih
    have HA : Hid (∀ k, A k → k ≠ m) := hA
    clear ih hA
    cases hx with
    | mk hl =>
      rename_i op name tail ty p q xs i ao c
      unfold lnE at hw
      rw [wfE_mk] at hw
      obtain ⟨hnl, htl⟩ := shp_len hw.1
      have HW : Hid (wfL (fun s => s.length ≤ 140737488355328) (fun _ _ => True) xs) := hw.2
      rw [szE_mk] at ht hl2
      have hlen := length_szL xs
      have hb0 := below_alloc w (.cells #[.int .i64 op, .string (bs name), .string (bs tail), .int .i64 ty, .complex .f64 (fl p) (fl q), .slice ao xs.length c, .int .i64 i] 43)
      have hL := Bk.new w 43 #[.int .i64 op, .string (bs name), .string (bs tail), .int .i64 ty, .complex .f64 (fl p) (fl q), .slice ao xs.length c, .int .i64 i]
      have hM0 := hM.up hb0
      have hl0 := hl.up hb0
      have hmw := hM.lt
      have HE : Hid (adE (.mk op name tail ty p q xs i) = onE op name tail ++ adL xs) := adE_mk ..
      go_enter Tryz.func32, Tryz.ntmps32
      go_upto_region 1 with fail
      generalize hWe : w.alloc (.cells #[.int .i64 op, .string (bs name), .string (bs tail), .int .i64 ty, .complex .f64 (fl p) (fl q), .slice ao xs.length c, .int .i64 i] 43) = W at *
      clear hWe hw
      have hWw := hL.lt
      obtain ⟨c0, c1, c2, c3, c4, c5, c6⟩ := Bk.seven (show Bk W w.heap.size 43 [_, _, _, _, _, _, _] from hL)
      go_upto_region 2 with fail
      rename_i K2 hK2 K1 hK1 K0 hK0
      have tail_ : ∀ (v8 v9 v10 v11 v12 v13 v14 v15 v16 v17 v18 v19 v20 v21 v22 v23 v24 v25 v26 : Value) (wc : World), Sn wc m (l ++ onE op name tail) → ButS (· = m) W wc → K2 { tmps := #[.map (some m), .agg #[.int .i64 op, .string (bs name), .string (bs tail), .int .i64 ty, .complex .f64 (fl p) (fl q), .slice ao xs.length c, .int .i64 i], undef, .pointer (some ⟨w.heap.size, 0, none⟩), undef, undef, .pointer (some ⟨w.heap.size, 0, none⟩), .int .i64 op, v8, v9, v10, v11, v12, v13, v14, v15, v16, v17, v18, v19, v20, v21, v22, v23, v24, v25, v26, undef, undef, undef, undef, undef, undef, undef, undef, undef, undef, undef], defers := [] } wc := by
        intro v8 v9 v10 v11 v12 v13 v14 v15 v16 v17 v18 v19 v20 v21 v22 v23 v24 v25 v26 wc hM1 hU1
        have hL1 := hU1.bk hL (by omega)
        have hl1 : ElW wc A ao xs := hl0.keep fun b hb hl => hU1.block b hl (HA.out b hb)
        have hon := onE_len op name tail
        obtain ⟨l1, hl1e⟩ : ∃ l1, l1 = l ++ onE op name tail := ⟨_, rfl⟩
        have hl1l : l1.length ≤ l.length + 2 := by rw [hl1e, List.length_append]; omega
        have HE1 : Hid (l ++ adE (.mk op name tail ty p q xs i) = l1 ++ adL xs) := by rw [HE.out, hl1e, List.append_assoc]; exact rfl
        rw [← hl1e] at hM1
        have hUw : ButS (· = m) w wc := (ButS.below hb0).trans hU1
        clear hl1e hM0 hM hl hl0 hL hb0 c0 c1 c2 c3 c4 c5 c6 hU1 HE hK1 hK0
        have c5 : wc.cell? ⟨w.heap.size, 5, none⟩ = some (.slice ao xs.length c) := hL1.cell 5
        have hcw := hL1.lt
        go_wp2_with fail
        go_loopw [30] (fun v wr => ∃ k : Nat, k ≤ xs.length ∧ v = .int .i64 k ∧ Sn wr m (l1 ++ adL (xs.take k)) ∧ ButS (· = m) wc wr) (fun v _ => xs.length - (intOf v).toNat)
        case atStart => exact ⟨0, Nat.zero_le _, rfl, by rw [List.take_zero, adL_nil, List.append_nil]; exact hM1, .refl _ _⟩
        case round =>
          obtain ⟨k, hkn, rfl, hMk, hUk⟩ := hrel
          have hwr := hUk.size
          by_cases hlt : k < xs.length
          · have hlk : ElW wr A ao xs := hl1.keep fun b hb hl => hUk.block b hl (HA.out b hb)
            have hsz := szE_at xs k hlt
            have hst := szL_take xs k hlt
            have hsT : szL (xs.take (k + 1)) ≤ szL xs := szL_le xs (k + 1)
            have hwk : lnE (xs.getD k ed) := wfL_at xs HW.out k hlt
            have hal := adL_len (xs.take k)
            obtain ⟨g, off, rfl⟩ := hlk.place (by intro e; simp [e] at hlt)
            obtain ⟨vs, hv, hxv⟩ := hlk.at k hlt
            obtain ⟨u0, u1, u2, u3, u4, u5, u6, rfl⟩ := list7 hxv.len
            have hone := hxv.one
            have hZ := Bk.new wr 43 #[.int .i64 0, .string ⟨#[]⟩, .string ⟨#[]⟩, .int .i64 0, .complex .f64 0 0, .slice none 0 0, .int .i64 0]
            have HS : Hid (l1 ++ adL (xs.take (k + 1)) = (l1 ++ adL (xs.take k)) ++ adE (xs.getD k ed)) := by rw [adL_take xs k hlt, List.append_assoc]; exact rfl
            obtain ⟨y, hy⟩ : ∃ y, y = xs.getD k ed := ⟨_, rfl⟩
            rw [← hy] at hsz hst hwk hxv HS
            obtain ⟨l2, hl2e⟩ : ∃ l2, l2 = l1 ++ adL (xs.take k) := ⟨_, rfl⟩
            have hl2l : l2.length ≤ l1.length + 2 * szL (xs.take k) := by rw [hl2e, List.length_append]; omega
            rw [← hl2e] at hMk HS
            clear hy hl2e hal
            go_upto_region 12 with (first
              | refine wpList_loadN rfl 43 (.tmp 32) rfl g (off + k * 7) rfl [u0, u1, u2, u3, u4, u5, u6] _ hv Tryz.underE Tryz.infoE ?_
              | (refine wpList_storeN rfl 43 (.tmp 5) (.tmp 33) rfl wr.heap.size 0 [u0, u1, u2, u3, u4, u5, u6] rfl rfl hZ (Nat.le_refl 7) Tryz.infoE hone ?_; intro w5 hV5 hO5))
            have hV5 : Bk w5 wr.heap.size 43 [u0, u1, u2, u3, u4, u5, u6] := hV5
            have hb5 : Below wr.heap.size wr w5 := (below_alloc wr _).trans (hO5.below (Nat.le_refl _))
            obtain ⟨e0, e1, e2, e3, e4, e5, e6⟩ := Bk.seven hV5
            have hrec := IH.out y (by omega) (by omega) hwk w5 A [u0, u1, u2, u3, u4, u5, u6] l2 (hxv.up hb5) HA.out (hMk.up hb5) (by omega)
            have hU5 := hUk.trans (.below hb5)
            clear hZ hO5 hV5 hb5 hv hxv hMk hUk hlk
            go_wp2_with fail
            refine hrec.mono ?_
            rintro e w6 ⟨rfl, hM6, hU6⟩
            rw [← HS.out] at hM6
            have hU7 := hU5.trans hU6
            clear hrec e0 e1 e2 e3 e4 e5 e6 hU5 hU6
            go_wp2_with fail
            go_roundw
            case rel => exact ⟨k + 1, by omega, by go_num, hM6, hU7⟩
            case measure => simp [intOf]; omega
          · have hke : k = xs.length := by omega
            subst hke
            rw [List.take_length] at hMk
            have hU2 := hUw.trans hUk
            go_wp2_with fail
            go_end0
            exact ⟨rfl, by rw [HE1.out]; exact hMk, hU2⟩
      clear hK2
      by_cases h6 : op = 6
      · subst h6
        have e : onE 6 name tail = [name] := by simp [onE]
        have hb1 := below_alloc W (.cells #[.string (bs name)] 9)
        have hR1 := Bk.new W 9 #[.string (bs name)]
        have hm := nadd6_any (hM0.up hb1) (some ⟨W.heap.size, 0, none⟩) 1 [name] (ns_one hR1) (fun g off h => by cases h; omega) (fun s h => by simp at h; subst h; unfold maxLen; omega) (by simp only [List.length_cons, List.length_nil]; omega)
        go_wp2_with fail
        refine hm.mono ?_
        rintro e2 w2 ⟨rfl, hM2, hU2⟩
        have HX : Hid (Sn w2 m (l ++ onE 6 name tail) ∧ ButS (· = m) W w2) := ⟨by rw [e]; exact hM2, (ButS.below hb1).trans hU2⟩
        clear hm hM2 hU2 e hb1 hR1
        go_wp2_with fail
        exact tail_ _ _ _ _ _ _ _ _ _ _ _ _ _ _ _ _ _ _ _ _ HX.out.1 HX.out.2
      · have g6 : (op == 6) = false := by simpa using h6
        by_cases h7 : op = 7
        · subst h7
          have e : onE 7 name tail = [name] := by simp [onE]
          have hb1 := below_alloc W (.cells #[.string (bs name)] 9)
          have hR1 := Bk.new W 9 #[.string (bs name)]
          have hm := nadd6_any (hM0.up hb1) (some ⟨W.heap.size, 0, none⟩) 1 [name] (ns_one hR1) (fun g off h => by cases h; omega) (fun s h => by simp at h; subst h; unfold maxLen; omega) (by simp only [List.length_cons, List.length_nil]; omega)
          go_wp2_with fail
          refine hm.mono ?_
          rintro e2 w2 ⟨rfl, hM2, hU2⟩
          have HX : Hid (Sn w2 m (l ++ onE 7 name tail) ∧ ButS (· = m) W w2) := ⟨by rw [e]; exact hM2, (ButS.below hb1).trans hU2⟩
          clear hm hM2 hU2 e hb1 hR1
          go_wp2_with fail
          exact tail_ _ _ _ _ _ _ _ _ _ _ _ _ _ _ _ _ _ _ _ _ HX.out.1 HX.out.2
        · have g7 : (op == 7) = false := by simpa using h7
          by_cases h21 : op = 21
          · subst h21
            have e : onE 21 name tail = [name] := by simp [onE]
            have hb1 := below_alloc W (.cells #[.string (bs name)] 9)
            have hR1 := Bk.new W 9 #[.string (bs name)]
            have hm := nadd6_any (hM0.up hb1) (some ⟨W.heap.size, 0, none⟩) 1 [name] (ns_one hR1) (fun g off h => by cases h; omega) (fun s h => by simp at h; subst h; unfold maxLen; omega) (by simp only [List.length_cons, List.length_nil]; omega)
            go_wp2_with fail
            refine hm.mono ?_
            rintro e2 w2 ⟨rfl, hM2, hU2⟩
            have HX : Hid (Sn w2 m (l ++ onE 21 name tail) ∧ ButS (· = m) W w2) := ⟨by rw [e]; exact hM2, (ButS.below hb1).trans hU2⟩
            clear hm hM2 hU2 e hb1 hR1
            go_wp2_with fail
            exact tail_ _ _ _ _ _ _ _ _ _ _ _ _ _ _ _ _ _ _ _ _ HX.out.1 HX.out.2
          · have g21 : (op == 21) = false := by simpa using h21
            by_cases h22 : op = 22
            · subst h22
              have e : onE 22 name tail = [name] := by simp [onE]
              have hb1 := below_alloc W (.cells #[.string (bs name)] 9)
              have hR1 := Bk.new W 9 #[.string (bs name)]
              have hm := nadd6_any (hM0.up hb1) (some ⟨W.heap.size, 0, none⟩) 1 [name] (ns_one hR1) (fun g off h => by cases h; omega) (fun s h => by simp at h; subst h; unfold maxLen; omega) (by simp only [List.length_cons, List.length_nil]; omega)
              go_wp2_with fail
              refine hm.mono ?_
              rintro e2 w2 ⟨rfl, hM2, hU2⟩
              have HX : Hid (Sn w2 m (l ++ onE 22 name tail) ∧ ButS (· = m) W w2) := ⟨by rw [e]; exact hM2, (ButS.below hb1).trans hU2⟩
              clear hm hM2 hU2 e hb1 hR1
              go_wp2_with fail
              exact tail_ _ _ _ _ _ _ _ _ _ _ _ _ _ _ _ _ _ _ _ _ HX.out.1 HX.out.2
            · have g22 : (op == 22) = false := by simpa using h22
              by_cases h20 : op = 20
              · subst h20
                have e : onE 20 name tail = [name, tail] := by simp [onE]
                have hb1 := below_alloc W (.cells #[.string (bs name), .string (bs tail)] 9)
                have hR1 := Bk.new W 9 #[.string (bs name), .string (bs tail)]
                have hm := nadd6_any (hM0.up hb1) (some ⟨W.heap.size, 0, none⟩) 2 [name, tail] (ns_two hR1) (fun g off h => by cases h; omega) (fun s h => by simp at h; rcases h with rfl | rfl <;> (unfold maxLen; omega)) (by simp only [List.length_cons, List.length_nil]; omega)
                go_wp2_with fail
                refine hm.mono ?_
                rintro e2 w2 ⟨rfl, hM2, hU2⟩
                have HX : Hid (Sn w2 m (l ++ onE 20 name tail) ∧ ButS (· = m) W w2) := ⟨by rw [e]; exact hM2, (ButS.below hb1).trans hU2⟩
                clear hm hM2 hU2 e hb1 hR1
                go_wp2_with fail
                exact tail_ _ _ _ _ _ _ _ _ _ _ _ _ _ _ _ _ _ _ _ _ HX.out.1 HX.out.2
              · have g20 : (op == 20) = false := by simpa using h20
                have e : onE op name tail = [] := by simp [onE, h6, h7, h21, h22, h20]
                have HX : Hid (Sn W m (l ++ onE op name tail) ∧ ButS (· = m) W W) := ⟨by rw [e, List.append_nil]; exact hM0, .refl _ _⟩
                clear e
                go_wp2_with fail
                exact tail_ _ _ _ _ _ _ _ _ _ _ _ _ _ _ _ _ _ _ _ _ HX.out.1 HX.out.2
end Go.Proofs.YtaneibojiamjeaaGreatDoor
