/-
  3 texts in one: what each proves stands at its head.
-/
import Derived.Test.YtaneibojiamjeaaGreatDoorUo
/-
  The document's answer for scope: is a name among names; the first definition of a name.
-/
namespace Go.Proofs.YtaneibojiamjeaaGreatDoor
open Go.RowKit Go.Maps
set_option maxRecDepth 100000

theorem not_mem_step {l : List (List UInt8)} {s t : List UInt8} {k : Nat} (h : s ∉ l.take k) (hk : l[k]? = some t) (hq : ¬ t = s) : s ∉ l.take (k + 1) := by
  rw [List.take_add_one, hk]
  simp only [Option.toList, List.mem_append, List.mem_singleton, not_or]
  exact ⟨h, fun e => hq e.symm⟩

set_option maxHeartbeats 4000000 in
theorem rhas_any {w : World} {ao : Option Addr} {l : List (List UInt8)} {cap : Nat} (hN : Ns w ao l) (hl : l.length ≤ 17592186044416) (s : List UInt8) :
    Calls Tryz.prog 19 #[.slice ao l.length cap, .string (bs s)] w fun e w' => e = .returned (.bool (decide (s ∈ l))) ∧ w' = w := by
  go_enter Tryz.func19, Tryz.ntmps19
  go_wp2_with fail
  go_loop [5] (fun i => ∃ k : Nat, k ≤ l.length ∧ i = .int .i64 k ∧ Hid (s ∉ l.take k)) (fun i => l.length - (intOf i).toNat)
  case atStart => exact ⟨0, Nat.zero_le _, rfl, by simp [Hid]⟩
  case round =>
    obtain ⟨k, hkn, rfl, hno⟩ := hrel
    by_cases hlt : k < l.length
    · have hk : l[k]? = some (l[k]) := List.getElem?_eq_getElem hlt
      obtain ⟨t, ht⟩ : ∃ t, t = l[k] := ⟨_, rfl⟩
      rw [← ht] at hk
      obtain ⟨g, off, rfl, c0⟩ := hN k t hk
      have HT : Hid (l[k]? = some t) := hk
      clear hk ht
      by_cases hq : t = s
      · subst hq
        have h1 : ((bs t).toList == (bs t).toList) = true := by simp
        have HD : Hid (decide (t ∈ l) = true) := by
          refine decide_eq_true ?_
          exact List.mem_of_getElem? HT.out
        go_wp2
        go_ret
        exact ⟨by rw [HD.out]; rfl, rfl⟩
      · have h1 : ((bs t).toList == (bs s).toList) = false := by rw [bs_toList, bs_toList, beq_eq_false_iff_ne]; exact hq
        have HD : Hid (s ∉ l.take (k + 1)) := not_mem_step hno.out HT.out hq
        go_wp2
        go_round
        case rel => exact ⟨k + 1, by omega, by go_num, HD⟩
        case measure => simp [intOf]; omega
    · have hke : k = l.length := by omega
      subst hke
      have HD : Hid (decide (s ∈ l) = false) := by
        have := hno.out
        rw [List.take_length] at this
        exact decide_eq_false this
      go_wp2
      go_ret
      exact ⟨by rw [HD.out]; rfl, rfl⟩

/-- The first definition of a name. -/
def hdN (gs : List Fn1) (s : List UInt8) : Int := match gs.findIdx? (fun g => g.name == s) with | some i => i | none => -1
theorem hdN_at {gs : List Fn1} {s : List UInt8} {k : Nat} (hk : k < gs.length) (h : ∀ j, j < k → ¬ (gs.getD j fd).name = s) (e : (gs.getD k fd).name = s) : hdN gs s = k := by
  have hf : gs.findIdx? (fun g => g.name == s) = some k := by
    rw [List.findIdx?_eq_some_iff_getElem]
    refine ⟨hk, ?_, fun j hj => ?_⟩
    · rw [List.getD_eq_getElem?_getD, List.getElem?_eq_getElem hk] at e
      simpa using e
    · have := h j hj
      rw [List.getD_eq_getElem?_getD, List.getElem?_eq_getElem (by omega)] at this
      simpa using this
  unfold hdN
  rw [hf]
end Go.Proofs.YtaneibojiamjeaaGreatDoor
/-
  Names appended to names: the document's with.
-/
namespace Go.Proofs.YtaneibojiamjeaaGreatDoor
open Go.RowKit Go.Maps
set_option maxRecDepth 100000

def OwN (w : World) (B : Nat) (v : Value) (ws : List (List UInt8)) : Prop := w.ownsRow B 9 1 v ws.length (ws.map fun s => .string (bs s))
theorem Tryz.infoSt : (Tryz.prog.info? 9).map (fun i => (i.zero, i.size, i.bytes)) = some (some (.string ⟨#[]⟩), 1, 16) := by kernel_rfl
theorem Tryz.underSt : Tryz.prog.underlying 35 = some (.slice 9) := by kernel_rfl
theorem own_low {w : World} {B n size : Nat} {e : TypeId} {v : Value} {xs : List Value} (h : w.ownsRow B e size v n xs) : ∀ j, v.ownBlock = some j → B ≤ j := by
  rcases h.2 with ⟨rfl, _⟩ | ⟨g, c, cur, rfl, hb, _⟩
  · intro j hj; cases hj
  · intro j hj; cases hj; exact hb
/-- A slice of names, as it lies. -/
theorem OwN.names {w : World} {B : Nat} {v : Value} {ws : List (List UInt8)} (h : OwN w B v ws) : ∃ ao cap, v = .slice ao ws.length cap ∧ Ns w ao ws ∧ (ao = none → cap = 0) ∧ ∀ g off, ao = some ⟨g, off, none⟩ → B ≤ g := by
  rcases h.2 with ⟨rfl, h0⟩ | ⟨g, c, cur, rfl, hb, hg, h1, h2, h3, h4⟩
  · have e := List.length_eq_zero_iff.1 h0
    subst e
    exact ⟨none, 0, rfl, .nil _ _, fun _ => rfl, fun g off e => by cases e⟩
  · refine ⟨_, c, rfl, fun j s hj => ⟨g, 0, rfl, ?_⟩, fun e => (by cases e), fun g' off e => by cases e; exact hb⟩
    have hl : j < ws.length := (List.getElem?_eq_some_iff.1 hj).1
    have h5 : (cur.toList.take (ws.length * 1))[j]? = some (.string (bs s)) := by rw [h4, List.getElem?_map, hj]; rfl
    rw [List.getElem?_take_of_lt (by omega)] at h5
    rw [Nat.zero_add]
    unfold World.cell?
    simp only [hg]
    simpa using h5
theorem own_names (w : World) (B : Nat) (v : Value) (xs : List (List UInt8)) (h : OwN w B v xs) (hB : B ≤ w.heap.size) (ao : Option Addr) (cap : Nat) (ys : List (List UInt8)) (hy : Ns w ao ys) (hcap : ao = none → cap = 0) (hnone : ao = none → ys = []) (hxy : xs.length + ys.length ≤ 8796093022208) :
    ∃ v' w', (Builtin.append_ #[35, 35] 35 #[v, .slice ao ys.length cap]).run Tryz.prog w = .ok v' w' ∧ OwN w' B v' (xs ++ ys) ∧ Below B w w' := by
  obtain ⟨i0, hi, hz⟩ := Option.map_eq_some_iff.1 Tryz.infoSt
  simp only [Prod.mk.injEq] at hz
  cases ao with
  | none =>
    obtain rfl := hnone rfl
    obtain rfl := hcap rfl
    refine ⟨v, w, run_append_owned_none (P := Tryz.prog) (w := w) B 35 35 9 i0 1 Tryz.underSt hi v xs.length _ h, ?_, Below.refl _ _⟩
    rw [List.append_nil]
    exact h
  | some a =>
    have hnews : ∀ j u, (ys.map fun s => (Value.string (bs s)))[j]? = some u → w.cell? (a.add j) = some u := by
      intro j u hj
      rw [List.getElem?_map] at hj
      cases hq : ys[j]? with
      | none => rw [hq] at hj; cases hj
      | some x =>
        rw [hq] at hj
        simp only [Option.map_some, Option.some.injEq] at hj
        subst hj
        obtain ⟨g, off, e, hc⟩ := hy j x hq
        cases e
        cases j with
        | zero => exact hc
        | succ j => simpa [Addr.add] using hc
    obtain ⟨v', w', hr, ho, hgr, _⟩ := run_append_own (P := Tryz.prog) w B 35 35 9 i0 (.string ⟨#[]⟩) 1 16 Tryz.underSt hi hz.1 hz.2.1 hz.2.2 rfl (by decide) v xs.length _ h a ys.length cap (ys.map fun s => .string (bs s)) (by simp) hnews
      (by intro u hu; rw [List.mem_map] at hu; obtain ⟨c, _, rfl⟩ := hu; rfl) (by unfold maxLen; omega) (by omega) hB
    refine ⟨v', w', hr, ?_, (Below.refl B w).grown hgr hB (own_low h)⟩
    unfold OwN
    rw [List.length_append, List.map_append]
    exact ho
theorem Ns.none {w : World} {xs : List (List UInt8)} (h : Ns w none xs) : xs = [] := by
  cases xs with
  | nil => rfl
  | cons x xs => obtain ⟨g, off, e, _⟩ := h 0 x rfl; cases e

end Go.Proofs.YtaneibojiamjeaaGreatDoor
/-
  Variables and calls that were met: a row of them, as it lies, and appended.
-/
namespace Go.Proofs.YtaneibojiamjeaaGreatDoor
open Go.RowKit Go.Maps
set_option maxRecDepth 100000

/-- The cells of a row of expressions, each with a bool behind it. -/
def snC (w : World) (A : Nat → Prop) : List (Ex × Bool) → List Value → Prop
  | [], cs => cs = []
  | y :: ys, cs => ∃ us ds, cs = us ++ (.bool y.2 :: ds) ∧ ExW w A y.1 us ∧ snC w A ys ds
theorem snC_len {w : World} {A : Nat → Prop} : ∀ {ys : List (Ex × Bool)} {cs : List Value}, snC w A ys cs → cs.length = ys.length * 8
  | [], _, h => by cases h; rfl
  | y :: ys, cs, h => by
    obtain ⟨us, es, rfl, h1, h2⟩ := h
    have := snC_len h2
    have := h1.len
    simp only [List.length_append, List.length_cons]
    omega
def SnW (w : World) (A : Nat → Prop) (B : Nat) (v : Value) (ys : List (Ex × Bool)) : Prop := ∃ cs, w.ownsRow B 86 8 v ys.length cs ∧ snC w A ys cs
theorem SnW.nil (w : World) (A : Nat → Prop) (B : Nat) : SnW w A B (.slice none 0 0) [] := ⟨[], World.ownsRow_nil _ _ _ _, rfl⟩
theorem SnW.row {w : World} {A : Nat → Prop} {B : Nat} {v : Value} {ys : List (Ex × Bool)} (h : SnW w A B v ys) : ∃ ao cap, v = .slice ao ys.length cap ∧ ((ao = none ∧ cap = 0 ∧ ys = []) ∨ ∃ g ds, ao = some ⟨g, 0, none⟩ ∧ B ≤ g ∧ g < w.heap.size ∧ snC w A ys ds ∧ ∀ j u, ds[j]? = some u → w.cell? ⟨g, j, none⟩ = some u) := by
  obtain ⟨cs, ho, hc⟩ := h
  rcases ho.2 with ⟨rfl, h0⟩ | ⟨g, c, cur, rfl, hb, hg, h1, h2, h3, h4⟩
  · have e := List.length_eq_zero_iff.1 h0
    subst e
    exact ⟨none, 0, rfl, .inl ⟨rfl, rfl, rfl⟩⟩
  · refine ⟨_, c, rfl, .inr ⟨g, cs, rfl, hb, (Array.getElem?_eq_some_iff.1 hg).1, hc, fun j u hj => ?_⟩⟩
    have hl : j < cs.length := (List.getElem?_eq_some_iff.1 hj).1
    have h5 : (cur.toList.take (ys.length * 8))[j]? = some u := by rw [h4]; exact hj
    rw [List.getElem?_take_of_lt (by rw [← snC_len hc]; exact hl)] at h5
    unfold World.cell?
    simp only [hg]
    simpa using h5
end Go.Proofs.YtaneibojiamjeaaGreatDoor
