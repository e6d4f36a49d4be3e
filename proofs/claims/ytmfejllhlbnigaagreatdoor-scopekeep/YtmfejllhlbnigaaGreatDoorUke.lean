/-
  2 texts in one: what each proves stands at its head.
-/
import Derived.Test.YtmfejllhlbnigaaGreatDoorUkc
import Derived.Test.YtmfejllhlbnigaaGreatDoorUkd
import Derived.Test.YtmfejllhlbnigaaGreatDoorUka
/-
  The document's digits and Fresh.
-/
namespace Go.Proofs.YtmfejllhlbnigaaGreatDoor
open Go.RowKit Go.Lib
set_option maxRecDepth 100000

set_option maxHeartbeats 1000000 in
theorem rdigits_any (n : Nat) : n < 4611686018427387905 → ∀ w : World,
    Calls Tryz.prog 42 #[.int .i64 n] w fun e w' => e = .returned (.string (bs (decDigits n))) ∧ Below w.heap.size w w' := by
  induction n using Nat.strongRecOn with
  | _ n ih =>
    intro hn w
    have hcv := conv_one n w
    have h0 : ¬ (n : Int) < 0 := by omega
    by_cases h : n < 10
    · have h1 : ¬ (10 : Int) ≤ n := by omega
      clear ih
      go_enter Tryz.func42, Tryz.ntmps42
      go_wp2_with fail
      go_ret
      refine ⟨ret_str ?_, bal (Below.refl _ _)⟩
      unfold lastD
      rw [decDigits_one h, show n % 10 = n by omega]
    · have h1 : (10 : Int) ≤ n := by omega
      have IH : Hid (∀ w : World, Calls Tryz.prog 42 #[.int .i64 ((n / 10 : Nat) : Int)] w fun e w' => e = .returned (.string (bs (decDigits (n / 10)))) ∧ Below w.heap.size w w') := ih (n / 10) (by omega) (by omega)
      clear ih
      have hl : (decDigits (n / 10)).length ≤ 20 := by
        rw [decDigits_length]
        exact nDigits_le20 _ (by omega)
      have hsz : (bs (decDigits (n / 10))).size ≤ 20 := by rw [bs_size]; exact hl
      have hs1 : (lastD n).size ≤ 1 := by unfold lastD; rw [bs_size]; exact Nat.le_refl _
      clear hl
      go_enter Tryz.func42, Tryz.ntmps42
      go_wp2_with fail
      have e1 : ((n : Int) / 10) = ((n / 10 : Nat) : Int) := by omega
      rw [e1]
      clear e1
      refine (IH.out _).mono ?_
      rintro e w1 ⟨rfl, hb⟩
      go_wp2_with fail
      go_ret
      refine ⟨ret_str ?_, (bal (Below.refl _ _)).trans (hb.mono (by simp))⟩
      unfold lastD
      have e : decDigits n = decDigits (n / 10) ++ [UInt8.ofNat (48 + n % 10)] := by rw [decDigits, dif_neg h]
      rw [bs_app, e]
theorem rdigits_itoa (n : Nat) (h : n < 4611686018427387905) (w : World) :
    Calls Tryz.prog 42 #[.int .i64 n] w fun e w' => e = .returned (.string (bs (Lib.itoa (n : Int)))) ∧ Below w.heap.size w w' := by
  rw [Lib.itoa_nonneg]
  exact rdigits_any n h w

set_option maxHeartbeats 8000000 in
theorem rfresh_any {w : World} {ao : Option Addr} {cap : Nat} (xs : List (List UInt8)) (hN : Ns w ao xs) (hl : xs.length ≤ 8796093022208) (n : Nat) (hn : n ≤ 4096) :
    Calls Tryz.prog 18 #[.slice ao xs.length cap, .int .i64 n] w fun e w' => (∃ v j, e = .returned (.tuple #[v, .int .i64 0]) ∧ (frN xs j).length = n ∧ OwN w' w.heap.size v (frN xs j)) ∧ Below w.heap.size w w' := by
  have h0 : ¬ (n : Int) < 0 := by omega
  have h1 : ¬ (4096 : Int) < n := by omega
  have HN : Hid (Ns w ao xs) := hN
  have HZ : Hid (xs.length ≤ 8796093022208 ∧ n ≤ 4096) := ⟨hl, hn⟩
  clear hN
  go_enter Tryz.func18, Tryz.ntmps18
  go_upto_region 5 with fail
  go_loopw [6, 7] (fun u v wr => ∃ j K : Nat, K = j + 1 ∧ v = .int .i64 (K : Int) ∧ (frN xs j).length ≤ n ∧ OwN wr w.heap.size u (frN xs j) ∧ Below w.heap.size w wr) (fun _ v _ => (n + xs.length + 4) - (intOf v).toNat)
  case atStart => exact ⟨0, 1, rfl, rfl, Nat.zero_le _, World.ownsRow_nil _ _ _ _, Below.refl _ _⟩
  case round =>
    obtain ⟨j, K, hK, rfl, hjn, hOj, hBj⟩ := hrel
    obtain ⟨ar, cr, rfl, hNr, hcr, har⟩ := hOj.names
    have hjl := frN_len xs j
    have hKj : K ≤ j + 1 ∧ j + 1 ≤ K := by omega
    have HK : Hid (K = j + 1) := hK
    have hBs := hBj.size
    clear hK hcr har
    obtain ⟨F, hF⟩ : ∃ F, F = frN xs j := ⟨_, rfl⟩
    have HF : Hid (F = frN xs j) := hF
    rw [← hF] at hjn hOj hNr hjl ⊢
    clear hF
    by_cases hlt : F.length < n
    · have hi := rdigits_itoa K (by have := HZ.out; omega) wr
      have hsz : (bs (Lib.itoa (K : Int))).size ≤ 21 := by rw [bs_size]; exact Lib.itoa_length_le _ (by omega) (by have := HZ.out; omega)
      have hlt' : (F.length : Int) < n := by omega
      go_wp2_with fail
      refine hi.mono ?_
      rintro e w3 ⟨rfl, hb3⟩
      have hN3 := (HN.out.up hBj).up hb3
      have hh := rhas_any (cap := cap) hN3 (by have := HZ.out; omega) (tN K)
      clear hi
      go_wp2_with fail
      rw [bs_t]
      refine hh.mono ?_
      rintro e w4 ⟨rfl, rfl⟩
      have hO4 := hOj.upp hb3
      have hB4 := hBj.trans (hb3.mono hBs)
      have hw4 := hB4.size
      clear hh hN3 hOj hNr hb3
      by_cases hin : tN K ∈ xs
      · rw [decide_eq_true hin]
        have HE : Hid (frN xs K = F) := by rw [HF.out]; have := HK.out; subst this; exact frN_yes hin
        clear hin hlt hlt'
        go_wp2_with fail
        go_roundw
        case rel => exact ⟨K, K + 1, rfl, by go_num, by rw [HE.out]; exact hjn, by rw [HE.out]; exact hO4, hB4⟩
        case measure => have := HZ.out; simp [intOf]; omega
      · rw [decide_eq_false hin]
        have HE : Hid (frN xs K = F ++ [tN K]) := by rw [HF.out]; have := HK.out; subst this; exact frN_no hin
        have hb5 := below_alloc w4 (.cells #[.string (bs (tN K))] 9)
        obtain ⟨v6, w6, R6, hO6, hb6⟩ := own_names (w4.alloc (.cells #[.string (bs (tN K))] 9)) w.heap.size _ F (hO4.upp hb5) (by have := hb5.size; omega) (some ⟨w4.heap.size, 0, none⟩) 1 [tN K] (ns_one (Bk.new w4 9 #[.string (bs (tN K))])) (fun e => by cases e) (fun e => by cases e) (by have := HZ.out; simp only [List.length_cons, List.length_nil]; omega)
        have hB6 := (hB4.trans (hb5.mono hw4)).trans hb6
        have hF1 : (F ++ [tN K]).length ≤ n := by rw [List.length_append, List.length_singleton]; omega
        have HX : Hid ((F ++ [tN K]).length ≤ n ∧ OwN w6 w.heap.size v6 (F ++ [tN K]) ∧ Below w.heap.size w w6) := ⟨hF1, hO6, hB6⟩
        clear hin hF1 hO6 hB6 hb5 hb6 hO4 hB4
        go_wp2_with (at_builtin; refine wpList_append_run rfl (.tmp 28) (.tmp 30) 35 rfl rfl _ _ rfl rfl _ _ (show _ = _ from R6) ?_)
        go_roundw
        case rel => exact ⟨K, K + 1, rfl, by go_num, by rw [HE.out]; exact HX.out.1, by rw [HE.out]; exact HX.out.2.1, HX.out.2.2⟩
        case measure => have := HZ.out; simp [intOf]; omega
    · have hlt' : ¬ (F.length : Int) < n := by omega
      have HX : Hid ((frN xs j).length = n ∧ OwN wr w.heap.size (.slice ar F.length cr) (frN xs j) ∧ Below w.heap.size w wr) := by
        rw [← HF.out]
        exact ⟨by omega, hOj, hBj⟩
      clear hOj hNr hBj
      go_wp2_with fail
      go_ret2
      exact ⟨⟨_, rfl, j, HX.out.1, HX.out.2.1⟩, HX.out.2.2⟩
end Go.Proofs.YtmfejllhlbnigaaGreatDoor
/-
  The program's names and the document's are the same, plainly: free ones, uses, all names.
-/
namespace Go.Proofs.YtmfejllhlbnigaaGreatDoor
open Go.RowKit
set_option maxRecDepth 100000

theorem fsY_app (ys zs : List (Ex × Bool)) : fsY (ys ++ zs) = fsY ys ++ fsY zs := by unfold fsY; rw [List.filter_append, List.map_append]
theorem cnt_zero {env env' : List (List UInt8)} (h : ∀ s, s ∈ env ↔ s ∈ env') (s : List UInt8) : cnt env s = 0 ↔ s ∉ env' := by
  show env.count s = 0 ↔ _
  rw [List.count_eq_zero, h]
theorem fs_one (env' : List (List UInt8)) (op : Int) (name tail : List UInt8) (ty p q : Int) (xs : List Ex) (i : Nat) : fsY (snO env' op name tail ty p q xs i) = if op = 6 ∧ name ∉ env' then [name] else [] := by
  unfold snO
  by_cases h : op = 6 ∨ op = 7
  · rw [if_pos h]
    by_cases h2 : op = 6 ∧ name ∉ env'
    · rw [if_pos h2]
      unfold fsY
      rw [List.filter_cons, if_pos (by simpa using h2)]
      rfl
    · rw [if_neg h2]
      unfold fsY
      rw [List.filter_cons, if_neg (by simpa using h2)]
      rfl
  · rw [if_neg h, if_neg fun k => h (.inl k.1)]
    rfl
mutual
/-- What a walk tells of free variables is what the document sees. -/
theorem gw_fs {σ : Type} (upd : List UInt8 → σ → σ) : ∀ (x : Ex) (env env' : List (List UInt8)) (s : σ), (∀ s, s ∈ env ↔ s ∈ env') → gwE (seeF upd) env x s = (fsY (snE env' x)).foldl (fun s n => upd n s) s
  | .mk op name tail ty p q xs i, env, env', s, h => by
    rw [gwE_mk, snE_mk, fsY_app, List.foldl_append, fs_one, gw_fsL upd xs env env' op name tail 0 _ h]
    congr 1
    unfold seeF
    by_cases k : op = 6 ∧ name ∉ env'
    · rw [if_pos k, if_pos ⟨k.1, (cnt_zero h name).2 k.2⟩]
      rfl
    · rw [if_neg k, if_neg fun k2 => k ⟨k2.1, (cnt_zero h name).1 k2.2⟩]
      rfl
theorem gw_fsL {σ : Type} (upd : List UInt8 → σ → σ) : ∀ (xs : List Ex) (env env' : List (List UInt8)) (op : Int) (name tail : List UInt8) (i : Nat) (s : σ), (∀ s, s ∈ env ↔ s ∈ env') → gwL (seeF upd) env op name tail i xs s = (fsY (snL env' op name tail i xs)).foldl (fun s n => upd n s) s
  | [], env, env', op, name, tail, i, s, h => by rw [gwL_nil, snL_nil]; rfl
  | x :: xs, env, env', op, name, tail, i, s, h => by
    rw [gwL_cons, snL_cons, fsY_app, List.foldl_append, gw_fsL upd xs env env' op name tail (i + 1) _ h, gw_fs upd x (bnd6 op name tail i ++ env) (env' ++ bnd6 op name tail i) s fun t => by rw [List.mem_append, List.mem_append, h t, Or.comm]]
end
theorem frE_fsE (x : Ex) : frE x = fsE x := by
  have key : ∀ (l s : List (List UInt8)), l.foldl (fun s n => s ++ [n]) s = s ++ l := by
    intro l
    induction l with
    | nil => intro s; simp
    | cons a l ih => intro s; rw [List.foldl_cons, ih, List.append_assoc]; rfl
  unfold frE fsE
  rw [gw_fs (fun name (l : List (List UInt8)) => l ++ [name]) x [] [] [] (fun _ => Iff.rfl), key, List.nil_append]
/-- Names are not empty. -/
theorem on_wn {op : Int} {name tail : List UInt8} {ty p q : Int} {n : Nat} (h : Shp (fun s => s ≠ []) (fun _ _ => True) op name tail ty p q n) : onE op name tail = wnO name tail := by
  unfold onE wnO
  cases h with
  | word h => rcases h with rfl | rfl | rfl <;> simp
  | one h => rcases h with rfl | rfl | rfl | rfl <;> simp
  | two h => rcases h with rfl | rfl | rfl | rfl | rfl | rfl | rfl <;> simp
  | bind h1 h2 h3 => rcases h1 with rfl | rfl <;> simp [h2]
  | var h => simp [h]
  | call h => simp [h]
  | look h1 h2 => simp [h1, h2]
  | num _ => simp
  | fail _ => simp
  | cond => simp
mutual
theorem ad_wn : ∀ x : Ex, wfE (fun s => s ≠ []) (fun _ _ => True) x → adE x = wnE x
  | .mk op name tail ty p q xs i, h => by
    rw [wfE_mk] at h
    rw [adE_mk, wnE_mk, on_wn h.1, ad_wnL xs h.2]
theorem ad_wnL : ∀ xs : List Ex, wfL (fun s => s ≠ []) (fun _ _ => True) xs → adL xs = wnL xs
  | [], _ => by rw [adL_nil, wnL_nil]
  | x :: xs, h => by
    rw [wfL_cons] at h
    rw [adL_cons, wnL_cons, ad_wn x h.1, ad_wnL xs h.2]
end
theorem nmA_rnF {g : Fn1} (h : WfF (fun s => s ≠ []) (fun _ _ => True) g) : nmA g = rnF g := by
  unfold nmA rnF
  rw [ad_wn _ h.body]
end Go.Proofs.YtmfejllhlbnigaaGreatDoor
