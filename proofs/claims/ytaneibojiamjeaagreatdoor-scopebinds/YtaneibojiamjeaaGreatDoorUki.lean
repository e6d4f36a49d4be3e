/-
  2 texts in one: what each proves stands at its head.
-/
import Derived.Test.YtaneibojiamjeaaGreatDoorUke
import Derived.Test.YtaneibojiamjeaaGreatDoorUkc
/-
  What is free in a let, a strict, a case, a sum, plainly.
-/
namespace Go.Proofs.YtaneibojiamjeaaGreatDoor
open Go.RowKit
set_option maxRecDepth 100000

mutual
/-- What is free hangs on the names around by this alone: is it among them? -/
theorem fs_env (n : List UInt8) : ∀ (x : Ex) (env env' : List (List UInt8)), (n ∈ env ↔ n ∈ env') → (n ∈ fsY (snE env x) ↔ n ∈ fsY (snE env' x))
  | .mk op name tail ty p q xs i, env, env', h => by
    rw [snE_mk, snE_mk, fsY_app, fsY_app, fs_one, fs_one, List.mem_append, List.mem_append, fs_envL n xs env env' op name tail 0 h]
    have : (n ∈ (if op = 6 ∧ name ∉ env then [name] else [])) ↔ (n ∈ (if op = 6 ∧ name ∉ env' then [name] else [])) := by
      by_cases e : n = name
      · subst e
        by_cases h6 : op = 6 <;> by_cases h1 : n ∈ env <;> simp [h6, h1, h.symm]
      · constructor
        · intro hm; split at hm <;> simp [e] at hm
        · intro hm; split at hm <;> simp [e] at hm
    rw [this]
theorem fs_envL (n : List UInt8) : ∀ (xs : List Ex) (env env' : List (List UInt8)) (op : Int) (name tail : List UInt8) (i : Nat), (n ∈ env ↔ n ∈ env') → (n ∈ fsY (snL env op name tail i xs) ↔ n ∈ fsY (snL env' op name tail i xs))
  | [], env, env', op, name, tail, i, h => by rw [snL_nil, snL_nil]
  | x :: xs, env, env', op, name, tail, i, h => by
    rw [snL_cons, snL_cons, fsY_app, fsY_app, List.mem_append, List.mem_append, fs_envL n xs env env' op name tail (i + 1) h, fs_env n x (env ++ bnd6 op name tail i) (env' ++ bnd6 op name tail i) (by rw [List.mem_append, List.mem_append, h])]
end
mutual
theorem fs_bound (n : List UInt8) : ∀ (x : Ex) (env : List (List UInt8)), n ∈ env → n ∉ fsY (snE env x)
  | .mk op name tail ty p q xs i, env, h => by
    rw [snE_mk, fsY_app, fs_one, List.mem_append]
    rintro (hm | hm)
    · split at hm
      · rename_i h2
        rw [List.mem_singleton] at hm
        subst hm
        exact h2.2 h
      · cases hm
    · exact fs_boundL n xs env op name tail 0 h hm
theorem fs_boundL (n : List UInt8) : ∀ (xs : List Ex) (env : List (List UInt8)) (op : Int) (name tail : List UInt8) (i : Nat), n ∈ env → n ∉ fsY (snL env op name tail i xs)
  | [], env, op, name, tail, i, h => by rw [snL_nil]; intro hm; cases hm
  | x :: xs, env, op, name, tail, i, h => by
    rw [snL_cons, fsY_app, List.mem_append]
    rintro (hm | hm)
    · exact fs_bound n x _ (List.mem_append_left _ h) hm
    · exact fs_boundL n xs env op name tail (i + 1) h hm
end
theorem fs_in (n : List UInt8) (x : Ex) (env : List (List UInt8)) : n ∈ fsY (snE env x) ↔ n ∉ env ∧ n ∈ fsE x := by
  by_cases h : n ∈ env
  · exact ⟨fun k => absurd k (fs_bound n x env h), fun k => absurd h k.1⟩
  · rw [fs_env n x env [] (by simp [h])]
    exact ⟨fun k => ⟨h, k⟩, fun k => k.2⟩
theorem fs_let (n x : List UInt8) (ty p q : Int) (e g : Ex) (i : Nat) : n ∈ fsE (.mk 21 x [] ty p q [e, g] i) ↔ n ≠ x ∧ (n ∈ fsE e ∨ n ∈ fsE g) := by
  unfold fsE
  rw [snE_mk, fsY_app, fs_one, snL_cons, snL_cons, snL_nil, fsY_app, fsY_app, List.mem_append, List.mem_append, List.mem_append, fs_in, fs_in]
  have e1 : ∀ j, bnd6 21 x [] j = [x] := fun j => by simp [bnd6]
  rw [e1, e1]
  simp [fsY, fsE]
  by_cases h : n = x <;> simp [h]
theorem fs_strict (n x : List UInt8) (ty p q : Int) (e g : Ex) (i : Nat) : n ∈ fsE (.mk 22 x [] ty p q [e, g] i) ↔ n ∈ fsE e ∨ n ≠ x ∧ n ∈ fsE g := by
  unfold fsE
  rw [snE_mk, fsY_app, fs_one, snL_cons, snL_cons, snL_nil, fsY_app, fsY_app, List.mem_append, List.mem_append, List.mem_append, fs_in, fs_in]
  have e1 : bnd6 22 x [] 0 = [] := by simp [bnd6]
  have e2 : bnd6 22 x [] (0 + 1) = [x] := by simp [bnd6]
  rw [e1, e2]
  simp [fsY, fsE]
theorem fs_case (n x y : List UInt8) (ty p q : Int) (e g : Ex) (i : Nat) : n ∈ fsE (.mk 20 x y ty p q [e, e, g] i) ↔ n ∈ fsE e ∨ n ≠ x ∧ n ≠ y ∧ n ∈ fsE g := by
  unfold fsE
  rw [snE_mk, fsY_app, fs_one, snL_cons, snL_cons, snL_cons, snL_nil, fsY_app, fsY_app, fsY_app, List.mem_append, List.mem_append, List.mem_append, List.mem_append, fs_in, fs_in, fs_in]
  have e1 : bnd6 20 x y 0 = [] := by simp [bnd6]
  have e2 : bnd6 20 x y (0 + 1) = [] := by simp [bnd6]
  have e3 : bnd6 20 x y (0 + 1 + 1) = [x, y] := by simp [bnd6]
  rw [e1, e2, e3]
  simp [fsY, fsE, and_assoc]
theorem fs_sum (ty p q : Int) (e g : Ex) (i : Nat) : fsE (.mk 8 [] [] ty p q [e, g] i) = fsE e ++ fsE g := by
  unfold fsE
  rw [snE_mk, fsY_app, fs_one, snL_cons, snL_cons, snL_nil, fsY_app, fsY_app]
  have e1 : ∀ j, bnd6 8 [] [] j = [] := fun j => by simp [bnd6]
  rw [e1, e1]
  simp [fsY]
theorem srt_sub {L M o : List (List UInt8)} (h : IsSrt L o) (hs : ∀ n ∈ L, n ∈ M) : o.length ≤ M.length := nodup_le o M h.nodup fun x hx => hs x ((h.2 x).1 hx)
end Go.Proofs.YtaneibojiamjeaaGreatDoor
/-
  The walk of ScopeBinds, from what all names are on.
-/
namespace Go.Proofs.YtaneibojiamjeaaGreatDoor
open Go.RowKit Go.Maps
set_option maxRecDepth 100000

/-- What stands behind a statement. -/
def tl : Code → Code
  | .seq _ b => b
  | c => c
theorem fsE_len (x : Ex) : (fsE x).length ≤ szE x := Nat.le_trans (fsY_len _) (snE_len [] x)
theorem usE_le (n : List UInt8) (x : Ex) : usE n x ≤ szE x := by
  rw [usE_fsE]
  exact Nat.le_trans List.count_le_length (fsE_len x)
theorem usE_pos (n : List UInt8) (x : Ex) {o : List (List UInt8)} (h : IsSrt (frE x) o) : decide (0 < (usE n x : Int)) = decide (n ∈ o) := by
  rw [usE_fsE]
  have : 0 < (fsE x).count n ↔ n ∈ o := by rw [List.count_pos_iff, h.2, frE_fsE]
  by_cases hm : n ∈ o
  · rw [decide_eq_true hm, decide_eq_true]
    have := this.2 hm
    omega
  · rw [decide_eq_false hm, decide_eq_false]
    intro k
    exact hm (this.1 (by omega))
theorem in_let {nx : List UInt8} {E G : Ex} {o8 o9 o : List (List UInt8)} (h8 : IsSrt (frE E) o8) (h9 : IsSrt (frE G) o9) (h : IsSrt (frE (.mk 21 nx [] 1 0 0 [E, G] 0)) o) (n : List UInt8) : decide (n ∈ o) = (decide (n ≠ nx) && (decide (n ∈ o8) || decide (n ∈ o9))) := by
  rw [Bool.eq_iff_iff]
  simp only [decide_eq_true_eq, Bool.and_eq_true, Bool.or_eq_true]
  rw [h.2, h8.2, h9.2, frE_fsE, frE_fsE, frE_fsE, fs_let]
theorem in_strict {nx : List UInt8} {E G : Ex} {o8 o9 o : List (List UInt8)} (h8 : IsSrt (frE E) o8) (h9 : IsSrt (frE G) o9) (h : IsSrt (frE (.mk 22 nx [] 1 0 0 [E, G] 0)) o) (n : List UInt8) : decide (n ∈ o) = (decide (n ∈ o8) || (decide (n ≠ nx) && decide (n ∈ o9))) := by
  rw [Bool.eq_iff_iff]
  simp only [decide_eq_true_eq, Bool.and_eq_true, Bool.or_eq_true]
  rw [h.2, h8.2, h9.2, frE_fsE, frE_fsE, frE_fsE, fs_strict]
theorem in_case {nx ny : List UInt8} {E G : Ex} {o8 o9 o : List (List UInt8)} (h8 : IsSrt (frE E) o8) (h9 : IsSrt (frE G) o9) (h : IsSrt (frE (.mk 20 nx ny 0 0 0 [E, E, G] 0)) o) (n : List UInt8) : decide (n ∈ o) = (decide (n ∈ o8) || (decide (n ≠ nx) && decide (n ≠ ny) && decide (n ∈ o9))) := by
  rw [Bool.eq_iff_iff]
  simp only [decide_eq_true_eq, Bool.and_eq_true, Bool.or_eq_true]
  rw [h.2, h8.2, h9.2, frE_fsE, frE_fsE, frE_fsE, fs_case, and_assoc]
theorem bs_ne {a b : List UInt8} (h : a ≠ b) : ((bs a).toList == (bs b).toList) = false := by
  rw [beq_eq_false_iff_ne]
  intro e
  apply h
  have := congrArg (fun l => l) e
  simpa [bs, Lib.toList_data] using this

set_option maxHeartbeats 16000000 in
theorem binds_tail {x0 x1 x4 x5 x6 x7 x8 x9 x10 x12 x13 x19 x20 x21 x22 x23 x24 x25 x26 x27 x28 x29 x30 x31 x32 x33 x34 x35 x36 x37 x38 x39 x40 x41 x42 x43 x44 x45 x46 x47 x48 x49 x50 x51 x52 x53 x54 x55 x56 x57 x58 x59 x60 x61 x62 x63 x64 x65 x66 x67 x68 x69 x70 x71 x72 x73 x74 x75 x76 x77 x78 x79 x80 x81 x82 x83 x84 x85 x86 x87 x88 x89 x90 x91 x92 x93 x94 x95 x96 x97 x98 x99 x100 x101 x102 x103 x104 x105 x106 x107 x108 x109 x110 x111 x112 x113 x114 x115 x116 x117 x118 x119 x120 x121 x122 x123 x124 x125 x126 x127 x128 x129 x130 x131 x132 x133 x134 x135 x136 x137 x138 x139 x140 x141 x142 x143 x144 x145 x146 x147 x148 x149 x150 x151 x152 x153 x154 x155 x156 x157 x158 x159 x160 x161 x162 x163 x164 x165 x166 x167 x168 x169 x170 x171 x172 x173 x174 x175 x176 x177 x178 x179 x180 x181 x182 x183 x184 x185 x186 x187 x188 x189 x190 x191 x192 x193 x194 x195 x196 x197 x198 x199 x200 x201 x202 x203 x204 x205 x206 x207 x208 x209 x210 x211 x212 x213 x214 x215 x216 x217 x218 x219 x220 x221 x222 x223 x224 x225 x226 x227 x228 x229 x230 x231 x232 x233 x234 x235 x236 x237 x238 x239 x240 x241 : Value} {nx ny : List UInt8} {b11 : Nat} {a8 a9 a10 a11 a12 : Option Addr} {c8 c9 c10 c11 c12 : Nat} {o8 o9 o10 o11 o12 : List (List UInt8)} {E G : Ex} {y0 y1 y2 y3 y4 y5 y6 : Value} (w0 W : World) (c : Code) (hc : Tryz.f6.body = some c)
    (hB : Below w0.heap.size w0 W) (N8 : Ns W a8 o8) (z8 : a8 = none → c8 = 0) (N9 : Ns W a9 o9) (z9 : a9 = none → c9 = 0) (N10 : Ns W a10 o10) (N11 : Ns W a11 o11) (N12 : Ns W a12 o12)
    (I8 : IsSrt (frE E) o8) (I9 : IsSrt (frE G) o9) (I10 : IsSrt (frE (.mk 21 nx [] 1 0 0 [E, G] 0)) o10) (I11 : IsSrt (frE (.mk 22 nx [] 1 0 0 [E, G] 0)) o11) (I12 : IsSrt (frE (.mk 20 nx ny 0 0 0 [E, E, G] 0)) o12)
    (hx : ExW W (fun _ => True) E [y0, y1, y2, y3, y4, y5, y6]) (hV : Bk W b11 43 [y0, y1, y2, y3, y4, y5, y6]) (hsE : szE E ≤ 65536) (hlE : lnE E) (hsG : szE G ≤ 65536) :
    Code.wp Tryz.prog (tl (tl (tl (tl (tl (tl (tl (tl (tl (tl (tl (tl (tl (tl (c))))))))))))))) (bodyPost Tryz.prog Tryz.f6 fun e w' => e = .returned (.bool true) ∧ Below w0.heap.size w0 w') { tmps := #[x0, x1, .string (bs nx), .string (bs ny), x4, x5, x6, x7, x8, x9, x10, .pointer (some ⟨b11, 0, none⟩), x12, x13, .slice a8 o8.length c8, .slice a9 o9.length c9, .slice a10 o10.length c10, .slice a11 o11.length c11, .slice a12 o12.length c12, x19, x20, x21, x22, x23, x24, x25, x26, x27, x28, x29, x30, x31, x32, x33, x34, x35, x36, x37, x38, x39, x40, x41, x42, x43, x44, x45, x46, x47, x48, x49, x50, x51, x52, x53, x54, x55, x56, x57, x58, x59, x60, x61, x62, x63, x64, x65, x66, x67, x68, x69, x70, x71, x72, x73, x74, x75, x76, x77, x78, x79, x80, x81, x82, x83, x84, x85, x86, x87, x88, x89, x90, x91, x92, x93, x94, x95, x96, x97, x98, x99, x100, x101, x102, x103, x104, x105, x106, x107, x108, x109, x110, x111, x112, x113, x114, x115, x116, x117, x118, x119, x120, x121, x122, x123, x124, x125, x126, x127, x128, x129, x130, x131, x132, x133, x134, x135, x136, x137, x138, x139, x140, x141, x142, x143, x144, x145, x146, x147, x148, x149, x150, x151, x152, x153, x154, x155, x156, x157, x158, x159, x160, x161, x162, x163, x164, x165, x166, x167, x168, x169, x170, x171, x172, x173, x174, x175, x176, x177, x178, x179, x180, x181, x182, x183, x184, x185, x186, x187, x188, x189, x190, x191, x192, x193, x194, x195, x196, x197, x198, x199, x200, x201, x202, x203, x204, x205, x206, x207, x208, x209, x210, x211, x212, x213, x214, x215, x216, x217, x218, x219, x220, x221, x222, x223, x224, x225, x226, x227, x228, x229, x230, x231, x232, x233, x234, x235, x236, x237, x238, x239, x240, x241], defers := [] } W := by
  obtain rfl := Option.some.inj (hc.symm.trans (rfl : Tryz.f6.body = some _))
  clear hc
  dsimp only [tl]
  have l8 : o8.length ≤ 65536 := by have := srt_len I8; rw [frE_fsE] at this; have := fsE_len E; omega
  have l9 : o9.length ≤ 65536 := by have := srt_len I9; rw [frE_fsE] at this; have := fsE_len G; omega
  have J8 : ∀ n, n ∈ fsE E → n ∈ o8 ++ o9 ++ [nx, ny] := fun n h => List.mem_append_left _ (List.mem_append_left _ ((I8.2 n).2 (by rw [frE_fsE]; exact h)))
  have J9 : ∀ n, n ∈ fsE G → n ∈ o8 ++ o9 ++ [nx, ny] := fun n h => List.mem_append_left _ (List.mem_append_right _ ((I9.2 n).2 (by rw [frE_fsE]; exact h)))
  have l10 : o10.length ≤ (o8 ++ o9 ++ [nx, ny]).length := srt_sub I10 fun n h => by
    rw [frE_fsE, fs_let] at h
    exact h.2.elim (J8 n) (J9 n)
  have l11 : o11.length ≤ (o8 ++ o9 ++ [nx, ny]).length := srt_sub I11 fun n h => by
    rw [frE_fsE, fs_strict] at h
    exact h.elim (J8 n) fun k => J9 n k.2
  have l12 : o12.length ≤ (o8 ++ o9 ++ [nx, ny]).length := srt_sub I12 fun n h => by
    rw [frE_fsE, fs_case] at h
    exact h.elim (J8 n) fun k => J9 n k.2.2
  obtain ⟨all, hall⟩ : ∃ all, all = o8 ++ o9 ++ [nx, ny] := ⟨_, rfl⟩
  rw [← hall] at l10 l11 l12
  have hal : all.length ≤ 131074 := by rw [hall, List.length_append, List.length_append]; simp only [List.length_cons, List.length_nil]; omega
  have HN : Hid (∀ n, (decide (n ∈ o10) = (decide (n ≠ nx) && (decide (n ∈ o8) || decide (n ∈ o9)))) ∧ (decide (n ∈ o11) = (decide (n ∈ o8) || (decide (n ≠ nx) && decide (n ∈ o9)))) ∧ (decide (n ∈ o12) = (decide (n ∈ o8) || (decide (n ≠ nx) && decide (n ≠ ny) && decide (n ∈ o9)))) ∧ decide (0 < (usE n E : Int)) = decide (n ∈ o8)) := fun n => ⟨in_let I8 I9 I10 n, in_strict I8 I9 I11 n, in_case I8 I9 I12 n, usE_pos n E I8⟩
  have HL : Hid (o8.length ≤ 65536 ∧ o9.length ≤ 65536 ∧ o10.length ≤ all.length ∧ o11.length ≤ all.length ∧ o12.length ≤ all.length ∧ all.length ≤ 131074) := ⟨l8, l9, l10, l11, l12, hal⟩
  have HM : Hid (all = o8 ++ o9 ++ [nx, ny]) := hall
  have HE : Hid (szE E ≤ 65536 ∧ lnE E) := ⟨hsE, hlE⟩
  clear I8 I9 I10 I11 I12 J8 J9 l8 l9 l10 l11 l12 hal hall hsE hlE hsG
  have hb1 := below_alloc W (.cells #[] 9)
  have hO1 : OwN (W.alloc (.cells #[] 9)) W.heap.size (.slice (some ⟨W.heap.size, 0, none⟩) 0 0) [] := ⟨rfl, .inr ⟨W.heap.size, 0, #[], rfl, Nat.le_refl _, Bk.new W 9 #[], Nat.le_refl _, by unfold maxLen; omega, rfl, rfl⟩⟩
  obtain ⟨v1, w1, R1, hO2, hb2⟩ := own_names (W.alloc (.cells #[] 9)) W.heap.size _ [] hO1 (by have := hb1.size; omega) a8 c8 o8 (N8.up hb1) z8 (fun e => by subst e; exact N8.none) (by have := HL.out.1; simp only [List.length_nil]; omega)
  rw [List.nil_append] at hO2
  have hB2 := hb1.trans hb2
  obtain ⟨v2, w2, R2, hO3, hb3⟩ := own_names w1 W.heap.size v1 o8 hO2 hB2.size a9 c9 o9 (N9.up hB2) z9 (fun e => by subst e; exact N9.none) (by have := HL.out.1; have := HL.out.2.1; omega)
  have hB3 := hB2.trans hb3
  have hb4 := below_alloc w2 (.cells #[.string (bs nx), .string (bs ny)] 9)
  obtain ⟨v3, w3, R3, hO4, hb5⟩ := own_names (w2.alloc (.cells #[.string (bs nx), .string (bs ny)] 9)) W.heap.size v2 (o8 ++ o9) (hO3.upp hb4) (by have := hB3.size; have := hb4.size; omega) (some ⟨w2.heap.size, 0, none⟩) 2 [nx, ny] (ns_two (Bk.new w2 9 #[.string (bs nx), .string (bs ny)])) (fun e => by cases e) (fun e => by cases e) (by have := HL.out.1; have := HL.out.2.1; rw [List.length_append]; simp only [List.length_cons, List.length_nil]; omega)
  rw [← HM.out] at hO4
  have hB5 : Below W.heap.size W w3 := (hB3.trans (hb4.mono hB3.size)).trans hb5
  clear hO1 hO2 hO3 hb1 hb2 hB2 hb3 hB3 hb4 hb5 HM
  go_upto_region 18 with (first
    | (at_builtin; refine wpList_append_run rfl (.tmp 142) (.tmp 143) 35 rfl rfl _ _ rfl rfl _ _ (show _ = _ from R1) ?_)
    | (at_builtin; refine wpList_append_run rfl (.tmp 144) (.tmp 145) 35 rfl rfl _ _ rfl rfl _ _ (show _ = _ from R2) ?_)
    | (at_builtin; refine wpList_append_run rfl (.tmp 146) (.tmp 149) 35 rfl rfl _ _ rfl rfl _ _ (show _ = _ from R3) ?_))
  clear R1 R2 R3
  obtain ⟨a20, c20, e20, N20, _, _⟩ := hO4.names
  subst e20
  have HN8 : Hid (Ns w3 a8 o8) := N8.up hB5
  have HN9 : Hid (Ns w3 a9 o9) := N9.up hB5
  have HN10 : Hid (Ns w3 a10 o10) := N10.up hB5
  have HN11 : Hid (Ns w3 a11 o11) := N11.up hB5
  have HN12 : Hid (Ns w3 a12 o12) := N12.up hB5
  have HN20 : Hid (Ns w3 a20 all) := N20
  have HX : Hid (ExW w3 (fun _ => True) E [y0, y1, y2, y3, y4, y5, y6]) := hx.up hB5
  have HV : Hid (Bk w3 b11 43 [y0, y1, y2, y3, y4, y5, y6]) := hV.up hB5
  have HB3 : Hid (Below w0.heap.size w0 w3) := Below.thn hB hB5
  clear hO4 N8 N9 N10 N11 N12 N20 hx hV hB hB5 z8 z9
  obtain ⟨n8, hn8⟩ : ∃ n, n = o8.length := ⟨_, rfl⟩
  obtain ⟨n9, hn9⟩ : ∃ n, n = o9.length := ⟨_, rfl⟩
  obtain ⟨n10, hn10⟩ : ∃ n, n = o10.length := ⟨_, rfl⟩
  obtain ⟨n11, hn11⟩ : ∃ n, n = o11.length := ⟨_, rfl⟩
  obtain ⟨n12, hn12⟩ : ∃ n, n = o12.length := ⟨_, rfl⟩
  obtain ⟨n, hn⟩ : ∃ n, n = all.length := ⟨_, rfl⟩
  rw [← hn8, ← hn9, ← hn10, ← hn11, ← hn12, ← hn]
  have HS8 : Hid (n8 = o8.length) := hn8
  have HS9 : Hid (n9 = o9.length) := hn9
  have HS10 : Hid (n10 = o10.length) := hn10
  have HS11 : Hid (n11 = o11.length) := hn11
  have HS12 : Hid (n12 = o12.length) := hn12
  have HS : Hid (n = all.length) := hn
  have hnl : n ≤ 131074 := by rw [hn]; exact HL.out.2.2.2.2.2
  have h10 : (n10 : Int) ≤ (n : Int) := by have := HL.out.2.2.1; omega
  have h11 : (n11 : Int) ≤ (n : Int) := by have := HL.out.2.2.2.1; omega
  have h12 : (n12 : Int) ≤ (n : Int) := by have := HL.out.2.2.2.2.1; omega
  have HH : Hid ((n10 : Int) ≤ (n : Int) ∧ (n11 : Int) ≤ (n : Int) ∧ (n12 : Int) ≤ (n : Int)) := ⟨h10, h11, h12⟩
  clear hn8 hn9 hn10 hn11 hn12 hn h10 h11 h12
  go_wp2_with fail
  go_loopw [21] (fun i wr => ∃ k : Nat, k ≤ n ∧ i = .int .i64 k ∧ Below w3.heap.size w3 wr) (fun i _ => n - (intOf i).toNat)
  case atStart => exact ⟨0, Nat.zero_le _, rfl, Below.refl _ _⟩
  case round =>
    obtain ⟨k, hkn, rfl, hBr⟩ := hrel
    by_cases hlt : k < n
    · obtain ⟨s, hs⟩ : ∃ s, all[k]? = some s := ⟨_, List.getElem?_eq_getElem (by rw [← HS.out]; exact hlt)⟩
      obtain ⟨g, off, rfl, hcl⟩ := (HN20.out.up hBr) k s hs
      have m8 : Hid (Calls Tryz.prog 19 #[.slice a8 n8 c8, .string (bs s)] wr fun e w' => e = .returned (.bool (decide (s ∈ o8))) ∧ w' = wr) := by
        have := rhas_any (cap := c8) (HN8.out.up hBr) (by have := HL.out.1; omega) s
        rw [← HS8.out] at this
        exact this
      have m9 : Hid (Calls Tryz.prog 19 #[.slice a9 n9 c9, .string (bs s)] wr fun e w' => e = .returned (.bool (decide (s ∈ o9))) ∧ w' = wr) := by
        have := rhas_any (cap := c9) (HN9.out.up hBr) (by have := HL.out.2.1; omega) s
        rw [← HS9.out] at this
        exact this
      have hN := HN.out s
      obtain ⟨b10, e10⟩ : ∃ b, b = (decide (s ≠ nx) && (decide (s ∈ o8) || decide (s ∈ o9))) := ⟨_, rfl⟩
      obtain ⟨b11', e11⟩ : ∃ b, b = (decide (s ∈ o8) || (decide (s ≠ nx) && decide (s ∈ o9))) := ⟨_, rfl⟩
      obtain ⟨b12, e12⟩ : ∃ b, b = (decide (s ∈ o8) || (decide (s ≠ nx) && decide (s ≠ ny) && decide (s ∈ o9))) := ⟨_, rfl⟩
      rw [← e10, ← e11, ← e12] at hN
      have m10 : Hid (Calls Tryz.prog 19 #[.slice a10 n10 c10, .string (bs s)] wr fun e w' => e = .returned (.bool b10) ∧ w' = wr) := by
        have := rhas_any (cap := c10) (HN10.out.up hBr) (by have := HL.out.2.2; omega) s
        rw [← HS10.out, hN.1] at this
        exact this
      have m11 : Hid (Calls Tryz.prog 19 #[.slice a11 n11 c11, .string (bs s)] wr fun e w' => e = .returned (.bool b11') ∧ w' = wr) := by
        have := rhas_any (cap := c11) (HN11.out.up hBr) (by have := HL.out.2.2; omega) s
        rw [← HS11.out, hN.2.1] at this
        exact this
      have m12 : Hid (Calls Tryz.prog 19 #[.slice a12 n12 c12, .string (bs s)] wr fun e w' => e = .returned (.bool b12) ∧ w' = wr) := by
        have := rhas_any (cap := c12) (HN12.out.up hBr) (by have := HL.out.2.2; omega) s
        rw [← HS12.out, hN.2.2.1] at this
        exact this
      have mu : Hid (Calls Tryz.prog 22 #[.agg #[y0, y1, y2, y3, y4, y5, y6], .string (bs s)] wr fun e w' => e = .returned (.int .i64 (usE s E : Nat)) ∧ Below wr.heap.size wr w') :=
        uses6_any (by have := HE.out.1; omega) HE.out.2 wr _ _ (HX.out.up hBr) s
      have hu := hN.2.2.2
      have hx0 : s = nx ∧ ((bs s).toList == (bs nx).toList) = true ∧ decide (s ≠ nx) = false ∨ ((bs s).toList == (bs nx).toList) = false ∧ decide (s ≠ nx) = true := by
        by_cases e : s = nx
        · exact .inl ⟨e, by rw [e]; simp, decide_eq_false (by simp [e])⟩
        · exact .inr ⟨bs_ne e, decide_eq_true e⟩
      have hy0 : ((bs s).toList == (bs ny).toList) = true ∧ decide (s ≠ ny) = false ∨ ((bs s).toList == (bs ny).toList) = false ∧ decide (s ≠ ny) = true := by
        by_cases e : s = ny
        · exact .inl ⟨by rw [e]; simp, decide_eq_false (by simp [e])⟩
        · exact .inr ⟨bs_ne e, decide_eq_true e⟩
      replace hx0 : ((bs s).toList == (bs nx).toList) = true ∧ decide (s ≠ nx) = false ∨ ((bs s).toList == (bs nx).toList) = false ∧ decide (s ≠ nx) = true := hx0.imp (fun h => h.2) id
      obtain ⟨cc0, cc1, cc2, cc3, cc4, cc5, cc6⟩ := Bk.seven (HV.out.up hBr)
      clear hN hs
      generalize decide (s ∈ o8) = b8 at *
      generalize decide (s ∈ o9) = b9 at *
      generalize decide (s ≠ nx) = bx at *
      generalize decide (s ≠ ny) = by_ at *
      generalize ((usE s E : Nat) : Int) = U at *
      have HU : Hid (decide (0 < U) = b8) := hu
      have HW : Hid (b10 = (bx && (b8 || b9)) ∧ b11' = (b8 || (bx && b9)) ∧ b12 = (b8 || (bx && by_ && b9))) := ⟨e10, e11, e12⟩
      clear hu e10 e11 e12
      clear HN HL HN8 HN9 HN10 HN11 HN12 HX HV HE
      go_wp2_with fail
      refine m8.out.mono ?_
      rintro e w4 ⟨rfl, hw4⟩
      rw [hw4]
      clear hw4 w4 m8
      go_wp2_with fail
      refine m9.out.mono ?_
      rintro e w4 ⟨rfl, hw4⟩
      rw [hw4]
      clear hw4 w4 m9
      go_upto_region 24 with fail
      go_cut [222] (fun b wx => b = .bool false ∧ Below w3.heap.size w3 wx)
      case first =>
        rcases hx0 with ⟨ex, ebx⟩ | ⟨ex, ebx⟩ <;> rcases hy0 with ⟨ey, eby⟩ | ⟨ey, eby⟩ <;> subst ebx <;> subst eby <;> cases b8 <;> cases b9
        all_goals
          have hU := HU.out
          obtain ⟨e10, e11, e12⟩ := HW.out
          first
            | (obtain rfl : b10 = true := e10)
            | (obtain rfl : b10 = false := e10)
          first
            | (obtain rfl : b11' = true := e11)
            | (obtain rfl : b11' = false := e11)
          first
            | (obtain rfl : b12 = true := e12)
            | (obtain rfl : b12 = false := e12)
          clear HU HW
          go_wp2_with fail
          refine m10.out.mono ?_
          rintro e w4 ⟨rfl, hw4⟩
          rw [hw4]
          clear hw4 w4 m10
          go_wp2_with fail
          refine m11.out.mono ?_
          rintro e w4 ⟨rfl, hw4⟩
          rw [hw4]
          clear hw4 w4 m11
          go_wp2_with fail
          refine m12.out.mono ?_
          rintro e w4 ⟨rfl, hw4⟩
          rw [hw4]
          clear hw4 w4 m12
          go_wp2_with fail
          refine mu.out.mono ?_
          rintro e w4 ⟨rfl, hb4⟩
          go_wp2
          go_meet
          case rel => exact ⟨rfl, Below.thn hBr hb4⟩
      case rest =>
        obtain ⟨rfl, hbc⟩ := hcut
        clear m10 m11 m12 HU HW mu hx0 hy0 cc0 cc1 cc2 cc3 cc4 cc5 cc6
        go_wp2
        go_roundw
        case rel => exact ⟨k + 1, by omega, by go_num, hbc⟩
        case measure => simp [intOf]; omega
    · have hke : k = n := by omega
      obtain ⟨h10, h11, h12⟩ := HH.out
      subst hke
      go_wp2_with fail
      go_ret
      exact ⟨rfl, Below.thn HB3.out hBr⟩
end Go.Proofs.YtaneibojiamjeaaGreatDoor
