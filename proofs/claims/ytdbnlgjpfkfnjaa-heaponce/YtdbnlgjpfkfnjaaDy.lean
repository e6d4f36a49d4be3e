/-
  HeapPlays: the heap does just what the document says, call by call.
-/
import Derived.Test.YtdbnlgjpfkfnjaaDw
import Derived.Test.YtdbnlgjpfkfnjaaDr
namespace Go.Proofs.Ytdbnlgjpfkfnjaa
open Go.RowKit
open Go.Lib
set_option maxRecDepth 100000

theorem Try.infoAk : (Try.prog.info? 37).map (·.size) = some 14 := by kernel_rfl
theorem Sc.keep {w w' : World} {ao : Option Addr} {qs : List Ak} (h : Sc w ao qs) (hb : Below w.heap.size w w') : Sc w' ao qs := ⟨fun hne => by
  obtain ⟨b, off, e, hr⟩ := h.pl hne
  have hp : 0 < qs.length := List.length_pos_iff.2 hne
  refine ⟨b, off, e, fun i hi j u hj => ?_⟩
  rw [← hr i hi j u hj]
  exact World.cell?_of_block (hb.block b (cell_lt (hr i hi j u hj)))⟩
/-- A step more, from where a script began. -/
theorem St.next {w cur cur' : World} {S1 S2 T1 T2 T1' T2' : Nat → Prop} {bh bm : Nat} {H H' : Hm} (h : St w cur S1 S2 T1 T2 bh bm H H) (k : St cur cur' T1 T2 T1' T2' bh bm H' H') : St w cur' S1 S2 T1' T2' bh bm H' H' := by
  refine ⟨k.p, k.r, k.dj, fun x e => (k.s1 x e).elim (h.s1 x) fun e' => .inr (Nat.le_trans h.U.size e'), fun x e => (k.s2 x e).elim (h.s2 x) fun e' => .inr (Nat.le_trans h.U.size e'), ⟨k.U.os.trans h.U.os, k.U.tape.trans h.U.tape, k.U.output.trans h.U.output, Nat.le_trans h.U.size k.U.size, fun x hx hn => (k.U.block x (Nat.lt_of_lt_of_le hx h.U.size) ?_).trans (h.U.block x hx hn)⟩⟩
  rintro (e | e)
  · exact (h.s1 x e).elim (fun e' => hn (.inl e')) fun e' => by omega
  · exact (h.s2 x e).elim (fun e' => hn (.inr e')) fun e' => by omega

set_option maxHeartbeats 4000000 in
theorem heapPlays_any {w : World} {ao : Option Addr} {cap : Nat} {qs : List Ak} (hs : Sc w ao qs) (_hc : qs.length ≤ cap) (_hm : cap ≤ maxLen) (hn : qs.length < 1260000000000) :
    Calls Try.prog 3 #[.slice ao qs.length cap] w fun e w' => e = .returned (.bool true) ∧ Below w.heap.size w w' := by
  go_enter Try.func3, Try.ntmps3
  go_wp2_with fail
  refine (awake13_any _).mono ?_
  rintro e w1 ⟨rfl, u1⟩
  go_wp2_with fail
  refine (new_any _).mono ?_
  rintro e w2 ⟨rfl, hw2⟩
  have p2 : HpW 73 87 (· = w1.heap.size) w2 w1.heap.size hm0 := by rw [hw2]; exact hpNew
  have u2 : Below w1.heap.size w1 w2 := by rw [hw2]; exact below_alloc _ _
  have l2 : w1.heap.size < w2.heap.size := p2.lt _ rfl
  clear hw2
  have r3 : HpW 30 80 (· = w2.heap.size) (w2.alloc (.cells #[.slice none 0 0, .slice none 0 0, .int .i64 0, .int .i64 0] 30)) w2.heap.size hm0 := hpNew
  have v2 := below_alloc w2 (.cells #[.slice none 0 0, .slice none 0 0, .int .i64 0, .int .i64 0] 30)
  have b3 := Below.thn (Below.thn u1 u2) v2
  have st3 := St.start (p2.up v2) r3 (fun k e1 e2 => by omega)
  have s1 := u1.size
  have HS : Hid (Sc w ao qs) := hs
  go_upto_region 5 with fail
  generalize w2.alloc (.cells #[.slice none 0 0, .slice none 0 0, .int .i64 0, .int .i64 0] 30) = w3 at *
  have HT : Hid (St w3 w3 (· = w1.heap.size) (· = w2.heap.size) (· = w1.heap.size) (· = w2.heap.size) w1.heap.size w2.heap.size hm0 hm0) := st3
  clear hs p2 r3 u1 u2 v2 st3
  generalize hbh : w1.heap.size = bh at *
  generalize hbm : w2.heap.size = bm at *
  go_wp2_with fail
  go_loopw [5] (fun v wr => ∃ (k : Nat) (H : Hm) (T1 T2 : Nat → Prop), k ≤ qs.length ∧ v = .int .i64 k ∧ St w3 wr (· = bh) (· = bm) T1 T2 bh bm H H ∧ Sz k H ∧ OkH H) (fun v _ => qs.length - (intOf v).toNat)
  case atStart => exact ⟨0, hm0, _, _, Nat.zero_le _, rfl, HT.out, ⟨Nat.le_refl _, Nat.le_refl _, Nat.le_refl _, Nat.le_refl _⟩, fun n hn => by simp [hm0] at hn, fun n hn => by simp [hm0] at hn⟩
  case round =>
    obtain ⟨k, H, T1, T2, hkn, rfl, st, hsz, hok⟩ := hrel
    have bw : Below w.heap.size w wr := b3.trans (st.U.toBelow b3.size (fun x e => by rcases e with e | e <;> omega))
    by_cases hlt : k < qs.length
    · have hne : qs ≠ [] := fun e => by rw [e] at hlt; simp at hlt
      obtain ⟨b, off, rfl, hr⟩ := (HS.out.keep bw).pl hne
      have hr := hr k hlt
      generalize qs.getD k ⟨0, 0, ⟨0, 0, 0, 0, false, false⟩, ⟨0, 0, 0, 0, false, false⟩⟩ = q at hr
      have hstep := step_any (St.start st.p st.r st.dj) hsz hok (by omega) q
      have HU : Hid (St w3 wr (· = bh) (· = bm) T1 T2 bh bm H H) := st
      clear st hok hsz
      go_wp2_with (first
        | (refine wpList_loadN rfl 37 (.tmp 21) rfl b (off + k * 14) rfl (akC q) _ hr Try.underlying37 Try.infoAk ?_)
        | (go_at_call 9; refine hstep.mono ?_; rintro e w5 ⟨rfl, hp5⟩))
      obtain ⟨H', T1', T2', st5, hz5, ho5⟩ := hp5
      go_roundw
      case rel => exact ⟨k + 1, H', T1', T2', by omega, by go_num, HU.out.next st5, hz5, ho5⟩
      case measure => simp [intOf]; omega
    · have hw := whole_any st.p st.r hsz hok (by omega)
      have HB : Hid (Below w.heap.size w wr) := bw
      clear st hsz hok bw
      go_wp2_with (go_at_call 10; refine hw.mono ?_; rintro e w5 ⟨rfl, u5⟩)
      go_ret
      exact ⟨rfl, Below.thn HB.out u5⟩
end Go.Proofs.Ytdbnlgjpfkfnjaa
