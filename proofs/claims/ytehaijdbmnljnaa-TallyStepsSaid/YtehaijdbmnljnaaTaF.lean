/-
  tally: two questions of which both are done have a node in common.
-/
import Derived.Test.YtehaijdbmnljnaaTaE
namespace Go.Proofs.Ytehaijdbmnljnaa
open Go.RowKit

theorem cnt_succ (said : List Int) (N : Nat) (x : Int) (h : N < said.length) : cnt said (N + 1) x = cnt said N x + if said.getD N 0 = x then 1 else 0 := by
  unfold cnt
  rw [take_snoc _ _ h, List.count_append, List.count_singleton]
  congr 1
  obtain ⟨y, hy⟩ : ∃ y, y = said.getD N 0 := ⟨_, rfl⟩
  rw [← hy]
  by_cases e : y = x
  · rw [if_pos e]; simp [e]
  · rw [if_neg e]; simp [e]
theorem meet (s t : List Int) : ∀ N, N ≤ s.length → N ≤ t.length → N < cnt s N 1 + cnt t N 1 → ∃ i, i < N ∧ s.getD i 0 = 1 ∧ t.getD i 0 = 1
  | 0, _, _, h => by simp [cnt] at h
  | N + 1, h1, h2, h => by
    rw [cnt_succ s N 1 (by omega), cnt_succ t N 1 (by omega)] at h
    by_cases hs : s.getD N 0 = 1
    · by_cases ht : t.getD N 0 = 1
      · exact ⟨N, by omega, hs, ht⟩
      · rw [if_neg ht] at h
        obtain ⟨i, hi, r⟩ := meet s t N (by omega) (by omega) (by split at h <;> omega)
        exact ⟨i, by omega, r⟩
    · rw [if_neg hs] at h
      obtain ⟨i, hi, r⟩ := meet s t N (by omega) (by omega) (by split at h <;> omega)
      exact ⟨i, by omega, r⟩
theorem steps_mem (N : Nat) (x : Int) (i : Nat) : ∀ (l said : List Int), (steps N x said l).getD i 0 ≠ said.getD i 0 → (i : Int) ∈ l
  | [], said, h => absurd rfl h
  | a :: l, said, h => by
    by_cases e : (i : Int) = a
    · exact List.mem_cons.2 (Or.inl e)
    · refine List.mem_cons.2 (Or.inr (steps_mem N x i l (step1 N x said a) ?_))
      have : (step1 N x said a).getD i 0 = said.getD i 0 := by
        unfold step1
        split
        · rename_i h3
          have hne : a.toNat ≠ i := by omega
          simp [List.getD_eq_getElem?_getD, hne]
        · rfl
      rw [this]
      exact h
theorem zeros_getD (i : Nat) : zeros.getD i 0 = 0 := by
  unfold zeros
  rw [List.getD_eq_getElem?_getD, List.getElem?_replicate]
  split <;> rfl
theorem mem_getD {l : List Int} {a : Int} (h : a ∈ l) : ∃ i, i < l.length ∧ l.getD i 0 = a := by
  obtain ⟨i, hi, e⟩ := List.mem_iff_getElem.1 h
  exact ⟨i, hi, by simpa [List.getD_eq_getElem?_getD, List.getElem?_eq_getElem hi] using e⟩
/-- some place of the one and some of the other hold the same node. -/
theorem meets (la lb : List Int) (N : Nat) (write read : Int) (hN : N ≤ 8) (hq : (N : Int) < write + read) (h1 : write ≤ cnt (steps N 1 zeros la) N 1) (h2 : read ≤ cnt (steps N 1 zeros lb) N 1) :
    ∃ i j, i < la.length ∧ j < lb.length ∧ la.getD i 0 = lb.getD j 0 ∧ 0 ≤ la.getD i 0 ∧ la.getD i 0 < N := by
  obtain ⟨i, hi, e1, e2⟩ := meet (steps N 1 zeros la) (steps N 1 zeros lb) N (by rw [steps_length]; simpa [zeros] using hN) (by rw [steps_length]; simpa [zeros] using hN) (by omega)
  obtain ⟨p, hp, ep⟩ := mem_getD (steps_mem N 1 i la zeros (by rw [e1, zeros_getD]; omega))
  obtain ⟨q, hq, eq⟩ := mem_getD (steps_mem N 1 i lb zeros (by rw [e2, zeros_getD]; omega))
  exact ⟨p, q, hp, hq, by rw [ep, eq], by rw [ep]; omega, by rw [ep]; omega⟩

theorem grow_more {B b : Nat} {w0 w w' : World} (hb : Below B w0 w) (h : w.grownBy w' (some b)) (hB : B ≤ b) (hs : B ≤ w.heap.size) : Below B w0 w' :=
  hb.grown h hs (fun k hk => by cases hk; exact hB)
theorem ne_base {ad : Option Addr} {base b : Nat} (h : ∀ a, ad = some a → base ≤ a.block) (hb : b < base) : ∀ a, ad = some a → a.block ≠ b :=
  fun a ha e => by have := h a ha; omega

set_option maxRecDepth 10000 in
set_option maxHeartbeats 4000000 in
theorem meets_bad (nodes write read : Int) (a1 : Option Addr) (n1 c1 : Nat) (a2 : Option Addr) (n2 c2 : Nat) (w : World) (h : ¬ (1 ≤ nodes ∧ nodes ≤ 8 ∧ 1 ≤ write ∧ 1 ≤ read ∧ write ≤ 8 ∧ read ≤ 8 ∧ nodes < write + read ∧ n1 ≤ 100 ∧ n2 ≤ 100)) (hs1 : n1 ≤ 140737488355328) (hs2 : n2 ≤ 140737488355328) :
    Calls Try.prog 6 #[.int .i64 nodes, .int .i64 write, .int .i64 read, .slice a1 n1 c1, .slice a2 n2 c2] w fun x w' => x = .returned (.bool true) ∧ Below w.heap.size w w' := by
  have KA := alive_any
  by_cases a0 : 1 ≤ nodes
  rotate_left 1
  · have b0 : nodes < 1 := by omega
    clear a0 h
    go_enter Try.func6, Try.ntmps6
    go_wp2_with (first
      | (go_at_call 8; (with_reducible refine (KA _).mono ?_); rintro e w1 ⟨rfl, hb1⟩))
    go_ret
    exact ⟨rfl, hb1⟩
  by_cases a1 : nodes ≤ 8
  rotate_left 1
  · have b1 : 8 < nodes := by omega
    clear a1 h
    go_enter Try.func6, Try.ntmps6
    go_wp2_with (first
      | (go_at_call 8; (with_reducible refine (KA _).mono ?_); rintro e w1 ⟨rfl, hb1⟩))
    go_ret
    exact ⟨rfl, hb1⟩
  by_cases a2 : 1 ≤ write
  rotate_left 1
  · have b2 : write < 1 := by omega
    clear a2 h
    go_enter Try.func6, Try.ntmps6
    go_wp2_with (first
      | (go_at_call 8; (with_reducible refine (KA _).mono ?_); rintro e w1 ⟨rfl, hb1⟩))
    go_ret
    exact ⟨rfl, hb1⟩
  by_cases a3 : 1 ≤ read
  rotate_left 1
  · have b3 : read < 1 := by omega
    clear a3 h
    go_enter Try.func6, Try.ntmps6
    go_wp2_with (first
      | (go_at_call 8; (with_reducible refine (KA _).mono ?_); rintro e w1 ⟨rfl, hb1⟩))
    go_ret
    exact ⟨rfl, hb1⟩
  by_cases a4 : write ≤ 8
  rotate_left 1
  · have b4 : 8 < write := by omega
    clear a4 h
    go_enter Try.func6, Try.ntmps6
    go_wp2_with (first
      | (go_at_call 8; (with_reducible refine (KA _).mono ?_); rintro e w1 ⟨rfl, hb1⟩))
    go_ret
    exact ⟨rfl, hb1⟩
  by_cases a5 : read ≤ 8
  rotate_left 1
  · have b5 : 8 < read := by omega
    clear a5 h
    go_enter Try.func6, Try.ntmps6
    go_wp2_with (first
      | (go_at_call 8; (with_reducible refine (KA _).mono ?_); rintro e w1 ⟨rfl, hb1⟩))
    go_ret
    exact ⟨rfl, hb1⟩
  by_cases a6 : nodes < write + read
  rotate_left 1
  · have b6 : write + read ≤ nodes := by omega
    clear a6 h
    go_enter Try.func6, Try.ntmps6
    go_wp2_with (first
      | (go_at_call 8; (with_reducible refine (KA _).mono ?_); rintro e w1 ⟨rfl, hb1⟩))
    go_ret
    exact ⟨rfl, hb1⟩
  by_cases a7 : n1 ≤ 100
  rotate_left 1
  · have b7 : 100 < n1 := by omega
    clear a7 h
    go_enter Try.func6, Try.ntmps6
    go_wp2_with (first
      | (go_at_call 8; (with_reducible refine (KA _).mono ?_); rintro e w1 ⟨rfl, hb1⟩))
    go_ret
    exact ⟨rfl, hb1⟩
  by_cases a8 : n2 ≤ 100
  rotate_left 1
  · have b8 : 100 < n2 := by omega
    clear a8 h
    go_enter Try.func6, Try.ntmps6
    go_wp2_with (first
      | (go_at_call 8; (with_reducible refine (KA _).mono ?_); rintro e w1 ⟨rfl, hb1⟩))
    go_ret
    exact ⟨rfl, hb1⟩
  omega

set_option maxRecDepth 10000 in
set_option maxHeartbeats 4000000 in
theorem meets_good (N : Nat) (write read : Int) (a1 : Option Addr) (n1 c1 : Nat) (la : List Int) (a2 : Option Addr) (n2 c2 : Nat) (lb : List Int) (w : World) (g0 : 1 ≤ (N : Int)) (g1 : (N : Int) ≤ 8) (g2 : 1 ≤ write) (g3 : 1 ≤ read) (g4 : write ≤ 8) (g5 : read ≤ 8) (g6 : (N : Int) < write + read) (g7 : n1 ≤ 100) (g8 : n2 ≤ 100)
    (hI1 : IntsV w (a1, n1, c1) la) (hI2 : IntsV w (a2, n2, c2) lb) :
    Calls Try.prog 6 #[.int .i64 N, .int .i64 write, .int .i64 read, .slice a1 n1 c1, .slice a2 n2 c2] w fun x w' => x = .returned (.bool true) ∧ Below w.heap.size w w' := by
  have KA := alive_any
  have hN : nodesOf (N : Int) = N := by unfold nodesOf; omega
  have HL1 := Lib.hid hI1.length
  have HL2 := Lib.hid hI2.length
  go_enter Try.func6, Try.ntmps6
  go_wp2_with (first
    | (go_at_call 8; (with_reducible refine (KA _).mono ?_); rintro e w1 ⟨rfl, hb1⟩; have hI1a := hI1.below hb1; have hI2a := hI2.below hb1)
    | (go_at_call 9; (with_reducible refine (new_any (N : Int) write w1).mono ?_); rw [hN]; rintro e w2 ⟨rfl, hX2, hd2⟩; have hb2 := trans_belowT hb1 hd2 hb1.size; have hI1b := hI1a.below hd2; have hI2b := hI2a.below hd2)
    | (go_at_call 9; (with_reducible refine (new_any (N : Int) read w2).mono ?_); rw [hN]; rintro e w3 ⟨rfl, hY3, hd3⟩; have hb3 := trans_belowT hb2 hd3 hb2.size; have hX3 := hX2.below hd3; have hI1c := hI1b.below hd3; have hI2c := hI2b.below hd3)
    | (go_at_call 23; (with_reducible refine (copyInts_any _ _ _ la w3 hI1c (by omega)).mono ?_); rintro e w4 ⟨ad4, cap4, rfl, hown4, hd4⟩; have hb4 := trans_belowT hb3 hd4 hb3.size; have hX4 := hX3.below hd4; have hY4 := hY3.below hd4; have hI2d := hI2c.below hd4; obtain ⟨hJ4, hB4⟩ := intsV_own hown4 (by rw [HL1.out]; omega))
    | (go_at_call 22; (with_reducible refine (yes_any w1.heap.size write zeros N _ _ _ la w4 hX4 hJ4 (ne_base hB4 hX3.v.lt)).mono ?_); rintro e w5 ⟨rfl, hX5, hg5⟩; have hb5 := grow_more hb4 hg5 hb1.size hb4.size; have hY5 := hY4.other hg5 (Nat.ne_of_gt hX2.v.lt); have hI2e := hI2.below hb5)
    | (go_at_call 23; (with_reducible refine (copyInts_any _ _ _ lb w5 hI2e (by omega)).mono ?_); rintro e w6 ⟨ad6, cap6, rfl, hown6, hd6⟩; have hb6 := trans_belowT hb5 hd6 hb5.size; have hX6 := hX5.below hd6; have hY6 := hY5.below hd6; obtain ⟨hJ6, hB6⟩ := intsV_own hown6 (by rw [HL2.out]; omega))
    | (go_at_call 22; (with_reducible refine (yes_any w2.heap.size read zeros N _ _ _ lb w6 hY6 hJ6 (ne_base hB6 hY5.v.lt)).mono ?_); rintro e w7 ⟨rfl, hY7, hg7⟩; have hb7 := grow_more hb6 hg7 hb2.size hb6.size; have hX7 := hX6.other hg7 (Nat.ne_of_lt hX2.v.lt))
    | (go_at_call 16; (with_reducible refine (done_any w1.heap.size write (steps N 1 zeros la) N w7 hX7).mono ?_); rintro e w8 ⟨rfl, hd8⟩; have hb8 := trans_belowT hb7 hd8 hb7.size; have hY8 := hY7.below hd8)
    | (go_at_call 16; (with_reducible refine (done_any w2.heap.size read (steps N 1 zeros lb) N w8 hY8).mono ?_); rintro e w9 ⟨rfl, hd9⟩; have hb9 := trans_belowT hb8 hd9 hb8.size))
  all_goals first
    | (go_ret; exact ⟨rfl, hb9⟩)
    | (go_ret; exact ⟨rfl, hb8⟩)
    | skip
  have hw : write ≤ ↑(cnt (steps N 1 zeros la) N 1) := by assumption
  have hr0 := ‹(!decide (read ≤ ↑(cnt (steps N 1 zeros lb) N 1))) = false›
  have hr : read ≤ ↑(cnt (steps N 1 zeros lb) N 1) := by simpa using hr0
  have hm := meets la lb N write read (by omega) g6 hw hr
  rw [HL1.out, HL2.out] at hm
  have HM := Lib.hid hm
  clear hr0 hw hr hm hX2 hY3 hX3 hX4 hY4 hX5 hY5 hX6 hY6 hY7 hX7 hY8 hd2 hd3 hd4 hd6 hd8 hd9 hg5 hg7 hown4 hown6 hJ4 hJ6 hB4 hB6 hI1a hI2a hI1b hI2b hI1c hI2c hI2d hI2e hb1 hb2 hb3 hb4 hb5 hb6 hb7 hb8 KA hN
  have hJ1 := hI1.below hb9
  have hJ2 := hI2.below hb9
  go_loopw [13] (fun i wr => ∃ p : Nat, p ≤ n1 ∧ i = .int .i64 p ∧ Hid (∀ i j, i < p → j < n2 → ¬ (la.getD i 0 = lb.getD j 0 ∧ 0 ≤ la.getD i 0 ∧ la.getD i 0 < N)) ∧ Below w9.heap.size w9 wr) (fun i _ => n1 - (intOf i).toNat)
  case atStart => exact ⟨0, Nat.zero_le _, rfl, Lib.hid (fun i j hi => absurd hi (by omega)), Below.refl _ _⟩
  case round =>
    obtain ⟨p, hp, rfl, HN, hbr⟩ := hrel
    by_cases hpn : p < n1
    · go_wp2
      go_loopw [14] (fun i wr => ∃ q : Nat, q ≤ n2 ∧ i = .int .i64 q ∧ Hid (∀ j, j < q → ¬ (la.getD p 0 = lb.getD j 0 ∧ 0 ≤ la.getD p 0 ∧ la.getD p 0 < N)) ∧ Below w9.heap.size w9 wr) (fun i _ => n2 - (intOf i).toNat)
      case atStart => exact ⟨0, Nat.zero_le _, rfl, Lib.hid (fun j hj => absurd hj (by omega)), hbr⟩
      case round =>
        clear hbr
        obtain ⟨q, hq, rfl, HQ, hbr⟩ := hrel
        by_cases hqn : q < n2
        · obtain ⟨b1, o1, x1, hc1⟩ := (hJ1.below hbr).row.2 (by simp; omega)
          obtain ⟨b2, o2, x2, hc2⟩ := (hJ2.below hbr).row.2 (by simp; omega)
          simp only at x1 x2
          subst x1 x2
          have d1 := (hc1 p hpn).trans (iv_getD (by rw [HL1.out]; exact hpn))
          have d2 := (hc2 q hqn).trans (iv_getD (by rw [HL2.out]; exact hqn))
          clear hc1 hc2
          obtain ⟨x, hx⟩ : ∃ x, x = la.getD p 0 := ⟨_, rfl⟩
          obtain ⟨y, hy⟩ : ∃ y, y = lb.getD q 0 := ⟨_, rfl⟩
          rw [← hx] at d1
          rw [← hy] at d2
          have HX := Lib.hid hx
          have HY := Lib.hid hy
          clear hx hy
          by_cases hin : x = y ∧ 0 ≤ x ∧ x < N
          · obtain ⟨rfl, h1, h2⟩ := hin
            obtain ⟨i, rfl⟩ := Int.eq_ofNat_of_zero_le h1
            have h3 : i < N := by omega
            clear h1 h2
            go_wp2
            go_quiet (fail)
            all_goals go_wp2
            all_goals go_ret
            all_goals exact ⟨rfl, hb9.trans ((below_drewNt hbr _).mono hb9.size)⟩
          · have hq2 : ∀ j, j < q + 1 → ¬ (la.getD p 0 = lb.getD j 0 ∧ 0 ≤ la.getD p 0 ∧ la.getD p 0 < N) := by
              intro j hj
              by_cases e : j = q
              · subst e; rw [← HX.out, ← HY.out]; exact hin
              · exact HQ.out j (by omega)
            have HQ2 := Lib.hid hq2
            clear hq2
            have hcase : ¬ x = y ∨ x < 0 ∨ (x = y ∧ 0 ≤ x ∧ (N : Int) ≤ x) := by omega
            clear hin
            rcases hcase with h1 | h1 | ⟨rfl, h1, h2⟩
            · have h1' : (x == y) = false := by simpa using h1
              go_wp2
              go_quiet (fail)
              all_goals go_wp2
              all_goals go_roundw
              case rel => exact ⟨q + 1, by omega, by go_num, HQ2, below_drewNt hbr _⟩
              case measure => simp [intOf]; omega
            · by_cases h2 : x = y
              · subst h2
                have k2 : (0 ≤ x) = False := eq_false (by omega)
                go_wp2
                go_quiet (fail)
                all_goals go_wp2
                all_goals go_roundw
                case rel => exact ⟨q + 1, by omega, by go_num, HQ2, below_drewNt hbr _⟩
                case measure => simp [intOf]; omega
              · have h1' : (x == y) = false := by simpa using h2
                go_wp2
                go_quiet (fail)
                all_goals go_wp2
                all_goals go_roundw
                case rel => exact ⟨q + 1, by omega, by go_num, HQ2, below_drewNt hbr _⟩
                case measure => simp [intOf]; omega
            · go_wp2
              go_quiet (fail)
              all_goals go_wp2
              all_goals go_roundw
              case rel => exact ⟨q + 1, by omega, by go_num, HQ2, below_drewNt hbr _⟩
              case measure => simp [intOf]; omega
        · obtain rfl : q = n2 := by omega
          have hp2 : ∀ i j, i < p + 1 → j < q → ¬ (la.getD i 0 = lb.getD j 0 ∧ 0 ≤ la.getD i 0 ∧ la.getD i 0 < N) := by
            intro i j hi hj
            by_cases e : i = p
            · subst e; exact HQ.out j hj
            · exact HN.out i j (by omega) hj
          have HP2 := Lib.hid hp2
          clear hp2
          go_wp2
          go_roundw
          case rel => exact ⟨p + 1, by omega, by go_num, HP2, hbr⟩
          case measure => simp [intOf]; omega
    · exfalso
      obtain rfl : p = n1 := by omega
      obtain ⟨i, j, hi, hj, h⟩ := HM.out
      exact HN.out i j hi hj h

theorem tallyMeets_walk (nodes write read : Int) (a1 : Option Addr) (n1 c1 : Nat) (la : List Int) (a2 : Option Addr) (n2 c2 : Nat) (lb : List Int) (w : World) (_w0 : (Lit.int .i64 nodes).wf = true) (_w1 : (Lit.int .i64 write).wf = true) (_w2 : (Lit.int .i64 read).wf = true)
    (h1 : IntsV w (a1, n1, c1) la) (_s1 : n1 * 8 ≤ 140737488351232) (_z1 : ∀ z ∈ la, (Lit.int .i64 z).wf = true) (h2 : IntsV w (a2, n2, c2) lb) (_s2 : n2 * 8 ≤ 140737488351232) (_z2 : ∀ z ∈ lb, (Lit.int .i64 z).wf = true) :
    Calls Try.prog 6 #[.int .i64 nodes, .int .i64 write, .int .i64 read, .slice a1 n1 c1, .slice a2 n2 c2] w fun x w' => x = .returned (.bool true) ∧ Below w.heap.size w w' := by
  by_cases h : 1 ≤ nodes ∧ nodes ≤ 8 ∧ 1 ≤ write ∧ 1 ≤ read ∧ write ≤ 8 ∧ read ≤ 8 ∧ nodes < write + read ∧ n1 ≤ 100 ∧ n2 ≤ 100
  · obtain ⟨g0, g1, g2, g3, g4, g5, g6, g7, g8⟩ := h
    obtain ⟨N, rfl⟩ := Int.eq_ofNat_of_zero_le (show 0 ≤ nodes by omega)
    exact meets_good N write read a1 n1 c1 la a2 n2 c2 lb w g0 g1 g2 g3 g4 g5 g6 g7 g8 h1 h2
  · exact meets_bad nodes write read a1 n1 c1 a2 n2 c2 w h h1.small h2.small
end Go.Proofs.Ytehaijdbmnljnaa
