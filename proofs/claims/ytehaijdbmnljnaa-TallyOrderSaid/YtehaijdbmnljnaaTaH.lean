/-
  tally: the walk of TallyOrder.
-/
import Derived.Test.YtehaijdbmnljnaaTaG
import Derived.Deep.RegionHeld3
namespace Go.Proofs.Ytehaijdbmnljnaa
open Go.RowKit

theorem ownslice_nil (w : World) : IntsV w (none, 0, 0) [] := intsV_nil w

set_option maxRecDepth 10000 in
set_option maxHeartbeats 4000000 in
theorem order_bad (nodes need : Int) (a1 : Option Addr) (n1 c1 : Nat) (a2 : Option Addr) (n2 c2 : Nat) (w : World) (h : 100 < n1 ∨ 100 < n2) (hs1 : n1 ≤ 140737488355328) (hs2 : n2 ≤ 140737488355328) :
    Calls Try.prog 5 #[.int .i64 nodes, .int .i64 need, .slice a1 n1 c1, .slice a2 n2 c2] w fun x w' => x = .returned (.bool true) ∧ Below w.heap.size w w' := by
  have KA := alive_any
  by_cases h1 : n1 ≤ 100
  · have h2 : 100 < n2 := by omega
    clear h
    go_enter Try.func5, Try.ntmps5
    go_wp2_with (first
      | (go_at_call 8; (with_reducible refine (KA _).mono ?_); rintro e w1 ⟨rfl, hb1⟩))
    go_ret
    exact ⟨rfl, hb1⟩
  · have h2 : 100 < n1 := by omega
    clear h h1
    go_enter Try.func5, Try.ntmps5
    go_wp2_with (first
      | (go_at_call 8; (with_reducible refine (KA _).mono ?_); rintro e w1 ⟨rfl, hb1⟩))
    go_ret
    exact ⟨rfl, hb1⟩

set_option maxRecDepth 10000 in
set_option maxHeartbeats 8000000 in
theorem order_good (nodes need : Int) (N : Nat) (hN : nodesOf nodes = N) (a1 : Option Addr) (n1 c1 : Nat) (la : List Int) (a2 : Option Addr) (n2 c2 : Nat) (lb : List Int) (w : World) (g7 : n1 ≤ 100) (g8 : n2 ≤ 100) (hI1 : IntsV w (a1, n1, c1) la) (hI2 : IntsV w (a2, n2, c2) lb) :
    Calls Try.prog 5 #[.int .i64 nodes, .int .i64 need, .slice a1 n1 c1, .slice a2 n2 c2] w fun x w' => x = .returned (.bool true) ∧ Below w.heap.size w w' := by
  have KA := alive_any
  have HL1 := Lib.hid hI1.length
  have HL2 := Lib.hid hI2.length
  go_enter Try.func5, Try.ntmps5
  go_wp2_with (first
    | (go_at_call 8; (with_reducible refine (KA _).mono ?_); rintro e w1 ⟨rfl, hb1⟩))
  clear KA
  go_loopw [9] (fun i wr => ∃ p : Nat, p ≤ n1 ∧ i = .int .i64 p ∧ Hid (∀ i j, i < p → j < n2 → la.getD i 0 ≠ lb.getD j 0) ∧ Below w.heap.size w wr) (fun i _ => n1 - (intOf i).toNat)
  case atStart => exact ⟨0, Nat.zero_le _, rfl, Lib.hid (fun i j hi => absurd hi (by omega)), hb1⟩
  case round =>
    clear hb1
    obtain ⟨p, hp, rfl, HN, hbr⟩ := hrel
    by_cases hpn : p < n1
    · go_wp2
      go_loopw [10] (fun i wr => ∃ q : Nat, q ≤ n2 ∧ i = .int .i64 q ∧ Hid (∀ j, j < q → la.getD p 0 ≠ lb.getD j 0) ∧ Below w.heap.size w wr) (fun i _ => n2 - (intOf i).toNat)
      case atStart => exact ⟨0, Nat.zero_le _, rfl, Lib.hid (fun j hj => absurd hj (by omega)), hbr⟩
      case round =>
        clear hbr
        obtain ⟨q, hq, rfl, HQ, hbr⟩ := hrel
        by_cases hqn : q < n2
        · obtain ⟨b1, o1, x1, hc1⟩ := (hI1.below hbr).row.2 (by simp; omega)
          obtain ⟨b2, o2, x2, hc2⟩ := (hI2.below hbr).row.2 (by simp; omega)
          simp only at x1 x2
          subst x1 x2
          have d1 := (hc1 p hpn).trans (iv_getD (by rw [HL1.out]; exact hpn))
          have d2 := (hc2 q hqn).trans (iv_getD (by rw [HL2.out]; exact hqn))
          clear hc1 hc2
          obtain ⟨x, hx⟩ : ∃ x, x = la.getD p 0 := ⟨_, rfl⟩
          obtain ⟨y, hy⟩ : ∃ y, y = lb.getD q 0 := ⟨_, rfl⟩
          rw [← hx] at d1
          rw [← hy] at d2
          have HX := Lib.hid hx
          have HY := Lib.hid hy
          clear hx hy
          by_cases hin : x = y
          · subst hin
            go_wp2
            go_quiet (fail)
            all_goals go_wp2
            all_goals go_ret
            all_goals exact ⟨rfl, below_drewNt hbr _⟩
          · have hq2 : ∀ j, j < q + 1 → la.getD p 0 ≠ lb.getD j 0 := by
              intro j hj
              by_cases e : j = q
              · subst e; rw [← HX.out, ← HY.out]; exact hin
              · exact HQ.out j (by omega)
            have HQ2 := Lib.hid hq2
            have h1' : (x == y) = false := by simpa using hin
            clear hq2 hin
            go_wp2
            go_quiet (fail)
            all_goals go_wp2
            all_goals go_roundw
            case rel => exact ⟨q + 1, by omega, by go_num, HQ2, below_drewNt hbr _⟩
            case measure => simp [intOf]; omega
        · obtain rfl : q = n2 := by omega
          have hp2 : ∀ i j, i < p + 1 → j < q → la.getD i 0 ≠ lb.getD j 0 := by
            intro i j hi hj
            by_cases e : i = p
            · subst e; exact HQ.out j hj
            · exact HN.out i j (by omega) hj
          have HP2 := Lib.hid hp2
          clear hp2
          go_wp2
          go_roundw
          case rel => exact ⟨p + 1, by omega, by go_num, HP2, hbr⟩
          case measure => simp [intOf]; omega
    · obtain rfl : p = n1 := by omega
      have hJ1 := hI1.below hbr
      have hJ2 := hI2.below hbr
      go_wp2_with (first
        | (go_at_call 9; (with_reducible refine (new_any nodes need wr).mono ?_); rw [hN]; rintro e w2 ⟨rfl, hX2, hd2⟩; have hb2 := trans_belowT hbr hd2 hbr.size)
        | (go_at_call 9; (with_reducible refine (new_any nodes need w2).mono ?_); rw [hN]; rintro e w3 ⟨rfl, hY3, hd3⟩; have hb3 := trans_belowT hb2 hd3 hb2.size; have hX3 := hX2.below hd3)
        | (go_at_call 23; (with_reducible refine (copyInts_any _ _ _ la w3 (hI1.below hb3) (by omega)).mono ?_); rintro e w4 ⟨ad4, cap4, rfl, hown4, hd4⟩; have hb4 := trans_belowT hb3 hd4 hb3.size; have hX4 := hX3.below hd4; have hY4 := hY3.below hd4; obtain ⟨hJ4, hB4⟩ := intsV_own hown4 (by rw [HL1.out]; omega))
        | (go_at_call 22; (with_reducible refine (yes_any wr.heap.size need zeros N _ _ _ la w4 hX4 hJ4 (ne_base hB4 hX3.v.lt)).mono ?_); rintro e w5 ⟨rfl, hX5, hg5⟩; have hb5 := grow_more hb4 hg5 hbr.size hb4.size; have hY5 := hY4.other hg5 (Nat.ne_of_gt hX2.v.lt))
        | (go_at_call 23; (with_reducible refine (copyInts_any _ _ _ lb w5 (hI2.below hb5) (by omega)).mono ?_); rintro e w6 ⟨ad6, cap6, rfl, hown6, hd6⟩; have hb6 := trans_belowT hb5 hd6 hb5.size; have hX6 := hX5.below hd6; have hY6 := hY5.below hd6; obtain ⟨hJ6, hB6⟩ := intsV_own hown6 (by rw [HL2.out]; omega))
        | (go_at_call 24; (with_reducible refine (no_any wr.heap.size need (steps N 1 zeros la) N _ _ _ lb w6 hX6 hJ6 (ne_base hB6 hX5.v.lt)).mono ?_); rintro e w7 ⟨rfl, hX7, hg7⟩; have hb7 := grow_more hb6 hg7 hbr.size hb6.size; have hY7 := hY6.other hg7 (Nat.ne_of_gt hX2.v.lt)))
      have hxy : wr.heap.size < w2.heap.size := hX2.v.lt
      have hyw : w.heap.size ≤ w2.heap.size := hb2.size
      clear hX2 hX3 hX4 hX5 hX6 hY3 hY4 hY5 hY6 hd2 hd3 hd4 hd6 hg5 hg7 hb3 hb4 hb5 hb6 hown4 hown6 hJ4 hJ6 hB4 hB6 hJ1 hJ2 hb2
      obtain ⟨sA, hsA⟩ : ∃ sA, sA = steps N 2 (steps N 1 zeros la) lb := ⟨_, rfl⟩
      rw [← hsA] at hX7
      have HSA := Lib.hid hsA
      clear hsA
      have hbs := hbr.size
      generalize wr.heap.size = bx at hX7 hxy hbs ⊢
      generalize w2.heap.size = bY at hY7 hxy hyw ⊢
      have hT0 := told_start N la lb
      rw [HL2.out] at hT0
      go_loopw [13] (fun i wr3 => ∃ k : Nat, k ≤ n2 ∧ i = .int .i64 ((k : Int) - 1) ∧ (∃ sd, TallyI wr3 bY need sd N ∧ Hid (Told N la lb k la.length sd)) ∧ TallyI wr3 bx need sA N ∧ Below w.heap.size w wr3) (fun i _ => (intOf i + 1).toNat)
      case atStart => exact ⟨n2, Nat.le_refl _, rfl, ⟨zeros, hY7, Lib.hid hT0⟩, hX7, hb7⟩
      case round =>
        clear hX7 hY7 hb7
        obtain ⟨k, hk, rfl, ⟨sd, hY, HT⟩, hX, hb⟩ := hrel
        rcases Nat.eq_zero_or_pos k with rfl | hk0
        · have hT1 := HT.out
          rw [HL1.out] at hT1
          have HT1 := Lib.hid hT1
          clear hT1 HT hT0 hk
          rw [show ((0 : Nat) : Int) - 1 = -1 from rfl]
          go_wp2
          go_loopw [14] (fun i wr3 => ∃ m : Nat, m ≤ p ∧ i = .int .i64 ((m : Int) - 1) ∧ (∃ sd, TallyI wr3 bY need sd N ∧ Hid (Told N la lb 0 m sd)) ∧ TallyI wr3 bx need sA N ∧ Below w.heap.size w wr3) (fun i _ => (intOf i + 1).toNat)
          case atStart => exact ⟨p, Nat.le_refl _, rfl, ⟨sd, hY, HT1⟩, hX, hb⟩
          case round =>
            clear hX hY hb HT1
            obtain ⟨m, hm, rfl, ⟨sd, hY, HT⟩, hX, hb⟩ := hrel
            rcases Nat.eq_zero_or_pos m with rfl | hm0
            · have hsame := told_same HT.out (by rw [HL1.out, HL2.out]; exact HN.out)
              have hSD := HSA.out.trans hsame
              rw [hSD] at hX
              clear hsame hSD HT hm HSA
              obtain ⟨v1, hv1⟩ : ∃ v, decide (need ≤ cnt sd N 1) = v := ⟨_, rfl⟩
              obtain ⟨v2, hv2⟩ : ∃ v, decide ((cnt sd N 1 : Int) + cnt sd N 0 < need) = v := ⟨_, rfl⟩
              have hle : (silent sd N).length ≤ 140737488355328 := by have := silent_length sd N; have := hX.le; omega
              have HV1 := Lib.hid hv1
              have HV2 := Lib.hid hv2
              clear hv1 hv2
              rw [show ((0 : Nat) : Int) - 1 = -1 from rfl]
              go_wp2_with (first
                | (go_at_call 14; (with_reducible refine (count_any bx need sd N wr hX).mono ?_); rintro e w1 ⟨rfl, hd1⟩; have hb1 := trans_belowT hb hd1 hb.size; have hX1 := hX.below hd1; have hY1 := hY.below hd1)
                | (go_at_call 14; (with_reducible refine (count_any bY need sd N w1 hY1).mono ?_); rintro e w2 ⟨rfl, hd2⟩; have hb2 := trans_belowT hb1 hd2 hb1.size; have hX2 := hX1.below hd2; have hY2 := hY1.below hd2)
                | (go_at_call 16; (with_reducible refine (done_is hX2 v1 HV1.out).mono ?_); rintro e w3 ⟨rfl, hd3⟩; have hb3 := trans_belowT hb2 hd3 hb2.size; have hX3 := hX2.below hd3; have hY3 := hY2.below hd3)
                | (go_at_call 16; (with_reducible refine (done_is hY3 v1 HV1.out).mono ?_); rintro e w4 ⟨rfl, hd4⟩; have hb4 := trans_belowT hb3 hd4 hb3.size; have hX4 := hX3.below hd4; have hY4 := hY3.below hd4)
                | (go_at_call 18; (with_reducible refine (lost_is hX4 v2 HV2.out).mono ?_); rintro e w5 ⟨rfl, hd5⟩; have hb5 := trans_belowT hb4 hd5 hb4.size; have hX5 := hX4.below hd5; have hY5 := hY4.below hd5)
                | (go_at_call 18; (with_reducible refine (lost_is hY5 v2 HV2.out).mono ?_); rintro e w6 ⟨rfl, hd6⟩; have hb6 := trans_belowT hb5 hd6 hb5.size; have hX6 := hX5.below hd6; have hY6 := hY5.below hd6)
                | (go_at_call 21; (with_reducible refine (waiting_any bx need sd N w6 hX6).mono ?_); rintro e w7 ⟨ad7, cap7, rfl, hown7, hd7⟩; have hb7 := trans_belowT hb6 hd7 hb6.size; have hY7 := hY6.below hd7; have hI7 := (intsV_own hown7 hle).1)
                | (go_at_call 21; (with_reducible refine (waiting_any bY need sd N w7 hY7).mono ?_); rintro e w8 ⟨ad8, cap8, rfl, hown8, hd8⟩; have hb8 := trans_belowT hb7 hd8 hb7.size; have hI8 := (intsV_own hown8 hle).1; have hI7' := hI7.below hd8)
                | (go_at_call 20; (with_reducible refine (sameInts_any _ _ _ (silent sd N) _ _ _ (silent sd N) w8 hI7' hI8).mono ?_); rintro e w9 ⟨rfl, hd9⟩; have hb9 := trans_belowT hb8 hd9 hb8.size; rw [decide_eq_true (rfl : silent sd N = silent sd N)]))
              all_goals go_ret
              all_goals exact ⟨rfl, hb9⟩
            · obtain ⟨j, rfl⟩ : ∃ j, m = j + 1 := ⟨m - 1, by omega⟩
              rw [show ((j + 1 : Nat) : Int) - 1 = (j : Int) by omega]
              obtain ⟨b2, o2, x2, hc2⟩ := (hI1.below hb).row.2 (by simp; omega)
              simp only at x2
              subst x2
              have d2 := (hc2 j (by simp; omega)).trans (iv_getD (by rw [HL1.out]; omega))
              clear hc2
              have hT1 := told_yes HT.out (by rw [HL1.out]; omega)
              obtain ⟨y, hy⟩ : ∃ y, y = la.getD j 0 := ⟨_, rfl⟩
              rw [← hy] at d2 hT1
              have HT1 := Lib.hid hT1
              clear hT1 hy
              have hjn : j < p := by omega
              go_wp2_with (first
                | (go_at_call 22; (with_reducible refine (yes_any bY need sd N _ _ _ [y] _ (hY.alloc _) (lit1 wr y) (ne_new hY.v.lt)).mono ?_); rintro e w4 ⟨rfl, hY4, hg4⟩; have hb4 := grow_alloc hb hg4 hyw hb.size; have hX4 := (hX.alloc _).other hg4 (Nat.ne_of_lt hxy))
                | (go_at_call 22; (with_reducible refine (yes_any bY need (steps N 1 sd [y]) N _ _ _ [] w4 hY4 (intsV_nil _) (fun a ha => by cases ha)).mono ?_); rintro e w5 ⟨rfl, hY5, hg5⟩; have hb5 := grow_more hb4 hg5 hyw hb4.size; have hX5 := hX4.other hg5 (Nat.ne_of_lt hxy)))
              go_roundw
              case rel => exact ⟨j, by omega, by go_num, ⟨_, hY5, HT1⟩, hX5, hb5⟩
              case measure => simp [intOf] <;> omega
        · obtain ⟨j, rfl⟩ : ∃ j, k = j + 1 := ⟨k - 1, by omega⟩
          rw [show ((j + 1 : Nat) : Int) - 1 = (j : Int) by omega]
          obtain ⟨b2, o2, x2, hc2⟩ := (hI2.below hb).row.2 (by simp; omega)
          simp only at x2
          subst x2
          have d2 := (hc2 j (by simp; omega)).trans (iv_getD (by rw [HL2.out]; omega))
          clear hc2
          have hT1 := told_no HT.out (by rw [HL2.out]; omega)
          obtain ⟨y, hy⟩ : ∃ y, y = lb.getD j 0 := ⟨_, rfl⟩
          rw [← hy] at d2 hT1
          have HT1 := Lib.hid hT1
          clear hT1 hy
          go_wp2
          have hjn : j < n2 := by omega
          have hlt2 : b2 < w.heap.size := hI2.row.lt (by simp; omega) rfl
          go_region_held3 (fun w' => w'.cell? ⟨b2, o2 + j, none⟩ = some (.int .i64 y)) (first | exact d4 | go_keep)
            (first
              | (go_at_call 24; (with_reducible refine (no_any bY need sd N _ _ _ [y, y] _ ?hT ?hI ?hne).mono ?_); (case hT => exact (hY.alloc (.cells #[.int .i64 y, .int .i64 y] 3)).of_heap rfl); (case hI => exact (lit2 wr y y).below ⟨rfl, rfl, rfl, Nat.le_refl _, fun _ _ => rfl⟩); (case hne => exact ne_new hY.v.lt); rintro e w4 ⟨rfl, hY4, hg4⟩; have hg4' : (wr.alloc (.cells #[.int .i64 y, .int .i64 y] 3)).grownBy w4 (some bY) := ⟨hg4.os, hg4.tape, hg4.output, hg4.size, hg4.block⟩; have hb4 := grow_alloc hb hg4' hyw hb.size; have d4 := (hb4.cell (p := ⟨b2, o2 + j, none⟩) hlt2).trans ((hb.cell hlt2).symm.trans d2); have hX4 := (hX.alloc _).other hg4' (Nat.ne_of_lt hxy)))
          all_goals go_wp2
          all_goals (go_roundw; (case rel => exact ⟨j, by omega, by go_num, ⟨_, hY4, HT1⟩, hX4, hb4⟩); (case measure => (simp [intOf] <;> omega)))

theorem tallyOrder_walk (nodes need : Int) (a1 : Option Addr) (n1 c1 : Nat) (la : List Int) (a2 : Option Addr) (n2 c2 : Nat) (lb : List Int) (w : World) (_w0 : (Lit.int .i64 nodes).wf = true) (_w1 : (Lit.int .i64 need).wf = true)
    (h1 : IntsV w (a1, n1, c1) la) (_s1 : n1 * 8 ≤ 140737488351232) (_z1 : ∀ z ∈ la, (Lit.int .i64 z).wf = true) (h2 : IntsV w (a2, n2, c2) lb) (_s2 : n2 * 8 ≤ 140737488351232) (_z2 : ∀ z ∈ lb, (Lit.int .i64 z).wf = true) :
    Calls Try.prog 5 #[.int .i64 nodes, .int .i64 need, .slice a1 n1 c1, .slice a2 n2 c2] w fun x w' => x = .returned (.bool true) ∧ Below w.heap.size w w' := by
  by_cases h : n1 ≤ 100 ∧ n2 ≤ 100
  · exact order_good nodes need _ rfl a1 n1 c1 la a2 n2 c2 lb w h.1 h.2 h1 h2
  · exact order_bad nodes need a1 n1 c1 a2 n2 c2 w (by omega) h1.small h2.small
end Go.Proofs.Ytehaijdbmnljnaa
