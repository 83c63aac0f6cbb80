/-
  tally: say.
-/
import Derived.Test.YtehaijdbmnljnaaTaA
import Derived.IntWalk
namespace Go.Proofs.Ytehaijdbmnljnaa
open Go.RowKit

theorem wf_wrap (a : Int) (h : 0 ≤ a ∧ a < 100) : IntKind.i64.wrap a = a := wrap_i64_id a h.1 (by omega)

set_option maxRecDepth 10000 in
set_option maxHeartbeats 4000000 in
theorem say_one (x : Int) (hx : x = 1 ∨ x = 2) (b : Nat) (need : Int) (said : List Int) (N : Nat) (ad : Option Addr) (n c : Nat) (l : List Int) (w : World) (hT : TallyI w b need said N) (hI : IntsV w (ad, n, c) l) (hne : ∀ a, ad = some a → a.block ≠ b) :
    Calls Try.prog 25 #[.pointer (some ⟨b, 0, none⟩), .int .i64 x, .slice ad n c] w fun e w' => e = .returned (.tuple #[]) ∧ TallyI w' b need (steps N x said l) N ∧ w.grownBy w' (some b) := by
  have hl : l.length = n := hI.length
  have hsm : n ≤ 140737488355328 := hI.small
  have HL := Lib.hid hl
  clear hl
  go_enter Try.func25, Try.ntmps25
  go_wp2
  go_loopw [10] (fun i wr => ∃ k : Nat, k ≤ n ∧ i = .int .i64 k ∧ TallyI wr b need (steps N x said (l.take k)) N ∧ w.grownBy wr (some b)) (fun i _ => n - (intOf i).toNat)
  case atStart => exact ⟨0, Nat.zero_le _, rfl, hT, World.grownBy_refl _ _⟩
  case round =>
    obtain ⟨k, hk, rfl, hT2, hg⟩ := hrel
    by_cases hlt : k < n
    · have hI2 := hI.grown hg hne
      obtain ⟨b1, o1, e1, hc1⟩ := hI2.row.2 (by simp; omega)
      simp only at e1
      subst e1
      have d1 := (hc1 k hlt).trans (iv_getD (by rw [HL.out]; exact hlt))
      clear hc1 hI2
      have hT1 := take_snoc l k (by rw [HL.out]; exact hlt)
      obtain ⟨a, ha⟩ : ∃ a, a = l.getD k 0 := ⟨_, rfl⟩
      rw [← ha] at d1 hT1
      have hS := steps_snoc N x said (l.take k) a
      rw [← hT1] at hS
      have HS := Lib.hid hS
      clear ha hT1 hS
      obtain ⟨sd, hsd⟩ : ∃ sd, sd = steps N x said (l.take k) := ⟨_, rfl⟩
      rw [← hsd] at hT2 HS
      clear hsd
      obtain ⟨c0, c1, c9, c10, c11, c12, hfr⟩ := hT2.v.cells
      have hlen := hT2.len
      have hle := hT2.le
      by_cases hr : 0 ≤ a ∧ a < N
      · obtain ⟨i, rfl⟩ := Int.eq_ofNat_of_zero_le hr.1
        have hi : i < N := by omega
        have ci := c1 i (by omega)
        obtain ⟨y, hy⟩ : ∃ y, y = sd.getD i 0 := ⟨_, rfl⟩
        rw [← hy] at ci
        clear c1
        by_cases hy0 : y = 0
        · subst hy0
          have e1 : step1 N x sd (i : Int) = sd.set i x := by
            unfold step1
            rw [if_pos ⟨hr.1, hr.2, by simpa using hy.symm⟩]
            simp
          have hp := cnt_pos hi (by omega) hy.symm
          have hq0 := cnt_le sd N 0
          have hq1 := cnt_le sd N 1
          have hq2 := cnt_le sd N 2
          have HY := Lib.hid hy
          clear hy hr
          rw [e1] at HS
          clear e1
          rcases hx with rfl | rfl
          · go_wp2
            obtain ⟨w5, hw5⟩ : ∃ w5, w5 = wr.setCell ⟨b, 1 + i, none⟩ (.int .i64 1) := ⟨_, rfl⟩
            rw [← hw5]
            have T5 := hT2.v.setSaid (by omega : i < 8) hlen 1
            have G5 := grownBy_trans hg (grownBy_setCell wr ⟨b, 1 + i, none⟩ (.int .i64 1))
            rw [← hw5] at T5 G5
            clear c0 c9 c10 c11 c12 hfr hw5 d1 ci
            obtain ⟨c0, c1, c9, c10, c11, c12, hfr⟩ := T5.cells
            go_region
            obtain ⟨w6, hw6⟩ : ∃ w6, w6 = (w5.setCell ⟨b, 10, none⟩ (.int .i64 ((cnt sd N 0 : Int) - 1))).drew := ⟨_, rfl⟩
            rw [← hw6]
            have T6 := (T5.setCount (by omega : 0 < 3) ((cnt sd N 0 : Int) - 1)).drew
            have G6 := grownBy_drew (grownBy_trans G5 (grownBy_setCell w5 ⟨b, 10, none⟩ (.int .i64 ((cnt sd N 0 : Int) - 1))))
            rw [show (10 : Nat) + 0 = 10 from rfl, ← hw6] at T6
            rw [← hw6] at G6
            clear c0 c1 c9 c10 c11 c12 hfr hw6 T5 G5
            simp only [if_true, if_false, show ¬ ((0 : Nat) = 1) by omega, show ¬ ((0 : Nat) = 2) by omega] at T6
            obtain ⟨c0, c1, c9, c10, c11, c12, hfr⟩ := T6.cells
            go_wp2
            go_region
            obtain ⟨w7, hw7⟩ : ∃ w7, w7 = (w6.setCell ⟨b, 11, none⟩ (.int .i64 ((cnt sd N 1 : Int) + 1))).drew := ⟨_, rfl⟩
            rw [← hw7]
            have T7 := (T6.setCount (by omega : 1 < 3) ((cnt sd N 1 : Int) + 1)).drew
            have G7 := grownBy_drew (grownBy_trans G6 (grownBy_setCell w6 ⟨b, 11, none⟩ (.int .i64 ((cnt sd N 1 : Int) + 1))))
            rw [show (10 : Nat) + 1 = 11 from rfl, ← hw7] at T7
            rw [← hw7] at G7
            clear c0 c1 c9 c10 c11 c12 hfr hw7 T6 G6
            have hT7 : TallyI w7 b need (sd.set i 1) N := by
              refine ⟨?_, by simp [hlen], hle⟩
              have k0 := cnt_set hi (by omega) 1 0 (by omega) HY.out.symm
              have k1 := cnt_set hi (by omega) 1 1 (by omega) HY.out.symm
              have k2 := cnt_set hi (by omega) 1 2 (by omega) HY.out.symm
              simp at k0 k1 k2 T7
              rw [k0, k1, k2, Int.ofNat_sub hp, Int.natCast_add]
              exact T7
            clear T7
            go_wp2
            go_roundw
            case rel => exact ⟨k + 1, by omega, by go_num, by rw [HS.out]; exact hT7, G7⟩
            case measure => simp [intOf]; omega
          · go_wp2
            obtain ⟨w5, hw5⟩ : ∃ w5, w5 = wr.setCell ⟨b, 1 + i, none⟩ (.int .i64 2) := ⟨_, rfl⟩
            rw [← hw5]
            have T5 := hT2.v.setSaid (by omega : i < 8) hlen 2
            have G5 := grownBy_trans hg (grownBy_setCell wr ⟨b, 1 + i, none⟩ (.int .i64 2))
            rw [← hw5] at T5 G5
            clear c0 c9 c10 c11 c12 hfr hw5 d1 ci
            obtain ⟨c0, c1, c9, c10, c11, c12, hfr⟩ := T5.cells
            go_region
            obtain ⟨w6, hw6⟩ : ∃ w6, w6 = (w5.setCell ⟨b, 10, none⟩ (.int .i64 ((cnt sd N 0 : Int) - 1))).drew := ⟨_, rfl⟩
            rw [← hw6]
            have T6 := (T5.setCount (by omega : 0 < 3) ((cnt sd N 0 : Int) - 1)).drew
            have G6 := grownBy_drew (grownBy_trans G5 (grownBy_setCell w5 ⟨b, 10, none⟩ (.int .i64 ((cnt sd N 0 : Int) - 1))))
            rw [show (10 : Nat) + 0 = 10 from rfl, ← hw6] at T6
            rw [← hw6] at G6
            clear c0 c1 c9 c10 c11 c12 hfr hw6 T5 G5
            simp only [if_true, if_false, show ¬ ((0 : Nat) = 1) by omega, show ¬ ((0 : Nat) = 2) by omega] at T6
            obtain ⟨c0, c1, c9, c10, c11, c12, hfr⟩ := T6.cells
            go_wp2
            go_region
            obtain ⟨w7, hw7⟩ : ∃ w7, w7 = (w6.setCell ⟨b, 12, none⟩ (.int .i64 ((cnt sd N 2 : Int) + 1))).drew := ⟨_, rfl⟩
            rw [← hw7]
            have T7 := (T6.setCount (by omega : 2 < 3) ((cnt sd N 2 : Int) + 1)).drew
            have G7 := grownBy_drew (grownBy_trans G6 (grownBy_setCell w6 ⟨b, 12, none⟩ (.int .i64 ((cnt sd N 2 : Int) + 1))))
            rw [show (10 : Nat) + 2 = 12 from rfl, ← hw7] at T7
            rw [← hw7] at G7
            clear c0 c1 c9 c10 c11 c12 hfr hw7 T6 G6
            have hT7 : TallyI w7 b need (sd.set i 2) N := by
              refine ⟨?_, by simp [hlen], hle⟩
              have k0 := cnt_set hi (by omega) 2 0 (by omega) HY.out.symm
              have k1 := cnt_set hi (by omega) 2 1 (by omega) HY.out.symm
              have k2 := cnt_set hi (by omega) 2 2 (by omega) HY.out.symm
              simp at k0 k1 k2 T7
              rw [k0, k1, k2, Int.ofNat_sub hp, Int.natCast_add]
              exact T7
            clear T7
            go_wp2
            go_roundw
            case rel => exact ⟨k + 1, by omega, by go_num, by rw [HS.out]; exact hT7, G7⟩
            case measure => simp [intOf]; omega
        · have e1 : step1 N x sd (i : Int) = sd := by
            unfold step1
            rw [if_neg (fun h => hy0 (by rw [hy]; simpa using h.2.2))]
          rw [e1] at HS
          have hy1 : (y != 0) = true := by rw [bne_iff_ne]; exact hy0
          clear e1 hy
          go_wp2
          go_roundw
          case rel => exact ⟨k + 1, by omega, by go_num, by rw [HS.out]; exact hT2, hg⟩
          case measure => simp [intOf]; omega
      · have e1 : step1 N x sd a = sd := by
          unfold step1
          rw [if_neg (fun h => hr ⟨h.1, h.2.1⟩)]
        rw [e1] at HS
        clear e1 c1
        by_cases ha0 : a < 0
        · go_wp2
          go_roundw
          case rel => exact ⟨k + 1, by omega, by go_num, by rw [HS.out]; exact hT2, hg⟩
          case measure => simp [intOf]; omega
        · have haN : (N : Int) ≤ a := by omega
          go_wp2
          go_roundw
          case rel => exact ⟨k + 1, by omega, by go_num, by rw [HS.out]; exact hT2, hg⟩
          case measure => simp [intOf]; omega
    · obtain rfl : k = n := by omega
      have hF : l.take k = l := List.take_of_length_le (by rw [HL.out]; exact Nat.le_refl _)
      rw [hF] at hT2
      go_wp2
      go_end0
      exact ⟨rfl, hT2, hg⟩
end Go.Proofs.Ytehaijdbmnljnaa
