/-
  tuple: Degree, and the reference's.
-/
import Derived.Test.YtlmnijcocfjpoaaDoorTuC
namespace Go.Proofs.YtlmnijcocfjpoaaDoor
open Go.RowKit

theorem bnds_get {k : Nat} (hk : k < 30) : bndsV[k]? = some (.int .i64 (bnds.getD k 0)) := by
  have : bnds.length = 30 := rfl
  unfold bndsV
  simp [List.getElem?_map, List.getD, List.getElem?_eq_getElem (show k < bnds.length by omega)]
theorem cnt_succ (v : Int) (k : Nat) : cnt v (k + 1) = if bnds.getD k 0 ≤ v then cnt v k + 1 else cnt v k := rfl
theorem bnds_range (k : Nat) : 0 ≤ bnds.getD k 0 ∧ bnds.getD k 0 ≤ 1048576 := by
  by_cases hk : k < 30
  · have : ∀ j < 30, 0 ≤ bnds.getD j 0 ∧ bnds.getD j 0 ≤ 1048576 := by decide +kernel
    exact this k hk
  · have : bnds.length = 30 := rfl
    simp [List.getD, List.getElem?_eq_none (show bnds.length ≤ k by omega)]

set_option maxRecDepth 10000 in
set_option maxHeartbeats 1000000 in
theorem degree_any (v x : Int) (w : World) (t : TypeId) (fr : Nat × Nat) (hx : -9223372036854775808 ≤ x ∧ x ≤ 9223372036854775807) (hg : w.heap[0]? = some (.cells bndsV t fr)) :
    Calls Tryd.prog 13 #[.int .i64 v, .int .i64 x] w fun e w' => e = .returned (.int .i64 (degS v x)) ∧ w = w' := by
  obtain ⟨hx0, hx1⟩ := hx
  go_enter Tryd.func13, Tryd.ntmps13
  go_wp2_with (refine wpList_load_row rfl 41 _ rfl 0 rfl t _ fr _ hg Tryd.underlying41 rfl (by kernel_rfl) ?_)
  go_loop [5, 9] (fun d i => ∃ k : Nat, k ≤ 30 ∧ d = .int .i64 (min (1 + cnt v k) 30 : Nat) ∧ i = .int .i64 (k : Int)) (fun d i => (30 - intOf i).toNat)
  case atStart => exact ⟨0, by omega, rfl, rfl⟩
  case round =>
    obtain ⟨k, hk, rfl, rfl⟩ := hrel
    obtain ⟨b, hb⟩ : ∃ b, b = bnds.getD k 0 := ⟨_, rfl⟩
    have hbr := bnds_range k
    rw [← hb] at hbr
    obtain ⟨hb0, hb1⟩ := hbr
    have hs := cnt_succ v k
    rw [← hb] at hs
    have HS := Lib.hid hs
    clear hs
    have hc := cnt_le v k
    obtain ⟨c, hcd⟩ : ∃ c, c = cnt v k := ⟨_, rfl⟩
    rw [← hcd] at HS hc ⊢
    by_cases hlt : k < 30
    · have hget := bnds_get hlt
      rw [← hb] at hget
      have hix := run_index_in 41 3 30 _ bndsV .i64 k _ Tryd.underlying41 rfl rfl hlt hget Tryd.underlying3
      have HB := Lib.hid hb
      clear hb hget
      by_cases hbv : b ≤ v
      · by_cases hc30 : 1 + c < 30
        · have hm : min (1 + c) 30 = 1 + c := by omega
          rw [hm]
          go_wp2
          go_round
          case rel =>
            refine ⟨k + 1, by omega, ?_, by go_num⟩
            have := HS.out
            rw [if_pos hbv] at this
            rw [this]
            go_num
          case measure => simp [intOf]; omega
        · have hm : min (1 + c) 30 = 30 := by omega
          rw [hm]
          go_wp2
          go_round
          case rel =>
            refine ⟨k + 1, by omega, ?_, by go_num⟩
            have := HS.out
            rw [if_pos hbv] at this
            rw [this]
            have hm2 : min (1 + (c + 1)) 30 = 30 := by omega
            rw [hm2]
          case measure => simp [intOf]; omega
      · go_wp2
        go_round
        case rel =>
          refine ⟨k + 1, by omega, ?_, by go_num⟩
          have := HS.out
          rw [if_neg hbv] at this
          rw [this]
        case measure => simp [intOf]; omega
    · obtain rfl : k = 30 := by omega
      have hd : deg0 v = min (1 + c) 30 := by rw [hcd]; rfl
      obtain ⟨d, hdd⟩ : ∃ d, d = min (1 + c) 30 := ⟨_, rfl⟩
      rw [← hdd] at hd ⊢
      have hd30 : d ≤ 30 := by omega
      have HD := Lib.hid hd
      clear hd hdd hb hcd HS
      by_cases hxd : x < (d : Int) + 2
      · by_cases hx3 : x < 3
        · go_wp2
          go_ret
          refine ⟨ret_int ?_, rfl⟩
          have hm : max x 3 = 3 := by omega
          simp only [degS, HD.out]
          rw [if_pos hxd, hm]
          try omega
        · go_wp2
          go_ret
          refine ⟨ret_int ?_, rfl⟩
          have hm : max x 3 = x := by omega
          simp only [degS, HD.out]
          rw [if_pos hxd, hm]
      · go_wp2
        go_ret
        refine ⟨ret_int ?_, rfl⟩
        simp only [degS, HD.out]
        rw [if_neg (by omega)]

theorem spare_world (w : World) (cs : Array Value) (old : Array Value) (t : TypeId) (P : World → Prop) (h : ∀ W1, W1.heap[w.heap.size]? = some (.cells cs t (0, 0)) → Below w.heap.size w W1 → P W1) :
    P ((w.alloc (.cells old t (0, 0))).setRow w.heap.size cs) :=
  h _ (setRow_heap _ _ _ _ _ _ (heap_alloc_new _ _)) (by
    refine ⟨rfl, rfl, rfl, by simp, fun k hk => ?_⟩
    rw [setRow_other _ _ _ _ (by omega), heap_alloc_old _ _ hk])

set_option maxRecDepth 10000 in
set_option maxHeartbeats 1000000 in
theorem refDegree_any (v x : Int) (w : World) (hx : -9223372036854775808 ≤ x ∧ x ≤ 9223372036854775807) :
    Calls Tryd.prog 14 #[.int .i64 v, .int .i64 x] w fun e w' => e = .returned (.int .i64 (degS v x)) ∧ Below w.heap.size w w' := by
  obtain ⟨hx0, hx1⟩ := hx
  go_enter Tryd.func14, Tryd.ntmps14
  go_wp2_with ((with_reducible show wpList _ _ _ (⟨_, Op.store _ _ _, _, _, _, _⟩ :: _) _ _); (refine wpList_store_row rfl 41 (.tmp 5) (.tmp 8) rfl w.heap.size bndsV rfl rfl _ _ (heap_alloc_new _ _) (by kernel_rfl) rfl (by kernel_rfl) ?_); (refine spare_world w _ _ _ _ ?_); intro W1 hrow hbel)
  go_loop [6, 7] (fun d i => ∃ k : Nat, k ≤ 30 ∧ d = .int .i64 (1 + cnt v k : Nat) ∧ i = .int .i64 (k : Int)) (fun d i => (30 - intOf i).toNat)
  case atStart => exact ⟨0, by omega, rfl, rfl⟩
  case round =>
    obtain ⟨k, hk, rfl, rfl⟩ := hrel
    obtain ⟨b, hb⟩ : ∃ b, b = bnds.getD k 0 := ⟨_, rfl⟩
    have hbr := bnds_range k
    rw [← hb] at hbr
    obtain ⟨hb0, hb1⟩ := hbr
    have hs := cnt_succ v k
    rw [← hb] at hs
    have HS := Lib.hid hs
    clear hs
    have hc := cnt_le v k
    obtain ⟨c, hcd⟩ : ∃ c, c = cnt v k := ⟨_, rfl⟩
    rw [← hcd] at HS hc ⊢
    by_cases hlt : k < 30
    · have hget := bnds_get hlt
      rw [← hb] at hget
      have c1 : W1.cell? ⟨w.heap.size, k, none⟩ = some (.int .i64 b) := by
        rw [cell_of_row _ _ _ _ _ _ hrow, hget]
      have HB := Lib.hid hb
      clear hb hget
      by_cases hbv : b ≤ v
      · go_wp2
        go_round
        case rel =>
          refine ⟨k + 1, by omega, ?_, by go_num⟩
          have := HS.out
          rw [if_pos hbv] at this
          rw [this]
          go_num
        case measure => simp [intOf]; omega
      · go_wp2
        go_round
        case rel =>
          refine ⟨k + 1, by omega, ?_, by go_num⟩
          have := HS.out
          rw [if_neg hbv] at this
          rw [this]
        case measure => simp [intOf]; omega
    · obtain rfl : k = 30 := by omega
      have hd : deg0 v = min (1 + c) 30 := by rw [hcd]; rfl
      have HD := Lib.hid hd
      clear hd hb hcd HS
      by_cases hc30 : 30 < 1 + c
      · have hm : min (1 + c) 30 = 30 := by omega
        by_cases hxd : x < 32
        · by_cases hx3 : 3 < x
          · go_wp2
            go_ret
            refine ⟨ret_int ?_, hbel⟩
            simp only [degS, HD.out, hm]
            rw [if_pos (by omega), show max x 3 = x by omega]
          · go_wp2
            go_ret
            refine ⟨ret_int ?_, hbel⟩
            simp only [degS, HD.out, hm]
            rw [if_pos (by omega), show max x 3 = 3 by omega]
            try omega
        · go_wp2
          go_ret
          refine ⟨ret_int ?_, hbel⟩
          simp only [degS, HD.out, hm]
          rw [if_neg (by omega)]
          try omega
      · have hm : min (1 + c) 30 = 1 + c := by omega
        by_cases hxd : x < (c : Int) + 3
        · by_cases hx3 : 3 < x
          · go_wp2
            go_ret
            refine ⟨ret_int ?_, hbel⟩
            simp only [degS, HD.out, hm]
            rw [if_pos (by omega), show max x 3 = x by omega]
          · go_wp2
            go_ret
            refine ⟨ret_int ?_, hbel⟩
            simp only [degS, HD.out, hm]
            rw [if_pos (by omega), show max x 3 = 3 by omega]
            try omega
        · go_wp2
          go_ret
          refine ⟨ret_int ?_, hbel⟩
          simp only [degS, HD.out, hm]
          rw [if_neg (by omega)]
          try omega
end Go.Proofs.YtlmnijcocfjpoaaDoor
