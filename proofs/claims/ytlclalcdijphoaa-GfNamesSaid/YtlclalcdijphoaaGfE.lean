/-
  rilllaw01: GfNames.
-/
import Derived.Test.YtlclalcdijphoaaGfA
import Derived.Test.YtlclalcdijphoaaMem
import Derived.BigQuiet
import Derived.Deep.QuietTactic
namespace Go.Proofs.Ytlclalcdijphoaa
open Go.RowKit

def nums1 : List Int := [10, 20, 21, 22, 30, 40, 41, 50, 51, 70, 71, 80, 81, 90, 100, 101, 102, 103, 104, 110, 120, 130, 160, 180, 200, 201]
def nums2 : List Int := [32, 64, 16777216, 1024, 32, 8, 4, 512, 32768, 65536, 400, 500]

set_option maxRecDepth 100000 in
set_option maxHeartbeats 1000000 in
theorem gfNames_walk (w : World) : Calls Try.prog 3 #[] w fun e w' => e = .returned (.bool true) ∧ Below w.heap.size w w' := by
  go_enter Try.func3, Try.ntmps3
  go_wp2_with fail
  refine (inv_zero w).mono ?_
  rintro e w' ⟨rfl, rfl⟩
  go_wp2
  go_loopw [5] (fun i wr => ∃ k : Nat, k ≤ 26 ∧ i = .int .i64 k ∧ RowV wr (some ⟨w.heap.size, 0, none⟩) 26 (nums1.map iv) ∧ RowV wr (some ⟨w.heap.size + 1, 0, none⟩) 26 (nums1.map iv) ∧ Below w.heap.size w wr) (fun i _ => (26 - intOf i).toNat)
  case atStart =>
    refine ⟨0, by omega, rfl, ?_, ?_, ?_⟩
    · exact RowV.alloc (rowV_lit _ _ _ _ _ _ rfl rfl rfl)
    · exact rowV_lit _ _ _ _ _ _ (by simp) rfl rfl
    · exact (below_alloc _ _).alloc (by simp) _
  case round =>
    obtain ⟨k, hk, rfl, h1, h2, hb⟩ := hrel
    by_cases hlt : k < 26
    · obtain ⟨b1, o1, e1, hc1⟩ := h1.2 (by omega)
      obtain ⟨b2, o2, e2, hc2⟩ := h2.2 (by omega)
      cases e1
      cases e2
      have d1 := (hc1 k hlt).trans (iv_getD (by exact hlt))
      have d2 := (hc2 k hlt).trans (iv_getD (by exact hlt))
      rw [Nat.zero_add] at d1 d2
      clear hc1 hc2
      obtain ⟨x, hx⟩ : ∃ x, x = nums1.getD k 0 := ⟨_, rfl⟩
      rw [← hx] at d1 d2
      clear hx
      have hg : decide ((26 : Int) ≤ (k : Int)) = false := by simp; omega
      go_wp2
      go_quiet (fail)
      go_wp2
      go_roundw
      case rel => exact ⟨k + 1, by omega, by go_num, h1, h2, below_drewN hb _⟩
      case measure => simp [intOf]; omega
    · clear h1 h2
      obtain ⟨S, hS⟩ : ∃ S, S = wr.heap.size := ⟨_, rfl⟩
      go_wp2
      go_loopw [8] (fun i ws => ∃ k : Nat, k ≤ 12 ∧ i = .int .i64 k ∧ RowV ws (some ⟨wr.heap.size, 0, none⟩) 12 (nums2.map iv) ∧ RowV ws (some ⟨wr.heap.size + 1, 0, none⟩) 12 (nums2.map iv) ∧ Below w.heap.size w ws) (fun i _ => (12 - intOf i).toNat)
      case atStart =>
        refine ⟨0, by omega, rfl, ?_, ?_, ?_⟩
        · exact RowV.alloc (rowV_lit _ _ _ _ _ _ rfl rfl rfl)
        · exact rowV_lit _ _ _ _ _ _ (by simp) rfl rfl
        · exact (hb.alloc hb.size _).alloc (by have := hb.size; simp; omega) _
      case round =>
        obtain ⟨j, hj, rfl, h1, h2, hb⟩ := hrel
        by_cases hlt2 : j < 12
        · obtain ⟨b1, o1, e1, hc1⟩ := h1.2 (by omega)
          obtain ⟨b2, o2, e2, hc2⟩ := h2.2 (by omega)
          cases e1
          cases e2
          have d1 := (hc1 j hlt2).trans (iv_getD (by exact hlt2))
          have d2 := (hc2 j hlt2).trans (iv_getD (by exact hlt2))
          rw [Nat.zero_add] at d1 d2
          clear hc1 hc2
          obtain ⟨x, hx⟩ : ∃ x, x = nums2.getD j 0 := ⟨_, rfl⟩
          rw [← hx] at d1 d2
          clear hx
          have hg : decide ((12 : Int) ≤ (j : Int)) = false := by simp; omega
          go_wp2
          go_quiet (fail)
          go_wp2
          go_roundw
          case rel => exact ⟨j + 1, by omega, by go_num, h1, h2, below_drewN hb _⟩
          case measure => simp [intOf]; omega
        · go_wp2
          go_ret
          exact ⟨rfl, hb⟩

end Go.Proofs.Ytlclalcdijphoaa
