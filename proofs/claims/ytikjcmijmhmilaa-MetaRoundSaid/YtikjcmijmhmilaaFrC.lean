/-
  slices: Clone, Grow of nil, Concat, of bytes.
-/
import Derived.Test.YtikjcmijmhmilaaUse2
import Derived.Lib.AppendZerosOnto
namespace Go.Proofs.Ytikjcmijmhmilaa
open Go.RowKit

set_option maxRecDepth 100000 in
set_option maxHeartbeats 1000000 in
theorem clone_any (ad : Option Addr) (n c : Nat) (l : List Nat) (w : World) (h : BytesV w (ad, n, c) l) :
    Calls Try.prog 55 #[.slice ad n c] w (GivesBytes 5 w l) := by
  obtain ⟨i0, hi, hz0, hz1, hz2⟩ := info_parts Try.info5
  have hsm : n ≤ 140737488355328 := h.small
  have hl : l.length = n := h.length
  have hr := h.row.below (below_alloc w (.cells #[] 5))
  have hnil := h.nil
  have hown0 := World.ownsRow_made (base := w.heap.size) (e := 5) (size := 1) w #[] 0 (Nat.le_refl _) (by simp [maxLen]) rfl
  have hnl := fun (w : World) => @Lib.run_eql_slice_nil Try.prog w
  cases ad with
  | none =>
    have hn : n = 0 := by
      rcases Nat.eq_zero_or_pos n with h0 | h0
      · exact h0
      · obtain ⟨_, _, hh, _⟩ := h.row.2 h0; cases hh
    subst hn
    have hc : c = 0 := hnil rfl
    subst hc
    have hl0 : l = [] := List.eq_nil_of_length_eq_zero hl
    subst hl0
    clear h hl hr hnil hown0 hi hz0 hz1 hz2
    go_enter Try.func55, Try.ntmps55
    go_wp2
    go_ret
    exact ⟨none, 0, rfl, World.ownsRow_nil _ _ _ _, Below.refl _ _⟩
  | some ad =>
    have HL := Lib.hid hl
    clear h hl
    go_enter Try.func55, Try.ntmps55
    go_wp2_with (first | (at_builtin; refine wpList_append_row rfl _ _ 32 rfl w.heap.size 5 i0 (.int .u8 0) 1 Try.underlying32 hi hz0 hz1 hz2 rfl _ _ _ rfl hown0 (some ad) n c (l.map bv) rfl hr hnil (bv_one l) (by simp [maxLen]; omega) (by omega) (by simp) ?_; intro v' w1 hown1 hgrow1 hnil1))
    obtain ⟨ad', cap', rfl, _⟩ := ownsRow_parts hown1
    have hb := below_grown (below_alloc w _) hgrow1 (ownBlock_ge hown0)
    simp only [Nat.zero_add, List.nil_append] at hown1 ⊢
    clear hgrow1 hnil1 hr
    go_wp2
    go_ret
    obtain rfl := HL.out
    exact ⟨ad', cap', rfl, hown1, hb⟩

end Go.Proofs.Ytikjcmijmhmilaa
