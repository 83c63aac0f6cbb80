/-
  tally: the reference's Say, Of, Done, Lost.
-/
import Derived.Test.YtehaijdbmnljnaaTaM
namespace Go.Proofs.Ytehaijdbmnljnaa
open Go.RowKit

theorem refSay_any (need node x : Int) (N : Nat) (ad : Option Addr) (cap : Nat) (sd : List Int) (w : World) (hI : IntsV w (ad, N, cap) sd) (hN : N ≤ 8) :
    Calls Try.prog 13 #[.agg #[.slice ad N cap, .int .i64 need], .int .i64 node, .int .i64 x] w fun e w' => ∃ ad' cap', e = .returned (.agg #[.slice ad' N cap', .int .i64 need]) ∧ IntsV w' (ad', N, cap') (step1 N x sd node) ∧ (ad' = ad ∨ ∀ a, ad' = some a → w.heap.size + 2 ≤ a.block) ∧ Below w.heap.size w w' := by
  by_cases h : 0 ≤ node ∧ node < N ∧ sd.getD node.toNat 0 = 0
  · have e : step1 N x sd node = sd.set node.toNat x := if_pos h
    rw [e]
    obtain ⟨i, rfl⟩ := Int.eq_ofNat_of_zero_le h.1
    exact (refSay_turns need x i N ad cap sd w hI hN (by omega) (by simpa using h.2.2)).mono fun e w' ⟨ad', cap', h1, h2, h3, h4⟩ => ⟨ad', cap', h1, h2, Or.inr h3, h4⟩
  · have e : step1 N x sd node = sd := if_neg h
    rw [e]
    refine (refSay_stays need node x N ad cap sd w hI hN ?_).mono fun e w' ⟨h1, h2, h3⟩ => ⟨ad, cap, h1, h2, Or.inl rfl, h3⟩
    by_cases h0 : node < 0
    · exact Or.inl h0
    · by_cases h1 : (N : Int) ≤ node
      · exact Or.inr (Or.inl h1)
      · exact Or.inr (Or.inr ⟨by omega, by omega, fun hz => h ⟨by omega, by omega, hz⟩⟩)

set_option maxRecDepth 10000 in
set_option maxHeartbeats 4000000 in
theorem of_any (need x : Int) (N : Nat) (ad : Option Addr) (cap : Nat) (sd : List Int) (w : World) (hI : IntsV w (ad, N, cap) sd) (hN : N ≤ 8) :
    Calls Try.prog 15 #[.agg #[.slice ad N cap, .int .i64 need], .int .i64 x] w (GivesInts 3 w (those sd x N)) := by
  obtain ⟨i0, hi, hz0, hz1, hz2⟩ := info_partsT Try.infoInt
  have hl : sd.length = N := hI.length
  obtain ⟨w1, hw1⟩ : ∃ w1, w1 = w.alloc (.cells #[.slice ad N cap, .int .i64 need] 28) := ⟨_, rfl⟩
  have hs1 : w1.heap.size = w.heap.size + 1 := by rw [hw1]; simp
  have hA : w1.heap[w.heap.size]? = some (.cells #[.slice ad N cap, .int .i64 need] 28 (0, 0)) := by rw [hw1]; exact heap_alloc_new _ _
  have hb1 : Below w.heap.size w w1 := by rw [hw1]; exact below_alloc _ _
  have hown0 := World.ownsRow_made (base := w1.heap.size) (e := 3) (size := 1) w1 #[] 0 (Nat.le_refl _) (by simp [maxLen]) rfl
  rw [hs1] at hown0
  have hb2 := hb1.alloc hb1.size (.cells #[] 3)
  have hA2 := (heap_alloc_old w1 (.cells #[] 3) (by omega)).trans hA
  have hs2 : w.heap.size + 1 ≤ (w1.alloc (.cells #[] 3)).heap.size := by simp; omega
  rw [hw1] at hown0 hb2 hA2 hs2
  clear hw1 hs1 hA hb1 w1
  have HL := Lib.hid hl
  have HA2 := Lib.hid hA2
  clear hl hA2
  go_enter Try.func15, Try.ntmps15
  go_wp2
  go_loopw [5, 6] (fun v i wr => ∃ k : Nat, k ≤ N ∧ i = .int .i64 k ∧ wr.ownsRow (w.heap.size + 1) 3 1 v (those sd x k).length ((those sd x k).map iv) ∧ Hid (wr.heap[w.heap.size]? = some (.cells #[.slice ad N cap, .int .i64 need] 28 (0, 0))) ∧ Below w.heap.size w wr ∧ w.heap.size + 1 ≤ wr.heap.size) (fun _ i _ => (N - intOf i).toNat)
  case atStart => exact ⟨0, Nat.zero_le _, rfl, hown0, HA2, hb2, hs2⟩
  case round =>
    clear hown0 HA2 hb2 hs2
    obtain ⟨k, hk, rfl, hown, HA, hb, hs⟩ := hrel
    obtain ⟨ad2, cap2, rfl, hcase, _⟩ := ownsRow_parts hown
    have a0 : wr.cell? ⟨w.heap.size, 0, none⟩ = some (.slice ad N cap) := cell_of_row _ _ 0 _ _ _ HA.out
    have hsl := those_le sd x k
    by_cases hlt : k < N
    · obtain ⟨b3, o3, e3, hc3⟩ := (hI.below hb).row.2 (by simp; omega)
      simp only at e3
      subst e3
      have d1 := (hc3 k hlt).trans (iv_getD (by rw [HL.out]; exact hlt))
      clear hc3
      by_cases hy : sd.getD k 0 = x
      · rw [hy] at d1
        have hS : those sd x (k + 1) = those sd x k ++ [(k : Int)] := by simp only [those]; rw [if_pos hy]
        have HS := Lib.hid hS
        clear hS hy
        go_wp2_with (first | (at_builtin; refine wpList_append_row rfl (.tmp 22) (.tmp 24) 26 rfl (w.heap.size + 1) 3 i0 (.int .i64 0) 8 Try.underlying26 hi hz0 hz1 hz2 rfl _ _ _ rfl (hown.alloc _) (some ⟨wr.heap.size, 0, Option.none⟩) 1 1 [iv (k : Int)] rfl (rowV_lit _ _ _ _ _ _ rfl rfl rfl) (by intro h; cases h) (iv_ones [(k : Int)]) (by simp [maxLen]; omega) (by omega) (by simp; omega) ?_; intro v' w4 hown4 hgrow4 _))
        have hgrow5 := grownBy_trans (World.grownBy_alloc wr (.cells #[.int .i64 (k : Int)] 3) (Value.slice ad2 (those sd x k).length cap2).ownBlock) hgrow4
        have HA4 := Lib.hid ((hgrow5.block w.heap.size (by omega) (ne_own hown (by omega))).trans HA.out)
        have hb4 : Below w.heap.size w w4 := hb.grown hgrow5 hb.size (fun j hj => Nat.le_trans (Nat.le_succ _) (ownBlock_ge hown j hj))
        have hs4 := hgrow5.size
        clear hgrow4
        go_wp2
        go_roundw
        case rel =>
          refine ⟨k + 1, by omega, by go_num, ?_, HA4, hb4, by omega⟩
          rw [HS.out, List.map_append, List.length_append]
          exact hown4
        case measure => simp [intOf]; omega
      · have hS : those sd x (k + 1) = those sd x k := by simp only [those]; rw [if_neg hy, List.append_nil]
        have HS := Lib.hid hS
        obtain ⟨y, hye⟩ : ∃ y, y = sd.getD k 0 := ⟨_, rfl⟩
        rw [← hye] at d1 hy
        have hy' : (y == x) = false := by simpa using hy
        clear hS hy hye
        go_wp2
        go_roundw
        case rel =>
          refine ⟨k + 1, by omega, by go_num, ?_, HA, hb, hs⟩
          rw [HS.out]
          exact hown
        case measure => simp [intOf]; omega
    · obtain rfl : k = N := by omega
      go_wp2
      go_ret
      exact ⟨ad2, cap2, rfl, ownsRow_base hown (Nat.le_succ _), hb⟩
end Go.Proofs.Ytehaijdbmnljnaa
