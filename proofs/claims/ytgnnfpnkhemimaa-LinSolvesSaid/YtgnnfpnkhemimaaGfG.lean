/-
  The reference's Scale and Mix (layer 1); Spare, CopyRows, SameRows.
-/
import Derived.Test.YtgnnfpnkhemimaaGfF
namespace Go.Proofs.Ytgnnfpnkhemimaa
open Go.RowKit

theorem scaleB_take (z : Nat) (a : List Nat) (k : Nat) (h : k < a.length) : (scaleB z a).take (k + 1) = (scaleB z a).take k ++ [mul z (a.getD k 0)] := by
  rw [List.take_succ_eq_append_getElem (by rw [scaleB_length]; exact h)]
  congr 2
  have := scaleB_getD z a k
  rw [List.getD_eq_getElem?_getD, List.getElem?_eq_getElem (by rw [scaleB_length]; exact h)] at this
  simpa using this

set_option maxRecDepth 10000 in
set_option maxHeartbeats 1000000 in
theorem refScale_any (z : Nat) (a1 : Option Addr) (n1 c1 : Nat) (l1 : List Nat) (w : World) (hz : z < 256) (h1 : BytesV w (a1, n1, c1) l1) :
    Calls Try.prog 45 #[.int .u8 (z : Int), .slice a1 n1 c1] w (GivesBytes 5 w (scaleB z l1)) := by
  obtain ⟨i0, hi, hz0, hz1, hz2⟩ := info_parts Try.info5
  have hl1 : l1.length = n1 := h1.length
  have hs1 : n1 ≤ 140737488355328 := h1.small
  have HL1 := Lib.hid hl1
  clear hl1
  have hown0 := World.ownsRow_made (base := w.heap.size) (e := 5) (size := 1) w #[] 0 (Nat.le_refl _) (by simp [maxLen]) rfl
  go_enter Try.func45, Try.ntmps45
  go_wp2
  go_loopw [5, 6] (fun v i wr => ∃ k : Nat, k ≤ n1 ∧ i = .int .i64 k ∧ wr.ownsRow w.heap.size 5 1 v k (((scaleB z l1).take k).map bv) ∧ Below w.heap.size w wr) (fun _ i _ => (n1 - intOf i).toNat)
  case atStart => exact ⟨0, Nat.zero_le _, rfl, by simpa using hown0, below_alloc _ _⟩
  case round =>
    obtain ⟨k, hk, rfl, hown, hb⟩ := hrel
    obtain ⟨ad, cap, rfl, hcase, _⟩ := ownsRow_parts hown
    have hbs := hb.size
    have hx1 := h1.bytes.getD k
    have hT := Lib.hid (scaleB_take z l1 k)
    obtain ⟨x, hx⟩ : ∃ x, x = l1.getD k 0 := ⟨_, rfl⟩
    rw [← hx] at hx1
    have hm := mul_lt (b := x) hz
    have HX := Lib.hid hx
    clear hx
    by_cases hlt : k < n1
    · obtain ⟨b1, o1, rfl, d1⟩ := (h1.below hb).cellAt k hlt
      rw [← HX.out] at d1
      go_wp2_with (first | (go_at_call 55; (with_reducible refine (refMul_nat _ _ _ hz hx1).mono ?_); rintro e w' ⟨rfl, rfl⟩) | (at_builtin; refine wpList_append_row rfl (.tmp 14) (.tmp 21) 34 rfl w.heap.size 5 i0 (.int .u8 0) 1 Try.underlying34 hi hz0 hz1 hz2 rfl _ _ _ rfl (hown.alloc _) (some ⟨wr.heap.size, 0, Option.none⟩) 1 1 [bv (mul z x)] rfl (rowV_lit _ _ _ _ _ _ rfl rfl rfl) (by intro h; cases h) (bv_one [mul z x]) (by simp [maxLen]; omega) (by omega) (by simp; omega) ?_; intro v' w1 hown1 hgrow1 _))
      have hb1 := grow_step hb _ hown hgrow1
      clear hgrow1
      go_wp2
      go_roundw
      case rel =>
        refine ⟨k + 1, by omega, by go_num, ?_, hb1⟩
        rw [hT.out (by rw [HL1.out]; omega), List.map_append, ← HX.out]
        exact hown1
      case measure => simp [intOf]; omega
    · obtain rfl : k = n1 := by omega
      go_wp2
      go_ret
      have hl : (scaleB z l1).length = k := by rw [scaleB_length, HL1.out]
      rw [List.take_of_length_le (by omega)] at hown
      subst hl
      exact ⟨_, _, rfl, hown, hb⟩

theorem refScale_zero (a1 : Option Addr) (n1 c1 : Nat) (l1 : List Nat) (w : World) (h1 : BytesV w (a1, n1, c1) l1) :
    Calls Try.prog 45 #[.int .u8 0, .slice a1 n1 c1] w (GivesBytes 5 w (scaleB 0 l1)) :=
  refScale_any 0 a1 n1 c1 l1 w (by omega) h1

def refMixTo (ks : List Nat) (ls : List (List Nat)) : Nat → List Nat
  | 0 => []
  | k + 1 => addB (refMixTo ks ls k) (scaleB (ks.getD k 0) (ls.getD k []))
theorem refMixTo_length (ks : List Nat) (ls : List (List Nat)) : ∀ k, (refMixTo ks ls k).length = longest ls k
  | 0 => rfl
  | k + 1 => by simp only [refMixTo, longest]; rw [addB_length, scaleB_length, refMixTo_length ks ls k]
theorem refMixTo_getD (ks : List Nat) (ls : List (List Nat)) (j : Nat) : ∀ k, (refMixTo ks ls k).getD j 0 = mixAt ks ls j k
  | 0 => by simp [refMixTo, mixAt]
  | k + 1 => by simp only [refMixTo, mixAt]; rw [addB_getD, scaleB_getD, refMixTo_getD ks ls j k]
theorem refMix_mix (ks : List Nat) (ls : List (List Nat)) (k : Nat) : refMixTo ks ls k = mixTo ks ls (longest ls k) k := by
  apply ext_getD
  · rw [refMixTo_length, mixTo_length]
  · intro i hi
    rw [refMixTo_length] at hi
    rw [refMixTo_getD, mixTo_getD _ _ _ _ hi]
theorem refMixTo_bytes {ks : List Nat} (hk : Bytes ks) (ls : List (List Nat)) (k : Nat) : Bytes (refMixTo ks ls k) := by
  rw [refMix_mix]; exact mixTo_bytes hk ls _ k

set_option maxRecDepth 10000 in
set_option maxHeartbeats 1000000 in
theorem refMix_any (adk : Option Addr) (lk ck : Nat) (ks : List Nat) (adv : Option Addr) (n cv : Nat) (hs : List (Option Addr × Nat × Nat)) (ls : List (List Nat)) (w : World)
    (hks : BytesV w (adk, lk, ck) ks) (hvs : RowV w adv n (hs.map SV)) (hn : n ≤ 140737488355328) (hrows : RowsV w hs ls) :
    Calls Try.prog 38 #[.slice adk lk ck, .slice adv n cv] w (GivesBytes 5 w (refMixTo ks ls n)) := by
  have hhs : hs.length = n := by have := hvs.1; simpa using this
  have hkb := hks.bytes
  have hown0 := World.ownsRow_made (base := w.heap.size) (e := 5) (size := 1) w #[] 0 (Nat.le_refl _) (by simp [maxLen]) rfl
  go_enter Try.func38, Try.ntmps38
  go_wp2
  go_loopw [5, 6] (fun v i wr => ∃ k ad cap, k ≤ n ∧ i = .int .i64 (k : Nat) ∧ v = .slice ad (refMixTo ks ls k).length cap ∧ wr.ownsRow w.heap.size 5 1 v (refMixTo ks ls k).length ((refMixTo ks ls k).map bv) ∧ Below w.heap.size w wr) (fun _ i _ => (n - intOf i).toNat)
  case atStart => exact ⟨0, _, _, Nat.zero_le _, rfl, rfl, hown0, below_alloc _ _⟩
  case round =>
    obtain ⟨k, ad, cap, hk, rfl, rfl, hown, hb⟩ := hrel
    have hbs := hb.size
    have hll := longest_le hrows k
    have hkk := hkb.getD k
    obtain ⟨z, hz⟩ : ∃ z, z = ks.getD k 0 := ⟨_, rfl⟩
    rw [← hz] at hkk
    have HZ := Lib.hid hz
    have hbv := bytesV_of_owns hown (refMixTo_bytes hkb ls k) (by rw [refMixTo_length]; exact hll)
    clear hz
    by_cases hlt : k < n
    · obtain ⟨b, off, rfl, hc⟩ := hvs.2 (by omega)
      obtain ⟨x, hxe, hxr⟩ := hrows.at k (by omega)
      obtain ⟨a, l, c⟩ := x
      obtain ⟨y, hy⟩ : ∃ y, y = ls.getD k [] := ⟨_, rfl⟩
      rw [← hy] at hxr
      have HYY := Lib.hid hy
      clear hy
      have hbw : b < w.heap.size := hvs.lt (by omega) rfl
      have hcell : wr.cell? ⟨b, off + k, Option.none⟩ = some (.slice a l c) := by rw [hb.cell hbw, hc k hlt, List.getElem?_map, hxe]; rfl
      clear hc
      by_cases hjk : k < lk
      · obtain ⟨bk, ok, rfl, d1⟩ := (hks.below hb).cellAt k hjk
        rw [← HZ.out] at d1
        go_wp2_with fail
        (with_reducible refine (refScale_any z a l c y wr hkk (hxr.below hb)).mono ?_)
        rintro e w1 ⟨a1, c1, rfl, hown1, hb1⟩
        have hbv1 := bytesV_of_owns hown1 (scaleB_bytes hkk) (by rw [scaleB_length, hxr.length]; exact hxr.small)
        clear hcell d1
        go_wp2_with fail
        (with_reducible refine (refAdd_any _ _ _ _ _ _ _ _ w1 (hbv.below hb1) hbv1).mono ?_)
        rintro e w2 ⟨a2, c2, rfl, hown2, hb2⟩
        have hb3 := hb.trans ((hb1.trans (hb2.mono hb1.size)).mono hbs)
        have hs1 := hb1.size
        clear hb1 hb2
        go_wp2
        go_roundw
        case rel =>
          refine ⟨k + 1, a2, c2, by omega, by go_num, ?_, ?_, hb3⟩
          · simp only [refMixTo]; rw [← HZ.out, ← HYY.out]
          · simp only [refMixTo]; rw [← HZ.out, ← HYY.out]; exact ownsRow_base hown2 (by omega)
        case measure => simp [intOf]; omega
      · have hz0 : z = 0 := by rw [HZ.out]; exact hks.low k hjk
        have HZ0 := Lib.hid hz0
        clear hz0
        go_wp2_with fail
        (with_reducible refine (refScale_zero a l c y wr (hxr.below hb)).mono ?_)
        rintro e w1 ⟨a1, c1, rfl, hown1, hb1⟩
        have hbv1 := bytesV_of_owns hown1 (scaleB_bytes (by omega)) (by rw [scaleB_length, hxr.length]; exact hxr.small)
        clear hcell
        go_wp2_with fail
        (with_reducible refine (refAdd_any _ _ _ _ _ _ _ _ w1 (hbv.below hb1) hbv1).mono ?_)
        rintro e w2 ⟨a2, c2, rfl, hown2, hb2⟩
        have hb3 := hb.trans ((hb1.trans (hb2.mono hb1.size)).mono hbs)
        have hs1 := hb1.size
        clear hb1 hb2
        go_wp2
        go_roundw
        case rel =>
          refine ⟨k + 1, a2, c2, by omega, by go_num, ?_, ?_, hb3⟩
          · simp only [refMixTo]; rw [← HZ.out, HZ0.out, ← HYY.out]
          · simp only [refMixTo]; rw [← HZ.out, HZ0.out, ← HYY.out]; exact ownsRow_base hown2 (by omega)
        case measure => simp [intOf]; omega
    · obtain rfl : k = n := by omega
      go_wp2
      go_ret
      exact ⟨_, _, rfl, hown, hb⟩

end Go.Proofs.Ytgnnfpnkhemimaa
