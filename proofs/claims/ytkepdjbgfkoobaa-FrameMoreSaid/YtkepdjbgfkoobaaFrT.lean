/-
  rilllaw07: FrameMore.
-/
import Derived.Test.YtkepdjbgfkoobaaFrS
namespace Go.Proofs.Ytkepdjbgfkoobaa
open Go.RowKit

theorem RowsV.drop {w : World} {hs : List (Option Addr × Nat × Nat)} {ls : List (List Nat)} (h : RowsV w hs ls) (k : Nat) : RowsV w (hs.drop k) (ls.drop k) := by
  refine ⟨by simp [h.1], fun i x l h1 h2 => ?_⟩
  rw [List.getElem?_drop] at h1 h2
  exact h.2 _ x l h1 h2
theorem rowV_sub {w : World} {b o n : Nat} {vs : List Value} (h : RowV w (some ⟨b, o, none⟩) n vs) (i : Nat) (hi : i ≤ n) : RowV w (some ⟨b, o + i, none⟩) (n - i) (vs.drop i) := by
  have hl := h.1
  refine ⟨by simp; omega, fun h0 => ?_⟩
  obtain ⟨b', o', e, hc⟩ := h.2 (by omega)
  cases e
  refine ⟨b, o + i, rfl, fun j hj => ?_⟩
  rw [Nat.add_assoc, hc (i + j) (by omega), List.getElem?_drop]

set_option maxRecDepth 100000 in
set_option maxHeartbeats 8000000 in
theorem frameMore_walk (a0 : Option Addr) (n0 c0 : Nat) (hs : List (Option Addr × Nat × Nat)) (ls : List (List Nat)) (a1 : Option Addr) (n1 c1 : Nat) (lm : List Nat) (w : World)
    (v0 : RowV w a0 n0 (hs.map SV)) (r0 : RowsV w hs ls) (s0 : n0 * 24 ≤ 140737488351232) (h1 : BytesV w (a1, n1, c1) lm) (_s1 : n1 ≤ 140737488351232) :
    Calls Try.prog 7 #[.slice a0 n0 c0, .slice a1 n1 c1] w fun e w' => e = .returned (.bool true) ∧ Below w.heap.size w w' := by
  have KA := alive_any
  obtain ⟨i0, hi, hz0, hz1, hz2⟩ := info_parts Try.info5
  have hhs : hs.length = n0 := by have := v0.1; simpa using this
  have hls : ls.length = n0 := by rw [← r0.1, hhs]
  have HLS := Lib.hid hls
  have l1 : lm.length = n1 := h1.length
  have L1 := Lib.hid l1
  have b1 := h1.bytes
  clear hls hhs l1
  go_enter Try.func7, Try.ntmps7
  go_wp2_with (go_at_call 10; (with_reducible refine (KA _).mono ?_); rintro e w1 ⟨rfl, hb⟩)
  clear KA
  go_wp2_with fail
  (with_reducible refine (lawPack_any _ _ _ hs ls _ (v0.below hb) s0 (r0.below hb)).mono ?_)
  rintro e w2 (⟨rfl, b2⟩ | ⟨ad, cap, ad2, cap2, L, rfl, HL, oA, oE, hP, hL, hn, b2⟩)
  · go_wp2
    go_ret
    exact ⟨rfl, hb.trans (b2.mono hb.size)⟩
  replace hb := hb.trans (b2.mono hb.size)
  clear b2
  have hfb := framesN_bytes hP
  have hA := bytesV_of_owns oA hfb (by omega)
  clear oA oE
  by_cases hbig : 100000 < n1
  · go_wp2
    go_ret
    exact ⟨rfl, hb⟩
  have hsc := scan_frames ls hP lm
  rw [HL.out] at hsc
  obtain ⟨q, hq⟩ : ∃ q, q = scanN lm := ⟨_, rfl⟩
  have hqb := scanN_bytes _ lm (Nat.le_refl _) b1
  have hqc := scanN_count _ lm (Nat.le_refl _)
  have KS2 := fun a c w h => scan_any a n1 c lm (by omega) w h
  rw [← hq] at hsc hqb KS2 hqc
  obtain ⟨qs, qn⟩ := q
  simp only at hsc hqb hqc
  have hqn : qn ≤ n1 := by have := scanN_le lm; rw [← hq, L1.out] at this; exact this
  have hq2 : qs.length ≤ n1 := by rw [← L1.out]; exact hqc
  clear hqc hq
  have bab : Bytes (framesN ls ++ lm) := by
    intro x hx
    rcases List.mem_append.1 hx with h | h
    · exact hfb x h
    · exact b1 x h
  have KS1 := fun a c w h => scan_any a (L + n1) c (framesN ls ++ lm) (by omega) w h
  rw [hsc] at KS1
  clear hsc
  have hpb : ∀ l ∈ ls ++ qs, Bytes l ∧ l.length ≤ 140737488355328 := fun l hl => by
    rcases List.mem_append.1 hl with h | h
    · have := hP l h; exact ⟨this.1, by omega⟩
    · exact hqb l h
  obtain ⟨r, hr⟩ : ∃ r, r = qs.length := ⟨_, rfl⟩
  have hpl : (ls ++ qs).length = n0 + r := by rw [List.length_append, HLS.out, hr]
  have HPL := Lib.hid hpl
  have HR := Lib.hid hr
  rw [← hr] at hq2
  clear hpl hr
  go_wp2_with fail
  (with_reducible refine (copyBytes_any _ _ _ (framesN ls) _ hA).mono ?_)
  rintro e w3 ⟨a3, c3, rfl, o3, b3⟩
  rw [HL.out] at o3 ⊢
  have o3 := ownsRow_base o3 hb.size
  replace hb := hb.trans (b3.mono hb.size)
  have hr1 := (h1.below hb).row
  have hn1 := h1.nil
  simp only at hr1 hn1
  clear b3 hA
  go_wp2_with (first | (at_builtin; refine wpList_append_row rfl (.tmp 32) (.tmp 33) 22 rfl w.heap.size 5 i0 (.int .u8 0) 1 Try.underlying22 hi hz0 hz1 hz2 rfl _ _ _ rfl o3 a1 n1 c1 (lm.map bv) rfl hr1 hn1 (bv_one _) (by simp [maxLen]; omega) (by omega) hb.size ?_; intro v' w4 o4 g4 _; have hb4 := below_grown hb g4 (ownBlock_ge o3); obtain ⟨a4, c4, rfl, _⟩ := ownsRow_parts o4; rw [← List.map_append] at o4; have hB := bytesV_of_owns o4 bab (by omega); clear o4 o3 g4 hr1 hn1 hi hz0 hz1 hz2 hb))
  have hb := hb4
  clear hb4
  (with_reducible refine (KS1 _ _ _ hB).mono ?_)
  rintro e w5 ⟨a5, c5, s5, rfl, o5, i5, b5⟩
  dsimp only at o5 i5 ⊢
  rw [HPL.out] at o5 ⊢
  have v5 := rowV_own o5
  have r5 := i5.rowsV hpb
  have hc5 : n0 + r ≤ c5 := by
    obtain ⟨_, _, e, _, hh, _⟩ := ownsRow_parts o5
    cases e
    exact hh
  replace hb := hb.trans (b5.mono hb.size)
  clear o5 i5 b5 hB
  have hn0r : (n0 : Int) ≤ (n0 : Int) + (r : Int) := by omega
  have hqL : (L : Int) ≤ (L : Int) + (qn : Int) := by omega
  go_wp2_with fail
  (with_reducible refine (copyBytes_any _ _ _ lm _ (h1.below hb)).mono ?_)
  rintro e w6 ⟨a6, c6, rfl, o6, b6⟩
  rw [L1.out] at o6 ⊢
  have h6 := bytesV_of_owns o6 b1 (by omega)
  replace v5 := v5.below b6
  replace r5 := r5.below b6
  replace hb := hb.trans (b6.mono hb.size)
  clear o6 b6
  go_wp2_with fail
  (with_reducible refine (KS2 _ _ _ h6).mono ?_)
  rintro e w7 ⟨a7, c7, s7, rfl, o7, i7, b7⟩
  dsimp only at o7 i7 ⊢
  rw [← HR.out] at o7 ⊢
  have v7 := rowV_own o7
  have r7 := i7.rowsV hqb
  replace v5 := v5.below b7
  replace r5 := r5.below b7
  replace hb := hb.trans (b7.mono hb.size)
  clear o7 i7 b7 h6
  have v8 := v5.takeMap (show n0 ≤ n0 + r by omega)
  have r8 := r5.take n0
  rw [List.take_left' HLS.out] at r8
  have hn0c : n0 ≤ c5 := by omega
  go_wp2_with fail
  (with_reducible refine (sameRows_any _ _ _ (s5.take n0) ls _ _ _ hs ls _ v8 r8 (v0.below hb) (r0.below hb) (by omega)).mono ?_)
  rw [decide_eq_true rfl]
  rintro e w8 ⟨rfl, b8⟩
  replace v5 := v5.below b8
  replace r5 := r5.below b8
  replace v7 := v7.below b8
  replace r7 := r7.below b8
  replace hb := hb.trans (b8.mono hb.size)
  clear b8 v8 r8
  have r9 := r5.drop n0
  rw [List.drop_left' HLS.out] at r9
  cases r with
  | zero =>
    have hq0 : qs = [] := List.eq_nil_of_length_eq_zero HR.out.symm
    subst hq0
    have hs0 : s5.drop n0 = [] := List.eq_nil_of_length_eq_zero (by have := v5.1; simp at this ⊢; omega)
    have hs7 : s7 = [] := List.eq_nil_of_length_eq_zero (by have := v7.1; simpa using this)
    subst hs7
    have hv0 : ∀ a : Option Addr, RowV w8 a 0 (([] : List (Option Addr × Nat × Nat)).map SV) := fun a => ⟨rfl, fun h => absurd h (by simp)⟩
    go_wp2_with fail
    all_goals
      (with_reducible refine (sameRows_any _ 0 _ [] [] _ 0 _ [] [] _ (hv0 _) (rowsV_nil _) (hv0 _) (rowsV_nil _) (by omega)).mono ?_)
      rw [decide_eq_true rfl]
      rintro e w9 ⟨rfl, b9⟩
      go_wp2
      go_ret
      exact ⟨rfl, hb.trans (b9.mono hb.size)⟩
  | succ r =>
    obtain ⟨b, o, e, hc⟩ := v5.2 (by omega)
    subst e
    clear hc
    have hcn : (c5 = n0) = False := eq_false (by omega)
    have v9 := rowV_sub v5 n0 (by omega)
    rw [← List.map_drop, Nat.add_sub_cancel_left] at v9
    go_wp2_with fail
    (with_reducible refine (sameRows_any _ _ _ (s5.drop n0) qs _ _ _ s7 qs _ v9 r9 v7 r7 (by omega)).mono ?_)
    rw [decide_eq_true rfl]
    rintro e w9 ⟨rfl, b9⟩
    go_wp2
    go_ret
    exact ⟨rfl, hb.trans (b9.mono hb.size)⟩
end Go.Proofs.Ytkepdjbgfkoobaa
