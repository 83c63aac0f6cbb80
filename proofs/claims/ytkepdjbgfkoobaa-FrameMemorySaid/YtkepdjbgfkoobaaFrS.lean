/-
  rilllaw07: FrameCut.
-/
import Derived.Test.YtkepdjbgfkoobaaFrR
namespace Go.Proofs.Ytkepdjbgfkoobaa
open Go.RowKit

theorem framesN_bytes {ls : List (List Nat)} (h : Payloads ls) : Bytes (framesN ls) := by
  intro x hx
  unfold framesN at hx
  obtain ⟨f, hf, hxf⟩ := List.mem_flatten.1 hx
  obtain ⟨p, hp, rfl⟩ := List.mem_map.1 hf
  exact frameN_bytes (h p hp).1 x hxf
theorem RowsV.take {w : World} {hs : List (Option Addr × Nat × Nat)} {ls : List (List Nat)} (h : RowsV w hs ls) (k : Nat) : RowsV w (hs.take k) (ls.take k) := by
  refine ⟨by simp [h.1], fun i x l h1 h2 => ?_⟩
  rw [List.getElem?_take] at h1 h2
  by_cases hi : i < k
  · rw [if_pos hi] at h1 h2; exact h.2 i x l h1 h2
  · rw [if_neg hi] at h1; cases h1
theorem RowV.takeMap {w : World} {ad : Option Addr} {n m : Nat} {hs : List (Option Addr × Nat × Nat)} (h : RowV w ad n (hs.map SV)) (hm : m ≤ n) : RowV w ad m ((hs.take m).map SV) := by
  have := h.take hm
  rwa [← List.map_take] at this
theorem wholeN_succ (ls : List (List Nat)) (i k : Nat) : wholeN ls i (k + 1) = wholeN ls i k + if (framesN (ls.take (k + 1))).length ≤ i then 1 else 0 := rfl
theorem wholeN_le (ls : List (List Nat)) (i : Nat) : ∀ k, wholeN ls i k ≤ k
  | 0 => Nat.le_refl _
  | k + 1 => by rw [wholeN_succ]; have := wholeN_le ls i k; split <;> omega
theorem endsN_get {ls : List (List Nat)} {n j : Nat} (h : j < n) : ((endsN ls n).map iv)[j]? = some (.int .i64 ((framesN (ls.take (j + 1))).length : Nat)) := by
  simp [endsN, h, iv]

set_option maxRecDepth 100000 in
set_option maxHeartbeats 8000000 in
theorem frameCut_walk (a0 : Option Addr) (n0 c0 : Nat) (hs : List (Option Addr × Nat × Nat)) (ls : List (List Nat)) (at_ : Int) (w : World)
    (v0 : RowV w a0 n0 (hs.map SV)) (r0 : RowsV w hs ls) (s0 : n0 * 24 ≤ 140737488351232) (k0 : n0 ≤ c0) (_wa : (Lit.int .i64 at_).wf = true) :
    Calls Try.prog 5 #[.slice a0 n0 c0, .int .i64 at_] w fun e w' => e = .returned (.bool true) ∧ Below w.heap.size w w' := by
  have KA := alive_any
  have hhs : hs.length = n0 := by have := v0.1; simpa using this
  have hls : ls.length = n0 := by rw [← r0.1, hhs]
  have HLS := Lib.hid hls
  clear hls hhs
  go_enter Try.func5, Try.ntmps5
  go_wp2_with (go_at_call 10; (with_reducible refine (KA _).mono ?_); rintro e w1 ⟨rfl, hb⟩)
  clear KA
  replace v0 := v0.below hb
  replace r0 := r0.below hb
  go_wp2_with fail
  (with_reducible refine (lawPack_any _ _ _ hs ls _ v0 s0 r0).mono ?_)
  rintro e w2 (⟨rfl, b2⟩ | ⟨ad, cap, ad2, cap2, L, rfl, HL, oA, oE, hP, hL, hn, b2⟩)
  · go_wp2
    go_ret
    exact ⟨rfl, hb.trans (b2.mono hb.size)⟩
  replace v0 := v0.below b2
  replace r0 := r0.below b2
  replace hb := hb.trans (b2.mono hb.size)
  clear b2
  have hfb := framesN_bytes hP
  have hA := bytesV_of_owns oA hfb (by omega)
  have hE := rowV_own oE
  clear oA oE
  by_cases h1 : at_ < 0
  · go_wp2
    go_ret
    exact ⟨rfl, hb⟩
  by_cases h2 : (L : Int) < at_
  · go_wp2
    go_ret
    exact ⟨rfl, hb⟩
  obtain ⟨i, rfl⟩ := Int.eq_ofNat_of_zero_le (by omega : 0 ≤ at_)
  have hi : i ≤ L := by omega
  obtain ⟨sc1, sc2, sc3⟩ := scan_cut hP (at_ := i) (by rw [HL.out]; exact hi)
  rw [HLS.out] at sc1 sc2 sc3
  have hwl := wholeN_le ls i n0
  have hcap : i ≤ cap := by have := hA.cap; simp only at this; omega
  have hT := hA.take hi
  obtain ⟨W, hW⟩ : ∃ W, W = wholeN ls i n0 := ⟨_, rfl⟩
  rw [← hW] at sc1 sc2 sc3 hwl
  obtain ⟨N, hN⟩ : ∃ N, N = (framesN (ls.take W)).length := ⟨_, rfl⟩
  rw [← hN] at sc1 sc2 sc3
  have KS := fun w h => scan_any ad i cap ((framesN ls).take i) (by omega) w h
  rw [sc1] at KS
  have HW := Lib.hid hW
  have HN := Lib.hid hN
  have HS3 := Lib.hid sc3
  have hpt : ∀ l ∈ ls.take W, Bytes l ∧ l.length ≤ 140737488355328 := fun l hl => by
    have := hP l (List.mem_of_mem_take hl)
    exact ⟨this.1, by omega⟩
  clear sc1 sc3 hW hN
  have h1' : ¬ (i : Int) < 0 := h1
  go_wp2_with fail
  (with_reducible refine (KS _ hT).mono ?_)
  rintro e w3 ⟨a3, c3, s3, rfl, o3, i3, b3⟩
  dsimp only at o3 i3 ⊢
  have vp := rowV_own o3
  have rp := i3.rowsV hpt
  replace v0 := v0.below b3
  replace r0 := r0.below b3
  replace hE := hE.below b3
  replace hT := hT.below b3
  replace hb := hb.trans (b3.mono hb.size)
  clear o3 i3 b3 hA
  have hlt0 : (ls.take W).length = W := by rw [List.length_take, HLS.out]; omega
  rw [hlt0] at vp ⊢
  go_wp2
  go_loop [10, 11] (fun v j => ∃ k : Nat, k ≤ n0 ∧ j = .int .i64 k ∧ v = .int .i64 (wholeN ls i k : Nat)) (fun _ j => n0 - (intOf j).toNat)
  case atStart => exact ⟨0, Nat.zero_le _, rfl, rfl⟩
  case round =>
    obtain ⟨k, hk, rfl, rfl⟩ := hrel
    have hwk := wholeN_le ls i k
    have hws := wholeN_succ ls i k
    by_cases hlt : k < n0
    · obtain ⟨b, o, e, hc⟩ := hE.2 (by omega)
      subst e
      have hck := (hc k hlt).trans (endsN_get hlt)
      clear hc
      obtain ⟨x, hx⟩ : ∃ x, x = (framesN (ls.take (k + 1))).length := ⟨_, rfl⟩
      obtain ⟨y, hy⟩ : ∃ y, y = wholeN ls i k := ⟨_, rfl⟩
      rw [← hx] at hck hws
      rw [← hy] at hws hwk ⊢
      have HWS := Lib.hid hws
      clear hws hx hy
      by_cases hxi : x ≤ i
      · go_wp2
        go_round
        case rel => exact ⟨k + 1, by omega, by go_num, by rw [HWS.out, if_pos hxi]; go_num⟩
        case measure => simp [intOf]; omega
      · go_wp2
        go_round
        case rel => exact ⟨k + 1, by omega, by go_num, by rw [HWS.out, if_neg hxi]; go_num⟩
        case measure => simp [intOf]; omega
    · obtain rfl : k = n0 := by omega
      rw [← HW.out]
      clear hws hwk
      have hvt := v0.takeMap hwl
      have hrt := r0.take W
      have hvc : W ≤ c0 := by omega
      go_wp2_with fail
      (with_reducible refine (sameRows_any _ _ _ s3 (ls.take W) _ _ _ (hs.take W) (ls.take W) _ vp rp hvt hrt (by omega)).mono ?_)
      rw [decide_eq_true rfl]
      rintro e w4 ⟨rfl, b4⟩
      replace hE := hE.below b4
      replace hT := hT.below b4
      replace hb := hb.trans (b4.mono hb.size)
      clear b4 vp rp hvt hrt v0 r0
      cases W with
      | zero =>
        have hN0 : N = 0 := by rw [HN.out]; simp [framesN]
        subst hN0
        have KN := next_any _ _ _ _ _ hT
        rw [show (framesN ls).take i = ((framesN ls).take i).drop 0 by rw [List.drop_zero], HS3.out] at KN
        clear hT KS
        go_wp2_with fail
        (with_reducible refine KN.mono ?_)
        rintro e w5 ⟨a5, c5, rfl, o5, b5⟩
        clear KN
        go_wp2
        go_ret
        exact ⟨rfl, hb.trans (b5.mono hb.size)⟩
      | succ V =>
        obtain ⟨b, o, e, hc⟩ := hE.2 (by omega)
        subst e
        have hck := (hc V (by omega)).trans (endsN_get (by omega))
        rw [← HN.out] at hck
        clear hc
        have hN8 : 8 ≤ N := by
          have hVk : V < ls.length := by rw [HLS.out]; omega
          rw [HN.out, frames_take_step (List.getElem?_eq_getElem hVk), List.length_append, frameN_length]
          omega
        obtain ⟨b3, o3, e3, hc3⟩ := hT.row.2 (by simp; omega)
        simp only at e3
        subst e3
        clear hc3
        by_cases hcN : cap = N
        · have hiN : i = N := by omega
          have KN := next_any (some ⟨b3, o3, none⟩) 0 0 [] w4 (bytesV_empty (fun h => by cases h))
          rw [show nextN [] = ([], 0, 0) by decide] at KN
          subst hcN hiN
          clear hT KS hi hcap sc2
          go_wp2_with fail
          (with_reducible refine KN.mono ?_)
          rintro e w5 ⟨a5, c5, rfl, o5, b5⟩
          clear KN
          go_wp2
          go_ret
          exact ⟨rfl, hb.trans (b5.mono hb.size)⟩
        · have hcN' : (cap = N) = False := eq_false hcN
          have KN := next_any _ _ _ _ w4 (bytesV_sub hT N (i - N) (by omega))
          rw [List.take_of_length_le (by rw [List.length_drop, List.length_take]; omega), HS3.out] at KN
          clear hT KS
          go_wp2_with fail
          (with_reducible refine KN.mono ?_)
          rintro e w5 ⟨a5, c5, rfl, o5, b5⟩
          clear KN
          go_wp2
          go_ret
          exact ⟨rfl, hb.trans (b5.mono hb.size)⟩
end Go.Proofs.Ytkepdjbgfkoobaa
