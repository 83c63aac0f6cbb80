/-
  disk: Rot, the walk.
-/
import Derived.Test.YtdidalcflkphnaaDiP
namespace Go.Proofs.Ytdidalcflkphnaa
open Go.RowKit

set_option maxRecDepth 100000 in
set_option maxHeartbeats 4000000 in
theorem rot_any (F : Nat → Prop) (g : Nat) (d : DV) (i bit : Int) (w : World) (hD : DiskM w F g d) (hbit : bit ≤ 9223372036854775807) :
    Calls Try.prog 29 #[.pointer (some ⟨g, 0, none⟩), .int .i64 i, .int .i64 bit] w fun e w' => e = .returned (.int .i64 (rotV d i bit).2) ∧ DiskM w' (Gr F w w') g (rotV d i bit).1 ∧ ChF F w w' := by
  obtain ⟨s1, s3, c5, f5⟩ := hD.cell5
  have KH := has_any g i s1 d.sl.length s3 w c5
  unfold rotV
  by_cases hi : 0 ≤ i ∧ i < (d.sl.length : Int)
  · rw [if_pos hi]
    rw [decide_eq_true hi] at KH
    obtain ⟨hi0, hi1⟩ := hi
    obtain ⟨k, rfl⟩ : ∃ k : Nat, i = k := ⟨i.toNat, by omega⟩
    have hk : k < d.sl.length := by omega
    rw [Int.toNat_natCast]
    obtain ⟨s, hs⟩ : ∃ s, d.sl[k]? = some s := ⟨_, List.getElem?_eq_getElem hk⟩
    have hsd : d.sl.getD k ([], [], false) = s := by rw [List.getD_eq_getElem?_getD, hs]; rfl
    rw [hsd]
    dsimp only
    obtain ⟨b, c, x, e, hcap, hcm, x0, x1, x2, xF, hne, bS, bR, hap, hbl, hgl, hfin⟩ := hD.slot c5 hs
    injection e with e1 e2 e3
    subst e1 e3
    obtain ⟨⟨ys1, ys2, ys3⟩, ⟨yr1, yr2, yr3⟩, xw⟩ := x
    simp only [SV] at x0 x1
    have hyl : yr2 = s.2.1.length := bR.len
    have hysl : ys2 = s.1.length := bS.len
    subst hyl hysl
    rw [Nat.zero_add] at x0 x1 x2
    have fx0 := xF (k * 3)
    have fx1 := xF (k * 3 + 1)
    have fx2 := xF (k * 3 + 2)
    have hsm := bR.small
    have hF := hD.lt.1
    obtain ⟨N, hN⟩ : ∃ N, N = d.sl.length := ⟨_, rfl⟩
    rw [← hN] at c5 hk hi1 hcap
    unfold maxLen at hcm
    obtain ⟨LR, hLR⟩ : ∃ L, L = s.2.1.length := ⟨_, rfl⟩
    obtain ⟨LS, hLS⟩ : ∃ L, L = s.1.length := ⟨_, rfl⟩
    rw [← hLR] at x1 hsm ⊢
    rw [← hLS] at x0
    have HLR := Lib.hid hLR
    have HLS := Lib.hid hLS
    have HD := Lib.hid hD
    have HFIN := Lib.hid hfin
    have HS := Lib.hid hs
    have HBS := Lib.hid bS
    have HBR := Lib.hid bR
    clear hfin hs bS bR hsd xF hD hN hLR hLS e2 f5
    by_cases hb0 : bit < 0
    · rw [if_pos (.inl hb0)]
      go_enter Try.func29, Try.ntmps29
      go_wp2_with fail
      (with_reducible refine KH.mono ?_)
      rintro e w1 ⟨rfl, hw⟩
      subst hw
      clear KH
      go_wp2
      go_ret
      have b4 := below_alloc w1 (.cells #[.slice ys1 LS ys3, .slice yr1 LR yr3, .bool s.2.2] KT)
      exact ⟨rfl, HD.out.gr.below hF (Nat.le_refl _) b4, .of_below b4⟩
    by_cases hb1 : 8 * (LR : Int) ≤ bit
    · rw [if_pos (.inr hb1)]
      go_enter Try.func29, Try.ntmps29
      go_wp2_with fail
      (with_reducible refine KH.mono ?_)
      rintro e w1 ⟨rfl, hw⟩
      subst hw
      clear KH
      go_wp2
      go_ret
      have b4 := below_alloc w1 (.cells #[.slice ys1 LS ys3, .slice yr1 LR yr3, .bool s.2.2] KT)
      exact ⟨rfl, HD.out.gr.below hF (Nat.le_refl _) b4, .of_below b4⟩
    rw [if_neg (by omega)]
    obtain ⟨B, rfl⟩ : ∃ B : Nat, bit = B := ⟨bit.toNat, by omega⟩
    rw [Int.toNat_natCast]
    obtain ⟨j, hj⟩ : ∃ j, j = B / 8 := ⟨_, rfl⟩
    obtain ⟨r, hr⟩ : ∃ r, r = B % 8 := ⟨_, rfl⟩
    rw [← hj, ← hr]
    have hjl : j < LR := by omega
    have hr8 : r < 8 := by omega
    obtain ⟨yb, e4, q1, q2, q3, q4, q5, q6⟩ := HBR.out.cell (j := j) (by rw [← HLR.out]; exact hjl)
    simp only at e4 q1 q2
    subst e4
    rw [← HLR.out] at q1
    have f3 := q4 j
    go_enter Try.func29, Try.ntmps29
    go_wp2_with fail
    (with_reducible refine KH.mono ?_)
    rintro e w1 ⟨rfl, hw⟩
    subst hw
    clear KH
    have hBi : (B : Int) < 8 * (LR : Int) := by omega
    have hB0 : (0 : Int) ≤ (B : Int) := by omega
    have k1 : (w1.alloc (.cells #[.slice ys1 LS ys3, .slice (some ⟨yb, 0, none⟩) LR yr3, .bool s.2.2] KT)).cell? ⟨w1.heap.size, 1, none⟩ = some (.slice (some ⟨yb, 0, none⟩) LR yr3) := cell_of_row _ _ 1 _ _ _ (alloc_at w1 _)
    have k0 : (w1.alloc (.cells #[.slice ys1 LS ys3, .slice (some ⟨yb, 0, none⟩) LR yr3, .bool s.2.2] KT)).cell? ⟨w1.heap.size, 0, none⟩ = some (.slice ys1 LS ys3) := cell_of_row _ _ 0 _ _ _ (alloc_at w1 _)
    have b4 := below_alloc w1 (.cells #[.slice ys1 LS ys3, .slice (some ⟨yb, 0, none⟩) LR yr3, .bool s.2.2] KT)
    have q3' := (b4.cell (p := ⟨yb, j, none⟩) q5).trans q3
    have HJ := Lib.hid hj
    have HR := Lib.hid hr
    clear hj hr hb0 hb1
    go_wp2
    obtain ⟨w4, hw4⟩ : ∃ x, x = w1.alloc (.cells #[.slice ys1 LS ys3, .slice (some ⟨yb, 0, none⟩) LR yr3, .bool s.2.2] KT) := ⟨_, rfl⟩
    rw [← hw4] at b4 k1 k0 q3' ⊢
    have h4s : w4.heap.size = w1.heap.size + 1 := by rw [hw4, alloc_sz]
    have HW4 := Lib.hid hw4
    have f3' : w4.frozen? ⟨yb, j, none⟩ = false := (World.frozen?_of_block (w := w1) (w' := w4) (a := ⟨yb, j, none⟩) (b4.block yb q5)).trans f3
    obtain ⟨t, ht⟩ : ∃ t, t = w1.heap.size := ⟨_, rfl⟩
    rw [← ht] at k1 k0 ⊢
    obtain ⟨y, hy⟩ : ∃ y, y = s.2.1.getD j 0 := ⟨_, rfl⟩
    rw [← hy] at q3'
    have hy8 : y < 256 := by rw [hy]; exact HBR.out.bytes.getD j
    have HY := Lib.hid hy
    have HT := Lib.hid ht
    clear hw4 ht hy q3 c5 x0 x1 x2 fx0 fx1 fx2 f3
    have hqB : (B : Int) / 8 = (j : Nat) := by rw [HJ.out]; omega
    have hrB : (B : Int).tmod 8 = (r : Nat) := by rw [HR.out, Int.tmod_eq_emod_of_nonneg hB0]; exact (Int.natCast_emod B 8).symm
    have hwj : IntKind.i64.wrap ((j : Nat) : Int) = (j : Nat) := wrap_i64_id _ (by omega) (by omega)
    have hwr : IntKind.i64.wrap ((r : Nat) : Int) = (r : Nat) := wrap_i64_id _ (by omega) (by omega)
    have hjI : ((j : Nat) : Int) < (LR : Nat) := by omega
    obtain ⟨z, hz⟩ : ∃ z, z = y ^^^ 2 ^ r := ⟨_, rfl⟩
    have HXR := Lib.hid (show bits .xor .u8 (y : Int) ((2 : Int) ^ r % 256) = (z : Nat) by rw [hz]; exact xor_one y r hy8 hr8)
    have hz8 : z < 256 := by rw [hz]; exact Nat.xor_lt_two_pow (n := 8) hy8 (Nat.pow_lt_pow_right (by omega) hr8)
    have HZ := Lib.hid hz
    have hyt : yb ≠ t := by rw [HT.out]; omega
    have hk0 : ∀ v, (w4.setCell ⟨yb, j, none⟩ v).drew.cell? ⟨t, 0, none⟩ = some (.slice ys1 LS ys3) := fun v => cell_set_ne hyt k0
    clear hz
    by_cases hjs : j < LS
    · have hjsI : ((j : Nat) : Int) < (LS : Nat) := by omega
      obtain ⟨sb, e5, p1, p2, p3, p4, p5, p6⟩ := HBS.out.cell (j := j) (by rw [← HLS.out]; exact hjs)
      simp only at e5 p1 p2
      subst e5
      rw [← HLS.out] at p1
      have hsy : sb ≠ yb := fun e => by
        rcases hap with q | q
        · simp [SV, Value.ownBlock] at q
        · exact q (by simp [SV, Value.ownBlock, e])
      obtain ⟨y2, hy2⟩ : ∃ y2, y2 = s.1.getD j 0 := ⟨_, rfl⟩
      rw [← hy2] at p3
      have hy28 : y2 < 256 := by rw [hy2]; exact HBS.out.bytes.getD j
      have HY2 := Lib.hid hy2
      have p3' : ∀ v, (w4.setCell ⟨yb, j, none⟩ v).drew.cell? ⟨sb, j, none⟩ = some (.int .u8 (y2 : Nat)) := fun v => cell_set_ne (fun e => hsy e.symm) ((b4.cell (p := ⟨sb, j, none⟩) p5).trans p3)
      have p4' : ∀ v, (w4.setCell ⟨yb, j, none⟩ v).drew.frozen? ⟨sb, j, none⟩ = false := fun v => (World.frozen?_of_block (w := w4) (w' := (w4.setCell ⟨yb, j, none⟩ v).drew) (a := ⟨sb, j, none⟩) (heap_setCell_other _ ⟨yb, j, none⟩ sb _ hsy)).trans ((World.frozen?_of_block (w := w1) (w' := w4) (a := ⟨sb, j, none⟩) (b4.block sb p5)).trans (p4 j))
      obtain ⟨z2, hz2⟩ : ∃ z, z = y2 ^^^ 2 ^ r := ⟨_, rfl⟩
      have HXR2 := Lib.hid (show bits .xor .u8 (y2 : Int) ((2 : Int) ^ r % 256) = (z2 : Nat) by rw [hz2]; exact xor_one y2 r hy28 hr8)
      have hz28 : z2 < 256 := by rw [hz2]; exact Nat.xor_lt_two_pow (n := 8) hy28 (Nat.pow_lt_pow_right (by omega) hr8)
      have HZ2 := Lib.hid hz2
      clear hy2 p3 p4 hz2
      go_still_tail 10, (by kernel_rfl)
      go_wp2
      rw [HXR.out]
      have k0' := hk0 (.int .u8 (z : Nat))
      have p3'' := p3' (.int .u8 (z : Nat))
      have p4'' := p4' (.int .u8 (z : Nat))
      obtain ⟨w5, hw5⟩ : ∃ x, x = (w4.setCell ⟨yb, j, none⟩ (.int .u8 (z : Nat))).drew := ⟨_, rfl⟩
      rw [← hw5] at k0' p3'' p4'' ⊢
      have HW5 := Lib.hid hw5
      clear hw5 hk0 p3' p4' k0 k1 q3' f3'
      go_still_tail 10, (by kernel_rfl)
      go_wp2
      rw [HXR2.out]
      have fin := HFIN.out (fun q => q = yb ∨ q = sb) w4 (w5.setCell ⟨sb, j, none⟩ (.int .u8 (z2 : Nat))).drew (d.sl.set k (flip s.1 j r, flip s.2.1 j r, s.2.2)) b4 (by
        rw [HW5.out]
        exact (((ChF.refl (fun q => q = yb ∨ q = sb) w4).set (g := yb) (.inl (.inl rfl))).drew.set (g := sb) (.inl (.inr rfl))).drew) (by rw [HW5.out]; simp [World.setCell, World.drew]) (fun FS hs h3 hx => by
        have m0 := h3.keep (G := fun _ => False) (.of_below b4) (fun _ _ e => e)
        obtain ⟨m1, f1⟩ := m0.pokeR hx HS.out (yb := yb) (j := j) (v := z) rfl hz8
        have m1' := m1.drew
        have hk' : k < d.sl.length := (List.getElem?_eq_some_iff.1 HS.out).1
        obtain ⟨m2, f2⟩ := m1'.pokeS hx (List.getElem?_set_self hk') (yb := sb) (j := j) (v := z2) rfl hz28
        have m2' := m2.drew
        refine ⟨fun q hq => ?_, hs, ?_⟩
        · rcases hq with e | e
          · rw [e]; exact f1
          · rw [e]; exact f2
        · rw [HW5.out]
          have e1 : flip s.1 j r = s.1.set j z2 := by unfold flip; rw [if_pos (by rw [← HLS.out]; exact hjs), ← HY2.out, ← HZ2.out]
          have e2 : flip s.2.1 j r = s.2.1.set j z := by unfold flip; rw [if_pos (by rw [← HLR.out]; exact hjl), ← HY.out, ← HZ.out]
          rw [e1, e2]
          rw [List.set_set] at m2'
          exact m2'.mono (fun q hq => .inl hq))
      go_ret
      exact ⟨rfl, fin.1, fin.2.1⟩
    · have hjsI : ¬ ((j : Nat) : Int) < (LS : Nat) := by omega
      go_still_tail 10, (by kernel_rfl)
      go_wp2
      rw [HXR.out]
      have fin := HFIN.out (fun q => q = yb) w4 (w4.setCell ⟨yb, j, none⟩ (.int .u8 (z : Nat))).drew (d.sl.set k (flip s.1 j r, flip s.2.1 j r, s.2.2)) b4 ((ChF.refl (fun q => q = yb) w4).set (g := yb) (.inl rfl)).drew (by simp [World.setCell, World.drew]) (fun FS hs h3 hx => by
        have m0 := h3.keep (G := fun _ => False) (.of_below b4) (fun _ _ e => e)
        obtain ⟨m1, f1⟩ := m0.pokeR hx HS.out (yb := yb) (j := j) (v := z) rfl hz8
        have m1' := m1.drew
        refine ⟨fun q hq => by rw [hq]; exact f1, hs, ?_⟩
        have e1 : flip s.1 j r = s.1 := by unfold flip; rw [if_neg (by rw [← HLS.out]; exact hjs)]
        have e2 : flip s.2.1 j r = s.2.1.set j z := by unfold flip; rw [if_pos (by rw [← HLR.out]; exact hjl), ← HY.out, ← HZ.out]
        rw [e1, e2]
        exact m1'.mono (fun q hq => .inl hq))
      go_ret
      exact ⟨rfl, fin.1, fin.2.1⟩
  · rw [if_neg hi]
    rw [decide_eq_false hi] at KH
    go_enter Try.func29, Try.ntmps29
    go_wp2_with fail
    (with_reducible refine KH.mono ?_)
    rintro e w1 ⟨rfl, hw⟩
    subst hw
    clear KH
    go_wp2
    go_ret
    exact ⟨rfl, hD.gr, .refl _ _⟩
end Go.Proofs.Ytdidalcflkphnaa
