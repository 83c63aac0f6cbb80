/-
  net: NetSteps' walk.
-/
import Derived.Test.YtbkbkhinpeoflaaNeV
namespace Go.Proofs.Ytbkbkhinpeoflaa
open Go.RowKit

set_option maxRecDepth 100000 in
set_option maxHeartbeats 8000000 in
theorem netSteps_walk (a0 : Option Addr) (n0 c0 : Nat) (K N : Nat → Int) (Hd : Nat → Option Addr × Nat × Nat) (L : Nat → List Nat) (w : World) (hS : OpsV w a0 n0 c0 K N Hd L) :
    Calls Try.prog 3 #[.slice a0 n0 c0] w fun e w' => e = .returned (.bool true) ∧ Below w.heap.size w w' := by
  have KA := alive_any
  go_enter Try.func3, Try.ntmps3
  go_wp2_with (go_at_call 8; (with_reducible refine (KA _).mono ?_); rintro e w1 ⟨rfl, hb1⟩)
  clear KA
  (with_reducible refine (is_new w w1 hb1).mono ?_)
  rintro e w2 ⟨rfl, hI, -⟩
  obtain ⟨g, hg⟩ : ∃ g, g = w1.heap.size := ⟨_, rfl⟩
  rw [← hg] at hI ⊢
  clear hg hb1
  have hN := nst_start hI hI.base
  have hgm : ∃ gm, gm = w2.heap.size := ⟨_, rfl⟩
  unfold RT at hN
  go_wp2_with fail
  generalize hw3 : w2.alloc (.cells #[.slice none 0 0, .slice none 0 0, .int .i64 0] 29) = w3 at hN ⊢
  obtain ⟨gm, hgm⟩ := hgm
  rw [← hgm] at hN ⊢
  clear hw3 hgm hI
  (with_reducible refine (cut_any _ _ _ K N Hd L _ (hS.below hN.base)).mono ?_)
  rintro e w3' ⟨m, hm, hmn, rfl, -, rfl⟩
  have hSm := hS.cut hmn
  clear hS
  have HS := Lib.hid hSm
  clear hSm
  have HN := Lib.hid hN
  clear hN
  go_wp2
  go_loopw [5] (fun i wr => ∃ k : Nat, k ≤ m ∧ i = .int .i64 k ∧ NSt w wr g gm k) (fun i _ => m - (intOf i).toNat)
  case atStart => exact ⟨0, Nat.zero_le _, rfl, HN.out⟩
  case round =>
    clear HN
    obtain ⟨k, hk, rfl, hst⟩ := hrel
    by_cases hkm : k < m
    · have hb := hst.base
      obtain ⟨b, o, rfl, hbl, hc⟩ := HS.out.row (by omega)
      obtain ⟨e0, e1, e2, hBw, hwf⟩ := hc k hkm
      replace e0 := (hb.cell (p := ⟨b, o + k * 3, none⟩) hbl).trans e0
      replace e1 := (hb.cell (p := ⟨b, o + k * 3 + 1, none⟩) hbl).trans e1
      replace e2 := (hb.cell (p := ⟨b, o + k * 3 + 2, none⟩) hbl).trans e2
      have hsm := HS.out.small
      have hcap := HS.out.cap
      have hcapm := HS.out.capm
      unfold maxLen at hcapm hsm
      clear hc
      generalize Hd k = hd at e2 hBw
      generalize L k = l at hBw
      generalize N k = z at e1 hwf
      generalize K k = what at e0
      obtain ⟨ad, n, c⟩ := hd
      simp only at e2
      have hl : l.length = n := hBw.length
      have HBW := Lib.hid hBw
      clear hBw
      have HL := Lib.hid hl
      clear hl
      obtain ⟨z0, z1⟩ := wf_i64 hwf
      have hbD := heap_alloc_new wr (.cells #[.int .i64 what, .int .i64 z, .slice ad n c] 33)
      obtain ⟨d0, d1, d2, dF⟩ := box3_cells hbD
      by_cases hlong : 5000 < n
      · go_wp2
        go_ret
        exact ⟨rfl, hb.alloc hb.size _⟩
      · go_upto_block 2 with fail
        have hstD := hst.below (below_alloc wr (.cells #[.int .i64 what, .int .i64 z, .slice ad n c] 33))
        clear hst e0 e1 e2 hb
        generalize hww : wr.alloc (.cells #[.int .i64 what, .int .i64 z, .slice ad n c] 33) = wD at hbD hstD d0 d1 d2 dF ⊢
        generalize wr.heap.size = D at hbD d0 d1 d2 dF ⊢
        clear hww
        obtain ⟨aT, cT, aD, cD, nn, ts, hs, bs, cnt, hI, hO, hM, hgm, hck⟩ := hstD
        have hb := hI.base
        have hbs := hb.size
        unfold RT at hM
        obtain ⟨m0, m1, m2, mF⟩ := box3_cells hM
        go_cut [] (fun wx => NSt w wx g gm (k + 1))
        case first =>
          by_cases h2 : what = 2
          · subst h2
            go_wp2_with fail
            (with_reducible refine (takes_both w g cnt aT cT aD cD nn ts hs bs z _ hO hbs).mono ?_)
            rintro e w5 ⟨aT5, cT5, aD5, cD5, n5, ts5, hs5, bs5, ok, t, ab, nb, cb, lb, rfl, hO5, b5, ho5, hy5, hn5, KT⟩
            have HK := Lib.hid KT
            clear KT
            obtain ⟨h6, h7, k7, k7', B7⟩ := laidR_facts hM b5 hb hgm (.slice aT5 n5 cT5) (.slice aD5 n5 cD5) (.int .i64 (cnt : Int))
            obtain ⟨r0, r1, r2, rF⟩ := box3_cells h6
            have hD7 := k7' D _ _ _ (by decide) hbD
            obtain ⟨s0, s1, s2, sF⟩ := box3_cells hD7
            have hI7 := hI.keepsT k7' B7 (by decide) (by decide) (by decide)
            have hO7 := hO5.keepsT k7 (by decide) (by decide) (by decide)
            have ho7 := k7.own ho5 (by decide)
            unfold laidR set3 RT at *
            clear hI hO hM hb hO5 b5 ho5 hbD d0 d1 d2 dF m0 m1 m2 mF
            go_wp2_with fail
            (with_reducible refine (HK.out _ hI7).mono ?_)
            rintro e w8 ⟨a8, n8, c8, rfl, hB8, hI8, hK8⟩
            have hM8 := hK8.T gm _ _ _ (by decide) h7
            have hO8 := hO7.keepsT hK8.T (by decide) (by decide) (by decide)
            have ho8 := hK8.T.own ho7 (by decide)
            clear h6 h7 k7 k7' B7 r0 r1 r2 rF hD7 s0 s1 s2 sF hI7 hO7 ho7 hK8 HK
            go_wp2_with fail
            (with_reducible refine (sameBytes_any _ _ _ lb _ _ _ lb _ hB8 (bytesV_of_owns ho8 hy5 hn5)).mono ?_)
            rw [decide_eq_true rfl]
            rintro e w9 ⟨rfl, b9⟩
            go_wp2_with fail
            go_meet
            exact ⟨aT5, cT5, aD5, cD5, n5, ts5, hs5, bs5, cnt, hI8.below b9, hO8.keepsT (S := []) (keepsT_below b9) (by simp) (by simp) (by simp), box_below hM8 b9, hgm, by omega⟩
          · by_cases h3 : what = 3
            · subst h3
              go_wp2_with fail
              (with_reducible refine (loses_both w g cnt aT cT aD cD nn ts hs bs z _ hO hbs).mono ?_)
              rintro e w5 ⟨aT5, cT5, aD5, cD5, n5, ts5, hs5, bs5, cnt5, ok, rfl, hO5, b5, hc5, KT⟩
              have HK := Lib.hid KT
              clear KT
              obtain ⟨h6, h7, k7, k7', B7⟩ := laidR_facts hM b5 hb hgm (.slice aT5 n5 cT5) (.slice aD5 n5 cD5) (.int .i64 (cnt5 : Int))
              obtain ⟨r0, r1, r2, rF⟩ := box3_cells h6
              have hD7 := k7' D _ _ _ (by decide) hbD
              obtain ⟨s0, s1, s2, sF⟩ := box3_cells hD7
              have hI7 := hI.keepsT k7' B7 (by decide) (by decide) (by decide)
              have hO7 := hO5.keepsT k7 (by decide) (by decide) (by decide)
              unfold laidR set3 RT at *
              clear hI hO hM hb hO5 b5 hbD d0 d1 d2 dF m0 m1 m2 mF
              go_wp2_with fail
              (with_reducible refine (HK.out _ hI7).mono ?_)
              rintro e w8 ⟨rfl, hI8, hK8⟩
              have hM8 := hK8.T gm _ _ _ (by decide) h7
              have hO8 := hO7.keepsT hK8.T (by decide) (by decide) (by decide)
              clear h6 h7 k7 k7' B7 r0 r1 r2 rF hD7 s0 s1 s2 sF hI7 hO7 hK8 HK
              go_wp2_with fail
              go_meet
              exact ⟨aT5, cT5, aD5, cD5, n5, ts5, hs5, bs5, cnt5, hI8, hO8, hM8, hgm, by omega⟩
            · by_cases h4 : what = 4
              · subst h4
                go_wp2_with fail
                (with_reducible refine (doubles_both w g cnt aT cT aD cD nn ts hs bs z _ hO hbs (by omega)).mono ?_)
                rintro e w5 ⟨aT5, cT5, aD5, cD5, n5, ts5, hs5, bs5, cnt5, ok, rfl, hO5, b5, hc5, KT⟩
                have HK := Lib.hid KT
                clear KT
                obtain ⟨h6, h7, k7, k7', B7⟩ := laidR_facts hM b5 hb hgm (.slice aT5 n5 cT5) (.slice aD5 n5 cD5) (.int .i64 (cnt5 : Int))
                obtain ⟨r0, r1, r2, rF⟩ := box3_cells h6
                have hD7 := k7' D _ _ _ (by decide) hbD
                obtain ⟨s0, s1, s2, sF⟩ := box3_cells hD7
                have hI7 := hI.keepsT k7' B7 (by decide) (by decide) (by decide)
                have hO7 := hO5.keepsT k7 (by decide) (by decide) (by decide)
                unfold laidR set3 RT at *
                clear hI hO hM hb hO5 b5 hbD d0 d1 d2 dF m0 m1 m2 mF
                go_wp2_with fail
                (with_reducible refine (HK.out _ hI7).mono ?_)
                rintro e w8 ⟨rfl, hI8, hK8⟩
                have hM8 := hK8.T gm _ _ _ (by decide) h7
                have hO8 := hO7.keepsT hK8.T (by decide) (by decide) (by decide)
                clear h6 h7 k7 k7' B7 r0 r1 r2 rF hD7 s0 s1 s2 sF hI7 hO7 hK8 HK
                go_wp2_with fail
                go_meet
                exact ⟨aT5, cT5, aD5, cD5, n5, ts5, hs5, bs5, cnt5, hI8, hO8, hM8, hgm, by omega⟩
              · by_cases h1 : what = 1
                · subst h1
                  go_wp2_with fail
                  (with_reducible refine (sends_both w g cnt aT cT aD cD nn ts hs bs z ad n c l _ hO hbs (HBW.out.below hb) (by omega)).mono ?_)
                  rintro e w5 ⟨aT5, cT5, aD5, cD5, n5, ts5, hs5, bs5, cnt5, ok, rfl, hO5, b5, hc5, KT⟩
                  have HK := Lib.hid KT
                  clear KT
                  obtain ⟨h6, h7, k7, k7', B7⟩ := laidR_facts hM b5 hb hgm (.slice aT5 n5 cT5) (.slice aD5 n5 cD5) (.int .i64 (cnt5 : Int))
                  obtain ⟨r0, r1, r2, rF⟩ := box3_cells h6
                  have hD7 := k7' D _ _ _ (by decide) hbD
                  obtain ⟨s0, s1, s2, sF⟩ := box3_cells hD7
                  have hI7 := hI.keepsT k7' B7 (by decide) (by decide) (by decide)
                  have hO7 := hO5.keepsT k7 (by decide) (by decide) (by decide)
                  have hx7 := HBW.out.below B7
                  have hU := hO7.bound
                  have hgm7 := (Array.getElem?_eq_some_iff.1 h7).1
                  have hs7 := B7.size
                  obtain ⟨U, hUe⟩ : ∃ U, U = (laidR w5 gm (.slice aT5 n5 cT5) (.slice aD5 n5 cD5) (.int .i64 (cnt5 : Int))).heap.size := ⟨_, rfl⟩
                  rw [← hUe] at hU hgm7 hs7
                  have HU := Lib.hid hU
                  have HUE := Lib.hid hUe
                  clear hU hUe
                  unfold laidR set3 RT at *
                  clear hI hO hM hb hO5 b5 hbD d0 d1 d2 dF m0 m1 m2 mF
                  go_wp2_with fail
                  (with_reducible refine (copyBytes_any _ _ _ l _ hx7).mono ?_)
                  rintro e w8 ⟨a8, c8, rfl, o8, b8⟩
                  rw [HL.out] at o8 ⊢
                  rw [← HUE.out] at o8
                  have hq8 := fun b e => o8.lt b e
                  obtain ⟨q, hq⟩ : ∃ q, q = (Value.slice a8 n c8).ownBlock := ⟨_, rfl⟩
                  rw [← hq] at hq8
                  have HQ8 := Lib.hid hq8
                  have hN8 := hI7.off b8 (q := q) (fun b e => by have := (hq8 b e).1; rw [HUE.out] at this; exact this)
                  have hO8 := hO7.keepsT (S := []) (keepsT_below b8) (by simp) (by simp) (by simp)
                  have hM8 := box_below h7 b8
                  have hD8 := box_below hD7 b8
                  have hX8 := bytesV_of_owns o8 HBW.out.bytes HBW.out.small
                  have hI8 : Ink w8 U a8 n c8 := ⟨l, o8, HBW.out.bytes, HL.out⟩
                  clear hq8 h6 h7 k7 k7' B7 r0 r1 r2 rF hD7 s0 s1 s2 sF hI7 hO7 hx7 b8 o8
                  obtain ⟨s0, s1, s2, sF⟩ := box3_cells hD8
                  go_wp2_with fail
                  (with_reducible refine (HK.out _ q _ _ _ hN8 (fun b e => (HQ8.out b e).2) hX8).mono ?_)
                  rintro e w9 ⟨rfl, hN9, hK9⟩
                  have hM9 := hK9.T gm _ _ _ (by decide) hM8
                  have hO9 := hO8.keepsT hK9.T (by decide) (by decide) (by decide)
                  have hI9 : Ink w9 U a8 n c8 := by
                    obtain ⟨L, h, hB, hl⟩ := hI8
                    exact ⟨L, hK9.own h (by decide) (by decide), hB, hl⟩
                  clear hN8 hO8 hM8 hD8 hX8 hI8 s0 s1 s2 sF hK9 HK
                  have J9 : Ink w9 U a8 n c8 ∧ w9.grownBy w9 (Value.slice a8 n c8).ownBlock := ⟨hI9, World.grownBy_refl _ _⟩
                  clear hI9
                  go_wp2_with fail
                  go_loopw [10] (fun i wr => ∃ j : Nat, j ≤ n ∧ i = .int .i64 j ∧ Ink wr U a8 n c8 ∧ w9.grownBy wr (Value.slice a8 n c8).ownBlock) (fun i _ => n - (intOf i).toNat)
                  case atStart => exact ⟨0, Nat.zero_le _, rfl, J9⟩
                  case round =>
                    clear J9
                    obtain ⟨j, hj, rfl, hI, hG⟩ := hrel
                    by_cases hlt : j < n
                    · obtain ⟨go, x, rfl, hgo, hx, e0, e1⟩ := hI.cell hlt
                      have hqx := u8_xor_nat x 255 hx (by omega)
                      have hy := xor_255 hx (show 255 < 256 by omega)
                      obtain ⟨y, hyy⟩ : ∃ y, y = x ^^^ 255 := ⟨_, rfl⟩
                      rw [← hyy] at hqx hy
                      rw [show ((255 : Nat) : Int) = 255 from rfl] at hqx
                      have hI' := hI.set j y hy
                      have hG' : w9.grownBy (wr.setCell ⟨go, j, none⟩ (.int .u8 (y : Nat))) (some go) := grownBy_trans hG (grown_set wr go j _)
                      clear hyy hI hG
                      go_wp2
                      go_roundw
                      case rel => exact ⟨j + 1, by omega, by go_num, hI', hG'⟩
                      case measure => simp [intOf]; omega
                    · obtain rfl : j = n := by omega
                      rw [← hq] at hG
                      have hgq : q ≠ some gm := fun e => by have := (HQ8.out gm e).1; omega
                      have hN10 := hN9.grown hG (fun b e => by have := (HQ8.out b e).1; omega)
                      have hO10 := hO9.grown hG (fun b e => (HQ8.out b e).1) HU.out.1 HU.out.2.1 HU.out.2.2
                      have hM10 := box_grown hM9 hG hgq
                      clear hI hG hN9 hO9 hM9
                      go_wp2_with fail
                      go_meet
                      exact ⟨aT5, cT5, aD5, cD5, n5, ts5, hs5, bs5, cnt5, hN10, hO10, hM10, hgm, by omega⟩
                · have n1 : (what == 1) = false := by simpa using h1
                  have n2 : (what == 2) = false := by simpa using h2
                  have n3 : (what == 3) = false := by simpa using h3
                  have n4 : (what == 4) = false := by simpa using h4
                  clear h1 h2 h3 h4
                  go_wp2_with fail
                  go_meet
                  exact ⟨aT, cT, aD, cD, nn, ts, hs, bs, cnt, hI, hO, hM, hgm, by omega⟩
        case rest =>
          clear hI hO hM hb hbD d0 d1 d2 dF m0 m1 m2 mF hgm hck hbs hwf z0 z1
          obtain ⟨aT, cT, aD, cD, nn, ts, hs, bs, cnt, hI, hO, hM, hgm, hck⟩ := hcut
          have hT := hO.ref.ints
          have hlen := hO.len
          have hle := hO.le
          unfold RT at hM
          obtain ⟨m0, m1, m2, mF⟩ := box3_cells hM
          have HO := Lib.hid hO
          have KF := fun w' h => is_flight w g (cnt : Int) ts bs w' h (by omega)
          rw [hlen] at KF
          have HLEN := Lib.hid hlen
          clear hO hlen
          go_wp2_with fail
          go_region_held3 (fun w' => w'.cell? ⟨gm, 0, none⟩ = some (.slice aT nn cT) ∧ w'.cell? ⟨gm, 2, none⟩ = some (.int .i64 (cnt : Int))) (first | exact ⟨r0, r2⟩ | exact ⟨q0, q2⟩ | exact ⟨m0, m2⟩)
            (first
              | (go_at_call 22; (with_reducible refine (KF _ ?hh).mono ?_); (case hh => exact hI.below ⟨rfl, rfl, rfl, Nat.le_refl _, fun _ _ => rfl⟩); rintro e w20 ⟨a20, c20, rfl, h20, -, b20⟩; have b20' : Below wc.heap.size wc w20 := ⟨b20.os, b20.tape, b20.output, b20.size, b20.block⟩; have hI20 := hI.below b20'; have hM20 := box_below hM b20'; have hT20 := hT.below b20'; obtain ⟨q0, q1, q2, qF⟩ := box3_cells hM20)
              | (go_at_call 21; (with_reducible refine (sameInts_any _ _ _ ts _ _ _ ts _ ?h1 ?h2).mono ?_); (case h1 => exact h20.below ⟨rfl, rfl, rfl, Nat.le_refl _, fun _ _ => rfl⟩); (case h2 => exact hT20.below ⟨rfl, rfl, rfl, Nat.le_refl _, fun _ _ => rfl⟩); rw [decide_eq_true rfl]; rintro e w21 ⟨rfl, b21⟩; have b21' : Below w20.heap.size w20 w21 := ⟨b21.os, b21.tape, b21.output, b21.size, b21.block⟩; have hI21 := hI20.below b21'; have hM21 := box_below hM20 b21'; obtain ⟨r0, r1, r2, rF⟩ := box3_cells hM21)
              | (go_at_call 23; (with_reducible refine (is_sent w g (cnt : Int) ts bs _ ?hh).mono ?_); (case hh => exact hI21.below ⟨rfl, rfl, rfl, Nat.le_refl _, fun _ _ => rfl⟩); rintro e w22 ⟨rfl, rfl⟩))
          all_goals go_wp2
          all_goals
            go_roundw
            case rel => exact ⟨k + 1, by omega, by go_num, aT, cT, aD, cD, nn, ts, hs, bs, cnt, hI21, (HO.out.keepsT (S := []) (keepsT_below b20') (by simp) (by simp) (by simp)).keepsT (S := []) (keepsT_below b21') (by simp) (by simp) (by simp), hM21, hgm, hck⟩
            case measure => simp [intOf]; omega
    · obtain rfl : k = m := by omega
      have hb := hst.base
      go_wp2
      go_ret
      exact ⟨rfl, hb⟩
end Go.Proofs.Ytbkbkhinpeoflaa
