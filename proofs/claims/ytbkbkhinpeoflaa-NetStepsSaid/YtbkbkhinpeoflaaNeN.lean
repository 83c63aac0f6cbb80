/-
  net: NetCounts.
-/
import Derived.Test.YtbkbkhinpeoflaaNeL
import Derived.Test.YtbkbkhinpeoflaaLawO
import Derived.Deep.RegionHeld3
namespace Go.Proofs.Ytbkbkhinpeoflaa
open Go.RowKit

set_option maxRecDepth 10000 in
theorem cut_any (ad : Option Addr) (n c : Nat) (K N : Nat → Int) (Hd : Nat → Option Addr × Nat × Nat) (L : Nat → List Nat) (w : World) (h : OpsV w ad n c K N Hd L) :
    Calls Try.prog 10 #[.slice ad n c] w fun e w' => ∃ m, m ≤ 60 ∧ m ≤ n ∧ e = .returned (.slice ad m c) ∧ OpsV w ad m c K N Hd L ∧ w' = w := by
  have hs := h.small
  have hc := h.cap
  have hm := h.capm
  unfold maxLen at hs hm
  by_cases h60 : 60 < n
  · obtain ⟨b, o, e, _, _⟩ := h.row (by omega)
    subst e
    go_enter Try.func10, Try.ntmps10
    go_wp2
    go_ret
    exact ⟨60, Nat.le_refl _, by omega, rfl, h.cut (by omega), rfl⟩
  · have h6 : n ≤ 60 := by omega
    go_enter Try.func10, Try.ntmps10
    go_wp2
    go_ret
    exact ⟨n, h6, Nat.le_refl _, rfl, h, rfl⟩

theorem box3_cells {w : World} {b : Nat} {v0 v1 v2 : Value} {T : TypeId} (h : w.heap[b]? = some (.cells #[v0, v1, v2] T (0, 0))) : w.cell? ⟨b, 0, none⟩ = some v0 ∧ w.cell? ⟨b, 1, none⟩ = some v1 ∧ w.cell? ⟨b, 2, none⟩ = some v2 ∧ ∀ j, w.frozen? ⟨b, j, none⟩ = false :=
  ⟨cell_of_row _ _ 0 _ _ _ h, cell_of_row _ _ 1 _ _ _ h, cell_of_row _ _ 2 _ _ _ h, fun _ => frozen_of_row _ _ _ _ _ h⟩

set_option maxRecDepth 100000 in
set_option maxHeartbeats 8000000 in
theorem netCounts_walk (a0 : Option Addr) (n0 c0 : Nat) (K N : Nat → Int) (Hd : Nat → Option Addr × Nat × Nat) (L : Nat → List Nat) (w : World) (hS : OpsV w a0 n0 c0 K N Hd L) :
    Calls Try.prog 4 #[.slice a0 n0 c0] w fun e w' => e = .returned (.bool true) ∧ Below w.heap.size w w' := by
  have KA := alive_any
  go_enter Try.func4, Try.ntmps4
  go_wp2_with (go_at_call 8; (with_reducible refine (KA _).mono ?_); rintro e w1 ⟨rfl, hb1⟩)
  clear KA
  (with_reducible refine (is_new w w1 hb1).mono ?_)
  rintro e w2 ⟨rfl, hI, -⟩
  obtain ⟨g, hg⟩ : ∃ g, g = w1.heap.size := ⟨_, rfl⟩
  rw [← hg] at hI ⊢
  clear hg hb1
  go_wp2_with fail
  (with_reducible refine (cut_any _ _ _ K N Hd L _ (hS.below hI.base)).mono ?_)
  rintro e w3 ⟨m, hm, hmn, rfl, -, rfl⟩
  have hSm := hS.cut hmn
  clear hS
  have HS := Lib.hid hSm
  clear hSm
  go_wp2
  go_loopw [4, 5] (fun u i wr => ∃ (k gone : Nat) (ts : List Int) (bs : List (List Nat)), k ≤ m ∧ i = .int .i64 k ∧ u = .int .i64 gone ∧ NetIs w wr g ((gone + ts.length : Nat) : Int) ts bs ∧ gone + ts.length ≤ k) (fun _ i _ => m - (intOf i).toNat)
  case atStart => exact ⟨0, 0, [], [], Nat.zero_le _, rfl, rfl, hI, Nat.le_refl _⟩
  case round =>
    clear hI
    obtain ⟨k, gone, ts, bs, hk, rfl, rfl, hI, hle⟩ := hrel
    by_cases hkm : k < m
    · have hb := hI.base
      obtain ⟨b, o, rfl, hbl, hc⟩ := (HS.out.below hb).row (by omega)
      obtain ⟨e0, e1, e2, hB, hwf⟩ := hc k hkm
      have hsm := HS.out.small
      have hcap := HS.out.cap
      have hcapm := HS.out.capm
      unfold maxLen at hcapm hsm
      clear hc
      generalize Hd k = hd at e2 hB
      generalize L k = l at hB
      generalize N k = z at e1 hwf
      generalize K k = what at e0
      obtain ⟨ad, n, c⟩ := hd
      simp only at e2
      have hl : l.length = n := hB.length
      have HL := Lib.hid hl
      clear hl
      obtain ⟨z0, z1⟩ := wf_i64 hwf
      have hDI := fun C T => hI.below (below_alloc wr (.cells C T))
      by_cases h1 : what = 1
      · subst h1
        go_wp2
        have hbD := heap_alloc_new wr (.cells #[.int .i64 1, .int .i64 z, .slice ad n c] 33)
        have hID := hI.below (below_alloc wr (.cells #[.int .i64 1, .int .i64 z, .slice ad n c] 33))
        have hBD := hB.below (below_alloc wr (.cells #[.int .i64 1, .int .i64 z, .slice ad n c] 33))
        generalize hww : wr.alloc (.cells #[.int .i64 1, .int .i64 z, .slice ad n c] 33) = wD at hbD hID hBD ⊢
        obtain ⟨d0, d1, d2, dF⟩ := box3_cells hbD
        generalize wr.heap.size = D at hbD d0 d1 d2 dF ⊢
        clear hww hI hB e0 e1 e2
        have KS := fun a c w' h hx => is_sendK w g ((gone + ts.length : Nat) : Int) ts bs z a l.length c l w' h hx (by omega) (by omega) (by omega)
        go_region_held3 (fun w' => w'.cell? ⟨D, 1, none⟩ = some (.int .i64 z) ∧ w'.cell? ⟨D, 2, none⟩ = some (.slice ad n c)) (first | exact ⟨r1, r2⟩ | exact ⟨q1, q2⟩ | exact ⟨d1, d2⟩)
          (first
            | (go_at_call 12; (with_reducible refine (copyBytes_any _ _ _ l _ ?hh).mono ?_); (case hh => exact hBD.below ⟨rfl, rfl, rfl, Nat.le_refl _, fun _ _ => rfl⟩); rintro e w20 ⟨a20, c20, rfl, o20, b20⟩; have h20 := bytesV_of_owns o20 hBD.bytes (by rw [HL.out]; exact hBD.small); have b20' : Below wD.heap.size wD w20 := ⟨b20.os, b20.tape, b20.output, b20.size, b20.block⟩; have hI20 := hID.below b20'; have hb20 := (b20'.block D (Array.getElem?_eq_some_iff.1 hbD).1).trans hbD; obtain ⟨q0, q1, q2, qF⟩ := box3_cells hb20)
            | (go_at_call 13; (with_reducible refine (KS a20 c20 _ ?hh ?hx).mono ?_); (case hh => exact hI20.below ⟨rfl, rfl, rfl, Nat.le_refl _, fun _ _ => rfl⟩); (case hx => exact h20.below ⟨rfl, rfl, rfl, Nat.le_refl _, fun _ _ => rfl⟩); rintro e w21 ⟨rfl, hI21, hK21⟩; have hb21 := hK21 D _ _ _ (by decide) (by decide) hb20; obtain ⟨r0, r1, r2, rF⟩ := box3_cells hb21))
        all_goals clear hID hBD hbD d0 d1 d2 dF KS hDI hb
        all_goals
          have hle9 : gone + (ts ++ [z]).length ≤ k + 1 := by simp; omega
          have hI9 : NetIs w w21 g ((gone + (ts ++ [z]).length : Nat) : Int) (ts ++ [z]) (bs ++ [l]) := by rw [show ((gone + (ts ++ [z]).length : Nat) : Int) = ((gone + ts.length : Nat) : Int) + 1 by simp; omega]; exact hI21
          obtain ⟨ts9, hts9⟩ : ∃ x, x = ts ++ [z] := ⟨_, rfl⟩
          obtain ⟨bs9, hbs9⟩ : ∃ x, x = bs ++ [l] := ⟨_, rfl⟩
          obtain ⟨q9, hq9⟩ : ∃ x, x = ts9.length := ⟨_, rfl⟩
          rw [← hts9, ← hq9] at hle9
          rw [← hts9, ← hbs9, ← hq9] at hI9
          have HQ := Lib.hid hq9.symm
          clear hts9 hbs9 hq9
          have KF := fun w' h => is_flight w g ((gone + q9 : Nat) : Int) ts9 bs9 w' h (by rw [HQ.out]; omega)
          rw [HQ.out] at KF
          go_wp2_with fail
          (with_reducible refine (is_sent w g _ ts9 bs9 _ hI9).mono ?_)
          rintro e wS ⟨rfl, rfl⟩
          go_wp2_with fail
          (with_reducible refine (KF _ hI9).mono ?_)
          rintro e wF ⟨af, cf, rfl, -, -, bF⟩
          have hIF := hI9.below bF
          clear hI9 bF
          go_wp2_with fail
          (with_reducible refine (KF _ hIF).mono ?_)
          rintro e wG ⟨ag, cg, rfl, -, -, bG⟩
          have hIG := hIF.below bG
          clear hIF bG
          go_wp2
          go_roundw
          case rel => exact ⟨k + 1, gone, ts9, bs9, by omega, by go_num, by go_num, by rw [HQ.out]; exact hIG, by rw [HQ.out]; exact hle9⟩
          case measure => simp [intOf]; omega
      · by_cases h2 : what = 2
        · subst h2
          clear h1
          go_wp2_with fail
          have hbD := heap_alloc_new wr (.cells #[.int .i64 2, .int .i64 z, .slice ad n c] 33)
          have hID := hI.below (below_alloc wr (.cells #[.int .i64 2, .int .i64 z, .slice ad n c] 33))
          have hBD := hB.below (below_alloc wr (.cells #[.int .i64 2, .int .i64 z, .slice ad n c] 33))
          generalize hww : wr.alloc (.cells #[.int .i64 2, .int .i64 z, .slice ad n c] 33) = wD at hbD hID hBD ⊢
          obtain ⟨d0, d1, d2, dF⟩ := box3_cells hbD
          generalize wr.heap.size = D at hbD d0 d1 d2 dF ⊢
          clear hww hI hB e0 e1 e2
          by_cases hin : z < 0 ∨ (ts.length : Int) ≤ z
          · have KT := is_take_no w g ((gone + ts.length : Nat) : Int) ts bs z wD hID hin
            (with_reducible refine KT.mono ?_)
            rintro e w21 ⟨rfl, hI21, -⟩
            clear KT hID hBD hbD d0 d1 d2 dF hDI hb hin
            have hle9 : gone + (ts).length ≤ k + 1 := by omega
            have hI9 : NetIs w w21 g ((gone + (ts).length : Nat) : Int) (ts) (bs) := hI21
            obtain ⟨ts9, hts9⟩ : ∃ x, x = ts := ⟨_, rfl⟩
            obtain ⟨bs9, hbs9⟩ : ∃ x, x = bs := ⟨_, rfl⟩
            obtain ⟨q9, hq9⟩ : ∃ x, x = ts9.length := ⟨_, rfl⟩
            rw [← hts9, ← hq9] at hle9
            rw [← hts9, ← hbs9, ← hq9] at hI9
            have HQ := Lib.hid hq9.symm
            clear hts9 hbs9 hq9
            have KF := fun w' h => is_flight w g ((gone + q9 : Nat) : Int) ts9 bs9 w' h (by rw [HQ.out]; omega)
            rw [HQ.out] at KF
            go_wp2_with fail
            (with_reducible refine (is_sent w g _ ts9 bs9 _ hI9).mono ?_)
            rintro e wS ⟨rfl, rfl⟩
            go_wp2_with fail
            (with_reducible refine (KF _ hI9).mono ?_)
            rintro e wF ⟨af, cf, rfl, -, -, bF⟩
            have hIF := hI9.below bF
            clear hI9 bF
            go_wp2_with fail
            (with_reducible refine (KF _ hIF).mono ?_)
            rintro e wG ⟨ag, cg, rfl, -, -, bG⟩
            have hIG := hIF.below bG
            clear hIF bG
            go_wp2
            go_roundw
            case rel => exact ⟨k + 1, gone, ts9, bs9, by omega, by go_num, by go_num, by rw [HQ.out]; exact hIG, by rw [HQ.out]; exact hle9⟩
            case measure => simp [intOf]; omega
          · obtain ⟨j, rfl⟩ := Int.eq_ofNat_of_zero_le (show 0 ≤ z by omega)
            have hj : j < ts.length := by omega
            have KT := is_take w g ((gone + ts.length : Nat) : Int) ts bs j _ _ wD hID (by omega) (List.getElem?_eq_getElem hj) (List.getElem?_eq_getElem (by rw [← hID.len]; exact hj))
            have hlen : (ts.eraseIdx j).length + 1 = ts.length := by rw [List.length_eraseIdx, if_pos hj]; omega
            generalize ts[j] = tj at KT
            generalize hbj : bs[j]'(by rw [← hID.len]; exact hj) = bj at KT
            clear hbj
            (with_reducible refine KT.mono ?_)
            rintro e w21 ⟨a21, c21, rfl, -, hI21⟩
            clear KT hID hBD hbD d0 d1 d2 dF hDI hb hin
            rw [← hlen] at hI21
            have hle21 : gone + 1 + (ts.eraseIdx j).length ≤ k := by omega
            have HJ := Lib.hid hlen
            clear hlen
            have hle9 : gone + 1 + (ts.eraseIdx j).length ≤ k + 1 := by omega
            have hI9 : NetIs w w21 g ((gone + 1 + (ts.eraseIdx j).length : Nat) : Int) (ts.eraseIdx j) (bs.eraseIdx j) := by have := hI21; rwa [show gone + ((ts.eraseIdx j).length + 1) = gone + 1 + (ts.eraseIdx j).length by omega] at this
            obtain ⟨ts9, hts9⟩ : ∃ x, x = ts.eraseIdx j := ⟨_, rfl⟩
            obtain ⟨bs9, hbs9⟩ : ∃ x, x = bs.eraseIdx j := ⟨_, rfl⟩
            obtain ⟨q9, hq9⟩ : ∃ x, x = ts9.length := ⟨_, rfl⟩
            rw [← hts9, ← hq9] at hle9
            rw [← hts9, ← hbs9, ← hq9] at hI9
            have HQ := Lib.hid hq9.symm
            clear hts9 hbs9 hq9
            have KF := fun w' h => is_flight w g ((gone + 1 + q9 : Nat) : Int) ts9 bs9 w' h (by rw [HQ.out]; omega)
            rw [HQ.out] at KF
            go_wp2_with fail
            (with_reducible refine (is_sent w g _ ts9 bs9 _ hI9).mono ?_)
            rintro e wS ⟨rfl, rfl⟩
            go_wp2_with fail
            (with_reducible refine (KF _ hI9).mono ?_)
            rintro e wF ⟨af, cf, rfl, -, -, bF⟩
            have hIF := hI9.below bF
            clear hI9 bF
            go_wp2_with fail
            (with_reducible refine (KF _ hIF).mono ?_)
            rintro e wG ⟨ag, cg, rfl, -, -, bG⟩
            have hIG := hIF.below bG
            clear hIF bG
            go_wp2
            go_roundw
            case rel => exact ⟨k + 1, gone + 1, ts9, bs9, by omega, by go_num, by go_num, by rw [HQ.out]; exact hIG, by rw [HQ.out]; exact hle9⟩
            case measure => simp [intOf]; omega
        · by_cases h3 : what = 3
          · subst h3
            clear h1 h2
            go_wp2_with fail
            have hbD := heap_alloc_new wr (.cells #[.int .i64 3, .int .i64 z, .slice ad n c] 33)
            have hID := hI.below (below_alloc wr (.cells #[.int .i64 3, .int .i64 z, .slice ad n c] 33))
            have hBD := hB.below (below_alloc wr (.cells #[.int .i64 3, .int .i64 z, .slice ad n c] 33))
            generalize hww : wr.alloc (.cells #[.int .i64 3, .int .i64 z, .slice ad n c] 33) = wD at hbD hID hBD ⊢
            obtain ⟨d0, d1, d2, dF⟩ := box3_cells hbD
            generalize wr.heap.size = D at hbD d0 d1 d2 dF ⊢
            clear hww hI hB e0 e1 e2
            by_cases hin : z < 0 ∨ (ts.length : Int) ≤ z
            · have KT := is_lose_no w g ((gone + ts.length : Nat) : Int) ts bs z wD hID hin
              (with_reducible refine KT.mono ?_)
              rintro e w21 ⟨rfl, hI21⟩
              clear KT hID hBD hbD d0 d1 d2 dF hDI hb hin
              have hle9 : gone + (ts).length ≤ k + 1 := by omega
              have hI9 : NetIs w w21 g ((gone + (ts).length : Nat) : Int) (ts) (bs) := hI21
              obtain ⟨ts9, hts9⟩ : ∃ x, x = ts := ⟨_, rfl⟩
              obtain ⟨bs9, hbs9⟩ : ∃ x, x = bs := ⟨_, rfl⟩
              obtain ⟨q9, hq9⟩ : ∃ x, x = ts9.length := ⟨_, rfl⟩
              rw [← hts9, ← hq9] at hle9
              rw [← hts9, ← hbs9, ← hq9] at hI9
              have HQ := Lib.hid hq9.symm
              clear hts9 hbs9 hq9
              have KF := fun w' h => is_flight w g ((gone + q9 : Nat) : Int) ts9 bs9 w' h (by rw [HQ.out]; omega)
              rw [HQ.out] at KF
              go_wp2_with fail
              (with_reducible refine (is_sent w g _ ts9 bs9 _ hI9).mono ?_)
              rintro e wS ⟨rfl, rfl⟩
              go_wp2_with fail
              (with_reducible refine (KF _ hI9).mono ?_)
              rintro e wF ⟨af, cf, rfl, -, -, bF⟩
              have hIF := hI9.below bF
              clear hI9 bF
              go_wp2_with fail
              (with_reducible refine (KF _ hIF).mono ?_)
              rintro e wG ⟨ag, cg, rfl, -, -, bG⟩
              have hIG := hIF.below bG
              clear hIF bG
              go_wp2
              go_roundw
              case rel => exact ⟨k + 1, gone, ts9, bs9, by omega, by go_num, by go_num, by rw [HQ.out]; exact hIG, by rw [HQ.out]; exact hle9⟩
              case measure => simp [intOf]; omega
            · obtain ⟨j, rfl⟩ := Int.eq_ofNat_of_zero_le (show 0 ≤ z by omega)
              have hj : j < ts.length := by omega
              have KT := is_lose w g ((gone + ts.length : Nat) : Int) ts bs j wD hID (by omega) hj
              have hlen : (ts.eraseIdx j).length + 1 = ts.length := by rw [List.length_eraseIdx, if_pos hj]; omega
              (with_reducible refine KT.mono ?_)
              rintro e w21 ⟨rfl, hI21⟩
              clear KT hID hBD hbD d0 d1 d2 dF hDI hb hin
              rw [← hlen] at hI21
              have hle21 : gone + 1 + (ts.eraseIdx j).length ≤ k := by omega
              have HJ := Lib.hid hlen
              clear hlen
              have hle9 : gone + 1 + (ts.eraseIdx j).length ≤ k + 1 := by omega
              have hI9 : NetIs w w21 g ((gone + 1 + (ts.eraseIdx j).length : Nat) : Int) (ts.eraseIdx j) (bs.eraseIdx j) := by have := hI21; rwa [show gone + ((ts.eraseIdx j).length + 1) = gone + 1 + (ts.eraseIdx j).length by omega] at this
              obtain ⟨ts9, hts9⟩ : ∃ x, x = ts.eraseIdx j := ⟨_, rfl⟩
              obtain ⟨bs9, hbs9⟩ : ∃ x, x = bs.eraseIdx j := ⟨_, rfl⟩
              obtain ⟨q9, hq9⟩ : ∃ x, x = ts9.length := ⟨_, rfl⟩
              rw [← hts9, ← hq9] at hle9
              rw [← hts9, ← hbs9, ← hq9] at hI9
              have HQ := Lib.hid hq9.symm
              clear hts9 hbs9 hq9
              have KF := fun w' h => is_flight w g ((gone + 1 + q9 : Nat) : Int) ts9 bs9 w' h (by rw [HQ.out]; omega)
              rw [HQ.out] at KF
              go_wp2_with fail
              (with_reducible refine (is_sent w g _ ts9 bs9 _ hI9).mono ?_)
              rintro e wS ⟨rfl, rfl⟩
              go_wp2_with fail
              (with_reducible refine (KF _ hI9).mono ?_)
              rintro e wF ⟨af, cf, rfl, -, -, bF⟩
              have hIF := hI9.below bF
              clear hI9 bF
              go_wp2_with fail
              (with_reducible refine (KF _ hIF).mono ?_)
              rintro e wG ⟨ag, cg, rfl, -, -, bG⟩
              have hIG := hIF.below bG
              clear hIF bG
              go_wp2
              go_roundw
              case rel => exact ⟨k + 1, gone + 1, ts9, bs9, by omega, by go_num, by go_num, by rw [HQ.out]; exact hIG, by rw [HQ.out]; exact hle9⟩
              case measure => simp [intOf]; omega
          · by_cases h4 : what = 4
            · subst h4
              clear h1 h2 h3
              go_wp2_with fail
              have hbD := heap_alloc_new wr (.cells #[.int .i64 4, .int .i64 z, .slice ad n c] 33)
              have hID := hI.below (below_alloc wr (.cells #[.int .i64 4, .int .i64 z, .slice ad n c] 33))
              have hBD := hB.below (below_alloc wr (.cells #[.int .i64 4, .int .i64 z, .slice ad n c] 33))
              generalize hww : wr.alloc (.cells #[.int .i64 4, .int .i64 z, .slice ad n c] 33) = wD at hbD hID hBD ⊢
              obtain ⟨d0, d1, d2, dF⟩ := box3_cells hbD
              generalize wr.heap.size = D at hbD d0 d1 d2 dF ⊢
              clear hww hI hB e0 e1 e2
              by_cases hin : z < 0 ∨ (ts.length : Int) ≤ z
              · have KT := is_double_no w g ((gone + ts.length : Nat) : Int) ts bs z wD hID hin
                (with_reducible refine KT.mono ?_)
                rintro e w21 ⟨rfl, hI21⟩
                clear KT hID hBD hbD d0 d1 d2 dF hDI hb hin
                have hle9 : gone + (ts).length ≤ k + 1 := by omega
                have hI9 : NetIs w w21 g ((gone + (ts).length : Nat) : Int) (ts) (bs) := hI21
                obtain ⟨ts9, hts9⟩ : ∃ x, x = ts := ⟨_, rfl⟩
                obtain ⟨bs9, hbs9⟩ : ∃ x, x = bs := ⟨_, rfl⟩
                obtain ⟨q9, hq9⟩ : ∃ x, x = ts9.length := ⟨_, rfl⟩
                rw [← hts9, ← hq9] at hle9
                rw [← hts9, ← hbs9, ← hq9] at hI9
                have HQ := Lib.hid hq9.symm
                clear hts9 hbs9 hq9
                have KF := fun w' h => is_flight w g ((gone + q9 : Nat) : Int) ts9 bs9 w' h (by rw [HQ.out]; omega)
                rw [HQ.out] at KF
                go_wp2_with fail
                (with_reducible refine (is_sent w g _ ts9 bs9 _ hI9).mono ?_)
                rintro e wS ⟨rfl, rfl⟩
                go_wp2_with fail
                (with_reducible refine (KF _ hI9).mono ?_)
                rintro e wF ⟨af, cf, rfl, -, -, bF⟩
                have hIF := hI9.below bF
                clear hI9 bF
                go_wp2_with fail
                (with_reducible refine (KF _ hIF).mono ?_)
                rintro e wG ⟨ag, cg, rfl, -, -, bG⟩
                have hIG := hIF.below bG
                clear hIF bG
                go_wp2
                go_roundw
                case rel => exact ⟨k + 1, gone, ts9, bs9, by omega, by go_num, by go_num, by rw [HQ.out]; exact hIG, by rw [HQ.out]; exact hle9⟩
                case measure => simp [intOf]; omega
              · obtain ⟨j, rfl⟩ := Int.eq_ofNat_of_zero_le (show 0 ≤ z by omega)
                have hj : j < ts.length := by omega
                have KT := is_double w g ((gone + ts.length : Nat) : Int) ts bs j _ _ wD hID (List.getElem?_eq_getElem hj) (List.getElem?_eq_getElem (by rw [← hID.len]; exact hj)) (by omega) (by omega) (by omega)
                generalize ts[j] = tj at KT
                generalize hbj : bs[j]'(by rw [← hID.len]; exact hj) = bj at KT
                clear hbj
                (with_reducible refine KT.mono ?_)
                rintro e w21 ⟨rfl, hI21⟩
                clear KT hID hBD hbD d0 d1 d2 dF hDI hb hin
                have hle9 : gone + (ts ++ [tj]).length ≤ k + 1 := by simp; omega
                have hI9 : NetIs w w21 g ((gone + (ts ++ [tj]).length : Nat) : Int) (ts ++ [tj]) (bs ++ [bj]) := by rw [show ((gone + (ts ++ [tj]).length : Nat) : Int) = ((gone + ts.length : Nat) : Int) + 1 by simp; omega]; exact hI21
                obtain ⟨ts9, hts9⟩ : ∃ x, x = ts ++ [tj] := ⟨_, rfl⟩
                obtain ⟨bs9, hbs9⟩ : ∃ x, x = bs ++ [bj] := ⟨_, rfl⟩
                obtain ⟨q9, hq9⟩ : ∃ x, x = ts9.length := ⟨_, rfl⟩
                rw [← hts9, ← hq9] at hle9
                rw [← hts9, ← hbs9, ← hq9] at hI9
                have HQ := Lib.hid hq9.symm
                clear hts9 hbs9 hq9
                have KF := fun w' h => is_flight w g ((gone + q9 : Nat) : Int) ts9 bs9 w' h (by rw [HQ.out]; omega)
                rw [HQ.out] at KF
                go_wp2_with fail
                (with_reducible refine (is_sent w g _ ts9 bs9 _ hI9).mono ?_)
                rintro e wS ⟨rfl, rfl⟩
                go_wp2_with fail
                (with_reducible refine (KF _ hI9).mono ?_)
                rintro e wF ⟨af, cf, rfl, -, -, bF⟩
                have hIF := hI9.below bF
                clear hI9 bF
                go_wp2_with fail
                (with_reducible refine (KF _ hIF).mono ?_)
                rintro e wG ⟨ag, cg, rfl, -, -, bG⟩
                have hIG := hIF.below bG
                clear hIF bG
                go_wp2
                go_roundw
                case rel => exact ⟨k + 1, gone, ts9, bs9, by omega, by go_num, by go_num, by rw [HQ.out]; exact hIG, by rw [HQ.out]; exact hle9⟩
                case measure => simp [intOf]; omega
            · have n1 : (what == 1) = false := by simpa using h1
              have n2 : (what == 2) = false := by simpa using h2
              have n3 : (what == 3) = false := by simpa using h3
              have n4 : (what == 4) = false := by simpa using h4
              clear h1 h2 h3 h4
              go_wp2_with fail
              have hbD := heap_alloc_new wr (.cells #[.int .i64 what, .int .i64 z, .slice ad n c] 33)
              have hID := hI.below (below_alloc wr (.cells #[.int .i64 what, .int .i64 z, .slice ad n c] 33))
              have hBD := hB.below (below_alloc wr (.cells #[.int .i64 what, .int .i64 z, .slice ad n c] 33))
              generalize hww : wr.alloc (.cells #[.int .i64 what, .int .i64 z, .slice ad n c] 33) = wD at hbD hID hBD ⊢
              obtain ⟨d0, d1, d2, dF⟩ := box3_cells hbD
              generalize wr.heap.size = D at hbD d0 d1 d2 dF ⊢
              clear hww hI hB e0 e1 e2
              clear hBD hbD d0 d1 d2 dF hDI hb
              have hle9 : gone + (ts).length ≤ k + 1 := by omega
              have hI9 : NetIs w wD g ((gone + (ts).length : Nat) : Int) (ts) (bs) := hID
              obtain ⟨ts9, hts9⟩ : ∃ x, x = ts := ⟨_, rfl⟩
              obtain ⟨bs9, hbs9⟩ : ∃ x, x = bs := ⟨_, rfl⟩
              obtain ⟨q9, hq9⟩ : ∃ x, x = ts9.length := ⟨_, rfl⟩
              rw [← hts9, ← hq9] at hle9
              rw [← hts9, ← hbs9, ← hq9] at hI9
              have HQ := Lib.hid hq9.symm
              clear hts9 hbs9 hq9
              have KF := fun w' h => is_flight w g ((gone + q9 : Nat) : Int) ts9 bs9 w' h (by rw [HQ.out]; omega)
              rw [HQ.out] at KF
              skip
              (with_reducible refine (is_sent w g _ ts9 bs9 _ hI9).mono ?_)
              rintro e wS ⟨rfl, rfl⟩
              go_wp2_with fail
              (with_reducible refine (KF _ hI9).mono ?_)
              rintro e wF ⟨af, cf, rfl, -, -, bF⟩
              have hIF := hI9.below bF
              clear hI9 bF
              go_wp2_with fail
              (with_reducible refine (KF _ hIF).mono ?_)
              rintro e wG ⟨ag, cg, rfl, -, -, bG⟩
              have hIG := hIF.below bG
              clear hIF bG
              go_wp2
              go_roundw
              case rel => exact ⟨k + 1, gone, ts9, bs9, by omega, by go_num, by go_num, by rw [HQ.out]; exact hIG, by rw [HQ.out]; exact hle9⟩
              case measure => simp [intOf]; omega
    · obtain rfl : k = m := by omega
      go_wp2
      go_ret
      exact ⟨rfl, hI.base⟩
end Go.Proofs.Ytbkbkhinpeoflaa
