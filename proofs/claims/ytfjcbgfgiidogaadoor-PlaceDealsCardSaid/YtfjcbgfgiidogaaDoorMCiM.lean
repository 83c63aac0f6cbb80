/-
  rilllaw13: PlaceDeals.
-/
import Derived.Deep.RegionHeld3
import Derived.Test.YtfjcbgfgiidogaaDoorMCi1
import Derived.Test.YtfjcbgfgiidogaaDoorMPl2
import Derived.Test.YtfjcbgfgiidogaaDoorMCi3
import Derived.Test.YtfjcbgfgiidogaaDoorMChU
namespace Go.Proofs.YtfjcbgfgiidogaaDoor
open Go.RowKit

set_option maxRecDepth 100000 in
set_option maxHeartbeats 4000000 in
theorem refDeal_badc (n u r c t s : Int) (va : Option Addr) (vn vc : Nat) (w : World) (hG : ¬ Good n u r c t s) (hu : -9223372036854775808 ≤ u ∧ u ≤ 9223372036854775807) (hr : -9223372036854775808 ≤ r ∧ r ≤ 9223372036854775807) :
    Calls Tryd.prog 36 #[cfg n u r c t s, .slice va vn vc] w fun e w' => e = .returned (.tuple #[.slice none 0 0, .int .i64 130]) ∧ Below w.heap.size w w' := by
  have HC := fun w => refCheck_any n u r c t s w hu hr
  rw [chk_bad hG] at HC
  clear hG
  unfold cfg at HC ⊢
  go_enter Tryd.func36, Tryd.ntmps36
  go_wp2_with fail
  (with_reducible refine (HC _).mono ?_)
  rintro e w1 ⟨rfl, hb1⟩
  obtain ⟨-, -, -, hbw⟩ := after_callP _ _ _ hb1
  clear HC hb1
  go_wp2
  go_ret2
  exact ⟨rfl, hbw⟩
set_option maxRecDepth 100000 in
set_option maxHeartbeats 4000000 in
theorem refDeal_bads (n u r c t s : Int) (va : Option Addr) (vn vc : Nat) (w : World) (hG : Good n u r c t s) (hsz : ¬ sizeC (vn : Int) t = 0) :
    Calls Tryd.prog 36 #[cfg n u r c t s, .slice va vn vc] w fun e w' => e = .returned (.tuple #[.slice none 0 0, .int .i64 (sizeC (vn : Int) t)]) ∧ Below w.heap.size w w' := by
  have HC := fun w => refCheck_any n u r c t s w ⟨by have := hG; unfold Good at this; omega, by have := hG; unfold Good at this; omega⟩ ⟨by have := hG; unfold Good at this; omega, by have := hG; unfold Good at this; omega⟩
  rw [chk_good hG] at HC
  have KP := fun w => refParts_any (vn : Int) t w
  unfold partsR at KP
  rw [if_neg hsz] at KP
  have hcb : (sizeC (vn : Int) t != 0) = true := by rw [bne_iff_ne]; exact hsz
  generalize sizeC (vn : Int) t = code at KP hcb ⊢
  clear hG hsz
  unfold cfg at HC ⊢
  go_enter Tryd.func36, Tryd.ntmps36
  go_wp2_with fail
  (with_reducible refine (HC _).mono ?_)
  rintro e w1 ⟨rfl, hb1⟩
  obtain ⟨-, -, hold, hbw⟩ := after_callP _ _ _ hb1
  have c4 : w1.cell? ⟨w.heap.size, 4, none⟩ = some (.int .i64 t) := cell_of_row _ _ 4 _ _ _ hold
  clear HC hb1 hold
  go_wp2_with fail
  (with_reducible refine (KP _).mono ?_)
  rintro e w2 ⟨a2, c2, rfl, -, b2⟩
  have hb := hbw.trans (b2.mono hbw.size)
  clear KP b2 c4 hbw
  go_wp2
  go_ret2
  exact ⟨rfl, hb⟩
set_option maxRecDepth 100000 in
set_option maxHeartbeats 16000000 in
theorem placeDeals_walk (n0 u r c t s : Int) (va : Option Addr) (vn vc : Nat) (v : List Nat) (w : World) (hg : Bnd w) (_w0 : (Lit.int .i64 n0).wf = true) (w1' : (Lit.int .i64 u).wf = true) (w2' : (Lit.int .i64 r).wf = true) (_w3 : (Lit.int .i64 c).wf = true) (_w4 : (Lit.int .i64 t).wf = true) (_w5 : (Lit.int .i64 s).wf = true) (hv : BytesV w (va, vn, vc) v) (_s1 : vn ≤ 140737488351232) :
    Calls Tryd.prog 12 #[cfg n0 u r c t s, .slice va vn vc] w fun e w' => e = .returned (.bool true) ∧ Below w.heap.size w w' := by
  obtain ⟨u0, u1⟩ := wf_i64 w1'
  obtain ⟨r0, r1⟩ := wf_i64 w2'
  have HG := Lib.hid hg
  have HVL := Lib.hid (show v.length = vn from hv.length)
  have HVB := Lib.hid hv.bytes
  have HV := Lib.hid hv
  clear hg hv _w0 w1' w2' _w3 _w4 _w5
  by_cases h1 : (300 : Int) < (vn : Int) ∧ (vn : Int) < 1025
  · obtain ⟨h1, h2⟩ := h1
    unfold cfg
    go_enter Tryd.func12, Tryd.ntmps12
    go_wp2_with fail
    (with_reducible refine (alive_any _).mono ?_)
    rintro e w1 ⟨rfl, hb1⟩
    obtain ⟨-, -, -, hbw⟩ := after_callP _ _ _ hb1
    go_wp2
    go_ret
    exact ⟨rfl, hbw⟩
  by_cases h2 : (5000 : Int) < (vn : Int)
  · have h3 : (300 : Int) < (vn : Int) := by omega
    have h4 : ¬ (vn : Int) < 1025 := by omega
    clear h1
    unfold cfg
    go_enter Tryd.func12, Tryd.ntmps12
    go_wp2_with fail
    (with_reducible refine (alive_any _).mono ?_)
    rintro e w1 ⟨rfl, hb1⟩
    obtain ⟨-, -, -, hbw⟩ := after_callP _ _ _ hb1
    go_wp2
    go_ret
    exact ⟨rfl, hbw⟩
  by_cases hgs : Good n0 u r c t s ∧ sizeC (vn : Int) t = 0
  rotate_left 1
  · obtain ⟨code, KD, KR⟩ : ∃ code : Int, (∀ a k W, Calls Tryd.prog 35 #[cfg n0 u r c t s, .slice a vn k] W fun e w' => e = .returned (.tuple #[.slice none 0 0, .int .i64 code]) ∧ Below W.heap.size W w') ∧ (∀ a k W, Calls Tryd.prog 36 #[cfg n0 u r c t s, .slice a vn k] W fun e w' => e = .returned (.tuple #[.slice none 0 0, .int .i64 code]) ∧ Below W.heap.size W w') := by
      by_cases hG : Good n0 u r c t s
      · have hsz : ¬ sizeC (vn : Int) t = 0 := fun e => hgs ⟨hG, e⟩
        exact ⟨_, fun a k W => deal_bads n0 u r c t s a vn k W hG hsz, fun a k W => refDeal_bads n0 u r c t s a vn k W hG hsz⟩
      · exact ⟨130, fun a k W => deal_badc n0 u r c t s a vn k W hG ⟨by omega, by omega⟩ ⟨by omega, by omega⟩, fun a k W => refDeal_badc n0 u r c t s a vn k W hG ⟨by omega, by omega⟩ ⟨by omega, by omega⟩⟩
    clear hgs
    unfold cfg at KD KR ⊢
    rcases (by omega : (vn : Int) ≤ 300 ∨ ((300 : Int) < (vn : Int) ∧ ¬ (vn : Int) < 1025)) with h3 | ⟨h3, h4⟩
    all_goals
      clear h1
      go_enter Tryd.func12, Tryd.ntmps12
      go_wp2_with fail
      (with_reducible refine (alive_any _).mono ?_)
      rintro e w1 ⟨rfl, hb1⟩
      obtain ⟨-, -, hold, hbw⟩ := after_callP _ _ _ hb1
      have K1 : w1.cell? ⟨w.heap.size, 0, none⟩ = some (.int .i64 n0) ∧ w1.cell? ⟨w.heap.size, 1, none⟩ = some (.int .i64 u) ∧ w1.cell? ⟨w.heap.size, 2, none⟩ = some (.int .i64 r) ∧ w1.cell? ⟨w.heap.size, 3, none⟩ = some (.int .i64 c) ∧ w1.cell? ⟨w.heap.size, 4, none⟩ = some (.int .i64 t) ∧ w1.cell? ⟨w.heap.size, 5, none⟩ = some (.int .i64 s) := ⟨cell_of_row _ _ 0 _ _ _ hold, cell_of_row _ _ 1 _ _ _ hold, cell_of_row _ _ 2 _ _ _ hold, cell_of_row _ _ 3 _ _ _ hold, cell_of_row _ _ 4 _ _ _ hold, cell_of_row _ _ 5 _ _ _ hold⟩
      have HBW := Lib.hid hbw
      have hs1 := hbw.size
      clear hb1 hold hbw
      go_wp2_with fail
      (with_reducible refine (spare_any va vn vc v _ (HV.out.below HBW.out) (by omega)).mono ?_)
      rintro e w2 ⟨a2, c2, rfl, o2, b2⟩
      have hsl : (spareB v).length = vn + 8 := by rw [spareB_length, HVL.out]
      rw [hsl] at o2 ⊢
      have h5 := bytesV_of_owns o2 (spareB_bytes HVB.out) (by omega)
      have h5t := h5.takeC (show vn ≤ vn + 8 by omega)
      have hst : (spareB v).take vn = v := by have : (spareB v).take v.length = v := by simp [spareB]
                                              rw [HVL.out] at this; exact this
      rw [hst] at h5t
      have hcap := h5.cap
      simp only at hcap
      have K0 : w2.cell? ⟨w.heap.size, 0, none⟩ = some (.int .i64 n0) ∧ w2.cell? ⟨w.heap.size, 1, none⟩ = some (.int .i64 u) ∧ w2.cell? ⟨w.heap.size, 2, none⟩ = some (.int .i64 r) ∧ w2.cell? ⟨w.heap.size, 3, none⟩ = some (.int .i64 c) ∧ w2.cell? ⟨w.heap.size, 4, none⟩ = some (.int .i64 t) ∧ w2.cell? ⟨w.heap.size, 5, none⟩ = some (.int .i64 s) := ⟨cell_below K1.1 b2, cell_below K1.2.1 b2, cell_below K1.2.2.1 b2, cell_below K1.2.2.2.1 b2, cell_below K1.2.2.2.2.1 b2, cell_below K1.2.2.2.2.2 b2⟩
      have H5 := Lib.hid h5
      have H5T := Lib.hid h5t
      have HB2 := Lib.hid (HBW.out.trans (b2.mono hs1))
      have hs2 := HB2.out.size
      have hc1 : vn ≤ c2 := by omega
      have hc2 : (vn : Int) ≤ (c2 : Int) := by omega
      have hc3 : (0 : Int) ≤ (vn : Int) := by omega
      have HGB := Lib.hid (HG.out.below HB2.out)
      clear b2 o2 h5 h5t hst hsl K1 HBW hs1
      go_wp2_with fail
      go_region_held3 (fun w' => w'.cell? ⟨w.heap.size, 0, none⟩ = some (.int .i64 n0) ∧ w'.cell? ⟨w.heap.size, 1, none⟩ = some (.int .i64 u) ∧ w'.cell? ⟨w.heap.size, 2, none⟩ = some (.int .i64 r) ∧ w'.cell? ⟨w.heap.size, 3, none⟩ = some (.int .i64 c) ∧ w'.cell? ⟨w.heap.size, 4, none⟩ = some (.int .i64 t) ∧ w'.cell? ⟨w.heap.size, 5, none⟩ = some (.int .i64 s)) (first | exact K0 | exact K6 | go_keep)
        (first
          | (go_at_call 35; (with_reducible refine (KD a2 c2 _).mono ?_); rintro e w6 ⟨rfl, d6⟩; have b6 : Below w2.heap.size w2 w6 := ⟨d6.os, d6.tape, d6.output, d6.size, d6.block⟩; have K6 : w6.cell? ⟨w.heap.size, 0, none⟩ = some (.int .i64 n0) ∧ w6.cell? ⟨w.heap.size, 1, none⟩ = some (.int .i64 u) ∧ w6.cell? ⟨w.heap.size, 2, none⟩ = some (.int .i64 r) ∧ w6.cell? ⟨w.heap.size, 3, none⟩ = some (.int .i64 c) ∧ w6.cell? ⟨w.heap.size, 4, none⟩ = some (.int .i64 t) ∧ w6.cell? ⟨w.heap.size, 5, none⟩ = some (.int .i64 s) := ⟨cell_below K0.1 b6, cell_below K0.2.1 b6, cell_below K0.2.2.1 b6, cell_below K0.2.2.2.1 b6, cell_below K0.2.2.2.2.1 b6, cell_below K0.2.2.2.2.2 b6⟩))
      have HB6 := Lib.hid (HB2.out.trans (b6.mono hs2))
      have H56 := Lib.hid (H5.out.below b6)
      have hs6 := HB6.out.size
      obtain ⟨d0, d1, d2, d3, d4, d5⟩ := K6
      clear KD b6 d6 K0 H5 H5T HB2 HGB
      go_wp2_with fail
      (with_reducible refine (KR _ _ _).mono ?_)
      rintro e w7 ⟨rfl, b7⟩
      have HB7 := Lib.hid (HB6.out.trans (b7.mono hs6))
      have H57 := Lib.hid (H56.out.below b7)
      have hcc : (code != code) = false := by simp
      clear KR b7 H56 HB6 d0 d1 d2 d3 d4 d5
      go_wp2_with fail
      (with_reducible refine (spare_any va vn vc v _ (HV.out.below HB7.out) (by omega)).mono ?_)
      rintro e w8 ⟨a8, c8, rfl, o8, b8⟩
      have hsl : (spareB v).length = vn + 8 := by rw [spareB_length, HVL.out]
      rw [hsl] at o8 ⊢
      have hb8 := HB7.out.trans (b8.mono HB7.out.size)
      have KB := sameBytes_any a2 (vn + 8) c2 (spareB v) a8 (vn + 8) c8 (spareB v) _ (H57.out.below b8) (bytesV_of_owns o8 (spareB_bytes HVB.out) (by omega))
      rw [decide_eq_true rfl] at KB
      clear b8 o8 H57 hsl
      go_wp2_with fail
      (with_reducible refine KB.mono ?_)
      rintro e w9 ⟨rfl, b9⟩
      have hb9 := hb8.trans (b9.mono hb8.size)
      clear KB b9 hb8
      go_wp2_with fail
      go_loopw [10] (fun vi wr => vi = .int .i64 0 ∧ Hid (Below w9.heap.size w9 wr)) (fun _ _ => 0)
      case atStart => exact ⟨rfl, Lib.hid (Below.refl _ _)⟩
      case round =>
        obtain ⟨rfl, HBX⟩ := hrel
        go_wp2
        go_ret
        exact ⟨rfl, hb9.trans (HBX.out.mono hb9.size)⟩
  obtain ⟨hG, hsz⟩ := hgs
  have KD := fun a k W h1 h2 => deal_good n0 u r c t s a vn k v W hG h1 h2 hsz
  have KR := fun W h1 => refDeal_good n0 u r c t s va vn vc v W hG h1 hsz
  obtain ⟨g0, g1, -⟩ := (show _ ∧ _ ∧ _ from hG)
  have hvn : (vn : Int) ≤ 300 := by
    have := okS_iff.1 (sizeC_zero.1 hsz).1
    omega
  obtain ⟨N, rfl⟩ : ∃ N : Nat, n0 = (N : Nat) := ⟨n0.toNat, by omega⟩
  simp only [Int.toNat_natCast] at KD KR
  have HDL := Lib.hid (dealQ_length v t.toNat N (shN (N : Int) u r (chN vn t.toNat)) (chZ (chN vn t.toNat)) 0)
  obtain ⟨DQ, hDQ⟩ : ∃ D, D = dealQ v t.toNat N (shN (N : Int) u r (chN vn t.toNat)) (chZ (chN vn t.toNat)) 0 := ⟨_, rfl⟩
  simp only [← hDQ] at KD KR
  rw [← hDQ] at HDL
  have HROW : Hid (∀ i, (DQ.getD i []).length ≤ 2000) := Lib.hid (fun i => by
    rw [hDQ]
    by_cases hi : i < N
    · rw [List.getD_eq_getElem?_getD, dealQ_at hi]
      obtain ⟨t1, t2⟩ := okT_iff.1 (sizeC_zero.1 hsz).2
      obtain ⟨s1, s2⟩ := okS_iff.1 (sizeC_zero.1 hsz).1
      obtain ⟨n1, n2, -, -⟩ := chN_facts (size := vn) (t := t.toNat) (by omega) (by omega) (by omega)
      obtain ⟨z1, z2, -⟩ := chZ_facts n1 n2
      have := dealTo_len (v := v) (T := t.toNat) (N := N) (sh := shN (N : Int) u r (chN vn t.toNat)) (m := i) (i := chZ (chN vn t.toNat)) (fun b hb => by
        have hk := chK_facts n1 n2 hb
        have := shr_range (k := ((chK (chN vn t.toNat) b : Nat) : Int)) hG (by omega) (by omega)
        unfold shN; omega)
      simp [dturn]
      omega
    · rw [List.getD_eq_getElem?_getD, List.getElem?_eq_none (by rw [dealQ_length]; omega)]; simp)
  clear hG hsz hDQ h1 h2
  unfold cfg at KD KR ⊢
  go_enter Tryd.func12, Tryd.ntmps12
  go_wp2_with fail
  (with_reducible refine (alive_any _).mono ?_)
  rintro e w1 ⟨rfl, hb1⟩
  obtain ⟨-, -, hold, hbw⟩ := after_callP _ _ _ hb1
  have K1 : w1.cell? ⟨w.heap.size, 0, none⟩ = some (.int .i64 (N : Int)) ∧ w1.cell? ⟨w.heap.size, 1, none⟩ = some (.int .i64 u) ∧ w1.cell? ⟨w.heap.size, 2, none⟩ = some (.int .i64 r) ∧ w1.cell? ⟨w.heap.size, 3, none⟩ = some (.int .i64 c) ∧ w1.cell? ⟨w.heap.size, 4, none⟩ = some (.int .i64 t) ∧ w1.cell? ⟨w.heap.size, 5, none⟩ = some (.int .i64 s) := ⟨cell_of_row _ _ 0 _ _ _ hold, cell_of_row _ _ 1 _ _ _ hold, cell_of_row _ _ 2 _ _ _ hold, cell_of_row _ _ 3 _ _ _ hold, cell_of_row _ _ 4 _ _ _ hold, cell_of_row _ _ 5 _ _ _ hold⟩
  have HBW := Lib.hid hbw
  have hs1 := hbw.size
  clear hb1 hold hbw
  go_wp2_with fail
  (with_reducible refine (spare_any va vn vc v _ (HV.out.below HBW.out) (by omega)).mono ?_)
  rintro e w2 ⟨a2, c2, rfl, o2, b2⟩
  have hsl : (spareB v).length = vn + 8 := by rw [spareB_length, HVL.out]
  rw [hsl] at o2 ⊢
  have h5 := bytesV_of_owns o2 (spareB_bytes HVB.out) (by omega)
  have h5t := h5.takeC (show vn ≤ vn + 8 by omega)
  have hst : (spareB v).take vn = v := by have : (spareB v).take v.length = v := by simp [spareB]
                                          rw [HVL.out] at this; exact this
  rw [hst] at h5t
  have hcap := h5.cap
  simp only at hcap
  have K0 : w2.cell? ⟨w.heap.size, 0, none⟩ = some (.int .i64 (N : Int)) ∧ w2.cell? ⟨w.heap.size, 1, none⟩ = some (.int .i64 u) ∧ w2.cell? ⟨w.heap.size, 2, none⟩ = some (.int .i64 r) ∧ w2.cell? ⟨w.heap.size, 3, none⟩ = some (.int .i64 c) ∧ w2.cell? ⟨w.heap.size, 4, none⟩ = some (.int .i64 t) ∧ w2.cell? ⟨w.heap.size, 5, none⟩ = some (.int .i64 s) := ⟨cell_below K1.1 b2, cell_below K1.2.1 b2, cell_below K1.2.2.1 b2, cell_below K1.2.2.2.1 b2, cell_below K1.2.2.2.2.1 b2, cell_below K1.2.2.2.2.2 b2⟩
  have H5 := Lib.hid h5
  have H5T := Lib.hid h5t
  have HB2 := Lib.hid (HBW.out.trans (b2.mono hs1))
  have hs2 := HB2.out.size
  have hc1 : vn ≤ c2 := by omega
  have hc2 : (vn : Int) ≤ (c2 : Int) := by omega
  have hc3 : (0 : Int) ≤ (vn : Int) := by omega
  have HGB := Lib.hid (HG.out.below HB2.out)
  clear b2 o2 h5 h5t hst hsl K1 HBW hs1
  go_wp2_with fail
  go_region_held3 (fun w' => w'.cell? ⟨w.heap.size, 0, none⟩ = some (.int .i64 (N : Int)) ∧ w'.cell? ⟨w.heap.size, 1, none⟩ = some (.int .i64 u) ∧ w'.cell? ⟨w.heap.size, 2, none⟩ = some (.int .i64 r) ∧ w'.cell? ⟨w.heap.size, 3, none⟩ = some (.int .i64 c) ∧ w'.cell? ⟨w.heap.size, 4, none⟩ = some (.int .i64 t) ∧ w'.cell? ⟨w.heap.size, 5, none⟩ = some (.int .i64 s)) (first | exact K0 | exact K6 | go_keep)
    (first
      | (go_at_call 35; (with_reducible refine (KD a2 c2 _ ?hg ?hv).mono ?_); (case hg => exact HGB.out.below ⟨rfl, rfl, rfl, Nat.le_refl _, fun _ _ => rfl⟩); (case hv => exact H5T.out.below ⟨rfl, rfl, rfl, Nat.le_refl _, fun _ _ => rfl⟩); rintro e w6 ⟨gd, hs, rfl, hY, d6⟩; have b6 : Below w2.heap.size w2 w6 := ⟨d6.os, d6.tape, d6.output, d6.size, d6.block⟩; have K6 : w6.cell? ⟨w.heap.size, 0, none⟩ = some (.int .i64 (N : Int)) ∧ w6.cell? ⟨w.heap.size, 1, none⟩ = some (.int .i64 u) ∧ w6.cell? ⟨w.heap.size, 2, none⟩ = some (.int .i64 r) ∧ w6.cell? ⟨w.heap.size, 3, none⟩ = some (.int .i64 c) ∧ w6.cell? ⟨w.heap.size, 4, none⟩ = some (.int .i64 t) ∧ w6.cell? ⟨w.heap.size, 5, none⟩ = some (.int .i64 s) := ⟨cell_below K0.1 b6, cell_below K0.2.1 b6, cell_below K0.2.2.1 b6, cell_below K0.2.2.2.1 b6, cell_below K0.2.2.2.2.1 b6, cell_below K0.2.2.2.2.2 b6⟩))
  have HY := Lib.hid (show OwnYs w6 w2.heap.size (some ⟨gd, 0, none⟩) N N DQ from hY.ys)
  have HB6 := Lib.hid (HB2.out.trans (b6.mono hs2))
  have H56 := Lib.hid (H5.out.below b6)
  have hs6 := HB6.out.size
  obtain ⟨d0, d1, d2, d3, d4, d5⟩ := K6
  clear KD b6 d6 K0 H5 H5T HB2 HGB hY
  go_wp2_with fail
  (with_reducible refine (KR _ (HV.out.below HB6.out)).mono ?_)
  rintro e w7 ⟨a7, c7, rfl, o7, b7⟩
  have HB7 := Lib.hid (HB6.out.trans (b7.mono hs6))
  have H57 := Lib.hid (H56.out.below b7)
  have HY7 := Lib.hid (HY.out.below b7)
  have HR7 := Lib.hid o7
  have hnn : ((N : Int) != (N : Int)) = false := by simp
  clear KR b7 H56 HB6 HY o7 d0 d1 d2 d3 d4 d5
  go_wp2_with fail
  (with_reducible refine (spare_any va vn vc v _ (HV.out.below HB7.out) (by omega)).mono ?_)
  rintro e w8 ⟨a8, c8, rfl, o8, b8⟩
  have hsl : (spareB v).length = vn + 8 := by rw [spareB_length, HVL.out]
  rw [hsl] at o8 ⊢
  have hb8 := HB7.out.trans (b8.mono HB7.out.size)
  have HY8 := Lib.hid (HY7.out.below b8)
  have HR8 := Lib.hid (HR7.out.below b8)
  have KB := sameBytes_any a2 (vn + 8) c2 (spareB v) a8 (vn + 8) c8 (spareB v) _ (H57.out.below b8) (bytesV_of_owns o8 (spareB_bytes HVB.out) (by omega))
  rw [decide_eq_true rfl] at KB
  clear b8 o8 H57 hsl HY7 HR7
  go_wp2_with fail
  (with_reducible refine KB.mono ?_)
  rintro e w9 ⟨rfl, b9⟩
  have hb9 := hb8.trans (b9.mono hb8.size)
  have HB9 := Lib.hid hb9
  have HY9 := Lib.hid (HY8.out.below b9)
  have HR9 := Lib.hid (HR8.out.below b9)
  clear KB b9 hb8 HY8 HR8 hb9
  go_wp2_with fail
  go_loopw [10] (fun vi wr => ∃ i : Nat, i ≤ N ∧ vi = .int .i64 (i : Nat) ∧ Hid (Below w9.heap.size w9 wr)) (fun vi _ => (N - intOf vi).toNat)
  case atStart => exact ⟨0, Nat.zero_le _, rfl, Lib.hid (Below.refl _ _)⟩
  case round =>
    obtain ⟨i, hi, rfl, HB⟩ := hrel
    have hsr := HB.out.size
    by_cases hlt : i < N
    · obtain ⟨g6, ⟨x6, m6, e6⟩, hg6, k6, r6⟩ := (HY9.out.below HB.out).at hlt
      injection hg6 with hg6
      injection hg6 with hg6
      subst hg6
      obtain ⟨g7, ⟨x7, m7, e7⟩, rfl, k7, r7⟩ := (HR9.out.below HB.out).at hlt
      have hm6 : m6 ≤ 100000 := by have h1 := r6.len; have h2 := HROW.out i; simp only at h1; omega
      have K0 : wr.cell? ⟨gd, i, none⟩ = some (.slice x6 m6 e6) ∧ wr.cell? ⟨g7, i, none⟩ = some (.slice x7 m7 e7) := ⟨k6, k7⟩
      have R6 := Lib.hid r6.sy
      have R7 := Lib.hid r7.sy
      have hi0 : (0 : Int) ≤ (i : Int) := by omega
      have hi1 : (i : Int) < (N : Int) := by omega
      clear k6 k7 r6 r7
      go_wp2_with fail
      go_region_held3 (fun w' => w'.cell? ⟨gd, i, none⟩ = some (.slice x6 m6 e6) ∧ w'.cell? ⟨g7, i, none⟩ = some (.slice x7 m7 e7)) (first | exact K0 | exact K2 | go_keep)
        (first
          | (go_at_call 26; (with_reducible refine (sameSyms_rd _ _ _ (DQ.getD i []) _ _ _ (DQ.getD i []) _ ?h1 ?h2 hm6).mono ?_); (case h1 => exact R6.out.below ⟨rfl, rfl, rfl, Nat.le_refl _, fun _ _ => rfl⟩); (case h2 => exact R7.out.below ⟨rfl, rfl, rfl, Nat.le_refl _, fun _ _ => rfl⟩); rintro e w5 ⟨rfl, d5⟩; have b5 : Below wr.heap.size wr w5 := ⟨d5.os, d5.tape, d5.output, d5.size, d5.block⟩; have K2 : w5.cell? ⟨gd, i, none⟩ = some (.slice x6 m6 e6) ∧ w5.cell? ⟨g7, i, none⟩ = some (.slice x7 m7 e7) := ⟨cell_below K0.1 b5, cell_below K0.2 b5⟩; rw [decide_eq_true rfl]))
      have HB2 := Lib.hid (HB.out.trans (b5.mono hsr))
      clear b5 d5 K2 K0
      go_wp2
      go_roundw
      case rel => exact ⟨i + 1, by omega, by go_num, HB2⟩
      case measure => simp [intOf]; omega
    · obtain rfl : i = N := by omega
      go_wp2
      go_ret
      exact ⟨rfl, HB9.out.trans (HB.out.mono HB9.out.size)⟩
end Go.Proofs.YtfjcbgfgiidogaaDoor
