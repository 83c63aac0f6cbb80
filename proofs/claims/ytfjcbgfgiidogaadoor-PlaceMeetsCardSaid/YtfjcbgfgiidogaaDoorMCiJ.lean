/-
  rilllaw13: PlaceMeets.
-/
import Derived.Deep.RegionHeld3
import Derived.Test.YtfjcbgfgiidogaaDoorMCiI
import Derived.Test.YtfjcbgfgiidogaaDoorMCiD
import Derived.Test.YtfjcbgfgiidogaaDoorMPl2
namespace Go.Proofs.YtfjcbgfgiidogaaDoor
open Go.RowKit

set_option maxRecDepth 100000 in
set_option maxHeartbeats 16000000 in
theorem placeMeets_walk (n0 u r c t s : Int) (va : Option Addr) (vn vc : Nat) (v : List Nat) (picks : Int) (w : World) (hg : Bnd w) (_w0 : (Lit.int .i64 n0).wf = true) (w1' : (Lit.int .i64 u).wf = true) (w2' : (Lit.int .i64 r).wf = true) (_w3 : (Lit.int .i64 c).wf = true) (_w4 : (Lit.int .i64 t).wf = true) (_w5 : (Lit.int .i64 s).wf = true) (hv : BytesV w (va, vn, vc) v) (_s1 : vn ≤ 140737488351232) (_wp : (Lit.int .i64 picks).wf = true) :
    Calls Tryd.prog 13 #[cfg n0 u r c t s, .slice va vn vc, .int .i64 picks] w fun e w' => e = .returned (.bool true) ∧ Below w.heap.size w w' := by
  obtain ⟨u0, u1⟩ := wf_i64 w1'
  obtain ⟨r0, r1⟩ := wf_i64 w2'
  have HG := Lib.hid hg
  have HVL := Lib.hid (show v.length = vn from hv.length)
  have HVB := Lib.hid hv.bytes
  have HV := Lib.hid hv
  clear hg hv _w0 w1' w2' _w3 _w4 _w5 _wp
  by_cases h200 : (200 : Int) < (vn : Int)
  · unfold cfg
    go_enter Tryd.func13, Tryd.ntmps13
    go_wp2_with fail
    (with_reducible refine (alive_any _).mono ?_)
    rintro e w1 ⟨rfl, hb1⟩
    obtain ⟨-, -, -, hbw⟩ := after_callP _ _ _ hb1
    go_wp2
    go_ret
    exact ⟨rfl, hbw⟩
  by_cases hG : Good n0 u r c t s
  rotate_left 1
  · have KD := fun a k W => deal_badc n0 u r c t s a vn k W hG ⟨by omega, by omega⟩ ⟨by omega, by omega⟩
    unfold cfg at KD ⊢
    clear hG
    go_enter Tryd.func13, Tryd.ntmps13
    go_wp2_with fail
    (with_reducible refine (alive_any _).mono ?_)
    rintro e w1 ⟨rfl, hb1⟩
    obtain ⟨-, -, hold, hbw⟩ := after_callP _ _ _ hb1
    have K0 : w1.cell? ⟨w.heap.size, 0, none⟩ = some (.int .i64 n0) ∧ w1.cell? ⟨w.heap.size, 1, none⟩ = some (.int .i64 u) ∧ w1.cell? ⟨w.heap.size, 2, none⟩ = some (.int .i64 r) ∧ w1.cell? ⟨w.heap.size, 3, none⟩ = some (.int .i64 c) ∧ w1.cell? ⟨w.heap.size, 4, none⟩ = some (.int .i64 t) ∧ w1.cell? ⟨w.heap.size, 5, none⟩ = some (.int .i64 s) := ⟨cell_of_row _ _ 0 _ _ _ hold, cell_of_row _ _ 1 _ _ _ hold, cell_of_row _ _ 2 _ _ _ hold, cell_of_row _ _ 3 _ _ _ hold, cell_of_row _ _ 4 _ _ _ hold, cell_of_row _ _ 5 _ _ _ hold⟩
    have HBW := Lib.hid hbw
    have HVR := Lib.hid (HV.out.below hbw)
    clear hb1 hold hbw
    go_wp2_with fail
    go_region_held3 (fun w' => w'.cell? ⟨w.heap.size, 0, none⟩ = some (.int .i64 n0) ∧ w'.cell? ⟨w.heap.size, 1, none⟩ = some (.int .i64 u) ∧ w'.cell? ⟨w.heap.size, 2, none⟩ = some (.int .i64 r) ∧ w'.cell? ⟨w.heap.size, 3, none⟩ = some (.int .i64 c) ∧ w'.cell? ⟨w.heap.size, 4, none⟩ = some (.int .i64 t) ∧ w'.cell? ⟨w.heap.size, 5, none⟩ = some (.int .i64 s)) (first | exact K0 | exact K5 | exact K6 | go_keep)
      (first
        | (go_at_call 33; (with_reducible refine (copyBytes_any va vn vc v _ ?hh).mono ?_); (case hh => exact HVR.out.below ⟨rfl, rfl, rfl, Nat.le_refl _, fun _ _ => rfl⟩); rintro e w5 ⟨a5, c5, rfl, o5, d5⟩; have b5 : Below w1.heap.size w1 w5 := ⟨d5.os, d5.tape, d5.output, d5.size, d5.block⟩; rw [HVL.out] at o5 ⊢; have H5 := Lib.hid (bytesV_of_owns o5 HVB.out (by omega)); have K5 : w5.cell? ⟨w.heap.size, 0, none⟩ = some (.int .i64 n0) ∧ w5.cell? ⟨w.heap.size, 1, none⟩ = some (.int .i64 u) ∧ w5.cell? ⟨w.heap.size, 2, none⟩ = some (.int .i64 r) ∧ w5.cell? ⟨w.heap.size, 3, none⟩ = some (.int .i64 c) ∧ w5.cell? ⟨w.heap.size, 4, none⟩ = some (.int .i64 t) ∧ w5.cell? ⟨w.heap.size, 5, none⟩ = some (.int .i64 s) := ⟨cell_below K0.1 b5, cell_below K0.2.1 b5, cell_below K0.2.2.1 b5, cell_below K0.2.2.2.1 b5, cell_below K0.2.2.2.2.1 b5, cell_below K0.2.2.2.2.2 b5⟩)
        | (go_at_call 35; (with_reducible refine (KD a5 c5 _).mono ?_); rintro e w6 ⟨rfl, d6⟩; have b6 : Below w5.heap.size w5 w6 := ⟨d6.os, d6.tape, d6.output, d6.size, d6.block⟩; have K6 : w6.cell? ⟨w.heap.size, 0, none⟩ = some (.int .i64 n0) ∧ w6.cell? ⟨w.heap.size, 1, none⟩ = some (.int .i64 u) ∧ w6.cell? ⟨w.heap.size, 2, none⟩ = some (.int .i64 r) ∧ w6.cell? ⟨w.heap.size, 3, none⟩ = some (.int .i64 c) ∧ w6.cell? ⟨w.heap.size, 4, none⟩ = some (.int .i64 t) ∧ w6.cell? ⟨w.heap.size, 5, none⟩ = some (.int .i64 s) := ⟨cell_below K5.1 b6, cell_below K5.2.1 b6, cell_below K5.2.2.1 b6, cell_below K5.2.2.2.1 b6, cell_below K5.2.2.2.2.1 b6, cell_below K5.2.2.2.2.2 b6⟩))
    have hb := HBW.out.trans ((b5.trans (b6.mono b5.size)).mono HBW.out.size)
    clear K0 K5 K6 b5 b6 d5 d6 o5 KD H5 HVR
    go_wp2
    go_ret
    exact ⟨rfl, hb⟩
  by_cases hsz : sizeC (vn : Int) t = 0
  rotate_left 1
  · have KD := fun a k W => deal_bads n0 u r c t s a vn k W hG hsz
    have hcb : (sizeC (vn : Int) t != 0) = true := by rw [bne_iff_ne]; exact hsz
    unfold cfg at KD ⊢
    generalize sizeC (vn : Int) t = code at KD hcb
    clear hG hsz
    go_enter Tryd.func13, Tryd.ntmps13
    go_wp2_with fail
    (with_reducible refine (alive_any _).mono ?_)
    rintro e w1 ⟨rfl, hb1⟩
    obtain ⟨-, -, hold, hbw⟩ := after_callP _ _ _ hb1
    have K0 : w1.cell? ⟨w.heap.size, 0, none⟩ = some (.int .i64 n0) ∧ w1.cell? ⟨w.heap.size, 1, none⟩ = some (.int .i64 u) ∧ w1.cell? ⟨w.heap.size, 2, none⟩ = some (.int .i64 r) ∧ w1.cell? ⟨w.heap.size, 3, none⟩ = some (.int .i64 c) ∧ w1.cell? ⟨w.heap.size, 4, none⟩ = some (.int .i64 t) ∧ w1.cell? ⟨w.heap.size, 5, none⟩ = some (.int .i64 s) := ⟨cell_of_row _ _ 0 _ _ _ hold, cell_of_row _ _ 1 _ _ _ hold, cell_of_row _ _ 2 _ _ _ hold, cell_of_row _ _ 3 _ _ _ hold, cell_of_row _ _ 4 _ _ _ hold, cell_of_row _ _ 5 _ _ _ hold⟩
    have HBW := Lib.hid hbw
    have HVR := Lib.hid (HV.out.below hbw)
    clear hb1 hold hbw
    go_wp2_with fail
    go_region_held3 (fun w' => w'.cell? ⟨w.heap.size, 0, none⟩ = some (.int .i64 n0) ∧ w'.cell? ⟨w.heap.size, 1, none⟩ = some (.int .i64 u) ∧ w'.cell? ⟨w.heap.size, 2, none⟩ = some (.int .i64 r) ∧ w'.cell? ⟨w.heap.size, 3, none⟩ = some (.int .i64 c) ∧ w'.cell? ⟨w.heap.size, 4, none⟩ = some (.int .i64 t) ∧ w'.cell? ⟨w.heap.size, 5, none⟩ = some (.int .i64 s)) (first | exact K0 | exact K5 | exact K6 | go_keep)
      (first
        | (go_at_call 33; (with_reducible refine (copyBytes_any va vn vc v _ ?hh).mono ?_); (case hh => exact HVR.out.below ⟨rfl, rfl, rfl, Nat.le_refl _, fun _ _ => rfl⟩); rintro e w5 ⟨a5, c5, rfl, o5, d5⟩; have b5 : Below w1.heap.size w1 w5 := ⟨d5.os, d5.tape, d5.output, d5.size, d5.block⟩; rw [HVL.out] at o5 ⊢; have H5 := Lib.hid (bytesV_of_owns o5 HVB.out (by omega)); have K5 : w5.cell? ⟨w.heap.size, 0, none⟩ = some (.int .i64 n0) ∧ w5.cell? ⟨w.heap.size, 1, none⟩ = some (.int .i64 u) ∧ w5.cell? ⟨w.heap.size, 2, none⟩ = some (.int .i64 r) ∧ w5.cell? ⟨w.heap.size, 3, none⟩ = some (.int .i64 c) ∧ w5.cell? ⟨w.heap.size, 4, none⟩ = some (.int .i64 t) ∧ w5.cell? ⟨w.heap.size, 5, none⟩ = some (.int .i64 s) := ⟨cell_below K0.1 b5, cell_below K0.2.1 b5, cell_below K0.2.2.1 b5, cell_below K0.2.2.2.1 b5, cell_below K0.2.2.2.2.1 b5, cell_below K0.2.2.2.2.2 b5⟩)
        | (go_at_call 35; (with_reducible refine (KD a5 c5 _).mono ?_); rintro e w6 ⟨rfl, d6⟩; have b6 : Below w5.heap.size w5 w6 := ⟨d6.os, d6.tape, d6.output, d6.size, d6.block⟩; have K6 : w6.cell? ⟨w.heap.size, 0, none⟩ = some (.int .i64 n0) ∧ w6.cell? ⟨w.heap.size, 1, none⟩ = some (.int .i64 u) ∧ w6.cell? ⟨w.heap.size, 2, none⟩ = some (.int .i64 r) ∧ w6.cell? ⟨w.heap.size, 3, none⟩ = some (.int .i64 c) ∧ w6.cell? ⟨w.heap.size, 4, none⟩ = some (.int .i64 t) ∧ w6.cell? ⟨w.heap.size, 5, none⟩ = some (.int .i64 s) := ⟨cell_below K5.1 b6, cell_below K5.2.1 b6, cell_below K5.2.2.1 b6, cell_below K5.2.2.2.1 b6, cell_below K5.2.2.2.2.1 b6, cell_below K5.2.2.2.2.2 b6⟩))
    have hb := HBW.out.trans ((b5.trans (b6.mono b5.size)).mono HBW.out.size)
    clear K0 K5 K6 b5 b6 d5 d6 o5 KD H5 HVR
    go_wp2
    go_ret
    exact ⟨rfl, hb⟩
  have KD := fun a k W h1 h2 => deal_good n0 u r c t s a vn k v W hG h1 h2 hsz
  obtain ⟨g0, g1, g2, g3, g4, g5, g6, g7, g8, g9, g10, g11, g12⟩ := (show _ ∧ _ from hG)
  have KP := fun w => parts_any (vn : Int) t w
  unfold partsR at KP
  rw [if_pos hsz] at KP
  obtain ⟨q1, q2⟩ := sizeC_zero.1 hsz
  obtain ⟨s1, s2⟩ := okS_iff.1 q1
  obtain ⟨t1, t2⟩ := okT_iff.1 q2
  obtain ⟨N, rfl⟩ : ∃ N : Nat, n0 = (N : Nat) := ⟨n0.toNat, by omega⟩
  obtain ⟨T, rfl⟩ : ∃ T : Nat, t = (T : Nat) := ⟨t.toNat, by omega⟩
  obtain ⟨M, hM⟩ : ∃ M : Nat, u + r - (N : Int) = (M : Nat) := ⟨(u + r - (N : Int)).toNat, by omega⟩
  rw [Int.toNat_natCast, Int.toNat_natCast] at KP
  simp only [Int.toNat_natCast] at KD
  obtain ⟨n1, n2, -, -⟩ := chN_facts (size := vn) (t := T) (by omega) (by omega) (by omega)
  have HHI := Lib.hid (fun (ss : List Sy) (h : ∀ s ∈ ss, Genuine v T s) (i : Nat) (hi : chZ (chN vn T) ≤ i) => ofBlock_high h (i := i) (by rw [HVL.out]; exact hi))
  have HGA := Lib.hid (fun (ss : List Sy) (h : ∀ s ∈ ss, Genuine v T s) (hc : ∀ i, i < chZ (chN vn T) → (ofBlock ss i).length ≤ 128) => by
    have := gather_gen (v := v) (t := T) HVB.out (by rw [HVL.out]; omega) (by rw [HVL.out]; omega) (by omega) (by omega) h (by rw [HVL.out]; exact hc)
    rw [HVL.out] at this
    exact this)
  have hEN := fun i (h : i < chZ (chN vn T)) => (show chK (chN vn T) i < M * shN (N : Int) u r (chN vn T) i ∧ M * shN (N : Int) u r (chN vn T) i ≤ 47 ∧ shN (N : Int) u r (chN vn T) i ≤ 33 by
    have hk := chK_facts n1 n2 h
    unfold shN
    exact shr_enough hM (by omega) (by omega) (by omega) (by omega))
  have HDG := Lib.hid (fun (m : Nat) (hm : m < N) => dealTo_gen (v := v) (T := T) (N := N) (sh := shN (N : Int) u r (chN vn T)) (m := m) (i := chZ (chN vn T)) (by omega) hm (fun b hb => (hEN b hb).2.2) (by rw [HVL.out]; exact Nat.le_refl _))
  have HDB := Lib.hid (fun (m b : Nat) (hb : b < chZ (chN vn T)) => (show (ofBlock (dealTo v T N (shN (N : Int) u r (chN vn T)) m (chZ (chN vn T))) b).length = shN (N : Int) u r (chN vn T) b by
    rw [dealTo_block, if_pos hb]))
  have HDL := Lib.hid (fun (m : Nat) => dealTo_len (v := v) (T := T) (N := N) (sh := shN (N : Int) u r (chN vn T)) (m := m) (i := chZ (chN vn T)) (fun b hb => (hEN b hb).2.2))
  have HQA := Lib.hid (fun (m : Nat) (h : m < N) => (show (dealQ v T N (shN (N : Int) u r (chN vn T)) (chZ (chN vn T)) 0)[m]? = some (dealTo v T N (shN (N : Int) u r (chN vn T)) m (chZ (chN vn T))) by
    rw [dealQ_at h]; simp [dturn]))
  have HEN := Lib.hid hEN
  clear hsz hG q1 q2 hEN
  obtain ⟨n, hn⟩ : ∃ n, n = chN vn T := ⟨_, rfl⟩
  simp only [← hn] at KP KD HHI HGA HEN HDG HDB HDL HQA
  rw [← hn] at n1 n2
  clear hn
  obtain ⟨z1, z2, -, -, z3⟩ := chZ_facts n1 n2
  have hPL : (partsL n).length = chZ n := partsL_length n
  have HPK : Hid (∀ i, i < chZ n → ((partsL n).map nv')[i]? = some (.int .i64 ((chK n i : Nat) : Int))) := Lib.hid (fun i h => by
    unfold partsL
    rw [List.map_map, List.getElem?_map, List.getElem?_range h]
    rfl)
  unfold GivesN at KP
  simp only [hPL] at KP
  obtain ⟨PL, hPLL⟩ : ∃ P, P = partsL n := ⟨_, rfl⟩
  rw [← hPLL] at KP HPK
  obtain ⟨SH, hSH⟩ : ∃ f, f = shN (N : Int) u r n := ⟨_, rfl⟩
  simp only [← hSH] at KD HEN HDG HDB HDL HQA
  obtain ⟨z, hz⟩ : ∃ z, z = chZ n := ⟨_, rfl⟩
  simp only [← hz] at KP KD HHI HGA HEN HDG HDB HDL HQA HPK
  rw [← hz] at z1 z2 z3
  obtain ⟨DQ, hDQ⟩ : ∃ D, D = dealQ v T N SH z 0 := ⟨_, rfl⟩
  simp only [← hDQ] at KD HQA
  obtain ⟨f, hf, hf8⟩ := and_7 picks
  have HF := Lib.hid hf
  clear hPLL hPL hSH hz hDQ hf
  unfold cfg at KD ⊢
  have HGW := HG
  go_enter Tryd.func13, Tryd.ntmps13
  go_wp2_with fail
  (with_reducible refine (alive_any _).mono ?_)
  rintro e w1 ⟨rfl, hb1⟩
  obtain ⟨-, -, hold, hbw⟩ := after_callP _ _ _ hb1
  have K0 : w1.cell? ⟨w.heap.size, 0, none⟩ = some (.int .i64 (N : Int)) ∧ w1.cell? ⟨w.heap.size, 1, none⟩ = some (.int .i64 u) ∧ w1.cell? ⟨w.heap.size, 2, none⟩ = some (.int .i64 r) ∧ w1.cell? ⟨w.heap.size, 3, none⟩ = some (.int .i64 c) ∧ w1.cell? ⟨w.heap.size, 4, none⟩ = some (.int .i64 (T : Int)) ∧ w1.cell? ⟨w.heap.size, 5, none⟩ = some (.int .i64 s) := ⟨cell_of_row _ _ 0 _ _ _ hold, cell_of_row _ _ 1 _ _ _ hold, cell_of_row _ _ 2 _ _ _ hold, cell_of_row _ _ 3 _ _ _ hold, cell_of_row _ _ 4 _ _ _ hold, cell_of_row _ _ 5 _ _ _ hold⟩
  have HBW := Lib.hid hbw
  have HVR := Lib.hid (HV.out.below hbw)
  clear hb1 hold hbw
  go_wp2_with fail
  go_region_held3 (fun w' => w'.cell? ⟨w.heap.size, 0, none⟩ = some (.int .i64 (N : Int)) ∧ w'.cell? ⟨w.heap.size, 1, none⟩ = some (.int .i64 u) ∧ w'.cell? ⟨w.heap.size, 2, none⟩ = some (.int .i64 r) ∧ w'.cell? ⟨w.heap.size, 3, none⟩ = some (.int .i64 c) ∧ w'.cell? ⟨w.heap.size, 4, none⟩ = some (.int .i64 (T : Int)) ∧ w'.cell? ⟨w.heap.size, 5, none⟩ = some (.int .i64 s)) (first | exact K0 | exact K5 | exact K6 | go_keep)
    (first
      | (go_at_call 33; (with_reducible refine (copyBytes_any va vn vc v _ ?hh).mono ?_); (case hh => exact HVR.out.below ⟨rfl, rfl, rfl, Nat.le_refl _, fun _ _ => rfl⟩); rintro e w5 ⟨a5, c5, rfl, o5, d5⟩; have b5 : Below w1.heap.size w1 w5 := ⟨d5.os, d5.tape, d5.output, d5.size, d5.block⟩; rw [HVL.out] at o5 ⊢; have H5 := Lib.hid (bytesV_of_owns o5 HVB.out (by omega)); have K5 : w5.cell? ⟨w.heap.size, 0, none⟩ = some (.int .i64 (N : Int)) ∧ w5.cell? ⟨w.heap.size, 1, none⟩ = some (.int .i64 u) ∧ w5.cell? ⟨w.heap.size, 2, none⟩ = some (.int .i64 r) ∧ w5.cell? ⟨w.heap.size, 3, none⟩ = some (.int .i64 c) ∧ w5.cell? ⟨w.heap.size, 4, none⟩ = some (.int .i64 (T : Int)) ∧ w5.cell? ⟨w.heap.size, 5, none⟩ = some (.int .i64 s) := ⟨cell_below K0.1 b5, cell_below K0.2.1 b5, cell_below K0.2.2.1 b5, cell_below K0.2.2.2.1 b5, cell_below K0.2.2.2.2.1 b5, cell_below K0.2.2.2.2.2 b5⟩)
      | (go_at_call 35; (with_reducible refine (KD a5 c5 _ ?hg ?hv).mono ?_); (case hg => exact (HG.out.below (HBW.out.trans (b5.mono HBW.out.size))).below ⟨rfl, rfl, rfl, Nat.le_refl _, fun _ _ => rfl⟩); (case hv => exact H5.out.below ⟨rfl, rfl, rfl, Nat.le_refl _, fun _ _ => rfl⟩); rintro e w6 ⟨gd, hs, rfl, hY, d6⟩; have b6 : Below w5.heap.size w5 w6 := ⟨d6.os, d6.tape, d6.output, d6.size, d6.block⟩; have K6 : w6.cell? ⟨w.heap.size, 0, none⟩ = some (.int .i64 (N : Int)) ∧ w6.cell? ⟨w.heap.size, 1, none⟩ = some (.int .i64 u) ∧ w6.cell? ⟨w.heap.size, 2, none⟩ = some (.int .i64 r) ∧ w6.cell? ⟨w.heap.size, 3, none⟩ = some (.int .i64 c) ∧ w6.cell? ⟨w.heap.size, 4, none⟩ = some (.int .i64 (T : Int)) ∧ w6.cell? ⟨w.heap.size, 5, none⟩ = some (.int .i64 s) := ⟨cell_below K5.1 b6, cell_below K5.2.1 b6, cell_below K5.2.2.1 b6, cell_below K5.2.2.2.1 b6, cell_below K5.2.2.2.2.1 b6, cell_below K5.2.2.2.2.2 b6⟩))
  have HY := Lib.hid (show OwnY w6 w5.heap.size gd N N hs DQ from hY)
  have HB6 := Lib.hid (HBW.out.trans ((b5.trans (b6.mono b5.size)).mono HBW.out.size))
  have hs6 := HB6.out.size
  have hs56 := b6.size
  have HK6 := Lib.hid K6
  clear b5 b6 d5 d6 o5 KD H5 HVR hY K0 K5 K6 HBW
  go_wp2_with fail
  (with_reducible refine (KP _).mono ?_)
  rintro e w7 ⟨a7, c7, rfl, o7, b7⟩
  obtain ⟨q, rfl⟩ := own_some o7 (by omega)
  have HCP : Hid (∀ i, i < z → w7.cell? ⟨q, i, none⟩ = some (.int .i64 ((chK n i : Nat) : Int))) := Lib.hid (fun i hi => (o7.cellAt i (by omega)).trans (HPK.out i hi))
  have HB7 := Lib.hid (HB6.out.trans (b7.mono hs6))
  have HY7 := Lib.hid (HY.out.below b7)
  have hs7 := HB7.out.size
  have hs67 := b7.size
  have HCF := Lib.hid (fun (wr : World) (hb : Below w7.heap.size w7 wr) => (show wr.cell? ⟨w.heap.size, 0, none⟩ = some (.int .i64 (N : Int)) ∧ wr.cell? ⟨w.heap.size, 1, none⟩ = some (.int .i64 u) ∧ wr.cell? ⟨w.heap.size, 2, none⟩ = some (.int .i64 r) ∧ wr.cell? ⟨w.heap.size, 4, none⟩ = some (.int .i64 (T : Int)) from ⟨cell_below (cell_below HK6.out.1 b7) hb, cell_below (cell_below HK6.out.2.1 b7) hb, cell_below (cell_below HK6.out.2.2.1 b7) hb, cell_below (cell_below HK6.out.2.2.2.2.1 b7) hb⟩))
  have HO0 : Hid (OwnS (w7.alloc (.cells #[] ST3)) w5.heap.size (some ⟨w7.heap.size, 0, none⟩) 0 0 []) := Lib.hid (OwnS.madeS (by omega))
  have HGE0 : Hid (∀ k, (Value.slice (some ⟨w7.heap.size, 0, none⟩) 0 0).ownBlock = some k → w7.heap.size ≤ k) := Lib.hid (fun k h => by simp [Value.ownBlock] at h; omega)
  have HBA := Lib.hid (below_alloc w7 (.cells #[] ST3))
  have HCN0 : Hid (∀ b, b < z → (ofBlock ([] : List Sy) b).length = 0 * SH b) := Lib.hid (fun b _ => by simp [ofBlock])
  have HGN0 : Hid (∀ s ∈ ([] : List Sy), Genuine v T s) := Lib.hid (fun s h => by cases h)
  obtain ⟨d0, d1, d2, d4⟩ := HCF.out w7 (Below.refl _ _)
  have hf := HF.out
  clear KP o7 b7 HPK HY HB6 HK6
  go_wp2_with fail
  clear d0 d1 d2 d4 hf
  go_loopw [12, 14] (fun va' vi wr => ∃ (i p : Nat) (av : Option Addr) (cv : Nat) (AS : List Sy), i ≤ M ∧ p ≤ i * 1056 ∧ vi = .int .i64 (i : Nat) ∧ va' = .slice av p cv ∧ Hid (∀ s ∈ AS, Genuine v T s) ∧ Hid (∀ b, b < z → (ofBlock AS b).length = i * SH b) ∧ Hid (OwnS wr w5.heap.size av p cv AS) ∧ Hid (∀ k, (Value.slice av p cv).ownBlock = some k → w7.heap.size ≤ k) ∧ Hid (Below w7.heap.size w7 wr)) (fun _ vi _ => (M - intOf vi).toNat)
  case atStart => exact ⟨0, 0, _, _, [], Nat.zero_le _, Nat.le_refl _, rfl, rfl, HGN0, HCN0, HO0, HGE0, HBA⟩
  case round =>
    clear HO0 HGE0 HBA HCN0 HGN0
    obtain ⟨i, p, av, cv, AS, hi, hp, rfl, rfl, HGN, HCN, HO, HGE, HB⟩ := hrel
    have hbs := HB.out.size
    by_cases hlt : i < M
    · obtain ⟨mm, hmm⟩ : ∃ m, m = (f + i) % N := ⟨_, rfl⟩
      have hmN : mm < N := by rw [hmm]; exact Nat.mod_lt _ (by omega)
      have EM : ((f : Int) + (i : Int)) % (N : Int) = (mm : Int) := by rw [hmm]; rw [Int.natCast_emod]; rfl
      have EMt : ((f : Int) + (i : Int)).tmod (N : Int) = (mm : Int) := by rw [Int.tmod_eq_emod_of_nonneg (by omega)]; exact EM
      obtain ⟨y1, y2, y3, y4, y5⟩ := HY7.out.below HB.out
      obtain ⟨⟨xa, xn, xc⟩, hxh⟩ : ∃ y, hs[mm]? = some y := ⟨_, List.getElem?_eq_getElem (by rw [y3]; exact hmN)⟩
      have cr : wr.cell? ⟨gd, mm, none⟩ = some (.slice xa xn xc) := by
        have h := y2.cellAt mm (by omega)
        rw [List.getElem?_map, hxh] at h
        exact h
      have HRW := Lib.hid (y4 mm _ _ hxh (HQA.out mm hmN))
      have hxl : xn ≤ 1056 := by
        have h1 := HRW.out.len
        have h2 := HDL.out mm
        simp only at h1
        omega
      obtain ⟨d0, -, -, -⟩ := HCF.out wr HB.out
      have hN0 : (N : Int) ≠ 0 := by omega
      have hNb : ((N : Int) == 0) = false := beq_eq_false_iff_ne.2 hN0
      have hNf : ((N : Int) = 0) = False := eq_false hN0
      have hNf2 : (N = 0) = False := eq_false (by omega)
      have hm0 : (0 : Int) ≤ (mm : Int) := by omega
      have hm1 : (mm : Int) < (N : Int) := by omega
      have HMN := Lib.hid hmN
      have hb5 : w5.heap.size ≤ wr.heap.size := by omega
      clear y1 y2 y3 y4 y5 hxh hmm
      go_wp2_with (first | (at_builtin; refine Hid.out ?_))
      refine Lib.hid ?_
      refine wpList_append_sy2 rfl _ _ rfl w5.heap.size av p cv AS rfl HO.out xa xn xc (dealTo v T N SH mm z) rfl HRW.out (by omega) hb5 ?_
      intro a9 c9 w9 hO9 g9 l9
      have HB9 := Lib.hid (below_grown HB.out g9 HGE.out)
      have HO9 := Lib.hid hO9
      have HGE9 : Hid (∀ k, (Value.slice a9 (p + xn) c9).ownBlock = some k → w7.heap.size ≤ k) := Lib.hid (fun k hk => by
        rcases l9 with h | h
        · exact HGE.out k (by rw [← h]; exact hk)
        · rw [h] at hk; injection hk with hk; omega)
      have HGN9 : Hid (∀ s ∈ AS ++ dealTo v T N SH mm z, Genuine v T s) := Lib.hid (fun s hs => by
        rcases List.mem_append.1 hs with h | h
        · exact HGN.out s h
        · exact HDG.out mm HMN.out s h)
      have HCN9 : Hid (∀ b, b < z → (ofBlock (AS ++ dealTo v T N SH mm z) b).length = (i + 1) * SH b) := Lib.hid (fun b hb => by
        rw [ofBlock_append, List.length_append, HCN.out b hb, HDB.out mm b hb, Nat.add_mul, Nat.one_mul])
      clear hO9 g9 l9 HO HRW HGN HCN HB EM EMt d0 cr
      go_wp2
      go_roundw
      case rel => exact ⟨i + 1, p + xn, a9, c9, AS ++ dealTo v T N SH mm z, by omega, by omega, by go_num, rfl, HGN9, HCN9, HO9, HGE9, HB9⟩
      case measure => simp [intOf]; omega
    · obtain rfl : i = M := by omega
      have HS := Lib.hid HO.out.sy
      have HML := Lib.hid HO.out.len
      have HBW := Lib.hid (HB7.out.trans (HB.out.mono hs7))
      obtain ⟨wo, hwo⟩ : ∃ x, x = wr := ⟨_, rfl⟩
      subst hwo
      have hM8 : i ≤ 8 := by omega
      have hp8 : p ≤ 8448 := by omega
      clear HO HGE HDG HDB HDL HQA HY7 hM hp
      go_wp2_with fail
      go_loopw [15] (fun vb wr => ∃ b : Nat, b ≤ z ∧ vb = .int .i64 (b : Nat) ∧ Hid (Below wo.heap.size wo wr)) (fun vb _ => (z - intOf vb).toNat)
      case atStart => exact ⟨0, Nat.zero_le _, rfl, Lib.hid (Below.refl _ _)⟩
      case round =>
        obtain ⟨b, hb, rfl, HBQ⟩ := hrel
        have hso := HBW.out.size
        by_cases hbz : b < z
        · obtain ⟨wp, hwp⟩ : ∃ x, x = wr := ⟨_, rfl⟩
          subst hwp
          have HSP := Lib.hid (HS.out.below HBQ.out)
          obtain ⟨en1, en2, -⟩ := HEN.out b hbz
          have hcn := HCN.out b hbz
          rw [← hcn] at en1
          have HEN1 := Lib.hid en1
          have HCB := Lib.hid (HCP.out b hbz)
          clear en1 en2 hcn
          go_wp2_with fail
          go_loopw [16, 17] (fun vc' vj wr => ∃ (j c : Nat), j ≤ p ∧ c ≤ j ∧ vj = .int .i64 (j : Nat) ∧ vc' = .int .i64 (c : Nat) ∧ Hid ((ofBlock (AS.take j) b).length = c) ∧ Hid (Below wp.heap.size wp wr)) (fun _ vj _ => (p - intOf vj).toNat)
          case atStart => exact ⟨0, 0, Nat.zero_le _, Nat.le_refl _, rfl, rfl, Lib.hid rfl, Lib.hid (Below.refl _ _)⟩
          case round =>
            obtain ⟨j, c, hj, hcj, rfl, rfl, HC, HBJ⟩ := hrel
            by_cases hjm : j < p
            · obtain ⟨sb, off, z1', e, xa, xn, xc, l, rfl, q0, -, -, hpi, -⟩ := (HSP.out.below HBJ.out).at hjm
              have HT := Lib.hid (show (ofBlock (AS.take (j + 1)) b).length = c + (if z1' = (b : Int) then 1 else 0) by
                rw [take_step AS j _ hpi, ofBlock_append, ofBlock_one, List.length_append, HC.out]
                split <;> simp)
              clear hpi
              by_cases hzb : z1' = (b : Int)
              · have HT2 : Hid ((ofBlock (AS.take (j + 1)) b).length = c + 1) := Lib.hid (by rw [HT.out, if_pos hzb])
                subst hzb
                clear HT
                go_wp2
                go_roundw
                case rel => exact ⟨j + 1, c + 1, by omega, by omega, by go_num, by go_num, HT2, HBJ⟩
                case measure => simp [intOf]; omega
              · have HT2 : Hid ((ofBlock (AS.take (j + 1)) b).length = c) := Lib.hid (by rw [HT.out, if_neg hzb, Nat.add_zero])
                have hne : (z1' == (b : Int)) = false := beq_eq_false_iff_ne.2 hzb
                clear HT
                go_wp2
                go_roundw
                case rel => exact ⟨j + 1, c, by omega, by omega, by go_num, rfl, HT2, HBJ⟩
                case measure => simp [intOf]; omega
            · obtain rfl : j = p := by omega
              have HBX := Lib.hid (HBQ.out.trans (HBJ.out.mono HBQ.out.size))
              have hC := HC.out
              rw [List.take_of_length_le (by rw [HML.out]; exact Nat.le_refl _)] at hC
              have hkc := HEN1.out
              rw [hC] at hkc
              have ck := cell_below HCB.out (HB.out.trans (HBX.out.mono hbs))
              obtain ⟨k, hk⟩ : ∃ k, k = chK n b := ⟨_, rfl⟩
              rw [← hk] at hkc ck
              have hkc2 : ((c : Int) ≤ (k : Int)) = False := eq_false (by omega)
              clear hC HC HEN1 hk
              go_wp2
              go_roundw
              case rel => exact ⟨b + 1, by omega, by go_num, HBX⟩
              case measure => simp [intOf]; omega
        · obtain rfl : b = z := by omega
          have hbw := HBW.out.trans (HBQ.out.mono hso)
          have hx : ∀ k, (ofBlock AS k).length ≤ 1000 := fun k => by
            by_cases hk : k < b
            · have h1 := HCN.out k hk; have h2 := (HEN.out k hk).2.1; omega
            · rw [HHI.out AS HGN.out k (by omega)]; simp
          have KR := fun W h g => ready_n (vn : Int) (T : Int) av p cv AS W h (by omega) hx g
          have KG := fun W h g => gather_n (vn : Int) (T : Int) av p cv AS W h (by omega) hx g
          have hga := HGA.out AS HGN.out (fun k hk => by have h1 := HCN.out k hk; have h2 := (HEN.out k hk).2.1; omega)
          simp only [hga] at KG
          clear hga hx
          obtain ⟨R, hR⟩ : ∃ R, R = readyB (vn : Int) (T : Int) AS := ⟨_, rfl⟩
          simp only [← hR] at KR KG
          have HBW2 := Lib.hid hbw
          have HS2 := Lib.hid (HS.out.below HBQ.out)
          obtain ⟨d0, d1, d2, d4⟩ := HCF.out wr (HB.out.trans (HBQ.out.mono hbs))
          clear hR HGN HCN HGA HHI hbw HS
          cases R with
          | true =>
            simp only [if_true] at KG
            go_wp2_with fail
            (with_reducible refine (KG _ HS2.out (HG.out.below HBW2.out)).mono ?_)
            rintro e w8 ⟨a8, c8, rfl, o8, b8⟩
            have HBW8 := Lib.hid (HBW2.out.trans (b8.mono HBW2.out.size))
            simp only [HVL.out] at o8 ⊢
            have KQ := sameBytes_any a8 vn c8 v va vn vc v w8 o8 (HV.out.below HBW8.out)
            rw [decide_eq_true rfl] at KQ
            clear KG b8 d0 d1 d2 d4
            go_wp2_with fail
            (with_reducible refine KQ.mono ?_)
            rintro e w9 ⟨rfl, b9⟩
            go_wp2
            go_ret
            exact ⟨rfl, HBW8.out.trans (b9.mono HBW8.out.size)⟩
          | false =>
            simp only [Bool.false_eq_true, if_false] at KG
            go_wp2_with fail
            (with_reducible refine (KG _ HS2.out (HG.out.below HBW2.out)).mono ?_)
            rintro e w8 ⟨a8, c8, rfl, o8, b8⟩
            have HBW8 := Lib.hid (HBW2.out.trans (b8.mono HBW2.out.size))
            have HS8 := Lib.hid (HS2.out.below b8)
            simp only [List.length_nil] at o8 ⊢
            have d4' := cell_below d4 b8
            clear KG b8 o8 d0 d1 d2 d4
            go_wp2_with fail
            (with_reducible refine (KR _ HS8.out (HG.out.below HBW8.out)).mono ?_)
            rintro e w9 ⟨rfl, b9⟩
            go_wp2
            go_ret
            exact ⟨rfl, HBW8.out.trans (b9.mono HBW8.out.size)⟩
end Go.Proofs.YtfjcbgfgiidogaaDoor
