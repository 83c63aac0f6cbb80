/-
  rq: the heavy rows.
-/
import Derived.Test.YtfjcbgfgiidogaaDoorMRqE
namespace Go.Proofs.YtfjcbgfgiidogaaDoor
open Go.RowKit

theorem hv1_zero (k : Nat) : hv1 k 0 = List.replicate 4 [] := by simp [hv1]
theorem hv1_set {k n : Nat} (h : n < 4) : (hv1 k n).set n (hv0 k n) = hv1 k (n + 1) := by
  apply List.ext_getElem?
  intro i
  unfold hv1
  rw [List.getElem?_set]
  by_cases e : n = i
  · subst e
    rw [if_pos rfl, if_pos (by simp; omega), List.getElem?_append_left (by simp)]
    simp
  · rw [if_neg e]
    by_cases h1 : i < n
    · rw [List.getElem?_append_left (by simpa using h1), List.getElem?_append_left (by simp; omega)]
      simp [h1, show i < n + 1 by omega]
    · rw [List.getElem?_append_right (by simp; omega), List.getElem?_append_right (by simp; omega)]
      simp only [List.length_map, List.length_range, List.getElem?_replicate]
      by_cases h2 : i < 4
      · rw [if_pos (by omega), if_pos (by omega)]
      · rw [if_neg (by omega), if_neg (by omega)]
theorem hvR_zero (k h : Nat) : hvR k h 0 = zs (cL k) := by simp [hvR]
theorem hvR_set {k h n : Nat} (hn : n < cL k) : (hvR k h n).set n (pw ((h + 1) * (n + 1) % 255)) = hvR k h (n + 1) := by
  apply List.ext_getElem?
  intro i
  unfold hvR zs
  rw [List.getElem?_set]
  by_cases e : n = i
  · subst e
    rw [if_pos rfl, if_pos (by simp; omega), List.getElem?_append_left (by simp)]
    simp
  · rw [if_neg e]
    by_cases h1 : i < n
    · rw [List.getElem?_append_left (by simpa using h1), List.getElem?_append_left (by simp; omega)]
      simp [h1, show i < n + 1 by omega]
    · rw [List.getElem?_append_right (by simp; omega), List.getElem?_append_right (by simp; omega)]
      simp only [List.length_map, List.length_range, List.getElem?_replicate]
      by_cases h2 : i < cL k
      · rw [if_pos (by omega), if_pos (by omega)]
      · rw [if_neg (by omega), if_neg (by omega)]

set_option maxRecDepth 100000 in
set_option maxHeartbeats 4000000 in
theorem heavy_one (p k : Nat) (w : World) (h1 : 1 ≤ k) (hk : k ≤ 32) (hM : MatC w p k) :
    Calls Tryd.prog 84 #[.pointer (some ⟨p, 0, none⟩)] w fun e w' => ∃ g, e = .returned (.slice (some ⟨g, 0, none⟩) 4 4) ∧ OwnRs w' w.heap.size (some ⟨g, 0, none⟩) 4 4 (heavyP k) ∧ Below w.heap.size w w' := by
  obtain ⟨i0, hi, hz0, hz1, hz2⟩ := info_parts Tryd.info22
  obtain ⟨j0, hj, hy0, hy1, hy2⟩ := info_parts Tryd.info5
  obtain ⟨m0, m1, m2, m3, m4, m5, m6, m7, m8⟩ := hM.cells
  obtain ⟨f1, f2, f3, f4, f5, f6, f7, f8, f9, f10, f11, f12, f13, f14⟩ := code_facts h1 hk
  have hL : cL k = cKp k + cS k + 4 := rfl
  obtain ⟨S, hS⟩ : ∃ S, S = cS k := ⟨_, rfl⟩
  obtain ⟨L, hLL⟩ : ∃ L, L = cL k := ⟨_, rfl⟩
  obtain ⟨K, hKp⟩ : ∃ K, K = cKp k := ⟨_, rfl⟩
  have H0 : Hid (∀ n, flp (hvR k n (K + S)) (K + S + n) = hv0 k n) := Lib.hid (fun n => by rw [hS, hKp]; rfl)
  have H1 : Hid (∀ n, n < 4 → (hv1 k n).set n (hv0 k n) = hv1 k (n + 1)) := Lib.hid (fun n h => hv1_set h)
  have H2 : Hid (∀ n, hvR k n 0 = zs L) := Lib.hid (fun n => by rw [hLL]; exact hvR_zero k n)
  have H3 : Hid (∀ h n, n < L → (hvR k h n).set n (pw ((h + 1) * (n + 1) % 255)) = hvR k h (n + 1)) := Lib.hid (fun h n hn => hvR_set (by omega))
  have H4 : Hid (∀ h n, n ≤ L → (hvR k h n).length = L ∧ Bytes (hvR k h n)) := Lib.hid (fun h n hn => ⟨by rw [hLL]; exact hvR_length (by omega), hvR_bytes _ _ _⟩)
  have HZ : Hid (hv1 k 0 = List.replicate 4 []) := Lib.hid (hv1_zero k)
  have HP : Hid (heavyP k = hv1 k 4) := Lib.hid rfl
  rw [← hS] at m2 f5 f6 hL
  rw [← hLL] at m4 hL
  rw [← hKp] at m1 f1 f2 hL
  clear hS hLL hKp m0 m5 m6 m7 m8 hM f3 f4 f7 f8 f9 f10 f11 f12 f13 f14
  have hL100 : L ≤ 100 := by omega
  have hL0 : 0 < L := by omega
  have HL := Lib.hid hL
  clear hL
  go_enter Tryd.func84, Tryd.ntmps84
  go_wp2_with (first | (at_make; refine Hid.out ?_))
  refine Lib.hid ?_
  refine wpList_make_full _ rfl _ _ 35 rfl w.heap.size 22 i0 (.slice none 0 0) 1 Tryd.underlying35 hi hz0 hz1 _ _ _ _ 4 rfl rfl rfl rfl (by rw [hz2]; omega) (by unfold maxLen; omega) (Nat.le_refl _) ?_
  intro w2 hown2 hgrow2
  have hb2 := below_grown (Below.refl _ _) hgrow2 (fun k e => by cases e)
  rw [show (Value.slice none 0 0).cells = #[.slice none 0 0] from rfl, Nat.mul_one, toList_madeCells_one] at hown2
  have hD := OwnD.made hown2
  rw [← HZ.out] at hD
  have HD := Lib.hid hD
  have HB2 := Lib.hid hb2
  clear hD hown2 hgrow2 hb2
  go_wp2_with fail
  go_loopw [14] (fun vi wr => ∃ (n : Nat) (hs : List HdT), n ≤ 4 ∧ vi = .int .i64 (n : Nat) ∧ Hid (OwnD wr w.heap.size w.heap.size 4 4 hs (hv1 k n)) ∧ Hid (Below w.heap.size w wr)) (fun vi _ => (4 - intOf vi).toNat)
  case atStart => exact ⟨0, _, Nat.zero_le _, rfl, HD, HB2⟩
  case round =>
    clear HD HB2
    obtain ⟨n, hs, hn, rfl, hD, hB⟩ := hrel
    by_cases hlt : n < 4
    · have q4 := cell_below m4 hB.out
      have hsz := hB.out.size
      have hgl := (hD.out.1.lt _ rfl).2
      go_wp2_with (first | (at_make; refine Hid.out ?_))
      refine Lib.hid ?_
      refine wpList_make_full _ rfl _ _ 22 rfl w.heap.size 5 j0 (.int .u8 0) 1 Tryd.underlying22 hj hy0 hy1 _ _ _ _ L rfl rfl rfl rfl (by rw [hy2]; omega) (by unfold maxLen; omega) hsz ?_
      intro w3 hown3 hgrow3
      rw [show (Value.int .u8 0).cells = #[.int .u8 0] from rfl, Nat.mul_one, toList_madeCells_one, ← bv_zs] at hown3
      have hB3 := below_grown hB.out hgrow3 (fun k e => by cases e)
      have hD3 := hD.out.below (by exact ⟨hgrow3.os, hgrow3.tape, hgrow3.output, hgrow3.size, fun i hi => hgrow3.block i hi (by simp)⟩)
      obtain ⟨c3, hc3, hf3⟩ : ∃ v, w3.cell? ⟨w.heap.size, n, none⟩ = some v ∧ w3.frozen? ⟨w.heap.size, n, none⟩ = false := by
        have h := hD3.1.cellAt n (by omega)
        rw [List.getElem?_eq_getElem (by rw [hD3.1.1]; omega)] at h
        exact ⟨_, h, hD3.1.frozenAt n⟩
      have hown3' : w3.ownsRow w.heap.size 5 1 (SV (some ⟨wr.heap.size, 0, none⟩, L, L)) (zs L).length ((zs L).map bv) := by rw [zs_length]; exact hown3
      have hD4 := hD3.fresh (i := n) (x := (some ⟨wr.heap.size, 0, none⟩, L, L)) (l := zs L) hown3' (zs_length L).symm ⟨zs_bytes L, by rw [zs_length]; omega⟩ (fun j y hy => by
        right
        intro e
        have hjl : j < (hv1 k n).length := by rw [← hD.out.2.1.1]; exact (List.getElem?_eq_some_iff.1 hy).1
        have := (hD.out.2.1.2 j y _ hy (List.getElem?_eq_getElem hjl)).2.lt wr.heap.size (by unfold SV; rw [e]; rfl)
        omega)
      have hB4 : Below w.heap.size w (w3.setCell ⟨w.heap.size, n, none⟩ (.slice (some ⟨wr.heap.size, 0, none⟩) L L)) := hB3.setCell (p := ⟨w.heap.size, n, none⟩) (Nat.le_refl _) _
      have hlh : n < hs.length := by rw [hD.out.len]; exact hlt
      obtain ⟨hs', hhs'⟩ : ∃ h, h = hs.set n (some ⟨wr.heap.size, 0, none⟩, L, L) := ⟨_, rfl⟩
      obtain ⟨q', hq'⟩ : ∃ q, q = wr.heap.size := ⟨_, rfl⟩
      have hx' : hs'[n]? = some (some ⟨q', 0, none⟩, L, L) := by rw [hhs', List.getElem?_set, if_pos rfl, if_pos hlh, hq']
      have hwq : w.heap.size < q' := by omega
      have hD4' : OwnD (w3.setCell ⟨w.heap.size, n, none⟩ (.slice (some ⟨wr.heap.size, 0, none⟩) L L)) w.heap.size w.heap.size 4 4 hs' ((hv1 k n).set n (hvR k n 0)) := by rw [hhs', H2.out]; exact hD4
      have hlm : n < (hv1 k n).length := by rw [← hD.out.2.1.1]; exact hlh
      have HLM := Lib.hid hlm
      have HX := Lib.hid hx'
      have HD4 := Lib.hid hD4'
      have HB4 := Lib.hid hB4
      clear hown3' hown3 hgrow3 hD3 hD4 hD4' hB3 hB4 hD hB q4 hx' hhs' hlm hlh hq'
      go_wp2_with fail
      generalize w3.setCell ⟨w.heap.size, n, none⟩ (.slice (some ⟨wr.heap.size, 0, none⟩) L L) = w4 at HD4 HB4 ⊢
      have q1 := cell_below m1 HB4.out
      have q2 := cell_below m2 HB4.out
      go_quiet (fail)
      go_wp2_with fail
      obtain ⟨N, hN⟩ : ∃ N, N = K + S := ⟨_, rfl⟩
      have EN : (K : Int) + (S : Int) = (N : Int) := by omega
      have hNL : N < L := by have := HL.out; omega
      have hN100 : N ≤ 100 := by omega
      have H0' := Lib.hid (H0.out n)
      rw [← hN] at H0'
      have HN := Lib.hid hN
      rw [EN]
      have HD5 := Lib.hid (HD4.out.below (below_drewR (Below.refl _ _) nq))
      have HB5 := Lib.hid (below_drewR HB4.out nq)
      clear EN hN HD4 HB4 q1 q2
      generalize w4.drewN nq = w5 at HD5 HB5 ⊢
      go_loopw [37] (fun vj wr => ∃ (j : Nat), j ≤ N ∧ vj = .int .i64 (j : Nat) ∧ Hid (OwnD wr w.heap.size w.heap.size 4 4 hs' ((hv1 k n).set n (hvR k n j))) ∧ Hid (Below w.heap.size w wr)) (fun vj _ => (N - intOf vj).toNat)
      case atStart => exact ⟨0, Nat.zero_le _, rfl, HD5, HB5⟩
      case round =>
        clear HD5 HB5
        obtain ⟨j, hj, rfl, hD, hB⟩ := hrel
        have hgd : ((hv1 k n).set n (hvR k n j)).getD n [] = hvR k n j := by
          rw [set_getD _ _ _ _ HLM.out, if_pos rfl]
        have hl4 := H4.out n j (by omega)
        have hrow := hD.out.row (i := n) hlt (by rw [hgd, hl4.1]; exact hL0)
        rw [hgd, hl4.1] at hrow
        obtain ⟨q2, c', hx2, q9, o9, -⟩ := hrow
        have e2 := hx2.symm.trans HX.out
        injection e2 with e2
        injection e2 with e2 e3
        injection e2 with e2
        injection e2 with e2
        injection e3 with _ e3
        subst e2
        have e3 := e3.symm
        subst e3
        have HO9 := Lib.hid o9
        clear hgd hx2 o9
        by_cases hlt2 : j < N
        · obtain ⟨y, hy⟩ : ∃ y, y = (n + 1) * (j + 1) := ⟨_, rfl⟩
          have hy500 : y ≤ 4 * 100 := by rw [hy]; exact Nat.mul_le_mul (by omega) (by omega)
          have hyy : ((n : Int) + 1) * ((j : Int) + 1) = (y : Int) := by rw [hy]; simp
          have EW := Lib.hid (show IntKind.i64.wrap (IntKind.i64.wrap ((n : Int) + 1) * IntKind.i64.wrap ((j : Int) + 1)) = (y : Int) by
            rw [show IntKind.i64.wrap ((n : Int) + 1) = (n : Int) + 1 by rw [IntKind.wrap_i64]; omega, show IntKind.i64.wrap ((j : Int) + 1) = (j : Int) + 1 by rw [IntKind.wrap_i64]; omega, hyy, IntKind.wrap_i64]; omega)
          have hE : (((y : Int)) % 255).toNat = y % 255 := by omega
          have KE := fun W => exp_any (y : Int) W
          simp only [hE] at KE
          have hc0 := own_cell HO9.out (p := j) (by omega)
          have hf0 := HO9.out.frozenAt j
          have hput := hD.out.put HX.out (grown_set4 wr q2 j (.int .u8 ((pw (y % 255) : Nat) : Int))) (l' := (hvR k n j).set j (pw (y % 255))) (by rw [List.map_set]; exact own_set' HO9.out j _) (by
            rw [hy, H3.out n j (by omega)]; exact (H4.out n (j + 1) (by omega)).2) (by omega)
          rw [List.set_set, hy, H3.out n j (by omega), ← hy] at hput
          have hBp : Below w.heap.size w (wr.setCell ⟨q2, j, none⟩ (.int .u8 ((pw (y % 255) : Nat) : Int))) := hB.out.setCell (p := ⟨q2, j, none⟩) (Nat.le_of_lt hwq) _
          obtain ⟨z, hz⟩ : ∃ z, z = pw (y % 255) := ⟨_, rfl⟩
          simp only [← hz] at KE
          rw [← hz] at hput hBp
          have HPT := Lib.hid hput
          have HBP := Lib.hid hBp
          clear hy hE hput hBp hz hD hB
          go_wp2_with fail
          have i0' : (0 : Int) ≤ (j : Int) := by omega
          have i1' : (j : Int) < (L : Int) := by omega
          have i2' : j < L := by omega
          go_region_law
            (first
              | ((rw [if_pos (by rfl)]); go_simp; rw [EW.out]; (with_reducible refine (KE _).mono ?_); rintro e w7 ⟨rfl, rfl⟩; dsimp only))
          all_goals
            have HPT2 := Lib.hid (HPT.out.below (Below.drew (Below.refl _ _)))
            have HBP2 := Lib.hid HBP.out.drew
            go_wp2
            go_roundw
            case rel =>
              first
                | exact ⟨j + 1, by omega, by go_num, HPT, HBP⟩
                | exact ⟨j + 1, by omega, by go_num, HPT2, HBP2⟩
            case measure => simp [intOf] <;> omega
        · obtain rfl : j = N := by omega
          have hgq : w.heap.size ≠ q2 := by omega
          have hset : ((hv1 k n).set n (hvR k n j)).set n (meets (hvR k n j) [j + n]) = hv1 k (n + 1) := by
            rw [List.set_set, show meets (hvR k n j) [j + n] = hv0 k n from H0'.out, H1.out n hlt]
          have hgl4 := (hD.out.1.lt _ rfl).2
          have hjn : j + n < L := by have := HL.out; have := HN.out; omega
          obtain ⟨C, hC⟩ : ∃ C, C = Obj.cells #[.int .i64 ((j + n : Nat) : Int)] 3 (0, 0) := ⟨_, rfl⟩
          have KM : ∀ (W4 : World), Below (wr.alloc C).heap.size (wr.alloc C) W4 → Calls Tryd.prog 88 #[.slice (some ⟨q2, 0, none⟩) L L, .slice (some ⟨wr.heap.size, 0, none⟩) 1 1] W4 (fun e w' => e = .returned (.tuple #[]) ∧ OwnD w' w.heap.size w.heap.size 4 4 hs' (hv1 k (n + 1)) ∧ Below w.heap.size w w' ∧ w'.cell? ⟨w.heap.size, n, none⟩ = some (.slice (some ⟨q2, 0, none⟩) L L)) := fun W4 hh => (meet_own w.heap.size q2 L L (hvR k n j) (some ⟨wr.heap.size, 0, none⟩) 1 1 [j + n] W4
            ((HO9.out.alloc C).kept (grownBy_of_below hh none) (by simp [Value.ownBlock])) hl4.2 ((by rw [hC]; exact rowV_one wr _ _ : RowV (wr.alloc C) _ 1 _).below hh) (fun a e => by
              injection e with e; rw [← e]; intro e2; have := (HO9.out.lt q2 rfl).2; simp only at e2; omega) (fun p hp => by simp at hp; omega) (by omega)).mono (by
            rintro e w' ⟨he, o5, g5⟩
            have hD5 := ((hD.out.below (below_alloc wr C)).below hh).put HX.out g5 o5 (meets_bytes _ hl4.2) (by omega)
            rw [hset] at hD5
            have hB5 := (hB.out.alloc hB.out.size C).trans (hh.mono (hB.out.alloc hB.out.size C).size)
            refine ⟨he, hD5, below_grown hB5 g5 (fun k e => by injection e with e; rw [← e]; exact (HO9.out.lt q2 rfl).1), ?_⟩
            refine (World.cell?_of_block (a := ⟨w.heap.size, n, none⟩) (g5.block w.heap.size (Nat.lt_of_lt_of_le hgl4 (Nat.le_trans (below_alloc wr C).size hh.size)) (fun e => hgq (Option.some.inj e)))).trans ?_
            exact cell_below (cell_below q9 (below_alloc wr C)) hh)
          have HKM := Lib.hid KM
          have HC := Lib.hid hC
          have E1 := Lib.hid (show IntKind.i64.wrap (IntKind.i64.wrap ((K : Int) + (S : Int)) + (n : Int)) = ((j + n : Nat) : Int) by
            rw [show IntKind.i64.wrap ((K : Int) + (S : Int)) = ((j : Nat) : Int) by rw [IntKind.wrap_i64]; have := HN.out; omega, IntKind.wrap_i64]; omega)
          have q1 := cell_below m1 hB.out
          have q2' := cell_below m2 hB.out
          have K0 : wr.cell? ⟨w.heap.size, n, none⟩ = some (.slice (some ⟨q2, 0, none⟩) L L) ∧ wr.cell? ⟨p, 1, none⟩ = some (.int .i64 (K : Nat)) ∧ wr.cell? ⟨p, 2, none⟩ = some (.int .i64 (S : Nat)) := ⟨q9, q1, q2'⟩
          clear KM hC hset hgq hgl4 hjn hl4
          go_wp2_with fail
          go_region_held3 (fun w' => w'.cell? ⟨w.heap.size, n, none⟩ = some (.slice (some ⟨q2, 0, none⟩) L L) ∧ w'.cell? ⟨p, 1, none⟩ = some (.int .i64 (K : Nat)) ∧ w'.cell? ⟨p, 2, none⟩ = some (.int .i64 (S : Nat))) (first | exact K0 | exact K2 | go_keep)
            (first
              | (go_at_call 88; rw [E1.out]; (with_reducible refine (HKM.out _ ?hh).mono ?_); (case hh => rw [HC.out]; exact ⟨rfl, rfl, rfl, Nat.le_refl _, fun _ _ => rfl⟩); rintro e w5 ⟨rfl, hD5, hB5, k5⟩; have K2 : w5.cell? ⟨w.heap.size, n, none⟩ = some (.slice (some ⟨q2, 0, none⟩) L L) ∧ w5.cell? ⟨p, 1, none⟩ = some (.int .i64 (K : Nat)) ∧ w5.cell? ⟨p, 2, none⟩ = some (.int .i64 (S : Nat)) := ⟨k5, cell_below m1 hB5, cell_below m2 hB5⟩))
          clear K2
          go_wp2
          go_roundw
          case rel => exact ⟨n + 1, _, by omega, by go_num, Lib.hid hD5, Lib.hid hB5⟩
          case measure => simp [intOf] <;> omega
    · obtain rfl : n = 4 := by omega
      rw [← HP.out] at hD
      go_wp2
      go_ret
      exact ⟨_, rfl, hD.out.own, hB.out⟩
end Go.Proofs.YtfjcbgfgiidogaaDoor
