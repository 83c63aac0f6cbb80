/-
  rq: the light rows.
-/
import Derived.StillTailTactics
import Derived.Deep.RegionHeld3
import Derived.Test.YtfjcbgfgiidogaaDoorMRq1
namespace Go.Proofs.YtfjcbgfgiidogaaDoor
open Go.RowKit

theorem rowV_three (w : World) (a b c : Nat) (T : TypeId) : RowV (w.alloc (.cells #[.int .i64 (a : Nat), .int .i64 (b : Nat), .int .i64 (c : Nat)] T)) (some ⟨w.heap.size, 0, none⟩) 3 ([a, b, c].map nv) := rowV_lit w _ T _ 3 _ rfl rfl rfl
theorem lit1_zero (k : Nat) : lit1 k 0 = List.replicate (cS k) [] := by simp [lit1]
theorem lit1_set {k n : Nat} (h : n < cS k) : (lit1 k n).set n (lit0 k n) = lit1 k (n + 1) := by
  apply List.ext_getElem?
  intro i
  unfold lit1
  rw [List.getElem?_set]
  by_cases e : n = i
  · subst e
    rw [if_pos rfl, if_pos (by simp; omega), List.getElem?_append_left (by simp)]
    simp
  · rw [if_neg e]
    by_cases h1 : i < n
    · rw [List.getElem?_append_left (by simpa using h1), List.getElem?_append_left (by simp; omega)]
      simp [h1, show i < n + 1 by omega]
    · rw [List.getElem?_append_right (by simp; omega), List.getElem?_append_right (by simp; omega)]
      simp only [List.length_map, List.length_range, List.getElem?_replicate]
      by_cases h2 : i < cS k
      · rw [if_pos (by omega), if_pos (by omega)]
      · rw [if_neg (by omega), if_neg (by omega)]
theorem rem_nat {b W : Nat} (h : b < 100000) : ((b : Int)).tmod (W : Int) = ((b % W : Nat) : Int) := by
  rw [Int.tmod_eq_emod_of_nonneg (by omega), Int.natCast_emod]

set_option maxRecDepth 100000 in
set_option maxHeartbeats 4000000 in
theorem light_one (p k : Nat) (w : World) (h1 : 1 ≤ k) (hk : k ≤ 32) (hM : MatC w p k) :
    Calls Tryd.prog 83 #[.pointer (some ⟨p, 0, none⟩)] w fun e w' => ∃ g, e = .returned (.slice (some ⟨g, 0, none⟩) (cS k) (cS k)) ∧ OwnRs w' w.heap.size (some ⟨g, 0, none⟩) (cS k) (cS k) (lightP k) ∧ Below w.heap.size w w' := by
  obtain ⟨i0, hi, hz0, hz1, hz2⟩ := info_parts Tryd.info22
  obtain ⟨j0, hj, hy0, hy1, hy2⟩ := info_parts Tryd.info5
  obtain ⟨m0, m1, m2, m3, m4, m5, m6, m7, m8⟩ := hM.cells
  obtain ⟨f1, f2, f3, f4, f5, f6, f7, f8, f9, f10, f11, f12, f13, f14⟩ := code_facts h1 hk
  have hL : cL k = cKp k + cS k + 4 := rfl
  have hB : cB k + cS k = cW k := by unfold cB; omega
  obtain ⟨S, hS⟩ : ∃ S, S = cS k := ⟨_, rfl⟩
  obtain ⟨L, hLL⟩ : ∃ L, L = cL k := ⟨_, rfl⟩
  obtain ⟨W, hW⟩ : ∃ W, W = cW k := ⟨_, rfl⟩
  obtain ⟨P, hP⟩ : ∃ P, P = cP k := ⟨_, rfl⟩
  obtain ⟨B, hBB⟩ : ∃ B, B = cB k := ⟨_, rfl⟩
  have H0 : Hid (∀ n, lit0 k n = meets (zs L) [B + n, W + n % P, W + (n + 1) % P]) := Lib.hid (fun n => by rw [hLL, hW, hP, hBB]; rfl)
  have H1 : Hid (∀ n, n < S → (lit1 k n).set n (lit0 k n) = lit1 k (n + 1)) := Lib.hid (fun n h => lit1_set (by omega))
  have HZ : Hid (lit1 k 0 = List.replicate S []) := Lib.hid (by rw [hS]; exact lit1_zero k)
  have HZ2 : Hid (lit2 k 0 = lit1 k S) := Lib.hid (by rw [hS]; rfl)
  have HI : Hid (∀ i s, litI k i s = (i % S + s * (1 + i / S)) % S) := Lib.hid (fun i s => by rw [hS]; rfl)
  have HLP : Hid (lightP k = lit2 k B) := Lib.hid (by rw [hBB]; rfl)
  have HALL : Hid (∀ i s l, l ∈ lit3 k i (lit2 k i) s → Bytes l ∧ l.length = L) := Lib.hid (fun i s l h => by rw [hLL]; exact (lit2_all k i).lit3 s l h)
  rw [← hS] at m2 f5 f6 f7 f9 hL hB ⊢
  rw [← hLL] at m4 f14 hL
  rw [← hW] at m5 f7 f8 f9 f14 hB
  rw [← hP] at m6 f10 f11 f12 f14
  rw [← hBB] at m8 hB
  clear hS hLL hW hP hBB m0 m1 m3 m7 hM f12 f13
  have hL100 : L ≤ 100 := by omega
  have hL0 : 0 < L := by omega
  have hW100 : W ≤ 100 := by omega
  have hB100 : B ≤ 100 := by omega
  have HB := Lib.hid hB
  have HWP : Hid (W + P = L) := Lib.hid (by omega)
  clear hB hL f14 f7
  go_enter Tryd.func83, Tryd.ntmps83
  go_wp2_with (first | (at_make; refine Hid.out ?_))
  refine Lib.hid ?_
  refine wpList_make_full _ rfl _ _ 35 rfl w.heap.size 22 i0 (.slice none 0 0) 1 Tryd.underlying35 hi hz0 hz1 _ _ _ _ S rfl rfl rfl rfl (by rw [hz2]; omega) (by unfold maxLen; omega) (Nat.le_refl _) ?_
  intro w2 hown2 hgrow2
  have hb2 := below_grown (Below.refl _ _) hgrow2 (fun k e => by cases e)
  rw [show (Value.slice none 0 0).cells = #[.slice none 0 0] from rfl, Nat.mul_one, toList_madeCells_one] at hown2
  have hD := OwnD.made hown2
  rw [← HZ.out] at hD
  have HD := Lib.hid hD
  have HB2 := Lib.hid hb2
  clear hD hown2 hgrow2 hb2
  go_wp2_with fail
  go_loopw [17] (fun vi wr => ∃ (n : Nat) (hs : List HdT), n ≤ S ∧ vi = .int .i64 (n : Nat) ∧ Hid (OwnD wr w.heap.size w.heap.size S S hs (lit1 k n)) ∧ Hid (Below w.heap.size w wr)) (fun vi _ => (S - intOf vi).toNat)
  case atStart => exact ⟨0, _, Nat.zero_le _, rfl, HD, HB2⟩
  case round =>
    obtain ⟨n, hs, hn, rfl, hD, hB⟩ := hrel
    by_cases hlt : n < S
    · have q4 := cell_below m4 hB.out
      have hsz := hB.out.size
      have hgl := (hD.out.1.lt _ rfl).2
      go_wp2_with (first | (at_make; refine Hid.out ?_))
      refine Lib.hid ?_
      refine wpList_make_full _ rfl _ _ 22 rfl w.heap.size 5 j0 (.int .u8 0) 1 Tryd.underlying22 hj hy0 hy1 _ _ _ _ L rfl rfl rfl rfl (by rw [hy2]; omega) (by unfold maxLen; omega) hsz ?_
      intro w3 hown3 hgrow3
      rw [show (Value.int .u8 0).cells = #[.int .u8 0] from rfl, Nat.mul_one, toList_madeCells_one, ← bv_zs] at hown3
      have hB3 := below_grown hB.out hgrow3 (fun k e => by cases e)
      have hD3 := hD.out.below (by exact ⟨hgrow3.os, hgrow3.tape, hgrow3.output, hgrow3.size, fun i hi => hgrow3.block i hi (by simp)⟩)
      obtain ⟨c3, hc3, hf3⟩ : ∃ v, w3.cell? ⟨w.heap.size, n, none⟩ = some v ∧ w3.frozen? ⟨w.heap.size, n, none⟩ = false := by
        have h := hD3.1.cellAt n (by omega)
        rw [List.getElem?_eq_getElem (by rw [hD3.1.1]; omega)] at h
        exact ⟨_, h, hD3.1.frozenAt n⟩
      have hown3' : w3.ownsRow w.heap.size 5 1 (SV (some ⟨wr.heap.size, 0, none⟩, L, L)) (zs L).length ((zs L).map bv) := by rw [zs_length]; exact hown3
      have hD4 := hD3.fresh (i := n) (x := (some ⟨wr.heap.size, 0, none⟩, L, L)) (l := zs L) hown3' (zs_length L).symm ⟨zs_bytes L, by rw [zs_length]; omega⟩ (fun j y hy => by
        right
        intro e
        have hjl : j < (lit1 k n).length := by rw [← hD.out.2.1.1]; exact (List.getElem?_eq_some_iff.1 hy).1
        have := (hD.out.2.1.2 j y _ hy (List.getElem?_eq_getElem hjl)).2.lt wr.heap.size (by unfold SV; rw [e]; rfl)
        omega)
      have hB4 : Below w.heap.size w (w3.setCell ⟨w.heap.size, n, none⟩ (.slice (some ⟨wr.heap.size, 0, none⟩) L L)) := hB3.setCell (p := ⟨w.heap.size, n, none⟩) (Nat.le_refl _) _
      have hD4' : OwnD (w3.setCell ⟨w.heap.size, n, none⟩ (.slice (some ⟨wr.heap.size, 0, none⟩) L L)) w.heap.size w.heap.size S S (hs.set n (some ⟨wr.heap.size, 0, none⟩, L, L)) ((lit1 k n).set n (zs L)) := hD4
      have HD4 := Lib.hid hD4'
      have HB4 := Lib.hid hB4
      clear hown3' hown3 hgrow3 hD3 hD4 hD4' hB3 hB4 hD hB q4
      go_wp2_with fail
      have hgd : ((lit1 k n).set n (zs L)).getD n [] = zs L := by
        rw [set_getD _ _ _ _ (by have := HD4.out.2.1.1; rw [HD4.out.len, List.length_set] at this; omega), if_pos rfl]
      have hrow := HD4.out.row (i := n) hlt (by rw [hgd, zs_length]; exact hL0)
      rw [hgd, zs_length] at hrow
      obtain ⟨q', c', hx', q9, o9, -⟩ := hrow
      have HX' := Lib.hid hx'
      have HO9 := Lib.hid o9
      clear hgd hx' o9
      generalize w3.setCell ⟨w.heap.size, n, none⟩ (.slice (some ⟨wr.heap.size, 0, none⟩) L L) = w4 at HD4 HB4 HO9 q9 ⊢
      have q8 := cell_below m8 HB4.out
      have q5 := cell_below m5 HB4.out
      have q6 := cell_below m6 HB4.out
      have hBL : B + n < L := by have := HB.out; have := HWP.out; omega
      have hM1 : n % P < P := Nat.mod_lt _ (by omega)
      have hM2 : (n + 1) % P < P := Nat.mod_lt _ (by omega)
      have hWPL := HWP.out
      obtain ⟨C, hC⟩ : ∃ C, C = Obj.cells #[.int .i64 ((B + n : Nat) : Int), .int .i64 ((W + n % P : Nat) : Int), .int .i64 ((W + (n + 1) % P : Nat) : Int)] 3 (0, 0) := ⟨_, rfl⟩
      have hgq : w.heap.size ≠ q' := fun e => by
        have := own_ne HD4.out.1 HO9.out (by decide)
        simp [Value.ownBlock] at this
        exact this e
      have hset : ((lit1 k n).set n (zs L)).set n (meets (zs L) [B + n, W + n % P, W + (n + 1) % P]) = lit1 k (n + 1) := by rw [List.set_set, ← H0.out, H1.out n hlt]
      have hgl4 := (HD4.out.1.lt _ rfl).2
      have KM : ∀ (W4 : World), Below (w4.alloc C).heap.size (w4.alloc C) W4 → Calls Tryd.prog 88 #[.slice (some ⟨q', 0, none⟩) L c', .slice (some ⟨w4.heap.size, 0, none⟩) 3 3] W4 (fun e w' => e = .returned (.tuple #[]) ∧ OwnD w' w.heap.size w.heap.size S S (hs.set n (some ⟨wr.heap.size, 0, none⟩, L, L)) (lit1 k (n + 1)) ∧ Below w.heap.size w w' ∧ w'.cell? ⟨w.heap.size, n, none⟩ = some (.slice (some ⟨q', 0, none⟩) L c')) := fun W4 hh => (meet_own w.heap.size q' L c' (zs L) (some ⟨w4.heap.size, 0, none⟩) 3 3 [B + n, W + n % P, W + (n + 1) % P] W4
        ((HO9.out.alloc C).kept (grownBy_of_below hh none) (by simp [Value.ownBlock])) (zs_bytes L) ((by rw [hC]; exact rowV_three w4 _ _ _ _ : RowV (w4.alloc C) _ 3 _).below hh) (fun a e => by
          injection e with e; rw [← e]; intro e2; have := (HO9.out.lt q' rfl).2; simp only at e2; omega) (fun p hp => by simp at hp; omega) (by omega)).mono (by
          rintro e w' ⟨he, o5, g5⟩
          have hD5 := ((HD4.out.below (below_alloc w4 C)).below hh).put HX'.out g5 o5 (meets_bytes _ (zs_bytes L)) (by omega)
          rw [hset] at hD5
          have hB5 := (HB4.out.alloc HB4.out.size C).trans (hh.mono (HB4.out.alloc HB4.out.size C).size)
          refine ⟨he, hD5, below_grown hB5 g5 (fun k e => by injection e with e; rw [← e]; exact (HO9.out.lt q' rfl).1), ?_⟩
          refine (World.cell?_of_block (a := ⟨w.heap.size, n, none⟩) (g5.block w.heap.size (Nat.lt_of_lt_of_le hgl4 (Nat.le_trans (below_alloc w4 C).size hh.size)) (fun e => hgq (Option.some.inj e)))).trans ?_
          exact cell_below (cell_below q9 (below_alloc w4 C)) hh)
      have HKM := Lib.hid KM
      have HC := Lib.hid hC
      have E1 := Lib.hid (show IntKind.i64.wrap ((B : Int) + (n : Int)) = ((B + n : Nat) : Int) by rw [IntKind.wrap_i64]; omega)
      have E2 := Lib.hid (show IntKind.i64.wrap ((W : Int) + (n : Int).tmod (P : Int)) = ((W + n % P : Nat) : Int) by rw [rem_nat (by omega), IntKind.wrap_i64]; omega)
      have E3 := Lib.hid (show IntKind.i64.wrap ((W : Int) + (IntKind.i64.wrap ((n : Int) + 1)).tmod (P : Int)) = ((W + (n + 1) % P : Nat) : Int) by
        rw [show IntKind.i64.wrap ((n : Int) + 1) = ((n + 1 : Nat) : Int) by rw [IntKind.wrap_i64]; omega, rem_nat (by omega), IntKind.wrap_i64]; omega)
      have hP0 : (P : Int) ≠ 0 := by omega
      have hPb : ((P : Int) == 0) = false := beq_eq_false_iff_ne.2 hP0
      have hPf : ((P : Int) = 0) = False := eq_false hP0
      have hPf2 : (P = 0) = False := eq_false (by omega)
      clear hBL hM1 hM2 hWPL KM hC hset hgq hgl4
      have K0 : w4.cell? ⟨w.heap.size, n, none⟩ = some (.slice (some ⟨q', 0, none⟩) L c') ∧ w4.cell? ⟨p, 8, none⟩ = some (.int .i64 (B : Nat)) ∧ w4.cell? ⟨p, 5, none⟩ = some (.int .i64 (W : Nat)) ∧ w4.cell? ⟨p, 6, none⟩ = some (.int .i64 (P : Nat)) := ⟨q9, q8, q5, q6⟩
      go_region_held3 (fun w' => w'.cell? ⟨w.heap.size, n, none⟩ = some (.slice (some ⟨q', 0, none⟩) L c') ∧ w'.cell? ⟨p, 8, none⟩ = some (.int .i64 (B : Nat)) ∧ w'.cell? ⟨p, 5, none⟩ = some (.int .i64 (W : Nat)) ∧ w'.cell? ⟨p, 6, none⟩ = some (.int .i64 (P : Nat))) (first | exact K0 | exact K2 | go_keep)
        (first
          | (go_at_call 88; rw [E1.out, E2.out, E3.out]; (with_reducible refine (HKM.out _ ?hh).mono ?_); (case hh => rw [HC.out]; exact ⟨rfl, rfl, rfl, Nat.le_refl _, fun _ _ => rfl⟩); rintro e w5 ⟨rfl, hD5, hB5, k5⟩; have K2 : w5.cell? ⟨w.heap.size, n, none⟩ = some (.slice (some ⟨q', 0, none⟩) L c') ∧ w5.cell? ⟨p, 8, none⟩ = some (.int .i64 (B : Nat)) ∧ w5.cell? ⟨p, 5, none⟩ = some (.int .i64 (W : Nat)) ∧ w5.cell? ⟨p, 6, none⟩ = some (.int .i64 (P : Nat)) := ⟨k5, cell_below m8 hB5, cell_below m5 hB5, cell_below m6 hB5⟩))
      clear K2
      go_wp2
      go_roundw
      case rel => exact ⟨n + 1, _, by omega, by go_num, Lib.hid hD5, Lib.hid hB5⟩
      case measure => simp [intOf] <;> omega
    · obtain rfl : n = S := by omega
      rw [← HZ2.out] at hD
      have q8 := cell_below m8 hB.out
      go_wp2_with fail
      go_loopw [75] (fun vi wr => ∃ (i : Nat) (hs : List HdT), i ≤ B ∧ vi = .int .i64 (i : Nat) ∧ Hid (OwnD wr w.heap.size w.heap.size n n hs (lit2 k i)) ∧ Hid (Below w.heap.size w wr)) (fun vi _ => (B - intOf vi).toNat)
      case atStart => exact ⟨0, hs, Nat.zero_le _, rfl, hD, hB⟩
      case round =>
        clear hD hB q8
        obtain ⟨i, hs, hi, rfl, hD, hB⟩ := hrel
        by_cases hlt2 : i < B
        · have q2 := cell_below m2 hB.out
          have hS0 : (n : Int) ≠ 0 := by omega
          have hSb : ((n : Int) == 0) = false := beq_eq_false_iff_ne.2 hS0
          go_wp2
          go_quiet (fail)
          go_wp2_with fail
          have EA : wrap64 (1 + wrap64 ((i : Int) / (n : Int))) = ((1 + i / n : Nat) : Int) := by
            have hd : i / n ≤ i := Nat.div_le_self _ _
            have hi100 : i ≤ 100 := by have := HB.out; omega
            rw [← Int.natCast_ediv]
            generalize i / n = y at hd ⊢
            rw [IntWalk.wrap64_in (y : Int) (by omega), IntWalk.wrap64_in _ (by omega)]; omega
          have EB : (i : Int) % (n : Int) = ((i % n : Nat) : Int) := (Int.natCast_emod _ _).symm
          rw [EA, EB]
          have ha32 : 1 + i / n ≤ 101 := by have : i / n ≤ i := Nat.div_le_self _ _; have := HB.out; omega
          have hbn : i % n < n := Nat.mod_lt _ (by omega)
          have HI2 := Lib.hid (HI.out i)
          obtain ⟨a, ha⟩ : ∃ a, a = 1 + i / n := ⟨_, rfl⟩
          obtain ⟨b, hb⟩ : ∃ b, b = i % n := ⟨_, rfl⟩
          rw [← ha] at HI2 ha32 ⊢
          rw [← hb] at HI2 hbn ⊢
          have HD := Lib.hid (hD.out.below (below_drewR (Below.refl _ _) nq))
          have HB5 := Lib.hid (below_drewR hB.out nq)
          clear EA EB ha hb hD hB q2
          generalize wr.drewN nq = w6 at HD HB5 ⊢
          obtain ⟨m, hm⟩ : ∃ m, lit2 k i = m := ⟨_, rfl⟩
          have hm3 : lit2 k (i + 1) = lit3 k i m 3 := by rw [← hm]; rfl
          have HALL2 : Hid (∀ s l, l ∈ lit3 k i m s → Bytes l ∧ l.length = L) := Lib.hid (fun s l h => HALL.out i s l (by rw [hm]; exact h))
          have HM3 := Lib.hid hm3
          rw [hm] at HD
          clear hm hm3
          go_loopw [93] (fun vs wr => ∃ (s : Nat) (hs : List HdT), s ≤ 3 ∧ vs = .int .i64 (s : Nat) ∧ Hid (OwnD wr w.heap.size w.heap.size n n hs (lit3 k i m s)) ∧ Hid (Below w.heap.size w wr)) (fun vs _ => (3 - intOf vs).toNat)
          case atStart => exact ⟨0, hs, Nat.zero_le _, rfl, HD, HB5⟩
          case round =>
            clear HD HB5
            obtain ⟨s, hs, hs3, rfl, hD, hB⟩ := hrel
            by_cases hlt3 : s < 3
            · have q2 := cell_below m2 hB.out
              have hsa : s * a ≤ 2 * 101 := Nat.mul_le_mul (by omega) ha32
              obtain ⟨x, hx⟩ : ∃ x, x = s * a := ⟨_, rfl⟩
              have hsx : (s : Int) * (a : Int) = (x : Int) := by rw [hx]; simp
              obtain ⟨r, hr⟩ : ∃ r, r = (b + x) % n := ⟨_, rfl⟩
              have hrn : r < n := by rw [hr]; exact Nat.mod_lt _ (by omega)
              have hlit : litI k i s = r := by rw [HI2.out, hr, hx]
              have HST := Lib.hid (show lit3 k i m (s + 1) = flpAt (lit3 k i m s) r i by rw [← hlit]; rfl)
              have hx202 : x ≤ 202 := by omega
              rw [hr] at HST hrn
              have hb0 : (0 : Int) ≤ ((b : Int) + (x : Int)) % (n : Int) := Int.emod_nonneg _ hS0
              have hb1 : ((b : Int) + (x : Int)) % (n : Int) < (n : Int) := Int.emod_lt_of_pos _ (by omega)
              have hln := HALL2.out s ((lit3 k i m s).getD ((b + x) % n) []) (by
                rw [List.getD_eq_getElem?_getD, List.getElem?_eq_getElem (by rw [← hD.out.2.1.1, hD.out.len]; exact hrn)]
                exact List.getElem_mem _)
              obtain ⟨l, hl⟩ : ∃ l, (lit3 k i m s).getD ((b + x) % n) [] = l := ⟨_, rfl⟩
              have hrow := hD.out.row (i := (b + x) % n) hrn (by rw [hln.2]; exact hL0)
              rw [hl] at hrow hln
              rw [hln.2] at hrow
              obtain ⟨q', c', hx', q9, o9, hlb⟩ := hrow
              have hiL : i < L := by have := HB.out; have := HWP.out; omega
              have HX' := Lib.hid hx'
              have HO9 := Lib.hid o9
              have KM := meet_own w.heap.size q' L c' l (some ⟨wr.heap.size, 0, none⟩) 1 1 [i] (wr.alloc (.cells #[.int .i64 (i : Nat)] 3)) (HO9.out.alloc _) hlb (rowV_one wr i _) (fun a e => by
                injection e with e; rw [← e]; intro e2; have := (HO9.out.lt q' rfl).2; simp only at e2; omega) (fun p hp => by simp at hp; omega) (by omega)
              have HE := Lib.hid (show (lit3 k i m s).set ((b + x) % n) (meets l [i]) = lit3 k i m (s + 1) by rw [HST.out, ← hl]; rfl)
              have HLB := Lib.hid hlb
              clear hsa hlit hx hr hx' o9 hlb hl hiL HST hln
              go_wp2_with fail
              (with_reducible refine KM.mono ?_)
              rintro e w7 ⟨rfl, o7, g7⟩
              have hD7 := (hD.out.below (below_alloc wr _)).put HX'.out g7 o7 (meets_bytes _ HLB.out) (by omega)
              rw [HE.out] at hD7
              have hB7 := below_grown (hB.out.alloc hB.out.size _) g7 (fun k e => by injection e with e; rw [← e]; exact (HO9.out.lt q' rfl).1)
              have HD7 := Lib.hid hD7
              have HB7 := Lib.hid hB7
              clear KM hD7 hB7 o7 g7 hD hB q9
              go_wp2
              go_roundw
              case rel => exact ⟨s + 1, _, by omega, by go_num, HD7, HB7⟩
              case measure => simp [intOf] <;> omega
            · obtain rfl : s = 3 := by omega
              rw [← HM3.out] at hD
              go_wp2
              go_roundw
              case rel => exact ⟨i + 1, hs, by omega, by go_num, hD, hB⟩
              case measure => simp [intOf] <;> omega
        · obtain rfl : i = B := by omega
          rw [← HLP.out] at hD
          go_wp2
          go_ret
          exact ⟨_, rfl, hD.out.own, hB.out⟩
end Go.Proofs.YtfjcbgfgiidogaaDoor
