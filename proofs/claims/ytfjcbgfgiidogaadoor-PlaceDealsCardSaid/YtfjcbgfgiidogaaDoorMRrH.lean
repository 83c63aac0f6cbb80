/-
  rillref04: the reference's fixed rows.
-/
import Derived.Test.YtfjcbgfgiidogaaDoorMRr1
namespace Go.Proofs.YtfjcbgfgiidogaaDoor
open Go.RowKit

theorem range_snoc {α : Type} (f : Nat → α) (n : Nat) : (List.range n).map f ++ [f n] = (List.range (n + 1)).map f := by rw [List.range_succ, List.map_append]; rfl

set_option maxRecDepth 100000 in
set_option maxHeartbeats 16000000 in
theorem refFixed_ok (k : Nat) (w : World) (h1 : 1 ≤ k) (hk : k ≤ 32) :
    Calls Tryd.prog 73 #[.int .i64 (k : Int)] w fun e w' => ∃ g c, e = .returned (.tuple #[.slice (some ⟨g, 0, none⟩) (cL k - k) c, .int .i64 0]) ∧ HdV w' w.heap.size (some ⟨g, 0, none⟩) (cL k - k) c (fixedL k) ∧ Below w.heap.size w w' := by
  obtain ⟨i0, hi0, hz0, hz1, hz2⟩ := info_parts Tryd.info22
  obtain ⟨j0, hj0, hy0, hy1, hy2⟩ := info_parts Tryd.info5
  have KP := refParams_any k w h1 hk
  unfold codeV at KP
  obtain ⟨f1, f2, f3, f4, f5, f6, f7, f8, f9, f10, f11, f12, f13, f14⟩ := code_facts h1 hk
  have hL : cL k = cKp k + cS k + 4 := rfl
  have hB : cB k + cS k = cW k := by unfold cB; omega
  have HPL := Lib.hid (fun x (hx : x ≤ 16777219) W => refPlace_own k x W h1 hk hx)
  unfold codeV at HPL
  obtain ⟨S, hS⟩ : ∃ S, S = cS k := ⟨_, rfl⟩
  obtain ⟨L, hLL⟩ : ∃ L, L = cL k := ⟨_, rfl⟩
  obtain ⟨W, hW⟩ : ∃ W, W = cW k := ⟨_, rfl⟩
  obtain ⟨P, hP⟩ : ∃ P, P = cP k := ⟨_, rfl⟩
  obtain ⟨P1, hP1⟩ : ∃ P1, P1 = cP1 k := ⟨_, rfl⟩
  obtain ⟨Bn, hBB⟩ : ∃ B, B = cB k := ⟨_, rfl⟩
  obtain ⟨Kp, hKp⟩ : ∃ K, K = cKp k := ⟨_, rfl⟩
  obtain ⟨J, hJ⟩ : ∃ J, J = cJ k := ⟨_, rfl⟩
  have HA1 : Hid (∀ i, AllL L (rlt1 k i)) := Lib.hid (fun i => by rw [hLL]; exact rlt1_all k i)
  have HA3 : Hid (∀ i s, AllL L (lit3 k i (rlt1 k i) s)) := Lib.hid (fun i s => by rw [hLL]; exact (rlt1_all k i).lit3 s)
  have HA2 : Hid (∀ i, AllL L (rlt2 k i)) := Lib.hid (fun i => by rw [hLL]; exact rlt2_all k i)
  have HI : Hid (∀ i s, litI k i s = (i % S + s * (1 + i / S)) % S) := Lib.hid (fun i s => by rw [hS]; rfl)
  have HR1 : Hid (rlt1 k 0 = List.replicate S (zs L)) := Lib.hid (by rw [hS, hLL]; rfl)
  have HR2 : Hid (rlt2 k 0 = rlt1 k Bn) := Lib.hid (by rw [hBB]; rfl)
  have HR3 : Hid (∀ i, rlt2 k (i + 1) = flpAt (flpAt (flpAt (rlt2 k i) i (Bn + i)) i (W + i % P)) i (W + (i + 1) % P)) := Lib.hid (fun i => by rw [hBB, hW, hP]; rfl)
  have HR4 : Hid (rlt2 k S = lightP k) := Lib.hid (by rw [hS]; exact rlight_eq h1 hk)
  have HH0 : Hid (∀ h, (hvR k h (Kp + S)).set (Kp + S + h) 1 = hv0 k h) := Lib.hid (fun h => by rw [hKp, hS]; exact hv_set)
  have HH1 : Hid (∀ h j, j < L → (hvR k h j).set j (pw ((h + 1) * (j + 1) % 255)) = hvR k h (j + 1)) := Lib.hid (fun h j hj => hvR_set (by rw [← hLL]; exact hj))
  have HH2 : Hid (∀ h, hvR k h 0 = zs L) := Lib.hid (fun h => by rw [hLL]; exact hvR_zero k h)
  have HH3 : Hid (∀ h, Bytes (hv0 k h) ∧ (hv0 k h).length = L) := Lib.hid (fun h => by rw [hLL]; exact ⟨hv0_bytes k h, hv0_length k h⟩)
  have HF0 : Hid (lightP k ++ (List.range 4).map (hv0 k) = fixedTo k 0) := Lib.hid (by rw [fixedTo_zero]; rfl)
  have HFA : Hid (fixedTo k (Kp - k) = fixedL k) := Lib.hid (by rw [hKp]; exact fixedTo_all k)
  have HPB : Hid (∀ x, Bytes (placeR k x) ∧ (placeR k x).length = L) := Lib.hid (fun x => by rw [hLL]; exact ⟨placeR_bytes k x, placeR_length k x⟩)
  rw [← hS, ← hLL, ← hW, ← hP, ← hP1, ← hBB, ← hKp, ← hJ] at KP HPL
  rw [← hS] at f5 f6 f7 f9 hL hB
  rw [← hLL] at f14 hL ⊢
  rw [← hW] at f7 f8 f9 f14 hB
  rw [← hP] at f10 f11 f12 f14
  rw [← hBB] at hB
  rw [← hKp] at hL f1 f2 f3 f4
  obtain ⟨cs, hcs⟩ : ∃ cs : Array Value, cs = #[.int .i64 (k : Nat), .int .i64 (Kp : Nat), .int .i64 (S : Nat), .int .i64 4, .int .i64 (L : Nat), .int .i64 (W : Nat), .int .i64 (P : Nat), .int .i64 (P1 : Nat), .int .i64 (Bn : Nat), .int .i64 (J : Nat)] := ⟨_, rfl⟩
  have HCS := Lib.hid hcs
  clear hS hLL hW hP hP1 hBB hKp hJ hcs f12 f13
  have hL100 : L ≤ 100 := by omega
  have hL0 : 0 < L := by omega
  have hW100 : W ≤ 100 := by omega
  have hB100 : Bn ≤ 100 := by omega
  have hS0 : 0 < S := by omega
  have hP0 : 0 < P := by omega
  have HBW := Lib.hid hB
  have HWP : Hid (W + P = L) := Lib.hid (by omega)
  have HLK := Lib.hid hL
  clear hB hL f14 f7
  go_enter Tryd.func73, Tryd.ntmps73
  go_wp2_with fail
  (with_reducible refine KP.mono ?_)
  rintro e w1 ⟨rfl, hb1⟩
  clear KP
  go_upto_block 0 with fail
  have hs1 := hb1.size
  have hmk := World.ownsRow_made (base := w.heap.size) (e := 22) (size := 1) (w1.alloc (.cells #[.int .i64 (k : Nat), .int .i64 (Kp : Nat), .int .i64 (S : Nat), .int .i64 4, .int .i64 (L : Nat), .int .i64 (W : Nat), .int .i64 (P : Nat), .int .i64 (P1 : Nat), .int .i64 (Bn : Nat), .int .i64 (J : Nat)] 106)) #[] 0 (by simp; omega) (by simp [maxLen]) rfl
  have HX : FxS w ((w1.alloc (.cells #[.int .i64 (k : Nat), .int .i64 (Kp : Nat), .int .i64 (S : Nat), .int .i64 4, .int .i64 (L : Nat), .int .i64 (W : Nat), .int .i64 (P : Nat), .int .i64 (P1 : Nat), .int .i64 (Bn : Nat), .int .i64 (J : Nat)] 106)).alloc (.cells #[] 22)) cs w1.heap.size (w1.heap.size + 1) 0 0 [] [] :=
    ⟨⟨by simpa using hmk, ⟨rfl, fun i x l h => by simp at h⟩, fun l h => by simp at h, fun i j x y h => by simp at h⟩, by rw [HCS.out]; exact (heap_alloc_old _ _ (by simp)).trans (heap_alloc_new _ _), (hb1.alloc hs1 _).alloc (by simp; omega) _⟩
  have HX0 := Lib.hid HX
  clear HX hmk hb1
  obtain ⟨gc, hgc⟩ : ∃ g, g = w1.heap.size := ⟨_, rfl⟩
  generalize (w1.alloc (.cells #[.int .i64 (k : Nat), .int .i64 (Kp : Nat), .int .i64 (S : Nat), .int .i64 4, .int .i64 (L : Nat), .int .i64 (W : Nat), .int .i64 (P : Nat), .int .i64 (P1 : Nat), .int .i64 (Bn : Nat), .int .i64 (J : Nat)] 106)).alloc (.cells #[] 22) = w2 at HX0 ⊢
  have HX1 : Hid (FxS w w2 cs gc (gc + 1) 0 0 [] (List.replicate 0 (zs L))) := by rw [hgc]; exact HX0
  rw [← hgc]
  clear HX0 hgc hs1
  go_wp2_with fail
  go_loopw [6, 7] (fun vo vi wr => ∃ (n g c : Nat) (hs : List HdT), n ≤ S ∧ vi = .int .i64 (n : Nat) ∧ vo = .slice (some ⟨g, 0, none⟩) n c ∧ Hid (FxS w wr cs gc g n c hs (List.replicate n (zs L)))) (fun _ vi _ => (S - intOf vi).toNat)
  case atStart => exact ⟨0, gc + 1, 0, [], Nat.zero_le _, rfl, rfl, HX1⟩
  case round =>
    clear HX1
    obtain ⟨n, g, c, hs, hn, rfl, rfl, hX⟩ := hrel
    obtain ⟨d0, d1, d2, d3, d4, d5, d6, d7, d8, d9⟩ := hX.out.cells HCS.out
    by_cases hlt : n < S
    ·
      -- [[
      have hsz := hX.out.below.size
      have hOL := Lib.hid hX.out.own.older
      go_wp2_with (first | (at_make; refine Hid.out ?_))
      refine Lib.hid ?_
      refine wpList_make_full _ rfl _ _ 22 rfl wr.heap.size 5 j0 (.int .u8 0) 1 Tryd.underlying22 hj0 hy0 hy1 _ _ _ _ L rfl rfl rfl rfl (by rw [hy2]; omega) (by unfold maxLen; omega) (Nat.le_refl _) ?_
      intro w3 hown3 hgrow3
      rw [show (Value.int .u8 0).cells = #[.int .u8 0] from rfl, Nat.mul_one, toList_madeCells_one, ← bv_zs] at hown3
      have b3 : Below wr.heap.size wr w3 := ⟨hgrow3.os, hgrow3.tape, hgrow3.output, hgrow3.size, fun i hi => hgrow3.block i hi (by simp)⟩
      have hX3 := (hX.out.step b3).step (below_alloc w3 (.cells #[.slice (some ⟨wr.heap.size, 0, none⟩) L L] 22))
      have o3 : (w3.alloc (.cells #[.slice (some ⟨wr.heap.size, 0, none⟩) L L] 22)).ownsRow w.heap.size 5 1 (SV (some ⟨wr.heap.size, 0, none⟩, L, L)) (zs L).length ((zs L).map bv) := by rw [zs_length]; exact (ownsRow_base hown3 hsz).alloc _
      have hown := hX3.own.1
      have hbs := hX3.below.size
      have HX3 := Lib.hid hX3
      have HO3 := Lib.hid o3
      clear hown3 hgrow3 b3 hX3 o3 hX d0 d1 d2 d3 d4 d5 d6 d7 d8 d9
      go_wp2_with (first | (at_builtin; refine Hid.out ?_))
      refine Lib.hid ?_
      refine wpList_append_lies _ rfl _ _ 35 rfl w.heap.size 22 i0 (.slice none 0 0) 1 24 Tryd.underlying35 hi0 hz0 hz1 hz2 rfl (by decide) _ _ _ rfl hown ⟨w3.heap.size, 0, none⟩ 1 1 [SV (some ⟨wr.heap.size, 0, none⟩, L, L)] rfl rfl (World.news_of_block (heap_alloc_new w3 _)) (by intro u hu; simp at hu; subst hu; rfl) (by decide) (by unfold maxLen; omega) (by omega) hbs _ rfl ?_
      intro g9 c9 w9 hE9 g9' _ _
      have hX9 := HX3.out.snoc HO3.out (zs_length L).symm ⟨zs_bytes L, by rw [zs_length]; omega⟩ hOL.out (Nat.le_refl _) hE9 g9'
      rw [rep_succ] at hX9
      have HX9 := Lib.hid hX9
      clear hE9 g9' hX9 hown hbs HX3 HO3
      go_wp2
      go_roundw
      case rel => exact ⟨n + 1, g9, c9, _, by omega, by go_num, rfl, HX9⟩
      case measure => simp [intOf] <;> omega
      -- ]]
    · obtain rfl : n = S := by omega
      rw [← HR1.out] at hX
      clear hn hlt d0 d1 d3 d4 d5 d6 d7 d9
      go_wp2_with fail
      go_loopw [8] (fun vi wr => ∃ (i : Nat), i ≤ Bn ∧ vi = .int .i64 (i : Nat) ∧ Hid (FxS w wr cs gc g n c hs (rlt1 k i))) (fun vi _ => (Bn - intOf vi).toNat)
      case atStart => exact ⟨0, Nat.zero_le _, rfl, hX⟩
      case round =>
        clear hX d2 d8
        obtain ⟨i, hi, rfl, hX⟩ := hrel
        obtain ⟨d0, d1, d2, d3, d4, d5, d6, d7, d8, d9⟩ := hX.out.cells HCS.out
        by_cases hlt : i < Bn
        ·
          -- [[
          have hiL : i < L := by have := HBW.out; have := HWP.out; omega
          have hS0i : (n : Int) ≠ 0 := by omega
          have HI2 := Lib.hid (HI.out i)
          have HM3 := Lib.hid (show rlt1 k (i + 1) = flpAt (flpAt (flpAt (rlt1 k i) (litI k i 0) i) (litI k i 1) i) (litI k i 2) i from rfl)
          have HA4 := Lib.hid (HA3.out i)
          obtain ⟨r0, hr0⟩ : ∃ r, r = litI k i 0 := ⟨_, rfl⟩
          obtain ⟨r1, hr1⟩ : ∃ r, r = litI k i 1 := ⟨_, rfl⟩
          obtain ⟨r2, hr2⟩ : ∃ r, r = litI k i 2 := ⟨_, rfl⟩
          have HA5 : Hid (AllL L (rlt1 k i) ∧ AllL L (flpAt (rlt1 k i) r0 i) ∧ AllL L (flpAt (flpAt (rlt1 k i) r0 i) r1 i)) := Lib.hid ⟨HA4.out 0, by rw [hr0]; exact HA4.out 1, by rw [hr0, hr1]; exact HA4.out 2⟩
          rw [← hr0, ← hr1, ← hr2] at HM3
          rw [HI2.out] at hr0 hr1 hr2
          have hn1 : r0 < n ∧ r1 < n ∧ r2 < n := by rw [hr0, hr1, hr2]; exact ⟨Nat.mod_lt _ hS0, Nat.mod_lt _ hS0, Nat.mod_lt _ hS0⟩
          obtain ⟨n0, n1, n2⟩ := hn1
          obtain ⟨a, ha⟩ : ∃ a, a = 1 + i / n := ⟨_, rfl⟩
          obtain ⟨b, hb⟩ : ∃ b, b = i % n := ⟨_, rfl⟩
          rw [← ha, ← hb] at hr0 hr1 hr2
          have ha101 : a ≤ 101 := by have : i / n ≤ i := Nat.div_le_self _ _; omega
          have hbn : b < n := by rw [hb]; exact Nat.mod_lt _ hS0
          have hSb : ((n : Int) == 0) = false := beq_eq_false_iff_ne.2 hS0i
          have EA : wrap64 (1 + wrap64 ((i : Int) / (n : Int))) = ((a : Nat) : Int) := by
            have hd : i / n ≤ i := Nat.div_le_self _ _
            have hi100 : i ≤ 100 := by omega
            rw [ha, ← Int.natCast_ediv]
            generalize i / n = y at hd ⊢
            rw [IntWalk.wrap64_in (y : Int) (by omega), IntWalk.wrap64_in _ (by omega)]; omega
          have EB : (i : Int) % (n : Int) = (b : Int) := by rw [hb, Int.natCast_emod]
          have hr0b : r0 = b := by rw [hr0, Nat.zero_mul, Nat.add_zero, Nat.mod_eq_of_lt hbn]
          have E1 : ((b : Int) + (a : Int)) % (n : Int) = (r1 : Int) := by rw [hr1, Nat.one_mul, Int.natCast_emod, Int.natCast_add]
          have E2 : ((b : Int) + 2 * (a : Int)) % (n : Int) = (r2 : Int) := by rw [hr2, Int.natCast_emod, Int.natCast_add, Int.natCast_mul]; rfl
          have HRB := Lib.hid hr0b
          have HEA := Lib.hid EA
          have HEB := Lib.hid EB
          have HE1 := Lib.hid E1
          have HE2 := Lib.hid E2
          clear hr0 hr1 hr2 hb ha HI2 HA4 E1 E2 EA EB hr0b
          go_upto_region 14 with fail
          rw [HEA.out, HEB.out]
          have i0' : (0 : Int) ≤ (i : Int) := by omega
          obtain ⟨q, c', x, hx, p1, p2, p3, hxx, hF⟩ := hX.out.flip HA5.out.1 n0 hiL hL100
          have HF := Lib.hid hF
          have hrb0 : b < n := hbn
          rw [HRB.out] at p1 HF HA5 HM3
          clear hF hX d0 d1 d2 d3 d4 d5 d6 d7 d8 d9 HRB n0
          go_upto_region 15 with fail
          generalize wr.setCell ⟨q, i, none⟩ (.int .u8 ((x ^^^ 1 : Nat) : Int)) = w5 at HF ⊢
          clear p1 p2 p3 hxx hx
          obtain ⟨d0, d1, d2, d3, d4, d5, d6, d7, d8, d9⟩ := HF.out.cells HCS.out
          obtain ⟨q, c', x, hx, p1, p2, p3, hxx, hG⟩ := HF.out.flip HA5.out.2.1 n1 hiL hL100
          have HG := Lib.hid hG
          have E1 := HE1.out
          clear hG HF d0 d1 d3 d4 d5 d6 d7 d8 d9
          go_upto_region 16 with fail
          generalize w5.setCell ⟨q, i, none⟩ (.int .u8 ((x ^^^ 1 : Nat) : Int)) = w6 at HG ⊢
          clear p1 p2 p3 hxx hx d2 E1
          obtain ⟨d0, d1, d2, d3, d4, d5, d6, d7, d8, d9⟩ := HG.out.cells HCS.out
          obtain ⟨q, c', x, hx, p1, p2, p3, hxx, hH⟩ := HG.out.flip HA5.out.2.2 n2 hiL hL100
          rw [← HM3.out] at hH
          have HH := Lib.hid hH
          have E2 := HE2.out
          clear hH HG d0 d1 d3 d4 d5 d6 d7 d8 d9
          go_wp2
          go_roundw
          case rel => exact ⟨i + 1, by omega, by go_num, HH⟩
          case measure => simp [intOf] <;> omega
          -- ]]
        · obtain rfl : i = Bn := by omega
          rw [← HR2.out] at hX
          clear hi hlt d0 d1 d3 d4 d5 d6 d7 d9
          go_wp2_with fail
          go_loopw [11] (fun vi wr => ∃ (r : Nat), r ≤ n ∧ vi = .int .i64 (r : Nat) ∧ Hid (FxS w wr cs gc g n c hs (rlt2 k r))) (fun vi _ => (n - intOf vi).toNat)
          case atStart => exact ⟨0, Nat.zero_le _, rfl, hX⟩
          case round =>
            clear hX d2 d8
            obtain ⟨r, hr, rfl, hX⟩ := hrel
            obtain ⟨d0, d1, d2, d3, d4, d5, d6, d7, d8, d9⟩ := hX.out.cells HCS.out
            by_cases hlt : r < n
            ·
              -- [[
              have HM3 := Lib.hid (HR3.out r)
              have hP0i : (P : Int) ≠ 0 := by omega
              have hPb : ((P : Int) == 0) = false := beq_eq_false_iff_ne.2 hP0i
              have hPf : (P = 0) = False := eq_false (by omega)
              obtain ⟨m0, hm0⟩ : ∃ m, m = i + r := ⟨_, rfl⟩
              obtain ⟨m1, hm1⟩ : ∃ m, m = W + r % P := ⟨_, rfl⟩
              obtain ⟨m2, hm2⟩ : ∃ m, m = W + (r + 1) % P := ⟨_, rfl⟩
              have hz1 : r % P < P := Nat.mod_lt _ hP0
              have hz2 : (r + 1) % P < P := Nat.mod_lt _ hP0
              have hl0 : m0 < L := by have := HBW.out; have := HWP.out; omega
              have hl1 : m1 < L := by have := HWP.out; omega
              have hl2 : m2 < L := by have := HWP.out; omega
              have HA6 : Hid (AllL L (rlt2 k r) ∧ AllL L (flpAt (rlt2 k r) r m0) ∧ AllL L (flpAt (flpAt (rlt2 k r) r m0) r m1)) := Lib.hid ⟨HA2.out r, (HA2.out r).flp _ _, ((HA2.out r).flp _ _).flp _ _⟩
              have E0 := Lib.hid (show IntKind.i64.wrap ((i : Int) + (r : Int)) = ((m0 : Nat) : Int) by rw [IntKind.wrap_i64]; omega)
              have E1 := Lib.hid (show IntKind.i64.wrap ((W : Int) + ((r : Int)).tmod (P : Int)) = ((m1 : Nat) : Int) by rw [rem_nat (by omega), IntKind.wrap_i64]; omega)
              have E2 := Lib.hid (show IntKind.i64.wrap ((W : Int) + (IntKind.i64.wrap ((r : Int) + 1)).tmod (P : Int)) = ((m2 : Nat) : Int) by
                rw [show IntKind.i64.wrap ((r : Int) + 1) = ((r + 1 : Nat) : Int) by rw [IntKind.wrap_i64]; omega, rem_nat (by omega), IntKind.wrap_i64]; omega)
              rw [← hm0, ← hm1, ← hm2] at HM3
              have r0i : (0 : Int) ≤ (r : Int) := by omega
              have r1i : (r : Int) < (n : Int) := by omega
              have m0i : (0 : Int) ≤ (m0 : Int) := by omega
              have m0j : (m0 : Int) < (L : Int) := by omega
              have m1i : (0 : Int) ≤ (m1 : Int) := by omega
              have m1j : (m1 : Int) < (L : Int) := by omega
              have m2i : (0 : Int) ≤ (m2 : Int) := by omega
              have m2j : (m2 : Int) < (L : Int) := by omega
              clear hm0 hm1 hm2 hz1 hz2
              obtain ⟨q, c', x, hx, p1, p2, p3, hxx, hF⟩ := hX.out.flip HA6.out.1 hlt hl0 hL100
              have HF := Lib.hid hF
              have E := E0.out
              clear hF hX d0 d1 d3 d4 d5 d6 d7 d9
              go_wp2_with fail
              clear d2
              go_cut [] (fun wx => FxS w wx cs gc g n c hs (flpAt (rlt2 k r) r m0))
              case first =>
                go_region_law (fail)
                all_goals
                  go_wp2_with fail
                  go_meet
                  exact HF.out.step (Below.drew (Below.refl _ _))
              case rest =>
                clear HF p1 p2 p3 hxx hx E d8
                have hX := Lib.hid hcut
                clear hcut
                obtain ⟨d0, d1, d2, d3, d4, d5, d6, d7, d8, d9⟩ := hX.out.cells HCS.out
                obtain ⟨q, c', x, hx, p1, p2, p3, hxx, hF⟩ := hX.out.flip HA6.out.2.1 hlt hl1 hL100
                have HF := Lib.hid hF
                have E := E1.out
                clear hF hX d0 d1 d2 d3 d4 d7 d8 d9
                go_wp2_with fail
                go_cut [] (fun wx => FxS w wx cs gc g n c hs (flpAt (flpAt (rlt2 k r) r m0) r m1))
                case first =>
                  go_region_law (fail)
                  all_goals
                    go_wp2_with fail
                    go_meet
                    exact HF.out.step (Below.drew (Below.refl _ _))
                case rest =>
                  clear HF p1 p2 p3 hxx hx E d5 d6
                  have hX := Lib.hid hcut
                  clear hcut
                  obtain ⟨d0, d1, d2, d3, d4, d5, d6, d7, d8, d9⟩ := hX.out.cells HCS.out
                  obtain ⟨q, c', x, hx, p1, p2, p3, hxx, hF⟩ := hX.out.flip HA6.out.2.2 hlt hl2 hL100
                  rw [← HM3.out] at hF
                  have HF := Lib.hid hF
                  have E := E2.out
                  clear hF hX d0 d1 d2 d3 d4 d7 d8 d9
                  go_wp2_with fail
                  go_region_law (fail)
                  all_goals
                    have hX := Lib.hid (HF.out.step (Below.drew (Below.refl _ _)))
                    clear HF p1 p2 p3 hxx hx E d5 d6
                    go_wp2
                    go_roundw
                    case rel => exact ⟨r + 1, by omega, by go_num, hX⟩
                    case measure => simp [intOf] <;> omega
              -- ]]
            · obtain rfl : r = n := by omega
              rw [HR4.out] at hX
              clear hr hlt d0 d1 d4 d5 d6 d7 d8 d9
              have HLS : Hid (i + r = W) := HBW
              have hX0 : Hid (FxS w wr cs gc g (r + 0) c hs (lightP k ++ (List.range 0).map (hv0 k))) := by simpa using hX
              clear hX
              go_wp2_with fail
              go_loopw [6, 12] (fun vo vh wr => ∃ (h g c : Nat) (hs : List HdT), h ≤ 4 ∧ vh = .int .i64 (h : Nat) ∧ vo = .slice (some ⟨g, 0, none⟩) (r + h) c ∧ Hid (FxS w wr cs gc g (r + h) c hs (lightP k ++ (List.range h).map (hv0 k)))) (fun _ vh _ => (4 - intOf vh).toNat)
              case atStart => exact ⟨0, g, c, hs, Nat.zero_le _, rfl, rfl, hX0⟩
              case round =>
                clear hX0 d2 d3
                obtain ⟨h, g, c, hs, hh4, rfl, rfl, hX⟩ := hrel
                obtain ⟨d0, d1, d2, d3, d4, d5, d6, d7, d8, d9⟩ := hX.out.cells HCS.out
                by_cases hlt : h < 4
                ·
                  -- [[
                  have hsz := hX.out.below.size
                  have hOL := Lib.hid hX.out.own.older
                  go_wp2_with (first | (at_make; refine Hid.out ?_))
                  refine Lib.hid ?_
                  refine wpList_make_full _ rfl _ _ 22 rfl wr.heap.size 5 j0 (.int .u8 0) 1 Tryd.underlying22 hj0 hy0 hy1 _ _ _ _ L rfl rfl rfl rfl (by rw [hy2]; omega) (by unfold maxLen; omega) (Nat.le_refl _) ?_
                  intro w3 hown3 hgrow3
                  rw [show (Value.int .u8 0).cells = #[.int .u8 0] from rfl, Nat.mul_one, toList_madeCells_one, ← bv_zs, ← HH2.out h] at hown3
                  have b3 : Below wr.heap.size wr w3 := ⟨hgrow3.os, hgrow3.tape, hgrow3.output, hgrow3.size, fun i hi => hgrow3.block i hi (by simp)⟩
                  have HX3 := Lib.hid (hX.out.step b3)
                  obtain ⟨q, hq⟩ : ∃ q, q = wr.heap.size := ⟨_, rfl⟩
                  rw [← hq] at hown3 hOL hsz ⊢
                  have HO3 := Lib.hid (ownsRow_base hown3 hsz)
                  have HQ := Lib.hid hsz
                  clear hown3 hgrow3 b3 hX d0 d1 d2 d3 d4 d5 d6 d7 d8 d9 hq hsz
                  go_wp2_with fail
                  go_loopw [14] (fun vj wj => ∃ j : Nat, j ≤ Kp + r ∧ vj = .int .i64 (j : Nat) ∧ Hid (wj.ownsRow w.heap.size 5 1 (.slice (some ⟨q, 0, none⟩) L L) L ((hvR k h j).map bv)) ∧ Hid (FxS w wj cs gc g (r + h) c hs (lightP k ++ (List.range h).map (hv0 k)))) (fun vj _ => ((Kp + r : Nat) - intOf vj).toNat)
                  case atStart => exact ⟨0, Nat.zero_le _, rfl, HO3, HX3⟩
                  case round =>
                    clear HO3 HX3
                    obtain ⟨j, hj, rfl, hO, hX⟩ := hrel
                    obtain ⟨d0, d1, d2, d3, d4, d5, d6, d7, d8, d9⟩ := hX.out.cells HCS.out
                    by_cases hlt2 : j < Kp + r
                    · have hjL : j < L := by have := HLK.out; omega
                      obtain ⟨y, hy⟩ : ∃ y, y = (h + 1) * (j + 1) := ⟨_, rfl⟩
                      have hy500 : y ≤ 4 * 100 := by rw [hy]; exact Nat.mul_le_mul (by omega) (by omega)
                      have hyy : ((h : Int) + 1) * ((j : Int) + 1) = (y : Int) := by rw [hy]; simp
                      have HYY := Lib.hid (show wrap64 (((h : Int) + 1) * ((j : Int) + 1)) = (y : Int) by rw [hyy, IntWalk.wrap64_in _ (by omega)])
                      have KE := fun W => refExp_any (y : Int) W
                      have hE : (((y : Int)) % 255).toNat = y % 255 := by omega
                      simp only [hE] at KE
                      obtain ⟨z, hz⟩ : ∃ z, z = pw (y % 255) := ⟨_, rfl⟩
                      simp only [← hz] at KE
                      have hc0 := own_cell hO.out (p := j) hjL
                      have hf0 := hO.out.frozenAt j
                      have hO2 := own_set' hO.out j (.int .u8 ((z : Nat) : Int))
                      rw [show ((hvR k h j).map bv).set j (.int .u8 ((z : Nat) : Int)) = ((hvR k h j).set j z).map bv by rw [List.map_set]; rfl, hz, hy, HH1.out h j hjL, ← hy, ← hz] at hO2
                      have HO2 := Lib.hid hO2
                      have HX2 := Lib.hid (hX.out.other hOL.out (Nat.le_refl _) hO.out (grown_set4 wr q j (.int .u8 ((z : Nat) : Int))))
                      clear hyy hE hy hz hO2 hO hX d0 d3 d4 d5 d6 d7 d8 d9
                      go_wp2_with fail
                      rw [HYY.out]
                      (with_reducible refine (KE _).mono ?_)
                      rintro e w7 ⟨rfl, rfl⟩
                      clear KE
                      go_wp2
                      go_roundw
                      case rel => exact ⟨j + 1, by omega, by go_num, HO2, HX2⟩
                      case measure => simp [intOf] <;> omega
                    · obtain rfl : j = Kp + r := by omega
                      have hpL : Kp + r + h < L := by have := HLK.out; omega
                      have hc0 := own_cell hO.out (p := Kp + r + h) hpL
                      have hf0 := hO.out.frozenAt (Kp + r + h)
                      have hO2 := own_set' hO.out (Kp + r + h) (.int .u8 1)
                      rw [show ((hvR k h (Kp + r)).map bv).set (Kp + r + h) (.int .u8 1) = ((hvR k h (Kp + r)).set (Kp + r + h) 1).map bv by rw [List.map_set]; rfl, HH0.out h] at hO2
                      have HO2 := Lib.hid hO2
                      have HX2 := Lib.hid (hX.out.other hOL.out (Nat.le_refl _) hO.out (grown_set4 wr q (Kp + r + h) (.int .u8 1)))
                      clear hO2 hO hX d0 d3 d4 d5 d6 d7 d8 d9 hj hlt2
                      go_upto_region 32 with fail
                      generalize wr.setCell ⟨q, Kp + r + h, none⟩ (.int .u8 1) = w5 at HO2 HX2 ⊢
                      clear hc0 hf0 d1 d2
                      have hh0 := HH3.out h
                      have hX3 := HX2.out.step (below_alloc w5 (.cells #[.slice (some ⟨q, 0, none⟩) L L] 22))
                      have o3 : (w5.alloc (.cells #[.slice (some ⟨q, 0, none⟩) L L] 22)).ownsRow w.heap.size 5 1 (SV (some ⟨q, 0, none⟩, L, L)) (hv0 k h).length ((hv0 k h).map bv) := by rw [hh0.2]; exact HO2.out.alloc _
                      have hown := hX3.own.1
                      have hbs := hX3.below.size
                      have HX3 := Lib.hid hX3
                      have HO3 := Lib.hid o3
                      have HH0' := Lib.hid hh0
                      have hS60 : r ≤ 60 := by have := HLK.out; omega
                      clear hX3 o3 hh0 HX2 HO2
                      go_wp2_with (first | (at_builtin; refine Hid.out ?_))
                      refine Lib.hid ?_
                      refine wpList_append_lies _ rfl _ _ 35 rfl w.heap.size 22 i0 (.slice none 0 0) 1 24 Tryd.underlying35 hi0 hz0 hz1 hz2 rfl (by decide) _ _ _ rfl hown ⟨w5.heap.size, 0, none⟩ 1 1 [SV (some ⟨q, 0, none⟩, L, L)] rfl rfl (World.news_of_block (heap_alloc_new w5 _)) (by intro u hu; simp at hu; subst hu; rfl) (by decide) (by unfold maxLen; omega) (by omega) hbs _ rfl ?_
                      intro g9 c9 w9 hE9 g9' _ _
                      have hX9 := HX3.out.snoc HO3.out HH0'.out.2.symm ⟨HH0'.out.1, by rw [HH0'.out.2]; omega⟩ hOL.out (Nat.le_refl _) hE9 g9'
                      rw [List.append_assoc, range_snoc] at hX9
                      have HX9 := Lib.hid hX9
                      clear hE9 g9' hX9 hown hbs HX3 HO3
                      go_wp2
                      go_roundw
                      case rel => exact ⟨h + 1, g9, c9, _, by omega, by go_num, rfl, HX9⟩
                      case measure => simp [intOf] <;> omega
                  -- ]]
                · obtain rfl : h = 4 := by omega
                  rw [HF0.out] at hX
                  have hX1 : Hid (FxS w wr cs gc g (r + 4 + (k - k)) c hs (fixedTo k (k - k))) := by rw [Nat.sub_self]; exact hX
                  clear hX hh4 hlt d0 d1 d2 d4 d5 d6 d7 d8 d9
                  rw [show ((4 : Nat) : Int) = 4 from rfl]
                  go_wp2_with fail
                  go_loopw [6, 15] (fun vo vx wr => ∃ (x g c : Nat) (hs : List HdT), k ≤ x ∧ x ≤ Kp ∧ vx = .int .i64 (x : Nat) ∧ vo = .slice (some ⟨g, 0, none⟩) (r + 4 + (x - k)) c ∧ Hid (FxS w wr cs gc g (r + 4 + (x - k)) c hs (fixedTo k (x - k)))) (fun _ vx _ => (Kp - intOf vx).toNat)
                  case atStart => exact ⟨k, g, c, hs, Nat.le_refl _, f4, rfl, by rw [Nat.sub_self], hX1⟩
                  case round =>
                    clear hX1 d3
                    obtain ⟨x, g, c, hs, hx1, hx2, rfl, rfl, hX⟩ := hrel
                    obtain ⟨d0, d1, d2, d3, d4, d5, d6, d7, d8, d9⟩ := hX.out.cells HCS.out
                    by_cases hlt : x < Kp
                    · have hsz := hX.out.below.size
                      have hOL := Lib.hid hX.out.own.older
                      have KL := HPL.out x (by omega) wr
                      go_wp2_with fail
                      (with_reducible refine KL.mono ?_)
                      rintro e w7 ⟨a8, c8, rfl, o8, b7⟩
                      rw [(HPB.out x).2] at o8 ⊢
                      obtain ⟨q, rfl⟩ := own_some o8 hL0
                      have hq := (o8.lt q rfl).1
                      have hX3 := (hX.out.step b7).step (below_alloc w7 (.cells #[.slice (some ⟨q, 0, none⟩) L c8] 22))
                      have o3 : (w7.alloc (.cells #[.slice (some ⟨q, 0, none⟩) L c8] 22)).ownsRow w.heap.size 5 1 (SV (some ⟨q, 0, none⟩, L, c8)) (placeR k x).length ((placeR k x).map bv) := by rw [(HPB.out x).2]; exact (ownsRow_base o8 hsz).alloc _
                      have hown := hX3.own.1
                      have hbs := hX3.below.size
                      have HX3 := Lib.hid hX3
                      have HO3 := Lib.hid o3
                      have hS60 : r ≤ 60 := by have := HLK.out; omega
                      have HPX := Lib.hid (HPB.out x)
                      clear KL hX3 o3 o8 b7 hX d0 d1 d2 d3 d4 d5 d6 d7 d8 d9
                      go_wp2_with (first | (at_builtin; refine Hid.out ?_))
                      refine Lib.hid ?_
                      refine wpList_append_lies _ rfl _ _ 35 rfl w.heap.size 22 i0 (.slice none 0 0) 1 24 Tryd.underlying35 hi0 hz0 hz1 hz2 rfl (by decide) _ _ _ rfl hown ⟨w7.heap.size, 0, none⟩ 1 1 [SV (some ⟨q, 0, none⟩, L, c8)] rfl rfl (World.news_of_block (heap_alloc_new w7 _)) (by intro u hu; simp at hu; subst hu; rfl) (by decide) (by unfold maxLen; omega) (by omega) hbs _ rfl ?_
                      intro g9 c9 w9 hE9 g9' _ _
                      have hX9 := HX3.out.snoc HO3.out HPX.out.2.symm ⟨HPX.out.1, by rw [HPX.out.2]; omega⟩ hOL.out hq hE9 g9'
                      have hnn : r + 4 + (x - k) + 1 = r + 4 + (x + 1 - k) := by omega
                      rw [fixedTo_next hx1, hnn] at hX9
                      rw [hnn]
                      have HX9 := Lib.hid hX9
                      clear hE9 g9' hX9 hown hbs HX3 HO3 hnn
                      go_wp2
                      go_roundw
                      case rel => exact ⟨x + 1, g9, c9, _, by omega, by omega, by go_num, rfl, HX9⟩
                      case measure => simp [intOf] <;> omega
                    · obtain rfl : x = Kp := by omega
                      have hnn : r + 4 + (x - k) = L - k := by have := HLK.out; omega
                      rw [hnn] at hX ⊢
                      rw [HFA.out] at hX
                      clear hnn hx1 hx2
                      go_wp2
                      go_ret2
                      exact ⟨g, c, rfl, hX.out.own.hd, hX.out.below⟩
end Go.Proofs.YtfjcbgfgiidogaaDoor
