/-
  rilllaw05: ChunkCounts.
-/
import Derived.Test.YtfjcbgfgiidogaaDoorMCh4
namespace Go.Proofs.YtfjcbgfgiidogaaDoor
open Go.RowKit

theorem sizeC_bad {s t : Int} (h : ¬ sizeC s t = 0) : (s < 1 ∧ sizeC s t = 50) ∨ (1024 < s ∧ sizeC s t = 50) ∨ (1 ≤ s ∧ s ≤ 1024 ∧ t < 1 ∧ sizeC s t = 30) ∨ (1 ≤ s ∧ s ≤ 1024 ∧ 64 < t ∧ sizeC s t = 30) := by
  by_cases h1 : okS s = true
  · have h2 := okS_iff.1 h1
    by_cases h3 : okT t = true
    · exact absurd (sizeC_zero.2 ⟨h1, h3⟩) h
    · have hc : sizeC s t = 30 := by unfold sizeC; rw [if_pos h1, if_neg h3]
      rcases okT_bad h3 with h4 | h4
      · exact .inr (.inr (.inl ⟨h2.1, h2.2, h4, hc⟩))
      · exact .inr (.inr (.inr ⟨h2.1, h2.2, h4, hc⟩))
  · have hc : sizeC s t = 50 := by unfold sizeC; rw [if_neg h1]
    rcases Classical.em (s < 1) with h4 | h4
    · exact .inl ⟨h4, hc⟩
    · rcases Classical.em (1024 < s) with h5 | h5
      · exact .inr (.inl ⟨h5, hc⟩)
      · exact absurd (okS_iff.2 ⟨by omega, by omega⟩) h1
set_option maxRecDepth 100000 in
set_option maxHeartbeats 8000000 in
theorem chunkCounts_walk (s t : Int) (w : World) (hg : Bnd w) (_w0 : (Lit.int .i64 s).wf = true) (_w1 : (Lit.int .i64 t).wf = true) :
    Calls Tryd.prog 7 #[.int .i64 s, .int .i64 t] w fun e w' => e = .returned (.bool true) ∧ Below w.heap.size w w' := by
  have KA := alive5_any w hg
  have KP := fun w => parts_any s t w
  unfold partsR at KP
  clear hg _w0 _w1
  by_cases hc : sizeC s t = 0
  rotate_left 1
  · rw [if_neg hc] at KP
    rcases sizeC_bad hc with ⟨h1, h9⟩ | ⟨h1, h9⟩ | ⟨h1, h2, h3, h9⟩ | ⟨h1, h2, h3, h9⟩
    · rw [h9] at KP
      clear hc h9
      go_enter Tryd.func7, Tryd.ntmps7
      go_wp2_with fail
      (with_reducible refine KA.mono ?_)
      rintro e w1 ⟨rfl, b1⟩
      go_wp2_with fail
      (with_reducible refine (KP _).mono ?_)
      rintro e w2 ⟨a2, c2, rfl, -, b2⟩
      have hb := b1.trans (b2.mono b1.size)
      clear KA KP b1 b2
      go_wp2
      go_ret
      exact ⟨rfl, hb⟩
    · rw [h9] at KP
      have h0 : ¬ s < 1 := by omega
      clear hc h9
      go_enter Tryd.func7, Tryd.ntmps7
      go_wp2_with fail
      (with_reducible refine KA.mono ?_)
      rintro e w1 ⟨rfl, b1⟩
      go_wp2_with fail
      (with_reducible refine (KP _).mono ?_)
      rintro e w2 ⟨a2, c2, rfl, -, b2⟩
      have hb := b1.trans (b2.mono b1.size)
      clear KA KP b1 b2
      go_wp2
      go_ret
      exact ⟨rfl, hb⟩
    · rw [h9] at KP
      clear hc h9
      go_enter Tryd.func7, Tryd.ntmps7
      go_wp2_with fail
      (with_reducible refine KA.mono ?_)
      rintro e w1 ⟨rfl, b1⟩
      go_wp2_with fail
      (with_reducible refine (KP _).mono ?_)
      rintro e w2 ⟨a2, c2, rfl, -, b2⟩
      have hb := b1.trans (b2.mono b1.size)
      clear KA KP b1 b2
      go_wp2
      go_ret
      exact ⟨rfl, hb⟩
    · rw [h9] at KP
      have h0 : ¬ t < 1 := by omega
      clear hc h9
      go_enter Tryd.func7, Tryd.ntmps7
      go_wp2_with fail
      (with_reducible refine KA.mono ?_)
      rintro e w1 ⟨rfl, b1⟩
      go_wp2_with fail
      (with_reducible refine (KP _).mono ?_)
      rintro e w2 ⟨a2, c2, rfl, -, b2⟩
      have hb := b1.trans (b2.mono b1.size)
      clear KA KP b1 b2
      go_wp2
      go_ret
      exact ⟨rfl, hb⟩
  rw [if_pos hc] at KP
  obtain ⟨g1, g2⟩ := sizeC_zero.1 hc
  obtain ⟨s1, s2⟩ := okS_iff.1 g1
  obtain ⟨t1, t2⟩ := okT_iff.1 g2
  clear hc g1 g2
  obtain ⟨S, rfl⟩ : ∃ S : Nat, s = (S : Nat) := ⟨s.toNat, by omega⟩
  obtain ⟨T, rfl⟩ : ∃ T : Nat, t = (T : Nat) := ⟨t.toNat, by omega⟩
  rw [Int.toNat_natCast, Int.toNat_natCast] at KP
  obtain ⟨n1, n2, n3, n4⟩ := chN_facts (size := S) (t := T) (by omega) (by omega) (by omega)
  obtain ⟨n, hn⟩ : ∃ n, n = chN S T := ⟨_, rfl⟩
  rw [← hn] at n1 n2 n3 n4 KP
  clear hn
  obtain ⟨z1, z2, z4, z5, z3⟩ := chZ_facts n1 n2
  unfold GivesN at KP
  simp only at KP
  rw [partsL_length] at KP
  have HPL := Lib.hid (fun i (h : i < chZ n) => (show (partsL n)[i]? = some (chK n i) by unfold partsL; rw [List.getElem?_map, List.getElem?_range h]; rfl))
  have HKF := Lib.hid (fun i (h : i < chZ n) => chK_facts n1 n2 h)
  have HSE := Lib.hid (chS_end (n := n))
  have HSS := Lib.hid (fun i (h : i < chZ n) => (show chS n (i + 1) = chS n i + chK n i ∧ chS n (i + 1) ≤ n from ⟨chS_succ n i, by have := chS_mono n (show i + 1 ≤ chZ n from h); rw [chS_end] at this; exact this⟩))
  have HS0 := Lib.hid (chS_zero n)
  obtain ⟨z, hz⟩ : ∃ z, z = chZ n := ⟨_, rfl⟩
  rw [← hz] at z1 z2 z3 z4 z5 KP HPL HKF HSE HSS
  clear hz
  obtain ⟨PL, hPL⟩ : ∃ P, P = partsL n := ⟨_, rfl⟩
  rw [← hPL] at KP HPL
  clear hPL
  go_enter Tryd.func7, Tryd.ntmps7
  go_wp2_with fail
  (with_reducible refine KA.mono ?_)
  rintro e w1 ⟨rfl, b1⟩
  go_wp2_with fail
  (with_reducible refine (KP _).mono ?_)
  rintro e w2 ⟨a2, c2, rfl, o2, b2⟩
  have hb := b1.trans (b2.mono b1.size)
  obtain ⟨q, rfl⟩ := own_some o2 (by omega)
  have HC : Hid (∀ i, i < z → w2.cell? ⟨q, i, none⟩ = some (.int .i64 ((chK n i : Nat) : Int))) := Lib.hid (fun i hi => by
    have := o2.cellAt i (by omega)
    rw [List.getElem?_map, HPL.out i hi] at this
    exact this)
  have HB := Lib.hid hb
  clear KA KP b1 b2 o2 hb
  go_wp2_with fail
  go_loopw [7, 8] (fun vn vi wr => ∃ (i c : Nat), i ≤ z ∧ vi = .int .i64 (i : Nat) ∧ vn = .int .i64 (c : Nat) ∧ Hid (c = chS n i) ∧ c ≤ n ∧ Hid (Below w2.heap.size w2 wr)) (fun _ vi _ => (z - intOf vi).toNat)
  case atStart => exact ⟨0, 0, Nat.zero_le _, rfl, rfl, Lib.hid HS0.out.symm, Nat.zero_le _, Lib.hid (Below.refl _ _)⟩
  case round =>
    obtain ⟨i, c, hi, rfl, rfl, HCS, hcn, HBR⟩ := hrel
    by_cases hlt : i < z
    · have c1 := cell_below (HC.out i hlt) HBR.out
      have c0 := cell_below (HC.out 0 (by omega)) HBR.out
      obtain ⟨k1, k2, k3, k4⟩ := HKF.out i hlt
      obtain ⟨e1, e2⟩ := HSS.out i hlt
      rw [← HCS.out] at e1
      obtain ⟨k, hk⟩ : ∃ k, k = chK n i := ⟨_, rfl⟩
      obtain ⟨k0, hk0⟩ : ∃ k, k = chK n 0 := ⟨_, rfl⟩
      rw [← hk] at c1 k1 k2 k3 k4 e1
      rw [← hk0] at c0 k3 k4
      have HE1 := Lib.hid e1
      have f0 : ((k : Int) < 1) = False := eq_false (by omega)
      have f1 : ((32 : Int) < (k : Int)) = False := eq_false (by omega)
      have f2 : ((k0 : Int) < (k : Int)) = False := eq_false (by omega)
      have f3 : ((k : Int) < (k0 : Int) - 1) = False := eq_false (by omega)
      have f4 : wrap64 ((k0 : Int) - 1) = (k0 : Int) - 1 := IntWalk.wrap64_in _ (by omega)
      have f5 : wrap64 ((c : Int) + (k : Int)) = ((c + k : Nat) : Int) := by rw [IntWalk.wrap64_in _ (by omega)]; omega
      obtain ⟨d, hd⟩ : ∃ d, d = c + k := ⟨_, rfl⟩
      rw [← hd] at f5 HE1
      have hdn : d ≤ n := by rw [← HE1.out]; exact e2
      have HDD := Lib.hid hd
      clear hd
      clear hk hk0 e1
      go_wp2
      go_quiet (fail)
      go_wp2
      go_roundw
      case rel => exact ⟨i + 1, d, by omega, by go_num, congrArg (Value.int IntKind.i64) (by have := HDD.out; omega), Lib.hid HE1.out.symm, hdn, Lib.hid (below_drewNi HBR.out _)⟩
      case measure => simp [intOf]; omega
    · obtain rfl : i = z := by omega
      obtain rfl : c = n := by rw [HCS.out, HSE.out]
      have m1 : wrap64 ((c : Int) * (T : Int)) = ((c * T : Nat) : Int) := by
        have h2 : c * T ≤ 1024 * 64 := Nat.mul_le_mul (by omega) (by omega)
        rw [← Int.natCast_mul]
        generalize c * T = M at h2 ⊢
        exact IntWalk.wrap64_in _ (by omega)
      have m2 : wrap64 (((c : Int) - 1) * (T : Int)) = (((c - 1) * T : Nat) : Int) := by
        obtain ⟨c', rfl⟩ : ∃ c', c = c' + 1 := ⟨c - 1, by omega⟩
        have h2 : c' * T ≤ 1024 * 64 := Nat.mul_le_mul (by omega) (by omega)
        rw [show (((c' + 1 : Nat) : Int) - 1) = (c' : Int) by omega, Nat.add_sub_cancel, ← Int.natCast_mul]
        generalize c' * T = M at h2 ⊢
        exact IntWalk.wrap64_in _ (by omega)
      have hm3 : (c - 1) * T + T = c * T := by
        obtain ⟨c', rfl⟩ : ∃ c', c = c' + 1 := ⟨c - 1, by omega⟩
        rw [Nat.add_sub_cancel, Nat.add_mul, Nat.one_mul]
      have p1 : (wrap64 ((c : Int) * (T : Int)) < (S : Int)) = False := eq_false (by rw [m1]; generalize c * T = M at n3 ⊢; omega)
      have p2 : (wrap64 (((c : Int) - 1) * (T : Int)) < (S : Int)) = True := eq_true (by rw [m2]; generalize (c - 1) * T = M at hm3 ⊢; generalize c * T = M2 at hm3 n4; omega)
      have p5 : ((S : Int) ≤ wrap64 ((c : Int) * (T : Int))) = True := eq_true (by rw [m1]; generalize c * T = M at n3 ⊢; omega)
      have p3 : wrap64 (((i : Int) - 1) * 32) = ((i : Int) - 1) * 32 := IntWalk.wrap64_in _ (by omega)
      have p4 : (((i : Int) - 1) * 32 < (c : Int)) = True := eq_true (by omega)
      clear m1 m2 n3 n4 hm3 HC HCS HSE HSS HKF HPL HS0
      go_wp2
      go_ret
      exact ⟨rfl, HB.out.trans (HBR.out.mono HB.out.size)⟩
end Go.Proofs.YtfjcbgfgiidogaaDoor
