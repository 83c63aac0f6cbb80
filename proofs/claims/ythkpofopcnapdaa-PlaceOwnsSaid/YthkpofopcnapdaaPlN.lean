/-
  place: every number has one owner.
-/
import Derived.Test.YthkpofopcnapdaaPlM
namespace Go.Proofs.Ythkpofopcnapdaa
open Go.RowKit

theorem digits {n i A X Y : Int} (hi : 0 ≤ i ∧ i < n) (hA : 0 ≤ A ∧ A < n) (h : i + n * X = A + n * Y) : i = A ∧ X = Y := by
  have h1 : (i + n * X) % n = i := by rw [Int.add_mul_emod_self_left, Int.emod_eq_of_lt hi.1 hi.2]
  have h2 : (A + n * Y) % n = A := by rw [Int.add_mul_emod_self_left, Int.emod_eq_of_lt hA.1 hA.2]
  have h3 : i = A := by rw [← h1, ← h2, h]
  refine ⟨h3, ?_⟩
  subst h3
  have : n * X = n * Y := by omega
  exact Int.eq_of_mul_eq_mul_left (by omega) this

theorem own_split {n q e : Int} (hn : 1 ≤ n) (hq : 1 ≤ q) : e = e % n + n * (q * (e / n / q) + e / n % q) ∧ (0 ≤ e % n ∧ e % n < n) ∧ (0 ≤ e / n % q ∧ e / n % q < q) := by
  refine ⟨?_, ⟨Int.emod_nonneg _ (by omega), Int.emod_lt_of_pos _ (by omega)⟩, ⟨Int.emod_nonneg _ (by omega), Int.emod_lt_of_pos _ (by omega)⟩⟩
  rw [Int.mul_ediv_add_emod, Int.emod_add_mul_ediv]

set_option maxRecDepth 10000 in
set_option maxHeartbeats 4000000 in
theorem owns_bad (n u r c t s k e z : Int) (w : World) (HC : ∀ w, Calls Try.prog 15 #[cfg n u r c t s, .int .i64 k, .int .i64 e] w fun x w' => x = .returned (.tuple #[.int .i64 0, .int .i64 0, .int .i64 z]) ∧ Below w.heap.size w w') (he : z ≠ 0) :
    Calls Try.prog 4 #[cfg n u r c t s, .int .i64 k, .int .i64 e] w fun x w' => x = .returned (.bool true) ∧ Below w.heap.size w w' := by
  have KA := alive_any
  have he' : (z != 0) = true := by rw [bne_iff_ne]; exact he
  unfold cfg at HC ⊢
  go_enter Try.func4, Try.ntmps4
  go_wp2_with (first
    | (go_at_call 7; (with_reducible refine (KA _).mono ?_); rintro e w1 ⟨rfl, hb1⟩; obtain ⟨hold1, hbw1, hold01, hbw01⟩ := after_call _ _ _ hb1; obtain ⟨c0, c1, c2, c3, c4, c5⟩ := cells6 hold01)
    | (go_at_call 15; (with_reducible refine (HC _).mono ?_); rintro e w2 ⟨rfl, hb2⟩))
  go_ret
  exact ⟨rfl, trans_below hbw01 hb2 hbw01.size⟩

set_option maxRecDepth 10000 in
set_option maxHeartbeats 4000000 in
theorem owns_good (n u r c t s k e : Int) (q : Nat) (w : World) (h : Good n u r c t s) (hqd : (q : Int) = shr n u r k) (k0 : 1 ≤ k) (k1 : k ≤ 32) (e0 : 0 ≤ e) (e1 : e ≤ 16777215) :
    Calls Try.prog 4 #[cfg n u r c t s, .int .i64 k, .int .i64 e] w fun x w' => x = .returned (.bool true) ∧ Below w.heap.size w w' := by
  have KA := alive_any
  have H1 := fun w => owner_good n u r c t s k e w h ⟨k0, k1⟩ ⟨e0, e1⟩
  obtain ⟨s4, s5⟩ := shr_range h k0 k1
  obtain ⟨g0, g1, g2, g3, g4, g5, g6, g7, g8, g9, g10, g11, g12⟩ := (show _ ∧ _ from h)
  simp only [← hqd] at H1 s4 s5
  have x0 : 0 ≤ e / n := Int.ediv_nonneg (by omega) (by omega)
  have x1 : e / n ≤ e := Int.ediv_le_self _ (by omega)
  have x2 : 0 ≤ e / n / q := Int.ediv_nonneg (by omega) (by omega)
  have x3 : e / n / q ≤ e / n := Int.ediv_le_self _ (by omega)
  obtain ⟨hsp, ⟨a0, a1⟩, b0, b1⟩ := own_split (e := e) (n := n) (q := q) g0 (by omega)
  obtain ⟨A, hA⟩ : ∃ A, A = e % n := ⟨_, rfl⟩
  obtain ⟨R, hR⟩ : ∃ R, R = e / n / q := ⟨_, rfl⟩
  obtain ⟨B, hB⟩ : ∃ B, B = e / n % q := ⟨_, rfl⟩
  simp only [← hA, ← hR, ← hB] at H1 x2 x3 hsp a0 a1 b0 b1
  have x4 : R ≤ 16777215 := by omega
  clear hA hR hB x0 x1 x3
  have HSP := Lib.hid hsp
  have HQD := Lib.hid hqd
  clear hsp hqd
  have H := Lib.hid h
  clear h
  unfold cfg at H1 ⊢
  go_enter Try.func4, Try.ntmps4
  go_wp2_with (first
    | (go_at_call 7; (with_reducible refine (KA _).mono ?_); rintro e w1 ⟨rfl, hb1⟩; obtain ⟨hold1, hbw1, hold01, hbw01⟩ := after_call _ _ _ hb1; obtain ⟨c0, c1, c2, c3, c4, c5⟩ := cells6 hold01)
    | (go_at_call 15; (with_reducible refine (H1 _).mono ?_); rintro e w2 ⟨rfl, hb2⟩; have hold02 := beyond _ _ hold01 hb2; have hbw02 := trans_below hbw01 hb2 hbw01.size; obtain ⟨d0, d1, d2, d3, d4, d5⟩ := cells6 hold02))
  have hlt2 : w.heap.size < w2.heap.size := (Array.getElem?_eq_some_iff.1 hold02).1
  clear hb1 hold1 hbw1 hold01 c0 c1 c2 c3 c4 c5 hb2 KA H1
  go_loopw [10, 11] (fun f i wr => ∃ a : Nat, (a : Int) ≤ n ∧ i = .int .i64 a ∧ (∃ F, f = .int .i64 F ∧ Hid (F = if A < (a : Int) then 1 else 0)) ∧ Below w2.heap.size w2 wr) (fun _ i _ => n.toNat - (intOf i).toNat)
  case atStart => exact ⟨0, by omega, rfl, ⟨0, rfl, Lib.hid (by rw [if_neg (by omega)])⟩, Below.refl _ _⟩
  case round =>
    obtain ⟨a, ha, rfl, ⟨F, rfl, hF⟩, hbr⟩ := hrel
    have holdr := beyond _ _ hold02 hbr
    obtain ⟨c0, c1, c2, c3, c4, c5⟩ := cells6 holdr
    clear d0 d1 d2 d3 d4 d5
    by_cases hlt : (a : Int) < n
    · by_cases hr : R ≤ 100000
      · by_cases hf : (a : Int) + n * (shr n u r k * (R + 1) - 1) < 16777216
        · have HE := fun w => esis_good n u r c t s a k R q w H.out HQD.out ⟨k0, k1⟩ ⟨by omega, hlt⟩ ⟨x2, hr⟩ hf
          clear hf
          unfold cfg at HE
          go_wp2_with (first
            | (go_at_call 12; (with_reducible refine (HE _).mono ?_); rintro x w3 ⟨g, rfl, hg, ⟨cur, hg1, hg2, hg3⟩, hb3⟩))
          have hb03 := hbr.trans (hb3.mono hbr.size)
          clear c0 c1 c2 c3 c4 c5 holdr hold02 HE
          have HG1 := Lib.hid hg1
          have HG3 := Lib.hid hg3
          clear hg1 hg3
          go_loop [10, 14] (fun f i => ∃ b : Nat, b ≤ q ∧ i = .int .i64 b ∧ (∃ F2, f = .int .i64 F2 ∧ Hid (F2 = F + if (a : Int) = A ∧ B < (b : Int) then 1 else 0))) (fun _ i => q - (intOf i).toNat)
          · exact ⟨0, by omega, rfl, ⟨F, rfl, Lib.hid (by rw [if_neg (by omega)]; omega)⟩⟩
          · obtain ⟨b, hb, rfl, F2, rfl, hF2⟩ := hrel
            by_cases hbq : b < q
            · obtain ⟨v, hv⟩ : ∃ v, v = (a : Int) + n * ((q : Int) * R + (b : Int)) := ⟨_, rfl⟩
              have cv : w3.cell? ⟨g, b, none⟩ = some (.int .i64 v) := by rw [cell_of_row _ _ _ _ _ _ HG1.out, HG3.out b hbq, hv]
              have HV := Lib.hid hv
              clear hv
              by_cases hve : v = e
              · have hd := digits ⟨by omega, hlt⟩ ⟨a0, a1⟩ (HV.out.symm.trans (hve.trans HSP.out))
                have hA : (a : Int) = A := hd.1
                have hB : (b : Int) = B := by have := hd.2; omega
                have z0 : F = 0 := by rw [hF.out, if_neg (by omega)]
                have z1 : F2 = 0 := by rw [hF2.out, if_neg (by omega)]; omega
                have z2 : (1 : Int) = F + if (a : Int) = A ∧ B < ((b + 1 : Nat) : Int) then 1 else 0 := by rw [if_pos (by omega)]; omega
                clear hd hF hF2
                subst hve z0 z1
                have Z2 := Lib.hid z2
                clear z2 hB
                go_wp2
                go_round
                case rel => exact ⟨b + 1, by omega, by go_num, ⟨1, rfl, Z2⟩⟩
                case measure => simp [intOf]; omega
              · have z2 : F2 = F + if (a : Int) = A ∧ B < ((b + 1 : Nat) : Int) then 1 else 0 := by
                  rw [hF2.out]
                  by_cases hab : (a : Int) = A ∧ B = (b : Int)
                  · exfalso
                    apply hve
                    rw [HV.out, HSP.out, hab.1, hab.2]
                  · by_cases h9 : (a : Int) = A ∧ B < (b : Int)
                    · rw [if_pos h9, if_pos (by omega)]
                    · rw [if_neg h9, if_neg (by omega)]
                have Z2 := Lib.hid z2
                clear z2
                have hve' : (v == e) = false := by simpa using hve
                go_wp2
                go_round
                case rel => exact ⟨b + 1, by omega, by go_num, ⟨F2, rfl, Z2⟩⟩
                case measure => simp [intOf]; omega
            · obtain rfl : b = q := by omega
              have z2 : F2 = if A < ((a + 1 : Nat) : Int) then 1 else 0 := by
                rw [hF2.out, hF.out]
                by_cases h9 : A < (a : Int)
                · rw [if_pos h9, if_neg (by omega), if_pos (by omega)]; rfl
                · rw [if_neg h9]
                  by_cases h8 : (a : Int) = A
                  · rw [if_pos (by omega), if_pos (by omega)]; rfl
                  · rw [if_neg (by omega), if_neg (by omega)]; rfl
              have Z2 := Lib.hid z2
              clear z2
              go_wp2
              go_roundw
              case rel => exact ⟨a + 1, by omega, by go_num, ⟨F2, rfl, Z2⟩, hb03⟩
              case measure => simp [intOf]; omega
        · have HE := fun w => esis_far n u r c t s a k R w H.out ⟨k0, k1⟩ ⟨by omega, hlt⟩ ⟨x2, hr⟩ (by omega)
          unfold cfg at HE
          go_wp2_with (first
            | (go_at_call 12; (with_reducible refine (HE _).mono ?_); rintro x w3 ⟨rfl, hb3⟩))
          go_ret
          exact ⟨rfl, trans_below (trans_below hbw02 hbr hbw02.size) hb3 (trans_below hbw02 hbr hbw02.size).size⟩
      · have HE := fun w => esis_late n u r c t s a k R w H.out ⟨k0, k1⟩ ⟨by omega, hlt⟩ (by omega)
        unfold cfg at HE
        go_wp2_with (first
          | (go_at_call 12; (with_reducible refine (HE _).mono ?_); rintro x w3 ⟨rfl, hb3⟩))
        go_ret
        exact ⟨rfl, trans_below (trans_below hbw02 hbr hbw02.size) hb3 (trans_below hbw02 hbr hbw02.size).size⟩
    · obtain rfl : (a : Int) = n := by omega
      rw [if_pos a1] at hF
      obtain rfl := hF.out
      go_wp2
      go_ret
      exact ⟨rfl, trans_below hbw02 hbr hbw02.size⟩

theorem placeOwns_walk (n u r c t s k e : Int) (w : World) (_w0 : (Lit.int .i64 n).wf = true) (w1 : (Lit.int .i64 u).wf = true) (w2 : (Lit.int .i64 r).wf = true) (_w3 : (Lit.int .i64 c).wf = true) (_w4 : (Lit.int .i64 t).wf = true) (_w5 : (Lit.int .i64 s).wf = true) (_w6 : (Lit.int .i64 k).wf = true) (_w7 : (Lit.int .i64 e).wf = true) :
    Calls Try.prog 4 #[.agg #[.int .i64 n, .int .i64 u, .int .i64 r, .int .i64 c, .int .i64 t, .int .i64 s], .int .i64 k, .int .i64 e] w fun x w' => x = .returned (.bool true) ∧ Below w.heap.size w w' := by
  change Calls _ _ #[cfg n u r c t s, _, _] _ _
  by_cases h : Good n u r c t s
  · by_cases hk : 1 ≤ k ∧ k ≤ 32
    · by_cases he : 0 ≤ e ∧ e ≤ 16777215
      · obtain ⟨s4, _⟩ := shr_range h hk.1 hk.2
        exact owns_good n u r c t s k e (shr n u r k).toNat w h (by omega) hk.1 hk.2 he.1 he.2
      · exact owns_bad n u r c t s k e 40 w (fun w => owner_bade n u r c t s k e w h hk (by omega)) (by omega)
    · exact owns_bad n u r c t s k e 30 w (fun w => owner_badk n u r c t s k e w h (by omega)) (by omega)
  · exact owns_bad n u r c t s k e 130 w (fun w => owner_badc n u r c t s k e w h (wf_i64 w1) (wf_i64 w2)) (by omega)
end Go.Proofs.Ythkpofopcnapdaa
