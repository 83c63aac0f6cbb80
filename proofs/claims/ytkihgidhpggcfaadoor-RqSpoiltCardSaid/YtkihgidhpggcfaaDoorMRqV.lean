/-
  rilllaw04: RqInner.
-/
import Derived.Test.YtkihgidhpggcfaaDoorMRqU
namespace Go.Proofs.YtkihgidhpggcfaaDoor
open Go.RowKit

theorem fixedR_ok {k : Nat} (h1 : 1 ≤ k) (hk : k ≤ 32) : fixedR (k : Int) = (fixedL k, 0) := by
  unfold fixedR
  rw [if_pos (okK_iff.2 ⟨by omega, by omega⟩), Int.toNat_natCast]
theorem rowR_ok {k : Nat} (h1 : 1 ≤ k) (hk : k ≤ 32) (e : Int) : rowR (k : Int) e = if okE e = true then (symR k e.toNat, 0) else ([], 40) := by
  unfold rowR
  rw [if_pos (okK_iff.2 ⟨by omega, by omega⟩), Int.toNat_natCast]
theorem apply_fixed {k t : Nat} {X : List (List Nat)} (h1 : 1 ≤ k) (hk : k ≤ 32) (hX : X.length = cL k) (hXr : Rws X t) (hf : ∀ r ∈ fixedL k, mixS X r = zs t) : applyR ((cL k : Nat) : Int) (fixedL k) X = (List.replicate (cL k - k) (zs t), 0) := by
  obtain ⟨g1, g2, g3⟩ := cL_facts h1 hk
  have hfl := fixed_length (k := k) (code_facts h1 hk).2.2.2.1
  unfold applyR
  rw [if_pos (applyOK_iff.2 ⟨right_all (fixed_all k) g1 (by omega) (by rw [hfl]; omega), by rw [hX], even_of_rws hXr⟩), applyOf_eq]
  have hall : ∀ b ∈ (fixedL k).map (mixS X), b = zs t := fun b hb => by
    obtain ⟨r, hr, rfl⟩ := List.mem_map.1 hb
    exact hf r hr
  have hlen : ((fixedL k).map (mixS X)).length = cL k - k := by rw [List.length_map, hfl]
  rw [List.eq_replicate_iff.2 ⟨hlen, hall⟩]

set_option maxRecDepth 100000 in
set_option maxHeartbeats 8000000 in
theorem rqInner_walk (a1 : Option Addr) (n1 c1 : Nat) (s1 : List HdT) (l1 : List (List Nat)) (z : Int) (w : World) (hg : Bnd w)
    (v1 : RowV w a1 n1 (s1.map SV)) (r1 : RowsV w s1 l1) (t1 : n1 * 24 ≤ 140737488351232) (_w1 : (Lit.int .i64 z).wf = true) :
    Calls Tryd.prog 10 #[.slice a1 n1 c1, .int .i64 z] w fun e w' => e = .returned (.bool true) ∧ Below w.heap.size w w' := by
  have h1 : RD w a1 n1 l1 := ⟨by rw [← r1.1]; have := v1.1; simpa using this, s1, v1, r1⟩
  have HE1 := Lib.hid h1.1
  have H1 := Lib.hid h1
  have HG := Lib.hid hg
  clear h1 v1 r1 hg
  go_enter Tryd.func10, Tryd.ntmps10
  go_wp2_with fail
  (with_reducible refine (alive_any _ HG.out).mono ?_)
  rintro e w1 ⟨rfl, hb1⟩
  go_wp2_with fail
  (with_reducible refine (source_rd _ _ _ l1 _ (H1.out.below hb1) (by omega)).mono ?_)
  rintro e w2 ⟨b, rfl, b2, hsrc⟩
  have hb2 := hb1.trans (b2.mono hb1.size)
  clear b2 hb1
  cases b with
  | false =>
    clear hsrc
    go_wp2
    go_ret
    exact ⟨rfl, hb2⟩
  | true =>
    obtain ⟨k, t, hS⟩ := hsrc rfl
    clear hsrc
    obtain ⟨X, hX, hXl, hXr, hf, hs⟩ := inner_val hS
    obtain rfl : n1 = k := by rw [← HE1.out]; exact hS.len
    have hk2 := hS.k2
    have hk1 := hS.k1
    have ht2 := hS.t2
    have HENC := Lib.hid (encode_val hS hX [z])
    have HINN := Lib.hid hX
    have HFX := Lib.hid (fixedR_ok hk1 hk2)
    have HRW := Lib.hid (rowR_ok hk1 hk2 z)
    have HAP := Lib.hid (apply_fixed hk1 hk2 hXl hXr hf)
    obtain ⟨f1, f2, f3⟩ := cL_facts hk1 hk2
    have HFL := Lib.hid (fixed_length (k := n1) (code_facts hk1 hk2).2.2.2.1)
    have HXL := Lib.hid hXl
    have hX1000 : X.length ≤ 1000 := by omega
    clear hS hX hXl hXr hf hs
    go_wp2_with fail
    (with_reducible refine (copyRows_rd _ _ _ l1 _ (H1.out.below hb2) (by omega)).mono ?_)
    rintro e w3 ⟨a3, c3, rfl, h3, b3⟩
    have hb3 := hb2.trans (b3.mono hb2.size)
    have KI := inner_rd a3 n1 c3 l1 w3 h3 (HG.out.below hb3)
    rw [HINN.out] at KI
    clear b3 hb2 h3
    go_wp2_with fail
    (with_reducible refine KI.mono ?_)
    rintro e w4 ⟨a4, c4, rfl, h4, b4⟩
    simp only at h4 ⊢
    have hb4 := hb3.trans (b4.mono hb3.size)
    have KF := fixed_rd (n1 : Int) w4 (HG.out.below hb4)
    rw [HFX.out] at KF
    clear KI b4 hb3
    go_wp2_with fail
    (with_reducible refine KF.mono ?_)
    rintro e w5 ⟨a5, c5, rfl, h5, b5⟩
    simp only at h5 ⊢
    have hb5 := hb4.trans (b5.mono hb4.size)
    have h45 := h4.below b5
    have KA := apply_rd ((cL n1 : Nat) : Int) a5 (fixedL n1).length c5 (fixedL n1) a4 X.length c4 X w5 h5 h45 (by rw [HFL.out]; omega) hX1000
    rw [HAP.out, ← HXL.out] at KA
    clear KF b5 hb4 h4 h5
    go_wp2_with fail
    (with_reducible refine KA.mono ?_)
    rintro e w6 ⟨a6, c6, rfl, h6, b6⟩
    simp only [List.length_replicate] at h6 ⊢
    have hb6 := hb5.trans (b6.mono hb5.size)
    have h46 := h45.below b6
    obtain ⟨d, hd⟩ : ∃ d, d = cL n1 - n1 := ⟨_, rfl⟩
    rw [HXL.out, ← hd] at h6 ⊢
    have hd100 : d ≤ 100 := by omega
    have H6 := Lib.hid h6
    have H46 := Lib.hid h46
    have HB6 := Lib.hid hb6
    clear KA b6 hb5 h45 h6 h46 hb6 hd
    go_wp2_with fail
    go_loop [10] (fun vi => ∃ i : Nat, i ≤ d ∧ vi = .int .i64 (i : Nat)) (fun vi => (d - intOf vi).toNat)
    case atStart => exact ⟨0, Nat.zero_le _, rfl⟩
    case round =>
      obtain ⟨i, hi, rfl⟩ := hrel
      by_cases hlt : i < d
      · obtain ⟨b, off, xa, xn, xc, r, rfl, hc0, hr, hB⟩ := H6.out.at hlt
        have hrz : r = zs t := by
          rw [List.getElem?_replicate, if_pos hlt] at hr
          exact (Option.some.inj hr).symm
        have hxn : xn = t := by rw [← zs_length t, ← hrz]; exact hB.length.symm
        subst hxn
        have HBB := Lib.hid hB
        have HRZ := Lib.hid hrz
        clear hr hrz hB
        go_wp2_with fail
        go_loop [11] (fun vj => ∃ j : Nat, j ≤ xn ∧ vj = .int .i64 (j : Nat)) (fun vj => (xn - intOf vj).toNat)
        case atStart => exact ⟨0, Nat.zero_le _, rfl⟩
        case round =>
          obtain ⟨j, hj, rfl⟩ := hrel
          by_cases hlt2 : j < xn
          · obtain ⟨b3', o3, rfl, qx⟩ := HBB.out.cellAt j hlt2
            rw [HRZ.out, show (zs xn).getD j 0 = 0 by unfold zs; rw [List.getD_eq_getElem?_getD, List.getElem?_replicate, if_pos hlt2]; rfl] at qx
            have qx' : w6.cell? ⟨b3', o3 + j, none⟩ = some (.int .u8 0) := qx
            clear qx
            go_wp2
            go_round
            case rel => exact ⟨j + 1, by omega, by go_num⟩
            case measure => simp [intOf] <;> omega
          · obtain rfl : j = xn := by omega
            go_wp2
            go_round
            case rel => exact ⟨i + 1, by omega, by go_num⟩
            case measure => simp [intOf] <;> omega
      · obtain rfl : i = d := by omega
        clear hlt hi
        go_wp2_with fail
        (with_reducible refine (copyRows_rd _ _ _ l1 _ (H1.out.below HB6.out) (by omega)).mono ?_)
        rintro e w7 ⟨a7, c7, rfl, h7, b7⟩
        have hb7 := HB6.out.trans (b7.mono HB6.out.size)
        have h47 := H46.out.below b7
        have hb8 := hb7.alloc hb7.size (.cells #[.int .i64 z] 3)
        have KE := encode_rd a7 n1 c7 l1 (some ⟨w7.heap.size, 0, none⟩) 1 1 [z] (w7.alloc (.cells #[.int .i64 z] 3)) (h7.below (below_alloc _ _)) (intsV_litG w7 _ _ 1 [z] rfl rfl rfl (by omega)) (by omega) (HG.out.below hb8)
        rw [HENC.out] at KE
        have h48 := h47.below (below_alloc w7 (.cells #[.int .i64 z] 3))
        have KR0 := HRW.out
        have hs8 := hb8.size
        clear b7 hb7 h7 h47
        by_cases hz : okE z = true
        rotate_left 1
        · rw [if_neg (by simp only [List.all_cons, List.all_nil, Bool.and_true]; exact hz)] at KE
          rw [if_neg hz] at KR0
          clear hz
          go_wp2_with fail
          (with_reducible refine KE.mono ?_)
          rintro e w9 ⟨a9, c9, rfl, -, b9⟩
          have hb9 := hb8.trans (b9.mono hs8)
          have KR := row_rd (n1 : Int) z w9 (HG.out.below hb9)
          rw [KR0] at KR
          clear KE b9 hb8 h48
          go_wp2_with fail
          (with_reducible refine KR.mono ?_)
          rintro e w10 ⟨a10, c10, rfl, -, b10⟩
          have HB10 := Lib.hid (hb9.trans (b10.mono hb9.size))
          clear KR b10 hb9
          go_wp2
          go_ret
          exact ⟨rfl, HB10.out⟩
        rw [if_pos (by simp only [List.all_cons, List.all_nil, Bool.and_true]; exact hz)] at KE
        rw [if_pos hz] at KR0
        simp only [List.map_cons, List.map_nil] at KE
        obtain ⟨r, hr⟩ : ∃ r, r = symR n1 z.toNat := ⟨_, rfl⟩
        have hpc : pieceOf n1 X z = (z, mixS X r) := by rw [hr]; unfold pieceOf; rfl
        have hrb : Bytes r := by rw [hr]; exact symR_bytes _ _
        have hrl : r.length ≤ 100 := by rw [hr, symR_length]; omega
        rw [← hr] at KR0
        rw [hpc] at KE
        have HRB := Lib.hid hrb
        clear hz hr hpc hrb
        go_wp2_with fail
        (with_reducible refine KE.mono ?_)
        rintro e w9 ⟨a9, c9, rfl, hP, b9⟩
        simp only [List.length_cons, List.length_nil, Nat.zero_add] at hP ⊢
        have hb9 := hb8.trans (b9.mono hs8)
        have h49 := h48.below b9
        have KR := row_rd (n1 : Int) z w9 (HG.out.below hb9)
        rw [KR0] at KR
        have hs9 := hb9.size
        clear KE b9 hb8 h48 KR0
        go_wp2_with fail
        (with_reducible refine KR.mono ?_)
        rintro e w10 ⟨a10, c10, rfl, o10, b10⟩
        simp only at o10 ⊢
        have hb10 := hb9.trans (b10.mono hs9)
        have h410 := h49.below b10
        obtain ⟨b, off, e, a2, n2, c2, l, rfl, q0, q1, hp0, hby⟩ := (hP.below b10).pi.at (i := 0) (by omega)
        simp only [List.getElem?_cons_zero, Option.some.injEq, Prod.mk.injEq] at hp0
        obtain ⟨rfl, rfl⟩ := hp0
        rw [Nat.zero_mul, Nat.add_zero] at q0 q1
        obtain ⟨y, hy⟩ : ∃ y, y = mixS X r := ⟨_, rfl⟩
        have h410' : RD w10 a4 (cL n1) X := by rw [← HXL.out]; exact h410
        rw [← hy] at hby
        have HBY := Lib.hid hby
        have HKM : Hid (∀ W, Below w10.heap.size w10 W → Calls Tryd.prog 35 #[.slice a10 r.length c10, .slice a4 (cL n1) c4] W (GivesBytes 5 W y)) := Lib.hid (fun W hb => by rw [hy]; exact mix_rd a10 r.length c10 r a4 (cL n1) c4 X W ((bytesV_of_owns o10 HRB.out (by omega)).below hb) (h410'.below hb) (by omega))
        have hmm := mixS_mem h410.mem HRB.out
        rw [← hy] at hmm
        have HMM := Lib.hid hmm
        have HB10 := Lib.hid hb10
        have q1L := Lib.hid q1
        clear KR b10 hb9 h49 hP o10 h410 h410' hby hmm hb10 q0 q1 hy
        have hyl : y.length ≤ 140737488355328 := HMM.out.2
        go_wp2_with fail
        go_region_held3 (fun w' => w'.cell? ⟨b, off + 1, none⟩ = some (.slice a2 n2 c2)) (first | exact q1L.out | exact K2 | exact K3 | go_keep)
          (first
            | (go_at_call 35; (with_reducible refine (HKM.out _ ?h1).mono ?_); (case h1 => exact ⟨rfl, rfl, rfl, Nat.le_refl _, fun _ _ => rfl⟩); rintro e w11 ⟨a11, c11, rfl, o11, d11⟩; have b11 : Below w10.heap.size w10 w11 := ⟨d11.os, d11.tape, d11.output, d11.size, d11.block⟩; have K2 := cell_below q1L.out b11; have HY11 := Lib.hid (bytesV_of_owns o11 HMM.out.1 hyl); have HB11 := Lib.hid b11)
            | (go_at_call 20; (with_reducible refine (sameBytes_any a2 n2 c2 y a11 y.length c11 y _ ?h1 ?h2).mono ?_); (case h1 => exact (HBY.out.below HB11.out).below ⟨rfl, rfl, rfl, Nat.le_refl _, fun _ _ => rfl⟩); (case h2 => exact HY11.out.below ⟨rfl, rfl, rfl, Nat.le_refl _, fun _ _ => rfl⟩); rintro e w12 ⟨rfl, d12⟩; rw [decide_eq_true rfl]; have b12 : Below w11.heap.size w11 w12 := ⟨d12.os, d12.tape, d12.output, d12.size, d12.block⟩; have K3 := cell_below K2 b12))
        have HB12 := Lib.hid (HB10.out.trans ((HB11.out.trans (b12.mono HB11.out.size)).mono HB10.out.size))
        clear K2 K3 d11 d12 b12
        go_wp2
        go_ret
        exact ⟨rfl, HB12.out⟩
end Go.Proofs.YtkihgidhpggcfaaDoor
