/-
  rilllaw04: RqMore.
-/
import Derived.Test.YtkihgidhpggcfaaDoorMRqT
namespace Go.Proofs.YtkihgidhpggcfaaDoor
open Go.RowKit

theorem enoughB_parts {k : Int} {es : List Int} (h : enoughB k es = true) : ∃ m : Nat, k = (m : Int) ∧ 1 ≤ m ∧ m ≤ 32 ∧ es.length ≤ 128 ∧ es.all okE = true ∧ enoughP m es := by
  have h0 := h
  unfold enoughB at h
  simp only [Bool.and_eq_true, decide_eq_true_iff] at h
  obtain ⟨h1, h2, h3, -⟩ := h
  obtain ⟨m, rfl, -, k1, k2⟩ := okK_nat h1
  exact ⟨m, rfl, k1, k2, h2, h3, (enough_iff k1 k2 h2 h3).1 h0⟩
theorem enoughP_iff {k : Nat} {es : List Int} : enoughP k es ↔ ∀ y : Nat → Nat, (∀ j, y j < 256) → (∀ j, cL k ≤ j → y j = 0) → (∀ a ∈ fixedL k ++ symsL k es, dot y a (cL k) = 0) → ∀ j, j < cL k → y j = 0 := rank_full (all_rws (all_app (fixed_all k) (syms_rws k es)))
theorem enoughP_sub {k : Nat} {es fs : List Int} (h : enoughP k es) (hs : ∀ e ∈ es, e ∈ fs) : enoughP k fs := by
  rw [enoughP_iff] at h ⊢
  refine fun y h1 h2 h3 => h y h1 h2 fun a ha => h3 a ?_
  rcases List.mem_append.1 ha with h4 | h4
  · exact List.mem_append.2 (.inl h4)
  · obtain ⟨e, he, rfl⟩ := List.mem_map.1 h4
    exact List.mem_append.2 (.inr (List.mem_map.2 ⟨e, hs e he, rfl⟩))
theorem enough_more {k : Int} {es more : List Int} (h : enoughB k es = true) (hm : ∀ e ∈ more, okE e = true) (hl : more.length + es.length ≤ 128) : enoughB k (more ++ es) = true := by
  obtain ⟨m, rfl, k1, k2, h2, h3, h4⟩ := enoughB_parts h
  refine (enough_iff k1 k2 (by rw [List.length_append]; exact hl) (List.all_eq_true.2 fun e he => ?_)).2 (enoughP_sub h4 fun e he => List.mem_append.2 (.inr he))
  rcases List.mem_append.1 he with h5 | h5
  · exact hm e h5
  · exact List.all_eq_true.1 h3 e h5
def fstB (es : List Int) (i : Nat) : Nat → Bool
  | 0 => true
  | j + 1 => fstB es i j && (es.getD j 0 != es.getD i 0)
def ddL (es : List Int) : Nat → List Int
  | 0 => []
  | i + 1 => if fstB es i i = true then ddL es i ++ [es.getD i 0] else ddL es i
theorem fstB_false {es : List Int} {i : Nat} : ∀ {j : Nat}, fstB es i j = false → ∃ q, q < j ∧ es.getD q 0 = es.getD i 0
  | 0, h => by cases h
  | j + 1, h => by
    simp only [fstB, Bool.and_eq_false_iff] at h
    rcases h with h | h
    · obtain ⟨q, h1, h2⟩ := fstB_false h
      exact ⟨q, by omega, h2⟩
    · exact ⟨j, by omega, by simpa using h⟩
theorem ddL_mem (es : List Int) : ∀ i j, j < i → es.getD j 0 ∈ ddL es i
  | 0, j, h => absurd h (Nat.not_lt_zero _)
  | i + 1, j, h => by
    simp only [ddL]
    by_cases hf : fstB es i i = true
    · rw [if_pos hf]
      by_cases e : j = i
      · rw [e]; exact List.mem_append.2 (.inr (by simp))
      · exact List.mem_append.2 (.inl (ddL_mem es i j (by omega)))
    · rw [if_neg hf]
      by_cases e : j = i
      · obtain ⟨q, h1, h2⟩ := fstB_false (show fstB es i i = false by simpa using hf)
        rw [e, ← h2]; exact ddL_mem es i q h1
      · exact ddL_mem es i j (by omega)
theorem ddL_len (es : List Int) : ∀ i, (ddL es i).length ≤ i
  | 0 => Nat.le_refl _
  | i + 1 => by
    have := ddL_len es i
    simp only [ddL]
    split
    · rw [List.length_append]; simp; omega
    · omega
theorem enough_count {k : Int} {es : List Int} (h : enoughB k es = true) : k ≤ (((ddL es es.length).length : Nat) : Int) := by
  obtain ⟨m, rfl, k1, k2, h2, h3, h4⟩ := enoughB_parts h
  have h5 : enoughP m (ddL es es.length) := enoughP_sub h4 fun e he => by
    obtain ⟨j, hj, rfl⟩ := List.mem_iff_getElem.1 he
    have := ddL_mem es es.length j hj
    rwa [List.getD_eq_getElem?_getD, List.getElem?_eq_getElem hj] at this
  by_cases hlt : (ddL es es.length).length < m
  · exact absurd h5 (not_enough k1 k2 hlt)
  · omega

set_option maxRecDepth 100000 in
set_option maxHeartbeats 8000000 in
theorem rqMore_walk (k : Int) (a1 : Option Addr) (n1 c1 : Nat) (l1 : List Int) (a2 : Option Addr) (n2 c2 : Nat) (l2 : List Int) (w : World) (hg : Bnd w) (_w0 : (Lit.int .i64 k).wf = true)
    (v1 : IntsV w (a1, n1, c1) l1) (_t1 : n1 * 8 ≤ 140737488351232) (_z1 : ∀ z ∈ l1, (Lit.int .i64 z).wf = true) (v2 : IntsV w (a2, n2, c2) l2) (_t2 : n2 * 8 ≤ 140737488351232) (_z2 : ∀ z ∈ l2, (Lit.int .i64 z).wf = true) :
    Calls Tryd.prog 12 #[.int .i64 k, .slice a1 n1 c1, .slice a2 n2 c2] w fun e w' => e = .returned (.bool true) ∧ Below w.heap.size w w' := by
  obtain ⟨i0, hi0, hz0, hz1, hz2⟩ := info_parts iinfo
  have HE1 := Lib.hid (show l1.length = n1 from v1.length)
  have HE2 := Lib.hid (show l2.length = n2 from v2.length)
  have H1 := Lib.hid v1
  have H2 := Lib.hid v2
  have HG := Lib.hid hg
  have HMO := Lib.hid (fun (h : enoughB k l1 = true) (hm : ∀ e ∈ l2, okE e = true) (hl : l2.length + l1.length ≤ 128) => enough_more h hm hl)
  have HCO := Lib.hid (fun (h : enoughB k l1 = true) => enough_count h)
  have h1s := v1.small
  have h2s := v2.small
  simp only at h1s h2s
  clear v1 v2 hg
  go_enter Tryd.func12, Tryd.ntmps12
  go_wp2_with fail
  (with_reducible refine (alive_any _ HG.out).mono ?_)
  rintro e w1 ⟨rfl, hb1⟩
  by_cases hn : n1 + n2 ≤ 60
  rotate_left 1
  · go_wp2
    go_ret
    exact ⟨rfl, hb1⟩
  have hn1 : n1 ≤ 60 := by omega
  have hn2 : n2 ≤ 60 := by omega
  have HB1 := Lib.hid hb1
  clear hb1
  go_wp2_with fail
  go_loop [7] (fun vi => ∃ i : Nat, i ≤ n2 ∧ vi = .int .i64 (i : Nat) ∧ Hid (∀ j e, j < i → l2[j]? = some e → okE e = true)) (fun vi => (n2 - intOf vi).toNat)
  case atStart => exact ⟨0, Nat.zero_le _, rfl, Lib.hid (fun j e h => absurd h (Nat.not_lt_zero _))⟩
  case round =>
    obtain ⟨i, hi, rfl, HZ⟩ := hrel
    by_cases hlt : i < n2
    · obtain ⟨b, off, e1, hc1⟩ := (H2.out.row.below HB1.out).2 (by show 0 < n2; omega)
      simp only at e1
      subst e1
      have hc := hc1 i hlt
      obtain ⟨z, hz⟩ : ∃ z, l2[i]? = some z := ⟨_, List.getElem?_eq_getElem (by rw [HE2.out]; exact hlt)⟩
      rw [List.getElem?_map, hz] at hc
      have hc' : w1.cell? ⟨b, off + i, none⟩ = some (.int .i64 z) := hc
      have HZI := Lib.hid hz
      clear hc hc1 hz
      by_cases hz0' : 0 ≤ z
      · by_cases hz1' : z < 16777216
        · have HZ2 := Lib.hid (okE_iff.2 ⟨hz0', hz1'⟩)
          go_wp2
          go_round
          case rel => exact ⟨i + 1, by omega, by go_num, Lib.hid (fun j e hj he => (by
            by_cases e1 : j = i
            · rw [e1, HZI.out] at he
              exact (congrArg okE (Option.some.inj he)).symm.trans HZ2.out
            · exact HZ.out j e (by omega) he))⟩
          case measure => simp [intOf] <;> omega
        · go_wp2
          go_ret
          exact ⟨rfl, HB1.out⟩
      · go_wp2
        go_ret
        exact ⟨rfl, HB1.out⟩
    · obtain rfl : i = n2 := by omega
      have hall : ∀ e ∈ l2, okE e = true := fun e he => by
        obtain ⟨j, hj⟩ := List.getElem?_of_mem he
        exact HZ.out j e (by have := (List.getElem?_eq_some_iff.1 hj).1; rw [HE2.out] at this; exact this) hj
      have HALL := Lib.hid hall
      clear hall hi hlt
      go_wp2_with fail
      (with_reducible refine (copyInts_rd _ _ _ l1 _ (H1.out.below HB1.out) (by omega)).mono ?_)
      rintro e w3 ⟨a3, c3, rfl, o3, b3⟩
      have hb3 := HB1.out.trans (b3.mono HB1.out.size)
      have KN := enough_rd k a3 l1.length c3 l1 w3 (intsV_ownQ o3 (by rw [HE1.out]; omega)) (HG.out.below hb3)
      obtain ⟨t, ht⟩ : ∃ t, t = enoughB k l1 := ⟨_, rfl⟩
      rw [← ht] at KN
      have HT := Lib.hid ht
      clear b3 o3 ht
      go_wp2_with fail
      (with_reducible refine KN.mono ?_)
      rintro e w4 ⟨rfl, b4⟩
      have hb4 := hb3.trans (b4.mono hb3.size)
      clear KN b4 hb3
      go_wp2_with fail
      (with_reducible refine (copyInts_rd _ _ _ l2 _ (H2.out.below hb4) (by omega)).mono ?_)
      rintro e w5 ⟨a5, c5, rfl, o5, b5⟩
      have hb5 := hb4.trans (b5.mono hb4.size)
      have o5' := ownsRow_base (base' := w.heap.size) o5 hb4.size
      have hr1 := H1.out.row.below hb5
      have hnil1 := H1.out.nil
      simp only at hr1 hnil1
      have HLL := Lib.hid (show l2.length + n1 ≤ 60 by rw [HE2.out]; omega)
      have hs5 := hb5.size
      clear b5 hb4 o5
      go_wp2_with (first | (at_builtin; refine Hid.out ?_))
      refine Lib.hid ?_
      refine wpList_append_row rfl _ _ 33 rfl w.heap.size 3 i0 (.int .i64 0) 8 Tryd.underlying33 hi0 hz0 hz1 hz2 rfl _ _ _ rfl o5' a1 n1 c1 (l1.map iv) rfl hr1 hnil1 (iv_oneQ l1) (by have := HLL.out; unfold maxLen; omega) (by have := HLL.out; omega) hs5 ?_
      intro v' w6 hE6 g6 _
      have hb6 := below_grown hb5 g6 (ownBlock_ge o5')
      obtain ⟨a6, c6, rfl, -⟩ := ownsRow_parts hE6
      rw [← List.map_append] at hE6
      have hal : (l2 ++ l1).length = l2.length + n1 := by rw [List.length_append, HE1.out]
      have KN := enough_rd k a6 (l2.length + n1) c6 (l2 ++ l1) w6 (intsV_ownQ hE6 (by have := HLL.out; omega)) (HG.out.below hb6)
      have HB6 := Lib.hid hb6
      have HKN := Lib.hid KN
      clear o5' hr1 hnil1 hE6 g6 hb5 hb6 hs5 KN hal
      cases t with
      | false =>
        clear HKN
        go_wp2_with fail
        go_loopw [10, 11] (fun vn vp wr => ∃ p : Nat, p ≤ n1 ∧ vp = .int .i64 (p : Nat) ∧ vn = .int .i64 ((ddL l1 p).length : Nat) ∧ Hid (Below w.heap.size w wr)) (fun _ vp _ => (n1 - intOf vp).toNat)
        case atStart => exact ⟨0, Nat.zero_le _, rfl, rfl, HB6⟩
        case round =>
          clear HB6
          obtain ⟨p, hp, rfl, rfl, hB⟩ := hrel
          have hdl := ddL_len l1 p
          by_cases hlt2 : p < n1
          · obtain ⟨b, off, e1, hc1⟩ := H1.out.row.2 (by show 0 < n1; omega)
            simp only at e1
            subst e1
            obtain ⟨zp, hzp⟩ : ∃ z, l1.getD p 0 = z := ⟨_, rfl⟩
            have hcell : ∀ q, q < n1 → w.cell? ⟨b, off + q, none⟩ = some (.int .i64 (l1.getD q 0)) := fun q hq => by
              have := hc1 q hq
              rwa [List.getElem?_map, List.getElem?_eq_getElem (by rw [HE1.out]; exact hq), show Option.map iv (some (l1[q]'(by rw [HE1.out]; exact hq))) = some (.int .i64 (l1.getD q 0)) by rw [List.getD_eq_getElem?_getD, List.getElem?_eq_getElem (by rw [HE1.out]; exact hq)]; rfl] at this
            have HCELL := Lib.hid hcell
            have hcp := hcell p hlt2
            rw [hzp] at hcp
            have HZP := Lib.hid hzp
            have HDD := Lib.hid (show ddL l1 (p + 1) = if fstB l1 p p = true then ddL l1 p ++ [l1.getD p 0] else ddL l1 p from rfl)
            obtain ⟨nd, hnd⟩ : ∃ nd, nd = (ddL l1 p).length := ⟨_, rfl⟩
            have HND := Lib.hid hnd
            rw [← hnd] at hdl ⊢
            clear hc1 hcell hzp hnd
            go_wp2_with fail
            go_loopw [12, 13] (fun vf vq wr => ∃ q : Nat, q ≤ p ∧ vq = .int .i64 (q : Nat) ∧ vf = .bool (fstB l1 p q) ∧ Hid (Below w.heap.size w wr)) (fun _ vq _ => (p - intOf vq).toNat)
            case atStart => exact ⟨0, Nat.zero_le _, rfl, rfl, hB⟩
            case round =>
              clear hB
              obtain ⟨q, hq, rfl, rfl, hB⟩ := hrel
              have HFS := Lib.hid (show fstB l1 p (q + 1) = (fstB l1 p q && (l1.getD q 0 != l1.getD p 0)) from rfl)
              by_cases hlt4 : q < p
              · have k1 := cell_below (HCELL.out q (by omega)) hB.out
                have k2 := cell_below hcp hB.out
                obtain ⟨zq, hzq⟩ : ∃ z, l1.getD q 0 = z := ⟨_, rfl⟩
                rw [hzq] at k1
                have HZQ := Lib.hid hzq
                obtain ⟨f, hf⟩ : ∃ f, f = fstB l1 p q := ⟨_, rfl⟩
                rw [← hf] at HFS ⊢
                have hqn : q < n1 := by omega
                clear hf hzq
                cases f with
                | true =>
                  obtain ⟨g, hg⟩ : ∃ g, g = (zq != zp) := ⟨_, rfl⟩
                  have HF2 := Lib.hid (show fstB l1 p (q + 1) = g by rw [HFS.out, HZQ.out, HZP.out, hg, Bool.true_and])
                  have HGG := Lib.hid hg.symm
                  clear hg
                  go_wp2
                  go_quiet (fail)
                  go_wp2
                  go_roundw
                  case rel => exact ⟨q + 1, by omega, by go_num, by rw [HF2.out, ← HGG.out], Lib.hid (below_drewR hB.out _)⟩
                  case measure => simp [intOf] <;> omega
                | false =>
                  have HF2 := Lib.hid (show fstB l1 p (q + 1) = false by rw [HFS.out, Bool.false_and])
                  go_wp2
                  go_quiet (fail)
                  go_wp2
                  go_roundw
                  case rel => exact ⟨q + 1, by omega, by go_num, by rw [HF2.out], Lib.hid (below_drewR hB.out _)⟩
                  case measure => simp [intOf] <;> omega
              · obtain rfl : q = p := by omega
                obtain ⟨f, hf⟩ : ∃ f, f = fstB l1 q q := ⟨_, rfl⟩
                rw [← hf] at HDD ⊢
                clear hf
                cases f with
                | true =>
                  have HL1 := Lib.hid (show (ddL l1 (q + 1)).length = nd + 1 by rw [HDD.out, if_pos rfl, List.length_append, HND.out]; rfl)
                  go_wp2
                  go_roundw
                  case rel => exact ⟨q + 1, by omega, by go_num, by rw [HL1.out]; go_num, hB⟩
                  case measure => simp [intOf] <;> omega
                | false =>
                  have HL1 := Lib.hid (show (ddL l1 (q + 1)).length = nd by rw [HDD.out, if_neg (by simp), HND.out])
                  go_wp2
                  go_roundw
                  case rel => exact ⟨q + 1, by omega, by go_num, by rw [HL1.out], hB⟩
                  case measure => simp [intOf] <;> omega
          · obtain rfl : p = n1 := by omega
            go_wp2
            go_ret
            exact ⟨rfl, hB.out⟩
      | true =>
        have hmo := HMO.out HT.out.symm HALL.out (by have := HLL.out; rw [HE1.out]; omega)
        have hco := HCO.out HT.out.symm
        rw [HE1.out] at hco
        have kn := HKN.out
        rw [hmo] at kn
        have HCO2 := Lib.hid hco
        clear hmo hco HKN
        go_wp2_with fail
        (with_reducible refine kn.mono ?_)
        rintro e w7 ⟨rfl, b7⟩
        have HB6 := Lib.hid (HB6.out.trans (b7.mono HB6.out.size))
        clear kn b7
        go_wp2_with fail
        go_loopw [10, 11] (fun vn vp wr => ∃ p : Nat, p ≤ n1 ∧ vp = .int .i64 (p : Nat) ∧ vn = .int .i64 ((ddL l1 p).length : Nat) ∧ Hid (Below w.heap.size w wr)) (fun _ vp _ => (n1 - intOf vp).toNat)
        case atStart => exact ⟨0, Nat.zero_le _, rfl, rfl, HB6⟩
        case round =>
          clear HB6
          obtain ⟨p, hp, rfl, rfl, hB⟩ := hrel
          have hdl := ddL_len l1 p
          by_cases hlt2 : p < n1
          · obtain ⟨b, off, e1, hc1⟩ := H1.out.row.2 (by show 0 < n1; omega)
            simp only at e1
            subst e1
            obtain ⟨zp, hzp⟩ : ∃ z, l1.getD p 0 = z := ⟨_, rfl⟩
            have hcell : ∀ q, q < n1 → w.cell? ⟨b, off + q, none⟩ = some (.int .i64 (l1.getD q 0)) := fun q hq => by
              have := hc1 q hq
              rwa [List.getElem?_map, List.getElem?_eq_getElem (by rw [HE1.out]; exact hq), show Option.map iv (some (l1[q]'(by rw [HE1.out]; exact hq))) = some (.int .i64 (l1.getD q 0)) by rw [List.getD_eq_getElem?_getD, List.getElem?_eq_getElem (by rw [HE1.out]; exact hq)]; rfl] at this
            have HCELL := Lib.hid hcell
            have hcp := hcell p hlt2
            rw [hzp] at hcp
            have HZP := Lib.hid hzp
            have HDD := Lib.hid (show ddL l1 (p + 1) = if fstB l1 p p = true then ddL l1 p ++ [l1.getD p 0] else ddL l1 p from rfl)
            obtain ⟨nd, hnd⟩ : ∃ nd, nd = (ddL l1 p).length := ⟨_, rfl⟩
            have HND := Lib.hid hnd
            rw [← hnd] at hdl ⊢
            clear hc1 hcell hzp hnd
            go_wp2_with fail
            go_loopw [12, 13] (fun vf vq wr => ∃ q : Nat, q ≤ p ∧ vq = .int .i64 (q : Nat) ∧ vf = .bool (fstB l1 p q) ∧ Hid (Below w.heap.size w wr)) (fun _ vq _ => (p - intOf vq).toNat)
            case atStart => exact ⟨0, Nat.zero_le _, rfl, rfl, hB⟩
            case round =>
              clear hB
              obtain ⟨q, hq, rfl, rfl, hB⟩ := hrel
              have HFS := Lib.hid (show fstB l1 p (q + 1) = (fstB l1 p q && (l1.getD q 0 != l1.getD p 0)) from rfl)
              by_cases hlt4 : q < p
              · have k1 := cell_below (HCELL.out q (by omega)) hB.out
                have k2 := cell_below hcp hB.out
                obtain ⟨zq, hzq⟩ : ∃ z, l1.getD q 0 = z := ⟨_, rfl⟩
                rw [hzq] at k1
                have HZQ := Lib.hid hzq
                obtain ⟨f, hf⟩ : ∃ f, f = fstB l1 p q := ⟨_, rfl⟩
                rw [← hf] at HFS ⊢
                have hqn : q < n1 := by omega
                clear hf hzq
                cases f with
                | true =>
                  obtain ⟨g, hg⟩ : ∃ g, g = (zq != zp) := ⟨_, rfl⟩
                  have HF2 := Lib.hid (show fstB l1 p (q + 1) = g by rw [HFS.out, HZQ.out, HZP.out, hg, Bool.true_and])
                  have HGG := Lib.hid hg.symm
                  clear hg
                  go_wp2
                  go_quiet (fail)
                  go_wp2
                  go_roundw
                  case rel => exact ⟨q + 1, by omega, by go_num, by rw [HF2.out, ← HGG.out], Lib.hid (below_drewR hB.out _)⟩
                  case measure => simp [intOf] <;> omega
                | false =>
                  have HF2 := Lib.hid (show fstB l1 p (q + 1) = false by rw [HFS.out, Bool.false_and])
                  go_wp2
                  go_quiet (fail)
                  go_wp2
                  go_roundw
                  case rel => exact ⟨q + 1, by omega, by go_num, by rw [HF2.out], Lib.hid (below_drewR hB.out _)⟩
                  case measure => simp [intOf] <;> omega
              · obtain rfl : q = p := by omega
                obtain ⟨f, hf⟩ : ∃ f, f = fstB l1 q q := ⟨_, rfl⟩
                rw [← hf] at HDD ⊢
                clear hf
                cases f with
                | true =>
                  have HL1 := Lib.hid (show (ddL l1 (q + 1)).length = nd + 1 by rw [HDD.out, if_pos rfl, List.length_append, HND.out]; rfl)
                  go_wp2
                  go_roundw
                  case rel => exact ⟨q + 1, by omega, by go_num, by rw [HL1.out]; go_num, hB⟩
                  case measure => simp [intOf] <;> omega
                | false =>
                  have HL1 := Lib.hid (show (ddL l1 (q + 1)).length = nd by rw [HDD.out, if_neg (by simp), HND.out])
                  go_wp2
                  go_roundw
                  case rel => exact ⟨q + 1, by omega, by go_num, by rw [HL1.out], hB⟩
                  case measure => simp [intOf] <;> omega
          · obtain rfl : p = n1 := by omega
            have hco := HCO2.out
            have hcod : decide (k ≤ (((ddL l1 p).length : Nat) : Int)) = true := decide_eq_true hco
            go_wp2
            go_ret
            exact ⟨rfl, hB.out⟩
end Go.Proofs.YtkihgidhpggcfaaDoor
