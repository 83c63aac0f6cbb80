/-
  rilllaw02: LinLinear.
-/
import Derived.Test.YtgnnfpnkhemimaaLjC
import Derived.Test.YtgnnfpnkhemimaaGfF
namespace Go.Proofs.Ytgnnfpnkhemimaa
open Go.RowKit

theorem zip_maps {α β : Type} (op : β → β → β) (f g : α → β) : ∀ l : List α, List.zipWith op (l.map f) (l.map g) = l.map (fun x => op (f x) (g x))
  | [] => rfl
  | x :: l => by simp only [List.map_cons, List.zipWith_cons_cons]; rw [zip_maps op f g l]
theorem zip_getD (xs ys : List (List Nat)) (h : xs.length = ys.length) (k : Nat) : (List.zipWith addB xs ys).getD k [] = addB (xs.getD k []) (ys.getD k []) := by
  by_cases hk : k < xs.length
  · rw [List.getD_eq_getElem?_getD, List.getElem?_zipWith, List.getElem?_eq_getElem hk, List.getElem?_eq_getElem (by omega)]
    rw [List.getD_eq_getElem?_getD, List.getD_eq_getElem?_getD, List.getElem?_eq_getElem hk, List.getElem?_eq_getElem (by omega)]
    rfl
  · rw [List.getD_eq_getElem?_getD, List.getElem?_eq_none (by simp; omega), List.getD_eq_getElem?_getD, List.getElem?_eq_none (by omega), List.getD_eq_getElem?_getD, List.getElem?_eq_none (by omega)]
    rfl
theorem row_bytes {zs : List (List Nat)} (hz : ∀ l ∈ zs, Bytes l) (k : Nat) : Bytes (zs.getD k []) := by
  by_cases hk : k < zs.length
  · rw [List.getD_eq_getElem?_getD, List.getElem?_eq_getElem hk]
    exact hz _ (List.getElem_mem hk)
  · rw [List.getD_eq_getElem?_getD, List.getElem?_eq_none (by omega)]
    intro x hx
    simp at hx
theorem mixAt_sum (r : List Nat) {xs ys : List (List Nat)} (h : xs.length = ys.length) (hr : Bytes r) (hx : ∀ l ∈ xs, Bytes l) (hy : ∀ l ∈ ys, Bytes l) (j : Nat) : ∀ k, mixAt r (List.zipWith addB xs ys) j k = mixAt r xs j k ^^^ mixAt r ys j k
  | 0 => by simp [mixAt]
  | k + 1 => by
    simp only [mixAt]
    rw [mixAt_sum r h hr hx hy j k, zip_getD xs ys h k, addB_getD, mul_xor (hr.getD k) ((row_bytes hx k).getD j) ((row_bytes hy k).getD j), xor4]
theorem getD_far (l : List Nat) (j : Nat) (h : l.length ≤ j) : l.getD j 0 = 0 := by
  rw [List.getD_eq_getElem?_getD, List.getElem?_eq_none h]; rfl
theorem mixAt_low (r : List Nat) (xs : List (List Nat)) (j : Nat) : ∀ k, longest xs k ≤ j → mixAt r xs j k = 0
  | 0, _ => rfl
  | k + 1, h => by
    simp only [longest] at h
    simp only [mixAt]
    rw [mixAt_low r xs j k (by omega), getD_far (xs.getD k []) j (by omega), mul_zero]
    rfl
theorem longest_sum {xs ys : List (List Nat)} (h : xs.length = ys.length) : ∀ k, longest (List.zipWith addB xs ys) k = max (longest xs k) (longest ys k)
  | 0 => rfl
  | k + 1 => by
    simp only [longest]
    rw [longest_sum h k, zip_getD xs ys h k, addB_length]
    omega
theorem mixTo_any_getD (r : List Nat) (xs : List (List Nat)) (j n : Nat) : (mixTo r xs (longest xs n) n).getD j 0 = mixAt r xs j n := by
  by_cases hj : j < longest xs n
  · exact mixTo_getD _ _ _ _ hj n
  · rw [mixAt_low r xs j n (by omega), List.getD_eq_getElem?_getD, List.getElem?_eq_none (by rw [mixTo_length]; omega)]
    rfl
theorem apply_sum {rows xs ys : List (List Nat)} (h : xs.length = ys.length) (hr : ∀ l ∈ rows, Bytes l) (hx : ∀ l ∈ xs, Bytes l) (hy : ∀ l ∈ ys, Bytes l) :
    applyOf rows (List.zipWith addB xs ys) = List.zipWith addB (applyOf rows xs) (applyOf rows ys) := by
  unfold applyOf
  rw [zip_maps]
  apply List.map_congr_left
  intro r hr'
  have hl : (List.zipWith addB xs ys).length = xs.length := by simp [h]
  rw [hl, ← h]
  apply ext_getD
  · rw [mixTo_length, addB_length, mixTo_length, mixTo_length, longest_sum h]
  · intro j _
    rw [mixTo_any_getD, addB_getD, mixTo_any_getD, mixTo_any_getD, mixAt_sum r h (hr r hr') hx hy]
theorem lin_all {cols : Int} {rows xs ys : List (List Nat)} (hA : applyOK cols rows xs = true) (hB : applyOK cols rows ys = true) (hr : Mem rows) (hx : Mem xs) (hy : Mem ys) :
    (List.zipWith addB (applyOf rows xs) (applyOf rows ys)).length = rows.length ∧ (List.zipWith addB xs ys).length = cols.toNat ∧ cols = (cols.toNat : Int) ∧ cols.toNat ≤ 128 ∧ xs.length = cols.toNat ∧ ys.length = cols.toNat ∧
    (∀ B, (∀ x ∈ xs, x.length ≤ B) → (∀ x ∈ ys, x.length ≤ B) → widthB (List.zipWith addB (applyOf rows xs) (applyOf rows ys)) ≤ B) ∧ Mem (List.zipWith addB xs ys) ∧
    solveR cols rows (List.zipWith addB (applyOf rows xs) (applyOf rows ys)) = if rankOf cols.toNat rows = cols.toNat then (List.zipWith addB xs ys, 0) else ([], 21) := by
  obtain ⟨a1, a2, a3⟩ := applyOK_iff.1 hA
  obtain ⟨b1, b2, b3⟩ := applyOK_iff.1 hB
  have hl : xs.length = ys.length := by omega
  have e1 : ∀ x ∈ xs, x.length = widthB xs := fun x hx => by have := evenB_iff.1 a3 x hx; omega
  have e2 : ∀ x ∈ ys, x.length = widthB ys := fun x hx => by have := evenB_iff.1 b3 x hx; omega
  have hmem : ∀ l ∈ List.zipWith addB xs ys, Bytes l ∧ l.length = max (widthB xs) (widthB ys) ∧ l.length ≤ 140737488355328 := fun l hl' => by
    obtain ⟨i, hi⟩ := List.getElem?_of_mem hl'
    rw [List.getElem?_zipWith] at hi
    have hk : i < xs.length := by
      by_cases hk : i < xs.length
      · exact hk
      · rw [List.getElem?_eq_none (by omega)] at hi; cases hi
    rw [List.getElem?_eq_getElem hk, List.getElem?_eq_getElem (by omega)] at hi
    simp only [Option.some.injEq] at hi
    subst hi
    have m1 := hx _ (List.getElem_mem hk)
    have m2 := hy _ (List.getElem_mem (show i < ys.length by omega))
    have q1 := e1 _ (List.getElem_mem hk)
    have q2 := e2 _ (List.getElem_mem (show i < ys.length by omega))
    refine ⟨addB_bytes m1.1 m2.1, by rw [addB_length, q1, q2], by rw [addB_length]; omega⟩
  have hX : applyOK cols rows (List.zipWith addB xs ys) = true := applyOK_iff.2 ⟨a1, by simp; omega, even_of_rws (n := max (widthB xs) (widthB ys)) fun l hl' => ⟨(hmem l hl').1, (hmem l hl').2.1⟩⟩
  have hM : Mem (List.zipWith addB xs ys) := fun l hl' => ⟨(hmem l hl').1, (hmem l hl').2.2⟩
  obtain ⟨-, -, k3, -, -, k6, k7, -, k9, -, -, k12, k13⟩ := back_all hX hr hM
  rw [apply_sum hl (fun l h => (hr l h).1) (fun l h => (hx l h).1) (fun l h => (hy l h).1)] at k9 k12 k13
  refine ⟨k9, k6, k3, k7, by omega, by omega, fun B h1 h2 => k12 B fun x hx' => ?_, hM, k13⟩
  rw [(hmem x hx').2.1]
  have := width_le h1
  have := width_le h2
  omega

theorem zip_take (xs ys : List (List Nat)) (k : Nat) (h1 : k < xs.length) (h2 : k < ys.length) : (List.zipWith addB xs ys).take (k + 1) = (List.zipWith addB xs ys).take k ++ [addB (xs.getD k []) (ys.getD k [])] := by
  rw [List.take_succ_eq_append_getElem (by simp; omega)]
  congr 2
  rw [List.getElem_zipWith, List.getD_eq_getElem?_getD, List.getD_eq_getElem?_getD, List.getElem?_eq_getElem h1, List.getElem?_eq_getElem h2]
  rfl
set_option maxRecDepth 100000 in
set_option maxHeartbeats 8000000 in
theorem linLinear_walk (cols : Int) (a1 : Option Addr) (n1 c1 : Nat) (s1 : List HdT) (l1 : List (List Nat)) (a2 : Option Addr) (n2 c2 : Nat) (s2 : List HdT) (l2 : List (List Nat)) (a3 : Option Addr) (n3 c3 : Nat) (s3 : List HdT) (l3 : List (List Nat)) (w : World) (_w0 : (Lit.int .i64 cols).wf = true)
    (v1 : RowV w a1 n1 (s1.map SV)) (r1 : RowsV w s1 l1) (_t1 : n1 * 24 ≤ 140737488351232) (v2 : RowV w a2 n2 (s2.map SV)) (r2 : RowsV w s2 l2) (_t2 : n2 * 24 ≤ 140737488351232) (v3 : RowV w a3 n3 (s3.map SV)) (r3 : RowsV w s3 l3) (_t3 : n3 * 24 ≤ 140737488351232) :
    Calls Try.prog 11 #[.int .i64 cols, .slice a1 n1 c1, .slice a2 n2 c2, .slice a3 n3 c3] w fun e w' => e = .returned (.bool true) ∧ Below w.heap.size w w' := by
  obtain ⟨i0, hi, hz0, hz1, hz2⟩ := info_parts Try.info34
  have h1 : RD w a1 n1 l1 := ⟨by rw [← r1.1]; have := v1.1; simpa using this, s1, v1, r1⟩
  have h2 : RD w a2 n2 l2 := ⟨by rw [← r2.1]; have := v2.1; simpa using this, s2, v2, r2⟩
  have h3 : RD w a3 n3 l3 := ⟨by rw [← r3.1]; have := v3.1; simpa using this, s3, v3, r3⟩
  have HM1 := Lib.hid h1.mem
  have HM2 := Lib.hid h2.mem
  have HM3 := Lib.hid h3.mem
  have HE1 := Lib.hid h1.1
  have HE2 := Lib.hid h2.1
  have HE3 := Lib.hid h3.1
  have H1 := Lib.hid h1
  have H2 := Lib.hid h2
  have H3 := Lib.hid h3
  clear h1 h2 h3 v1 r1 v2 r2 v3 r3
  go_enter Try.func11, Try.ntmps11
  go_wp2_with fail
  (with_reducible refine (alive_any _).mono ?_)
  rintro e w1 ⟨rfl, hb1⟩
  go_wp2_with fail
  (with_reducible refine (great_rd _ _ _ l1 _ _ _ l2 _ (H1.out.below hb1) (H2.out.below hb1)).mono ?_)
  rintro e w2 ⟨t, rfl, b2, hg⟩
  have hb2 := hb1.trans (b2.mono hb1.size)
  clear b2 hb1
  cases t with
  | true =>
    clear hg
    go_wp2
    go_ret
    exact ⟨rfl, hb2⟩
  | false =>
    obtain ⟨g1, g2, g3⟩ := hg rfl
    rw [HE1.out] at g1
    rw [HE2.out] at g2
    have HG2 := Lib.hid g3
    clear hg g3
    go_wp2_with fail
    (with_reducible refine (great_rd _ _ _ l1 _ _ _ l3 _ (H1.out.below hb2) (H3.out.below hb2)).mono ?_)
    rintro e w3 ⟨t, rfl, b3, hg⟩
    have hb3 := hb2.trans (b3.mono hb2.size)
    clear b3 hb2
    cases t with
    | true =>
      clear hg
      go_wp2
      go_ret
      exact ⟨rfl, hb3⟩
    | false =>
      obtain ⟨-, g3, g4⟩ := hg rfl
      rw [HE3.out] at g3
      have HG3 := Lib.hid g4
      clear hg g4
      have KA := fun ar cr ax cx w h k => apply_rd cols ar n1 cr l1 ax n2 cx l2 w h k (by omega) (by omega)
      have KB := fun ar cr ax cx w h k => apply_rd cols ar n1 cr l1 ax n3 cx l3 w h k (by omega) (by omega)
      obtain ⟨S, hS⟩ : ∃ S, S = applyR cols l1 l2 := ⟨_, rfl⟩
      obtain ⟨T, hT⟩ : ∃ T, T = applyR cols l1 l3 := ⟨_, rfl⟩
      rw [← hS] at KA
      rw [← hT] at KB
      have HS := Lib.hid hS
      have HT := Lib.hid hT
      clear hS hT
      go_wp2_with fail
      (with_reducible refine (copyRows_rd _ _ _ l1 _ (H1.out.below hb3) (by omega)).mono ?_)
      rintro e w4 ⟨a5, c5, rfl, h5, b4⟩
      have hb4 := hb3.trans (b4.mono hb3.size)
      clear b4 hb3
      go_wp2_with fail
      (with_reducible refine (copyRows_rd _ _ _ l2 _ (H2.out.below hb4) (by omega)).mono ?_)
      rintro e w5 ⟨a6, c6, rfl, h6, b5⟩
      have hb5 := hb4.trans (b5.mono hb4.size)
      have h5' := h5.below b5
      clear b5 hb4 h5
      go_wp2_with fail
      (with_reducible refine (KA _ _ _ _ _ h5' h6).mono ?_)
      rintro e w6 ⟨a7, c7, rfl, h7, b6⟩
      have hb6 := hb5.trans (b6.mono hb5.size)
      clear KA b6 hb5 h5' h6
      go_wp2_with fail
      (with_reducible refine (copyRows_rd _ _ _ l1 _ (H1.out.below hb6) (by omega)).mono ?_)
      rintro e w7 ⟨a8, c8, rfl, h8, b7⟩
      have hb7 := hb6.trans (b7.mono hb6.size)
      have h7' := h7.below b7
      clear b7 hb6 h7
      go_wp2_with fail
      (with_reducible refine (copyRows_rd _ _ _ l3 _ (H3.out.below hb7) (by omega)).mono ?_)
      rintro e w8 ⟨a9, c9, rfl, h9, b8⟩
      have hb8 := hb7.trans (b8.mono hb7.size)
      have h7 := h7'.below b8
      have h8' := h8.below b8
      clear b8 hb7 h7' h8
      go_wp2_with fail
      (with_reducible refine (KB _ _ _ _ _ h8' h9).mono ?_)
      rintro e w9 ⟨a10, c10, rfl, h10, b9⟩
      have hb9 := hb8.trans (b9.mono hb8.size)
      have h7' := h7.below b9
      clear KB b9 hb8 h8' h9 h7
      obtain ⟨A, ca⟩ := S
      obtain ⟨B, cb⟩ := T
      simp only at h7' h10 ⊢
      by_cases hA : applyOK cols l1 l2 = true
      rotate_left 1
      · have e0 := HS.out
        rw [apply_no hA] at e0
        injection e0 with e1 e2
        subst e2
        clear hA
        go_wp2
        go_ret
        exact ⟨rfl, hb9⟩
      by_cases hB : applyOK cols l1 l3 = true
      rotate_left 1
      · have e0 := HT.out
        rw [apply_no hB] at e0
        injection e0 with e1 e2
        subst e2
        have e0 := HS.out
        unfold applyR at e0
        rw [if_pos hA] at e0
        injection e0 with e3 e4
        subst e4
        clear hA hB
        go_wp2
        go_ret
        exact ⟨rfl, hb9⟩
      have e0 := HS.out
      unfold applyR at e0
      rw [if_pos hA] at e0
      injection e0 with e1 e2
      subst e2
      have e0 := HT.out
      unfold applyR at e0
      rw [if_pos hB] at e0
      injection e0 with e3 e2
      subst e2
      have hla : A.length = n1 := by rw [e1]; unfold applyOf; simp [HE1.out]
      have hlb : B.length = n1 := by rw [e3]; unfold applyOf; simp [HE1.out]
      obtain ⟨z1, z2, z3, z4, z5, z6, z7, z8, z9⟩ := lin_all hA hB HM1.out HM2.out HM3.out
      rw [← e1, ← e3] at z1 z7 z9
      have HWD : Hid (rightB cols l1 = true → widthB (List.zipWith addB A B) ≤ 100000) := Lib.hid (fun hR => by
        have := right_rws hR HM1.out
        exact Nat.le_trans (z7 60000 (HG2.out this.2.2.2.2) (HG3.out this.2.2.2.2)) (by omega))
      clear hA hB HS HT e1 e3 z7
      have mA := Lib.hid h7'.mem
      have mB := Lib.hid h10.mem
      rw [hla] at h7' ⊢
      rw [hlb] at h10 ⊢
      have HLA := Lib.hid hla
      have HLB := Lib.hid hlb
      have hS := z9
      have KS := fun ar cr ax cx w h k => solve_rd cols ar n1 cr l1 ax n1 cx (List.zipWith addB A B) w h k (by omega) (by omega) HWD.out
      rw [z9] at KS
      have HZ8 := Lib.hid z8
      have HZ2 := Lib.hid z2
      rw [HE1.out] at z1
      have HZ1 := Lib.hid z1
      rw [HE2.out] at z5
      rw [HE3.out] at z6
      have HC := Lib.hid z3
      have HZ5 := Lib.hid z5
      have HZ6 := Lib.hid z6
      clear z5 z6 z1 z2 z3 z8 z9 hS hla hlb
      have h7 := h7'
      clear h7'
      go_wp2_with fail
      have hown0 := World.ownsRow_made (base := w9.heap.size) (e := 34) (size := 1) w9 #[] 0 (Nat.le_refl _) (by simp [maxLen]) rfl
      have hs9 := hb9.size
      go_loopw [13, 14] (fun v i wr => ∃ k ad cap, k ≤ n1 ∧ i = .int .i64 (k : Nat) ∧ v = .slice ad k cap ∧ OwnRs wr w9.heap.size ad k cap ((List.zipWith addB A B).take k) ∧ Below w9.heap.size w9 wr) (fun _ i _ => (n1 - intOf i).toNat)
      case atStart => exact ⟨0, _, _, Nat.zero_le _, rfl, rfl, ⟨by simp, [], hown0, ⟨rfl, fun i x l h => by simp at h⟩, fun l hl => by simp at hl⟩, below_alloc _ _⟩
      case round =>
        obtain ⟨k, ad, cap, hk, rfl, rfl, hO, hb⟩ := hrel
        have hHB := hb9.trans (hb.mono hb9.size)
        by_cases hlt : k < n1
        · obtain ⟨bA, oA, xa, xn, xc, la, rfl, hcA9, hlA, hBA⟩ := h7.at hlt
          obtain ⟨bB, oB, ya, yn, yc, lb, rfl, hcB9, hlB, hBB⟩ := h10.at hlt
          have hcA := cell_below hcA9 hb
          have hcB := cell_below hcB9 hb
          have HBA := Lib.hid hBA
          have HBB := Lib.hid hBB
          have hst := zip_take A B k (by rw [HLA.out]; exact hlt) (by rw [HLB.out]; exact hlt)
          rw [List.getD_eq_getElem?_getD, List.getD_eq_getElem?_getD, hlA, hlB] at hst
          simp only [Option.getD_some] at hst
          have HST := Lib.hid hst
          have hmA := mA.out la (List.mem_of_getElem? hlA)
          have hmB := mB.out lb (List.mem_of_getElem? hlB)
          have HMA := Lib.hid hmA
          have HMB := Lib.hid hmB
          have hSL : Bytes (addB la lb) ∧ (addB la lb).length ≤ 140737488355328 := ⟨addB_bytes hmA.1 hmB.1, by rw [addB_length]; have := hmA.2; have := hmB.2; omega⟩
          have HSL := Lib.hid hSL
          obtain ⟨-, js, ho, hOO, hom⟩ := hO
          have hbs := hb.size
          clear hBA hBB hlA hlB hst hmA hmB hSL
          go_wp2_with fail
          go_region_held3 (fun w' => w'.cell? ⟨bA, oA + k, none⟩ = some (.slice xa xn xc) ∧ w'.cell? ⟨bB, oB + k, none⟩ = some (.slice ya yn yc)) (first | exact ⟨hcA, hcB⟩ | exact ⟨qA, qB⟩ | exact ⟨rA, rB⟩ | exact ⟨tA, tB⟩)
            (first
              | (go_at_call 24; (with_reducible refine (add_any _ _ _ la _ _ _ lb _ ?h1 ?h2).mono ?_); (case h1 => exact (HBA.out.below hb).below ⟨rfl, rfl, rfl, Nat.le_refl _, fun _ _ => rfl⟩); (case h2 => exact (HBB.out.below hb).below ⟨rfl, rfl, rfl, Nat.le_refl _, fun _ _ => rfl⟩); rintro e w11 ⟨a11, c11, rfl, o11, d11⟩; have b11 : Below wr.heap.size wr w11 := ⟨d11.os, d11.tape, d11.output, d11.size, d11.block⟩; have hb11 := hb.trans (b11.mono hbs); have qA := cell_below hcA b11; have qB := cell_below hcB b11; have ho11 := ho.kept (grownBy_of_below b11 none) (by cases (Value.slice ad k cap).ownBlock <;> simp); have hO11 := hOO.below b11; have o11' := ownsRow_base (base' := w9.heap.size) o11 hbs; have rA := cell_below hcA (b11.alloc b11.size (.cells #[SV (a11, (addB la lb).length, c11)] 34)); have rB := cell_below hcB (b11.alloc b11.size (.cells #[SV (a11, (addB la lb).length, c11)] 34)))
              | (refine step_append_lies _ rfl (.tmp 71) (.tmp 81) 22 rfl w9.heap.size 34 i0 (.slice none 0 0) 1 24 Try.underlying22 hi hz0 hz1 hz2 rfl (by decide) (.slice ad k cap) k (js.map SV) (by rfl) (ho11.alloc _) ⟨w11.heap.size, 0, none⟩ 1 1 [SV (a11, (addB la lb).length, c11)] (by rfl) (by rfl) (World.news_of_block (heap_alloc_new w11 _)) (by intro u hu; simp at hu; subst hu; rfl) (by decide) (by simp [maxLen]; omega) (by omega) (by have := b11.size; simp; omega) _ rfl ?_; intro g12 cap12 w12 hE12 g12' _ _; have b12 := below_grown (hb11.alloc hb11.size (.cells #[SV (a11, (addB la lb).length, c11)] 34)) g12' (fun k hk => (ho11.lt k hk).1); have tA := cell_below hcA9 b12; have tB := cell_below hcB9 b12))
          all_goals
            obtain ⟨aN, cN, eN, hN⟩ := append_own (x := (a11, (addB la lb).length, c11)) (ho11.alloc (.cells #[SV (a11, (addB la lb).length, c11)] 34)) (hO11.below (below_alloc _ _)) hom hE12 g12' (o11'.alloc _) rfl HSL.out
            cases eN
            clear hE12 g12' ho11 hO11 o11 o11' b11 hb11 qA qB rA rB tA tB d11 ho hOO hom hcA hcB hcA9 hcB9 hb
            go_wp2
            go_roundw
            case rel => exact ⟨k + 1, _, _, by omega, by go_num, rfl, by rw [HST.out]; exact hN, b12⟩
            case measure => simp [intOf]; omega
        · obtain rfl : k = n1 := by omega
          rw [List.take_of_length_le (by rw [HZ1.out]; omega)] at hO
          have hsum := hO.rd
          clear hO hb h7 h10
          go_wp2_with fail
          (with_reducible refine (copyRows_rd _ _ _ l1 _ (H1.out.below hHB) (by omega)).mono ?_)
          rintro e w13 ⟨a13, c13, rfl, h13, b13⟩
          have hb13 := hHB.trans (b13.mono hHB.size)
          have hsum' := hsum.below b13
          clear b13 hHB hsum
          have KT := KS _ c13 _ cap _ h13 hsum'
          clear KS
          by_cases hrank : rankOf cols.toNat l1 = cols.toNat
          rotate_left 1
          · rw [if_neg hrank] at KT
            go_wp2_with fail
            (with_reducible refine KT.mono ?_)
            rintro e w14 ⟨a14, c14, rfl, h14, b14⟩
            simp only [List.length_nil]
            clear KT
            go_wp2
            go_ret
            exact ⟨rfl, hb13.trans (b14.mono hb13.size)⟩
          · rw [if_pos hrank] at KT
            clear hrank
            go_wp2_with fail
            (with_reducible refine KT.mono ?_)
            rintro e w14 ⟨a14, c14, rfl, h14, b14⟩
            have hb14 := hb13.trans (b14.mono hb13.size)
            simp only at h14 ⊢
            rw [HZ2.out] at h14 ⊢
            clear KT b14 hb13 hsum' h13
            obtain ⟨C, hC⟩ : ∃ C : Nat, C = cols.toNat := ⟨_, rfl⟩
            have hCc : cols = (C : Int) := by rw [hC]; exact HC.out
            rw [← hC] at z4 HZ2 HZ5 HZ6 h14 ⊢
            have HCc := Lib.hid hCc
            clear HC hC hCc
            have hs14 := hb14.size
            go_wp2_with fail
            go_loopw [16] (fun i wr => ∃ k : Nat, k ≤ C ∧ i = .int .i64 (k : Nat) ∧ Below w14.heap.size w14 wr) (fun i _ => (C - intOf i).toNat)
            case atStart => exact ⟨0, Nat.zero_le _, rfl, Below.refl _ _⟩
            case round =>
              obtain ⟨m, hm, rfl, hb⟩ := hrel
              by_cases hlt : m < C
              · obtain ⟨bX, oX, xa, xn, xc, lx, rfl, hcX0, hlX, hBX⟩ := H2.out.at (show m < n2 by have := HZ5.out; omega)
                obtain ⟨bY, oY, ya, yn, yc, ly, rfl, hcY0, hlY, hBY⟩ := H3.out.at (show m < n3 by have := HZ6.out; omega)
                obtain ⟨bZ, oZ, za, zn, zc, lz, rfl, hcZ0, hlZ, hBZ⟩ := h14.at hlt
                have hHB := hb14.trans (hb.mono hs14)
                have hlz : lz = addB lx ly := by
                  have := zip_getD l2 l3 (by rw [HE2.out, HE3.out, HZ5.out, HZ6.out]) m
                  rw [List.getD_eq_getElem?_getD, List.getD_eq_getElem?_getD, List.getD_eq_getElem?_getD, hlX, hlY, hlZ] at this
                  simpa using this
                have HXB := Lib.hid (hBX.below hHB)
                have HYB := Lib.hid (hBY.below hHB)
                have HZB := Lib.hid (hBZ.below hb)
                have HXL := Lib.hid hBX.length
                have HYL := Lib.hid hBY.length
                have hsmX := hBX.small
                have hsmY := hBY.small
                simp only at hsmX hsmY
                have hcX := cell_below hcX0 hHB
                have hcY := cell_below hcY0 hHB
                have hcZ := cell_below hcZ0 hb
                subst hlz
                clear hBX hBY hBZ hlX hlY hlZ
                have q2n : n2 ≤ 300 := g2
                have q5 := HZ5.out
                have q6 := HZ6.out
                have hmx : m < n2 := by omega
                have hmy : m < n3 := by omega
                clear q5 q6
                go_wp2_with fail
                go_region_held3 (fun w' => w'.cell? ⟨bX, oX + m, none⟩ = some (.slice xa xn xc) ∧ w'.cell? ⟨bY, oY + m, none⟩ = some (.slice ya yn yc) ∧ w'.cell? ⟨bZ, oZ + m, none⟩ = some (.slice za zn zc)) (first | exact ⟨hcX, hcY, hcZ⟩ | exact ⟨pX, pY, pZ⟩ | exact ⟨qX, qY, qZ⟩ | exact ⟨rX, rY, rZ⟩ | exact ⟨tX, tY, tZ⟩)
                  (first
                    | (go_at_call 23; (with_reducible refine (copyBytes_any xa xn xc lx _ ?hh).mono ?_); (case hh => exact HXB.out.below ⟨rfl, rfl, rfl, Nat.le_refl _, fun _ _ => rfl⟩); rintro e w20 ⟨a20, c20, rfl, o20, d20⟩; have b20 : Below wr.heap.size wr w20 := ⟨d20.os, d20.tape, d20.output, d20.size, d20.block⟩; have pX := cell_below hcX b20; have pY := cell_below hcY b20; have pZ := cell_below hcZ b20; have x20 := bytesV_of_owns o20 HXB.out.bytes (by rw [show lx.length = xn from HXL.out]; exact hsmX))
                    | (go_at_call 23; (with_reducible refine (copyBytes_any ya yn yc ly _ ?hh).mono ?_); (case hh => exact (HYB.out.below b20).below ⟨rfl, rfl, rfl, Nat.le_refl _, fun _ _ => rfl⟩); rintro e w21 ⟨a21, c21, rfl, o21, d21⟩; have b21 : Below w20.heap.size w20 w21 := ⟨d21.os, d21.tape, d21.output, d21.size, d21.block⟩; have b21' := b20.trans (b21.mono b20.size); have qX := cell_below hcX b21'; have qY := cell_below hcY b21'; have qZ := cell_below hcZ b21'; have x21 := x20.below b21; have y21 := bytesV_of_owns o21 HYB.out.bytes (by rw [show ly.length = yn from HYL.out]; exact hsmY))
                    | (go_at_call 24; (with_reducible refine (add_any _ _ _ lx _ _ _ ly _ ?h1 ?h2).mono ?_); (case h1 => exact x21.below ⟨rfl, rfl, rfl, Nat.le_refl _, fun _ _ => rfl⟩); (case h2 => exact y21.below ⟨rfl, rfl, rfl, Nat.le_refl _, fun _ _ => rfl⟩); rintro e w22 ⟨a22, c22, rfl, o22, d22⟩; have b22 : Below w21.heap.size w21 w22 := ⟨d22.os, d22.tape, d22.output, d22.size, d22.block⟩; have b22' := b21'.trans (b22.mono b21'.size); have rX := cell_below hcX b22'; have rY := cell_below hcY b22'; have rZ := cell_below hcZ b22'; have z22 := bytesV_of_owns o22 (addB_bytes HXB.out.bytes HYB.out.bytes) (by rw [addB_length, show lx.length = xn from HXL.out, show ly.length = yn from HYL.out]; omega))
                    | (go_at_call 25; (with_reducible refine (sameBytes_any _ _ _ (addB lx ly) _ _ _ (addB lx ly) _ ?h1 ?h2).mono ?_); (case h1 => exact (HZB.out.below b22').below ⟨rfl, rfl, rfl, Nat.le_refl _, fun _ _ => rfl⟩); (case h2 => exact z22.below ⟨rfl, rfl, rfl, Nat.le_refl _, fun _ _ => rfl⟩); rw [decide_eq_true rfl]; rintro e w23 ⟨rfl, d23⟩; have b23 : Below w22.heap.size w22 w23 := ⟨d23.os, d23.tape, d23.output, d23.size, d23.block⟩; have b23' := b22'.trans (b23.mono b22'.size); have tX := cell_below hcX b23'; have tY := cell_below hcY b23'; have tZ := cell_below hcZ b23'))
                all_goals
                  have hbe := hb.trans (b23'.mono hb.size)
                  clear b20 b21 b21' b22 b22' b23 b23' pX pY pZ qX qY qZ rX rY rZ tX tY tZ o20 o21 o22 x20 x21 y21 z22 d20 d21 d22 d23
                  go_wp2
                  go_roundw
                  case rel => exact ⟨m + 1, by omega, by go_num, hbe⟩
                  case measure => simp [intOf]; omega
              · obtain rfl : m = C := by omega
                have hCc := HCc.out
                subst hCc
                go_wp2
                go_ret
                exact ⟨rfl, hb14.trans (hb.mono hs14)⟩
end Go.Proofs.Ytgnnfpnkhemimaa
