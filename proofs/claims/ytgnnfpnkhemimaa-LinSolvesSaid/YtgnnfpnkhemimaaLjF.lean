/-
  rilllaw02: the reference's right, even, Apply; LinApplies.
-/
import Derived.Test.YtgnnfpnkhemimaaLjE
import Derived.Test.YtgnnfpnkhemimaaGfG
namespace Go.Proofs.Ytgnnfpnkhemimaa
open Go.RowKit

set_option maxRecDepth 100000 in
set_option maxHeartbeats 2000000 in
theorem refRight_rd (cols : Int) (a : Option Addr) (n c : Nat) (ls : List (List Nat)) (w : World) (h : RD w a n ls) (hn : n ≤ 1000) :
    Calls Try.prog 30 #[.int .i64 cols, .slice a n c] w fun e w' => e = .returned (.bool (rightB cols ls)) ∧ w = w' := by
  have HLS := Lib.hid h.1
  have H := Lib.hid h
  unfold rightB
  rw [h.1]
  clear h
  by_cases h1 : 1 ≤ cols
  rotate_left 1
  · have h1' : cols < 1 := by omega
    rw [decide_eq_false h1]
    clear h1
    go_enter Try.func30, Try.ntmps30
    go_wp2
    go_ret
    exact ⟨rfl, rfl⟩
  by_cases h2 : cols ≤ 128
  rotate_left 1
  · rw [decide_eq_false h2, decide_eq_true h1]
    go_enter Try.func30, Try.ntmps30
    go_wp2
    go_ret
    exact ⟨rfl, rfl⟩
  by_cases h3 : n ≤ 256
  rotate_left 1
  · rw [decide_eq_false h3, decide_eq_true h1, decide_eq_true h2]
    go_enter Try.func30, Try.ntmps30
    go_wp2
    go_ret
    exact ⟨rfl, rfl⟩
  rw [decide_eq_true h1, decide_eq_true h2, decide_eq_true h3]
  simp only [Bool.true_and]
  go_enter Try.func30, Try.ntmps30
  go_wp2
  go_loopw [5] (fun i wr => ∃ m : Nat, m ≤ n ∧ i = .int .i64 (m : Nat) ∧ Hid (∀ j l, j < m → ls[j]? = some l → (l.length : Int) = cols) ∧ wr = w) (fun i _ => (n - intOf i).toNat)
  case atStart => exact ⟨0, Nat.zero_le _, rfl, Lib.hid (fun j _ hj => absurd hj (Nat.not_lt_zero _)), rfl⟩
  case round =>
    obtain ⟨m, hm, rfl, HZ, rfl⟩ := hrel
    by_cases hlt : m < n
    · obtain ⟨b, off, xa, xn, xc, l, rfl, hc, hl, hB⟩ := H.out.at hlt
      have HLL := Lib.hid (show l.length = xn from hB.length)
      have HL := Lib.hid hl
      clear hl hB
      by_cases h0 : (xn : Int) = cols
      · have h0' : ((xn : Int) != cols) = false := by simp [h0]
        have H0 := Lib.hid h0
        clear h0
        go_wp2
        go_roundw
        case rel => exact ⟨m + 1, by omega, by go_num, Lib.hid (fun j l' hj hl' => (by
          by_cases e : j = m
          · rw [e, HL.out] at hl'
            injection hl' with hl'
            rw [← hl', HLL.out]; exact H0.out
          · exact HZ.out j l' (by omega) hl')), by first | exact rfl | exact trivial⟩
        case measure => simp [intOf] <;> omega
      · have h0' : ((xn : Int) != cols) = true := by simp [h0]
        have he : evenB ls cols = false := by
          cases e : evenB ls cols with
          | false => rfl
          | true => exact absurd (by rw [← HLL.out]; exact evenB_iff.1 e l (List.mem_of_getElem? HL.out)) h0
        clear h0
        go_wp2
        go_ret
        rw [he]
        exact ⟨rfl, rfl⟩
    · obtain rfl : m = n := by omega
      have he : evenB ls cols = true := evenB_iff.2 fun l hl => by
        obtain ⟨j, hj⟩ := List.getElem?_of_mem hl
        exact HZ.out j l (by have := (List.getElem?_eq_some_iff.1 hj).1; rw [HLS.out] at this; exact this) hj
      go_wp2
      go_ret
      rw [he]
      exact ⟨rfl, rfl⟩

set_option maxRecDepth 100000 in
set_option maxHeartbeats 2000000 in
theorem refEven_rd (a : Option Addr) (n c : Nat) (ls : List (List Nat)) (w : World) (h : RD w a n ls) (hn : n ≤ 1000) :
    Calls Try.prog 36 #[.slice a n c] w fun e w' => e = .returned (.bool (evenB ls (widthB ls : Nat))) ∧ Below w.heap.size w w' := by
  have HLS := Lib.hid h.1
  have H := Lib.hid h
  clear h
  go_enter Try.func36, Try.ntmps36
  go_wp2
  go_loopw [3] (fun i wr => ∃ m : Nat, 1 ≤ m ∧ (m = 1 ∨ m ≤ n) ∧ i = .int .i64 (m : Nat) ∧ Hid (∀ j l, j < m → ls[j]? = some l → l.length = widthB ls) ∧ Below w.heap.size w wr) (fun i _ => (n - intOf i).toNat)
  case atStart =>
    refine ⟨1, Nat.le_refl _, .inl rfl, rfl, Lib.hid (fun j l hj hl => ?_), Below.refl _ _⟩
    obtain rfl : j = 0 := by omega
    unfold widthB
    rw [List.getD_eq_getElem?_getD, hl]
    rfl
  case round =>
    obtain ⟨m, h1, hm, rfl, HZ, hb⟩ := hrel
    by_cases hlt : m < n
    · obtain ⟨b, off, xa, xn, xc, l, rfl, hc0, hl, hB⟩ := H.out.at hlt
      obtain ⟨b', off', ya, yn, yc, l0, e, hc1, hl0, hB0⟩ := H.out.at (i := 0) (by omega)
      injection e with e
      injection e with e1 e2
      subst e1 e2
      have HLL := Lib.hid (show l.length = xn from hB.length)
      have HL := Lib.hid hl
      have hw : widthB ls = yn := by
        unfold widthB
        rw [List.getD_eq_getElem?_getD, hl0]
        exact hB0.length
      have HW := Lib.hid hw
      have hc := cell_below hc0 hb
      have hd := cell_below hc1 hb
      rw [Nat.add_zero] at hd
      have j0 : 0 < n := by omega
      have i0' : (0 : Int) < (n : Int) := by omega
      clear hl hB hl0 hB0 hc0 hc1 hw
      by_cases h0 : xn = yn
      · have h0' : ((xn : Int) != (yn : Int)) = false := by simp [h0]
        have H0 := Lib.hid h0
        clear h0
        go_wp2
        go_quiet (fail)
        go_wp2
        go_roundw
        case rel => exact ⟨m + 1, by omega, .inr (by omega), by go_num, Lib.hid (fun j l' hj hl' => (by
          by_cases e : j = m
          · rw [e, HL.out] at hl'
            injection hl' with hl'
            rw [← hl', HLL.out, H0.out, HW.out]
          · exact HZ.out j l' (by omega) hl')), below_drewN hb _⟩
        case measure => simp [intOf] <;> omega
      · have h0' : ((xn : Int) != (yn : Int)) = true := by simp; omega
        have he : evenB ls (widthB ls : Nat) = false := by
          cases e : evenB ls (widthB ls : Nat) with
          | false => rfl
          | true =>
            have := evenB_iff.1 e l (List.mem_of_getElem? HL.out)
            rw [HLL.out, HW.out] at this
            omega
        clear h0
        go_wp2
        go_quiet (fail)
        go_wp2
        go_ret
        rw [he]
        exact ⟨rfl, below_drewN hb _⟩
    · have he : evenB ls (widthB ls : Nat) = true := evenB_iff.2 fun l hl => by
        obtain ⟨j, hj⟩ := List.getElem?_of_mem hl
        have := HZ.out j l (by have := (List.getElem?_eq_some_iff.1 hj).1; rw [HLS.out] at this; omega) hj
        omega
      go_wp2
      go_ret
      rw [he]
      exact ⟨rfl, hb⟩

theorem refMix_rd (adk : Option Addr) (lk ck : Nat) (ks : List Nat) (a : Option Addr) (n c : Nat) (xs : List (List Nat)) (w : World) (hks : BytesV w (adk, lk, ck) ks) (h : RD w a n xs) (hn : n ≤ 1000) :
    Calls Try.prog 38 #[.slice adk lk ck, .slice a n c] w (GivesBytes 5 w (mixTo ks xs (longest xs xs.length) xs.length)) := by
  obtain ⟨h1, hs, h2, h3⟩ := h
  rw [h1, ← refMix_mix]
  exact refMix_any adk lk ck ks a n c hs xs w hks h2 (by omega) h3
theorem apply_step {rows xs : List (List Nat)} {k : Nat} {r : List Nat} (h : rows[k]? = some r) : (applyOf rows xs).take (k + 1) = (applyOf rows xs).take k ++ [mixTo r xs (longest xs xs.length) xs.length] := by
  apply take_step
  unfold applyOf
  rw [List.getElem?_map, h]
  rfl
theorem mix_mem {xs : List (List Nat)} (hx : Mem xs) {r : List Nat} (hr : Bytes r) : Bytes (mixTo r xs (longest xs xs.length) xs.length) ∧ (mixTo r xs (longest xs xs.length) xs.length).length ≤ 140737488355328 := by
  refine ⟨mixTo_bytes hr _ _ _, ?_⟩
  rw [mixTo_length]
  have : ∀ k, longest xs k ≤ 140737488355328 := fun k => by
    induction k with
    | zero => exact Nat.zero_le _
    | succ k ih =>
      simp only [longest]
      have : (xs.getD k []).length ≤ 140737488355328 := by
        by_cases hk : k < xs.length
        · rw [List.getD_eq_getElem?_getD, List.getElem?_eq_getElem hk]; exact (hx _ (List.getElem_mem hk)).2
        · rw [List.getD_eq_getElem?_getD, List.getElem?_eq_none (by omega)]; simp
      omega
  exact this _
theorem givesR_nil {w w' : World} {code : Int} (hb : Below w.heap.size w w') : GivesR w ([], code) (.returned (.tuple #[.slice none 0 0, .int .i64 code])) w' := ⟨none, 0, rfl, RD.nil _ _, hb⟩
set_option maxRecDepth 100000 in
set_option maxHeartbeats 4000000 in
theorem refApply_rd (cols : Int) (ar : Option Addr) (nr cr : Nat) (rows : List (List Nat)) (ax : Option Addr) (nx cx : Nat) (xs : List (List Nat)) (w : World) (h : RD w ar nr rows) (k : RD w ax nx xs) (hn : nr ≤ 1000) (hx : nx ≤ 1000) :
    Calls Try.prog 21 #[.int .i64 cols, .slice ar nr cr, .slice ax nx cx] w (GivesR w (applyR cols rows xs)) := by
  obtain ⟨i0, hi, hz0, hz1, hz2⟩ := info_parts Try.info34
  have HR := Lib.hid h
  have HX := Lib.hid k
  have HER := Lib.hid h.1
  have HEX := Lib.hid k.1
  have HMX := Lib.hid k.mem
  have HMR := Lib.hid h.mem
  have KR := refRight_rd cols ar nr cr rows w h hn
  have KE := refEven_rd ax nx cx xs w k hx
  clear h k
  by_cases hB : applyOK cols rows xs = true
  rotate_left 1
  · rw [apply_no hB]
    by_cases h1 : rightB cols rows = true
    rotate_left 1
    · have h1' : rightB cols rows = false := by simpa using h1
      rw [h1'] at KR
      clear h1 h1' hB KE
      go_enter Try.func21, Try.ntmps21
      go_wp2_with fail
      (with_reducible refine KR.mono ?_)
      rintro x w1 ⟨rfl, rfl⟩
      go_wp2
      go_ret2
      exact givesR_nil (Below.refl _ _)
    rw [h1] at KR
    by_cases h2 : (nx : Int) = cols
    rotate_left 1
    · have h2' : ((nx : Int) != cols) = true := by rw [bne_iff_ne]; exact h2
      clear h1 h2 hB KE
      go_enter Try.func21, Try.ntmps21
      go_wp2_with fail
      (with_reducible refine KR.mono ?_)
      rintro x w1 ⟨rfl, rfl⟩
      go_wp2
      go_ret2
      exact givesR_nil (Below.refl _ _)
    have h3 : evenB xs (widthB xs : Nat) = false := by
      cases e : evenB xs (widthB xs : Nat) with
      | false => rfl
      | true => exact absurd (applyOK_iff.2 ⟨h1, by rw [HEX.out]; exact h2, e⟩) hB
    rw [h3] at KE
    have h2' : ((nx : Int) != cols) = false := by simp [h2]
    clear h1 h2 h3 hB
    go_enter Try.func21, Try.ntmps21
    go_wp2_with fail
    (with_reducible refine KR.mono ?_)
    rintro x w1 ⟨rfl, rfl⟩
    go_wp2_with fail
    (with_reducible refine KE.mono ?_)
    rintro x w1 ⟨rfl, b1⟩
    go_wp2
    go_ret2
    exact givesR_nil b1
  obtain ⟨h1, h2, h3⟩ := applyOK_iff.1 hB
  rw [h1] at KR
  rw [h3] at KE
  rw [HEX.out] at h2
  have h2' : ((nx : Int) != cols) = false := by simp [h2]
  have hap : applyR cols rows xs = (applyOf rows xs, 0) := by unfold applyR; rw [if_pos hB]
  rw [hap]
  have hla : (applyOf rows xs).length = nr := by unfold applyOf; rw [List.length_map, HER.out]
  have HLA := Lib.hid hla
  clear h1 h2 h3 hB hap hla
  go_enter Try.func21, Try.ntmps21
  go_wp2_with fail
  (with_reducible refine KR.mono ?_)
  rintro x w1 ⟨rfl, rfl⟩
  go_wp2_with fail
  (with_reducible refine KE.mono ?_)
  rintro x w1 ⟨rfl, b1⟩
  clear KR KE
  have hs1 := b1.size
  have hown0 := World.ownsRow_made (base := w1.heap.size) (e := 34) (size := 1) w1 #[] 0 (Nat.le_refl _) (by simp [maxLen]) rfl
  have HO0 := Lib.hid hown0
  clear hown0
  go_wp2_with fail
  go_loopw [8, 9] (fun v i wr => ∃ m ad cap, m ≤ nr ∧ i = .int .i64 (m : Nat) ∧ v = .slice ad m cap ∧ OwnRs wr w1.heap.size ad m cap ((applyOf rows xs).take m) ∧ Below w1.heap.size w1 wr) (fun _ i _ => (nr - intOf i).toNat)
  case atStart => exact ⟨0, _, _, Nat.zero_le _, rfl, rfl, ⟨by simp, [], HO0.out, ⟨rfl, fun i x l h => by simp at h⟩, fun l hl => by simp at hl⟩, below_alloc _ _⟩
  case round =>
    obtain ⟨m, ad, cap, hm, rfl, rfl, hO, hb⟩ := hrel
    have hHB := b1.trans (hb.mono hs1)
    have hbs := hb.size
    by_cases hlt : m < nr
    · obtain ⟨b, off, xa, xn, xc, r, rfl, hc0, hr, hB⟩ := HR.out.at hlt
      have hc := cell_below hc0 hHB
      have HST := Lib.hid (apply_step (xs := xs) hr)
      have HBB := Lib.hid hB
      have HMM := Lib.hid (mix_mem HMX.out hB.bytes)
      have KM := refMix_rd xa xn xc r ax nx cx xs wr (hB.below hHB) (HX.out.below hHB) hx
      obtain ⟨M, hM⟩ : ∃ M, M = mixTo r xs (longest xs xs.length) xs.length := ⟨_, rfl⟩
      rw [← hM] at KM HST HMM
      clear hr hB hc0 hM
      go_wp2_with fail
      (with_reducible refine KM.mono ?_)
      rintro e w7 ⟨a8, c8, rfl, o8, b7⟩
      have hb7 := hb.trans (b7.mono hbs)
      obtain ⟨-, hs, ho7, hO7, hm7⟩ := hO.below b7
      have o8' := ownsRow_base (base' := w1.heap.size) o8 hbs
      clear KM hc hO
      have hs7 := hb7.size
      go_wp2_with (first | (at_builtin; refine Hid.out ?_))
      refine Lib.hid ?_
      refine wpList_append_row rfl _ _ 22 rfl w1.heap.size 34 i0 (.slice none 0 0) 24 Try.underlying22 hi hz0 hz1 hz2 rfl _ _ _ rfl (ho7.alloc _) (some ⟨w7.heap.size, 0, none⟩) 1 1 [SV (a8, M.length, c8)] rfl (rowV_lit w7 _ _ _ 1 _ rfl rfl rfl) (fun h => by cases h) (SV_one [(a8, M.length, c8)]) (by simp [maxLen]; omega) (by omega) (by simp; omega) ?_
      intro v' w9 hE9 g9 _
      have hb9 := below_grown (hb7.alloc hb7.size (.cells #[.slice a8 M.length c8] 34)) g9 (fun k hk => (ho7.lt k hk).1)
      obtain ⟨a9, c9, rfl, h9⟩ := append_own (x := (a8, M.length, c8)) (ho7.alloc (.cells #[.slice a8 M.length c8] 34)) (hO7.below (below_alloc _ _)) hm7 hE9 g9 (o8'.alloc _) rfl HMM.out
      rw [← HST.out] at h9
      clear ho7 hO7 hm7 o8 o8' hE9 g9 b7 hb7 hs7 hHB hb
      go_wp2
      go_roundw
      case rel => exact ⟨m + 1, _, _, by omega, by go_num, rfl, h9, hb9⟩
      case measure => simp [intOf] <;> omega
    · obtain rfl : m = nr := by omega
      rw [List.take_of_length_le (by rw [HLA.out]; omega)] at hO
      go_wp2
      go_ret2
      have hl := HLA.out
      subst hl
      exact ⟨ad, cap, rfl, hO.rd, hHB⟩

set_option maxRecDepth 100000 in
set_option maxHeartbeats 8000000 in
theorem linApplies_walk (cols : Int) (a1 : Option Addr) (n1 c1 : Nat) (s1 : List HdT) (l1 : List (List Nat)) (a2 : Option Addr) (n2 c2 : Nat) (s2 : List HdT) (l2 : List (List Nat)) (w : World) (_w0 : (Lit.int .i64 cols).wf = true)
    (v1 : RowV w a1 n1 (s1.map SV)) (r1 : RowsV w s1 l1) (_t1 : n1 * 24 ≤ 140737488351232) (v2 : RowV w a2 n2 (s2.map SV)) (r2 : RowsV w s2 l2) (_t2 : n2 * 24 ≤ 140737488351232) :
    Calls Try.prog 5 #[.int .i64 cols, .slice a1 n1 c1, .slice a2 n2 c2] w fun e w' => e = .returned (.bool true) ∧ Below w.heap.size w w' := by
  have h1 : RD w a1 n1 l1 := ⟨by rw [← r1.1]; have := v1.1; simpa using this, s1, v1, r1⟩
  have h2 : RD w a2 n2 l2 := ⟨by rw [← r2.1]; have := v2.1; simpa using this, s2, v2, r2⟩
  have HE1 := Lib.hid h1.1
  have HE2 := Lib.hid h2.1
  have H1 := Lib.hid h1
  have H2 := Lib.hid h2
  clear h1 h2 v1 r1 v2 r2
  go_enter Try.func5, Try.ntmps5
  go_wp2_with fail
  (with_reducible refine (alive_any _).mono ?_)
  rintro e w1 ⟨rfl, hb1⟩
  go_wp2_with fail
  (with_reducible refine (great_rd _ _ _ l1 _ _ _ l2 _ (H1.out.below hb1) (H2.out.below hb1)).mono ?_)
  rintro e w2 ⟨t, rfl, b2, hg⟩
  have hb2 := hb1.trans (b2.mono hb1.size)
  clear b2 hb1
  cases t with
  | true =>
    clear hg
    go_wp2
    go_ret
    exact ⟨rfl, hb2⟩
  | false =>
    obtain ⟨g1, g2, -⟩ := hg rfl
    rw [HE1.out] at g1
    rw [HE2.out] at g2
    clear hg
    have hlen : (applyR cols l1 l2).1.length ≤ 1000 := by
      unfold applyR
      split
      · unfold applyOf; simp [HE1.out]; omega
      · simp
    have KA := fun ar cr ax cx w h k => apply_rd cols ar n1 cr l1 ax n2 cx l2 w h k (by omega) (by omega)
    have KB := fun ar cr ax cx w h k => refApply_rd cols ar n1 cr l1 ax n2 cx l2 w h k (by omega) (by omega)
    generalize applyR cols l1 l2 = S at KA KB hlen
    obtain ⟨X, code⟩ := S
    simp only at hlen
    go_wp2_with fail
    (with_reducible refine (copyRows_rd _ _ _ l1 _ (H1.out.below hb2) (by omega)).mono ?_)
    rintro e w3 ⟨a3, c3, rfl, h3, b3⟩
    have hb3 := hb2.trans (b3.mono hb2.size)
    clear b3 hb2
    go_wp2_with fail
    (with_reducible refine (copyRows_rd _ _ _ l2 _ (H2.out.below hb3) (by omega)).mono ?_)
    rintro e w4 ⟨a4, c4, rfl, h4, b4⟩
    have hb4 := hb3.trans (b4.mono hb3.size)
    have h34 := h3.below b4
    clear b4 hb3 h3
    go_wp2_with fail
    (with_reducible refine (KA _ _ _ _ _ h34 h4).mono ?_)
    rintro e w5 ⟨a5, c5, rfl, h5, b5⟩
    have hb5 := hb4.trans (b5.mono hb4.size)
    have h35 := h34.below b5
    have h45 := h4.below b5
    clear KA b5 hb4 h34 h4
    simp only at h5 ⊢
    go_wp2_with fail
    (with_reducible refine (KB _ _ _ _ _ (H1.out.below hb5) (H2.out.below hb5)).mono ?_)
    rintro e w6 ⟨a6, c6, rfl, h6, b6⟩
    have hb6 := hb5.trans (b6.mono hb5.size)
    have h36 := h35.below b6
    have h46 := h45.below b6
    have h56 := h5.below b6
    clear KB b6 hb5 h35 h45 h5
    simp only at h6 ⊢
    have KQ := sameRows_rd a5 X.length c5 X a6 X.length c6 X w6 h56 h6 hlen
    rw [decide_eq_true rfl] at KQ
    go_wp2_with fail
    (with_reducible refine KQ.mono ?_)
    rintro e w7 ⟨rfl, b7⟩
    have hb7 := hb6.trans (b7.mono hb6.size)
    have KQ1 := sameRows_rd a3 n1 c3 l1 a1 n1 c1 l1 w7 (h36.below b7) (H1.out.below hb7) (by omega)
    have h47 := h46.below b7
    rw [decide_eq_true rfl] at KQ1
    clear KQ b7 hb6 h36 h46 h56 h6
    go_wp2_with fail
    (with_reducible refine KQ1.mono ?_)
    rintro e w8 ⟨rfl, b8⟩
    have hb8 := hb7.trans (b8.mono hb7.size)
    have KQ2 := sameRows_rd a4 n2 c4 l2 a2 n2 c2 l2 w8 (h47.below b8) (H2.out.below hb8) (by omega)
    rw [decide_eq_true rfl] at KQ2
    clear KQ1 b8 hb7 h47
    go_wp2_with fail
    (with_reducible refine KQ2.mono ?_)
    rintro e w9 ⟨rfl, b9⟩
    go_wp2
    go_ret
    exact ⟨rfl, hb8.trans (b9.mono hb8.size)⟩
end Go.Proofs.Ytgnnfpnkhemimaa
