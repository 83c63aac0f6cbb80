/-
  rilllaw04: source, copies; RqRound.
-/
import Derived.Test.YtkihgidhpggcfaaDoorMRq6
namespace Go.Proofs.YtkihgidhpggcfaaDoor
open Go.RowKit

theorem iv_oneQ (l : List Int) : ∀ u ∈ l.map iv, u.oneCell' = true := by
  intro u hu
  obtain ⟨x, _, rfl⟩ := List.mem_map.1 hu
  rfl
theorem iinfo : (Tryd.prog.info? 3).map (fun i => (i.zero, i.size, i.bytes)) = some (some (.int .i64 0), 1, 8) := by kernel_rfl
/-- ints of the call's own. -/
def GivesI (w : World) (l : List Int) (e : Ending) (w' : World) : Prop := ∃ a c, e = .returned (.slice a l.length c) ∧ w'.ownsRow w.heap.size 3 1 (.slice a l.length c) l.length (l.map iv) ∧ Below w.heap.size w w'
theorem intsV_ownQ {w : World} {base : Nat} {ad : Option Addr} {cap n : Nat} {l : List Int} (h : w.ownsRow base 3 1 (.slice ad n cap) n (l.map iv)) (hs : n ≤ 140737488355328) : IntsV w (ad, n, cap) l := by
  obtain ⟨ad', cap', e, hcase, hnc, _, hrow⟩ := ownsRow_parts h
  cases e
  exact ⟨hrow, hs, hnc, fun e => by rcases hcase with ⟨_, _, hc⟩ | ⟨g, hg, _⟩; exact hc; rw [hg] at e; cases e⟩
set_option maxHeartbeats 400000 in
theorem copyInts_rd (ad : Option Addr) (n c : Nat) (l : List Int) (w : World) (h : IntsV w (ad, n, c) l) (hn8 : n ≤ 1000) :
    Calls Tryd.prog 24 #[.slice ad n c] w (GivesI w l) := by
  obtain ⟨i0, hi, hz0, hz1, hz2⟩ := info_parts iinfo
  have hsm : n ≤ 140737488355328 := h.small
  have hl : l.length = n := h.length
  have hr := h.row.below (below_alloc w (.cells #[] 3))
  have hnil := h.nil
  have HL := Lib.hid hl
  have hown0 := World.ownsRow_made (base := w.heap.size) (e := 3) (size := 1) w #[] 0 (Nat.le_refl _) (by simp [maxLen]) rfl
  clear h hl
  go_enter Tryd.func24, Tryd.ntmps24
  go_wp2_with (first | (at_builtin; refine wpList_append_row rfl _ _ 33 rfl w.heap.size 3 i0 (.int .i64 0) 8 Tryd.underlying33 hi hz0 hz1 hz2 rfl _ _ _ rfl hown0 ad n c (l.map iv) rfl hr hnil (iv_oneQ l) (by simp [maxLen]; omega) (by omega) (by simp) ?_; intro v' w1 hown1 hgrow1 hnil1))
  obtain ⟨ad', cap', rfl, _⟩ := ownsRow_parts hown1
  have hb := below_grown (below_alloc w _) hgrow1 (ownBlock_ge hown0)
  simp only [Nat.zero_add, List.nil_append] at hown1 ⊢
  clear hgrow1 hnil1 hr
  go_wp2
  go_ret
  obtain rfl := HL.out
  exact ⟨ad', cap', rfl, hown1, hb⟩

/-- what source answers. -/
def GivesSrc (src : List (List Nat)) (w : World) (e : Ending) (w' : World) : Prop := ∃ b : Bool, e = .returned (.bool b) ∧ Below w.heap.size w w' ∧ (b = true → ∃ k t, SrcOK src k t)
set_option maxRecDepth 100000 in
set_option maxHeartbeats 2000000 in
theorem source_rd (a : Option Addr) (n c : Nat) (src : List (List Nat)) (w : World) (h : RD w a n src) (hn : n ≤ 140737488355328) :
    Calls Tryd.prog 34 #[.slice a n c] w (GivesSrc src w) := by
  have HLS := Lib.hid h.1
  have H := Lib.hid h
  have HM := Lib.hid h.mem
  clear h
  by_cases h1 : 1 ≤ n
  rotate_left 1
  · go_enter Tryd.func34, Tryd.ntmps34
    go_wp2
    go_ret
    exact ⟨false, rfl, Below.refl _ _, fun h => by cases h⟩
  by_cases h2 : n ≤ 32
  rotate_left 1
  · go_enter Tryd.func34, Tryd.ntmps34
    go_wp2
    go_ret
    exact ⟨false, rfl, Below.refl _ _, fun h => by cases h⟩
  obtain ⟨b, off, xa, t, xc, l0, rfl, hc0, hl0, hB0⟩ := H.out.at (i := 0) (by omega)
  rw [Nat.add_zero] at hc0
  have HL0 := Lib.hid hl0
  have HLL := Lib.hid (show l0.length = t from hB0.length)
  have i0' : (0 : Int) < (n : Int) := by omega
  clear hl0 hB0
  by_cases h3 : 1 ≤ t
  rotate_left 1
  · go_enter Tryd.func34, Tryd.ntmps34
    go_wp2
    go_ret
    exact ⟨false, rfl, Below.refl _ _, fun h => by cases h⟩
  by_cases h4 : t ≤ 64
  rotate_left 1
  · go_enter Tryd.func34, Tryd.ntmps34
    go_wp2
    go_ret
    exact ⟨false, rfl, Below.refl _ _, fun h => by cases h⟩
  go_enter Tryd.func34, Tryd.ntmps34
  go_wp2_with fail
  go_loopw [3] (fun i wr => ∃ m : Nat, 1 ≤ m ∧ m ≤ n ∧ i = .int .i64 (m : Nat) ∧ Hid (∀ j l, j < m → src[j]? = some l → l.length = t) ∧ Below w.heap.size w wr) (fun i _ => (n - intOf i).toNat)
  case atStart =>
    refine ⟨1, Nat.le_refl _, h1, rfl, Lib.hid (fun j l hj hl => ?_), Below.refl _ _⟩
    obtain rfl : j = 0 := by omega
    rw [HL0.out] at hl
    rw [← Option.some.inj hl]; exact HLL.out
  case round =>
    obtain ⟨m, hm1, hm, rfl, HZ, hb⟩ := hrel
    by_cases hlt : m < n
    · obtain ⟨b', off', ya, yn, yc, l, e, hc1, hl, hB⟩ := H.out.at hlt
      injection e with e
      injection e with e1 e2
      subst e1 e2
      have HL := Lib.hid hl
      have HLY := Lib.hid (show l.length = yn from hB.length)
      have hc := cell_below hc1 hb
      have hd := cell_below hc0 hb
      clear hl hB hc1
      by_cases h0 : yn = t
      · have h0' : ((yn : Int) != (t : Int)) = false := by simp [h0]
        have H0 := Lib.hid h0
        clear h0
        go_wp2
        go_quiet (fail)
        go_wp2
        go_roundw
        case rel => exact ⟨m + 1, by omega, by omega, by go_num, Lib.hid (fun j l' hj hl' => (by
          by_cases e : j = m
          · rw [e, HL.out] at hl'
            rw [← Option.some.inj hl', HLY.out]; exact H0.out
          · exact HZ.out j l' (by omega) hl')), below_drewR hb _⟩
        case measure => simp [intOf] <;> omega
      · have h0' : ((yn : Int) != (t : Int)) = true := by simp; omega
        clear h0
        go_wp2
        go_quiet (fail)
        go_wp2
        go_ret
        exact ⟨false, rfl, below_drewR hb _, fun h => by cases h⟩
    · obtain rfl : m = n := by omega
      go_wp2
      go_ret
      exact ⟨true, rfl, hb, fun _ => ⟨m, t, HLS.out, h1, h2, h3, h4, fun r hr => ⟨(HM.out r hr).1, by
        obtain ⟨j, hj⟩ := List.getElem?_of_mem hr
        exact HZ.out j r (by have := (List.getElem?_eq_some_iff.1 hj).1; rw [HLS.out] at this; exact this) hj⟩⟩⟩

set_option maxRecDepth 100000 in
set_option maxHeartbeats 8000000 in
theorem rqRound_walk (a1 : Option Addr) (n1 c1 : Nat) (s1 : List HdT) (l1 : List (List Nat)) (a2 : Option Addr) (n2 c2 : Nat) (l2 : List Int) (w : World) (hg : Bnd w)
    (v1 : RowV w a1 n1 (s1.map SV)) (r1 : RowsV w s1 l1) (t1 : n1 * 24 ≤ 140737488351232) (v2 : IntsV w (a2, n2, c2) l2) (_t2 : n2 * 8 ≤ 140737488351232) (_z2 : ∀ z ∈ l2, (Lit.int .i64 z).wf = true) :
    Calls Tryd.prog 7 #[.slice a1 n1 c1, .slice a2 n2 c2] w fun e w' => e = .returned (.bool true) ∧ Below w.heap.size w w' := by
  have h1 : RD w a1 n1 l1 := ⟨by rw [← r1.1]; have := v1.1; simpa using this, s1, v1, r1⟩
  have HE1 := Lib.hid h1.1
  have HE2 := Lib.hid (show l2.length = n2 from v2.length)
  have H1 := Lib.hid h1
  have H2 := Lib.hid v2
  have HG := Lib.hid hg
  clear h1 v1 r1 v2 hg
  go_enter Tryd.func7, Tryd.ntmps7
  go_wp2_with fail
  (with_reducible refine (alive_any _ HG.out).mono ?_)
  rintro e w1 ⟨rfl, hb1⟩
  go_wp2_with fail
  (with_reducible refine (source_rd _ _ _ l1 _ (H1.out.below hb1) (by omega)).mono ?_)
  rintro e w2 ⟨b, rfl, b2, hsrc⟩
  have hb2 := hb1.trans (b2.mono hb1.size)
  clear b2 hb1
  cases b with
  | false =>
    clear hsrc
    go_wp2
    go_ret
    exact ⟨rfl, hb2⟩
  | true =>
    obtain ⟨k, t, hS⟩ := hsrc rfl
    clear hsrc
    by_cases hn : n2 ≤ 60
    rotate_left 1
    · go_wp2
      go_ret
      exact ⟨rfl, hb2⟩
    obtain ⟨X, hX, hXl, hXr, hf, hs⟩ := inner_val hS
    obtain rfl : n1 = k := by rw [← HE1.out]; exact hS.len
    have hENC := encode_val hS hX l2
    have hk2 := hS.k2
    have hk1 := hS.k1
    have HSO := Lib.hid hS
    have HDV := Lib.hid (fun (hok : ∀ e ∈ l2, okE e = true) => decode_val hS hXl hXr hf hs (es := l2) (by rw [HE2.out]; omega) hok)
    have HENC := Lib.hid hENC
    have hwid := hS.wid
    obtain ⟨b0, off0, xa, t0, xc, r0, rfl, hc0, hr0, hB0⟩ := H1.out.at (i := 0) (by omega)
    have ht0 : t0 = t := by
      rw [← hwid]
      unfold widthB
      rw [List.getD_eq_getElem?_getD, hr0]
      exact hB0.length.symm
    subst ht0
    rw [Nat.add_zero] at hc0
    have i0' : (0 : Int) < (n1 : Int) := by omega
    clear hS hENC hX hXl hXr hf hs hwid hr0 hB0
    go_wp2_with fail
    (with_reducible refine (copyRows_rd _ _ _ l1 _ (H1.out.below hb2) (by omega)).mono ?_)
    rintro e w3 ⟨a3, c3, rfl, h3, b3⟩
    have hb3 := hb2.trans (b3.mono hb2.size)
    clear b3 hb2
    go_wp2_with fail
    (with_reducible refine (copyInts_rd _ _ _ l2 _ (H2.out.below hb3) (by omega)).mono ?_)
    rintro e w4 ⟨a4, c4, rfl, o4, b4⟩
    have hb4 := hb3.trans (b4.mono hb3.size)
    have h34 := h3.below b4
    have KE := encode_rd a3 n1 c3 l1 a4 l2.length c4 l2 w4 h34 (intsV_ownQ o4 (by rw [HE2.out]; omega)) (by rw [HE2.out]; omega) (HG.out.below hb4)
    rw [HENC.out] at KE
    clear b4 hb3 h3 o4 h34
    by_cases hall : l2.all okE = true
    rotate_left 1
    · rw [if_neg hall] at KE
      clear hall
      go_wp2_with fail
      (with_reducible refine KE.mono ?_)
      rintro e w5 ⟨a5, c5, rfl, -, b5⟩
      have hb5 := hb4.trans (b5.mono hb4.size)
      go_wp2
      go_ret
      exact ⟨rfl, hb5⟩
    rw [if_pos hall] at KE
    have hok : ∀ e ∈ l2, okE e = true := fun e he => List.all_eq_true.1 hall e he
    obtain ⟨PS, hPS⟩ : ∃ PS, PS = l2.map (pieceOf n1 X) := ⟨_, rfl⟩
    have hdv := HDV.out hok
    have hPl : PS.length = n2 := by rw [hPS, List.length_map]; exact HE2.out
    rw [← hPS] at KE hdv
    have hen := enough_iff (k := n1) hk1 hk2 (es := l2) (by rw [HE2.out]; omega) hall
    have HEN := Lib.hid hen
    have HDC := Lib.hid hdv
    clear hok hPS hdv hen HDV HENC hall
    go_wp2_with fail
    (with_reducible refine KE.mono ?_)
    rintro e w5 ⟨a5, c5, rfl, hP, b5⟩
    simp only at hP ⊢
    have hb5 := hb4.trans (b5.mono hb4.size)
    have q0 := cell_below hc0 hb5
    have hPi := hP.pi
    rw [hPl] at hPi
    have KD := decode_rd (n1 : Int) (t0 : Int) a5 n2 c5 PS w5 hPi (by omega) (HG.out.below hb5)
    have hs5 := hb5.size
    clear KE hb4 b5 hP hPi
    by_cases hE : enoughP n1 l2
    · have hbt := HEN.out.2 hE
      have hdc := HDC.out.1 hE
      rw [hdc] at KD
      have HBT := Lib.hid hbt
      clear hE hbt hdc
      go_wp2_with fail
      (with_reducible refine KD.mono ?_)
      rintro e w6 ⟨a6, c6, rfl, h6, b6⟩
      simp only at h6 ⊢
      have hb6 := hb5.trans (b6.mono hs5)
      clear KD b6 hb5 q0
      go_wp2_with fail
      (with_reducible refine (copyInts_rd _ _ _ l2 _ (H2.out.below hb6) (by omega)).mono ?_)
      rintro e w7 ⟨a7, c7, rfl, o7, b7⟩
      have hb7 := hb6.trans (b7.mono hb6.size)
      have h67 := h6.below b7
      have KN := enough_rd (n1 : Int) a7 l2.length c7 l2 w7 (intsV_ownQ o7 (by rw [HE2.out]; omega)) (HG.out.below hb7)
      rw [HBT.out] at KN
      clear b7 hb6 h6 o7
      go_wp2_with fail
      (with_reducible refine KN.mono ?_)
      rintro e w8 ⟨rfl, b8⟩
      have hb8 := hb7.trans (b8.mono hb7.size)
      have KQ := sameRows_rd a6 l1.length c6 l1 (some ⟨b0, off0, none⟩) n1 c1 l1 w8 (h67.below b8) (H1.out.below hb8) (by rw [HE1.out]; omega)
      rw [decide_eq_true rfl] at KQ
      clear KN b8 hb7 h67
      go_wp2_with fail
      (with_reducible refine KQ.mono ?_)
      rintro e w9 ⟨rfl, b9⟩
      go_wp2
      go_ret
      exact ⟨rfl, hb8.trans (b9.mono hb8.size)⟩
    · have hbt : enoughB (n1 : Int) l2 = false := by
        cases h : enoughB (n1 : Int) l2 with
        | false => rfl
        | true => exact absurd (HEN.out.1 h) hE
      have hdc := HDC.out.2 hE
      rw [hdc] at KD
      have HBT := Lib.hid hbt
      clear hE hbt hdc
      go_wp2_with fail
      (with_reducible refine KD.mono ?_)
      rintro e w6 ⟨a6, c6, rfl, h6, b6⟩
      simp only [List.length_nil] at h6 ⊢
      have hb6 := hb5.trans (b6.mono hs5)
      clear KD b6 hb5 q0 h6
      go_wp2_with fail
      (with_reducible refine (copyInts_rd _ _ _ l2 _ (H2.out.below hb6) (by omega)).mono ?_)
      rintro e w7 ⟨a7, c7, rfl, o7, b7⟩
      have hb7 := hb6.trans (b7.mono hb6.size)
      have KN := enough_rd (n1 : Int) a7 l2.length c7 l2 w7 (intsV_ownQ o7 (by rw [HE2.out]; omega)) (HG.out.below hb7)
      rw [HBT.out] at KN
      clear b7 hb6 o7
      go_wp2_with fail
      (with_reducible refine KN.mono ?_)
      rintro e w8 ⟨rfl, b8⟩
      have HB8 := Lib.hid (hb7.trans (b8.mono hb7.size))
      clear KN b8 hb7
      go_wp2
      go_ret
      exact ⟨rfl, HB8.out⟩
end Go.Proofs.YtkihgidhpggcfaaDoor
