/-
  rilllaw04: RqEncodes.
-/
import Derived.Test.YtkihgidhpggcfaaDoorMRrP
namespace Go.Proofs.YtkihgidhpggcfaaDoor
open Go.RowKit

theorem encodeR_len (src : List (List Nat)) (es : List Int) : (encodeR src es).1.length ≤ es.length := by
  unfold encodeR
  split
  · split
    · simp
    · simp
  · simp
set_option maxRecDepth 100000 in
set_option maxHeartbeats 8000000 in
theorem rqEncodes_walk (a1 : Option Addr) (n1 c1 : Nat) (s1 : List HdT) (l1 : List (List Nat)) (a2 : Option Addr) (n2 c2 : Nat) (l2 : List Int) (w : World) (hg : Bnd w)
    (v1 : RowV w a1 n1 (s1.map SV)) (r1 : RowsV w s1 l1) (t1 : n1 * 24 ≤ 140737488351232) (v2 : IntsV w (a2, n2, c2) l2) (_t2 : n2 * 8 ≤ 140737488351232) (_z2 : ∀ z ∈ l2, (Lit.int .i64 z).wf = true) :
    Calls Tryd.prog 4 #[.slice a1 n1 c1, .slice a2 n2 c2] w fun e w' => e = .returned (.bool true) ∧ Below w.heap.size w w' := by
  have h1 : RD w a1 n1 l1 := ⟨by rw [← r1.1]; have := v1.1; simpa using this, s1, v1, r1⟩
  have HE1 := Lib.hid h1.1
  have HE2 := Lib.hid (show l2.length = n2 from v2.length)
  have H1 := Lib.hid h1
  have H2 := Lib.hid v2
  have HG := Lib.hid hg
  have KI := fun a n c W h g => inner_rd a n c l1 W h g
  have KI2 := fun W h => refInner_rd a1 n1 c1 l1 W h
  have KE := fun a n c a2 n2 c2 W h k hk g => encode_rd a n c l1 a2 n2 c2 l2 W h k hk g
  have KE2 := fun W h k hk => refEncode_rd a1 n1 c1 l1 a2 n2 c2 l2 W h k hk
  obtain ⟨I, hI⟩ : ∃ I, I = innerR l1 := ⟨_, rfl⟩
  obtain ⟨E, hE⟩ : ∃ E, E = encodeR l1 l2 := ⟨_, rfl⟩
  have hIl : I.1.length ≤ 1000 := by rw [hI]; exact inner_len l1
  have hEl : E.1.length ≤ n2 := by rw [hE]; exact Nat.le_trans (encodeR_len l1 l2) (Nat.le_of_eq HE2.out)
  simp only [← hI] at KI KI2
  simp only [← hE] at KE KE2
  obtain ⟨IL, ic⟩ := I
  obtain ⟨EL, ec⟩ := E
  simp only at hIl hEl
  clear h1 v1 r1 v2 hg hI hE
  go_enter Tryd.func4, Tryd.ntmps4
  go_wp2_with fail
  (with_reducible refine (alive_any _ HG.out).mono ?_)
  rintro e w1 ⟨rfl, hb1⟩
  by_cases hn1 : n1 ≤ 40
  rotate_left 1
  · go_wp2
    go_ret
    exact ⟨rfl, hb1⟩
  by_cases hn2 : n2 ≤ 100
  rotate_left 1
  · go_wp2
    go_ret
    exact ⟨rfl, hb1⟩
  go_wp2_with fail
  (with_reducible refine (copyRows_rd _ _ _ l1 _ (H1.out.below hb1) (by omega)).mono ?_)
  rintro e w2 ⟨a3, c3, rfl, h3, b2⟩
  have hb2 := hb1.trans (b2.mono hb1.size)
  have H3 := Lib.hid h3
  clear b2 hb1 h3
  go_wp2_with fail
  (with_reducible refine (KI _ _ _ _ H3.out (HG.out.below hb2)).mono ?_)
  rintro e w3 ⟨a4, c4, rfl, h4, b3⟩
  simp only at h4 ⊢
  have hb3 := hb2.trans (b3.mono hb2.size)
  have H3 := Lib.hid (H3.out.below b3)
  have H4 := Lib.hid h4
  clear b3 hb2 h4 KI
  go_wp2_with fail
  (with_reducible refine (KI2 _ (H1.out.below hb3)).mono ?_)
  rintro e w4 ⟨a5, c5, rfl, h5, b4⟩
  simp only at h5 ⊢
  have hb4 := hb3.trans (b4.mono hb3.size)
  have H3 := Lib.hid (H3.out.below b4)
  have KQ := sameRows_rd a4 IL.length c4 IL a5 IL.length c5 IL w4 (H4.out.below b4) h5 hIl
  rw [decide_eq_true rfl] at KQ
  clear b4 hb3 h5 KI2
  go_wp2_with fail
  (with_reducible refine KQ.mono ?_)
  rintro e w5 ⟨rfl, b5⟩
  have hb5 := hb4.trans (b5.mono hb4.size)
  have H3 := Lib.hid (H3.out.below b5)
  clear b5 hb4 KQ
  go_wp2_with fail
  (with_reducible refine (copyInts_rd _ _ _ l2 _ (H2.out.below hb5) (by omega)).mono ?_)
  rintro e w6 ⟨a7, c7, rfl, o7, b6⟩
  have hb6 := hb5.trans (b6.mono hb5.size)
  have H3 := Lib.hid (H3.out.below b6)
  have H7 := Lib.hid (intsV_ownQ o7 (by rw [HE2.out]; omega))
  clear b6 hb5 o7
  go_wp2_with fail
  (with_reducible refine (KE _ _ _ _ _ _ _ H3.out H7.out (by rw [HE2.out]; omega) (HG.out.below hb6)).mono ?_)
  rintro e w7 ⟨a8, c8, rfl, h8, b7⟩
  simp only at h8 ⊢
  have hb7 := hb6.trans (b7.mono hb6.size)
  have H3 := Lib.hid (H3.out.below b7)
  have H7 := Lib.hid (H7.out.below b7)
  have H8 := Lib.hid h8.pi
  clear b7 hb6 h8 KE
  go_wp2_with fail
  (with_reducible refine (KE2 _ (H1.out.below hb7) (H2.out.below hb7) (by omega)).mono ?_)
  rintro e w8 ⟨a9, c9, rfl, h9, b8⟩
  simp only at h9 ⊢
  have hb8 := hb7.trans (b8.mono hb7.size)
  have H3 := Lib.hid (H3.out.below b8)
  have H7 := Lib.hid (H7.out.below b8)
  have KP := samePieces_rd a8 EL.length c8 EL a9 EL.length c9 EL w8 (H8.out.below b8) h9.pi (by omega)
  rw [decide_eq_true rfl] at KP
  clear b8 hb7 h9 KE2
  go_wp2_with fail
  (with_reducible refine KP.mono ?_)
  rintro e w9 ⟨rfl, b9⟩
  have hb9 := hb8.trans (b9.mono hb8.size)
  have H3 := Lib.hid (H3.out.below b9)
  have H7 := Lib.hid (H7.out.below b9)
  have KQ := sameRows_rd a3 n1 c3 l1 a1 n1 c1 l1 w9 H3.out (H1.out.below hb9) (by omega)
  rw [decide_eq_true rfl] at KQ
  clear b9 hb8 KP
  go_wp2_with fail
  (with_reducible refine KQ.mono ?_)
  rintro e w10 ⟨rfl, b10⟩
  have hb10 := hb9.trans (b10.mono hb9.size)
  have KS := sameInts_any a7 l2.length c7 l2 a2 n2 c2 l2 w10 (H7.out.below b10) (H2.out.below hb10)
  rw [decide_eq_true rfl] at KS
  clear b10 hb9 KQ
  go_wp2_with fail
  (with_reducible refine KS.mono ?_)
  rintro e w11 ⟨rfl, b11⟩
  have hb11 := hb10.trans (b11.mono hb10.size)
  clear KS b11 hb10
  go_wp2
  go_ret
  exact ⟨rfl, hb11⟩
end Go.Proofs.YtkihgidhpggcfaaDoor
