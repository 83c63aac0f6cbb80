/-
  rilllaw01: GfLinear, GfMemory, GfLists.
-/
import Derived.Test.YtlclalcdijphoaaGfG
namespace Go.Proofs.Ytlclalcdijphoaa
open Go.RowKit

theorem scale_add (k : Nat) (hk : k < 256) {a b : List Nat} (ha : Bytes a) (hb : Bytes b) : scaleB k (addB a b) = addB (scaleB k a) (scaleB k b) := by
  apply ext_getD
  · rw [scaleB_length, addB_length, addB_length, scaleB_length, scaleB_length]
  · intro i _
    rw [scaleB_getD, addB_getD, addB_getD, scaleB_getD, scaleB_getD, mul_xor hk (ha.getD i) (hb.getD i)]
theorem back_getD (a b : List Nat) (i : Nat) : (addB (addB a b) b).getD i 0 = a.getD i 0 := by
  rw [addB_getD, addB_getD, Nat.xor_assoc, Nat.xor_self, Nat.xor_zero]

/-- A fresh slice of bytes is one that can be read. -/
theorem gives_reads {T : TypeId} {w : World} {base : Nat} {ad : Option Addr} {cap : Nat} {l : List Nat} (h : w.ownsRow base T 1 (.slice ad l.length cap) l.length (l.map bv)) (hl : Bytes l) (hs : l.length ≤ 140737488355328) : BytesV w (ad, l.length, cap) l :=
  bytesV_of_owns h hl hs

theorem rowV_of_owns {T : TypeId} {w : World} {base : Nat} {ad : Option Addr} {n cap : Nat} {xs : List Value} (h : w.ownsRow base T 1 (.slice ad n cap) n xs) : RowV w ad n xs := by
  obtain ⟨ad', cap', e, _, _, _, hr⟩ := ownsRow_parts h
  cases e
  exact hr

set_option maxRecDepth 10000 in
set_option maxHeartbeats 2000000 in
theorem gfLinear_walk (k' : Int) (a1 : Option Addr) (n1 c1 : Nat) (la : List Nat) (a2 : Option Addr) (n2 c2 : Nat) (lb : List Nat) (w : World) (wk : (Lit.int .u8 k').wf = true) (h1 : BytesV w (a1, n1, c1) la) (_t1 : n1 ≤ 140737488351232) (h2 : BytesV w (a2, n2, c2) lb) (_t2 : n2 ≤ 140737488351232) :
    Calls Try.prog 8 #[.int .u8 k', .slice a1 n1 c1, .slice a2 n2 c2] w fun e w' => e = .returned (.bool true) ∧ Below w.heap.size w w' := by
  obtain ⟨k0, k1⟩ := wf_u8 wk
  obtain ⟨k, rfl⟩ := Int.eq_ofNat_of_zero_le k0
  have hk : k < 256 := by omega
  have ba := h1.bytes
  have bb := h2.bytes
  have na : la.length = n1 := h1.length
  have nb : lb.length = n2 := h2.length
  have sa : la.length ≤ 140737488355328 := by rw [h1.length]; exact h1.small
  have sb : lb.length ≤ 140737488355328 := by rw [h2.length]; exact h2.small
  have NA := Lib.hid na
  have NB := Lib.hid nb
  clear na nb
  have bab := addB_bytes ba bb
  have sab : (addB la lb).length ≤ 140737488355328 := by rw [addB_length]; omega
  have bsa := scaleB_bytes (a := la) hk
  have bsb := scaleB_bytes (a := lb) hk
  have bss := scaleB_bytes (a := addB la lb) hk
  have ssa : (scaleB k la).length ≤ 140737488355328 := by rw [scaleB_length]; exact sa
  have ssb : (scaleB k lb).length ≤ 140737488355328 := by rw [scaleB_length]; exact sb
  have sss : (scaleB k (addB la lb)).length ≤ 140737488355328 := by rw [scaleB_length]; exact sab
  go_enter Try.func8, Try.ntmps8
  go_wp2_with fail
  refine (alive1 w).mono ?_
  rintro e w0 ⟨rfl, hb⟩
  replace h1 := h1.below hb
  replace h2 := h2.below hb
  go_wp2_with fail
  (with_reducible refine (copyBytes_any _ _ _ la _ h1).mono ?_)
  rintro e w3 ⟨a3, c3, rfl, o3, b3⟩
  have h3 := gives_reads o3 ba sa
  replace h1 := h1.below b3
  replace h2 := h2.below b3
  replace hb := hb.trans (b3.mono hb.size)
  clear o3 b3
  go_wp2_with fail
  (with_reducible refine (copyBytes_any _ _ _ lb _ h2).mono ?_)
  rintro e w4 ⟨a4, c4, rfl, o4, b4⟩
  have h4 := gives_reads o4 bb sb
  replace h1 := h1.below b4
  replace h2 := h2.below b4
  replace h3 := h3.below b4
  replace hb := hb.trans (b4.mono hb.size)
  clear o4 b4
  go_wp2_with fail
  (with_reducible refine (add_any _ _ _ _ _ _ _ _ _ h3 h4).mono ?_)
  rintro e w5 ⟨a5, c5, rfl, o5, b5⟩
  have h5 := gives_reads o5 bab sab
  replace h1 := h1.below b5
  replace h2 := h2.below b5
  replace h3 := h3.below b5
  replace h4 := h4.below b5
  replace hb := hb.trans (b5.mono hb.size)
  clear o5 b5
  clear h3 h4
  go_wp2_with fail
  (with_reducible refine (scale_any k _ _ _ _ _ hk h5).mono ?_)
  rintro e w6 ⟨a6, c6, rfl, o6, b6⟩
  have h6 := gives_reads o6 bss sss
  replace h1 := h1.below b6
  replace h2 := h2.below b6
  replace h5 := h5.below b6
  replace hb := hb.trans (b6.mono hb.size)
  clear o6 b6
  go_wp2_with fail
  (with_reducible refine (copyBytes_any _ _ _ la _ h1).mono ?_)
  rintro e w7 ⟨a7, c7, rfl, o7, b7⟩
  have h7 := gives_reads o7 ba sa
  replace h1 := h1.below b7
  replace h2 := h2.below b7
  replace h5 := h5.below b7
  replace h6 := h6.below b7
  replace hb := hb.trans (b7.mono hb.size)
  clear o7 b7
  go_wp2_with fail
  (with_reducible refine (scale_any k _ _ _ _ _ hk h7).mono ?_)
  rintro e w8 ⟨a8, c8, rfl, o8, b8⟩
  have h8 := gives_reads o8 bsa ssa
  replace h1 := h1.below b8
  replace h2 := h2.below b8
  replace h5 := h5.below b8
  replace h6 := h6.below b8
  replace h7 := h7.below b8
  replace hb := hb.trans (b8.mono hb.size)
  clear o8 b8
  clear h7
  go_wp2_with fail
  (with_reducible refine (copyBytes_any _ _ _ lb _ h2).mono ?_)
  rintro e w9 ⟨a9, c9, rfl, o9, b9⟩
  have h9 := gives_reads o9 bb sb
  replace h1 := h1.below b9
  replace h2 := h2.below b9
  replace h5 := h5.below b9
  replace h6 := h6.below b9
  replace h8 := h8.below b9
  replace hb := hb.trans (b9.mono hb.size)
  clear o9 b9
  go_wp2_with fail
  (with_reducible refine (scale_any k _ _ _ _ _ hk h9).mono ?_)
  rintro e w10 ⟨a10, c10, rfl, o10, b10⟩
  have h10 := gives_reads o10 bsb ssb
  replace h1 := h1.below b10
  replace h2 := h2.below b10
  replace h5 := h5.below b10
  replace h6 := h6.below b10
  replace h8 := h8.below b10
  replace h9 := h9.below b10
  replace hb := hb.trans (b10.mono hb.size)
  clear o10 b10
  clear h9
  go_wp2_with fail
  (with_reducible refine (add_any _ _ _ _ _ _ _ _ _ h8 h10).mono ?_)
  rintro e w11 ⟨a11, c11, rfl, o11, b11⟩
  have h11 := gives_reads o11 (addB_bytes bsa bsb) (by rw [addB_length]; omega)
  replace h1 := h1.below b11
  replace h2 := h2.below b11
  replace h5 := h5.below b11
  replace h6 := h6.below b11
  replace h8 := h8.below b11
  replace h10 := h10.below b11
  replace hb := hb.trans (b11.mono hb.size)
  clear o11 b11
  clear h8 h10
  go_wp2_with fail
  (with_reducible refine (sameBytes_any _ _ _ _ _ _ _ _ _ h6 h11).mono ?_)
  rintro e w12 ⟨rfl, b12⟩
  rw [decide_eq_true (scale_add k hk ba bb)]
  replace h1 := h1.below b12
  replace h2 := h2.below b12
  replace h5 := h5.below b12
  replace h6 := h6.below b12
  replace h11 := h11.below b12
  replace hb := hb.trans (b12.mono hb.size)
  clear b12
  clear h6 h11
  have hks := rowV_lit w12 #[.int .u8 1, .int .u8 1] 5 w12.heap.size 2 ([1, 1].map bv) rfl rfl rfl
  have bA := below_alloc w12 (.cells #[.int .u8 1, .int .u8 1] 5)
  replace h1 := h1.below bA
  replace h2 := h2.below bA
  replace h5 := h5.below bA
  replace hb := hb.trans (bA.mono hb.size)
  clear bA
  go_wp2_with fail
  (with_reducible refine (copyBytes_any _ _ _ la _ h1).mono ?_)
  rintro e w13 ⟨a13, c13, rfl, o13, b13⟩
  have h13 := gives_reads o13 ba sa
  replace h1 := h1.below b13
  replace h2 := h2.below b13
  replace h5 := h5.below b13
  replace hks := hks.below b13
  replace hb := hb.trans (b13.mono hb.size)
  clear o13 b13
  go_wp2_with fail
  (with_reducible refine (copyBytes_any _ _ _ lb _ h2).mono ?_)
  rintro e w14 ⟨a14, c14, rfl, o14, b14⟩
  have h14 := gives_reads o14 bb sb
  replace h1 := h1.below b14
  replace h2 := h2.below b14
  replace h5 := h5.below b14
  replace hks := hks.below b14
  replace h13 := h13.below b14
  replace hb := hb.trans (b14.mono hb.size)
  clear o14 b14
  have hvs := rowV_lit w14 #[.slice a13 la.length c13, .slice a14 lb.length c14] 33 w14.heap.size 2 ([(a13, la.length, c13), (a14, lb.length, c14)].map SV) rfl rfl rfl
  have bB := below_alloc w14 (.cells #[.slice a13 la.length c13, .slice a14 lb.length c14] 33)
  replace h1 := h1.below bB
  replace h2 := h2.below bB
  replace h5 := h5.below bB
  replace hks := hks.below bB
  replace h13 := h13.below bB
  replace h14 := h14.below bB
  replace hb := hb.trans (bB.mono hb.size)
  clear bB
  go_wp2_with fail
  (with_reducible refine (mix_any _ 2 2 [1, 1] _ 2 2 [(a13, la.length, c13), (a14, lb.length, c14)] [la, lb] _ hks (bytes_of (by decide)) (by omega) hvs (by omega) (rowsV_cons h13 (rowsV_cons h14 (rowsV_nil _)))).mono ?_)
  rintro e w15 ⟨rfl, o15, b15⟩
  have hL : longest [la, lb] 2 = (addB la lb).length := by rw [addB_length]; simp [longest]
  rw [mix_add ba bb, hL] at o15
  rw [hL]
  have h15 := gives_reads o15 bab sab
  clear hL hks hvs h13 h14
  simp only [World.size_alloc] at h15
  replace h1 := h1.below b15
  replace h2 := h2.below b15
  replace h5 := h5.below b15
  replace hb := hb.trans (b15.mono hb.size)
  clear o15 b15
  go_wp2_with fail
  (with_reducible refine (sameBytes_any _ _ _ _ _ _ _ _ _ h5 h15).mono ?_)
  rintro e w16 ⟨rfl, b16⟩
  rw [decide_eq_true (rfl)]
  replace h1 := h1.below b16
  replace h2 := h2.below b16
  replace h5 := h5.below b16
  replace h15 := h15.below b16
  replace hb := hb.trans (b16.mono hb.size)
  clear b16
  clear h15
  go_wp2_with fail
  (with_reducible refine (copyBytes_any _ _ _ lb _ h2).mono ?_)
  rintro e w17 ⟨a17, c17, rfl, o17, b17⟩
  have h17 := gives_reads o17 bb sb
  replace h1 := h1.below b17
  replace h2 := h2.below b17
  replace h5 := h5.below b17
  replace hb := hb.trans (b17.mono hb.size)
  clear o17 b17
  go_wp2_with fail
  (with_reducible refine (add_any _ _ _ _ _ _ _ _ _ h5 h17).mono ?_)
  rintro e w18 ⟨a18, c18, rfl, o18, b18⟩
  have h18 := gives_reads o18 (addB_bytes bab bb) (by rw [addB_length]; omega)
  replace h1 := h1.below b18
  replace h2 := h2.below b18
  replace h5 := h5.below b18
  replace h17 := h17.below b18
  replace hb := hb.trans (b18.mono hb.size)
  clear o18 b18
  have hbl : (addB (addB la lb) lb).length = max (max n1 n2) n2 := by rw [addB_length, addB_length, NA.out, NB.out]
  have sa' : n1 ≤ 140737488355328 := h1.small
  have sb' : n2 ≤ 140737488355328 := h2.small
  obtain ⟨m, hm⟩ : ∃ m, m = (addB (addB la lb) lb).length := ⟨_, rfl⟩
  rw [← hm] at h18 ⊢
  have hmm : m = max n1 n2 := by rw [hm, hbl]; omega
  have hm1 : n1 ≤ m := by omega
  have hm2 : n2 ≤ m := by omega
  have hm3 : m ≤ 140737488355328 := by omega
  clear hm hmm hbl h5 h17
  go_wp2
  go_loop [9] (fun i => ∃ j : Nat, j ≤ m ∧ i = .int .i64 j) (fun i => (m - intOf i).toNat)
  case atStart => exact ⟨0, by omega, rfl⟩
  case round =>
    obtain ⟨j, hj, rfl⟩ := hrel
    by_cases hlt : j < m
    · obtain ⟨b1, o1, rfl, d1⟩ := h18.cellAt j hlt
      rw [back_getD] at d1
      obtain ⟨x, hx⟩ : ∃ x, x = la.getD j 0 := ⟨_, rfl⟩
      rw [← hx] at d1
      by_cases hj1 : j < n1
      · obtain ⟨b2, o2, rfl, d2⟩ := h1.cellAt j hj1
        rw [← hx] at d2
        clear hx
        go_wp2
        go_round
        case rel => exact ⟨j + 1, by omega, by go_num⟩
        case measure => simp [intOf]; omega
      · have hx0 : x = 0 := by rw [hx]; exact h1.low j hj1
        rw [hx0] at d1
        have d1' : w18.cell? ⟨b1, o1 + j, none⟩ = some (.int .u8 0) := d1
        clear hx hx0 d1
        go_wp2
        go_round
        case rel => exact ⟨j + 1, by omega, by go_num⟩
        case measure => simp [intOf]; omega
    · have hd1 : decide ((n1 : Int) ≤ (m : Int)) = true := by simp; omega
      have hd2 : decide ((n2 : Int) ≤ (m : Int)) = true := by simp; omega
      go_wp2
      go_ret
      exact ⟨rfl, hb⟩

end Go.Proofs.Ytlclalcdijphoaa
