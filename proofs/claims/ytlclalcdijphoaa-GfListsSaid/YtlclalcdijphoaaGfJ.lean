/-
  rilllaw01: GfLists.
-/
import Derived.Test.YtlclalcdijphoaaGfI
namespace Go.Proofs.Ytlclalcdijphoaa
open Go.RowKit

theorem RowV.take {w : World} {ad : Option Addr} {n m : Nat} {vs : List Value} (h : RowV w ad n vs) (hm : m ≤ n) : RowV w ad m (vs.take m) := by
  have hl := h.1
  refine ⟨by simp; omega, fun h0 => ?_⟩
  obtain ⟨b, off, e, hc⟩ := h.2 (by omega)
  exact ⟨b, off, e, fun i hi => by rw [hc i (by omega), List.getElem?_take, if_pos hi]⟩
theorem BytesV.take {w : World} {ad : Option Addr} {n c m : Nat} {l : List Nat} (h : BytesV w (ad, n, c) l) (hm : m ≤ n) : BytesV w (ad, m, c) (l.take m) := by
  refine ⟨?_, fun x hx => h.bytes x (List.mem_of_mem_take hx), ?_, ?_, h.nil⟩
  · have := h.row.take hm
    rwa [← List.map_take] at this
  · have := h.small; simp only at this ⊢; omega
  · have := h.cap; simp only at this ⊢; omega
theorem spareB_take (l : List Nat) : (spareB l).take l.length = l := by simp [spareB]

set_option maxRecDepth 10000 in
set_option maxHeartbeats 4000000 in
theorem gfLists_walk (k' : Int) (a1 : Option Addr) (n1 c1 : Nat) (la : List Nat) (a2 : Option Addr) (n2 c2 : Nat) (ks : List Nat) (a3 : Option Addr) (n3 c3 : Nat) (hs : List (Option Addr × Nat × Nat)) (ls : List (List Nat)) (w : World)
    (wk : (Lit.int .u8 k').wf = true) (h1 : BytesV w (a1, n1, c1) la) (s1 : n1 ≤ 140737488351232) (h2 : BytesV w (a2, n2, c2) ks) (_s2 : n2 ≤ 140737488351232) (v3 : RowV w a3 n3 (hs.map SV)) (r3 : RowsV w hs ls) (s3 : n3 * 24 ≤ 140737488351232) :
    Calls Try.prog 5 #[.int .u8 k', .slice a1 n1 c1, .slice a2 n2 c2, .slice a3 n3 c3] w fun e w' => e = .returned (.bool true) ∧ Below w.heap.size w w' := by
  obtain ⟨k0, k1⟩ := wf_u8 wk
  obtain ⟨k, rfl⟩ := Int.eq_ofNat_of_zero_le k0
  have hk : k < 256 := by omega
  have ba := h1.bytes
  have bk := h2.bytes
  have na : la.length = n1 := h1.length
  have nk : ks.length = n2 := h2.length
  have hm3 := r3.mem
  have sa : la.length ≤ 140737488355328 := by rw [h1.length]; exact h1.small
  have sk : ks.length ≤ 140737488355328 := by rw [h2.length]; exact h2.small
  have sp : (spareB la).length ≤ 140737488355328 := by rw [spareB_length]; omega
  have np : n1 ≤ (spareB la).length := by rw [spareB_length]; omega
  have n0p : 0 < (spareB la).length := by rw [spareB_length]; omega
  have hn3 : hs.length = n3 := by have := v3.1; simpa using this
  have hl3 : ls.length = n3 := by rw [← r3.1, hn3]
  have NA := Lib.hid na
  have NK := Lib.hid nk
  have HN := Lib.hid hn3
  have HL := Lib.hid hl3
  clear na nk hn3 hl3
  by_cases big : 100 < n3
  · go_enter Try.func5, Try.ntmps5
    go_wp2_with fail
    refine (alive1 w).mono ?_
    rintro e w0 ⟨rfl, hb⟩
    go_wp2
    go_ret
    exact ⟨rfl, hb⟩
  go_enter Try.func5, Try.ntmps5
  go_wp2_with fail
  refine (alive1 w).mono ?_
  rintro e w0 ⟨rfl, hb⟩
  replace h1 := h1.below hb
  replace h2 := h2.below hb
  replace v3 := v3.below hb
  replace r3 := r3.below hb
  go_wp2_with fail
  (with_reducible refine (spare_any _ _ _ la _ h1 (by omega)).mono ?_)
  rintro e w4 ⟨a4, c4, rfl, o4, b4⟩
  have hp := gives_reads o4 (spareB_bytes ba) sp
  replace h1 := h1.below b4
  replace h2 := h2.below b4
  replace v3 := v3.below b4
  replace r3 := r3.below b4
  replace hb := hb.trans (b4.mono hb.size)
  clear o4 b4
  obtain ⟨pb, po, rfl, _⟩ := hp.row.2 n0p
  have hcp : n1 ≤ c4 := by have := hp.cap; simp only at this; omega
  go_wp2_with fail
  (with_reducible refine (copyRows_any _ _ _ hs ls _ v3 s3 r3).mono ?_)
  rintro e w5 ⟨a5, c5, s5, rfl, o5, i5, b5⟩
  rw [HL.out] at o5 ⊢
  have v5 := rowV_of_owns o5
  have r5 := i5.rowsV hm3
  replace h1 := h1.below b5
  replace h2 := h2.below b5
  replace v3 := v3.below b5
  replace r3 := r3.below b5
  replace hp := hp.below b5
  replace hb := hb.trans (b5.mono hb.size)
  clear o5 i5 b5
  go_wp2_with fail
  (with_reducible refine (copyBytes_any _ _ _ ks _ h2).mono ?_)
  rintro e w6 ⟨a6, c6, rfl, o6, b6⟩
  have h6 := gives_reads o6 bk sk
  replace h1 := h1.below b6
  replace h2 := h2.below b6
  replace v3 := v3.below b6
  replace r3 := r3.below b6
  replace hp := hp.below b6
  replace v5 := v5.below b6
  replace r5 := r5.below b6
  replace hb := hb.trans (b6.mono hb.size)
  clear o6 b6
  have bA := below_alloc w6 (.cells #[] 5)
  have hE := bytesV_lit w6 #[] 5 w6.heap.size 0 [] rfl rfl rfl (fun x hx => by cases hx) (by omega)
  replace h1 := h1.below bA
  replace h2 := h2.below bA
  replace v3 := v3.below bA
  replace r3 := r3.below bA
  replace hp := hp.below bA
  replace v5 := v5.below bA
  replace r5 := r5.below bA
  replace h6 := h6.below bA
  replace hb := hb.trans (bA.mono hb.size)
  clear bA
  by_cases hz : n3 = 0
  · subst hz
    have sx : ([] : List Nat).length ≤ 140737488355328 := by simp
    have hq := hp.take np
    have hqe : (spareB la).take n1 = la := by have := spareB_take la; rwa [NA.out] at this
    rw [hqe] at hq
    go_wp2_with fail
    (with_reducible refine (add_any _ _ _ _ _ _ _ _ _ hq hE).mono ?_)
    rintro e w8 ⟨a8, c8, rfl, o8, b8⟩
    have h8 := gives_reads o8 (addB_bytes ba (fun x hx => by cases hx)) (by rw [addB_length]; have := NA.out; omega)
    replace h1 := h1.below b8
    replace h2 := h2.below b8
    replace v3 := v3.below b8
    replace r3 := r3.below b8
    replace hp := hp.below b8
    replace v5 := v5.below b8
    replace r5 := r5.below b8
    replace h6 := h6.below b8
    replace hE := hE.below b8
    replace hq := hq.below b8
    replace hb := hb.trans (b8.mono hb.size)
    clear o8 b8
    go_wp2_with fail
    (with_reducible refine (refAdd_any _ _ _ _ _ _ _ _ _ h1 hE).mono ?_)
    rintro e w9 ⟨a9, c9, rfl, o9, b9⟩
    have h9 := gives_reads o9 (addB_bytes ba (fun x hx => by cases hx)) (by rw [addB_length]; have := NA.out; omega)
    replace h1 := h1.below b9
    replace h2 := h2.below b9
    replace v3 := v3.below b9
    replace r3 := r3.below b9
    replace hp := hp.below b9
    replace v5 := v5.below b9
    replace r5 := r5.below b9
    replace h6 := h6.below b9
    replace hE := hE.below b9
    replace hq := hq.below b9
    replace h8 := h8.below b9
    replace hb := hb.trans (b9.mono hb.size)
    clear o9 b9
    go_wp2_with fail
    (with_reducible refine (sameBytes_any _ _ _ _ _ _ _ _ _ h8 h9).mono ?_)
    rintro e w10 ⟨rfl, b10⟩
    rw [decide_eq_true (rfl)]
    replace h1 := h1.below b10
    replace h2 := h2.below b10
    replace v3 := v3.below b10
    replace r3 := r3.below b10
    replace hp := hp.below b10
    replace v5 := v5.below b10
    replace r5 := r5.below b10
    replace h6 := h6.below b10
    replace hE := hE.below b10
    replace hq := hq.below b10
    replace h8 := h8.below b10
    replace h9 := h9.below b10
    replace hb := hb.trans (b10.mono hb.size)
    clear b10
    clear h8 h9 hE
    go_wp2_with fail
    (with_reducible refine (scale_any k _ _ _ _ _ hk hq).mono ?_)
    rintro e w11 ⟨a11, c11, rfl, o11, b11⟩
    have h11 := gives_reads o11 (scaleB_bytes hk) (by rw [scaleB_length]; exact sa)
    replace h1 := h1.below b11
    replace h2 := h2.below b11
    replace v3 := v3.below b11
    replace r3 := r3.below b11
    replace hp := hp.below b11
    replace v5 := v5.below b11
    replace r5 := r5.below b11
    replace h6 := h6.below b11
    replace hq := hq.below b11
    replace hb := hb.trans (b11.mono hb.size)
    clear o11 b11
    go_wp2_with fail
    (with_reducible refine (refScale_any k _ _ _ _ _ hk h1).mono ?_)
    rintro e w12 ⟨a12, c12, rfl, o12, b12⟩
    have h12 := gives_reads o12 (scaleB_bytes hk) (by rw [scaleB_length]; exact sa)
    replace h1 := h1.below b12
    replace h2 := h2.below b12
    replace v3 := v3.below b12
    replace r3 := r3.below b12
    replace hp := hp.below b12
    replace v5 := v5.below b12
    replace r5 := r5.below b12
    replace h6 := h6.below b12
    replace hq := hq.below b12
    replace h11 := h11.below b12
    replace hb := hb.trans (b12.mono hb.size)
    clear o12 b12
    go_wp2_with fail
    (with_reducible refine (sameBytes_any _ _ _ _ _ _ _ _ _ h11 h12).mono ?_)
    rintro e w13 ⟨rfl, b13⟩
    rw [decide_eq_true (rfl)]
    replace h1 := h1.below b13
    replace h2 := h2.below b13
    replace v3 := v3.below b13
    replace r3 := r3.below b13
    replace hp := hp.below b13
    replace v5 := v5.below b13
    replace r5 := r5.below b13
    replace h6 := h6.below b13
    replace hq := hq.below b13
    replace h11 := h11.below b13
    replace h12 := h12.below b13
    replace hb := hb.trans (b13.mono hb.size)
    clear b13
    clear h11 h12 hq
    go_wp2_with fail
    (with_reducible refine (mix_any _ _ _ ks _ _ _ s5 ls _ h6.row bk (by omega) v5 (by omega) r5).mono ?_)
    rintro e w14 ⟨rfl, o14, b14⟩
    have h14 := bytesV_of_owns o14 (mixTo_bytes bk _ _ _) (longest_le r5 _)
    replace h1 := h1.below b14
    replace h2 := h2.below b14
    replace v3 := v3.below b14
    replace r3 := r3.below b14
    replace hp := hp.below b14
    replace v5 := v5.below b14
    replace r5 := r5.below b14
    replace h6 := h6.below b14
    replace hb := hb.trans (b14.mono hb.size)
    clear o14 b14
    go_wp2_with fail
    (with_reducible refine (refMix_any _ _ _ ks _ _ _ hs ls _ h2 v3 (by omega) r3).mono ?_)
    rintro e w15 ⟨a15, c15, rfl, o15, b15⟩
    have h15 := gives_reads o15 (refMixTo_bytes bk _ _) (by rw [refMixTo_length]; exact longest_le r3 _)
    replace h1 := h1.below b15
    replace h2 := h2.below b15
    replace v3 := v3.below b15
    replace r3 := r3.below b15
    replace hp := hp.below b15
    replace v5 := v5.below b15
    replace r5 := r5.below b15
    replace h6 := h6.below b15
    replace h14 := h14.below b15
    replace hb := hb.trans (b15.mono hb.size)
    clear o15 b15
    go_wp2_with fail
    (with_reducible refine (sameBytes_any _ _ _ _ _ _ _ _ _ h14 h15).mono ?_)
    rintro e w16 ⟨rfl, b16⟩
    rw [decide_eq_true ((refMix_mix ks ls _).symm)]
    replace h1 := h1.below b16
    replace h2 := h2.below b16
    replace v3 := v3.below b16
    replace r3 := r3.below b16
    replace hp := hp.below b16
    replace v5 := v5.below b16
    replace r5 := r5.below b16
    replace h6 := h6.below b16
    replace h14 := h14.below b16
    replace h15 := h15.below b16
    replace hb := hb.trans (b16.mono hb.size)
    clear b16
    clear h14 h15
    go_wp2_with fail
    (with_reducible refine (spare_any _ _ _ la _ h1 (by omega)).mono ?_)
    rintro e w17 ⟨a17, c17, rfl, o17, b17⟩
    have h17 := gives_reads o17 (spareB_bytes ba) sp
    replace h1 := h1.below b17
    replace h2 := h2.below b17
    replace v3 := v3.below b17
    replace r3 := r3.below b17
    replace hp := hp.below b17
    replace v5 := v5.below b17
    replace r5 := r5.below b17
    replace h6 := h6.below b17
    replace hb := hb.trans (b17.mono hb.size)
    clear o17 b17
    go_wp2_with fail
    (with_reducible refine (sameBytes_any _ _ _ _ _ _ _ _ _ hp h17).mono ?_)
    rintro e w18 ⟨rfl, b18⟩
    rw [decide_eq_true (rfl)]
    replace h1 := h1.below b18
    replace h2 := h2.below b18
    replace v3 := v3.below b18
    replace r3 := r3.below b18
    replace hp := hp.below b18
    replace v5 := v5.below b18
    replace r5 := r5.below b18
    replace h6 := h6.below b18
    replace h17 := h17.below b18
    replace hb := hb.trans (b18.mono hb.size)
    clear b18
    clear h17 hp
    go_wp2_with fail
    (with_reducible refine (sameRows_any _ _ _ s5 ls _ _ _ hs ls _ v5 r5 v3 r3 (by omega)).mono ?_)
    rintro e w19 ⟨rfl, b19⟩
    rw [decide_eq_true (rfl)]
    replace h1 := h1.below b19
    replace h2 := h2.below b19
    replace v3 := v3.below b19
    replace r3 := r3.below b19
    replace v5 := v5.below b19
    replace r5 := r5.below b19
    replace h6 := h6.below b19
    replace hb := hb.trans (b19.mono hb.size)
    clear b19
    go_wp2_with fail
    (with_reducible refine (sameBytes_any _ _ _ _ _ _ _ _ _ h6 h2).mono ?_)
    rintro e w20 ⟨rfl, b20⟩
    rw [decide_eq_true (rfl)]
    replace h1 := h1.below b20
    replace h2 := h2.below b20
    replace v3 := v3.below b20
    replace r3 := r3.below b20
    replace v5 := v5.below b20
    replace r5 := r5.below b20
    replace h6 := h6.below b20
    replace hb := hb.trans (b20.mono hb.size)
    clear b20
    go_wp2
    go_ret
    exact ⟨rfl, hb⟩
  · obtain ⟨vb, vo, rfl, d3⟩ := v3.2 (by omega)
    obtain ⟨⟨ax, nx, cx⟩, hxe, hxr⟩ := r3.at 0 (by rw [HN.out]; omega)
    have hcell : (w6.alloc (.cells #[] 5)).cell? ⟨vb, vo, none⟩ = some (.slice ax nx cx) := by
      have := d3 0 (by omega)
      rw [Nat.add_zero, List.getElem?_map, hxe] at this
      exact this
    obtain ⟨lx, hlx⟩ : ∃ lx, lx = ls.getD 0 [] := ⟨_, rfl⟩
    rw [← hlx] at hxr
    have bx := hxr.bytes
    have sx : lx.length ≤ 140737488355328 := by rw [hxr.length]; exact hxr.small
    clear d3 hxe hlx hE
    have hq := hp.take np
    have hqe : (spareB la).take n1 = la := by have := spareB_take la; rwa [NA.out] at this
    rw [hqe] at hq
    go_wp2_with fail
    (with_reducible refine (add_any _ _ _ _ _ _ _ _ _ hq hxr).mono ?_)
    rintro e w8 ⟨a8, c8, rfl, o8, b8⟩
    have h8 := gives_reads o8 (addB_bytes ba bx) (by rw [addB_length]; have := NA.out; omega)
    replace h1 := h1.below b8
    replace h2 := h2.below b8
    replace v3 := v3.below b8
    replace r3 := r3.below b8
    replace hp := hp.below b8
    replace v5 := v5.below b8
    replace r5 := r5.below b8
    replace h6 := h6.below b8
    replace hxr := hxr.below b8
    replace hq := hq.below b8
    replace hb := hb.trans (b8.mono hb.size)
    clear o8 b8
    go_wp2_with fail
    (with_reducible refine (refAdd_any _ _ _ _ _ _ _ _ _ h1 hxr).mono ?_)
    rintro e w9 ⟨a9, c9, rfl, o9, b9⟩
    have h9 := gives_reads o9 (addB_bytes ba bx) (by rw [addB_length]; have := NA.out; omega)
    replace h1 := h1.below b9
    replace h2 := h2.below b9
    replace v3 := v3.below b9
    replace r3 := r3.below b9
    replace hp := hp.below b9
    replace v5 := v5.below b9
    replace r5 := r5.below b9
    replace h6 := h6.below b9
    replace hxr := hxr.below b9
    replace hq := hq.below b9
    replace h8 := h8.below b9
    replace hb := hb.trans (b9.mono hb.size)
    clear o9 b9
    go_wp2_with fail
    (with_reducible refine (sameBytes_any _ _ _ _ _ _ _ _ _ h8 h9).mono ?_)
    rintro e w10 ⟨rfl, b10⟩
    rw [decide_eq_true (rfl)]
    replace h1 := h1.below b10
    replace h2 := h2.below b10
    replace v3 := v3.below b10
    replace r3 := r3.below b10
    replace hp := hp.below b10
    replace v5 := v5.below b10
    replace r5 := r5.below b10
    replace h6 := h6.below b10
    replace hxr := hxr.below b10
    replace hq := hq.below b10
    replace h8 := h8.below b10
    replace h9 := h9.below b10
    replace hb := hb.trans (b10.mono hb.size)
    clear b10
    clear h8 h9 hxr
    go_wp2_with fail
    (with_reducible refine (scale_any k _ _ _ _ _ hk hq).mono ?_)
    rintro e w11 ⟨a11, c11, rfl, o11, b11⟩
    have h11 := gives_reads o11 (scaleB_bytes hk) (by rw [scaleB_length]; exact sa)
    replace h1 := h1.below b11
    replace h2 := h2.below b11
    replace v3 := v3.below b11
    replace r3 := r3.below b11
    replace hp := hp.below b11
    replace v5 := v5.below b11
    replace r5 := r5.below b11
    replace h6 := h6.below b11
    replace hq := hq.below b11
    replace hb := hb.trans (b11.mono hb.size)
    clear o11 b11
    go_wp2_with fail
    (with_reducible refine (refScale_any k _ _ _ _ _ hk h1).mono ?_)
    rintro e w12 ⟨a12, c12, rfl, o12, b12⟩
    have h12 := gives_reads o12 (scaleB_bytes hk) (by rw [scaleB_length]; exact sa)
    replace h1 := h1.below b12
    replace h2 := h2.below b12
    replace v3 := v3.below b12
    replace r3 := r3.below b12
    replace hp := hp.below b12
    replace v5 := v5.below b12
    replace r5 := r5.below b12
    replace h6 := h6.below b12
    replace hq := hq.below b12
    replace h11 := h11.below b12
    replace hb := hb.trans (b12.mono hb.size)
    clear o12 b12
    go_wp2_with fail
    (with_reducible refine (sameBytes_any _ _ _ _ _ _ _ _ _ h11 h12).mono ?_)
    rintro e w13 ⟨rfl, b13⟩
    rw [decide_eq_true (rfl)]
    replace h1 := h1.below b13
    replace h2 := h2.below b13
    replace v3 := v3.below b13
    replace r3 := r3.below b13
    replace hp := hp.below b13
    replace v5 := v5.below b13
    replace r5 := r5.below b13
    replace h6 := h6.below b13
    replace hq := hq.below b13
    replace h11 := h11.below b13
    replace h12 := h12.below b13
    replace hb := hb.trans (b13.mono hb.size)
    clear b13
    clear h11 h12 hq
    go_wp2_with fail
    (with_reducible refine (mix_any _ _ _ ks _ _ _ s5 ls _ h6.row bk (by omega) v5 (by omega) r5).mono ?_)
    rintro e w14 ⟨rfl, o14, b14⟩
    have h14 := bytesV_of_owns o14 (mixTo_bytes bk _ _ _) (longest_le r5 _)
    replace h1 := h1.below b14
    replace h2 := h2.below b14
    replace v3 := v3.below b14
    replace r3 := r3.below b14
    replace hp := hp.below b14
    replace v5 := v5.below b14
    replace r5 := r5.below b14
    replace h6 := h6.below b14
    replace hb := hb.trans (b14.mono hb.size)
    clear o14 b14
    go_wp2_with fail
    (with_reducible refine (refMix_any _ _ _ ks _ _ _ hs ls _ h2 v3 (by omega) r3).mono ?_)
    rintro e w15 ⟨a15, c15, rfl, o15, b15⟩
    have h15 := gives_reads o15 (refMixTo_bytes bk _ _) (by rw [refMixTo_length]; exact longest_le r3 _)
    replace h1 := h1.below b15
    replace h2 := h2.below b15
    replace v3 := v3.below b15
    replace r3 := r3.below b15
    replace hp := hp.below b15
    replace v5 := v5.below b15
    replace r5 := r5.below b15
    replace h6 := h6.below b15
    replace h14 := h14.below b15
    replace hb := hb.trans (b15.mono hb.size)
    clear o15 b15
    go_wp2_with fail
    (with_reducible refine (sameBytes_any _ _ _ _ _ _ _ _ _ h14 h15).mono ?_)
    rintro e w16 ⟨rfl, b16⟩
    rw [decide_eq_true ((refMix_mix ks ls _).symm)]
    replace h1 := h1.below b16
    replace h2 := h2.below b16
    replace v3 := v3.below b16
    replace r3 := r3.below b16
    replace hp := hp.below b16
    replace v5 := v5.below b16
    replace r5 := r5.below b16
    replace h6 := h6.below b16
    replace h14 := h14.below b16
    replace h15 := h15.below b16
    replace hb := hb.trans (b16.mono hb.size)
    clear b16
    clear h14 h15
    go_wp2_with fail
    (with_reducible refine (spare_any _ _ _ la _ h1 (by omega)).mono ?_)
    rintro e w17 ⟨a17, c17, rfl, o17, b17⟩
    have h17 := gives_reads o17 (spareB_bytes ba) sp
    replace h1 := h1.below b17
    replace h2 := h2.below b17
    replace v3 := v3.below b17
    replace r3 := r3.below b17
    replace hp := hp.below b17
    replace v5 := v5.below b17
    replace r5 := r5.below b17
    replace h6 := h6.below b17
    replace hb := hb.trans (b17.mono hb.size)
    clear o17 b17
    go_wp2_with fail
    (with_reducible refine (sameBytes_any _ _ _ _ _ _ _ _ _ hp h17).mono ?_)
    rintro e w18 ⟨rfl, b18⟩
    rw [decide_eq_true (rfl)]
    replace h1 := h1.below b18
    replace h2 := h2.below b18
    replace v3 := v3.below b18
    replace r3 := r3.below b18
    replace hp := hp.below b18
    replace v5 := v5.below b18
    replace r5 := r5.below b18
    replace h6 := h6.below b18
    replace h17 := h17.below b18
    replace hb := hb.trans (b18.mono hb.size)
    clear b18
    clear h17 hp
    go_wp2_with fail
    (with_reducible refine (sameRows_any _ _ _ s5 ls _ _ _ hs ls _ v5 r5 v3 r3 (by omega)).mono ?_)
    rintro e w19 ⟨rfl, b19⟩
    rw [decide_eq_true (rfl)]
    replace h1 := h1.below b19
    replace h2 := h2.below b19
    replace v3 := v3.below b19
    replace r3 := r3.below b19
    replace v5 := v5.below b19
    replace r5 := r5.below b19
    replace h6 := h6.below b19
    replace hb := hb.trans (b19.mono hb.size)
    clear b19
    go_wp2_with fail
    (with_reducible refine (sameBytes_any _ _ _ _ _ _ _ _ _ h6 h2).mono ?_)
    rintro e w20 ⟨rfl, b20⟩
    rw [decide_eq_true (rfl)]
    replace h1 := h1.below b20
    replace h2 := h2.below b20
    replace v3 := v3.below b20
    replace r3 := r3.below b20
    replace v5 := v5.below b20
    replace r5 := r5.below b20
    replace h6 := h6.below b20
    replace hb := hb.trans (b20.mono hb.size)
    clear b20
    go_wp2
    go_ret
    exact ⟨rfl, hb⟩

end Go.Proofs.Ytlclalcdijphoaa
