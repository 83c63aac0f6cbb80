/-
  rilllaw07: FrameScans.
-/
import Derived.Test.YtkepdjbgfkoobaaFrI
import Derived.Test.YtkepdjbgfkoobaaFrO
namespace Go.Proofs.Ytkepdjbgfkoobaa
open Go.RowKit

theorem gives_reads {T : TypeId} {w : World} {base : Nat} {ad : Option Addr} {cap : Nat} {l : List Nat} (h : w.ownsRow base T 1 (.slice ad l.length cap) l.length (l.map bv)) (hl : Bytes l) (hs : l.length ≤ 140737488355328) : BytesV w (ad, l.length, cap) l :=
  bytesV_of_owns h hl hs
theorem RowV.take {w : World} {ad : Option Addr} {n m : Nat} {vs : List Value} (h : RowV w ad n vs) (hm : m ≤ n) : RowV w ad m (vs.take m) := by
  have hl := h.1
  refine ⟨by simp; omega, fun h0 => ?_⟩
  obtain ⟨b, off, e, hc⟩ := h.2 (by omega)
  exact ⟨b, off, e, fun i hi => by rw [hc i (by omega), List.getElem?_take, if_pos hi]⟩
theorem BytesV.take {w : World} {ad : Option Addr} {n c m : Nat} {l : List Nat} (h : BytesV w (ad, n, c) l) (hm : m ≤ n) : BytesV w (ad, m, c) (l.take m) := by
  refine ⟨?_, fun x hx => h.bytes x (List.mem_of_mem_take hx), ?_, ?_, h.nil⟩
  · have := h.row.take hm
    rwa [← List.map_take] at this
  · have := h.small; simp only at this ⊢; omega
  · have := h.cap; simp only at this ⊢; omega
theorem spareB_take (l : List Nat) : (spareB l).take l.length = l := by simp [spareB]
theorem nextN_bytes {l : List Nat} (h : Bytes l) : Bytes (nextN l).1 ∧ (nextN l).1.length ≤ 140737488355328 := by
  rcases nextN_cases l with ⟨_, e⟩ | ⟨_, _, _, e, hl⟩
  · rw [e]; exact ⟨fun x hx => (by cases hx), by simp⟩
  · refine ⟨?_, by omega⟩
    rw [e]
    exact fun x hx => h x (List.mem_of_mem_drop (List.mem_of_mem_take hx))
theorem scanN_bytes : ∀ (n : Nat) (l : List Nat), l.length ≤ n → Bytes l → ∀ p ∈ (scanN l).1, Bytes p ∧ p.length ≤ 140737488355328 := by
  intro n
  induction n with
  | zero =>
    intro l hl _ p hp
    have : l = [] := List.eq_nil_of_length_eq_zero (by omega)
    subst this
    simp [scanN, scanF] at hp
  | succ n ih =>
    intro l hl hb p hp
    by_cases h : (nextN l).2.1 = 0
    · rw [scanN_stop h] at hp; cases hp
    · rw [scanN_step h] at hp
      rcases List.mem_cons.1 hp with rfl | hp
      · exact nextN_bytes hb
      · exact ih (l.drop (nextN l).2.1) (by rw [List.length_drop]; have := nextN_le l; omega) (fun x hx => hb x (List.mem_of_mem_drop hx)) p hp
theorem scanN_count : ∀ (n : Nat) (l : List Nat), l.length ≤ n → (scanN l).1.length ≤ l.length := by
  intro n
  induction n with
  | zero =>
    intro l hl
    have : l = [] := List.eq_nil_of_length_eq_zero (by omega)
    subst this
    simp [scanN, scanF]
  | succ n ih =>
    intro l hl
    by_cases h : (nextN l).2.1 = 0
    · rw [scanN_stop h]; simp
    · rw [scanN_step h]
      have h1 := ih (l.drop (nextN l).2.1) (by rw [List.length_drop]; have := nextN_le l; omega)
      rw [List.length_drop] at h1
      have h2 := nextN_le l
      simp only [List.length_cons]
      omega

set_option maxRecDepth 100000 in
set_option maxHeartbeats 8000000 in
theorem frameScans_walk (a1 : Option Addr) (n1 c1 : Nat) (la : List Nat) (w : World) (h1 : BytesV w (a1, n1, c1) la) (_s1 : n1 ≤ 140737488351232) :
    Calls Try.prog 4 #[.slice a1 n1 c1] w fun e w' => e = .returned (.bool true) ∧ Below w.heap.size w w' := by
  have KA := alive_any
  by_cases big : 200000 < n1
  · go_enter Try.func4, Try.ntmps4
    go_wp2_with (go_at_call 10; (with_reducible refine (KA _).mono ?_); rintro e w1 ⟨rfl, hb1⟩)
    go_ret
    exact ⟨rfl, hb1⟩
  have l1 : la.length = n1 := h1.length
  have b1 := h1.bytes
  have ssp : (spareB la).length ≤ 140737488355328 := by rw [spareB_length]; omega
  have lsp : n1 ≤ (spareB la).length := by rw [spareB_length]; omega
  have L1 := Lib.hid l1
  obtain ⟨q, hq⟩ : ∃ q, q = nextN la := ⟨_, rfl⟩
  have hqb := nextN_bytes b1
  rw [← hq] at hqb
  obtain ⟨p, m, er⟩ := q
  obtain ⟨s, hs⟩ : ∃ s, s = scanN la := ⟨_, rfl⟩
  have hsb := scanN_bytes _ la (Nat.le_refl _) b1
  have hsc := scanN_count _ la (Nat.le_refl _)
  rw [← hs] at hsb hsc
  have KN1 := fun a n c w h => next_any a n c la w h
  have KN2 := fun a n c w h => refNext_any a n c la w h
  have KS1 := fun a n c hn w h => scan_any a n c la hn w h
  have KS2 := fun a n c hn w h => refScan_any a n c la hn w h
  rw [← hq] at KN1 KN2
  rw [← hs] at KS1 KS2
  obtain ⟨ps, sz⟩ := s
  simp only at hqb hsb hsc
  obtain ⟨pb, pl⟩ := hqb
  clear l1 hq hs
  have hscn : ps.length ≤ 140737488355328 := by have := L1.out; omega
  go_enter Try.func4, Try.ntmps4
  go_wp2_with (go_at_call 10; (with_reducible refine (KA _).mono ?_); rintro e w1 ⟨rfl, hb⟩)
  clear KA
  replace h1 := h1.below hb
  go_wp2_with fail
  (with_reducible refine (spare_any _ _ _ la _ h1 (by omega)).mono ?_)
  rintro e w2 ⟨a2, c2, rfl, o2, b2⟩
  have hp := gives_reads o2 (spareB_bytes b1) ssp
  replace h1 := h1.below b2
  replace hb := hb.trans (b2.mono hb.size)
  clear o2 b2
  have hq := hp.take lsp
  rw [show (spareB la).take n1 = la by have := spareB_take la; rwa [L1.out] at this] at hq
  have hz : (0 : Int) ≤ (n1 : Int) := by omega
  have hzc : n1 ≤ c2 := by have := hp.cap; simp only at this; omega
  go_wp2_with fail
  (with_reducible refine (KN1 _ _ _ _ hq).mono ?_)
  rintro e w3 ⟨a3, c3, rfl, o3, b3⟩
  dsimp only at o3
  have hx := bytesV_of_owns o3 pb pl
  replace h1 := h1.below b3
  replace hp := hp.below b3
  replace hq := hq.below b3
  replace hb := hb.trans (b3.mono hb.size)
  clear o3 b3
  go_wp2_with fail
  (with_reducible refine (KN2 _ _ _ _ h1).mono ?_)
  rintro e w4 ⟨a4, c4, rfl, o4, b4⟩
  dsimp only at o4
  have hy := bytesV_of_owns o4 pb pl
  replace h1 := h1.below b4
  replace hp := hp.below b4
  replace hq := hq.below b4
  replace hx := hx.below b4
  replace hb := hb.trans (b4.mono hb.size)
  clear o4 b4
  go_wp2_with fail
  (with_reducible refine (sameBytes_any _ _ _ p _ _ _ p _ hx hy).mono ?_)
  rintro e w5 ⟨rfl, b5⟩
  rw [decide_eq_true (rfl)]
  replace h1 := h1.below b5
  replace hp := hp.below b5
  replace hq := hq.below b5
  replace hx := hx.below b5
  replace hy := hy.below b5
  replace hb := hb.trans (b5.mono hb.size)
  clear b5
  go_wp2_with fail
  (with_reducible refine (KS1 _ _ _ (by omega) _ hq).mono ?_)
  rintro e w6 ⟨a6, c6, s6, rfl, o6, i6, b6⟩
  dsimp only at o6 i6
  have vp := rowV_own o6
  have rp := i6.rowsV hsb
  replace h1 := h1.below b6
  replace hp := hp.below b6
  replace hq := hq.below b6
  replace hx := hx.below b6
  replace hy := hy.below b6
  replace hb := hb.trans (b6.mono hb.size)
  clear o6 i6 b6
  go_wp2_with fail
  (with_reducible refine (KS2 _ _ _ (by omega) _ h1).mono ?_)
  rintro e w7 ⟨a7, c7, s7, rfl, o7, i7, b7⟩
  dsimp only at o7 i7
  have vq := rowV_own o7
  have rq := i7.rowsV hsb
  replace h1 := h1.below b7
  replace hp := hp.below b7
  replace hq := hq.below b7
  replace hx := hx.below b7
  replace hy := hy.below b7
  replace vp := vp.below b7
  replace rp := rp.below b7
  replace hb := hb.trans (b7.mono hb.size)
  clear o7 i7 b7
  go_wp2_with fail
  (with_reducible refine (sameRows_any _ _ _ s6 ps _ _ _ s7 ps _ vp rp vq rq hscn).mono ?_)
  rintro e w8 ⟨rfl, b8⟩
  rw [decide_eq_true (rfl)]
  replace h1 := h1.below b8
  replace hp := hp.below b8
  replace hq := hq.below b8
  replace hx := hx.below b8
  replace hy := hy.below b8
  replace vp := vp.below b8
  replace rp := rp.below b8
  replace vq := vq.below b8
  replace rq := rq.below b8
  replace hb := hb.trans (b8.mono hb.size)
  clear b8
  go_wp2_with fail
  (with_reducible refine (spare_any _ _ _ la _ h1 (by omega)).mono ?_)
  rintro e w9 ⟨a9, c9, rfl, o9, b9⟩
  have hr := gives_reads o9 (spareB_bytes b1) ssp
  replace h1 := h1.below b9
  replace hp := hp.below b9
  replace hq := hq.below b9
  replace hx := hx.below b9
  replace hy := hy.below b9
  replace vp := vp.below b9
  replace rp := rp.below b9
  replace vq := vq.below b9
  replace rq := rq.below b9
  replace hb := hb.trans (b9.mono hb.size)
  clear o9 b9
  go_wp2_with fail
  (with_reducible refine (sameBytes_any _ _ _ (spareB la) _ _ _ (spareB la) _ hp hr).mono ?_)
  rintro e w10 ⟨rfl, b10⟩
  rw [decide_eq_true (rfl)]
  replace h1 := h1.below b10
  replace hp := hp.below b10
  replace hq := hq.below b10
  replace hx := hx.below b10
  replace hy := hy.below b10
  replace vp := vp.below b10
  replace rp := rp.below b10
  replace vq := vq.below b10
  replace rq := rq.below b10
  replace hr := hr.below b10
  replace hb := hb.trans (b10.mono hb.size)
  clear b10
  go_wp2
  go_ret
  exact ⟨rfl, hb⟩
end Go.Proofs.Ytkepdjbgfkoobaa
