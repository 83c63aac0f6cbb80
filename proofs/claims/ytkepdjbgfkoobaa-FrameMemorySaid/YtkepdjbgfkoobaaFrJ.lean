/-
  rilllaw07: FrameTells.
-/
import Derived.Test.YtkepdjbgfkoobaaFrI
import Derived.Test.YtkepdjbgfkoobaaLaw
namespace Go.Proofs.Ytkepdjbgfkoobaa
open Go.RowKit

theorem bytesV_set {w : World} {g n c i y : Nat} {l : List Nat} (h : BytesV w (some ⟨g, 0, none⟩, n, c) l) (hi : i < n) (hy : y < 256) : BytesV (w.setCell ⟨g, i, none⟩ (.int .u8 (y : Nat))) (some ⟨g, 0, none⟩, n, c) (l.set i y) := by
  have hl : l.length = n := h.length
  obtain ⟨b, o, e, hc⟩ := h.row.2 (by simp; omega)
  simp only at e hc
  cases e
  refine ⟨⟨by simpa using hl, fun _ => ⟨g, 0, rfl, fun j hj => ?_⟩⟩, fun x hx => ?_, h.small, h.cap, h.nil⟩
  · simp only at hj
    have hcj := hc j hj
    rw [Nat.zero_add] at hcj ⊢
    by_cases e : j = i
    · subst e
      have hci := (hcj.trans (bv_getD (by omega)))
      rw [List.map_set, List.getElem?_set_self (by simpa using (by omega : j < l.length))]
      exact World.cell?_setCell_same' w _ _ (by rw [hci]; rfl)
    · rw [List.map_set, List.getElem?_set_ne (by omega), ← hcj]
      exact World.cell?_setCell_other w _ _ _ (fun h => by cases h; exact e rfl)
  · rcases List.mem_or_eq_of_mem_set hx with h1 | h1
    · exact h.bytes x h1
    · rw [h1]; exact hy
theorem xor_ne {x t : Nat} (ht : t ≠ 0) : x ^^^ t ≠ x := fun h => ht (by
  have h2 : x ^^^ (x ^^^ t) = x ^^^ x := by rw [h]
  simpa [← Nat.xor_assoc] using h2)

set_option maxRecDepth 100000 in
set_option maxHeartbeats 4000000 in
theorem frameTells_walk (a1 : Option Addr) (n1 c1 : Nat) (la : List Nat) (at_ : Int) (turn : Int) (w : World)
    (h1 : BytesV w (a1, n1, c1) la) (_s1 : n1 ≤ 140737488351232) (_wa : (Lit.int .i64 at_).wf = true) (wt : (Lit.int .u8 turn).wf = true) :
    Calls Try.prog 6 #[.slice a1 n1 c1, .int .i64 at_, .int .u8 turn] w fun e w' => e = .returned (.bool true) ∧ Below w.heap.size w w' := by
  have KA := alive_any
  have l1 : la.length = n1 := h1.length
  have L1 := Lib.hid l1
  have b1 := h1.bytes
  have s1 := h1.small
  simp only at s1
  by_cases hn : 32768 < n1
  · clear l1
    go_enter Try.func6, Try.ntmps6
    go_wp2_with (go_at_call 10; (with_reducible refine (KA _).mono ?_); rintro e w1 ⟨rfl, hb1⟩)
    go_wp2_with fail
    (with_reducible refine (copyBytes_any _ _ _ la _ (h1.below hb1)).mono ?_)
    rintro e w2 ⟨a2, c2, rfl, o2, b2⟩
    rw [L1.out] at o2 ⊢
    have hb2 := hb1.trans (b2.mono hb1.size)
    clear b2 o2
    go_wp2_with (go_at_call 13; (with_reducible refine (pack_long _ _ _ hn s1 _).mono ?_); rintro e w3 ⟨rfl, rfl⟩)
    go_ret
    exact ⟨rfl, hb2⟩
  have hn' : n1 ≤ 32768 := by omega
  have KP := fun a c w h => pack_any a n1 c la hn' w h
  by_cases hat : at_ < 0 ∨ (n1 + 8 : Nat) ≤ at_ ∨ turn = 0
  · have hc3 : at_ < 0 ∨ (¬ at_ < 0 ∧ (n1 : Int) + 8 ≤ at_) ∨ (¬ at_ < 0 ∧ ¬ (n1 : Int) + 8 ≤ at_ ∧ turn = 0) := by omega
    clear hat l1
    rcases hc3 with hz | ⟨hz0, hz⟩ | ⟨hz0, hz1, rfl⟩
    all_goals
      go_enter Try.func6, Try.ntmps6
      go_wp2_with (go_at_call 10; (with_reducible refine (KA _).mono ?_); rintro e w1 ⟨rfl, hb1⟩)
      go_wp2_with fail
      (with_reducible refine (copyBytes_any _ _ _ la _ (h1.below hb1)).mono ?_)
      rintro e w2 ⟨a2, c2, rfl, o2, b2⟩
      rw [L1.out] at o2 ⊢
      have hb2 := hb1.trans (b2.mono hb1.size)
      have hC2 := bytesV_of_owns o2 b1 (by omega)
      clear b2 o2
      go_wp2_with fail
      (with_reducible refine (KP _ _ _ hC2).mono ?_)
      rintro e w3 ⟨a3, c3, rfl, o3, b3⟩
      have hb3 := hb2.trans (b3.mono hb2.size)
      clear o3 b3
      go_wp2
      go_ret
      exact ⟨rfl, hb3⟩
  · obtain ⟨i, rfl⟩ := Int.eq_ofNat_of_zero_le (by omega : 0 ≤ at_)
    obtain ⟨t0, t1⟩ := wf_u8 wt
    obtain ⟨t, rfl⟩ := Int.eq_ofNat_of_zero_le t0
    have hi : i < n1 + 8 := by omega
    have ht : t ≠ 0 := by omega
    have ht' : ((t : Int) == 0) = false := by simpa using ht
    have hi' : ((n1 + 8 : Nat) : Int) ≤ (i : Int) ↔ False := by simp; omega
    have hF : Bytes (frameN la) := frameN_bytes b1
    have lF : (frameN la).length = n1 + 8 := by rw [frameN_length, l1]
    have LF := Lib.hid lF
    have htl : t < 256 := by omega
    clear l1 lF hat t0 t1 wt
    go_enter Try.func6, Try.ntmps6
    go_wp2_with (go_at_call 10; (with_reducible refine (KA _).mono ?_); rintro e w1 ⟨rfl, hb1⟩)
    go_wp2_with fail
    (with_reducible refine (copyBytes_any _ _ _ la _ (h1.below hb1)).mono ?_)
    rintro e w2 ⟨a2, c2, rfl, o2, b2⟩
    rw [L1.out] at o2 ⊢
    have hb2 := hb1.trans (b2.mono hb1.size)
    have hC2 := bytesV_of_owns o2 b1 (by omega)
    clear b2 o2
    go_wp2_with fail
    (with_reducible refine (KP _ _ _ hC2).mono ?_)
    rintro e w3 ⟨a3, c3, rfl, o3, b3⟩
    have hb3 := hb2.trans (b3.mono hb2.size)
    have hB3 := bytesV_of_owns o3 hF (by omega)
    obtain ⟨g, rfl, hfr, hgw⟩ : ∃ g, a3 = some ⟨g, 0, none⟩ ∧ (∀ j, w3.frozen? ⟨g, j, none⟩ = false) ∧ w.heap.size ≤ g := by
      rcases o3.2 with ⟨e, _⟩ | ⟨g, cap, cur, e, hB, hh, _⟩
      · cases e
      · cases e
        exact ⟨g, rfl, fun j => frozen_of_row _ _ _ _ _ hh, Nat.le_trans hb2.size hB⟩
    clear o3 b3
    have hx := Bytes.getD hF i
    obtain ⟨b', o', e, hc⟩ := hB3.row.2 (by simp)
    simp only at e hc
    cases e
    have hc1 := (hc i hi).trans (bv_getD (by rw [LF.out]; exact hi))
    rw [Nat.zero_add] at hc1
    clear hc
    obtain ⟨x, hxx⟩ : ∃ x, x = (frameN la).getD i 0 := ⟨_, rfl⟩
    rw [← hxx] at hc1 hx
    have hq := u8_xor_nat x t hx htl
    have hy := xor_lt8 hx htl
    have hyx : x ^^^ t ≠ x := xor_ne ht
    obtain ⟨y, hyy⟩ : ∃ y, y = x ^^^ t := ⟨_, rfl⟩
    rw [← hyy] at hq hy hyx
    have hB4 := bytesV_set hB3 hi hy
    have hb4 := hb3.setCell (p := ⟨g, i, none⟩) hgw (.int .u8 (y : Nat))
    have hnx := next_turned b1 (by rw [L1.out]; exact hn') (i := i) (by rw [L1.out]; exact hi) hy (by rw [← hxx]; exact hyx)
    rw [L1.out] at hnx
    have hnc := nextN_cases ((frameN la).set i y)
    have KN := next_any _ _ _ _ _ hB4
    obtain ⟨q, hq2⟩ : ∃ q, q = nextN ((frameN la).set i y) := ⟨_, rfl⟩
    rw [← hq2] at hnx hnc KN
    obtain ⟨p, m, er⟩ := q
    simp only at hnx hnc
    have hme : m = 0 ∨ er = 0 := by
      rcases hnc with h | h
      · exact .inl h.1
      · exact .inr h.1
    have hm8 : ((m : Int) != ((n1 : Int) + 8)) = true := by rw [bne_iff_ne]; omega
    clear hnc hq2 hB4 hxx hyy hB3 hC2 hnx hyx
    have hfr' := hfr i
    clear hfr
    go_wp2_with fail
    (with_reducible refine KN.mono ?_)
    rintro e w4 ⟨a4, c4, rfl, o4, b4⟩
    dsimp only at o4
    have hbz := hb4.trans (b4.mono hb4.size)
    rcases hme with rfl | rfl
    · go_wp2
      go_ret
      exact ⟨rfl, hbz⟩
    · by_cases hm0 : m = 0
      · subst hm0
        go_wp2
        go_ret
        exact ⟨rfl, hbz⟩
      · have hm0' : ((m : Int) == 0) = false := by simpa using hm0
        go_wp2
        go_ret
        exact ⟨rfl, hbz⟩
end Go.Proofs.Ytkepdjbgfkoobaa
