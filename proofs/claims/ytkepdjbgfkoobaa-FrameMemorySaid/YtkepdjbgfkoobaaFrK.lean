/-
  frame: the reference's Check and Pack.
-/
import Derived.Test.YtkepdjbgfkoobaaFrF
namespace Go.Proofs.Ytkepdjbgfkoobaa
open Go.RowKit

set_option maxRecDepth 100000 in
set_option maxHeartbeats 2000000 in
theorem refCheck_any (ad : Option Addr) (n c : Nat) (l : List Nat) (w : World) (h : BytesV w (ad, n, c) l) :
    Calls Try.prog 16 #[.slice ad n c] w fun e w' => e = .returned (.int .u32 (crcN l : Nat)) ∧ w' = w := by
  have hl : l.length = n := h.length
  have hsm : n ≤ 140737488355328 := h.small
  have hby := h.bytes
  have HL := Lib.hid hl
  clear hl
  go_enter Try.func16, Try.ntmps16
  go_wp2
  go_loop [3, 4] (fun v i => ∃ k : Nat, k ≤ n ∧ i = .int .i64 k ∧ v = .int .u32 (crcFrom 4294967295 (l.take k) : Nat)) (fun _ i => n - (intOf i).toNat)
  case atStart => exact ⟨0, Nat.zero_le _, rfl, rfl⟩
  case round =>
    obtain ⟨k, hk, rfl, rfl⟩ := hrel
    have hc0 : crcFrom 4294967295 (l.take k) < 4294967296 := crcFrom_lt (fun x hx => hby x (List.mem_of_mem_take hx)) (by omega)
    by_cases hlt : k < n
    · have hS : crcFrom 4294967295 (l.take (k + 1)) = laidN (crcFrom 4294967295 (l.take k)) (l.getD k 0) := by
        rw [List.take_succ_eq_append_getElem (by rw [HL.out]; exact hlt), crcFrom_snoc, List.getD_eq_getElem?_getD, List.getElem?_eq_getElem (by rw [HL.out]; exact hlt)]; rfl
      obtain ⟨b, o, e, hc⟩ := h.row.2 (by simp; omega)
      simp only at e
      subst e
      have hd := hby.getD k
      replace hc := (hc k hlt).trans (bv_getD (by rw [HL.out]; exact hlt))
      obtain ⟨d, hdd⟩ : ∃ d, d = l.getD k 0 := ⟨_, rfl⟩
      obtain ⟨y, hyy⟩ : ∃ y, y = crcFrom 4294967295 (l.take k) := ⟨_, rfl⟩
      rw [← hdd] at hd hc hS
      rw [← hyy] at hc0 hS ⊢
      have hx := u32_xor_nat y d hc0 (by omega)
      have hv0 := xor4_lt hc0 (show d < 4294967296 by omega)
      obtain ⟨z, hz⟩ : ∃ z, z = y ^^^ d := ⟨_, rfl⟩
      have hS2 : crcFrom 4294967295 (l.take (k + 1)) = crc8 8 z := by rw [hS, hz]; rfl
      rw [← hz] at hx hv0
      have HS := Lib.hid hS2
      clear hS hS2 hyy hdd hz
      go_wp2
      clear hx
      go_loop [3, 5] (fun v' j => ∃ q : Nat, q ≤ 8 ∧ j = .int .i64 q ∧ v' = .int .u32 (crc8 q z : Nat)) (fun _ j => 8 - (intOf j).toNat)
      case atStart => exact ⟨0, Nat.zero_le _, rfl, rfl⟩
      case round =>
        obtain ⟨q, hq, rfl, rfl⟩ := hrel
        have hv := crc8_lt hv0 q
        have hS : crc8 (q + 1) z = crcStep (crc8 q z) := rfl
        obtain ⟨v, hvv⟩ : ∃ v, v = crc8 q z := ⟨_, rfl⟩
        rw [← hvv] at hv hS ⊢
        have HS2 := Lib.hid hS
        have HV := Lib.hid hvv
        clear hS hvv
        by_cases hqt : q < 8
        · by_cases ho : v % 2 = 1
          · have hm : (v : Int) % 2 = 1 := by omega
            have hx : bits .xor .u32 ((v : Int) / 2) 3988292384 = ((v / 2 ^^^ 3988292384 : Nat) : Int) := u32_xor_nat (v / 2) 3988292384 (by omega) (by omega)
            go_wp2
            go_round
            case rel => exact ⟨q + 1, by omega, by go_num, by rw [HS2.out]; unfold crcStep; rw [if_pos ho]⟩
            case measure => simp [intOf]; omega
          · have hm : (v : Int) % 2 = 0 := by omega
            go_wp2
            go_round
            case rel => exact ⟨q + 1, by omega, by go_num, by rw [HS2.out]; unfold crcStep; rw [if_neg ho]; go_num⟩
            case measure => simp [intOf]; omega
        · obtain rfl : q = 8 := by omega
          go_wp2
          go_round
          case rel => exact ⟨k + 1, by omega, by go_num, by rw [HS.out, HV.out]⟩
          case measure => simp [intOf]; omega
    · obtain rfl : k = n := by omega
      have e : l.take k = l := by rw [List.take_of_length_le (by rw [HL.out]; exact Nat.le_refl _)]
      rw [e] at hc0 ⊢
      clear e
      have hN : crcN l = crcFrom 4294967295 l ^^^ 4294967295 := rfl
      obtain ⟨v, hvv⟩ : ∃ v, v = crcFrom 4294967295 l := ⟨_, rfl⟩
      rw [← hvv] at hc0 hN ⊢
      have HN := Lib.hid hN
      have hx : bits .xor .u32 (v : Int) 4294967295 = ((v ^^^ 4294967295 : Nat) : Int) := u32_xor_nat v 4294967295 hc0 (by omega)
      clear hvv hN
      go_wp2
      go_ret
      exact ⟨ret_u32 (by rw [HN.out]), rfl⟩

set_option maxRecDepth 100000 in
set_option maxHeartbeats 2000000 in
theorem refPack_long (ad : Option Addr) (n c : Nat) (hn : 32768 < n) (hs : n ≤ 140737488355328) (w : World) :
    Calls Try.prog 14 #[.slice ad n c] w fun e w' => e = .returned (.tuple #[.slice none 0 0, .int .i64 71]) ∧ w' = w := by
  go_enter Try.func14, Try.ntmps14
  go_wp2
  go_ret2
  exact ⟨rfl, rfl⟩

set_option maxRecDepth 100000 in
set_option maxHeartbeats 2000000 in
theorem refPack_any (ad : Option Addr) (n c : Nat) (l : List Nat) (hn : n ≤ 32768) (w : World) (h : BytesV w (ad, n, c) l) :
    Calls Try.prog 14 #[.slice ad n c] w fun e w' => ∃ ad' cap, e = .returned (.tuple #[.slice ad' (n + 8) cap, .int .i64 0]) ∧ w'.ownsRow w.heap.size 5 1 (.slice ad' (n + 8) cap) (n + 8) ((frameN l).map bv) ∧ Below w.heap.size w w' := by
  obtain ⟨i0, hi, hz0, hz1, hz2⟩ := info_parts Try.info5
  have hl : l.length = n := h.length
  have hby := h.bytes
  have hcr : crcN (headN n ++ l) < 4294967296 := crcN_lt ((headN_bytes n).app hby)
  have hfr : frameN l = (headN n ++ l) ++ be4 (crcN (headN n ++ l)) := by unfold frameN; rw [hl]
  obtain ⟨f, hf⟩ : ∃ f, f = headN n ++ l := ⟨_, rfl⟩
  rw [← hf] at hcr hfr
  have HL := Lib.hid hl
  have HFR := Lib.hid hfr
  have HF := Lib.hid hf
  have hfb : Bytes f := by rw [hf]; exact (headN_bytes n).app hby
  clear hl hfr hf
  have hown0 : (w.alloc (.cells #[.int .u8 90, .int .u8 ((n : Int) / 65536), .int .u8 ((n : Int) / 256), .int .u8 ((n : Int) % 256)] 5)).ownsRow w.heap.size 5 1 (.slice (some ⟨w.heap.size, 0, none⟩) 4 4) 4 ((headN n).map bv) :=
    ⟨rfl, .inr ⟨w.heap.size, 4, _, rfl, Nat.le_refl _, heap_alloc_new _ _, Nat.le_refl _, by simp [maxLen], rfl, by simp [headN, bv]; omega⟩⟩
  have hrow := (h.alloc (o := .cells #[.int .u8 90, .int .u8 ((n : Int) / 65536), .int .u8 ((n : Int) / 256), .int .u8 ((n : Int) % 256)] 5)).row
  have hnil := h.nil
  simp only at hrow hnil
  have hbA := below_alloc w (.cells #[.int .u8 90, .int .u8 ((n : Int) / 65536), .int .u8 ((n : Int) / 256), .int .u8 ((n : Int) % 256)] 5)
  go_enter Try.func14, Try.ntmps14
  go_wp2_with (first | (at_builtin; refine wpList_append_row rfl (.tmp 20) (.tmp 21) 22 rfl w.heap.size 5 i0 (.int .u8 0) 1 Try.underlying22 hi hz0 hz1 hz2 rfl _ _ _ rfl hown0 ad n c (l.map bv) rfl hrow hnil (bv_one _) (by simp [maxLen]; omega) (by omega) (by simp) ?_; intro v' w1 hown1 hgrow1 hnil1; have hb1 := below_grown hbA hgrow1 (ownBlock_ge hown0); obtain ⟨ad1, cap1, rfl, _⟩ := ownsRow_parts hown1; rw [← List.map_append, ← HF.out] at hown1; have hB1 := bytesV_of_owns hown1 hfb (by omega); clear hgrow1 hnil1))
  (with_reducible refine (refCheck_any _ _ _ f _ hB1).mono ?_)
  rintro e w2 ⟨rfl, rfl⟩
  obtain ⟨v, hv⟩ : ∃ v, v = crcN f := ⟨_, rfl⟩
  rw [← hv] at hcr ⊢
  rw [← hv] at HFR
  have HV := Lib.hid hv
  clear hv hrow hown0
  have hbs := hb1.size
  have KB : ∀ w : World, RowV (w.alloc (.cells #[.int .u8 ((v : Int) / 16777216), .int .u8 ((v : Int) / 65536 % 256), .int .u8 ((v : Int) / 256 % 256), .int .u8 ((v : Int) % 256)] 5)) (some ⟨w.heap.size, 0, none⟩) 4 ((be4 v).map bv) := fun w =>
    rowV_lit w _ 5 w.heap.size 4 ((be4 v).map bv) rfl (by simp [be4, bv]; omega) rfl
  have hown2 := hown1.alloc (.cells #[.int .u8 ((v : Int) / 16777216), .int .u8 ((v : Int) / 65536 % 256), .int .u8 ((v : Int) / 256 % 256), .int .u8 ((v : Int) % 256)] 5)
  go_wp2_with (first | (at_builtin; refine wpList_append_row rfl (.tmp 25) (.tmp 37) 22 rfl w.heap.size 5 i0 (.int .u8 0) 1 Try.underlying22 hi hz0 hz1 hz2 rfl _ _ _ rfl hown2 _ 4 4 ((be4 v).map bv) rfl (KB _) (fun e => by cases e) (bv_one _) (by simp [maxLen]; omega) (by omega) (by simp; omega) ?_; intro v' w3 hown3 hgrow3 hnil3))
  obtain ⟨ad', cap', rfl, _⟩ := ownsRow_parts hown3
  have hb3 := below_grown (hb1.alloc hbs _) hgrow3 (ownBlock_ge hown2)
  rw [← List.map_append, ← HFR.out] at hown3
  rw [show 4 + n + 4 = n + 8 by omega] at hown3 ⊢
  clear hgrow3 hnil3 hown2 hown1 hB1
  go_wp2
  go_ret2
  exact ⟨ad', cap', rfl, hown3, hb3⟩
end Go.Proofs.Ytkepdjbgfkoobaa
