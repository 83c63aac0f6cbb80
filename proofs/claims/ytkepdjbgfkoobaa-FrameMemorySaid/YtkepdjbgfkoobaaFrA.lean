/-
  frame: laid, Check, number.
-/
import Derived.Test.YtkepdjbgfkoobaaRows
import Derived.Test.YtkepdjbgfkoobaaMem
import Derived.Test.YtkepdjbgfkoobaaFrM
import Derived.Laws.BitsAllLaws
import Derived.WalkSpells
import Derived.WalkLawsBesides
import Derived.BigQuiet
import Derived.Deep.QuietTactic
import Derived.Lib.Hide
namespace Go.Proofs.Ytkepdjbgfkoobaa
open Go.RowKit

theorem and_one (v : Nat) (h : v < 4294967296) : bits .and .u32 (v : Int) 1 = ((v % 2 : Nat) : Int) := by
  have := u32_and_nat v 1 h (by omega)
  rw [Nat.and_one_is_mod] at this
  exact this

set_option maxRecDepth 100000 in
set_option maxHeartbeats 1000000 in
theorem laid_any (s b : Nat) (hs : s < 4294967296) (hb : b < 256) (w : World) : Calls Try.prog 25 #[.int .u32 s, .int .u8 b] w fun e w' => e = .returned (.int .u32 (laidN s b)) ∧ w' = w := by
  have hx := u32_xor_nat s b hs (by omega)
  go_enter Try.func25, Try.ntmps25
  go_wp2
  go_loop [0, 10] (fun v i => ∃ k : Nat, k ≤ 8 ∧ i = .int .i64 k ∧ v = .int .u32 (crc8 k (s ^^^ b) : Nat)) (fun _ i => 8 - (intOf i).toNat)
  case atStart => exact ⟨0, Nat.zero_le _, rfl, rfl⟩
  case round =>
    obtain ⟨k, hk, rfl, rfl⟩ := hrel
    clear hx
    have hv := crc8_lt (xor4_lt hs (show b < 4294967296 by omega)) k
    have hS : crc8 (k + 1) (s ^^^ b) = crcStep (crc8 k (s ^^^ b)) := rfl
    obtain ⟨v, hvv⟩ : ∃ v, v = crc8 k (s ^^^ b) := ⟨_, rfl⟩
    rw [← hvv] at hv hS ⊢
    have HS := Lib.hid hS
    have HV := Lib.hid hvv
    clear hS hvv
    by_cases hlt : k < 8
    · have ha := and_one v hv
      by_cases ho : v % 2 = 1
      · rw [ho] at ha
        have hx : bits .xor .u32 ((v : Int) / 2) 3988292384 = ((v / 2 ^^^ 3988292384 : Nat) : Int) := u32_xor_nat (v / 2) 3988292384 (by omega) (by omega)
        go_wp2
        go_round
        case rel => exact ⟨k + 1, by omega, by go_num, by rw [HS.out]; unfold crcStep; rw [if_pos ho]⟩
        case measure => simp [intOf]; omega
      · rw [show v % 2 = 0 by omega] at ha
        go_wp2
        go_round
        case rel => exact ⟨k + 1, by omega, by go_num, by rw [HS.out]; unfold crcStep; rw [if_neg ho]; go_num⟩
        case measure => simp [intOf]; omega
    · obtain rfl : k = 8 := by omega
      go_wp2
      go_ret
      exact ⟨by rw [HV.out]; rfl, rfl⟩

theorem shl8_or (n d : Nat) (hn : n < 36028797018963968) (hd : d < 256) : bits .or .i64 ((n : Int) * 256) (d : Int) = ((n * 256 + d : Nat) : Int) := by
  have h := ofInt_i64 (n * 256) (by omega)
  have h2 := ofInt_i64 d (by omega)
  have e : n * 256 ||| d = n * 256 + d := by
    rw [show n * 256 = n <<< 8 from (Nat.shiftLeft_eq n 8).symm, ← Nat.shiftLeft_add_eq_or_of_lt hd]
  show IntKind.i64.wrap ((BitVec.ofInt 64 ((n : Int) * 256) ||| BitVec.ofInt 64 (d : Int)).toNat : Int) = _
  rw [BitVec.toNat_or, show (n : Int) * 256 = ((n * 256 : Nat) : Int) by simp, h, h2, e, wrap_i64_id _ (by omega) (by omega)]
theorem numN_snoc (l : List Nat) (x : Nat) : numN (l ++ [x]) = numN l * 256 + x := by simp [numN]
theorem numN_lt : ∀ (l : List Nat), Bytes l → l.length ≤ 4 → numN l < 4294967296
  | [], _, _ => by simp [numN]
  | [a], h, _ => by have := h a (by simp); simp [numN]; omega
  | [a, b], h, _ => by have := h a (by simp); have := h b (by simp); simp [numN]; omega
  | [a, b, c], h, _ => by have := h a (by simp); have := h b (by simp); have := h c (by simp); simp [numN]; omega
  | [a, b, c, d], h, _ => by have := h a (by simp); have := h b (by simp); have := h c (by simp); have := h d (by simp); simp [numN]; omega
  | _ :: _ :: _ :: _ :: _ :: _, _, h => by simp at h

set_option maxRecDepth 100000 in
set_option maxHeartbeats 1000000 in
theorem number_any (ad : Option Addr) (n c : Nat) (l : List Nat) (hn : n ≤ 4) (w : World) (h : BytesV w (ad, n, c) l) : Calls Try.prog 26 #[.slice ad n c] w fun e w' => e = .returned (.int .i64 (numN l : Nat)) ∧ w' = w := by
  have hl : l.length = n := h.length
  have hB := h.bytes
  have HL := Lib.hid hl
  clear hl
  go_enter Try.func26, Try.ntmps26
  go_wp2
  go_loop [3, 5, 8] (fun v x i => ∃ k : Nat, k ≤ n ∧ i = .int .i64 k ∧ v = .int .i64 (numN (l.take k) : Nat)) (fun _ _ i => n - (intOf i).toNat)
  case atStart => exact ⟨0, Nat.zero_le _, rfl, rfl⟩
  case round =>
    obtain ⟨k, hk, rfl, rfl⟩ := hrel
    by_cases hlt : k < n
    · have hv := numN_lt (l.take k) (fun x hx => hB x (List.mem_of_mem_take hx)) (by rw [List.length_take]; omega)
      have hS : numN (l.take (k + 1)) = numN (l.take k) * 256 + l.getD k 0 := by
        rw [List.take_succ_eq_append_getElem (by rw [HL.out]; exact hlt), numN_snoc, List.getD_eq_getElem?_getD, List.getElem?_eq_getElem (by rw [HL.out]; exact hlt)]; rfl
      have hd := hB.getD k
      obtain ⟨b, o, e, hc⟩ := h.row.2 (by simp; omega)
      simp only at e
      subst e
      replace hc := (hc k hlt).trans (bv_getD (by rw [HL.out]; exact hlt))
      obtain ⟨d, hdd⟩ : ∃ d, d = l.getD k 0 := ⟨_, rfl⟩
      obtain ⟨v, hvv⟩ : ∃ v, v = numN (l.take k) := ⟨_, rfl⟩
      rw [← hdd] at hd hc hS
      rw [← hvv] at hv hS ⊢
      have ho := shl8_or v d (by omega) hd
      obtain ⟨r, hr⟩ : ∃ r, r = v * 256 + d := ⟨_, rfl⟩
      rw [← hr] at ho hS
      have HS := Lib.hid hS
      clear hS hdd hvv hr
      go_wp2
      go_round
      case rel => exact ⟨k + 1, by omega, by go_num, by rw [HS.out]⟩
      case measure => simp [intOf]; omega
    · obtain rfl : k = n := by omega
      go_wp2
      go_ret
      exact ⟨by rw [List.take_of_length_le (by rw [HL.out]; exact Nat.le_refl _)]; rfl, rfl⟩
end Go.Proofs.Ytkepdjbgfkoobaa
