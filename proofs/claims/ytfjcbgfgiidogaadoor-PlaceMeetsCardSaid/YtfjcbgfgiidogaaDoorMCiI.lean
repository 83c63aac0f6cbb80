/-
  place: Deal refused; what a deal has of each block.
-/
import Derived.Test.YtfjcbgfgiidogaaDoorMCiH
import Derived.Test.YtfjcbgfgiidogaaDoorMCiC
namespace Go.Proofs.YtfjcbgfgiidogaaDoor
open Go.RowKit

theorem and_7 (a : Int) : ∃ i : Nat, bits .and .i64 a 7 = (i : Int) ∧ i < 8 := by
  have h : (BitVec.ofInt 64 a &&& BitVec.ofInt 64 7).toNat < 8 := by
    rw [BitVec.toNat_and]
    exact Nat.lt_of_le_of_lt Nat.and_le_right (by decide)
  refine ⟨(BitVec.ofInt 64 a &&& BitVec.ofInt 64 7).toNat, ?_, h⟩
  show IntKind.i64.wrap ((BitVec.ofInt 64 a &&& BitVec.ofInt 64 7).toNat : Int) = _
  generalize (BitVec.ofInt 64 a &&& BitVec.ofInt 64 7).toNat = m at h ⊢
  unfold IntKind.wrap
  simp [IntKind.bits, IntKind.signed]
  omega
set_option maxRecDepth 100000 in
set_option maxHeartbeats 4000000 in
theorem deal_badc (n u r c t s : Int) (va : Option Addr) (vn vc : Nat) (w : World) (hG : ¬ Good n u r c t s) (hu : -9223372036854775808 ≤ u ∧ u ≤ 9223372036854775807) (hr : -9223372036854775808 ≤ r ∧ r ≤ 9223372036854775807) :
    Calls Tryd.prog 35 #[cfg n u r c t s, .slice va vn vc] w fun e w' => e = .returned (.tuple #[.slice none 0 0, .int .i64 130]) ∧ Below w.heap.size w w' := by
  have HC := fun w => check_any n u r c t s w hu hr
  rw [chk_bad hG] at HC
  clear hG
  unfold cfg at HC ⊢
  go_enter Tryd.func35, Tryd.ntmps35
  go_wp2_with fail
  (with_reducible refine (HC _).mono ?_)
  rintro e w1 ⟨rfl, hb1⟩
  obtain ⟨-, -, -, hbw⟩ := after_callP _ _ _ hb1
  clear HC hb1
  go_wp2
  go_ret2
  exact ⟨rfl, hbw⟩
set_option maxRecDepth 100000 in
set_option maxHeartbeats 4000000 in
theorem deal_bads (n u r c t s : Int) (va : Option Addr) (vn vc : Nat) (w : World) (hG : Good n u r c t s) (hsz : ¬ sizeC (vn : Int) t = 0) :
    Calls Tryd.prog 35 #[cfg n u r c t s, .slice va vn vc] w fun e w' => e = .returned (.tuple #[.slice none 0 0, .int .i64 (sizeC (vn : Int) t)]) ∧ Below w.heap.size w w' := by
  have HC := fun w => check_any n u r c t s w ⟨by have := hG; unfold Good at this; omega, by have := hG; unfold Good at this; omega⟩ ⟨by have := hG; unfold Good at this; omega, by have := hG; unfold Good at this; omega⟩
  rw [chk_good hG] at HC
  have KP := fun w => parts_any (vn : Int) t w
  unfold partsR at KP
  rw [if_neg hsz] at KP
  have hcb : (sizeC (vn : Int) t != 0) = true := by rw [bne_iff_ne]; exact hsz
  generalize sizeC (vn : Int) t = code at KP hcb ⊢
  clear hG hsz
  unfold cfg at HC ⊢
  go_enter Tryd.func35, Tryd.ntmps35
  go_wp2_with fail
  (with_reducible refine (HC _).mono ?_)
  rintro e w1 ⟨rfl, hb1⟩
  obtain ⟨-, -, hold, hbw⟩ := after_callP _ _ _ hb1
  have c4 : w1.cell? ⟨w.heap.size, 4, none⟩ = some (.int .i64 t) := cell_of_row _ _ 4 _ _ _ hold
  clear HC hb1 hold
  go_wp2_with fail
  (with_reducible refine (KP _).mono ?_)
  rintro e w2 ⟨a2, c2, rfl, -, b2⟩
  have hb := hbw.trans (b2.mono hbw.size)
  clear KP b2 c4 hbw
  go_wp2
  go_ret2
  exact ⟨rfl, hb⟩
/-! what a deal has of each block -/
theorem share_block (v : List Nat) (T N i m q b : Nat) : (ofBlock (shareL v T N i m q) b).length = if i = b then q else 0 := by
  unfold shareL
  induction q with
  | zero => simp [ofBlock]
  | succ q ih =>
    rw [List.range_succ, List.map_append, ofBlock_append, List.length_append, ih]
    have h1 : ofBlock ([q].map fun j => gen v T i (((m + N * j : Nat) : Nat) : Int)) b = if i = b then [(gen v T i (((m + N * q : Nat) : Nat) : Int)).2] else [] := by
      simp only [List.map_cons, List.map_nil]
      rw [ofBlock_one]
      have : (gen v T i (((m + N * q : Nat) : Nat) : Int)).1 = (i : Int) := rfl
      rw [this]
      by_cases e : i = b
      · rw [if_pos (by omega), if_pos e]
      · rw [if_neg (by omega), if_neg e]
    rw [h1]
    by_cases e : i = b
    · simp [e]
    · simp [e]
theorem dealTo_block (v : List Nat) (T N : Nat) (sh : Nat → Nat) (m b : Nat) : ∀ i, (ofBlock (dealTo v T N sh m i) b).length = if b < i then sh b else 0
  | 0 => by simp [dealTo, ofBlock]
  | i + 1 => by
    rw [dealTo, ofBlock_append, List.length_append, dealTo_block v T N sh m b i, share_block]
    by_cases h : b < i
    · rw [if_pos h, if_neg (by omega), if_pos (by omega)]; rfl
    · rw [if_neg h]
      by_cases e : i = b
      · subst e; rw [if_pos rfl, if_pos (by omega), Nat.zero_add]
      · rw [if_neg e, if_neg (by omega)]
theorem dealTo_len {v : List Nat} {T N : Nat} {sh : Nat → Nat} {m : Nat} : ∀ {i : Nat}, (∀ b, b < i → sh b ≤ 33) → (dealTo v T N sh m i).length ≤ i * 33
  | 0, _ => by simp [dealTo]
  | i + 1, h => by
    have h1 := dealTo_len (v := v) (T := T) (N := N) (m := m) (i := i) (fun b hb => h b (by omega))
    have h2 := h i (by omega)
    have h3 : (shareL v T N i m (sh i)).length = sh i := by simp [shareL]
    rw [dealTo, List.length_append, h3]
    omega
theorem dealTo_gen {v : List Nat} {T N : Nat} {sh : Nat → Nat} {m : Nat} (hN : N ≤ 8) (hm : m < N) : ∀ {i : Nat}, (∀ b, b < i → sh b ≤ 33) → i ≤ chZ (chN v.length T) → ∀ s ∈ dealTo v T N sh m i, Genuine v T s
  | 0, _, _, s, hs => by simp [dealTo] at hs
  | i + 1, h, hi, s, hs => by
    rw [dealTo] at hs
    rcases List.mem_append.1 hs with hs | hs
    · exact dealTo_gen hN hm (fun b hb => h b (by omega)) (by omega) s hs
    · unfold shareL at hs
      obtain ⟨j, hj, rfl⟩ := List.mem_map.1 hs
      have hj := List.mem_range.1 hj
      have h2 := h i (by omega)
      have h3 : N * j ≤ 8 * 33 := Nat.mul_le_mul hN (by omega)
      refine ⟨i, _, by omega, ?_, rfl⟩
      unfold okE
      simp only [Bool.and_eq_true, decide_eq_true_iff]
      omega
/-- a node's share is enough. -/
theorem shr_enough {N M k : Nat} {u r : Int} (hM : u + r - (N : Int) = (M : Int)) (h1 : 1 ≤ M) (h8 : M ≤ 8) (hk1 : 1 ≤ k) (hk : k ≤ 32) : k < M * (shr (N : Int) u r (k : Int)).toNat ∧ M * (shr (N : Int) u r (k : Int)).toNat ≤ 47 ∧ (shr (N : Int) u r (k : Int)).toNat ≤ 33 := by
  unfold shr
  rw [hM]
  have e1 : (k : Int) + (M : Int) - 1 = ((k + M - 1 : Nat) : Int) := by omega
  rw [e1, ← Int.natCast_ediv]
  obtain ⟨D, hD⟩ : ∃ D, D = (k + M - 1) / M := ⟨_, rfl⟩
  rw [← hD]
  have e2 : (((D : Nat) : Int) + 1).toNat = D + 1 := by omega
  rw [e2]
  have d1 : M * D ≤ k + M - 1 := by rw [hD]; exact Nat.mul_div_le _ _
  have d2 : k + M - 1 < M * D + M := by rw [hD]; exact Nat.lt_mul_div_succ _ (by omega)
  have d3 : D ≤ k := by
    have : D * 1 ≤ k := by
      rw [hD, Nat.mul_one]
      refine Nat.div_le_of_le_mul ?_
      obtain ⟨M', rfl⟩ : ∃ M', M = M' + 1 := ⟨M - 1, by omega⟩
      obtain ⟨k', rfl⟩ : ∃ k', k = k' + 1 := ⟨k - 1, by omega⟩
      rw [Nat.add_mul, Nat.mul_add]
      omega
    omega
  rw [Nat.mul_add, Nat.mul_one]
  omega
end Go.Proofs.YtfjcbgfgiidogaaDoor
