/-
  lin: the small functions: without, lead, ContainsFunc, even, right, width, value.
-/
import Derived.Test.YtgnnfpnkhemimaaLiO
import Derived.Test.YtgnnfpnkhemimaaGfG
import Derived.Test.YtgnnfpnkhemimaaFrD
namespace Go.Proofs.Ytgnnfpnkhemimaa
open Go.RowKit

/-- What a call answers that gives bytes, its own or another's. -/
def ReadsBytes (n : Nat) (l : List Nat) (w : World) (e : Ending) (w' : World) : Prop := ∃ a c, e = .returned (.slice a n c) ∧ BytesV w' (a, n, c) l ∧ Below w.heap.size w w'
theorem mix_two {L k : Nat} {e o : List Nat} (he : e.length = L) (ho : o.length = L) (hb : Bytes e) : mixTo [1, k] [e, o] (longest [e, o] 2) 2 = addTo e k o := by
  have hL : longest [e, o] 2 = L := by simp [longest, he, ho]
  apply ext_getD
  · rw [mixTo_length, addTo_length, hL, he]
  · intro j hj
    rw [mixTo_length] at hj
    rw [mixTo_getD _ _ _ _ hj, addTo_getD _ _ _ _ (by omega)]
    simp only [mixAt, List.getD_cons_zero, List.getD_cons_succ, Nat.zero_xor, one_mul (hb.getD j)]

set_option maxRecDepth 100000 in
set_option maxHeartbeats 2000000 in
theorem without_any (c : Nat) (a1 : Option Addr) (c1 : Nat) (a2 : Option Addr) (c2 L : Nat) (e o : List Nat) (w : World) (h1 : BytesV w (a1, L, c1) e) (h2 : BytesV w (a2, L, c2) o) (hc : c < L) :
    Calls Try.prog 39 #[.int .i64 (c : Int), .slice a1 L c1, .slice a2 L c2] w (ReadsBytes L (addTo e (e.getD c 0) o) w) := by
  have hle : e.length = L := h1.length
  have hlo : o.length = L := h2.length
  have hsm := h1.small
  simp only at hsm
  obtain ⟨b, off, rfl, hcl⟩ := h1.row.2 (show 0 < L by omega)
  have hc1 := hcl c (show c < L by omega)
  rw [bv_getD (by omega)] at hc1
  have hk := h1.bytes.getD c
  have h1' := Lib.hid h1
  obtain ⟨k, hkk⟩ : ∃ k, k = e.getD c 0 := ⟨_, rfl⟩
  rw [← hkk] at hc1 hk ⊢
  have HLE := Lib.hid hle
  have HLO := Lib.hid hlo
  clear hle hlo hcl h1
  by_cases h0 : k = 0
  · subst h0
    clear hkk
    have hc1' : w.cell? ⟨b, off + c, none⟩ = some (.int .u8 0) := hc1
    clear hc1
    go_enter Try.func39, Try.ntmps39
    go_wp2
    go_ret
    exact ⟨_, _, rfl, by rw [addTo_zero]; exact h1'.out, Below.refl _ _⟩
  · have hne : (((k : Nat) : Int) == 0) = false := beq_eq_false_iff_ne.2 (by omega)
    clear hkk
    have hmt := fun (_ : Unit) => mix_two (k := k) HLE.out HLO.out h1'.out.bytes
    have hlg : longest [e, o] 2 = L := by simp [longest, HLE.out, HLO.out]
    have HMT := Lib.hid hmt
    have HLG := Lib.hid hlg
    clear hmt hlg
    have hks : Bytes [1, k] := by intro x hx; simp at hx; omega
    have e1 := (rowV_lit w #[.int .u8 1, .int .u8 ((k : Nat) : Int)] 5 w.heap.size 2 ([1, k].map bv) rfl rfl rfl).alloc (o := .cells #[.slice (some ⟨b, off, none⟩) L c1, .slice a2 L c2] 34)
    have e2 := rowV_lit (w.alloc (.cells #[.int .u8 1, .int .u8 ((k : Nat) : Int)] 5)) #[.slice (some ⟨b, off, none⟩) L c1, .slice a2 L c2] 34 (w.heap.size + 1) 2 ([(some (⟨b, off, none⟩ : Addr), L, c1), (a2, L, c2)].map SV) (by simp) rfl rfl
    have e3 : RowsV ((w.alloc (.cells #[.int .u8 1, .int .u8 ((k : Nat) : Int)] 5)).alloc (.cells #[.slice (some ⟨b, off, none⟩) L c1, .slice a2 L c2] 34)) [(some (⟨b, off, none⟩ : Addr), L, c1), (a2, L, c2)] [e, o] :=
      rowsV_cons (h1'.out.alloc.alloc) (rowsV_cons (h2.alloc.alloc) (rowsV_nil _))
    have KM := mix_any (some ⟨w.heap.size, 0, none⟩) 2 2 [1, k] (some ⟨w.heap.size + 1, 0, none⟩) 2 2 _ _ _ e1 hks (by omega) e2 (by omega) e3
    rw [HMT.out (), HLG.out] at KM
    have HB := Lib.hid (addTo_bytes h1'.out.bytes hk : Bytes (addTo e k o))
    clear e1 e2 e3 hks h2
    go_enter Try.func39, Try.ntmps39
    go_wp2_with (first | (go_at_call 37; (with_reducible refine KM.mono ?_); rintro e w1 ⟨rfl, ho, hb1⟩))
    go_ret
    simp only [World.size_alloc] at ho
    exact ⟨_, _, rfl, bytesV_of_owns ho HB.out hsm, ((below_alloc w _).alloc (by simp) _).trans (hb1.mono (by simp; omega))⟩

theorem alloc_ret {w : World} {o : Obj} {w' : World} (hb : Below (w.alloc o).heap.size (w.alloc o) w') : Below w.heap.size w w' := (below_alloc w o).trans (hb.mono (by simp))

theorem lead_step {cols : Nat} {e : List Nat} {k : Nat} (hk : k ≤ cols) (hl : cols ≤ e.length) (h : ∀ j, j < k → e.getD j 0 = 0) : k ≤ lead cols e := by
  by_cases hlt : k ≤ lead cols e
  · exact hlt
  · have h1 := lead_ne (cols := cols) (e := e) hl (by omega)
    exact absurd (h _ (by omega)) h1
theorem lead_at {cols : Nat} {e : List Nat} {k : Nat} (hk : k < cols) (hl : cols ≤ e.length) (h : ∀ j, j < k → e.getD j 0 = 0) (hn : e.getD k 0 ≠ 0) : lead cols e = k := by
  have h1 := lead_step (Nat.le_of_lt hk) hl h
  by_cases h2 : lead cols e ≤ k
  · omega
  · exact absurd (lead_zero hl (by omega)) hn
theorem lead_end {cols : Nat} {e : List Nat} (hl : cols ≤ e.length) (h : ∀ j, j < cols → e.getD j 0 = 0) : lead cols e = cols := by
  have h1 := lead_step (Nat.le_refl _) hl h
  have h2 := lead_le hl
  omega

set_option maxRecDepth 100000 in
set_option maxHeartbeats 2000000 in
theorem lead_any (cols wid : Nat) (a : Option Addr) (L c : Nat) (e : List Nat) (w : World) (h : BytesV w (a, L, c) e) (hc : 0 < cols) (hL : cols ≤ L) (hm : cols ≤ 1000) :
    Calls Try.prog 40 #[.agg #[.int .i64 (cols : Int), .int .i64 (wid : Int)], .slice a L c] w fun x w' => x = .returned (.int .i64 ((lead cols e : Nat) : Int)) ∧ Below w.heap.size w w' := by
  have hle : e.length = L := h.length
  have hcap := h.cap
  have hsm := h.small
  simp only at hsm hcap
  have HLE := Lib.hid hle
  have hbb := h.bytes
  have H := Lib.hid h
  obtain ⟨b, off, rfl, hcl⟩ := (h.below (below_alloc w (.cells #[.int .i64 (cols : Int), .int .i64 (wid : Int)] 47))).row.2 (show 0 < L by omega)
  have HCL := Lib.hid hcl
  have HBB := Lib.hid hbb
  clear hle h hcl hbb
  go_enter Try.func40, Try.ntmps40
  go_wp2
  go_loopw [12] (fun i wr => ∃ k : Nat, k ≤ cols ∧ i = .int .i64 k ∧ (∀ j, j < k → e.getD j 0 = 0) ∧ wr = w.alloc (.cells #[.int .i64 (cols : Int), .int .i64 (wid : Int)] 47)) (fun i _ => cols - (intOf i).toNat)
  case atStart => exact ⟨0, Nat.zero_le _, rfl, fun j hj => absurd hj (Nat.not_lt_zero _), rfl⟩
  case round =>
    obtain ⟨k, hk, rfl, hz, rfl⟩ := hrel
    have HZ := Lib.hid hz
    clear hz
    by_cases hlt : k < cols
    · have hc1 := HCL.out k (show k < L by omega)
      rw [bv_getD (by rw [HLE.out]; omega)] at hc1
      have hx := HBB.out.getD k
      obtain ⟨x, hxx⟩ : ∃ x, x = e.getD k 0 := ⟨_, rfl⟩
      rw [← hxx] at hc1 hx
      have HX := Lib.hid hxx
      clear hxx
      by_cases h0 : x = 0
      · subst h0
        have hc1' : (w.alloc (.cells #[.int .i64 (cols : Int), .int .i64 (wid : Int)] 47)).cell? ⟨b, off + k, none⟩ = some (.int .u8 0) := hc1
        clear hc1
        go_wp2
        go_roundw
        case rel => exact ⟨k + 1, by omega, by go_num, fun j hj => (by
          by_cases e : j = k
          · rw [e]; exact HX.out.symm
          · exact HZ.out j (by omega)), trivial⟩
        case measure => simp [intOf]; omega
      · have hne : (((x : Nat) : Int) != 0) = true := by rw [bne_iff_ne]; omega
        go_wp2
        go_ret
        refine ⟨ret_int ?_, below_alloc _ _⟩
        rw [lead_at hlt (by rw [HLE.out]; exact hL) HZ.out (by rw [← HX.out]; exact h0)]
    · obtain rfl : k = cols := by omega
      go_wp2
      go_ret
      refine ⟨ret_int ?_, below_alloc _ _⟩
      rw [lead_end (by rw [HLE.out]; exact hL) HZ.out]
end Go.Proofs.Ytgnnfpnkhemimaa
