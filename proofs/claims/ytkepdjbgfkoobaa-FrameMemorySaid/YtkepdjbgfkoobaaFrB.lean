/-
  frame: Check.
-/
import Derived.Test.YtkepdjbgfkoobaaFrA
import Derived.Test.YtkepdjbgfkoobaaUse2
namespace Go.Proofs.Ytkepdjbgfkoobaa
open Go.RowKit

theorem ret_u32 {a b : Int} (h : a = b) : Ending.returned (.int .u32 a) = .returned (.int .u32 b) := by rw [h]
theorem not_u32 (a : Nat) (h : a < 4294967296) : ((4294967295 - a : Nat) : Int) = 4294967295 - (a : Int) := by omega

set_option maxRecDepth 10000 in
set_option maxHeartbeats 2000000 in
theorem check_any (adv : Option Addr) (n cv : Nat) (hs : List (Option Addr × Nat × Nat)) (ls : List (List Nat)) (hn : n ≤ 140737488351232) (w : World) (hv : RowV w adv n (hs.map SV)) (hr : RowsV w hs ls) :
    Calls Try.prog 15 #[.slice adv n cv] w fun e w' => e = .returned (.int .u32 (crcN ls.flatten : Nat)) ∧ w' = w := by
  have hlen : hs.length = n := by have := hv.1; simpa using this
  have hll : ls.length = n := by rw [← hr.1, hlen]
  have HLEN := Lib.hid hlen
  have HLL := Lib.hid hll
  have HM : Bytes ls.flatten := fun x hx => by
    obtain ⟨l, hl, hxl⟩ := List.mem_flatten.1 hx
    exact (hr.mem l hl).1 x hxl
  have hT : ∀ k, Bytes (ls.take k).flatten := fun k x hx => by
    obtain ⟨l, hl, hxl⟩ := List.mem_flatten.1 hx
    exact (hr.mem l (List.mem_of_mem_take hl)).1 x hxl
  clear hlen hll
  go_enter Try.func15, Try.ntmps15
  go_wp2
  go_loop [3, 10] (fun v i => ∃ k : Nat, k ≤ n ∧ i = .int .i64 k ∧ v = .int .u32 (crcFrom 4294967295 (ls.take k).flatten : Nat)) (fun _ i => n - (intOf i).toNat)
  case atStart => exact ⟨0, Nat.zero_le _, rfl, rfl⟩
  case round =>
    obtain ⟨k, hk, rfl, rfl⟩ := hrel
    have hc0 : crcFrom 4294967295 (ls.take k).flatten < 4294967296 := crcFrom_lt (hT k) (by omega)
    by_cases hlt : k < n
    · obtain ⟨x, hx, hb⟩ := hr.at k (by rw [HLEN.out]; exact hlt)
      have hS : crcFrom 4294967295 (ls.take (k + 1)).flatten = crcFrom (crcFrom 4294967295 (ls.take k).flatten) (ls.getD k []) := by
        rw [List.take_succ_eq_append_getElem (by rw [HLL.out]; exact hlt), List.flatten_append, crcFrom_append]
        congr 1
        rw [List.getD_eq_getElem?_getD, List.getElem?_eq_getElem (by rw [HLL.out]; exact hlt)]
        simp
      obtain ⟨b, o, e, hc⟩ := hv.2 (by omega)
      subst e
      have hcell := hc k hlt
      rw [List.getElem?_map, hx, Option.map_some] at hcell
      clear hc
      obtain ⟨v, hvv⟩ : ∃ v, v = crcFrom 4294967295 (ls.take k).flatten := ⟨_, rfl⟩
      obtain ⟨l, hll⟩ : ∃ l, l = ls.getD k [] := ⟨_, rfl⟩
      rw [← hvv] at hc0 hS ⊢
      rw [← hll] at hb hS
      have HS := Lib.hid hS
      clear hS hvv hll hx hT HM
      obtain ⟨ad, m, c⟩ := x
      have hln : l.length = m := hb.length
      have hsm := hb.small
      have hby := hb.bytes
      simp only at hsm
      unfold SV at hcell
      have HLN := Lib.hid hln
      clear hln
      go_wp2
      go_loop [3, 16] (fun v' j => ∃ q : Nat, q ≤ m ∧ j = .int .i64 q ∧ v' = .int .u32 (crcFrom v (l.take q) : Nat)) (fun _ j => m - (intOf j).toNat)
      case atStart => exact ⟨0, Nat.zero_le _, rfl, rfl⟩
      case round =>
        obtain ⟨q, hq, rfl, rfl⟩ := hrel
        have hc1 : crcFrom v (l.take q) < 4294967296 := crcFrom_lt (fun x hx => hby x (List.mem_of_mem_take hx)) hc0
        by_cases hqt : q < m
        · have hS2 : crcFrom v (l.take (q + 1)) = laidN (crcFrom v (l.take q)) (l.getD q 0) := by
            rw [List.take_succ_eq_append_getElem (by rw [HLN.out]; exact hqt), crcFrom_snoc, List.getD_eq_getElem?_getD, List.getElem?_eq_getElem (by rw [HLN.out]; exact hqt)]; rfl
          obtain ⟨b2, o2, e2, hc2⟩ := hb.row.2 (by simp; omega)
          simp only at e2
          subst e2
          have hd := hby.getD q
          replace hc2 := (hc2 q hqt).trans (bv_getD (by rw [HLN.out]; exact hqt))
          obtain ⟨d, hdd⟩ : ∃ d, d = l.getD q 0 := ⟨_, rfl⟩
          obtain ⟨y, hyy⟩ : ∃ y, y = crcFrom v (l.take q) := ⟨_, rfl⟩
          rw [← hdd] at hd hc2 hS2
          rw [← hyy] at hc1 hS2 ⊢
          have HS2 := Lib.hid hS2
          clear hS2 hyy hdd
          go_wp2_with (go_at_call 25; (with_reducible refine (laid_any y d hc1 hd _).mono ?_); rintro e w' ⟨rfl, rfl⟩)
          go_round
          case rel => exact ⟨q + 1, by omega, by go_num, by rw [HS2.out]⟩
          case measure => simp [intOf]; omega
        · obtain rfl : q = m := by omega
          have hS3 : crcFrom v (l.take q) = crcFrom v l := by rw [List.take_of_length_le (by rw [HLN.out]; exact Nat.le_refl _)]
          rw [hS3]
          clear hS3 hc1
          go_wp2
          go_round
          case rel => exact ⟨k + 1, by omega, by go_num, by rw [HS.out]⟩
          case measure => simp [intOf]; omega
    · obtain rfl : k = n := by omega
      have e : (ls.take k).flatten = ls.flatten := by rw [List.take_of_length_le (by rw [HLL.out]; exact Nat.le_refl _)]
      rw [e] at hc0 ⊢
      clear e hT
      have hN : crcN ls.flatten = 4294967295 ^^^ crcFrom 4294967295 ls.flatten := Nat.xor_comm _ _
      obtain ⟨v, hvv⟩ : ∃ v, v = crcFrom 4294967295 ls.flatten := ⟨_, rfl⟩
      rw [← hvv] at hc0 hN ⊢
      have HN := Lib.hid hN
      have hsg : (IntKind.u32.signed = true) = False := by simp [IntKind.signed]
      have hx : bits .xor .u32 IntKind.u32.max (v : Int) = ((4294967295 ^^^ v : Nat) : Int) := u32_xor_nat 4294967295 v (by omega) hc0
      clear hvv hN
      go_wp2
      go_ret
      exact ⟨ret_u32 (by rw [HN.out]), rfl⟩

theorem rowV_one (w : World) (v : Value) (T : TypeId) : RowV (w.alloc (.cells #[v] T)) (some ⟨w.heap.size, 0, none⟩) 1 [v] := rowV_lit w _ T w.heap.size 1 _ rfl rfl rfl
theorem rowV_two (w : World) (o : Obj) (v0 v1 : Value) (T : TypeId) : RowV ((w.alloc o).alloc (.cells #[v0, v1] T)) (some ⟨w.heap.size + 1, 0, none⟩) 2 [v0, v1] := rowV_lit (w.alloc o) _ T (w.heap.size + 1) 2 _ (by simp) rfl rfl
theorem check_one (a : Option Addr) (n c : Nat) (l : List Nat) (w : World) (h : BytesV w (a, n, c) l) :
    Calls Try.prog 15 #[.slice (some ⟨w.heap.size, 0, none⟩) 1 1] (w.alloc (.cells #[.slice a n c] 22)) fun e w' => e = .returned (.int .u32 (crcN l : Nat)) ∧ w' = w.alloc (.cells #[.slice a n c] 22) := by
  have := check_any (some ⟨w.heap.size, 0, none⟩) 1 1 [(a, n, c)] [l] (by omega) (w.alloc (.cells #[.slice a n c] 22)) (rowV_one w _ _) (rowsV_cons h.alloc (rowsV_nil _))
  simpa using this
end Go.Proofs.Ytkepdjbgfkoobaa
