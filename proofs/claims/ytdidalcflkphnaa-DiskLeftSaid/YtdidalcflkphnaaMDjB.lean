/-
  disk: what the log keeps behind the power's loss.
-/
import Derived.Test.YtdidalcflkphnaaMDs1
import Derived.Test.YtdidalcflkphnaaMDjA
namespace Go.Proofs.Ytdidalcflkphnaa
open Go.RowKit

theorem below_trans' {a b c : World} (h : Below a.heap.size a b) (k : Below b.heap.size b c) : Below a.heap.size a c := h.trans (k.mono h.size)
def logS (safe read : List Nat) (base : Nat) (laid : Bool) (keep : Int) (reset : Bool) : List Nat :=
  if laid = true ∧ reset = false then safe else read.take (base + min keep.toNat (read.length - base))
abbrev FT : TypeId := 38
set_option maxRecDepth 100000 in
set_option maxHeartbeats 4000000 in
theorem logRem_any (g : Nat) (sa : Option Addr) (sn sc : Nat) (ra : Option Addr) (rn rc : Nat) (base : Nat) (laid : Bool) (safe read : List Nat) (keep : Int) (reset : Bool) (fa : Option Addr) (fn fc : Nat) (w : World)
    (c1 : w.cell? ⟨g, 1, none⟩ = some (.slice sa sn sc)) (c2 : w.cell? ⟨g, 2, none⟩ = some (.slice ra rn rc)) (c3 : w.cell? ⟨g, 3, none⟩ = some (.int .i64 (base : Nat))) (c4 : w.cell? ⟨g, 4, none⟩ = some (.bool laid))
    (hs : BytesV w (sa, sn, sc) safe) (hr : BytesV w (ra, rn, rc) read) (kr : rn ≤ 1000000000) (hb : base ≤ rn) :
    Calls Try.prog 41 #[.pointer (some ⟨g, 1, none⟩), .agg #[.int .i64 keep, .bool reset, .slice fa fn fc]] w (GivesBytes 5 w (logS safe read base laid keep reset)) := by
  have hrl : read.length = rn := hr.length
  have hgl := World.block_lt_of_cell? w ⟨g, 1, none⟩ c1
  have bt := below_alloc w (.cells #[.int .i64 keep, .bool reset, .slice fa fn fc] FT)
  have d1 := (bt.cell (p := ⟨g, 1, none⟩) hgl).trans c1
  have d2 := (bt.cell (p := ⟨g, 2, none⟩) hgl).trans c2
  have d3 := (bt.cell (p := ⟨g, 3, none⟩) hgl).trans c3
  have d4 := (bt.cell (p := ⟨g, 4, none⟩) hgl).trans c4
  have KS := clone_up sa sn sc safe _ w (hs.below bt) bt
  have HRB := Lib.hid (hr.below bt)
  unfold logS
  by_cases hl : laid = true ∧ reset = false
  · rw [if_pos hl]
    obtain ⟨rfl, rfl⟩ := hl
    clear hs hr hrl c1 c2 c3 c4 d2 d3
    go_enter Try.func41, Try.ntmps41
    go_wp2_with fail
    (with_reducible refine KS.mono ?_)
    rintro e w' ⟨a, c, rfl, o, b⟩
    clear KS
    go_wp2
    go_ret
    exact ⟨a, c, rfl, o, b⟩
  · rw [if_neg hl]
    rw [hrl]
    obtain ⟨kp, hkp⟩ : ∃ k, k = min keep.toNat (rn - base) := ⟨_, rfl⟩
    rw [← hkp]
    obtain ⟨m, hm⟩ : ∃ m, m = base + kp := ⟨_, rfl⟩
    obtain ⟨L, hL⟩ : ∃ L, L = read.take (base + kp) := ⟨_, rfl⟩
    rw [← hL]
    have hmr : m ≤ rn := by omega
    have h1r := (hr.below bt)
    have hrc : rn ≤ rc := hr.cap
    have hL2 : BytesV (w.alloc (.cells #[.int .i64 keep, .bool reset, .slice fa fn fc] FT)) (ra, m, rc) L := by
      have q := HRB.out
      rw [hL, ← hm]
      exact ⟨⟨by simp [hrl]; omega, fun h0 => by
        obtain ⟨b, off, e, hcl⟩ := q.row.2 (by simp only at h0 ⊢; omega)
        exact ⟨b, off, e, fun i hi => by simp only at hi ⊢; rw [hcl i (by simp only; omega), List.getElem?_map, List.getElem?_map, List.getElem?_take, if_pos hi]⟩⟩, fun y hy => q.bytes y (List.mem_of_mem_take hy), by simp only; omega, by simp only; omega, q.nil⟩
    have KL : ∀ w5, Below (w.alloc (.cells #[.int .i64 keep, .bool reset, .slice fa fn fc] FT)).heap.size (w.alloc (.cells #[.int .i64 keep, .bool reset, .slice fa fn fc] FT)) w5 → Calls Try.prog 47 #[.slice ra m rc] w5 (GivesBytes 5 w L) := fun w5 b5 => clone_up ra m rc L _ w (hL2.below b5) (below_trans' bt b5)
    have hbr : (base : Int) ≤ (rn : Int) := by omega
    have hmI : ((m : Nat) : Int) ≤ (rc : Int) := by omega
    have hsum : ∀ z : Int, z = (kp : Nat) → IntKind.i64.wrap ((base : Int) + z) = (m : Nat) := fun z hz => by rw [hz, wrap_i64_id _ (by omega) (by omega)]; omega
    have hsub : IntKind.i64.wrap ((rn : Int) - (base : Int)) = ((rn - base : Nat) : Int) := by rw [wrap_i64_id _ (by omega) (by omega)]; omega
    have HRN := Lib.hid hrl
    have HKP := Lib.hid hkp
    have HM := Lib.hid hm
    have HL := Lib.hid hL
    clear hs hr hrl hkp hm hL h1r hL2 KS c1 c2 c3 c4 bt HRB
    by_cases hld : laid = true
    · obtain rfl := hld
      obtain rfl : reset = true := by
        cases reset with
        | true => rfl
        | false => exact absurd ⟨rfl, rfl⟩ hl
      go_enter Try.func41, Try.ntmps41
      go_wp2
      obtain ⟨w4, hw4⟩ : ∃ x, x = w.alloc (.cells #[.int .i64 keep, .bool true, .slice fa fn fc] FT) := ⟨_, rfl⟩
      have e0 : w4.cell? ⟨w.heap.size, 0, none⟩ = some (.int .i64 keep) := by rw [hw4]; exact cell_of_row _ _ 0 _ _ _ (heap_alloc_self w _)
      rw [← hw4] at d1 d2 d3 d4 KL ⊢
      obtain ⟨t, ht⟩ : ∃ t, t = w.heap.size := ⟨_, rfl⟩
      rw [← ht] at e0 ⊢
      have HT := Lib.hid ht
      have HW4 := Lib.hid hw4
      clear ht hw4
      have KD : ∀ n, ((w4.drewN n).cell? ⟨g, 2, none⟩ = some (.slice ra rn rc) ∧ (w4.drewN n).cell? ⟨g, 3, none⟩ = some (.int .i64 (base : Nat))) ∧ Below w4.heap.size w4 (w4.drewN n) := fun n => by
        have b := below_drewN (Below.refl w4.heap.size w4) n
        exact ⟨⟨(b.cell (p := ⟨g, 2, none⟩) (World.block_lt_of_cell? w4 ⟨g, 2, none⟩ d2)).trans d2, (b.cell (p := ⟨g, 3, none⟩) (World.block_lt_of_cell? w4 ⟨g, 3, none⟩ d3)).trans d3⟩, b⟩
      by_cases hk0 : keep < 0
      · go_quiet (fail)
        have hkd := KD nq
        obtain ⟨w5, hw5⟩ : ∃ x, x = w4.drewN nq := ⟨_, rfl⟩
        rw [← hw5] at hkd ⊢
        clear hw5
        obtain ⟨⟨d2', d3'⟩, b5⟩ := hkd
        have KL2 := KL _ b5.drew
        have hwb : IntKind.i64.wrap (base : Int) = (m : Nat) := by
          have := hsum 0 (by rw [HKP.out]; omega)
          rw [Int.add_zero] at this; exact this
        clear KL KD b5 hsum
        go_wp2
        go_still_tail 11, (by kernel_rfl)
        go_wp2_with fail
        (with_reducible refine KL2.mono ?_)
        rintro e w' ⟨a, c, rfl, o, b⟩
        clear KL2
        go_wp2
        go_ret
        exact ⟨a, c, rfl, o, b⟩
      · obtain ⟨K, rfl⟩ : ∃ K : Nat, keep = K := ⟨keep.toNat, by omega⟩
        by_cases hk1 : ((rn - base : Nat) : Int) < (K : Int)
        · go_quiet (fail)
          have hkd := KD nq
          obtain ⟨w5, hw5⟩ : ∃ x, x = w4.drewN nq := ⟨_, rfl⟩
          rw [← hw5] at hkd ⊢
          clear hw5
          obtain ⟨⟨d2', d3'⟩, b5⟩ := hkd
          have KL2 := KL _ b5.drew
          have hwb : IntKind.i64.wrap ((base : Int) + ((rn - base : Nat) : Int)) = (m : Nat) := hsum _ (by rw [HKP.out]; omega)
          clear KL KD b5 hsum
          go_wp2
          go_still_tail 11, (by kernel_rfl)
          go_wp2_with fail
          (with_reducible refine KL2.mono ?_)
          rintro e w' ⟨a, c, rfl, o, b⟩
          clear KL2
          go_wp2
          go_ret
          exact ⟨a, c, rfl, o, b⟩
        · go_quiet (fail)
          have hkd := KD nq
          obtain ⟨w5, hw5⟩ : ∃ x, x = w4.drewN nq := ⟨_, rfl⟩
          rw [← hw5] at hkd ⊢
          clear hw5
          obtain ⟨⟨d2', d3'⟩, b5⟩ := hkd
          have KL2 := KL _ b5.drew
          have hwb : IntKind.i64.wrap ((base : Int) + (K : Int)) = (m : Nat) := hsum _ (by rw [HKP.out]; omega)
          clear KL KD b5 hsum
          go_wp2
          go_still_tail 11, (by kernel_rfl)
          go_wp2_with fail
          (with_reducible refine KL2.mono ?_)
          rintro e w' ⟨a, c, rfl, o, b⟩
          clear KL2
          go_wp2
          go_ret
          exact ⟨a, c, rfl, o, b⟩
    · obtain rfl : laid = false := by simpa using hld
      go_enter Try.func41, Try.ntmps41
      go_wp2
      obtain ⟨w4, hw4⟩ : ∃ x, x = w.alloc (.cells #[.int .i64 keep, .bool reset, .slice fa fn fc] FT) := ⟨_, rfl⟩
      have e0 : w4.cell? ⟨w.heap.size, 0, none⟩ = some (.int .i64 keep) := by rw [hw4]; exact cell_of_row _ _ 0 _ _ _ (heap_alloc_self w _)
      rw [← hw4] at d1 d2 d3 d4 KL ⊢
      obtain ⟨t, ht⟩ : ∃ t, t = w.heap.size := ⟨_, rfl⟩
      rw [← ht] at e0 ⊢
      have HT := Lib.hid ht
      have HW4 := Lib.hid hw4
      clear ht hw4
      have KD : ∀ n, ((w4.drewN n).cell? ⟨g, 2, none⟩ = some (.slice ra rn rc) ∧ (w4.drewN n).cell? ⟨g, 3, none⟩ = some (.int .i64 (base : Nat))) ∧ Below w4.heap.size w4 (w4.drewN n) := fun n => by
        have b := below_drewN (Below.refl w4.heap.size w4) n
        exact ⟨⟨(b.cell (p := ⟨g, 2, none⟩) (World.block_lt_of_cell? w4 ⟨g, 2, none⟩ d2)).trans d2, (b.cell (p := ⟨g, 3, none⟩) (World.block_lt_of_cell? w4 ⟨g, 3, none⟩ d3)).trans d3⟩, b⟩
      by_cases hk0 : keep < 0
      · go_quiet (fail)
        have hkd := KD nq
        obtain ⟨w5, hw5⟩ : ∃ x, x = w4.drewN nq := ⟨_, rfl⟩
        rw [← hw5] at hkd ⊢
        clear hw5
        obtain ⟨⟨d2', d3'⟩, b5⟩ := hkd
        have KL2 := KL _ b5.drew
        have hwb : IntKind.i64.wrap (base : Int) = (m : Nat) := by
          have := hsum 0 (by rw [HKP.out]; omega)
          rw [Int.add_zero] at this; exact this
        clear KL KD b5 hsum
        go_wp2
        go_still_tail 11, (by kernel_rfl)
        go_wp2_with fail
        (with_reducible refine KL2.mono ?_)
        rintro e w' ⟨a, c, rfl, o, b⟩
        clear KL2
        go_wp2
        go_ret
        exact ⟨a, c, rfl, o, b⟩
      · obtain ⟨K, rfl⟩ : ∃ K : Nat, keep = K := ⟨keep.toNat, by omega⟩
        by_cases hk1 : ((rn - base : Nat) : Int) < (K : Int)
        · go_quiet (fail)
          have hkd := KD nq
          obtain ⟨w5, hw5⟩ : ∃ x, x = w4.drewN nq := ⟨_, rfl⟩
          rw [← hw5] at hkd ⊢
          clear hw5
          obtain ⟨⟨d2', d3'⟩, b5⟩ := hkd
          have KL2 := KL _ b5.drew
          have hwb : IntKind.i64.wrap ((base : Int) + ((rn - base : Nat) : Int)) = (m : Nat) := hsum _ (by rw [HKP.out]; omega)
          clear KL KD b5 hsum
          go_wp2
          go_still_tail 11, (by kernel_rfl)
          go_wp2_with fail
          (with_reducible refine KL2.mono ?_)
          rintro e w' ⟨a, c, rfl, o, b⟩
          clear KL2
          go_wp2
          go_ret
          exact ⟨a, c, rfl, o, b⟩
        · go_quiet (fail)
          have hkd := KD nq
          obtain ⟨w5, hw5⟩ : ∃ x, x = w4.drewN nq := ⟨_, rfl⟩
          rw [← hw5] at hkd ⊢
          clear hw5
          obtain ⟨⟨d2', d3'⟩, b5⟩ := hkd
          have KL2 := KL _ b5.drew
          have hwb : IntKind.i64.wrap ((base : Int) + (K : Int)) = (m : Nat) := hsum _ (by rw [HKP.out]; omega)
          clear KL KD b5 hsum
          go_wp2
          go_still_tail 11, (by kernel_rfl)
          go_wp2_with fail
          (with_reducible refine KL2.mono ?_)
          rintro e w' ⟨a, c, rfl, o, b⟩
          clear KL2
          go_wp2
          go_ret
          exact ⟨a, c, rfl, o, b⟩
end Go.Proofs.Ytdidalcflkphnaa
