/-
  The plain helpers of the references: copies and comparisons of bytes and of lists of bytes.
-/
import Derived.Test.YtnefcbcioemfiaaRows
import Derived.Test.YtnefcbcioemfiaaMem
import Derived.WalkSpells
import Derived.WalkLawsBesides
import Derived.BigQuiet
import Derived.Deep.QuietTactic
import Derived.Lib.Hide
namespace Go.Proofs.Ytnefcbcioemfiaa
open Go.RowKit

theorem Try.info5 : (Try.prog.info? 5).map (fun i => (i.zero, i.size, i.bytes)) = some (some (.int .u8 0), 1, 1) := by kernel_rfl

set_option maxHeartbeats 400000 in
theorem copyBytes_any (ad : Option Addr) (n c : Nat) (l : List Nat) (w : World) (h : BytesV w (ad, n, c) l) :
    Calls Try.prog 27 #[.slice ad n c] w (GivesBytes 5 w l) := by
  obtain ⟨i0, hi, hz0, hz1, hz2⟩ := info_parts Try.info5
  have hsm : n ≤ 140737488355328 := h.small
  have hl : l.length = n := h.length
  have hr := h.row.below (below_alloc w (.cells #[] 5))
  have hnil := h.nil
  have HL := Lib.hid hl
  have hown0 := World.ownsRow_made (base := w.heap.size) (e := 5) (size := 1) w #[] 0 (Nat.le_refl _) (by simp [maxLen]) rfl
  clear h hl
  go_enter Try.func27, Try.ntmps27
  go_wp2_with (first | (at_builtin; refine wpList_append_row rfl _ _ 39 rfl w.heap.size 5 i0 (.int .u8 0) 1 Try.underlying39 hi hz0 hz1 hz2 rfl _ _ _ rfl hown0 ad n c (l.map bv) rfl hr hnil (bv_one l) (by simp [maxLen]; omega) (by omega) (by simp) ?_; intro v' w1 hown1 hgrow1 hnil1))
  obtain ⟨ad', cap', rfl, _⟩ := ownsRow_parts hown1
  have hb := below_grown (below_alloc w _) hgrow1 (ownBlock_ge hown0)
  simp only [Nat.zero_add, List.nil_append] at hown1 ⊢
  clear hgrow1 hnil1 hr
  go_wp2
  go_ret
  obtain rfl := HL.out
  exact ⟨ad', cap', rfl, hown1, hb⟩

set_option maxHeartbeats 400000 in
theorem sameBytes_quiet (a1 : Option Addr) (n1 c1 : Nat) (l1 : List Nat) (a2 : Option Addr) (n2 c2 : Nat) (l2 : List Nat) (w : World) (h1 : BytesV w (a1, n1, c1) l1) (h2 : BytesV w (a2, n2, c2) l2) :
    Calls Try.prog 28 #[.slice a1 n1 c1, .slice a2 n2 c2] w fun e w' => e = .returned (.bool (decide (l1 = l2))) ∧ ∃ m, w' = w.drewN m := by
  have hl1 : l1.length = n1 := h1.length
  have hl2 : l2.length = n2 := h2.length
  by_cases hn : n1 = n2
  · subst hn
    have hsm : n1 ≤ 140737488355328 := h1.small
    have HL1 := Lib.hid hl1
    have HL2 := Lib.hid hl2
    clear hl1 hl2
    go_enter Try.func28, Try.ntmps28
    go_wp2
    go_loopw [5] (fun i wr => ∃ k : Nat, k ≤ n1 ∧ i = .int .i64 k ∧ (∀ j, j < k → l1.getD j 0 = l2.getD j 0) ∧ ∃ m, wr = w.drewN m) (fun i _ => n1 - (intOf i).toNat)
    case atStart => exact ⟨0, Nat.zero_le _, rfl, fun j hj => absurd hj (by omega), 0, rfl⟩
    case round =>
      obtain ⟨k, hk, rfl, heq, hdr⟩ := hrel
      have hb : Below w.heap.size w wr := by obtain ⟨m, rfl⟩ := hdr; exact below_drewN (Below.refl _ _) _
      have HD := Lib.hid hdr
      clear hdr
      have HEQ := Lib.hid heq
      clear heq
      by_cases hlt : k < n1
      · obtain ⟨b1, o1, e1, hc1⟩ := (h1.row.below hb).2 (by simp; omega)
        obtain ⟨b2, o2, e2, hc2⟩ := (h2.row.below hb).2 (by simp; omega)
        simp only at e1 e2
        subst e1 e2
        have d1 := (hc1 k hlt).trans (bv_getD (by rw [HL1.out]; exact hlt))
        have d2 := (hc2 k hlt).trans (bv_getD (by rw [HL2.out]; exact hlt))
        clear hc1 hc2
        obtain ⟨x, hx⟩ : ∃ x, x = l1.getD k 0 := ⟨_, rfl⟩
        obtain ⟨y, hy⟩ : ∃ y, y = l2.getD k 0 := ⟨_, rfl⟩
        rw [← hx] at d1
        rw [← hy] at d2
        have HX := Lib.hid hx
        have HY := Lib.hid hy
        clear hx hy
        go_wp2
        go_quiet (fail)
        go_wp2
        · have hxy := ‹((x : Int) != (y : Int)) = true›
          have hf : ¬ l1 = l2 := by
            intro e
            rw [bne_iff_ne] at hxy
            apply hxy
            rw [HX.out, HY.out, e]
          go_ret
          refine ⟨?_, ?_⟩
          · rw [decide_eq_false hf]; rfl
          · obtain ⟨m, hm⟩ := HD.out; exact ⟨m + nq, by rw [hm, World.drewN_drewN]⟩
        · have hxy := ‹((x : Int) != (y : Int)) = false›
          have hxy' : x = y := by
            have : ¬ (x : Int) ≠ (y : Int) := by intro h; rw [← bne_iff_ne, hxy] at h; cases h
            omega
          go_roundw
          case rel =>
            refine ⟨k + 1, by omega, by go_num, ?_, by obtain ⟨m, hm⟩ := HD.out; exact ⟨m + nq, by rw [hm, World.drewN_drewN]⟩⟩
            intro j hj
            by_cases e : j = k
            · subst e; rw [← HX.out, ← HY.out, hxy']
            · exact HEQ.out j (by omega)
          case measure => simp [intOf]; omega
      · obtain rfl : k = n1 := by omega
        go_wp2
        go_ret
        refine ⟨?_, HD.out⟩
        rw [decide_eq_true (ext_getD (by rw [HL1.out, HL2.out]) (fun i hi => HEQ.out i (by rw [HL1.out] at hi; exact hi)))]
        rfl
  · have hne : ((n1 : Int) != (n2 : Int)) = true := by rw [bne_iff_ne]; omega
    have hf : ¬ l1 = l2 := by intro e; subst e; omega
    clear hl1 hl2
    go_enter Try.func28, Try.ntmps28
    go_wp2
    go_ret
    refine ⟨?_, 0, rfl⟩
    rw [decide_eq_false hf]
    rfl

theorem sameBytes_any (a1 : Option Addr) (n1 c1 : Nat) (l1 : List Nat) (a2 : Option Addr) (n2 c2 : Nat) (l2 : List Nat) (w : World) (h1 : BytesV w (a1, n1, c1) l1) (h2 : BytesV w (a2, n2, c2) l2) :
    Calls Try.prog 28 #[.slice a1 n1 c1, .slice a2 n2 c2] w fun e w' => e = .returned (.bool (decide (l1 = l2))) ∧ Below w.heap.size w w' :=
  (sameBytes_quiet a1 n1 c1 l1 a2 n2 c2 l2 w h1 h2).mono fun _ _ ⟨he, m, hm⟩ => ⟨he, by rw [hm]; exact below_drewN (Below.refl _ _) _⟩

end Go.Proofs.Ytnefcbcioemfiaa
