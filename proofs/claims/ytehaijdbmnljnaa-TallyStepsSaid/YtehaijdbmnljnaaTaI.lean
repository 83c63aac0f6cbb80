/-
  tally: what the laws do with a list of answers.
-/
import Derived.Test.YtehaijdbmnljnaaTaF
import Derived.Test.YtehaijdbmnljnaaLawS
namespace Go.Proofs.Ytehaijdbmnljnaa
open Go.RowKit

set_option maxRecDepth 10000 in
theorem cut_any (ad : Option Addr) (n c : Nat) (Y : Nat → Bool) (Hd : Nat → Option Addr × Nat × Nat) (L : Nat → List Int) (w : World) (h : SaysV w ad n c Y Hd L) :
    Calls Try.prog 11 #[.slice ad n c] w fun e w' => ∃ m, m ≤ 50 ∧ m ≤ n ∧ e = .returned (.slice ad m c) ∧ SaysV w ad m c Y Hd L ∧ w' = w := by
  have hs := h.small
  have hc := h.cap
  have hm := h.capm
  unfold maxLen at hs hm
  by_cases h50 : 50 < n
  · obtain ⟨b, o, e, _, _⟩ := h.row (by omega)
    subst e
    go_enter Try.func11, Try.ntmps11
    go_wp2
    go_ret
    exact ⟨50, Nat.le_refl _, by omega, rfl, h.cut (by omega), rfl⟩
  · have h5 : n ≤ 50 := by omega
    go_enter Try.func11, Try.ntmps11
    go_wp2
    go_ret
    exact ⟨n, h5, Nat.le_refl _, rfl, h, rfl⟩

def whatOf (y : Bool) : Int := if y then 1 else 2

theorem grown_of_alloc {w w' : World} {o : Obj} {b : Nat} (h : (w.alloc o).grownBy w' (some b)) : w.grownBy w' (some b) := grownBy_trans (World.grownBy_alloc w o (some b)) h

set_option maxRecDepth 10000 in
set_option maxHeartbeats 4000000 in
theorem saylaw_any (b : Nat) (need : Int) (said : List Int) (N : Nat) (y : Bool) (ad : Option Addr) (n c : Nat) (l : List Int) (w : World) (hT : TallyI w b need said N) (hI : IntsV w (ad, n, c) l) (hn : n ≤ 100) :
    Calls Try.prog 12 #[.pointer (some ⟨b, 0, none⟩), .agg #[.bool y, .slice ad n c]] w fun e w' => e = .returned (.tuple #[]) ∧ TallyI w' b need (steps N (whatOf y) said l) N ∧ w.grownBy w' (some b) := by
  have hll : l.length ≤ 140737488355328 := by rw [hI.length]; exact hI.small
  have hTa := fun o => hT.alloc o
  have hIa := fun o => hI.alloc (o := o)
  have hlt := hT.v.lt
  cases y
  · go_enter Try.func12, Try.ntmps12
    go_wp2_with (first
      | (go_at_call 23; (with_reducible refine (copyInts_any _ _ _ l _ (hIa _) (by omega)).mono ?_); rintro e w4 ⟨ad4, cap4, rfl, hown4, hd4⟩; have hX4 := (hTa _).below hd4; obtain ⟨hJ4, hB4⟩ := intsV_own hown4 hll)
      | (go_at_call 24; (with_reducible refine (no_any b need said N _ _ _ l w4 hX4 hJ4 (ne_base hB4 (by simp; omega))).mono ?_); rintro e w5 ⟨rfl, hX5, hg5⟩))
    go_end0
    exact ⟨rfl, hX5, grown_of_alloc (grownBy_trans (grownBy_of_below hd4 _) hg5)⟩
  · go_enter Try.func12, Try.ntmps12
    go_wp2_with (first
      | (go_at_call 23; (with_reducible refine (copyInts_any _ _ _ l _ (hIa _) (by omega)).mono ?_); rintro e w4 ⟨ad4, cap4, rfl, hown4, hd4⟩; have hX4 := (hTa _).below hd4; obtain ⟨hJ4, hB4⟩ := intsV_own hown4 hll)
      | (go_at_call 22; (with_reducible refine (yes_any b need said N _ _ _ l w4 hX4 hJ4 (ne_base hB4 (by simp; omega))).mono ?_); rintro e w5 ⟨rfl, hX5, hg5⟩))
    go_end0
    exact ⟨rfl, hX5, grown_of_alloc (grownBy_trans (grownBy_of_below hd4 _) hg5)⟩
end Go.Proofs.Ytehaijdbmnljnaa
