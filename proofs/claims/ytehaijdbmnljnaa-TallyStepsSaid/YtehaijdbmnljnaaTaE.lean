/-
  tally: the laws' 'alive'.
-/
import Derived.Test.YtehaijdbmnljnaaTaD
import Derived.Test.YtehaijdbmnljnaaLawI
namespace Go.Proofs.Ytehaijdbmnljnaa
open Go.RowKit

theorem done_is {b : Nat} {need : Int} {said : List Int} {N : Nat} {w : World} (hT : TallyI w b need said N) (v : Bool) (hv : decide (need ≤ cnt said N 1) = v) :
    Calls Try.prog 16 #[.pointer (some ⟨b, 0, none⟩)] w fun e w' => e = .returned (.bool v) ∧ Below w.heap.size w w' := hv ▸ done_any b need said N w hT
theorem lost_is {b : Nat} {need : Int} {said : List Int} {N : Nat} {w : World} (hT : TallyI w b need said N) (v : Bool) (hv : decide ((cnt said N 1 : Int) + cnt said N 0 < need) = v) :
    Calls Try.prog 18 #[.pointer (some ⟨b, 0, none⟩)] w fun e w' => e = .returned (.bool v) ∧ Below w.heap.size w w' := hv ▸ lost_any b need said N w hT
theorem count_is {b : Nat} {need : Int} {said : List Int} {N : Nat} {w : World} (hT : TallyI w b need said N) (c1 c2 : Int) (h1 : (cnt said N 1 : Int) = c1) (h2 : (cnt said N 2 : Int) = c2) :
    Calls Try.prog 14 #[.pointer (some ⟨b, 0, none⟩)] w fun e w' => e = .returned (.tuple #[.int .i64 c1, .int .i64 c2]) ∧ Below w.heap.size w w' := h1 ▸ h2 ▸ count_any b need said N w hT
theorem lit1 (w : World) (x : Int) : IntsV (w.alloc (.cells #[.int .i64 x] 3)) (some ⟨w.heap.size, 0, none⟩, 1, 1) [x] :=
  ⟨⟨rfl, fun _ => ⟨w.heap.size, 0, rfl, fun i hi => by
    have h0 : i = 0 := by simp only at hi; omega
    subst h0
    rw [cell_of_row _ _ _ _ _ _ (heap_alloc_new _ _)]; rfl⟩⟩, by simp, by simp, fun h => by cases h⟩
theorem lit2 (w : World) (x y : Int) : IntsV (w.alloc (.cells #[.int .i64 x, .int .i64 y] 3)) (some ⟨w.heap.size, 0, none⟩, 2, 2) [x, y] :=
  ⟨⟨rfl, fun _ => ⟨w.heap.size, 0, rfl, fun i hi => by
    simp only at hi
    rw [cell_of_row _ _ _ _ _ _ (heap_alloc_new _ _)]
    match i, hi with
    | 0, _ => rfl
    | 1, _ => rfl⟩⟩, by simp, by simp, fun h => by cases h⟩
theorem ne_new {b s : Nat} (h : b < s) : ∀ a, some (⟨s, 0, none⟩ : Addr) = some a → a.block ≠ b := by
  intro a ha
  cases ha
  exact fun e => by simp only at e; omega
theorem TallyI.alloc {w : World} {b N : Nat} {need : Int} {said : List Int} (h : TallyI w b need said N) (o : Obj) : TallyI (w.alloc o) b need said N := h.below (below_alloc _ _)
theorem grow_alloc {B b : Nat} {w0 w w' : World} {o : Obj} (hb : Below B w0 w) (h : (w.alloc o).grownBy w' (some b)) (hB : B ≤ b) (hs : B ≤ w.heap.size) : Below B w0 w' :=
  (hb.alloc hs o).grown h (by simp; omega) (fun k hk => by cases hk; exact hB)
theorem trans_belowT {n : Nat} {w w1 w2 : World} (h : Below n w w1) (hb : Below w1.heap.size w1 w2) (hn : n ≤ w1.heap.size) : Below n w w2 := h.trans (hb.mono hn)
theorem trans_allocT {n : Nat} {w w1 w2 : World} {o : Obj} (h : Below n w w1) (hb : Below (w1.alloc o).heap.size (w1.alloc o) w2) (hn : n ≤ w1.heap.size) : Below n w w2 :=
  (h.alloc hn o).trans (hb.mono (Nat.le_trans hn (by simp)))

def said1 : List Int := [0, 1, 0, 0, 0, 0, 0, 0]
def said2 : List Int := [2, 1, 0, 0, 0, 0, 0, 0]
def said3 : List Int := [2, 1, 1, 0, 0, 0, 0, 0]

set_option maxRecDepth 10000 in
set_option maxHeartbeats 4000000 in
theorem alive_any (w : World) :
    Calls Try.prog 8 #[] w fun e w' => e = .returned (.bool true) ∧ Below w.heap.size w w' := by
  have e1 : steps 3 1 zeros [1, 1] = said1 := by decide +kernel
  have e2 : steps 3 2 said1 [0] = said2 := by decide +kernel
  have e3 : steps 3 1 said2 [2] = said3 := by decide +kernel
  have e0 : nodesOf 3 = 3 := by decide +kernel
  have e4 : silent said2 3 = [2] := by decide +kernel
  go_enter Try.func8, Try.ntmps8
  go_wp2_with (first
    | (go_at_call 9; (with_reducible refine (new_any 3 2 _).mono ?_); rw [e0]; rintro e w1 ⟨rfl, hT1, hb1⟩)
    | (go_at_call 16; (with_reducible refine (done_is hT1 false (by decide +kernel)).mono ?_); rintro e w2 ⟨rfl, hd2⟩; have hb2 := trans_belowT hb1 hd2 hb1.size; have hT2 := hT1.below hd2)
    | (go_at_call 22; (with_reducible refine (yes_any w.heap.size 2 zeros 3 _ _ _ [1, 1] _ (hT2.alloc _) (lit2 _ _ _) (ne_new hT2.v.lt)).mono ?_); rw [e1]; rintro e w3 ⟨rfl, hT3, hg3⟩; have hb3 := grow_alloc hb2 hg3 (Nat.le_refl _) (Nat.le_of_lt hT2.v.lt))
    | (go_at_call 24; (with_reducible refine (no_any w.heap.size 2 said1 3 _ _ _ [0] _ (hT3.alloc _) (lit1 _ _) (ne_new hT3.v.lt)).mono ?_); rw [e2]; rintro e w4 ⟨rfl, hT4, hg4⟩; have hb4 := grow_alloc hb3 hg4 (Nat.le_refl _) (Nat.le_of_lt hT3.v.lt))
    | (go_at_call 14; (with_reducible refine (count_is hT4 1 1 (by decide +kernel) (by decide +kernel)).mono ?_); rintro e w5 ⟨rfl, hd5⟩; have hb5 := trans_belowT hb4 hd5 hb4.size; have hT5 := hT4.below hd5)
    | (go_at_call 16; (with_reducible refine (done_is hT5 false (by decide +kernel)).mono ?_); rintro e w6 ⟨rfl, hd6⟩; have hb6 := trans_belowT hb5 hd6 hb5.size; have hT6 := hT5.below hd6)
    | (go_at_call 18; (with_reducible refine (lost_is hT6 false (by decide +kernel)).mono ?_); rintro e w7 ⟨rfl, hd7⟩; have hb7 := trans_belowT hb6 hd7 hb6.size; have hT7 := hT6.below hd7)
    | (go_at_call 21; (with_reducible refine (waiting_any w.heap.size 2 said2 3 _ hT7).mono ?_); rw [e4]; rintro e w8 ⟨ad, cap, rfl, hown, hd8⟩; have hb8 := trans_belowT hb7 hd8 hb7.size; have hT8 := hT7.below hd8; have hI8 : IntsV w8 (ad, 1, cap) [2] := (intsV_own hown (by simp)).1)
    | (go_at_call 20; (with_reducible refine (sameInts_any _ _ _ [2] _ _ _ [2] _ (hI8.alloc) (lit1 _ _)).mono ?_); rintro e w9 ⟨rfl, hd9⟩; have hb9 := trans_allocT hb8 hd9 hb8.size; have hT9 := (hT8.alloc _).below hd9; rw [show decide (([2] : List Int) = [2]) = true from rfl])
    | (go_at_call 22; (with_reducible refine (yes_any w.heap.size 2 said2 3 _ _ _ [2] _ (hT9.alloc _) (lit1 _ _) (ne_new hT9.v.lt)).mono ?_); rw [e3]; rintro e w10 ⟨rfl, hT10, hg10⟩; have hb10 := grow_alloc hb9 hg10 (Nat.le_refl _) (Nat.le_of_lt hT9.v.lt))
    | (go_at_call 16; (with_reducible refine (done_is hT10 true (by decide +kernel)).mono ?_); rintro e w11 ⟨rfl, hd11⟩; have hb11 := trans_belowT hb10 hd11 hb10.size; have hT11 := hT10.below hd11)
    | (go_at_call 18; (with_reducible refine (lost_is hT11 false (by decide +kernel)).mono ?_); rintro e w12 ⟨rfl, hd12⟩; have hb12 := trans_belowT hb11 hd12 hb11.size))
  all_goals go_ret
  all_goals exact ⟨rfl, hb12⟩
end Go.Proofs.Ytehaijdbmnljnaa
