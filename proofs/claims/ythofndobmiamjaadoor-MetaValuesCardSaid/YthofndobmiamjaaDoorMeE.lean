/-
  meta: the writer's texts; Encode.
-/
import Derived.Test.YthofndobmiamjaaDoorMeD
namespace Go.Proofs.YthofndobmiamjaaDoor
open Go.RowKit

theorem number_is (B b base k : Nat) (n : Int) (W : Nat) (w : World) (gk : Option Nat) (hV : WriterV w b base k gk) (hgk : ∀ g, gk = some g → g < w.heap.size ∧ g ≠ b) (hB : B ≤ b) (hb : b < base) (hs : base ≤ w.heap.size) (hW : W ≤ 4) (hk : k ≤ 100) (v : Int) (hv : (W : Int) = v) :
    Calls Tryd.prog 47 #[.pointer (some ⟨b, 0, none⟩), .int .i64 n, .int .i64 v] w fun e w' => e = .returned (.tuple #[]) ∧ WriterV w' b base (k + W) gk ∧ Below B w w' ∧ base ≤ w'.heap.size ∧ ∀ g, gk = some g → w'.heap[g]? = w.heap[g]? :=
  hv ▸ number_any B b base k n W w gk hV hgk hB hb hs hW hk

set_option maxRecDepth 10000 in
set_option maxHeartbeats 4000000 in
theorem text_any (B b base k : Nat) (ad2 : Option Addr) (n2 c2 : Nat) (news : List Value) (w : World) (gk : Option Nat) (hV : WriterV w b base k gk) (hgk : ∀ g, gk = some g → g < w.heap.size ∧ g ≠ b) (hB : B ≤ b) (hb : b < base) (hs : base ≤ w.heap.size) (hk : k ≤ 90) (hn : n2 ≤ 5)
    (hr : RowV w ad2 n2 news) (hnil : ad2 = none → c2 = 0) (hat : ∀ a, ad2 = some a → gk = some a.block) (h1 : ∀ u ∈ news, u.oneCell' = true) :
    Calls Tryd.prog 48 #[.pointer (some ⟨b, 0, none⟩), .slice ad2 n2 c2] w fun e w' => e = .returned (.tuple #[]) ∧ WriterV w' b base (k + 1 + n2) none ∧ Below B w w' ∧ base ≤ w'.heap.size := by
  obtain ⟨i0, hi, hz0, hz1, hz2⟩ := info_partsM Tryd.infoU8
  have KN := number_is B b base k (n2 : Int) 1 w gk hV hgk hB hb hs (by omega) (by omega) 1 rfl
  go_enter Tryd.func48, Tryd.ntmps48
  go_wp2_with (first
    | (go_at_call 47; (with_reducible refine KN.mono ?_); rintro e w1 ⟨rfl, hV1, hb1, hs1, hk1⟩; obtain ⟨ad, cap, xs, hh, hown, hno⟩ := hV1.ex; have c0 : w1.cell? ⟨b, 0, none⟩ = some (.slice ad (k + 1) cap) := cell_of_row _ _ 0 _ _ _ hh; refine Hid.out ?_))
  refine Lib.hid ?_
  have hr1 : RowV w1 ad2 n2 news := hr.kept fun a ha => hk1 _ (hat a ha)
  have HH := Lib.hid hh
  have HNO := Lib.hid hno
  clear hh hno KN hV1
  go_wp2_with (first
    | (at_builtin; refine wpList_append_row rfl (.tmp 12) (.tmp 13) 24 rfl base 5 i0 (.int .u8 0) 1 Tryd.underlying24 hi hz0 hz1 hz2 rfl _ _ _ rfl hown ad2 n2 c2 news rfl hr1 hnil h1 (by simp [maxLen]; omega) (by omega) (by omega) ?_; intro v' w4 hown4 hgrow4 _; have hh4 := (hgrow4.block b (Array.getElem?_eq_some_iff.1 HH.out).1 (ne_ownM hown hb)).trans HH.out; have c4 := cell_of_row w4 b 0 _ _ _ hh4; have f4 := frozen_of_row w4 b 0 _ _ hh4; obtain ⟨ad4, cap4, rfl, _⟩ := ownsRow_parts hown4; refine Hid.out ?_))
  refine Lib.hid ?_
  have hgrow5 : w1.grownBy w4 (Value.slice ad (k + 1) cap).ownBlock := hgrow4
  have hc4 : w4.cell? ⟨b, 0, none⟩ = some (.slice ad (k + 1) cap) := c4
  clear hgrow4 c4 hr hr1
  go_wp2
  have hg6 := grownBy_setCellM w4 ⟨b, 0, none⟩ (.slice ad4 (k + 1 + n2) cap4)
  have hs4 := hgrow5.size
  have hs6 := hg6.size
  go_end0
  exact ⟨rfl, ⟨_, _, _, heap_setCell_same w4 b 0 _ _ _ hh4, hown4.kept hg6 (.inr (fun e => ne_ownM (g := b) hown4 hb e.symm)), fun g hg => by cases hg⟩, (hb1.grown hgrow5 (by omega) (fun j hj => Nat.le_trans (by omega) (ownBlock_ge hown j hj))).setCell (p := ⟨b, 0, none⟩) hB _, by omega⟩
end Go.Proofs.YthofndobmiamjaaDoor
