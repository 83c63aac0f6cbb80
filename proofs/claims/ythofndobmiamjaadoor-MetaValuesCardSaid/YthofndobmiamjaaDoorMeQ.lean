/-
  meta: the writer's texts, with what is written.
-/
import Derived.Test.YthofndobmiamjaaDoorMeP
namespace Go.Proofs.YthofndobmiamjaaDoor
open Go.RowKit

theorem numberB_is (b base n W : Nat) (l : List Nat) (ad0 : Option Addr) (cap0 : Nat) (w : World) (hV : WrH w b base l ad0 cap0) (hb : b < base) (hs : base ≤ w.heap.size) (hW : W ≤ 4) (hl : l.length ≤ 100000000) (hn : n < 9223372036854775808) (v : Int) (hv : (W : Int) = v) (x : Int) (hx : (n : Int) = x) :
    Calls Tryd.prog 47 #[.pointer (some ⟨b, 0, none⟩), .int .i64 x, .int .i64 v] w fun e w' => e = .returned (.tuple #[]) ∧ ∃ ad cap, WrH w' b base (l ++ numL n W) ad cap ∧ KpW w w' b (Value.slice ad0 l.length cap0).ownBlock ∧ ((Value.slice ad l.length cap).ownBlock = (Value.slice ad0 l.length cap0).ownBlock ∨ ∀ q, (Value.slice ad l.length cap).ownBlock = some q → w.heap.size ≤ q) := by
  subst hv hx
  exact numberB_any b base n W l ad0 cap0 w hV hb hs hW hn hl
theorem numL_one (n : Nat) : numL n 1 = [n % 256] := by simp [numL, numTo]
set_option maxRecDepth 10000 in
set_option maxHeartbeats 4000000 in
theorem textB_any (b base : Nat) (l : List Nat) (ad0 : Option Addr) (cap0 : Nat) (xa : Option Addr) (xn xc : Nat) (m : List Nat) (w : World) (hV : WrH w b base l ad0 cap0) (hb : b < base) (hs : base ≤ w.heap.size) (hl : l.length ≤ 99000000) (hx : BytesV w (xa, xn, xc) m) (hn : xn ≤ 900000)
    (hap : 0 < xn → ∀ a, xa = some a → a.block ≠ b ∧ some a.block ≠ (Value.slice ad0 l.length cap0).ownBlock) :
    Calls Tryd.prog 48 #[.pointer (some ⟨b, 0, none⟩), .slice xa xn xc] w fun e w' => e = .returned (.tuple #[]) ∧ ∃ ad cap, WrH w' b base (l ++ numL xn 1 ++ m) ad cap ∧ KpW w w' b (Value.slice ad0 l.length cap0).ownBlock := by
  obtain ⟨i0, hi, hz0, hz1, hz2⟩ := info_partsM Tryd.infoU8
  have hml : m.length = xn := hx.length
  have KN := numberB_is b base xn 1 l ad0 cap0 w hV hb hs (by omega) (by omega) (by omega) 1 rfl _ rfl
  have HX := Lib.hid hx
  have HAP := Lib.hid hap
  have HML := Lib.hid hml
  clear hml hx hap
  go_enter Tryd.func48, Tryd.ntmps48
  go_wp2_with fail
  (with_reducible refine KN.mono ?_)
  rintro e w1 ⟨rfl, ad, cap, hV1, hK1, hO1⟩
  obtain ⟨L, hL⟩ : ∃ L, L = l ++ numL xn 1 := ⟨_, rfl⟩
  rw [← hL] at hV1
  have hLl : L.length = l.length + 1 := by rw [hL, numL_one]; simp
  have hLb : L.length ≤ 99000001 := by omega
  obtain ⟨hh, hown, hby⟩ := hV1
  have c0 : w1.cell? ⟨b, 0, none⟩ = some (.slice ad L.length cap) := cell_of_row _ _ 0 _ _ _ hh
  have hr1 : RowV w1 xa xn (m.map bv) := HX.out.row.kept' fun h0 a ha => hK1.block a.block (HX.out.row.lt h0 ha) (HAP.out h0 a ha).1 (HAP.out h0 a ha).2
  have HH := Lib.hid hh
  have HK1 := Lib.hid hK1
  have HO1 := Lib.hid hO1
  have HR1 := Lib.hid hr1
  have HBY := Lib.hid hby
  have HL := Lib.hid hL
  have hs1 : base ≤ w1.heap.size := Nat.le_trans hs hK1.size
  clear hh hK1 hO1 hr1 hby hL KN hLl
  go_wp2_with (first
    | (at_builtin; refine wpList_append_row rfl (.tmp 12) (.tmp 13) 24 rfl base 5 i0 (.int .u8 0) 1 Tryd.underlying24 hi hz0 hz1 hz2 rfl _ _ _ rfl hown xa xn xc (m.map bv) rfl HR1.out HX.out.nil (bv_one m) (by unfold maxLen; omega) (by omega) hs1 ?_; intro v' w4 hown4 hgrow4 _; have hh4 := (hgrow4.block b (Array.getElem?_eq_some_iff.1 HH.out).1 (ne_ownM hown hb)).trans HH.out; have c4 := cell_of_row w4 b 0 _ _ _ hh4; have f4 := frozen_of_row w4 b 0 _ _ hh4; obtain ⟨ad4, cap4, rfl, _⟩ := ownsRow_parts hown4; refine Hid.out ?_))
  refine Lib.hid ?_
  have hgrow5 : w1.grownBy w4 (Value.slice ad L.length cap).ownBlock := hgrow4
  have hc4 : w4.cell? ⟨b, 0, none⟩ = some (.slice ad L.length cap) := c4
  have HG5 := Lib.hid hgrow5
  have HO4 := Lib.hid hown4
  have HH4 := Lib.hid hh4
  clear hgrow4 c4 hgrow5 hown4 hh4
  go_wp2
  go_end0
  have hg6 := grownBy_setCellM w4 ⟨b, 0, none⟩ (.slice ad4 (L.length + xn) cap4)
  have hel : (l ++ numL xn 1 ++ m).length = L.length + xn := by rw [← HL.out, List.length_append, HML.out]
  refine ⟨rfl, ad4, cap4, ⟨?_, ?_, ?_⟩, ?_⟩
  · rw [hel]; exact heap_setCell_same w4 b 0 _ _ _ HH4.out
  · rw [hel, ← HL.out, List.map_append]
    exact HO4.out.kept hg6 (.inr (fun e => ne_ownM (g := b) HO4.out hb e.symm))
  · intro z hz
    rw [← HL.out] at hz
    rcases List.mem_append.1 hz with q | q
    · exact HBY.out z q
    · exact HX.out.bytes z q
  · have k1 : KpW w1 (w4.setCell ⟨b, 0, none⟩ (.slice ad4 (L.length + xn) cap4)) b (Value.slice ad L.length cap).ownBlock := ⟨HG5.out.os, HG5.out.tape, HG5.out.output, by have := HG5.out.size; simpa [World.setCell] using this, fun q h1 h2 h3 => (heap_setCell_other w4 ⟨b, 0, none⟩ q _ h2).trans (HG5.out.block q h1 h3)⟩
    exact HK1.out.trans k1 (by rw [ownBlock_len ad L.length cap l.length cap]; exact HO1.out)
end Go.Proofs.YthofndobmiamjaaDoor
