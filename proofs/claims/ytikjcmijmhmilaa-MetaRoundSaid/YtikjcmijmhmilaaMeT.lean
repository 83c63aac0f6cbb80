/-
  rillref09: put.
-/
import Derived.Test.YtikjcmijmhmilaaMeS
namespace Go.Proofs.Ytikjcmijmhmilaa
open Go.RowKit

theorem rowV_oneM {w : World} {g : Nat} {x : Nat} {fr : Nat × Nat} (h : w.heap[g]? = some (.cells #[.int .u8 (x : Nat)] 5 fr)) : RowV w (some ⟨g, 0, none⟩) 1 ([x].map bv) :=
  ⟨rfl, fun _ => ⟨g, 0, rfl, fun i hi => by
    have h0 : i = 0 := by omega
    subst h0
    rw [cell_of_row _ _ _ _ _ _ h]; rfl⟩⟩
def KeepT (w w' : World) : Prop := ∀ (q : Nat) (xs : Array Value) (T : TypeId) (fr : Nat × Nat), T ≠ 5 → w.heap[q]? = some (Obj.cells xs T fr) → w'.heap[q]? = some (Obj.cells xs T fr)
theorem KeepT.refl (w : World) : KeepT w w := fun _ _ _ _ _ h => h
theorem KeepT.trans {w w1 w2 : World} (h : KeepT w w1) (k : KeepT w1 w2) : KeepT w w2 := fun q xs T fr hT hh => k q xs T fr hT (h q xs T fr hT hh)
theorem KeepT.below {w w' : World} (h : Below w.heap.size w w') : KeepT w w' := fun q _ _ _ _ hh => (h.block q (Array.getElem?_eq_some_iff.1 hh).1).trans hh
theorem KeepT.grown {w w' : World} {base n : Nat} {v : Value} {l : List Value} (h : w.ownsRow base 5 1 v n l) (hg : w.grownBy w' v.ownBlock) : KeepT w w' := fun q xs T fr hT hh => by
  refine (hg.block q (Array.getElem?_eq_some_iff.1 hh).1 ?_).trans hh
  intro e
  rcases h.2 with ⟨e1, _⟩ | ⟨g, cp, cur, e1, _, hb, _⟩
  · rw [e1] at e; cases e
  · rw [e1] at e
    obtain rfl : q = g := by injection e
    rw [hb] at hh
    injection hh with hh
    injection hh with _ hh
    exact hT hh.symm
set_option maxRecDepth 10000 in
set_option maxHeartbeats 4000000 in
theorem refPut_any (B base n W : Nat) (l : List Nat) (ad0 : Option Addr) (cap0 : Nat) (w : World) (hown : w.ownsRow base 5 1 (.slice ad0 l.length cap0) l.length (l.map bv)) (hB : B ≤ base) (hs : base ≤ w.heap.size) (hW : W ≤ 4) (hl : l.length ≤ 100000000) :
    Calls Try.prog 31 #[.slice ad0 l.length cap0, .int .i64 n, .int .i64 W] w fun e w' => ∃ ad cap, e = .returned (.slice ad (l ++ numL n W).length cap) ∧ w'.ownsRow base 5 1 (.slice ad (l ++ numL n W).length cap) (l ++ numL n W).length ((l ++ numL n W).map bv) ∧ Below B w w' ∧ KeepT w w' := by
  obtain ⟨i0, hi, hz0, hz1, hz2⟩ := info_partsM Try.infoU8
  have HO0 := Lib.hid hown
  clear hown
  go_enter Try.func31, Try.ntmps31
  go_wp2
  go_loopw [0, 7] (fun vb i wr => ∃ (j : Nat) (L : List Nat) (ad : Option Addr) (cap : Nat), j ≤ W ∧ i = .int .i64 ((j : Int) - 1) ∧ vb = .slice ad L.length cap ∧ L.length ≤ 100000004 ∧ Hid (L = l ++ numTo n W (W - j)) ∧ Hid (wr.ownsRow base 5 1 (.slice ad L.length cap) L.length (L.map bv)) ∧ Hid (Below B w wr) ∧ Hid (KeepT w wr)) (fun _ i _ => (intOf i + 1).toNat)
  case atStart => exact ⟨W, l, ad0, cap0, Nat.le_refl _, rfl, rfl, by omega, Lib.hid (by rw [Nat.sub_self, show numTo n W 0 = [] from rfl, List.append_nil]), HO0, Lib.hid (Below.refl _ _), Lib.hid (KeepT.refl _)⟩
  case round =>
    obtain ⟨j, L, ad, cap, hj, rfl, rfl, hLl, HL, HO, HBr, HKr⟩ := hrel
    rcases Nat.eq_zero_or_pos j with rfl | hj0
    · have hL := HL.out
      rw [Nat.sub_zero] at hL
      rw [show ((0 : Nat) : Int) - 1 = -1 from rfl]
      have HLL := Lib.hid hL
      clear hL
      go_wp2
      go_ret
      have e : l ++ numL n W = L := HLL.out.symm
      rw [e]
      exact ⟨ad, cap, rfl, HO.out, HBr.out, HKr.out⟩
    · have hs2 : base ≤ wr.heap.size := Nat.le_trans hs HBr.out.size
      have hj4 : j = 1 ∨ j = 2 ∨ j = 3 ∨ j = 4 := by omega
      have hLp : L.length = l.length + (W - j) := by rw [HL.out, List.length_append, numTo_len]
      have hLn : L.length ≤ 100000000 + (W - j) := by omega
      clear hLp
      rcases hj4 with rfl | rfl | rfl | rfl
      · rw [show ((1 : Nat) : Int) - 1 = 0 from rfl]
        have hwr : IntKind.u8.wrap (n : Int) = ((n / 256 ^ 0 % 256 : Nat) : Int) := u8_byte n _ _ (by simp)
        obtain ⟨y, hy⟩ : ∃ y, y = n / 256 ^ 0 % 256 := ⟨_, rfl⟩
        rw [← hy] at hwr
        have hy8 : y < 256 := by rw [hy]; exact Nat.mod_lt _ (by decide)
        have HY := Lib.hid hy
        clear hy
        go_wp2_with (first | (at_builtin; refine wpList_append_row rfl (.tmp 14) (.tmp 21) 32 rfl base 5 i0 (.int .u8 0) 1 Try.underlying32 hi hz0 hz1 hz2 rfl _ _ _ rfl (HO.out.alloc _) (some ⟨wr.heap.size, 0, none⟩) 1 1 ([y].map bv) rfl (rowV_oneM (heap_alloc_new wr _)) (fun e => by cases e) (bv_one [y]) (by unfold maxLen; omega) (by omega) (by simp; omega) ?_; intro v' w4 hown4 hgrow4 _; obtain ⟨ad4, cap4, rfl, -⟩ := ownsRow_parts hown4))
        have HB4 := Lib.hid ((HBr.out.alloc (by omega) _).grown hgrow4 (by simp; omega) (fun q hq => Nat.le_trans hB (ownBlock_ge HO.out q hq)))
        have HK4 := Lib.hid ((HKr.out.trans (KeepT.below (below_alloc wr _))).trans (KeepT.grown (HO.out.alloc _) hgrow4))
        have hel : (L ++ [y]).length = L.length + 1 := by simp
        have HO4 := Lib.hid (show w4.ownsRow base 5 1 (.slice ad4 (L ++ [y]).length cap4) (L ++ [y]).length ((L ++ [y]).map bv) by rw [hel, List.map_append]; exact hown4)
        have HL4 := Lib.hid (show L ++ [y] = l ++ numTo n W (W - 0) by
          rw [show W - 0 = W - 1 + 1 by omega, numTo_succ, show W - 1 - (W - 1) = 0 by omega, ← List.append_assoc, ← HL.out, ← HY.out])
        clear hown4 hgrow4 hwr
        go_wp2
        go_roundw
        case rel => exact ⟨0, L ++ [y], ad4, cap4, by omega, rfl, by rw [hel], by rw [hel]; omega, HL4, HO4, HB4, HK4⟩
        case measure => simp [intOf]
      · rw [show ((2 : Nat) : Int) - 1 = 1 from rfl]
        have hwr : IntKind.u8.wrap ((n : Int) / 256) = ((n / 256 ^ 1 % 256 : Nat) : Int) := u8_byte n _ _ (by omega)
        obtain ⟨y, hy⟩ : ∃ y, y = n / 256 ^ 1 % 256 := ⟨_, rfl⟩
        rw [← hy] at hwr
        have hy8 : y < 256 := by rw [hy]; exact Nat.mod_lt _ (by decide)
        have HY := Lib.hid hy
        clear hy
        go_wp2_with (first | (at_builtin; refine wpList_append_row rfl (.tmp 14) (.tmp 21) 32 rfl base 5 i0 (.int .u8 0) 1 Try.underlying32 hi hz0 hz1 hz2 rfl _ _ _ rfl (HO.out.alloc _) (some ⟨wr.heap.size, 0, none⟩) 1 1 ([y].map bv) rfl (rowV_oneM (heap_alloc_new wr _)) (fun e => by cases e) (bv_one [y]) (by unfold maxLen; omega) (by omega) (by simp; omega) ?_; intro v' w4 hown4 hgrow4 _; obtain ⟨ad4, cap4, rfl, -⟩ := ownsRow_parts hown4))
        have HB4 := Lib.hid ((HBr.out.alloc (by omega) _).grown hgrow4 (by simp; omega) (fun q hq => Nat.le_trans hB (ownBlock_ge HO.out q hq)))
        have HK4 := Lib.hid ((HKr.out.trans (KeepT.below (below_alloc wr _))).trans (KeepT.grown (HO.out.alloc _) hgrow4))
        have hel : (L ++ [y]).length = L.length + 1 := by simp
        have HO4 := Lib.hid (show w4.ownsRow base 5 1 (.slice ad4 (L ++ [y]).length cap4) (L ++ [y]).length ((L ++ [y]).map bv) by rw [hel, List.map_append]; exact hown4)
        have HL4 := Lib.hid (show L ++ [y] = l ++ numTo n W (W - 1) by
          rw [show W - 1 = W - 2 + 1 by omega, numTo_succ, show W - 1 - (W - 2) = 1 by omega, ← List.append_assoc, ← HL.out, ← HY.out])
        clear hown4 hgrow4 hwr
        go_wp2
        go_roundw
        case rel => exact ⟨1, L ++ [y], ad4, cap4, by omega, rfl, by rw [hel], by rw [hel]; omega, HL4, HO4, HB4, HK4⟩
        case measure => simp [intOf]
      · rw [show ((3 : Nat) : Int) - 1 = 2 from rfl]
        have hwr : IntKind.u8.wrap ((n : Int) / 65536) = ((n / 256 ^ 2 % 256 : Nat) : Int) := u8_byte n _ _ (by omega)
        obtain ⟨y, hy⟩ : ∃ y, y = n / 256 ^ 2 % 256 := ⟨_, rfl⟩
        rw [← hy] at hwr
        have hy8 : y < 256 := by rw [hy]; exact Nat.mod_lt _ (by decide)
        have HY := Lib.hid hy
        clear hy
        go_wp2_with (first | (at_builtin; refine wpList_append_row rfl (.tmp 14) (.tmp 21) 32 rfl base 5 i0 (.int .u8 0) 1 Try.underlying32 hi hz0 hz1 hz2 rfl _ _ _ rfl (HO.out.alloc _) (some ⟨wr.heap.size, 0, none⟩) 1 1 ([y].map bv) rfl (rowV_oneM (heap_alloc_new wr _)) (fun e => by cases e) (bv_one [y]) (by unfold maxLen; omega) (by omega) (by simp; omega) ?_; intro v' w4 hown4 hgrow4 _; obtain ⟨ad4, cap4, rfl, -⟩ := ownsRow_parts hown4))
        have HB4 := Lib.hid ((HBr.out.alloc (by omega) _).grown hgrow4 (by simp; omega) (fun q hq => Nat.le_trans hB (ownBlock_ge HO.out q hq)))
        have HK4 := Lib.hid ((HKr.out.trans (KeepT.below (below_alloc wr _))).trans (KeepT.grown (HO.out.alloc _) hgrow4))
        have hel : (L ++ [y]).length = L.length + 1 := by simp
        have HO4 := Lib.hid (show w4.ownsRow base 5 1 (.slice ad4 (L ++ [y]).length cap4) (L ++ [y]).length ((L ++ [y]).map bv) by rw [hel, List.map_append]; exact hown4)
        have HL4 := Lib.hid (show L ++ [y] = l ++ numTo n W (W - 2) by
          rw [show W - 2 = W - 3 + 1 by omega, numTo_succ, show W - 1 - (W - 3) = 2 by omega, ← List.append_assoc, ← HL.out, ← HY.out])
        clear hown4 hgrow4 hwr
        go_wp2
        go_roundw
        case rel => exact ⟨2, L ++ [y], ad4, cap4, by omega, rfl, by rw [hel], by rw [hel]; omega, HL4, HO4, HB4, HK4⟩
        case measure => simp [intOf]
      · rw [show ((4 : Nat) : Int) - 1 = 3 from rfl]
        have hwr : IntKind.u8.wrap ((n : Int) / 16777216) = ((n / 256 ^ 3 % 256 : Nat) : Int) := u8_byte n _ _ (by omega)
        obtain ⟨y, hy⟩ : ∃ y, y = n / 256 ^ 3 % 256 := ⟨_, rfl⟩
        rw [← hy] at hwr
        have hy8 : y < 256 := by rw [hy]; exact Nat.mod_lt _ (by decide)
        have HY := Lib.hid hy
        clear hy
        go_wp2_with (first | (at_builtin; refine wpList_append_row rfl (.tmp 14) (.tmp 21) 32 rfl base 5 i0 (.int .u8 0) 1 Try.underlying32 hi hz0 hz1 hz2 rfl _ _ _ rfl (HO.out.alloc _) (some ⟨wr.heap.size, 0, none⟩) 1 1 ([y].map bv) rfl (rowV_oneM (heap_alloc_new wr _)) (fun e => by cases e) (bv_one [y]) (by unfold maxLen; omega) (by omega) (by simp; omega) ?_; intro v' w4 hown4 hgrow4 _; obtain ⟨ad4, cap4, rfl, -⟩ := ownsRow_parts hown4))
        have HB4 := Lib.hid ((HBr.out.alloc (by omega) _).grown hgrow4 (by simp; omega) (fun q hq => Nat.le_trans hB (ownBlock_ge HO.out q hq)))
        have HK4 := Lib.hid ((HKr.out.trans (KeepT.below (below_alloc wr _))).trans (KeepT.grown (HO.out.alloc _) hgrow4))
        have hel : (L ++ [y]).length = L.length + 1 := by simp
        have HO4 := Lib.hid (show w4.ownsRow base 5 1 (.slice ad4 (L ++ [y]).length cap4) (L ++ [y]).length ((L ++ [y]).map bv) by rw [hel, List.map_append]; exact hown4)
        have HL4 := Lib.hid (show L ++ [y] = l ++ numTo n W (W - 3) by
          rw [show W - 3 = W - 4 + 1 by omega, numTo_succ, show W - 1 - (W - 4) = 3 by omega, ← List.append_assoc, ← HL.out, ← HY.out])
        clear hown4 hgrow4 hwr
        go_wp2
        go_roundw
        case rel => exact ⟨3, L ++ [y], ad4, cap4, by omega, rfl, by rw [hel], by rw [hel]; omega, HL4, HO4, HB4, HK4⟩
        case measure => simp [intOf]
end Go.Proofs.Ytikjcmijmhmilaa
