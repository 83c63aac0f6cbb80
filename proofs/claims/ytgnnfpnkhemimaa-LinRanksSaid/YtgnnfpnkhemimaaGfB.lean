/-
  gf: the contracts of multiples, addScaled, Mix, Add, Scale.
-/
import Derived.Test.YtgnnfpnkhemimaaGfA
import Derived.OneCell
import Derived.Deep.Light
import Derived.Laws.CopyOwn
import Derived.BigRegion
import Derived.RegionTactic
import Derived.BigQuiet
import Derived.Deep.QuietTactic
import Derived.Test.YtgnnfpnkhemimaaMem
namespace Go.Proofs.Ytgnnfpnkhemimaa
open Go.RowKit

/-- the row of multiples as far as the first i elements are made. -/
def multAt (k i j : Nat) : Nat := if j < i then mul k j else 0
def multTo (k i : Nat) : Array Value := ((List.range 16).map fun j => bv (multAt k i j)).toArray
theorem multTo_at (k i j : Nat) (h : j < 16) : (multTo k i)[j]? = some (bv (multAt k i j)) := by simp [multTo, h]
theorem multTo_size (k i : Nat) : (multTo k i).size = 16 := by simp [multTo]
theorem multTo_set (k i : Nat) (h : i < 16) : (multTo k i).setIfInBounds i (bv (mul k i)) = multTo k (i + 1) := by
  apply Array.ext_getElem?
  intro j
  rw [Array.getElem?_setIfInBounds]
  split
  · rename_i e
    subst e
    rw [if_pos (by rw [multTo_size]; exact h), multTo_at _ _ _ h]; simp [multAt]
  · rename_i e
    by_cases hj : j < 16
    · rw [multTo_at _ _ _ hj, multTo_at _ _ _ hj]
      have : (j < i) = (j < i + 1) := by apply propext; omega
      simp [multAt, this]
    · rw [Array.getElem?_eq_none (by rw [multTo_size]; omega), Array.getElem?_eq_none (by rw [multTo_size]; omega)]
theorem mul_even {k i : Nat} (hk : k < 256) (hi : i < 16) (h : i % 2 = 0) : mul k i = dbl (mul k (i / 2)) := by
  have e : i = dbl (i / 2) := by unfold dbl; rw [if_pos (by omega)]; omega
  conv => lhs; rw [e]
  rw [mul_comm hk (dbl_lt (by omega)), mul_dbl (by omega), mul_comm hk (by omega)]
theorem mul_odd {k i : Nat} (hk : k < 256) (hi : i < 16) (h : i % 2 = 1) : mul k i = dbl (mul k (i / 2)) ^^^ k := by
  have e : i = (i - 1) ^^^ 1 := by
    have : allLT (fun i => Nat.beq (i % 2) 0 || Nat.beq i (Nat.xor (i - 1) 1)) 16 = true := by decide +kernel
    have := allLT_at this i hi
    simp only [Bool.or_eq_true] at this
    rcases this with h1 | h1
    · have := Nat.eq_of_beq_eq_true h1; omega
    · exact Nat.eq_of_beq_eq_true h1
  conv => lhs; rw [e]
  rw [mul_xor hk (by omega) (by omega), mul_one hk, mul_even hk (by omega) (by omega), show (i - 1) / 2 = i / 2 by omega]

set_option maxHeartbeats 400000 in
theorem multiples_any (k : Int) (w : World) (h0 : 0 ≤ k) (h1 : k < 256) :
    Calls Try.prog 57 #[.int .u8 k] w fun e w' => e = .returned (.agg (multTo k.toNat 16)) ∧ Below w.heap.size w w' := by
  go_enter Try.func57, Try.ntmps57
  go_wp2
  go_loopw [4] (fun i wr => ∃ j : Nat, 1 ≤ j ∧ j ≤ 16 ∧ i = .int .i64 j ∧ wr.heap[w.heap.size + 1]? = some (.cells (multTo k.toNat j) 74 (0, 0)) ∧ wr.heap[w.heap.size]? = some (.cells (multTo 0 0) 74 (0, 0)) ∧ Below w.heap.size w wr)
    (fun i _ => 16 - (intOf i).toNat)
  case atStart =>
    refine ⟨1, by omega, by omega, rfl, ?_, ?_, ?_⟩
    · rw [heap_alloc2_new]; congr 1
    · rw [heap_alloc2_old]; rfl
    · exact ((Below.refl _ _).alloc (Nat.le_refl _) _).alloc (by simp) _
  case round =>
    obtain ⟨j, hj1, hj, rfl, hrow, hold, hb⟩ := hrel
    have hm := mul_lt (a := k.toNat) (b := j / 2) (by omega)
    by_cases hlt : j < 16
    · have c1 : wr.cell? ⟨w.heap.size + 1, j / 2, none⟩ = some (.int .u8 (mul k.toNat (j / 2) : Nat)) := by
        rw [cell_of_row _ _ _ _ _ _ hrow, multTo_at _ _ _ (by omega), multAt, if_pos (by omega)]; rfl
      have c2 : wr.cell? ⟨w.heap.size + 1, j, none⟩ = some (.int .u8 0) := by
        rw [cell_of_row _ _ _ _ _ _ hrow, multTo_at _ _ _ (by omega), multAt, if_neg (by omega)]; rfl
      have c3 : wr.frozen? ⟨w.heap.size + 1, j, none⟩ = false := frozen_of_row _ _ _ _ _ hrow
      go_wp2_with (first | (go_at_call 59; refine (double_any _ _ (by omega) (by omega)).mono ?_; rintro e w' ⟨rfl, rfl⟩))
      all_goals
        have ht := ‹((j : Int) % 2 == 1) = _›
        have hrow1 := heap_setCell_same wr (w.heap.size + 1) j _ _ (.int .u8 (dbl (mul k.toNat (j / 2)) : Nat)) hrow
        have hold1 := (heap_setCell_other wr ⟨w.heap.size + 1, j, none⟩ w.heap.size (.int .u8 (dbl (mul k.toNat (j / 2)) : Nat)) (by simp)).trans hold
        have hb1 := hb.setCell (p := ⟨w.heap.size + 1, j, none⟩) (by simp) (.int .u8 (dbl (mul k.toNat (j / 2)) : Nat))
      · have hodd : j % 2 = 1 := by simp at ht; omega
        have ev := mul_odd (k := k.toNat) (i := j) (by omega) hlt hodd
        have ex : bits .xor .u8 ((dbl (mul k.toNat (j / 2)) : Nat) : Int) k = ((mul k.toNat j : Nat) : Int) := by
          rw [u8_xor _ _ (by omega) (by have := dbl_lt hm; omega) h0 h1, ev]; rfl
        have hrow2 := heap_setCell_same _ (w.heap.size + 1) j _ _ (bv (mul k.toNat j)) hrow1
        rw [Array.setIfInBounds_setIfInBounds, multTo_set _ _ hlt] at hrow2
        have hold2 := (heap_setCell_other (wr.setCell ⟨w.heap.size + 1, j, none⟩ (.int .u8 (dbl (mul k.toNat (j / 2)) : Nat))) ⟨w.heap.size + 1, j, none⟩ w.heap.size (bv (mul k.toNat j)) (by simp)).trans hold1
        have hb2 := hb1.setCell (p := ⟨w.heap.size + 1, j, none⟩) (by simp) (bv (mul k.toNat j))
        rw [ex]
        go_roundw
        case rel => exact ⟨j + 1, by omega, by omega, by go_num, hrow2, hold2, hb2⟩
        case measure => simp [intOf]; omega
      · have heven : j % 2 = 0 := by simp at ht; omega
        rw [← mul_even (k := k.toNat) (i := j) (by omega) hlt heven] at hrow1 hold1 hb1
        have hrow2 := hrow1.trans (by rw [show (Value.int .u8 (mul k.toNat j : Nat)) = bv (mul k.toNat j) from rfl, multTo_set _ _ hlt])
        rw [← mul_even (k := k.toNat) (i := j) (by omega) hlt heven]
        go_roundw
        case rel => exact ⟨j + 1, by omega, by omega, by go_num, hrow2, hold1, hb1⟩
        case measure => simp [intOf]; omega
    · obtain rfl : j = 16 := by omega
      have hi16 : (Try.prog.info? 74).map (·.size) = some 16 := by kernel_rfl
      go_wp2_with (first | (refine wpList_load_row rfl 74 (.tmp 3) rfl (w.heap.size + 1) rfl 74 (multTo k.toNat 16) (0, 0) _ hrow Try.underlying74 rfl hi16 ?_) | (refine wpList_store_row rfl 74 (.tmp 2) (.tmp 25) rfl w.heap.size (multTo k.toNat 16) rfl rfl 74 (multTo 0 0) hold hi16 rfl (by kernel_rfl) ?_))
      refine bodyPost_ret (results_cell_row rfl _ _ w.heap.size 74 (multTo k.toNat 16) (0, 0) _ rfl ?_ Try.underlying74 rfl hi16) rfl ⟨rfl, ?_⟩
      · exact setRow_heap _ _ _ _ _ _ hold
      · exact below_setRow hb (Nat.le_refl _) _

theorem z16_first (W : World) (B : Obj) : ((W.alloc (.cells #[.int .u8 0, .int .u8 0, .int .u8 0, .int .u8 0, .int .u8 0, .int .u8 0, .int .u8 0, .int .u8 0, .int .u8 0, .int .u8 0, .int .u8 0, .int .u8 0, .int .u8 0, .int .u8 0, .int .u8 0, .int .u8 0] 74)).alloc B).heap[W.heap.size]? = some (.cells #[.int .u8 0, .int .u8 0, .int .u8 0, .int .u8 0, .int .u8 0, .int .u8 0, .int .u8 0, .int .u8 0, .int .u8 0, .int .u8 0, .int .u8 0, .int .u8 0, .int .u8 0, .int .u8 0, .int .u8 0, .int .u8 0] 74 (0, 0)) := heap_alloc2_old _ _ _
theorem z16_second (W : World) (A : Obj) (cs : Array Value) : (((W.alloc A).alloc (.cells #[.int .u8 0, .int .u8 0, .int .u8 0, .int .u8 0, .int .u8 0, .int .u8 0, .int .u8 0, .int .u8 0, .int .u8 0, .int .u8 0, .int .u8 0, .int .u8 0, .int .u8 0, .int .u8 0, .int .u8 0, .int .u8 0] 74)).setRow W.heap.size cs).heap[W.heap.size + 1]? = some (.cells #[.int .u8 0, .int .u8 0, .int .u8 0, .int .u8 0, .int .u8 0, .int .u8 0, .int .u8 0, .int .u8 0, .int .u8 0, .int .u8 0, .int .u8 0, .int .u8 0, .int .u8 0, .int .u8 0, .int .u8 0, .int .u8 0] 74 (0, 0)) := by
  rw [setRow_other _ _ _ _ (by omega)]; exact heap_alloc2_new _ _ _
theorem multTo_one (k i : Nat) : (multTo k i).all (·.oneCell') = true := by
  simp [multTo, bv, Value.oneCell']

set_option maxHeartbeats 1000000 in
theorem addScaled_any (base g n cap : Nat) (xs : List Nat) (k : Int) (ad : Option Addr) (l cp : Nat) (v : List Nat) (w : World) (h0 : 0 ≤ k) (h1 : k < 256)
    (hown : w.ownsRow base 5 1 (.slice (some ⟨g, 0, none⟩) n cap) n (xs.map bv)) (hx : Bytes xs)
    (hv : RowV w ad l (v.map bv)) (hvb : Bytes v) (hl : l ≤ n) (hm : l ≤ 9223372036854775807) (hne : 0 < l → ∀ a, ad = some a → a.block ≠ g) :
    Calls Try.prog 51 #[.slice (some ⟨g, 0, none⟩) n cap, .int .u8 k, .slice ad l cp] w fun e w' => e = .returned (.tuple #[]) ∧
      w'.ownsRow base 5 1 (.slice (some ⟨g, 0, none⟩) n cap) n ((addTo xs k.toNat v).map bv) ∧ w.grownBy w' (some g) := by
  by_cases hk : k = 0
  · subst hk
    go_enter Try.func51, Try.ntmps51
    go_wp2
    exact bodyPost_ret (results_none rfl _ _ _) rfl ⟨rfl, by show w.ownsRow _ _ _ _ _ ((addTo xs 0 v).map bv); rw [addTo_zero]; exact hown, World.grownBy_refl _ _⟩
  · have hk' : (k == 0) = false := beq_eq_false_iff_ne.2 hk
    have hmk := mul_lt (a := k.toNat) (b := 16) (by omega)
    have hi16 : (Try.prog.info? 74).map (·.size) = some 16 := by kernel_rfl
    have hiM : ∀ j, (Try.prog.info? 74).map (·.size) = some (multTo j 16).size := fun j => by rw [multTo_size]; exact hi16
    clear hi16
    go_enter Try.func51, Try.ntmps51
    go_wp2_with fail
    refine (multiples_any k w h0 h1).mono ?_
    rintro e w1 ⟨rfl, hb1⟩
    go_wp2_with fail
    refine (mul_any k 16 w1 h0 h1 (by omega) (by omega)).mono ?_
    rintro e w' ⟨rfl, rfl⟩
    go_wp2_with fail
    refine (multiples_any _ w1 (by omega) (by omega)).mono ?_
    rintro e w2 ⟨rfl, hb2⟩
    go_wp2_with (first | (with_reducible show wpList _ _ _ (⟨none, Op.store 74 (.tmp 6) (.tmp 13), _, _, _, _⟩ :: _) _ _; (refine wpList_store_row rfl 74 (.tmp 6) (.tmp 13) rfl w2.heap.size (multTo k.toNat 16) rfl rfl 74 #[.int .u8 0, .int .u8 0, .int .u8 0, .int .u8 0, .int .u8 0, .int .u8 0, .int .u8 0, .int .u8 0, .int .u8 0, .int .u8 0, .int .u8 0, .int .u8 0, .int .u8 0, .int .u8 0, .int .u8 0, .int .u8 0] (z16_first _ _) (hiM _) (multTo_size _ _).symm (multTo_one _ _) ?_)) | (with_reducible show wpList _ _ _ (⟨none, Op.store 74 (.tmp 7) (.tmp 16), _, _, _, _⟩ :: _) _ _; (refine wpList_store_row rfl 74 (.tmp 7) (.tmp 16) rfl (w2.heap.size + 1) (multTo (mul k.toNat 16) 16) rfl rfl 74 #[.int .u8 0, .int .u8 0, .int .u8 0, .int .u8 0, .int .u8 0, .int .u8 0, .int .u8 0, .int .u8 0, .int .u8 0, .int .u8 0, .int .u8 0, .int .u8 0, .int .u8 0, .int .u8 0, .int .u8 0, .int .u8 0] (z16_second _ _ _) (hiM _) (multTo_size _ _).symm (multTo_one _ _) ?_)))
    have hgw : g < w.heap.size := (hown.lt g rfl).2
    have hs1 := hb1.size
    have hs2 := hb2.size
    have hgr : w.grownBy w2 (some g) := grownBy_of_below (hb1.trans (hb2.mono hs1)) _
    have hown2 := hown.kept (grownBy_of_below (hb1.trans (hb2.mono hs1)) Option.none) (by right; simp [Value.ownBlock])
    clear hb1 hb2 hiM
    go_loopw [19] (fun i wr => ∃ j : Nat, j ≤ l ∧ i = .int .i64 j ∧ wr.heap[w2.heap.size]? = some (.cells (multTo k.toNat 16) 74 (0, 0)) ∧
        wr.heap[w2.heap.size + 1]? = some (.cells (multTo (mul k.toNat 16) 16) 74 (0, 0)) ∧
        wr.ownsRow base 5 1 (.slice (some ⟨g, 0, none⟩) n cap) n ((addTo xs k.toNat (v.take j)).map bv) ∧ w.grownBy wr (some g))
      (fun i _ => l - (intOf i).toNat)
    case atStart =>
      refine ⟨0, by omega, rfl, ?_, ?_, ?_, ?_⟩
      · rw [setRow_other _ _ _ _ (by omega)]; exact setRow_heap _ _ _ _ _ _ (z16_first _ _)
      · exact setRow_heap _ _ _ _ _ _ (z16_second _ _ _)
      · rw [List.take_zero, addTo_nil]
        have h3 := (hown2.alloc (.cells #[.int .u8 0, .int .u8 0, .int .u8 0, .int .u8 0, .int .u8 0, .int .u8 0, .int .u8 0, .int .u8 0, .int .u8 0, .int .u8 0, .int .u8 0, .int .u8 0, .int .u8 0, .int .u8 0, .int .u8 0, .int .u8 0] 74)).alloc (.cells #[.int .u8 0, .int .u8 0, .int .u8 0, .int .u8 0, .int .u8 0, .int .u8 0, .int .u8 0, .int .u8 0, .int .u8 0, .int .u8 0, .int .u8 0, .int .u8 0, .int .u8 0, .int .u8 0, .int .u8 0, .int .u8 0] 74)
        exact (h3.setRow_other (by simp [Value.ownBlock]; omega) _).setRow_other (by simp [Value.ownBlock]; omega) _
      · exact grownBy_setRow (grownBy_setRow (grownBy_trans hgr (grownBy_trans (World.grownBy_alloc _ _ _) (World.grownBy_alloc _ _ _))) (by omega) _) (by omega) _
    case round =>
      obtain ⟨j, hj, rfl, hlow, hhigh, hownr, hgrow⟩ := hrel
      by_cases hlt : j < l
      · obtain ⟨b, off, rfl, hc⟩ := hv.2 (by omega)
        have hbg : b ≠ g := hne (by omega) _ rfl
        obtain ⟨y, hy⟩ : ∃ y, y = v.getD j 0 := ⟨_, rfl⟩
        obtain ⟨x, hxx⟩ : ∃ x, x = xs.getD j 0 := ⟨_, rfl⟩
        have hy1 : y < 256 := by rw [hy]; exact hvb.getD j
        have hx1 : x < 256 := by rw [hxx]; exact hx.getD j
        have cv : wr.cell? ⟨b, off + j, none⟩ = some (.int .u8 (y : Nat)) := by
          have := hgrow.cell (hc j hlt |>.trans (bv_getD (by have := hv.1; simp at this; omega))) (by simp [hbg])
          rw [hy]; exact this
        have cs : wr.cell? ⟨g, j, none⟩ = some (.int .u8 (x : Nat)) := by
          have hxl : j < xs.length := by have := hown.1; simp at this; omega
          rw [hownr.cellAt j (by omega), bv_getD (by rw [addTo_length]; exact hxl), addTo_getD _ _ _ _ hxl, hxx, show (v.take j).getD j 0 = 0 from by rw [List.getD_eq_getElem?_getD, List.getElem?_eq_none (by rw [List.length_take]; omega)]; rfl, mul_zero, Nat.xor_zero]
        have cf := hownr.frozenAt j
        have cl : wr.cell? ⟨w2.heap.size, y % 16, none⟩ = some (.int .u8 (mul k.toNat (y % 16) : Nat)) := by
          rw [cell_of_row _ _ _ _ _ _ hlow, multTo_at _ _ _ (by omega), multAt, if_pos (by omega)]; rfl
        have ch : wr.cell? ⟨w2.heap.size + 1, y / 16, none⟩ = some (.int .u8 (mul (mul k.toNat 16) (y / 16) : Nat)) := by
          rw [cell_of_row _ _ _ _ _ _ hhigh, multTo_at _ _ _ (by omega), multAt, if_pos (by omega)]; rfl
        have e15 : bits .and .u8 (y : Int) 15 = ((y % 16 : Nat) : Int) := by
          rw [show (15 : Int) = ((15 : Nat) : Int) from rfl, u8_and_nat _ _ hy1 (by omega), nat_mask4]
        have ex : bits .xor .u8 (x : Int) (bits .xor .u8 ((mul k.toNat (y % 16) : Nat) : Int) ((mul (mul k.toNat 16) (y / 16) : Nat) : Int)) = ((x ^^^ mul k.toNat y : Nat) : Int) := by
          rw [u8_xor_nat _ _ (mul_lt (by omega)) (mul_lt hmk), mul_halves (by omega) hy1, u8_xor_nat _ _ hx1 (mul_lt (by omega))]
        have EX := Lib.hid ex
        have HY := Lib.hid hy
        have HX := Lib.hid hxx
        clear hc hy hxx ex
        go_wp2
        go_region
        all_goals
          go_wp2
          rw [EX.out]
          have hst := hownr.stored j (.int .u8 (x ^^^ mul k.toNat y : Nat))
          go_roundw
          case rel =>
            refine ⟨j + 1, by omega, by go_num, ?_, ?_, ?_, ?_⟩
            · exact (heap_setCell_other wr ⟨g, j, Option.none⟩ _ _ (by simp; omega)).trans hlow
            · exact (heap_setCell_other wr ⟨g, j, Option.none⟩ _ _ (by simp; omega)).trans hhigh
            · have h1 := hst.1
              rw [show (Value.int .u8 (x ^^^ mul k.toNat y : Nat)) = bv (x ^^^ mul k.toNat y) from rfl, ← List.map_set, HX.out, HY.out, addTo_step] at h1
              rw [HX.out, HY.out]
              exact h1.drew
            · exact grownBy_trans hgrow ⟨hst.2.os, hst.2.tape, hst.2.output, hst.2.size, hst.2.block⟩
          case measure => simp [intOf]; omega
      · obtain rfl : j = l := by omega
        have hvl : v.length = j := by have := hv.1; simpa using this
        rw [List.take_of_length_le (by omega)] at hownr
        go_wp2
        exact bodyPost_end (results_none rfl _ _ _) rfl ⟨rfl, hownr, hgrow⟩

theorem Try.info5 : (Try.prog.info? 5).map (fun i => (i.zero, i.size, i.bytes)) = some (some (.int .u8 0), 1, 1) := by kernel_rfl

set_option maxHeartbeats 1000000 in
theorem mix_any (adk : Option Addr) (lk ck : Nat) (ks : List Nat) (adv : Option Addr) (n cv : Nat) (hs : List (Option Addr × Nat × Nat)) (ls : List (List Nat)) (w : World)
    (hks : RowV w adk lk (ks.map bv)) (hkb : Bytes ks) (hkm : lk ≤ 140737488355328) (hvs : RowV w adv n (hs.map SV)) (hn : n ≤ 140737488355328) (hrows : RowsV w hs ls) :
    Calls Try.prog 37 #[.slice adk lk ck, .slice adv n cv] w fun e w' => e = .returned (.slice (some ⟨w.heap.size, 0, none⟩) (longest ls n) (longest ls n)) ∧
      w'.ownsRow w.heap.size 5 1 (.slice (some ⟨w.heap.size, 0, none⟩) (longest ls n) (longest ls n)) (longest ls n) ((mixTo ks ls (longest ls n) n).map bv) ∧ Below w.heap.size w w' := by
  have hhs : hs.length = n := by have := hvs.1; simpa using this
  obtain ⟨i0, hi, hz0, hz1, hz2⟩ := info_parts Try.info5
  have hlm := longest_le hrows n
  go_enter Try.func37, Try.ntmps37
  go_wp2
  go_loop [5, 13] (fun m i => ∃ k : Nat, k ≤ n ∧ i = .int .i64 k ∧ m = .int .i64 (longest ls k : Nat)) (fun _ i => n - (intOf i).toNat)
  case atStart => exact ⟨0, Nat.zero_le _, rfl, rfl⟩
  case round =>
    obtain ⟨k, hk, rfl, rfl⟩ := hrel
    have hlk := longest_le hrows k
    by_cases hlt : k < n
    · obtain ⟨b, off, rfl, hc⟩ := hvs.2 (by omega)
      obtain ⟨x, hxe, hxr⟩ := hrows.at k (by omega)
      obtain ⟨a, l, c⟩ := x
      have hcell : w.cell? ⟨b, off + k, none⟩ = some (.slice a l c) := by rw [hc k hlt, List.getElem?_map, hxe]; rfl
      have hll : l ≤ 140737488355328 := hxr.small
      clear hc
      have hlen : (ls.getD k []).length = l := by exact hxr.length
      have HL := Lib.hid hlen
      clear hlen
      go_wp2
      go_round
      case rel =>
        refine ⟨k + 1, by omega, by go_num, int_eq ?_⟩
        simp only [longest]
        rw [HL.out]
        split <;> omega
      case measure => simp [intOf]; omega
    · obtain rfl : k = n := by omega
      go_wp2_with (first | (at_make; refine wpList_make_full _ rfl _ _ 34 rfl w.heap.size 5 i0 (.int .u8 0) 1 Try.underlying34 hi hz0 hz1 _ _ _ _ (longest ls k) rfl rfl rfl rfl (by rw [hz2]; omega) (by unfold maxLen; omega) (Nat.le_refl _) ?_; intro w1 hown1 hgrow1))
      have hb1 : Below w.heap.size w w1 := ⟨hgrow1.os, hgrow1.tape, hgrow1.output, hgrow1.size, fun i hi => hgrow1.block i hi (by simp)⟩
      clear hgrow1
      go_loopw [26] (fun i wr => ∃ j : Nat, j ≤ k ∧ i = .int .i64 j ∧
          wr.ownsRow w.heap.size 5 1 (.slice (some ⟨w.heap.size, 0, Option.none⟩) (longest ls k) (longest ls k)) (longest ls k) ((mixTo ks ls (longest ls k) j).map bv) ∧ Below w.heap.size w wr)
        (fun i _ => k - (intOf i).toNat)
      case atStart =>
        refine ⟨0, Nat.zero_le _, rfl, ?_, hb1⟩
        have := hown1
        rw [show (Value.int .u8 0).cells = #[.int .u8 0] from rfl, Nat.mul_one, toList_madeCells_one] at this
        simpa [mixTo, bv] using this
      case round =>
        obtain ⟨j, hj, rfl, hownr, hbr⟩ := hrel
        by_cases hlt : j < k
        · obtain ⟨b, off, rfl, hc⟩ := hvs.2 (by omega)
          obtain ⟨x, hxe, hxr⟩ := hrows.at j (by omega)
          obtain ⟨a, l, c⟩ := x
          have hbw : b < w.heap.size := hvs.lt (by omega) rfl
          have hcell : wr.cell? ⟨b, off + j, Option.none⟩ = some (.slice a l c) := by rw [hbr.cell hbw, hc j hlt, List.getElem?_map, hxe]; rfl
          have hll : l ≤ 140737488355328 := hxr.small
          have hlen : (ls.getD j []).length = l := by exact hxr.length
          have hle := le_longest ls j k hlt
          rw [hlen] at hle
          clear hc
          by_cases hjk : j < lk
          · obtain ⟨bk, ok, rfl, hck⟩ := hks.2 (by omega)
            have hbk : bk < w.heap.size := hks.lt (by omega) rfl
            have hkl : j < ks.length := by have := hks.1; simp at this; omega
            have hk1 := hkb.getD j
            obtain ⟨y, hy⟩ : ∃ y, y = ks.getD j 0 := ⟨_, rfl⟩
            rw [← hy] at hk1
            have hcellk : wr.cell? ⟨bk, ok + j, Option.none⟩ = some (.int .u8 (y : Nat)) := by rw [hbr.cell hbk, hck j hjk, bv_getD hkl, hy]
            have HLEN := Lib.hid hlen
            have HY := Lib.hid hy
            clear hck hlen hy
            go_wp2_with fail
            refine (addScaled_any w.heap.size w.heap.size _ _ (mixTo ks ls (longest ls k) j) y a l c (ls.getD j []) wr (by omega) (by omega) hownr (mixTo_bytes hkb _ _ _) (hxr.row.below hbr) hxr.bytes hle (by omega) ?_).mono ?_
            · intro hl0 a' ha'
              have := hxr.row.lt hl0 ha'
              omega
            rintro e w2 ⟨rfl, hown2, hgrow2⟩
            have hb2 : Below w.heap.size w w2 := hbr.trans ⟨hgrow2.os, hgrow2.tape, hgrow2.output, hgrow2.size, fun i hi => hgrow2.block i (by have := hbr.size; omega) (by simp; omega)⟩
            clear hgrow2 hcell hcellk
            go_wp2
            go_roundw
            case rel =>
              refine ⟨j + 1, by omega, by go_num, ?_, hb2⟩
              simp only [mixTo]
              rw [← HY.out]
              exact hown2
            case measure => simp [intOf]; omega
          · have HLEN := Lib.hid hlen
            clear hlen
            go_wp2
            go_roundw
            case rel =>
              refine ⟨j + 1, by omega, by go_num, ?_, hbr⟩
              have : ks.getD j 0 = 0 := by
                rw [List.getD_eq_getElem?_getD, List.getElem?_eq_none (by have := hks.1; simp at this; omega)]; rfl
              simp only [mixTo]
              rw [this, addTo_zero]
              exact hownr
            case measure => simp [intOf]; omega
        · obtain rfl : j = k := by omega
          go_wp2
          go_ret
          exact ⟨rfl, hownr, hbr⟩

end Go.Proofs.Ytgnnfpnkhemimaa
