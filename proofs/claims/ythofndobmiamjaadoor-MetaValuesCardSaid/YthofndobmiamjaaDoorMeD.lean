/-
  meta: the writer's numbers.
-/
import Derived.Test.YthofndobmiamjaaDoorMeC
import Derived.Deep.AppendLies
import Derived.Deep.RegionLaw
namespace Go.Proofs.YthofndobmiamjaaDoor
open Go.RowKit

theorem Tryd.infoU8 : (Tryd.prog.info? 5).map (fun i => (i.zero, i.size, i.bytes)) = some (some (.int .u8 0), 1, 1) := by kernel_rfl
theorem info_partsM {P : Program} {e : TypeId} {z : Option Value} {s b : Nat} (h : (P.info? e).map (fun i => (i.zero, i.size, i.bytes)) = some (z, s, b)) : ∃ i, P.info? e = some i ∧ i.zero = z ∧ i.size = s ∧ i.bytes = b := by
  obtain ⟨i, hi, he⟩ := Option.map_eq_some_iff.1 h
  simp only [Prod.mk.injEq] at he
  exact ⟨i, hi, he.1, he.2.1, he.2.2⟩

/-- block b is a writer that has k bytes, in a block of its own from base on (but not gk). -/
structure WriterV (w : World) (b base k : Nat) (gk : Option Nat) : Prop where
  ex : ∃ (ad : Option Addr) (cap : Nat) (xs : List Value), w.heap[b]? = some (.cells #[.slice ad k cap] 81 (0, 0)) ∧ w.ownsRow base 5 1 (.slice ad k cap) k xs ∧ ∀ g, gk = some g → (Value.slice ad k cap).ownBlock ≠ some g

theorem ne_ownM {w : World} {base : Nat} {e : TypeId} {size : Nat} {v : Value} {n : Nat} {xs : List Value} (h : w.ownsRow base e size v n xs) {g : Nat} (hg : g < base) : some g ≠ v.ownBlock := by
  intro e
  have := ownBlock_ge h g e.symm
  omega
theorem grownBy_setCellM (w : World) (a : Addr) (u : Value) : w.grownBy (w.setCell a u) (some a.block) :=
  ⟨rfl, rfl, rfl, by simp, fun k _ hk => heap_setCell_other w a k u (fun e => hk (by rw [e]))⟩

theorem drop_drew {w w' : World} {r : Option Nat} (h : w.drew.grownBy w' r) : w.grownBy w' r := ⟨h.os, h.tape, h.output, h.size, h.block⟩
theorem after_app {wr w4 : World} {o : Obj} {v : Value} {base b n : Nat} {T : TypeId} {xs : List Value} {cs : Array Value} {T2 : TypeId} (hg : (wr.alloc o).grownBy w4 v.ownBlock) (hown : wr.ownsRow base T 1 v n xs) (hb : b < base) (hh : wr.heap[b]? = some (.cells cs T2 (0, 0))) :
    wr.grownBy w4 v.ownBlock ∧ w4.heap[b]? = some (.cells cs T2 (0, 0)) ∧ w4.cell? ⟨b, 0, none⟩ = cs[0]? ∧ w4.frozen? ⟨b, 0, none⟩ = false := by
  have hg5 := grownBy_trans (World.grownBy_alloc wr o v.ownBlock) hg
  have hh4 := (hg5.block b (Array.getElem?_eq_some_iff.1 hh).1 (ne_ownM hown hb)).trans hh
  exact ⟨hg5, hh4, cell_of_row _ _ _ _ _ _ hh4, frozen_of_row _ _ _ _ _ hh4⟩
theorem lies_of {v : Value} {g2 : Nat} {wr : World} {o : Obj} (h : v.ownBlock = some g2 ∨ g2 = (wr.alloc o).drew.heap.size) : v.ownBlock = some g2 ∨ wr.heap.size ≤ g2 :=
  h.imp id (fun e => by rw [e]; show wr.heap.size ≤ (wr.alloc o).heap.size; simp)
theorem after_put {B b base n m cap cap2 g2 : Nat} {w wr w4 : World} {ad : Option Addr} {xs ys : List Value} {k : Nat} {gk : Option Nat} (hB : B ≤ b) (hb : b < base) (hbl : Below B w wr) (hs2 : base ≤ wr.heap.size) (hg5 : wr.grownBy w4 (Value.slice ad n cap).ownBlock) (hh4 : w4.heap[b]? = some (.cells #[.slice ad n cap] 81 (0, 0))) (hown : wr.ownsRow base 5 1 (.slice ad n cap) n xs)
    (hown4 : w4.ownsRow base 5 1 (.slice (some ⟨g2, 0, none⟩) m cap2) m ys) (hgk : ∀ g, gk = some g → g < w.heap.size ∧ g ≠ b) (hno : ∀ g, gk = some g → (Value.slice ad n cap).ownBlock ≠ some g) (hkp : ∀ g, gk = some g → wr.heap[g]? = w.heap[g]?)
    (hat : (Value.slice ad n cap).ownBlock = some g2 ∨ wr.heap.size ≤ g2) (hm : m = k) :
    WriterV (w4.setCell ⟨b, 0, none⟩ (.slice (some ⟨g2, 0, none⟩) m cap2)) b base k gk ∧ Below B w (w4.setCell ⟨b, 0, none⟩ (.slice (some ⟨g2, 0, none⟩) m cap2)) ∧ base ≤ (w4.setCell ⟨b, 0, none⟩ (.slice (some ⟨g2, 0, none⟩) m cap2)).heap.size ∧ ∀ g, gk = some g → (w4.setCell ⟨b, 0, none⟩ (.slice (some ⟨g2, 0, none⟩) m cap2)).heap[g]? = w.heap[g]? := by
  subst hm
  have hg6 := grownBy_setCellM w4 ⟨b, 0, none⟩ (.slice (some ⟨g2, 0, none⟩) m cap2)
  have hsz := hbl.size
  refine ⟨⟨_, _, _, heap_setCell_same w4 b 0 _ _ _ hh4, hown4.kept hg6 (.inr (fun e => ne_ownM (g := b) hown4 hb e.symm)), fun g hg e => ?_⟩, (hbl.grown hg5 (by omega) (fun j hj => Nat.le_trans (by omega) (ownBlock_ge hown j hj))).setCell (p := ⟨b, 0, none⟩) hB _, ?_, fun g hg => ?_⟩
  · obtain ⟨h1, h2⟩ := hgk g hg
    have e2 : g2 = g := by simpa [Value.ownBlock] using e
    subst e2
    rcases hat with h | h
    · exact hno _ hg h
    · omega
  · have := hg5.size
    have := hg6.size
    omega
  · obtain ⟨h1, h2⟩ := hgk g hg
    rw [heap_setCell_other w4 ⟨b, 0, none⟩ g _ h2, hg5.block g (by omega) (fun e => hno g hg e.symm), hkp g hg]

set_option maxRecDepth 10000 in
set_option maxHeartbeats 4000000 in
theorem number_any (B b base k : Nat) (n : Int) (W : Nat) (w : World) (gk : Option Nat) (hV : WriterV w b base k gk) (hgk : ∀ g, gk = some g → g < w.heap.size ∧ g ≠ b) (hB : B ≤ b) (hb : b < base) (hs : base ≤ w.heap.size) (hW : W ≤ 4) (hk : k ≤ 100) :
    Calls Tryd.prog 47 #[.pointer (some ⟨b, 0, none⟩), .int .i64 n, .int .i64 W] w fun e w' => e = .returned (.tuple #[]) ∧ WriterV w' b base (k + W) gk ∧ Below B w w' ∧ base ≤ w'.heap.size ∧ ∀ g, gk = some g → w'.heap[g]? = w.heap[g]? := by
  obtain ⟨i0, hi, hz0, hz1, hz2⟩ := info_partsM Tryd.infoU8
  go_enter Tryd.func47, Tryd.ntmps47
  go_wp2
  go_loopw [6] (fun i wr => ∃ j : Nat, j ≤ W ∧ i = .int .i64 ((j : Int) - 1) ∧ Hid (WriterV wr b base (k + (W - j)) gk) ∧ Below B w wr ∧ base ≤ wr.heap.size ∧ Hid (∀ g, gk = some g → wr.heap[g]? = w.heap[g]?)) (fun i _ => (intOf i + 1).toNat)
  case atStart => exact ⟨W, Nat.le_refl _, rfl, Lib.hid (by simpa using hV), Below.refl _ _, hs, Lib.hid (fun _ _ => rfl)⟩
  case round =>
    obtain ⟨j, hj, rfl, HV, hbl, hs2, HKP⟩ := hrel
    rcases Nat.eq_zero_or_pos j with rfl | hj0
    · have hV2 := HV.out
      rw [Nat.sub_zero] at hV2
      rw [show ((0 : Nat) : Int) - 1 = -1 from rfl]
      go_wp2
      go_end0
      exact ⟨rfl, hV2, hbl, hs2, HKP.out⟩
    · obtain ⟨ad, cap, xs, hh, hown, hno⟩ := HV.out.ex
      have HNO := Lib.hid hno
      clear hno
      obtain ⟨m0, hm0⟩ : ∃ m0, m0 = k + (W - j) := ⟨_, rfl⟩
      rw [← hm0] at hh hown HNO
      have hm100 : m0 ≤ 104 := by omega
      have HM0 := Lib.hid hm0
      clear hm0
      have c0 : wr.cell? ⟨b, 0, none⟩ = some (.slice ad m0 cap) := cell_of_row _ _ 0 _ _ _ hh
      have ca : ∀ o, (wr.alloc o).cell? ⟨b, 0, none⟩ = some (.slice ad m0 cap) := fun o => ((below_alloc wr o).cell (p := ⟨b, 0, none⟩) (Array.getElem?_eq_some_iff.1 hh).1).trans c0
      have HH := Lib.hid hh
      clear hh
      have hw0 : IntKind.i64.wrap 0 = 0 := by decide
      have hw1 : IntKind.i64.wrap 8 = 8 := by decide
      have hw2 : IntKind.i64.wrap 16 = 16 := by decide
      have hw3 : IntKind.i64.wrap 24 = 24 := by decide
      have hj4 : j = 1 ∨ j = 2 ∨ j = 3 ∨ j = 4 := by omega
      rcases hj4 with rfl | rfl | rfl | rfl
      · rw [show ((1 : Nat) : Int) - 1 = 0 from rfl]
        go_wp2
        go_region_law (first
          | (refine step_append_lies _ rfl (.tmp 17) (.tmp 23) 24 rfl base 5 i0 (.int .u8 0) 1 1 Tryd.underlying24 hi hz0 hz1 hz2 rfl (by decide) (.slice ad m0 cap) m0 xs (by simp [Act.eval] <;> omega) (hown.alloc _) ⟨wr.heap.size, 0, none⟩ 1 1 _ (by simp [Act.eval] <;> omega) (by rfl) (World.news_of_block (heap_alloc_new wr _)) (by intro u hu; simp at hu; subst hu; rfl) (by decide) (by simp [maxLen]; omega) (by omega) (by simp; omega) _ rfl ?_; intro g2 cap2 w4 hown4 hgrow4 hat _; obtain ⟨hg5, hh4, c4, f4⟩ := after_app (drop_drew hgrow4) hown hb HH.out))
        all_goals
          obtain ⟨hV5, hb5, hs5, hk5⟩ := after_put (gk := gk) hB hb hbl hs2 hg5 hh4 hown hown4 hgk HNO.out HKP.out (lies_of hat) (by have := HM0.out; omega : m0 + 1 = k + (W - 0))
          have HV5 := Lib.hid hV5
          have HK5 := Lib.hid hk5
          clear hV5 hgrow4 hat hk5
          go_wp2
          go_roundw
          case rel => exact ⟨0, by omega, rfl, HV5, hb5, hs5, HK5⟩
          case measure => simp [intOf]
      · rw [show ((2 : Nat) : Int) - 1 = 1 from rfl]
        go_wp2
        go_region_law (first
          | (refine step_append_lies _ rfl (.tmp 17) (.tmp 23) 24 rfl base 5 i0 (.int .u8 0) 1 1 Tryd.underlying24 hi hz0 hz1 hz2 rfl (by decide) (.slice ad m0 cap) m0 xs (by simp [Act.eval] <;> omega) (hown.alloc _) ⟨wr.heap.size, 0, none⟩ 1 1 _ (by simp [Act.eval] <;> omega) (by rfl) (World.news_of_block (heap_alloc_new wr _)) (by intro u hu; simp at hu; subst hu; rfl) (by decide) (by simp [maxLen]; omega) (by omega) (by simp; omega) _ rfl ?_; intro g2 cap2 w4 hown4 hgrow4 hat _; obtain ⟨hg5, hh4, c4, f4⟩ := after_app (drop_drew hgrow4) hown hb HH.out))
        all_goals
          obtain ⟨hV5, hb5, hs5, hk5⟩ := after_put (gk := gk) hB hb hbl hs2 hg5 hh4 hown hown4 hgk HNO.out HKP.out (lies_of hat) (by have := HM0.out; omega : m0 + 1 = k + (W - 1))
          have HV5 := Lib.hid hV5
          have HK5 := Lib.hid hk5
          clear hV5 hgrow4 hat hk5
          go_wp2
          go_roundw
          case rel => exact ⟨1, by omega, rfl, HV5, hb5, hs5, HK5⟩
          case measure => simp [intOf]
      · rw [show ((3 : Nat) : Int) - 1 = 2 from rfl]
        go_wp2
        go_region_law (first
          | (refine step_append_lies _ rfl (.tmp 17) (.tmp 23) 24 rfl base 5 i0 (.int .u8 0) 1 1 Tryd.underlying24 hi hz0 hz1 hz2 rfl (by decide) (.slice ad m0 cap) m0 xs (by simp [Act.eval] <;> omega) (hown.alloc _) ⟨wr.heap.size, 0, none⟩ 1 1 _ (by simp [Act.eval] <;> omega) (by rfl) (World.news_of_block (heap_alloc_new wr _)) (by intro u hu; simp at hu; subst hu; rfl) (by decide) (by simp [maxLen]; omega) (by omega) (by simp; omega) _ rfl ?_; intro g2 cap2 w4 hown4 hgrow4 hat _; obtain ⟨hg5, hh4, c4, f4⟩ := after_app (drop_drew hgrow4) hown hb HH.out))
        all_goals
          obtain ⟨hV5, hb5, hs5, hk5⟩ := after_put (gk := gk) hB hb hbl hs2 hg5 hh4 hown hown4 hgk HNO.out HKP.out (lies_of hat) (by have := HM0.out; omega : m0 + 1 = k + (W - 2))
          have HV5 := Lib.hid hV5
          have HK5 := Lib.hid hk5
          clear hV5 hgrow4 hat hk5
          go_wp2
          go_roundw
          case rel => exact ⟨2, by omega, rfl, HV5, hb5, hs5, HK5⟩
          case measure => simp [intOf]
      · rw [show ((4 : Nat) : Int) - 1 = 3 from rfl]
        go_wp2
        go_region_law (first
          | (refine step_append_lies _ rfl (.tmp 17) (.tmp 23) 24 rfl base 5 i0 (.int .u8 0) 1 1 Tryd.underlying24 hi hz0 hz1 hz2 rfl (by decide) (.slice ad m0 cap) m0 xs (by simp [Act.eval] <;> omega) (hown.alloc _) ⟨wr.heap.size, 0, none⟩ 1 1 _ (by simp [Act.eval] <;> omega) (by rfl) (World.news_of_block (heap_alloc_new wr _)) (by intro u hu; simp at hu; subst hu; rfl) (by decide) (by simp [maxLen]; omega) (by omega) (by simp; omega) _ rfl ?_; intro g2 cap2 w4 hown4 hgrow4 hat _; obtain ⟨hg5, hh4, c4, f4⟩ := after_app (drop_drew hgrow4) hown hb HH.out))
        all_goals
          obtain ⟨hV5, hb5, hs5, hk5⟩ := after_put (gk := gk) hB hb hbl hs2 hg5 hh4 hown hown4 hgk HNO.out HKP.out (lies_of hat) (by have := HM0.out; omega : m0 + 1 = k + (W - 3))
          have HV5 := Lib.hid hV5
          have HK5 := Lib.hid hk5
          clear hV5 hgrow4 hat hk5
          go_wp2
          go_roundw
          case rel => exact ⟨3, by omega, rfl, HV5, hb5, hs5, HK5⟩
          case measure => simp [intOf]
end Go.Proofs.YthofndobmiamjaaDoor
