/-
  meta: the writer, with what it has written.
-/
import Derived.Test.YthofndobmiamjaaDoorMeO
namespace Go.Proofs.YthofndobmiamjaaDoor
open Go.RowKit

/-- the first m of the W bytes of a number, the greatest weight first. -/
def numTo (n W m : Nat) : List Nat := (List.range m).map fun t => n / 256 ^ (W - 1 - t) % 256
def numL (n W : Nat) : List Nat := numTo n W W
theorem numTo_succ (n W m : Nat) : numTo n W (m + 1) = numTo n W m ++ [n / 256 ^ (W - 1 - m) % 256] := by
  unfold numTo
  rw [List.range_succ, List.map_append]
  rfl
theorem numTo_len (n W m : Nat) : (numTo n W m).length = m := by simp [numTo]
theorem numTo_bytes (n W m : Nat) : Bytes (numTo n W m) := by
  intro x hx
  simp only [numTo, List.mem_map] at hx
  obtain ⟨t, -, rfl⟩ := hx
  exact Nat.mod_lt _ (by decide)
abbrev WT : TypeId := 81
/-- block b is a writer that has the bytes l, in a block of its own from base on. -/
structure WrH (w : World) (b base : Nat) (l : List Nat) (ad : Option Addr) (cap : Nat) : Prop where
  hh : w.heap[b]? = some (.cells #[.slice ad l.length cap] WT (0, 0))
  own : w.ownsRow base 5 1 (.slice ad l.length cap) l.length (l.map bv)
  by_ : Bytes l
/-- what may have changed: the writer, and its bytes' block. -/
structure KpW (w w' : World) (b : Nat) (o : Option Nat) : Prop where
  os : w'.os = w.os
  tape : w'.tape = w.tape
  output : w'.output = w.output
  size : w.heap.size ≤ w'.heap.size
  block : ∀ q, q < w.heap.size → q ≠ b → some q ≠ o → w'.heap[q]? = w.heap[q]?
theorem KpW.refl (w : World) (b : Nat) (o : Option Nat) : KpW w w b o := ⟨rfl, rfl, rfl, Nat.le_refl _, fun _ _ _ _ => rfl⟩
theorem KpW.trans {w w1 w2 : World} {b : Nat} {o o1 : Option Nat} (h : KpW w w1 b o) (k : KpW w1 w2 b o1) (ho : o1 = o ∨ ∀ q, o1 = some q → w.heap.size ≤ q) : KpW w w2 b o :=
  ⟨k.os.trans h.os, k.tape.trans h.tape, k.output.trans h.output, Nat.le_trans h.size k.size, fun q h1 h2 h3 => (k.block q (Nat.lt_of_lt_of_le h1 h.size) h2 (fun e => by
    rcases ho with ho | ho
    · exact h3 (e.trans ho)
    · have := ho q e.symm; omega)).trans (h.block q h1 h2 h3)⟩
theorem KpW.below {w w' : World} {b B : Nat} {o : Option Nat} (h : KpW w w' b o) (hb : B ≤ b) (ho : ∀ q, o = some q → B ≤ q) (hB : B ≤ w.heap.size) : Below B w w' :=
  ⟨h.os, h.tape, h.output, h.size, fun q hq => h.block q (by omega) (by omega) (fun e => by have := ho q e.symm; omega)⟩
theorem KpW.of_grown {w w' : World} {b : Nat} {o : Option Nat} (h : w.grownBy w' o) : KpW w w' b o := ⟨h.os, h.tape, h.output, h.size, fun q h1 _ h3 => h.block q h1 h3⟩
theorem ownBlock_len (ad : Option Addr) (n c m d : Nat) : (Value.slice ad n c).ownBlock = (Value.slice ad m d).ownBlock := by cases ad <;> rfl
theorem u8_byte (n D : Nat) (v : Int) (h : v = ((n / D : Nat) : Int)) : IntKind.u8.wrap v = ((n / D % 256 : Nat) : Int) := by
  subst h
  simp [IntKind.wrap, IntKind.bits, IntKind.signed]
theorem WrH.put {b base g2 cap cap2 y : Nat} {wr w4 : World} {ad : Option Addr} {L : List Nat} {x : Int} (hb : b < base) (hL : Bytes L) (hy : y < 256) (hg5 : wr.grownBy w4 (Value.slice ad L.length cap).ownBlock) (hh4 : w4.heap[b]? = some (.cells #[.slice ad L.length cap] WT (0, 0)))
    (hown4 : w4.ownsRow base 5 1 (.slice (some ⟨g2, 0, none⟩) (L.length + 1) cap2) (L.length + 1) (L.map bv ++ [.int .u8 x])) (hx : x = (y : Int)) (hat : (Value.slice ad L.length cap).ownBlock = some g2 ∨ wr.heap.size ≤ g2) (_hs : base ≤ wr.heap.size) :
    WrH (w4.setCell ⟨b, 0, none⟩ (.slice (some ⟨g2, 0, none⟩) (L.length + 1) cap2)) b base (L ++ [y]) (some ⟨g2, 0, none⟩) cap2 ∧ KpW wr (w4.setCell ⟨b, 0, none⟩ (.slice (some ⟨g2, 0, none⟩) (L.length + 1) cap2)) b (Value.slice ad L.length cap).ownBlock ∧
    ((Value.slice (some ⟨g2, 0, none⟩) (L.length + 1) cap2).ownBlock = (Value.slice ad L.length cap).ownBlock ∨ ∀ q, (Value.slice (some ⟨g2, 0, none⟩) (L.length + 1) cap2).ownBlock = some q → wr.heap.size ≤ q) := by
  subst hx
  have hg6 := grownBy_setCellM w4 ⟨b, 0, none⟩ (.slice (some ⟨g2, 0, none⟩) (L.length + 1) cap2)
  have hel : (L ++ [y]).length = L.length + 1 := by simp
  refine ⟨⟨?_, ?_, ?_⟩, ⟨hg5.os, hg5.tape, hg5.output, by have := hg5.size; simpa [World.setCell] using this, fun q h1 h2 h3 => (heap_setCell_other w4 ⟨b, 0, none⟩ q _ h2).trans (hg5.block q h1 h3)⟩, ?_⟩
  · rw [hel]; exact heap_setCell_same w4 b 0 _ _ _ hh4
  · rw [hel, List.map_append]
    exact hown4.kept hg6 (.inr (fun e => ne_ownM (g := b) hown4 hb e.symm))
  · intro z hz
    rcases List.mem_append.1 hz with q | q
    · exact hL z q
    · simp at q; omega
  · rcases hat with h | h
    · exact .inl h.symm
    · exact .inr fun q hq => by
        have e : g2 = q := by simpa [Value.ownBlock] using hq
        omega
set_option maxRecDepth 10000 in
set_option maxHeartbeats 4000000 in
theorem numberB_any (b base n W : Nat) (l : List Nat) (ad0 : Option Addr) (cap0 : Nat) (w : World) (hV : WrH w b base l ad0 cap0) (hb : b < base) (hs : base ≤ w.heap.size) (hW : W ≤ 4) (_hn : n < 9223372036854775808) (hl : l.length ≤ 100000000) :
    Calls Tryd.prog 47 #[.pointer (some ⟨b, 0, none⟩), .int .i64 n, .int .i64 W] w fun e w' => e = .returned (.tuple #[]) ∧ ∃ ad cap, WrH w' b base (l ++ numL n W) ad cap ∧ KpW w w' b (Value.slice ad0 l.length cap0).ownBlock ∧ ((Value.slice ad l.length cap).ownBlock = (Value.slice ad0 l.length cap0).ownBlock ∨ ∀ q, (Value.slice ad l.length cap).ownBlock = some q → w.heap.size ≤ q) := by
  obtain ⟨i0, hi, hz0, hz1, hz2⟩ := info_partsM Tryd.infoU8
  go_enter Tryd.func47, Tryd.ntmps47
  go_wp2
  go_loopw [6] (fun i wr => ∃ (j : Nat) (ad : Option Addr) (cap : Nat), j ≤ W ∧ i = .int .i64 ((j : Int) - 1) ∧ Hid (WrH wr b base (l ++ numTo n W (W - j)) ad cap) ∧ Hid (KpW w wr b (Value.slice ad0 l.length cap0).ownBlock) ∧ Hid ((Value.slice ad l.length cap).ownBlock = (Value.slice ad0 l.length cap0).ownBlock ∨ ∀ q, (Value.slice ad l.length cap).ownBlock = some q → w.heap.size ≤ q)) (fun i _ => (intOf i + 1).toNat)
  case atStart => exact ⟨W, ad0, cap0, Nat.le_refl _, rfl, Lib.hid (by rw [Nat.sub_self, show numTo n W 0 = [] from rfl, List.append_nil]; exact hV), Lib.hid (KpW.refl _ _ _), Lib.hid (.inl rfl)⟩
  case round =>
    obtain ⟨j, ad, cap, hj, rfl, HV, HK, HO⟩ := hrel
    rcases Nat.eq_zero_or_pos j with rfl | hj0
    · have hV2 := HV.out
      rw [Nat.sub_zero] at hV2
      rw [show ((0 : Nat) : Int) - 1 = -1 from rfl]
      go_wp2
      go_end0
      exact ⟨rfl, ad, cap, hV2, HK.out, HO.out⟩
    · obtain ⟨L, hL⟩ : ∃ L, L = l ++ numTo n W (W - j) := ⟨_, rfl⟩
      have hLl : L.length ≤ 100000004 := by rw [hL, List.length_append, numTo_len]; omega
      rw [← hL] at HV
      have HLL := Lib.hid hL
      obtain ⟨hh, hown, hby⟩ := HV.out
      have c0 : wr.cell? ⟨b, 0, none⟩ = some (.slice ad L.length cap) := cell_of_row _ _ 0 _ _ _ hh
      have ca : ∀ o, (wr.alloc o).cell? ⟨b, 0, none⟩ = some (.slice ad L.length cap) := fun o => ((below_alloc wr o).cell (p := ⟨b, 0, none⟩) (Array.getElem?_eq_some_iff.1 hh).1).trans c0
      have HH := Lib.hid hh
      have HBY := Lib.hid hby
      have hw0 : IntKind.i64.wrap 0 = 0 := by decide
      have hw1 : IntKind.i64.wrap 8 = 8 := by decide
      have hw2 : IntKind.i64.wrap 16 = 16 := by decide
      have hw3 : IntKind.i64.wrap 24 = 24 := by decide
      have hs2 : base ≤ wr.heap.size := Nat.le_trans hs HK.out.size
      clear hh hby hL
      have hj4 : j = 1 ∨ j = 2 ∨ j = 3 ∨ j = 4 := by omega
      rcases hj4 with rfl | rfl | rfl | rfl
      · rw [show ((1 : Nat) : Int) - 1 = 0 from rfl]
        have hwr : IntKind.u8.wrap (n : Int) = ((n / 256 ^ 0 % 256 : Nat) : Int) := u8_byte n _ _ (by simp)
        have HWR := Lib.hid hwr
        clear hwr
        go_wp2
        go_region_law (first
          | (refine step_append_lies _ rfl (.tmp 17) (.tmp 23) 24 rfl base 5 i0 (.int .u8 0) 1 1 Tryd.underlying24 hi hz0 hz1 hz2 rfl (by decide) (.slice ad L.length cap) L.length (L.map bv) (by simp [Act.eval] <;> omega) (hown.alloc _) ⟨wr.heap.size, 0, none⟩ 1 1 _ (by simp [Act.eval] <;> omega) (by rfl) (World.news_of_block (heap_alloc_new wr _)) (by intro u hu; simp at hu; subst hu; rfl) (by decide) (by simp [maxLen]; omega) (by omega) (by simp; omega) _ rfl ?_; intro g2 cap2 w4 hown4 hgrow4 hat _; obtain ⟨hg5, hh4, c4, f4⟩ := after_app (drop_drew hgrow4) hown hb HH.out))
        all_goals
          obtain ⟨hV5, hK5, hO5⟩ := WrH.put (y := n / 256 ^ 0 % 256) hb HBY.out (Nat.mod_lt _ (by decide)) hg5 hh4 hown4 HWR.out (lies_of hat) hs2
          have HE5 := Lib.hid (show WrH (w4.setCell ⟨b, 0, none⟩ (.slice (some ⟨g2, 0, none⟩) (L.length + 1) cap2)) b base (l ++ numTo n W (W - 0)) (some ⟨g2, 0, none⟩) cap2 from by
            rw [show W - 0 = W - 1 + 1 by omega, numTo_succ, show W - 1 - (W - 1) = 0 by omega, ← List.append_assoc, ← HLL.out]; exact hV5)
          have HK5 := Lib.hid (HK.out.trans hK5 (by rw [ownBlock_len ad L.length cap l.length cap]; exact HO.out))
          have HO5 := Lib.hid (show (Value.slice (some ⟨g2, 0, none⟩) l.length cap2).ownBlock = (Value.slice ad0 l.length cap0).ownBlock ∨ ∀ q, (Value.slice (some ⟨g2, 0, none⟩) l.length cap2).ownBlock = some q → w.heap.size ≤ q from by
            rcases hO5 with h | h
            · rw [ownBlock_len _ l.length cap2 (L.length + 1) cap2, h, ownBlock_len ad L.length cap l.length cap]
              exact HO.out
            · exact .inr fun q hq => Nat.le_trans HK.out.size (h q (by rw [ownBlock_len _ (L.length + 1) cap2 l.length cap2]; exact hq)))
          clear hV5 hK5 hO5 hgrow4 hat
          go_wp2
          go_roundw
          case rel => exact ⟨0, some ⟨g2, 0, none⟩, cap2, by omega, rfl, HE5, HK5, HO5⟩
          case measure => simp [intOf]
      · rw [show ((2 : Nat) : Int) - 1 = 1 from rfl]
        have hwr : IntKind.u8.wrap ((n : Int) / 256) = ((n / 256 ^ 1 % 256 : Nat) : Int) := u8_byte n _ _ (by omega)
        have HWR := Lib.hid hwr
        clear hwr
        go_wp2
        go_region_law (first
          | (refine step_append_lies _ rfl (.tmp 17) (.tmp 23) 24 rfl base 5 i0 (.int .u8 0) 1 1 Tryd.underlying24 hi hz0 hz1 hz2 rfl (by decide) (.slice ad L.length cap) L.length (L.map bv) (by simp [Act.eval] <;> omega) (hown.alloc _) ⟨wr.heap.size, 0, none⟩ 1 1 _ (by simp [Act.eval] <;> omega) (by rfl) (World.news_of_block (heap_alloc_new wr _)) (by intro u hu; simp at hu; subst hu; rfl) (by decide) (by simp [maxLen]; omega) (by omega) (by simp; omega) _ rfl ?_; intro g2 cap2 w4 hown4 hgrow4 hat _; obtain ⟨hg5, hh4, c4, f4⟩ := after_app (drop_drew hgrow4) hown hb HH.out))
        all_goals
          obtain ⟨hV5, hK5, hO5⟩ := WrH.put (y := n / 256 ^ 1 % 256) hb HBY.out (Nat.mod_lt _ (by decide)) hg5 hh4 hown4 HWR.out (lies_of hat) hs2
          have HE5 := Lib.hid (show WrH (w4.setCell ⟨b, 0, none⟩ (.slice (some ⟨g2, 0, none⟩) (L.length + 1) cap2)) b base (l ++ numTo n W (W - 1)) (some ⟨g2, 0, none⟩) cap2 from by
            rw [show W - 1 = W - 2 + 1 by omega, numTo_succ, show W - 1 - (W - 2) = 1 by omega, ← List.append_assoc, ← HLL.out]; exact hV5)
          have HK5 := Lib.hid (HK.out.trans hK5 (by rw [ownBlock_len ad L.length cap l.length cap]; exact HO.out))
          have HO5 := Lib.hid (show (Value.slice (some ⟨g2, 0, none⟩) l.length cap2).ownBlock = (Value.slice ad0 l.length cap0).ownBlock ∨ ∀ q, (Value.slice (some ⟨g2, 0, none⟩) l.length cap2).ownBlock = some q → w.heap.size ≤ q from by
            rcases hO5 with h | h
            · rw [ownBlock_len _ l.length cap2 (L.length + 1) cap2, h, ownBlock_len ad L.length cap l.length cap]
              exact HO.out
            · exact .inr fun q hq => Nat.le_trans HK.out.size (h q (by rw [ownBlock_len _ (L.length + 1) cap2 l.length cap2]; exact hq)))
          clear hV5 hK5 hO5 hgrow4 hat
          go_wp2
          go_roundw
          case rel => exact ⟨1, some ⟨g2, 0, none⟩, cap2, by omega, rfl, HE5, HK5, HO5⟩
          case measure => simp [intOf]
      · rw [show ((3 : Nat) : Int) - 1 = 2 from rfl]
        have hwr : IntKind.u8.wrap ((n : Int) / 65536) = ((n / 256 ^ 2 % 256 : Nat) : Int) := u8_byte n _ _ (by omega)
        have HWR := Lib.hid hwr
        clear hwr
        go_wp2
        go_region_law (first
          | (refine step_append_lies _ rfl (.tmp 17) (.tmp 23) 24 rfl base 5 i0 (.int .u8 0) 1 1 Tryd.underlying24 hi hz0 hz1 hz2 rfl (by decide) (.slice ad L.length cap) L.length (L.map bv) (by simp [Act.eval] <;> omega) (hown.alloc _) ⟨wr.heap.size, 0, none⟩ 1 1 _ (by simp [Act.eval] <;> omega) (by rfl) (World.news_of_block (heap_alloc_new wr _)) (by intro u hu; simp at hu; subst hu; rfl) (by decide) (by simp [maxLen]; omega) (by omega) (by simp; omega) _ rfl ?_; intro g2 cap2 w4 hown4 hgrow4 hat _; obtain ⟨hg5, hh4, c4, f4⟩ := after_app (drop_drew hgrow4) hown hb HH.out))
        all_goals
          obtain ⟨hV5, hK5, hO5⟩ := WrH.put (y := n / 256 ^ 2 % 256) hb HBY.out (Nat.mod_lt _ (by decide)) hg5 hh4 hown4 HWR.out (lies_of hat) hs2
          have HE5 := Lib.hid (show WrH (w4.setCell ⟨b, 0, none⟩ (.slice (some ⟨g2, 0, none⟩) (L.length + 1) cap2)) b base (l ++ numTo n W (W - 2)) (some ⟨g2, 0, none⟩) cap2 from by
            rw [show W - 2 = W - 3 + 1 by omega, numTo_succ, show W - 1 - (W - 3) = 2 by omega, ← List.append_assoc, ← HLL.out]; exact hV5)
          have HK5 := Lib.hid (HK.out.trans hK5 (by rw [ownBlock_len ad L.length cap l.length cap]; exact HO.out))
          have HO5 := Lib.hid (show (Value.slice (some ⟨g2, 0, none⟩) l.length cap2).ownBlock = (Value.slice ad0 l.length cap0).ownBlock ∨ ∀ q, (Value.slice (some ⟨g2, 0, none⟩) l.length cap2).ownBlock = some q → w.heap.size ≤ q from by
            rcases hO5 with h | h
            · rw [ownBlock_len _ l.length cap2 (L.length + 1) cap2, h, ownBlock_len ad L.length cap l.length cap]
              exact HO.out
            · exact .inr fun q hq => Nat.le_trans HK.out.size (h q (by rw [ownBlock_len _ (L.length + 1) cap2 l.length cap2]; exact hq)))
          clear hV5 hK5 hO5 hgrow4 hat
          go_wp2
          go_roundw
          case rel => exact ⟨2, some ⟨g2, 0, none⟩, cap2, by omega, rfl, HE5, HK5, HO5⟩
          case measure => simp [intOf]
      · rw [show ((4 : Nat) : Int) - 1 = 3 from rfl]
        have hwr : IntKind.u8.wrap ((n : Int) / 16777216) = ((n / 256 ^ 3 % 256 : Nat) : Int) := u8_byte n _ _ (by omega)
        have HWR := Lib.hid hwr
        clear hwr
        go_wp2
        go_region_law (first
          | (refine step_append_lies _ rfl (.tmp 17) (.tmp 23) 24 rfl base 5 i0 (.int .u8 0) 1 1 Tryd.underlying24 hi hz0 hz1 hz2 rfl (by decide) (.slice ad L.length cap) L.length (L.map bv) (by simp [Act.eval] <;> omega) (hown.alloc _) ⟨wr.heap.size, 0, none⟩ 1 1 _ (by simp [Act.eval] <;> omega) (by rfl) (World.news_of_block (heap_alloc_new wr _)) (by intro u hu; simp at hu; subst hu; rfl) (by decide) (by simp [maxLen]; omega) (by omega) (by simp; omega) _ rfl ?_; intro g2 cap2 w4 hown4 hgrow4 hat _; obtain ⟨hg5, hh4, c4, f4⟩ := after_app (drop_drew hgrow4) hown hb HH.out))
        all_goals
          obtain ⟨hV5, hK5, hO5⟩ := WrH.put (y := n / 256 ^ 3 % 256) hb HBY.out (Nat.mod_lt _ (by decide)) hg5 hh4 hown4 HWR.out (lies_of hat) hs2
          have HE5 := Lib.hid (show WrH (w4.setCell ⟨b, 0, none⟩ (.slice (some ⟨g2, 0, none⟩) (L.length + 1) cap2)) b base (l ++ numTo n W (W - 3)) (some ⟨g2, 0, none⟩) cap2 from by
            rw [show W - 3 = W - 4 + 1 by omega, numTo_succ, show W - 1 - (W - 4) = 3 by omega, ← List.append_assoc, ← HLL.out]; exact hV5)
          have HK5 := Lib.hid (HK.out.trans hK5 (by rw [ownBlock_len ad L.length cap l.length cap]; exact HO.out))
          have HO5 := Lib.hid (show (Value.slice (some ⟨g2, 0, none⟩) l.length cap2).ownBlock = (Value.slice ad0 l.length cap0).ownBlock ∨ ∀ q, (Value.slice (some ⟨g2, 0, none⟩) l.length cap2).ownBlock = some q → w.heap.size ≤ q from by
            rcases hO5 with h | h
            · rw [ownBlock_len _ l.length cap2 (L.length + 1) cap2, h, ownBlock_len ad L.length cap l.length cap]
              exact HO.out
            · exact .inr fun q hq => Nat.le_trans HK.out.size (h q (by rw [ownBlock_len _ (L.length + 1) cap2 l.length cap2]; exact hq)))
          clear hV5 hK5 hO5 hgrow4 hat
          go_wp2
          go_roundw
          case rel => exact ⟨3, some ⟨g2, 0, none⟩, cap2, by omega, rfl, HE5, HK5, HO5⟩
          case measure => simp [intOf]
end Go.Proofs.YthofndobmiamjaaDoor
