/-
  meta: Encode of a key's end.
-/
import Derived.Test.YthofndobmiamjaaDoorMeE
import Derived.Laws.IdiomStrings
namespace Go.Proofs.YthofndobmiamjaaDoor
open Go.RowKit

theorem writer_new (w : World) : WriterV (w.alloc (.cells #[.slice none 0 0] 81)) w.heap.size (w.heap.size + 1) 0 none :=
  ⟨none, 0, [], heap_alloc_new _ _, ⟨rfl, .inl ⟨rfl, rfl⟩⟩, fun g hg => by cases hg⟩
theorem no_gk {w : World} {b : Nat} : ∀ g, (none : Option Nat) = some g → g < w.heap.size ∧ g ≠ b := fun g hg => by cases hg

theorem WriterV.key {w : World} {b base k : Nat} (h : WriterV w b base k none) (o : Obj) : WriterV (w.drew.alloc o) b base k (some w.heap.size) := by
  obtain ⟨ad, cap, xs, hh, hown, _⟩ := h.ex
  have hd : w.drew.ownsRow base 5 1 (.slice ad k cap) k xs := hown
  refine ⟨ad, cap, xs, (heap_alloc_old w.drew o (Array.getElem?_eq_some_iff.1 hh).1).trans hh, hd.alloc o, fun g hg e => ?_⟩
  cases hg
  exact absurd (hown.lt _ e).2 (Nat.lt_irrefl _)
theorem key_bytes (w : World) : ∃ (c : Nat) (C : Array Value) (fr : Nat × Nat), (convert 9 24 (.string keyK)).run Tryd.prog w = .ok (.slice (some ⟨w.heap.size, 0, none⟩) 1 c) (w.drew.alloc (.cells C 5 fr)) ∧ C[0]? = some (.int .u8 107) := by
  have h := run_bytes_of_string (P := Tryd.prog) w 9 24 5 keyK Tryd.underlying9 Tryd.underlying24 Tryd.underlying5
  exact ⟨_, _, _, h, by unfold bytesRow keyK; rw [Array.getElem?_append_left (by simp)]; simp⟩

set_option maxRecDepth 10000 in
set_option maxHeartbeats 8000000 in
theorem encode_rec1 (w : World) : Calls Tryd.prog 35 #[.agg rec1] w fun e w' => ∃ ad cap, e = .returned (.tuple #[.slice ad 17 cap, .int .i64 0]) ∧ Below w.heap.size w w' := by
  have KR := right_rec1
  unfold rec1 at KR ⊢
  go_enter Tryd.func35, Tryd.ntmps35
  go_wp2_with (first
    | (go_at_call 46; (with_reducible refine (KR _).mono ?_); rintro e w1 ⟨rfl, hd1⟩; obtain ⟨hh1, hb1⟩ := after_callM _ _ _ hd1; refine Hid.out ?_))
  refine Lib.hid ?_
  have hlt1 : w.heap.size < w1.heap.size := (Array.getElem?_eq_some_iff.1 hh1).1
  have hV2 := writer_new w1
  have hh2 := (heap_alloc_old w1 (.cells #[.slice none 0 0] 81) hlt1).trans hh1
  have hb2 : Below w1.heap.size w1 (w1.alloc (.cells #[.slice none 0 0] 81)) := below_alloc _ _
  obtain ⟨c0, c1, c2, c3, c4, c5, c6, c7, c8⟩ := cells9M hh1
  clear hd1 KR
  go_wp2_with (first
    | (go_at_call 47; (with_reducible refine (number_is w1.heap.size w1.heap.size (w1.heap.size + 1) 0 2 1 _ none hV2 no_gk (Nat.le_refl _) (Nat.lt_succ_self _) (by simp) (by omega) (by omega) 1 rfl).mono ?_); rintro e w3 ⟨rfl, hV3, hd3, hs3, _⟩; refine Hid.out ?_))
  refine Lib.hid ?_
  have hb3 := hb2.trans hd3
  have hh3 := (hb3.block w.heap.size hlt1).trans hh1
  obtain ⟨c0, c1, c2, c3, c4, c5, c6, c7, c8⟩ := cells9M hh3
  clear hV2 hd3 hh2
  obtain ⟨cK, C, fr, hcv, hC⟩ := key_bytes w3
  have hV4 := hV3.key (.cells C 5 fr)
  have hs4 : w1.heap.size + 1 ≤ (w3.drew.alloc (.cells C 5 fr)).heap.size := by
    have : (w3.drew.alloc (.cells C 5 fr)).heap.size = w3.heap.size + 1 := by simp
    omega
  have hr4 : RowV (w3.drew.alloc (.cells C 5 fr)) (some ⟨w3.heap.size, 0, none⟩) 1 [.int .u8 107] :=
    ⟨rfl, fun _ => ⟨w3.heap.size, 0, rfl, fun i hi => by
      have h0 : i = 0 := by omega
      subst h0
      have hnew : (w3.drew.alloc (.cells C 5 fr)).heap[w3.heap.size]? = some (.cells C 5 fr) := heap_alloc_new w3.drew _
      rw [cell_of_row _ _ _ _ _ _ hnew, hC]; rfl⟩⟩
  have hb4 : Below w1.heap.size w1 (w3.drew.alloc (.cells C 5 fr)) := hb3.drew.alloc (by show w1.heap.size ≤ w3.heap.size; omega) _
  have KT := text_any w1.heap.size w1.heap.size (w1.heap.size + 1) (0 + 1) (some ⟨w3.heap.size, 0, none⟩) 1 cK [.int .u8 107] _ (some w3.heap.size) hV4 (fun g hg => by cases hg; exact ⟨by show w3.heap.size < (w3.drew.alloc (.cells C 5 fr)).heap.size; simp, by omega⟩) (Nat.le_refl _) (Nat.lt_succ_self _) hs4 (by omega) (by omega) hr4 (fun h => by cases h) (fun a ha => by cases ha; rfl) (by intro u hu; simp at hu; subst hu; rfl)
  have KT2 := KT
  rw [show w3.drew.alloc (.cells C 5 fr) = (w3.alloc (.cells C 5 fr)).drew from rfl] at KT2
  clear hV4 hr4 hC hV3
  go_wp2_with (first
    | (go_at_call 48; (first | (with_reducible refine KT.mono ?_) | (with_reducible refine KT2.mono ?_)); rintro e w5 ⟨rfl, hV5, hd5, hs5⟩; refine Hid.out ?_))
  refine Lib.hid ?_
  have hb5 : Below w1.heap.size w1 w5 := hb4.trans hd5
  have hh5 := (hb5.block w.heap.size hlt1).trans hh1
  obtain ⟨c0, c1, c2, c3, c4, c5, c6, c7, c8⟩ := cells9M hh5
  have hV5 : WriterV w5 w1.heap.size (w1.heap.size + 1) 3 none := hV5
  clear hd5 KT KT2 hcv hh3 hb3
  go_wp2_with (first
    | (go_at_call 47; (with_reducible refine (number_is w1.heap.size w1.heap.size (w1.heap.size + 1) 3 1 4 w5 none hV5 no_gk (Nat.le_refl _) (Nat.lt_succ_self _) hs5 (by omega) (by omega) 4 rfl).mono ?_); rintro e w6 ⟨rfl, hV6, hd6, hs6, _⟩; refine Hid.out ?_))
  refine Lib.hid ?_
  have hb6 := hb5.trans hd6
  have hh6 := (hb6.block w.heap.size hlt1).trans hh1
  obtain ⟨c0, c1, c2, c3, c4, c5, c6, c7, c8⟩ := cells9M hh6
  have hV6 : WriterV w6 w1.heap.size (w1.heap.size + 1) 7 none := hV6
  clear hd6 hh5
  go_wp2_with (first
    | (go_at_call 47; (with_reducible refine (number_is w1.heap.size w1.heap.size (w1.heap.size + 1) 7 0 4 w6 none hV6 no_gk (Nat.le_refl _) (Nat.lt_succ_self _) hs6 (by omega) (by omega) 4 rfl).mono ?_); rintro e w7 ⟨rfl, hV7, hd7, hs7, _⟩; refine Hid.out ?_))
  refine Lib.hid ?_
  have hb7 := hb6.trans hd7
  have hh7 := (hb7.block w.heap.size hlt1).trans hh1
  obtain ⟨c0, c1, c2, c3, c4, c5, c6, c7, c8⟩ := cells9M hh7
  have hV7 : WriterV w7 w1.heap.size (w1.heap.size + 1) 11 none := hV7
  clear hd7 hh6
  go_wp2_with (first
    | (go_at_call 47; (with_reducible refine (number_is w1.heap.size w1.heap.size (w1.heap.size + 1) 11 0 1 w7 none hV7 no_gk (Nat.le_refl _) (Nat.lt_succ_self _) hs7 (by omega) (by omega) 1 rfl).mono ?_); rintro e w8 ⟨rfl, hV8, hd8, hs8, _⟩; refine Hid.out ?_))
  refine Lib.hid ?_
  have hb8 := hb7.trans hd8
  have hh8 := (hb8.block w.heap.size hlt1).trans hh1
  obtain ⟨c0, c1, c2, c3, c4, c5, c6, c7, c8⟩ := cells9M hh8
  have hV8 : WriterV w8 w1.heap.size (w1.heap.size + 1) 12 none := hV8
  clear hd8 hh7
  go_wp2_with (first
    | (go_at_call 47; (with_reducible refine (number_is w1.heap.size w1.heap.size (w1.heap.size + 1) 12 0 1 w8 none hV8 no_gk (Nat.le_refl _) (Nat.lt_succ_self _) hs8 (by omega) (by omega) 1 rfl).mono ?_); rintro e w9 ⟨rfl, hV9, hd9, hs9, _⟩; refine Hid.out ?_))
  refine Lib.hid ?_
  have hb9 := hb8.trans hd9
  have hh9 := (hb9.block w.heap.size hlt1).trans hh1
  obtain ⟨c0, c1, c2, c3, c4, c5, c6, c7, c8⟩ := cells9M hh9
  have hV9 : WriterV w9 w1.heap.size (w1.heap.size + 1) 13 none := hV9
  clear hd9 hh8
  go_wp2_with (first
    | (go_at_call 47; (with_reducible refine (number_is w1.heap.size w1.heap.size (w1.heap.size + 1) 13 1 1 w9 none hV9 no_gk (Nat.le_refl _) (Nat.lt_succ_self _) hs9 (by omega) (by omega) 1 rfl).mono ?_); rintro e w10 ⟨rfl, hV10, hd10, hs10, _⟩; refine Hid.out ?_))
  refine Lib.hid ?_
  have hb10 := hb9.trans hd10
  have hh10 := (hb10.block w.heap.size hlt1).trans hh1
  obtain ⟨c0, c1, c2, c3, c4, c5, c6, c7, c8⟩ := cells9M hh10
  have hV10 : WriterV w10 w1.heap.size (w1.heap.size + 1) 14 none := hV10
  clear hd10 hh9
  have KT11 := text_any w1.heap.size w1.heap.size (w1.heap.size + 1) 14 none 0 0 [] w10 none hV10 no_gk (Nat.le_refl _) (Nat.lt_succ_self _) hs10 (by omega) (by omega) ⟨rfl, fun h => absurd h (by omega)⟩ (fun _ => rfl) (fun a ha => by cases ha) (fun u hu => by cases hu)
  go_wp2_with (first
    | (go_at_call 48; (with_reducible refine KT11.mono ?_); rintro e w11 ⟨rfl, hV11, hd11, hs11⟩; refine Hid.out ?_))
  refine Lib.hid ?_
  have hb11 := hb10.trans hd11
  have hh11 := (hb11.block w.heap.size hlt1).trans hh1
  obtain ⟨c0, c1, c2, c3, c4, c5, c6, c7, c8⟩ := cells9M hh11
  have hV11 : WriterV w11 w1.heap.size (w1.heap.size + 1) 15 none := hV11
  clear hd11 hh10
  go_wp2_with (first
    | (go_at_call 47; (with_reducible refine (number_is w1.heap.size w1.heap.size (w1.heap.size + 1) 15 0 2 w11 none hV11 no_gk (Nat.le_refl _) (Nat.lt_succ_self _) hs11 (by omega) (by omega) 2 rfl).mono ?_); rintro e w12 ⟨rfl, hV12, hd12, hs12, _⟩; refine Hid.out ?_))
  refine Lib.hid ?_
  have hb12 := hb11.trans hd12
  have hh12 := (hb12.block w.heap.size hlt1).trans hh1
  obtain ⟨c0, c1, c2, c3, c4, c5, c6, c7, c8⟩ := cells9M hh12
  have hV12 : WriterV w12 w1.heap.size (w1.heap.size + 1) 17 none := hV12
  clear hd12 hh11
  obtain ⟨ad, cap, xs, hw, _, _⟩ := hV12.ex
  have kw : w12.cell? ⟨w1.heap.size, 0, none⟩ = some (.slice ad 17 cap) := cell_of_row _ _ 0 _ _ _ hw
  have hbF := trans_belowM hb1 hb12 hb1.size
  go_wp2
  go_loopw [63] (fun i wr => i = .int .i64 0 ∧ wr = w12) (fun _ _ => 0)
  case atStart => exact ⟨rfl, rfl⟩
  case round =>
    obtain ⟨rfl, rfl⟩ := hrel
    go_wp2
    exact bodyPost_ret (v := .tuple #[.slice ad 17 cap, .int .i64 0]) (by simp [results, Tryd.results35, go_sem]) rfl ⟨ad, cap, rfl, hbF⟩
end Go.Proofs.YthofndobmiamjaaDoor
