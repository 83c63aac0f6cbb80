/-
  net: at.
-/
import Derived.Test.YtbkbkhinpeoflaaNeB
namespace Go.Proofs.Ytbkbkhinpeoflaa
open Go.RowKit

theorem loadVar_dat (w : World) (g : Nat) (cs : Array Value) (hg : w.heap[g]? = some (.cells cs 59 (0, 0))) (hs : cs.size = 2) : (loadVar 59 ⟨g, 0, none⟩).run Try.prog w = .ok (.agg cs) w :=
  run_loadVar_row w g 59 59 cs (0, 0) _ hg Try.underlying59 rfl (by rw [hs]; kernel_rfl)
theorem results_at (tmps : Array Value) (w : World) (g : Nat) (cs : Array Value) (b : Bool) (hp : tmps.getD 4 undef = .pointer (some ⟨g, 0, none⟩)) (h5 : tmps.getD 5 undef = .bool b) (hg : w.heap[g]? = some (.cells cs 59 (0, 0))) (hs : cs.size = 2) :
    (results Try.f27 tmps).run Try.prog w = .ok (.tuple #[.agg cs, .bool b]) w := by
  have hp' : tmps[4]?.getD undef = .pointer (some ⟨g, 0, none⟩) := by simpa using hp
  have h5' : tmps[5]?.getD undef = .bool b := by simpa using h5
  simp [results, Try.results27, hp', h5', asAddr, loadVar_dat w g cs hg hs]
theorem results_pull (tmps : Array Value) (w : World) (g : Nat) (cs : Array Value) (b : Bool) (hp : tmps.getD 4 undef = .pointer (some ⟨g, 0, none⟩)) (h5 : tmps.getD 5 undef = .bool b) (hg : w.heap[g]? = some (.cells cs 59 (0, 0))) (hs : cs.size = 2) :
    (results Try.f26 tmps).run Try.prog w = .ok (.tuple #[.agg cs, .bool b]) w := by
  have hp' : tmps[4]?.getD undef = .pointer (some ⟨g, 0, none⟩) := by simpa using hp
  have h5' : tmps[5]?.getD undef = .bool b := by simpa using h5
  simp [results, Try.results26, hp', h5', asAddr, loadVar_dat w g cs hg hs]
def set2 (w : World) (g : Nat) (v0 v1 : Value) : World := (w.setCell ⟨g, 0, none⟩ v0).setCell ⟨g, 1, none⟩ v1
theorem set2_same {w : World} {g : Nat} {T : TypeId} {z0 z1 : Value} (v0 v1 : Value) (h : w.heap[g]? = some (.cells #[z0, z1] T (0, 0))) : (set2 w g v0 v1).heap[g]? = some (.cells #[v0, v1] T (0, 0)) :=
  heap_setCell_same _ _ 1 _ _ _ (heap_setCell_same _ _ 0 _ _ _ h)
theorem set2_below {B : Nat} {a w : World} (h : Below B a w) {g : Nat} (hg : B ≤ g) (v0 v1 : Value) : Below B a (set2 w g v0 v1) :=
  (h.setCell (p := ⟨g, 0, none⟩) hg v0).setCell (p := ⟨g, 1, none⟩) hg v1
theorem NetV.val {w : World} {g base : Nat} {v : Value} {sent : Int} {xs : List (Int × Hd)} {bs : List (List Nat)} (h : NetV w g base v sent xs bs) : ∃ ad cap, v = .slice ad xs.length cap ∧ xs.length ≤ cap := by
  rcases h.row.2 with ⟨rfl, h0⟩ | ⟨g', cap, cur, rfl, _, _, hc, _⟩
  · exact ⟨none, 0, by rw [h0], by omega⟩
  · exact ⟨_, _, rfl, hc⟩
theorem NetV.elem {w : World} {g base : Nat} {ad : Option Addr} {n cap : Nat} {sent : Int} {xs : List (Int × Hd)} {bs : List (List Nat)} (h : NetV w g base (.slice ad n cap) sent xs bs) {i : Nat} {x : Int × Hd} (hx : xs[i]? = some x) : ∃ b, ad = some ⟨b, 0, none⟩ ∧ b < w.heap.size ∧ w.cell? ⟨b, i * 2, none⟩ = some (.int .i64 x.1) ∧ w.cell? ⟨b, i * 2 + 1, none⟩ = some (SV x.2) := by
  have hi := (List.getElem?_eq_some_iff.1 hx).1
  obtain ⟨d0, d1⟩ := dcells_get xs i x hx
  have hrow := h.row
  rcases hrow.2 with ⟨e, h0⟩ | ⟨g', cap', cur, e, _, hh, hc, _, hs, ht⟩
  · omega
  · cases e
    have k : ∀ j u, (dcells xs)[j]? = some u → w.cell? ⟨g', j, none⟩ = some u := fun j u hj => by
      rw [cell_of_row _ _ j _ _ _ hh]
      rw [← ht, List.getElem?_take] at hj
      by_cases hjl : j < xs.length * 2
      · rw [if_pos hjl] at hj; simpa using hj
      · rw [if_neg hjl] at hj; cases hj
    exact ⟨g', rfl, (Array.getElem?_eq_some_iff.1 hh).1, k _ _ d0, k _ _ d1⟩

set_option maxRecDepth 100000 in
set_option maxHeartbeats 4000000 in
theorem at_no (g base : Nat) (v : Value) (sent : Int) (xs : List (Int × Hd)) (bs : List (List Nat)) (i : Int) (w : World) (h : NetV w g base v sent xs bs) (hi : i < 0 ∨ (xs.length : Int) ≤ i) :
    Calls Try.prog 27 #[.pointer (some ⟨g, 0, none⟩), .int .i64 i] w fun e w' => e = .returned (.tuple #[.agg #[.int .i64 0, .slice none 0 0], .bool false]) ∧ Below w.heap.size w w' := by
  obtain ⟨ad, cap, rfl, hcap⟩ := h.val
  have h1 := h.below (below_alloc w (.cells #[.int .i64 0, .slice none 0 0] 59))
  obtain ⟨p0, p1, pF⟩ := h1.cells
  obtain ⟨m, hm⟩ : ∃ m, m = xs.length := ⟨_, rfl⟩
  rw [← hm] at p0 hi
  have hD := heap_alloc_new w (.cells #[.int .i64 0, .slice none 0 0] 59)
  have HD := Lib.hid hD
  clear h h1 hm hcap hD
  have hc : i < 0 ∨ (¬ i < 0 ∧ (m : Int) ≤ i) := by omega
  rcases hc with hc | ⟨hc1, hc2⟩
  · go_enter Try.func27, Try.ntmps27
    go_wp2
    exact bodyPost_ret (v := .tuple #[.agg #[.int .i64 0, .slice none 0 0], .bool false]) (results_at _ _ _ _ _ rfl rfl (heap_alloc_new w _) rfl) rfl ⟨rfl, below_alloc _ _⟩
  · go_enter Try.func27, Try.ntmps27
    go_wp2
    exact bodyPost_ret (v := .tuple #[.agg #[.int .i64 0, .slice none 0 0], .bool false]) (results_at _ _ _ _ _ rfl rfl (heap_alloc_new w _) rfl) rfl ⟨rfl, below_alloc _ _⟩

set_option maxRecDepth 100000 in
set_option maxHeartbeats 4000000 in
theorem at_yes (g base : Nat) (v : Value) (sent : Int) (xs : List (Int × Hd)) (bs : List (List Nat)) (i : Nat) (x : Int × Hd) (w : World) (h : NetV w g base v sent xs bs) (hx : xs[i]? = some x) :
    Calls Try.prog 27 #[.pointer (some ⟨g, 0, none⟩), .int .i64 (i : Nat)] w fun e w' => e = .returned (.tuple #[.agg #[.int .i64 x.1, SV x.2], .bool true]) ∧ Below w.heap.size w w' := by
  obtain ⟨ad, cap, rfl, hcap⟩ := h.val
  have hi := (List.getElem?_eq_some_iff.1 hx).1
  have h1 := h.below (below_alloc w (.cells #[.int .i64 0, .slice none 0 0] 59))
  obtain ⟨p0, p1, pF⟩ := h1.cells
  obtain ⟨b, rfl, hb, q0, q1⟩ := h1.elem hx
  have hm64 : xs.length ≤ 9223372036854775807 := by
    rcases h.row.2 with ⟨_, h0⟩ | ⟨_, _, _, _, _, _, hc, hm, _⟩
    · omega
    · unfold maxLen at hm; omega
  obtain ⟨m, hm⟩ : ∃ m, m = xs.length := ⟨_, rfl⟩
  rw [← hm] at p0 hi hm64
  obtain ⟨to, a2, n2, c2⟩ := x
  unfold SV at q1 ⊢
  simp only at q0 q1 ⊢
  clear h h1 hm hcap hx hb
  go_enter Try.func27, Try.ntmps27
  go_wp2
  exact bodyPost_ret (v := .tuple #[.agg #[.int .i64 to, .slice a2 n2 c2], .bool true]) (results_at _ _ _ _ _ rfl rfl (heap_alloc_new w _) rfl) rfl ⟨rfl, below_alloc _ _⟩
end Go.Proofs.Ytbkbkhinpeoflaa
