/-
  meta: Later.
-/
import Derived.Test.YtikjcmijmhmilaaMeH
namespace Go.Proofs.Ytikjcmijmhmilaa
open Go.RowKit

/-- a slice of tags. -/
structure TagsV (w : World) (ad : Option Addr) (n c : Nat) (L : Nat → Int × Int) : Prop where
  small : n ≤ maxLen
  cap : n ≤ c
  capm : c ≤ maxLen
  row : 0 < n → ∃ b o, ad = some ⟨b, o, none⟩ ∧ b < w.heap.size ∧ ∀ i, i < n → w.cell? ⟨b, o + i * 2, none⟩ = some (.int .i64 (L i).1) ∧ w.cell? ⟨b, o + i * 2 + 1, none⟩ = some (.int .i64 (L i).2)
theorem TagsV.below {w w' : World} {ad : Option Addr} {n c : Nat} {L : Nat → Int × Int} (h : TagsV w ad n c L) (hb : Below w.heap.size w w') : TagsV w' ad n c L :=
  ⟨h.small, h.cap, h.capm, fun h0 => by
    obtain ⟨b, o, e, hlt, hc⟩ := h.row h0
    refine ⟨b, o, e, Nat.lt_of_lt_of_le hlt hb.size, fun i hi => ?_⟩
    obtain ⟨c1, c2⟩ := hc i hi
    exact ⟨(hb.cell hlt).trans c1, (hb.cell hlt).trans c2⟩⟩
/-- the latest of the first k. -/
def latest (L : Nat → Int × Int) : Nat → Int × Int
  | 0 => (0, 0)
  | k + 1 => if k = 0 ∨ lt (latest L k) (L k) then L k else latest L k

theorem cells2M {w : World} {b : Nat} {v0 v1 : Value} {T : TypeId} (h : w.heap[b]? = some (.cells #[v0, v1] T (0, 0))) : w.cell? ⟨b, 0, none⟩ = some v0 ∧ w.cell? ⟨b, 1, none⟩ = some v1 ∧ ∀ j, w.frozen? ⟨b, j, none⟩ = false :=
  ⟨cell_of_row _ _ 0 _ _ _ h, cell_of_row _ _ 1 _ _ _ h, fun _ => frozen_of_row _ _ _ _ _ h⟩
def set2 (w : World) (g : Nat) (v0 v1 : Value) : World := (w.setCell ⟨g, 0, none⟩ v0).setCell ⟨g, 1, none⟩ v1
theorem set2_same {w : World} {g : Nat} {T : TypeId} {z0 z1 : Value} (v0 v1 : Value) (h : w.heap[g]? = some (.cells #[z0, z1] T (0, 0))) : (set2 w g v0 v1).heap[g]? = some (.cells #[v0, v1] T (0, 0)) :=
  heap_setCell_same _ _ 1 _ _ _ (heap_setCell_same _ _ 0 _ _ _ h)
theorem set2_other {w : World} {g k : Nat} (v0 v1 : Value) (h : k ≠ g) : (set2 w g v0 v1).heap[k]? = w.heap[k]? :=
  (heap_setCell_other _ ⟨g, 1, none⟩ k _ h).trans (heap_setCell_other _ ⟨g, 0, none⟩ k _ h)
theorem set2_below {B : Nat} {a w : World} (h : Below B a w) {g : Nat} (hg : B ≤ g) (v0 v1 : Value) : Below B a (set2 w g v0 v1) :=
  (h.setCell (p := ⟨g, 0, none⟩) hg v0).setCell (p := ⟨g, 1, none⟩) hg v1

theorem set2_size (w : World) (g : Nat) (v0 v1 : Value) : (set2 w g v0 v1).heap.size = w.heap.size := by simp [set2, World.setCell]

set_option maxRecDepth 10000 in
set_option maxHeartbeats 4000000 in
theorem later_any (ad : Option Addr) (n c : Nat) (L : Nat → Int × Int) (w : World) (hL : TagsV w ad n c L) :
    Calls Try.prog 9 #[.slice ad n c] w fun e w' => e = .returned (.agg #[.int .i64 (latest L n).1, .int .i64 (latest L n).2]) ∧ Below w.heap.size w w' := by
  have hsm := hL.small
  unfold maxLen at hsm
  obtain ⟨w2, hw2⟩ : ∃ w2, w2 = (w.alloc (.cells #[.int .i64 0, .int .i64 0] 25)).alloc (.cells #[.int .i64 0, .int .i64 0] 25) := ⟨_, rfl⟩
  have hA : w2.heap[w.heap.size]? = some (.cells #[.int .i64 0, .int .i64 0] 25 (0, 0)) := by
    rw [hw2, heap_alloc_old _ _ (by simp)]; exact heap_alloc_new _ _
  have hB : w2.heap[w.heap.size + 1]? = some (.cells #[.int .i64 0, .int .i64 0] 25 (0, 0)) := by rw [hw2]; exact two_allocM _ _ _
  have hb2 : Below w.heap.size w w2 := by rw [hw2]; exact (below_alloc _ _).alloc (by simp) _
  go_enter Try.func9, Try.ntmps9
  go_wp2
  rw [← hw2]
  clear hw2
  go_loopw [8] (fun i wr => ∃ k : Nat, k ≤ n ∧ i = .int .i64 k ∧ Hid (wr.heap[w.heap.size]? = some (.cells #[.int .i64 0, .int .i64 0] 25 (0, 0))) ∧ Hid (wr.heap[w.heap.size + 1]? = some (.cells #[.int .i64 (latest L k).1, .int .i64 (latest L k).2] 25 (0, 0))) ∧ Below w.heap.size w wr) (fun i _ => n - (intOf i).toNat)
  case atStart => exact ⟨0, Nat.zero_le _, rfl, Lib.hid hA, Lib.hid hB, hb2⟩
  case round =>
    clear hA hB hb2
    obtain ⟨k, hk, rfl, HA, HB, hb⟩ := hrel
    by_cases hkn : k < n
    · obtain ⟨b, o, e, hlt, hc⟩ := hL.row (by omega)
      subst e
      obtain ⟨d0, d1⟩ := hc k hkn
      have t0 := (hb.cell (p := ⟨b, o + k * 2, none⟩) hlt).trans d0
      have t1 := (hb.cell (p := ⟨b, o + k * 2 + 1, none⟩) hlt).trans d1
      have hS : latest L (k + 1) = if k = 0 ∨ lt (latest L k) (L k) then L k else latest L k := rfl
      obtain ⟨x, hx⟩ : ∃ x, x = L k := ⟨_, rfl⟩
      obtain ⟨y, hy⟩ : ∃ y, y = latest L k := ⟨_, rfl⟩
      rw [← hx] at t0 t1
      rw [← hx, ← hy] at hS
      rw [← hy] at HB
      obtain ⟨x0, x1⟩ := x
      obtain ⟨y0, y1⟩ := y
      simp only at t0 t1 HB
      clear hc d0 d1 hx hy
      obtain ⟨p0, p1, pF⟩ := cells2M HB.out
      have hsz := (Array.getElem?_eq_some_iff.1 HB.out).1
      by_cases hk0 : k = 0
      · subst hk0
        rw [if_pos (Or.inl rfl)] at hS
        simp only [Nat.zero_mul, Nat.add_zero] at t0 t1
        have HS := Lib.hid hS
        clear hS
        have hlb := Nat.lt_of_lt_of_le hlt hb.size
        have q0 : ∀ o, (wr.alloc o).cell? ⟨w.heap.size + 1, 0, none⟩ = some (.int .i64 y0) := fun o => (cells2M ((heap_alloc_old wr o hsz).trans HB.out)).1
        have q1 : ∀ o, (wr.alloc o).cell? ⟨w.heap.size + 1, 1, none⟩ = some (.int .i64 y1) := fun o => (cells2M ((heap_alloc_old wr o hsz).trans HB.out)).2.1
        have qF : ∀ o j, (wr.alloc o).frozen? ⟨w.heap.size + 1, j, none⟩ = false := fun o => (cells2M ((heap_alloc_old wr o hsz).trans HB.out)).2.2
        go_wp2
        have hbs := hb.size
        refine ⟨⟨1, hkn, rfl, Lib.hid ?_, Lib.hid ?_, ?_⟩, ?_⟩
        · exact (heap_alloc_old (set2 wr (w.heap.size + 1) _ _) _ (by rw [set2_size]; omega)).trans ((set2_other _ _ (by omega)).trans HA.out)
        · rw [HS.out]
          exact (heap_alloc_old (set2 wr (w.heap.size + 1) _ _) _ (by rw [set2_size]; omega)).trans (set2_same _ _ HB.out)
        · exact (set2_below hb (Nat.le_succ _) _ _).alloc (by rw [set2_size]; omega) _
        · simp [intOf]
          try omega
      · have hk0' : ((k : Int) == 0) = false := by simpa using hk0
        have HS := Lib.hid hS
        clear hS
        have fin : ∀ w3, Below (wr.alloc (.cells #[.int .i64 x0, .int .i64 x1] 25)).heap.size (wr.alloc (.cells #[.int .i64 x0, .int .i64 x1] 25)) w3 → Below w.heap.size w w3 ∧ w3.heap[w.heap.size]? = some (Obj.cells #[Value.int IntKind.i64 0, Value.int IntKind.i64 0] 25 (0, 0)) ∧ w3.heap[w.heap.size + 1]? = some (Obj.cells #[Value.int IntKind.i64 y0, Value.int IntKind.i64 y1] 25 (0, 0)) ∧ w3.heap[wr.heap.size]? = some (Obj.cells #[Value.int IntKind.i64 x0, Value.int IntKind.i64 x1] 25 (0, 0)) := fun w3 h3' =>
          have h3 : Below (wr.heap.size + 1) (wr.alloc (.cells #[.int .i64 x0, .int .i64 x1] 25)) w3 := h3'.mono (by simp)
          have hsb := hb.size
          ⟨(hb.alloc hb.size _).trans (h3.mono (by omega)),
           ((h3.block _ (by omega)).trans (heap_alloc_old wr _ (by omega))).trans HA.out,
           ((h3.block _ (by omega)).trans (heap_alloc_old wr _ hsz)).trans HB.out,
           (h3.block _ (by omega)).trans (heap_alloc_new wr _)⟩
        by_cases hlt2 : lt (y0, y1) (x0, x1)
        · have KE : ∀ w, Calls Try.prog 13 #[.agg #[.int .i64 y0, .int .i64 y1], .agg #[.int .i64 x0, .int .i64 x1]] w fun e w' => e = .returned (.bool true) ∧ Below w.heap.size w w' := by
            intro w; have := earlier_any y0 y1 x0 x1 w; rwa [decide_eq_true hlt2] at this
          go_wp2_with fail
          (with_reducible refine (KE _).mono ?_)
          rintro e w3 ⟨rfl, hd3⟩
          obtain ⟨hb3, f2, f3, f4⟩ := fin _ hd3
          obtain ⟨q0, q1, qF⟩ := cells2M f3
          obtain ⟨r0, r1, rF⟩ := cells2M f4
          have F2 := Lib.hid f2
          have F3 := Lib.hid f3
          clear f2 f3 f4 hd3
          go_wp2
          go_roundw
          case rel =>
            refine ⟨k + 1, by omega, by go_num, ?_, ?_, (set2_below hb3 (Nat.le_succ _) _ _)⟩
            · exact Lib.hid ((set2_other _ _ (by omega)).trans F2.out)
            · rw [HS.out, if_pos (Or.inr hlt2)]
              exact Lib.hid (set2_same _ _ F3.out)
          case measure => simp [intOf]; omega
        · have KE : ∀ w, Calls Try.prog 13 #[.agg #[.int .i64 y0, .int .i64 y1], .agg #[.int .i64 x0, .int .i64 x1]] w fun e w' => e = .returned (.bool false) ∧ Below w.heap.size w w' := by
            intro w; have := earlier_any y0 y1 x0 x1 w; rwa [decide_eq_false hlt2] at this
          go_wp2_with fail
          (with_reducible refine (KE _).mono ?_)
          rintro e w3 ⟨rfl, hd3⟩
          obtain ⟨hb3, f2, f3, f4⟩ := fin _ hd3
          obtain ⟨q0, q1, qF⟩ := cells2M f3
          obtain ⟨r0, r1, rF⟩ := cells2M f4
          have F2 := Lib.hid f2
          have F3 := Lib.hid f3
          clear f2 f3 f4 hd3
          go_wp2
          go_roundw
          case rel =>
            refine ⟨k + 1, by omega, by go_num, F2, ?_, hb3⟩
            rw [HS.out, if_neg (fun h => by rcases h with h | h; exact hk0 h; exact hlt2 h)]
            exact F3
          case measure => simp [intOf]; omega
    · have hke : k = n := by omega
      subst hke
      obtain ⟨p0, p1, pF⟩ := cells2M HB.out
      have hsz := (Array.getElem?_eq_some_iff.1 HB.out).1
      obtain ⟨z0, z1, zF⟩ := cells2M HA.out
      go_wp2
      exact bodyPost_ret (v := .agg #[.int .i64 (latest L k).1, .int .i64 (latest L k).2]) (results_later _ _ _ _ rfl (set2_same _ _ HA.out) rfl) rfl ⟨rfl, set2_below hb (Nat.le_refl _) _ _⟩
end Go.Proofs.Ytikjcmijmhmilaa
