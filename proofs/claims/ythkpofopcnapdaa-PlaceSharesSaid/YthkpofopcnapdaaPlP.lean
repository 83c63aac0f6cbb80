/-
  place: the reference's Esis.
-/
import Derived.Test.YthkpofopcnapdaaPlE
import Derived.Test.YthkpofopcnapdaaPlK
namespace Go.Proofs.Ythkpofopcnapdaa
open Go.RowKit

theorem growI {w wr w1 : World} {e : TypeId} {size : Nat} {v : Value} {n : Nat} {xs : List Value} (hb : Below w.heap.size w wr) (o : Obj) (hown : wr.ownsRow w.heap.size e size v n xs) (hg : (wr.alloc o).grownBy w1 v.ownBlock) : Below w.heap.size w w1 :=
  below_grown (hb.alloc hb.size o) hg (ownBlock_ge hown)
theorem iv_one (l : List Int) : ∀ u ∈ l.map iv, u.oneCell' = true := by
  intro u hu
  simp at hu
  obtain ⟨x, _, rfl⟩ := hu
  rfl
theorem intsV_of_owns {w : World} {base : Nat} {T : TypeId} {ad : Option Addr} {cap n : Nat} {l : List Int} (h : w.ownsRow base T 1 (.slice ad n cap) n (l.map iv)) (hs : n ≤ 140737488355328) : IntsV w (ad, n, cap) l := by
  obtain ⟨ad', cap', e, hcase, hnc, _, hrow⟩ := ownsRow_parts h
  cases e
  exact ⟨hrow, hs, hnc, fun e => by rcases hcase with ⟨_, _, hc⟩ | ⟨g, hg, _⟩; exact hc; rw [hg] at e; cases e⟩

/-- the numbers of a node. -/
def esisL (node n q rd : Int) (k : Nat) : List Int := (List.range k).map fun (j : Nat) => node + n * (q * rd + (j : Int))
theorem esisL_length (node n q rd : Int) (k : Nat) : (esisL node n q rd k).length = k := by simp [esisL]
theorem esisL_step (node n q rd : Int) (k : Nat) : esisL node n q rd (k + 1) = esisL node n q rd k ++ [node + n * (q * rd + (k : Int))] := by simp [esisL, List.range_succ]
theorem esisL_getD (node n q rd : Int) {k i : Nat} (h : i < k) : (esisL node n q rd k).getD i 0 = node + n * (q * rd + (i : Int)) := by
  simp [esisL, List.getD_eq_getElem?_getD, h]

set_option maxRecDepth 10000 in
set_option maxHeartbeats 4000000 in
theorem refEsis_badc (n u r c t s node k rd : Int) (w : World) (h : ¬ Good n u r c t s) (hu : -9223372036854775808 ≤ u ∧ u ≤ 9223372036854775807) (hr : -9223372036854775808 ≤ r ∧ r ≤ 9223372036854775807) :
    Calls Try.prog 13 #[cfg n u r c t s, .int .i64 node, .int .i64 k, .int .i64 rd] w fun x w' => x = .returned (.tuple #[.slice none 0 0, .int .i64 130]) ∧ Below w.heap.size w w' := by
  have HC := fun w => refShare_badc n u r c t s k w h hu hr
  unfold cfg at HC ⊢
  go_enter Try.func13, Try.ntmps13
  go_wp2_with (first
      | (go_at_call 9; (with_reducible refine (HC _).mono ?_); rintro e w1 ⟨rfl, hb1⟩; obtain ⟨hold, hbw, hold0, hbw0⟩ := after_call _ _ _ hb1; have c0 : w1.cell? ⟨w.heap.size, 0, none⟩ = some (.int .i64 n) := cell_of_row _ _ 0 _ _ _ hold0))
  go_ret2
  exact ⟨rfl, hbw0⟩

set_option maxRecDepth 10000 in
set_option maxHeartbeats 4000000 in
theorem refEsis_badk (n u r c t s node k rd : Int) (w : World) (h : Good n u r c t s) (hk : k < 1 ∨ 32 < k) :
    Calls Try.prog 13 #[cfg n u r c t s, .int .i64 node, .int .i64 k, .int .i64 rd] w fun x w' => x = .returned (.tuple #[.slice none 0 0, .int .i64 30]) ∧ Below w.heap.size w w' := by
  have HC := fun w => refShare_badk n u r c t s k w h hk
  unfold cfg at HC ⊢
  go_enter Try.func13, Try.ntmps13
  go_wp2_with (first
      | (go_at_call 9; (with_reducible refine (HC _).mono ?_); rintro e w1 ⟨rfl, hb1⟩; obtain ⟨hold, hbw, hold0, hbw0⟩ := after_call _ _ _ hb1; have c0 : w1.cell? ⟨w.heap.size, 0, none⟩ = some (.int .i64 n) := cell_of_row _ _ 0 _ _ _ hold0))
  go_ret2
  exact ⟨rfl, hbw0⟩

set_option maxRecDepth 10000 in
set_option maxHeartbeats 4000000 in
theorem refEsis_badn (n u r c t s node k rd : Int) (w : World) (h : Good n u r c t s) (hk : 1 ≤ k ∧ k ≤ 32) (hn : node < 0 ∨ n ≤ node) :
    Calls Try.prog 13 #[cfg n u r c t s, .int .i64 node, .int .i64 k, .int .i64 rd] w fun x w' => x = .returned (.tuple #[.slice none 0 0, .int .i64 120]) ∧ Below w.heap.size w w' := by
  have HC := fun w => refShare_good n u r c t s k w h hk
  obtain ⟨g0, g1, g2, g3, g4, g5, g6, g7, g8, g9, g10, g11, g12⟩ := (show _ ∧ _ from h)
  clear h
  unfold cfg at HC ⊢
  rcases hn with hn | hn
  all_goals
    go_enter Try.func13, Try.ntmps13
    go_wp2_with (first
        | (go_at_call 9; (with_reducible refine (HC _).mono ?_); rintro e w1 ⟨rfl, hb1⟩; obtain ⟨hold, hbw, hold0, hbw0⟩ := after_call _ _ _ hb1; have c0 : w1.cell? ⟨w.heap.size, 0, none⟩ = some (.int .i64 n) := cell_of_row _ _ 0 _ _ _ hold0))
    go_ret2
    exact ⟨rfl, hbw0⟩

set_option maxRecDepth 10000 in
set_option maxHeartbeats 4000000 in
theorem refEsis_late (n u r c t s node k rd : Int) (w : World) (h : Good n u r c t s) (hk : 1 ≤ k ∧ k ≤ 32) (hn : 0 ≤ node ∧ node < n) (hr : rd < 0 ∨ 100000 < rd) :
    Calls Try.prog 13 #[cfg n u r c t s, .int .i64 node, .int .i64 k, .int .i64 rd] w fun x w' => x = .returned (.tuple #[.slice none 0 0, .int .i64 40]) ∧ Below w.heap.size w w' := by
  have HC := fun w => refShare_good n u r c t s k w h hk
  obtain ⟨g0, g1, g2, g3, g4, g5, g6, g7, g8, g9, g10, g11, g12⟩ := (show _ ∧ _ from h)
  clear h
  obtain ⟨n0, n1⟩ := hn
  unfold cfg at HC ⊢
  rcases hr with hr | hr
  all_goals
    go_enter Try.func13, Try.ntmps13
    go_wp2_with (first
        | (go_at_call 9; (with_reducible refine (HC _).mono ?_); rintro e w1 ⟨rfl, hb1⟩; obtain ⟨hold, hbw, hold0, hbw0⟩ := after_call _ _ _ hb1; have c0 : w1.cell? ⟨w.heap.size, 0, none⟩ = some (.int .i64 n) := cell_of_row _ _ 0 _ _ _ hold0))
    go_ret2
    exact ⟨rfl, hbw0⟩

set_option maxRecDepth 10000 in
set_option maxHeartbeats 4000000 in
theorem refEsis_in (n u r c t s node k rd : Int) (q : Nat) (w : World) (h : Good n u r c t s) (hqd : (q : Int) = shr n u r k) (hk : 1 ≤ k ∧ k ≤ 32) (hn : 0 ≤ node ∧ node < n) (hr : 0 ≤ rd ∧ rd ≤ 100000) :
    Calls Try.prog 13 #[cfg n u r c t s, .int .i64 node, .int .i64 k, .int .i64 rd] w fun x w' => Below w.heap.size w w' ∧
      ((16777216 ≤ node + n * ((q : Int) * (rd + 1) - 1) ∧ x = .returned (.tuple #[.slice none 0 0, .int .i64 40])) ∨
       (node + n * ((q : Int) * (rd + 1) - 1) < 16777216 ∧ ∃ ad cap, x = .returned (.tuple #[.slice ad q cap, .int .i64 0]) ∧ IntsV w' (ad, q, cap) (esisL node n q rd q))) := by
  obtain ⟨i0, hi, hz0, hz1, hz2⟩ := info_partsI Try.infoInt
  have HC := fun w => refShare_good n u r c t s k w h hk
  have hq := shr_range h hk.1 hk.2
  obtain ⟨g0, g1, g2, g3, g4, g5, g6, g7, g8, g9, g10, g11, g12⟩ := (show _ ∧ _ from h)
  clear h
  rw [← hqd] at hq HC
  clear hqd
  obtain ⟨q0, q1⟩ := hq
  obtain ⟨n0, n1⟩ := hn
  obtain ⟨r0, r1⟩ := hr
  obtain ⟨z0, z1⟩ := mul_range (a := (q : Int)) (b := rd) (A := 33) (B := 100000) (by omega) q1 r0 r1
  have hlast : (q : Int) * (rd + 1) - 1 = (q : Int) * rd + ((q - 1 : Nat) : Int) := by
    rw [Int.mul_add, Int.mul_one]; omega
  rw [hlast]
  clear hlast
  unfold cfg at HC ⊢
  go_enter Try.func13, Try.ntmps13
  go_wp2_with (first
    | (go_at_call 9; (with_reducible refine (HC _).mono ?_); rintro e w1 ⟨rfl, hb1⟩; obtain ⟨hold, hbw, hold0, hbw0⟩ := after_call _ _ _ hb1; have c0 : w1.cell? ⟨w.heap.size, 0, none⟩ = some (.int .i64 n) := cell_of_row _ _ 0 _ _ _ hold0))
  have hlt : w.heap.size < w1.heap.size := (Array.getElem?_eq_some_iff.1 hold0).1
  have hown0 := World.ownsRow_made (base := w1.heap.size) (e := 3) (size := 1) w1 #[] 0 (Nat.le_refl _) (by simp [maxLen]) rfl
  clear hold hbw hb1 HC
  go_loopw [12, 13] (fun v i wr => ∃ k : Nat, k ≤ q ∧ i = .int .i64 k ∧ wr.ownsRow w1.heap.size 3 1 v k ((esisL node n q rd k).map iv) ∧ Hid (∀ j : Nat, j < k → node + n * ((q : Int) * rd + (j : Int)) < 16777216) ∧ Below w1.heap.size w1 wr) (fun _ i _ => (q - intOf i).toNat)
  case atStart => exact ⟨0, Nat.zero_le _, rfl, by simpa [esisL] using hown0, Lib.hid (fun j hj => absurd hj (by omega)), below_alloc _ _⟩
  case round =>
    obtain ⟨j, hj, rfl, hown, HF, hbr⟩ := hrel
    obtain ⟨ad, cap, rfl, hcase, _⟩ := ownsRow_parts hown
    have hbs := hbr.size
    have c1 : wr.cell? ⟨w.heap.size, 0, none⟩ = some (.int .i64 n) := (hbr.cell hlt).trans c0
    by_cases hjq : j < q
    · obtain ⟨v1, v2⟩ := mul_range (a := n) (b := (q : Int) * rd + (j : Int)) (A := 8) (B := 3300033) (by omega) g1 (by omega) (by omega)
      by_cases hv : node + n * ((q : Int) * rd + (j : Int)) < 16777216
      · go_wp2_with (first
          | (at_builtin; refine wpList_append_row rfl (.tmp 56) (.tmp 58) 29 rfl w1.heap.size 3 i0 (.int .i64 0) 8 Try.underlying29 hi hz0 hz1 hz2 rfl _ _ _ rfl (hown.alloc _) (some ⟨wr.heap.size, 0, Option.none⟩) 1 1 [iv (node + n * ((q : Int) * rd + (j : Int)))] rfl (rowV_lit _ _ _ _ _ _ rfl rfl rfl) (by intro h; cases h) (iv_one [node + n * ((q : Int) * rd + (j : Int))]) (by simp [maxLen]; omega) (by omega) (by simp; omega) ?_; intro v' w2 hown2 hgrow2 _))
        have hb2 := growI hbr _ hown hgrow2
        clear hgrow2
        go_wp2
        go_roundw
        case rel =>
          refine ⟨j + 1, by omega, by go_num, ?_, Lib.hid (fun i hi => ?_), hb2⟩
          · rw [esisL_step, List.map_append]
            exact hown2
          · by_cases e : i = j
            · subst e; exact hv
            · exact HF.out i (by omega)
        case measure => simp [intOf]; omega
      · have hfar : 16777216 ≤ node + n * ((q : Int) * rd + ((q - 1 : Nat) : Int)) := by
          have := Int.mul_le_mul_of_nonneg_left (show (q : Int) * rd + (j : Int) ≤ (q : Int) * rd + ((q - 1 : Nat) : Int) by omega) (show 0 ≤ n by omega)
          omega
        have HFAR := Lib.hid hfar
        clear hfar
        go_wp2
        go_ret2
        exact ⟨hbw0.trans (hbr.mono (Nat.le_of_lt hlt)), .inl ⟨HFAR.out, rfl⟩⟩
    · obtain rfl : j = q := by omega
      have hnear := HF.out (j - 1) (by omega)
      have HN := Lib.hid hnear
      clear hnear
      have hI := intsV_of_owns hown (by omega)
      have hbF := hbw0.trans (hbr.mono (Nat.le_of_lt hlt))
      go_wp2
      exact bodyPost_ret (v := .tuple #[.slice ad j cap, .int .i64 0]) (by simp [results, Try.results13, go_sem]) rfl ⟨hbF, .inr ⟨HN.out, ad, cap, rfl, hI⟩⟩
end Go.Proofs.Ythkpofopcnapdaa
