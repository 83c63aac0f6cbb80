/-
  place: the numbers of different nodes and rounds are different.
-/
import Derived.Test.YthkpofopcnapdaaPlN
import Derived.Maps.OwnSet
import Derived.WalkArith
namespace Go.Proofs.Ythkpofopcnapdaa
open Go.RowKit Go.Maps Go.ChangeMaps Go.MapKept

/-- how an element of the map is read: no more than that it is a struct of two numbers. -/
def tagElem (v : Value) : Option (DataW Unit × List MemPlace) :=
  match v with
  | .agg cs => (match cs.toList with | [.int .i64 _, .int .i64 _] => some (.agg [], []) | _ => none)
  | _ => none
theorem tagElem_mk (a b : Int) : tagElem (.agg #[.int .i64 a, .int .i64 b]) = some (.agg [], []) := rfl
theorem tagElem_inv {v : Value} {z : DataW Unit × List MemPlace} (h : tagElem v = some z) : ∃ a b, v = .agg #[.int .i64 a, .int .i64 b] := by
  unfold tagElem at h
  split at h
  · rename_i cs
    split at h
    · rename_i a b hc
      exact ⟨a, b, by rw [← hc]⟩
    · cases h
  · cases h

section
variable {P : Program} (w : World) {ops : Array Oper} {rest : List Oper} {o : Oper} {a : Act} {Q : Exit → Act → World → Prop}
theorem wpList_lookup_tag (hg : o.guard = none) (m x : Operand) (t : TypeId) (hop : o.op = Op.lookup t m x true)
    (k e : TypeId) (K : Keyed P k) (ht : P.underlying t = some (.map k e)) (hz : (zeroValue e).run P w = .ok (.agg #[.int .i64 0, .int .i64 0]) w) (b n : Nat) (D : DataW Unit)
    (hm : a.eval m = .map (some b)) (hown : w.ownsMap P k tagElem b n D) (key : Value) (kl : Lit) (hx : a.eval x = key) (hkey : keyOf P k key = some kl) (hno : Maps.has D kl = false)
    (hK : ∀ c d : Int, wpList P ops Q rest (a.put o.dst (.tuple #[.agg #[.int .i64 c, .int .i64 d], .bool false])) w) :
    wpList P ops Q (o :: rest) a w :=
  wpList_lookup_own_ok w hg m x t hop k e K ht tagElem hz (.agg []) [] (tagElem_mk 0 0) b n D hm hown key kl hx hkey (fun v ps hv => by
    obtain ⟨c, d, rfl⟩ := tagElem_inv hv
    rw [hno]
    exact hK c d)
end

theorem ownsMap_below {P : Program} {k : TypeId} {R : Value → Option (DataW Unit × List MemPlace)} {w w' : World} {b n : Nat} {D : DataW Unit} (h : w.ownsMap P k R b n D) (hb : Below w.heap.size w w') : w'.ownsMap P k R b n D := by
  obtain ⟨es, clock, h1, h2⟩ := h
  exact ⟨es, clock, beyond _ _ h1 hb, h2⟩

theorem law : Keyed Try.prog 3 := int_keyed Try.underlying3
theorem zeroTag (w : World) : (zeroValue 39).run Try.prog w = .ok (.agg #[.int .i64 0, .int .i64 0]) w := by kernel_rfl

/-- the number stands among those of the nodes and rounds ahead. -/
def Seen (n q r s : Int) (a j b : Nat) (z : Int) : Prop :=
  ∃ a' j' b' : Nat, (a' : Int) < n ∧ (b' : Int) < q ∧ (j' = 0 ∨ (j' = 1 ∧ r ≠ s)) ∧ (a' < a ∨ a' = a ∧ (j' < j ∨ j' = j ∧ b' < b)) ∧ z = (a' : Int) + n * (q * (if j' = 1 then s else r) + (b' : Int))
theorem seen_no {n q r s : Int} {a j b : Nat} (ha : (a : Int) < n) (hb : (b : Int) < q) (hj : j = 0 ∨ (j = 1 ∧ r ≠ s)) : ¬ Seen n q r s a j b ((a : Int) + n * (q * (if j = 1 then s else r) + (b : Int))) := by
  rintro ⟨a', j', b', h1, h2, h3, h4, h5⟩
  obtain ⟨e1, e2⟩ := digits ⟨by omega, ha⟩ ⟨by omega, h1⟩ h5
  obtain ⟨e3, e4⟩ := digits (n := q) (i := (b : Int)) (A := (b' : Int)) (X := if j = 1 then s else r) (Y := if j' = 1 then s else r) ⟨by omega, hb⟩ ⟨by omega, h2⟩ (by omega)
  rcases hj with rfl | ⟨rfl, hj⟩ <;> rcases h3 with rfl | ⟨rfl, h3⟩ <;> simp at e4 <;> omega
theorem seen_mono {n q r s : Int} {a j b a2 j2 b2 : Nat} {z : Int} (h : Seen n q r s a j b z) (hl : a < a2 ∨ a = a2 ∧ (j < j2 ∨ j = j2 ∧ b ≤ b2)) : Seen n q r s a2 j2 b2 z := by
  obtain ⟨a', j', b', h1, h2, h3, h4, h5⟩ := h
  exact ⟨a', j', b', h1, h2, h3, by omega, h5⟩
theorem seen_new {n q r s : Int} {a j b : Nat} (ha : (a : Int) < n) (hb : (b : Int) < q) (hj : j = 0 ∨ (j = 1 ∧ r ≠ s)) : Seen n q r s a j (b + 1) ((a : Int) + n * (q * (if j = 1 then s else r) + (b : Int))) :=
  ⟨a, j, b, ha, hb, hj, by omega, rfl⟩
theorem has_step {D : DataW Unit} {z : Int} {d : DataW Unit} {S : Int → Prop} {S' : Int → Prop} (h : ∀ y, Maps.has D (.int .i64 y) = true → S y) (hm : ∀ y, S y → S' y) (hz : S' z) : ∀ y, Maps.has (D.put (.int .i64 z) d) (.int .i64 y) = true → S' y := by
  intro y hy
  by_cases e : y = z
  · exact e ▸ hz
  · rw [has_put_other (by intro h; cases h; exact e rfl)] at hy
    exact hm y (h y hy)

theorem grown_below {w w' : World} {B b : Nat} (h : w.grownBy w' (some b)) (hb : B ≤ b) (hw : B ≤ w.heap.size) : Below B w w' := ⟨h.os, h.tape, h.output, h.size, fun i hi => h.block i (by omega) (by intro e; cases e; omega)⟩

theorem step_world {w2 wr w4 : World} {o x : Obj} {g m : Nat} (h : (wr.alloc o).grownBy w4 (some m)) (hg : wr.heap[g]? = some x) (hne : m < g) (hb : Below m w2 wr) (hm : m ≤ wr.heap.size) : w4.heap[g]? = some x ∧ Below m w2 w4 := by
  have hlt : g < wr.heap.size := (Array.getElem?_eq_some_iff.1 hg).1
  refine ⟨?_, (hb.alloc hm o).trans (grown_below h (Nat.le_refl _) (by simp; omega))⟩
  rw [h.block g (by simp; omega) (by intro e; cases e; omega)]
  exact (heap_alloc_old wr o hlt).trans hg

set_option maxRecDepth 10000 in
set_option maxHeartbeats 4000000 in
theorem apart_bad (n u rd c t sl k r s : Int) (w : World) (h : ¬ (Good n u rd c t sl ∧ 1 ≤ k ∧ k ≤ 32 ∧ 0 ≤ r ∧ 0 ≤ s ∧ r ≤ 1000 ∧ s ≤ 1000)) (hu : -9223372036854775808 ≤ u ∧ u ≤ 9223372036854775807) (hr : -9223372036854775808 ≤ rd ∧ rd ≤ 9223372036854775807) :
    Calls Try.prog 5 #[cfg n u rd c t sl, .int .i64 k, .int .i64 r, .int .i64 s] w fun x w' => x = .returned (.bool true) ∧ Below w.heap.size w w' := by
  have KA := alive_any
  have HC := fun w => check_any n u rd c t sl w hu hr
  unfold cfg at HC ⊢
  by_cases hg : Good n u rd c t sl
  · rw [chk_good hg] at HC
    have hh : ¬ (1 ≤ k ∧ k ≤ 32 ∧ 0 ≤ r ∧ 0 ≤ s ∧ r ≤ 1000 ∧ s ≤ 1000) := fun a => h ⟨hg, a⟩
    clear hg h
    by_cases a0 : 1 ≤ k
    rotate_left 1
    · have b0 : k < 1 := by omega
      clear a0 hh
      go_enter Try.func5, Try.ntmps5
      go_wp2_with (first
        | (go_at_call 7; (with_reducible refine (KA _).mono ?_); rintro e w1 ⟨rfl, hb1⟩; obtain ⟨hold1, hbw1, hold01, hbw01⟩ := after_call _ _ _ hb1; obtain ⟨c0, c1, c2, c3, c4, c5⟩ := cells6 hold01)
        | (go_at_call 10; (with_reducible refine (HC _).mono ?_); rintro e w2 ⟨rfl, hb2⟩))
      go_ret
      exact ⟨rfl, trans_below hbw01 hb2 hbw01.size⟩
    by_cases a1 : k ≤ 32
    rotate_left 1
    · have b1 : 32 < k := by omega
      clear a1 hh
      go_enter Try.func5, Try.ntmps5
      go_wp2_with (first
        | (go_at_call 7; (with_reducible refine (KA _).mono ?_); rintro e w1 ⟨rfl, hb1⟩; obtain ⟨hold1, hbw1, hold01, hbw01⟩ := after_call _ _ _ hb1; obtain ⟨c0, c1, c2, c3, c4, c5⟩ := cells6 hold01)
        | (go_at_call 10; (with_reducible refine (HC _).mono ?_); rintro e w2 ⟨rfl, hb2⟩))
      go_ret
      exact ⟨rfl, trans_below hbw01 hb2 hbw01.size⟩
    by_cases a2 : 0 ≤ r
    rotate_left 1
    · have b2 : r < 0 := by omega
      clear a2 hh
      go_enter Try.func5, Try.ntmps5
      go_wp2_with (first
        | (go_at_call 7; (with_reducible refine (KA _).mono ?_); rintro e w1 ⟨rfl, hb1⟩; obtain ⟨hold1, hbw1, hold01, hbw01⟩ := after_call _ _ _ hb1; obtain ⟨c0, c1, c2, c3, c4, c5⟩ := cells6 hold01)
        | (go_at_call 10; (with_reducible refine (HC _).mono ?_); rintro e w2 ⟨rfl, hb2⟩))
      go_ret
      exact ⟨rfl, trans_below hbw01 hb2 hbw01.size⟩
    by_cases a3 : 0 ≤ s
    rotate_left 1
    · have b3 : s < 0 := by omega
      clear a3 hh
      go_enter Try.func5, Try.ntmps5
      go_wp2_with (first
        | (go_at_call 7; (with_reducible refine (KA _).mono ?_); rintro e w1 ⟨rfl, hb1⟩; obtain ⟨hold1, hbw1, hold01, hbw01⟩ := after_call _ _ _ hb1; obtain ⟨c0, c1, c2, c3, c4, c5⟩ := cells6 hold01)
        | (go_at_call 10; (with_reducible refine (HC _).mono ?_); rintro e w2 ⟨rfl, hb2⟩))
      go_ret
      exact ⟨rfl, trans_below hbw01 hb2 hbw01.size⟩
    by_cases a4 : r ≤ 1000
    rotate_left 1
    · have b4 : 1000 < r := by omega
      clear a4 hh
      go_enter Try.func5, Try.ntmps5
      go_wp2_with (first
        | (go_at_call 7; (with_reducible refine (KA _).mono ?_); rintro e w1 ⟨rfl, hb1⟩; obtain ⟨hold1, hbw1, hold01, hbw01⟩ := after_call _ _ _ hb1; obtain ⟨c0, c1, c2, c3, c4, c5⟩ := cells6 hold01)
        | (go_at_call 10; (with_reducible refine (HC _).mono ?_); rintro e w2 ⟨rfl, hb2⟩))
      go_ret
      exact ⟨rfl, trans_below hbw01 hb2 hbw01.size⟩
    by_cases a5 : s ≤ 1000
    rotate_left 1
    · have b5 : 1000 < s := by omega
      clear a5 hh
      go_enter Try.func5, Try.ntmps5
      go_wp2_with (first
        | (go_at_call 7; (with_reducible refine (KA _).mono ?_); rintro e w1 ⟨rfl, hb1⟩; obtain ⟨hold1, hbw1, hold01, hbw01⟩ := after_call _ _ _ hb1; obtain ⟨c0, c1, c2, c3, c4, c5⟩ := cells6 hold01)
        | (go_at_call 10; (with_reducible refine (HC _).mono ?_); rintro e w2 ⟨rfl, hb2⟩))
      go_ret
      exact ⟨rfl, trans_below hbw01 hb2 hbw01.size⟩
    omega
  · rw [chk_bad hg] at HC
    clear hg h
    go_enter Try.func5, Try.ntmps5
    go_wp2_with (first
      | (go_at_call 7; (with_reducible refine (KA _).mono ?_); rintro e w1 ⟨rfl, hb1⟩; obtain ⟨hold1, hbw1, hold01, hbw01⟩ := after_call _ _ _ hb1; obtain ⟨c0, c1, c2, c3, c4, c5⟩ := cells6 hold01)
      | (go_at_call 10; (with_reducible refine (HC _).mono ?_); rintro e w2 ⟨rfl, hb2⟩))
    go_ret
    exact ⟨rfl, trans_below hbw01 hb2 hbw01.size⟩

set_option maxRecDepth 10000 in
set_option maxHeartbeats 4000000 in
theorem apart_good (n u rd c t sl k r s : Int) (q : Nat) (w : World) (h : Good n u rd c t sl) (hqd : (q : Int) = shr n u rd k) (k0 : 1 ≤ k) (k1 : k ≤ 32) (r0 : 0 ≤ r) (s0 : 0 ≤ s) (r1 : r ≤ 1000) (s1 : s ≤ 1000) :
    Calls Try.prog 5 #[cfg n u rd c t sl, .int .i64 k, .int .i64 r, .int .i64 s] w fun x w' => x = .returned (.bool true) ∧ Below w.heap.size w w' := by
  have KA := alive_any
  obtain ⟨s4, s5⟩ := shr_range h k0 k1
  obtain ⟨g0, g1, g2, g3, g4, g5, g6, g7, g8, g9, g10, g11, g12⟩ := (show _ ∧ _ from h)
  have HC := fun w => check_any n u rd c t sl w ⟨by omega, by omega⟩ ⟨by omega, by omega⟩
  rw [chk_good h] at HC
  rw [← hqd] at s4 s5
  have hmm := @run_makeMap Try.prog
  have HQD := Lib.hid hqd
  clear hqd
  have H := Lib.hid h
  clear h
  unfold cfg at HC ⊢
  go_enter Try.func5, Try.ntmps5
  go_wp2_with (first
    | (go_at_call 7; (with_reducible refine (KA _).mono ?_); rintro e w1 ⟨rfl, hb1⟩; obtain ⟨hold1, hbw1, hold01, hbw01⟩ := after_call _ _ _ hb1; obtain ⟨c0, c1, c2, c3, c4, c5⟩ := cells6 hold01)
    | (go_at_call 10; (with_reducible refine (HC _).mono ?_); rintro e w2 ⟨rfl, hb2⟩))
  have hold02 := beyond _ _ hold01 hb2
  have hbw02 := trans_below hbw01 hb2 hbw01.size
  have hlt2 : w.heap.size < w2.heap.size := (Array.getElem?_eq_some_iff.1 hold02).1
  clear hb1 hold1 hbw1 hold01 c0 c1 c2 c3 c4 c5 hb2 KA HC
  go_loopw [10] (fun i wr => ∃ a : Nat, (a : Int) ≤ n ∧ i = .int .i64 a ∧ (∃ D : DataW Unit, wr.ownsMap Try.prog 3 tagElem w2.heap.size (a * 66) D ∧ ∀ y, Maps.has D (.int .i64 y) = true → Seen n q r s a 0 0 y) ∧ Below w2.heap.size w2 wr) (fun i _ => n.toNat - (intOf i).toNat)
  case atStart => exact ⟨0, by omega, rfl, ⟨_, World.ownsMap_made _ _ _ _, fun y hy => by cases hy⟩, (Below.refl _ _).alloc (Nat.le_refl _) _⟩
  case round =>
    obtain ⟨a, ha, rfl, ⟨D, hown, hseen⟩, hbr⟩ := hrel
    have holdr := beyond _ _ hold02 hbr
    obtain ⟨c0, c1, c2, c3, c4, c5⟩ := cells6 holdr
    by_cases hlt : (a : Int) < n
    · have HOWN := Lib.hid hown
      have HSEEN := Lib.hid hseen
      clear hown hseen
      go_wp2
      go_loopw [11] (fun i wr => ∃ j : Nat, j ≤ 2 ∧ i = .int .i64 j ∧ (∃ D : DataW Unit, wr.ownsMap Try.prog 3 tagElem w2.heap.size (a * 66 + j * 33) D ∧ ∀ y, Maps.has D (.int .i64 y) = true → Seen n q r s a j 0 y) ∧ Below w2.heap.size w2 wr) (fun i _ => 2 - (intOf i).toNat)
      case atStart => exact ⟨0, by omega, rfl, ⟨D, HOWN.out, HSEEN.out⟩, hbr⟩
      case round =>
        clear HOWN HSEEN hbr holdr c0 c1 c2 c3 c4 c5
        obtain ⟨j, hj, rfl, ⟨D2, hown, hseen⟩, hbr2⟩ := hrel
        have HOWN := Lib.hid hown
        have HSEEN := Lib.hid hseen
        clear hown hseen
        have holdr2 := beyond _ _ hold02 hbr2
        obtain ⟨d0, d1, d2, d3, d4, d5⟩ := cells6 holdr2
        have hj3 : j = 0 ∨ j = 1 ∨ j = 2 := by omega
        rcases hj3 with rfl | rfl | rfl
        · obtain ⟨x0, x1⟩ := mul_range (a := (q : Int)) (b := r + 1) (A := 33) (B := 1001) (by omega) s5 (by omega) (by omega)
          have x2 : 1 ≤ (q : Int) * (r + 1) := by
            have := Int.mul_le_mul (show 1 ≤ (q : Int) by omega) (show 1 ≤ r + 1 by omega) (by omega) (by omega)
            omega
          obtain ⟨y0, y1⟩ := mul_range (a := n) (b := (q : Int) * (r + 1) - 1) (A := 8) (B := 33033) (by omega) g1 (by omega) (by omega)
          have HE := fun w => esis_good n u rd c t sl a k r q w H.out HQD.out ⟨k0, k1⟩ ⟨by omega, hlt⟩ ⟨by omega, by omega⟩ (by rw [← HQD.out]; omega)
          clear x0 x1 x2 y0 y1
          unfold cfg at HE
          go_wp2_with (first
            | (go_at_call 12; (with_reducible refine (HE _).mono ?_); rintro x w3 ⟨g, rfl, hg, ⟨cur, hg1, hg2, hg3⟩, hb3⟩))
          have hown3 := ownsMap_below HOWN.out hb3
          have hb03 := hbr2.trans (hb3.mono hbr2.size)
          have hmlt : w2.heap.size < wr.heap.size := HOWN.out.lt
          have HSEEN1 := HSEEN
          have HG1 := Lib.hid hg1
          have HG3 := Lib.hid hg3
          have HOWN3 := Lib.hid hown3
          clear hg1 hg3 hown3 HE HSEEN HOWN d0 d1 d2 d3 d4 d5 holdr2 hb3 hg2
          go_loopw [15] (fun i wr => ∃ b : Nat, b ≤ q ∧ i = .int .i64 b ∧ (∃ D : DataW Unit, Hid (wr.ownsMap Try.prog 3 tagElem w2.heap.size (a * 66 + 0 * 33 + b) D) ∧ Hid (∀ y, Maps.has D (.int .i64 y) = true → Seen n q r s a 0 b y)) ∧ Hid (wr.heap[g]? = some (.cells cur 3 (0, 0))) ∧ Below w2.heap.size w2 wr) (fun i _ => q - (intOf i).toNat)
          case atStart => exact ⟨0, Nat.zero_le _, rfl, ⟨_, HOWN3, HSEEN1⟩, HG1, hb03⟩
          case round =>
            clear HOWN3 HSEEN1 HG1
            obtain ⟨b, hb, rfl, ⟨D3, HOWN, HSEEN⟩, HG1, hbr3⟩ := hrel
            by_cases hbq : b < q
            · obtain ⟨v, hv⟩ : ∃ v, v = (a : Int) + n * ((q : Int) * r + (b : Int)) := ⟨_, rfl⟩
              have cv : wr.cell? ⟨g, b, none⟩ = some (.int .i64 v) := by rw [cell_of_row _ _ _ _ _ _ HG1.out, HG3.out b hbq, hv]
              obtain ⟨x0, x1⟩ := mul_range (a := (q : Int)) (b := r) (A := 33) (B := 1000) (by omega) s5 (by omega) (by omega)
              obtain ⟨y0, y1⟩ := mul_range (a := n) (b := (q : Int) * r + (b : Int)) (A := 8) (B := 33033) (by omega) g1 (by omega) (by omega)
              have hkey : keyOf Try.prog 3 (.int .i64 v) = some (.int .i64 v) := keyOf_int_mk Try.underlying3 (WalkArith.wf_i64 (by omega))
              clear x0 x1 y0 y1
              have hno : Maps.has D3 (.int .i64 v) = false := by
                cases hh : Maps.has D3 (.int .i64 v)
                · rfl
                · exfalso
                  have := HSEEN.out v hh
                  rw [hv] at this
                  exact seen_no (n := n) (q := (q : Int)) (r := r) (s := s) (a := a) (j := 0) (b := b) hlt (by omega) (by exact Or.inl rfl) this
              have hnew : Seen n q r s a 0 (b + 1) v := by
                rw [hv]
                exact seen_new (n := n) (q := (q : Int)) (r := r) (s := s) (a := a) (j := 0) (b := b) hlt (by omega) (by exact Or.inl rfl)
              have HNEW := Lib.hid hnew
              have hwlt : w2.heap.size < wr.heap.size := HOWN.out.lt
              have hglt : g < wr.heap.size := (Array.getElem?_eq_some_iff.1 HG1.out).1
              clear hv hnew
              go_wp2_with (first
                | (at_lookup; refine wpList_lookup_tag _ rfl _ _ 37 rfl 3 39 law Try.underlying37 (zeroTag _) w2.heap.size _ D3 rfl HOWN.out _ _ rfl hkey hno ?_; intro e1 e2)
                | (at_mapUpdate; refine wpList_mapUpdate_own _ rfl _ _ _ 37 rfl 3 39 law Try.underlying37 tagElem w2.heap.size (a * 66 + 0 * 33 + b) D3 rfl (HOWN.out.alloc _) (by unfold maxLen; omega) _ _ _ rfl rfl hkey _ [] (tagElem_mk _ _) ?_; intro w4 hown4 hgrow4))
              have hw4 := step_world hgrow4 HG1.out (Nat.lt_of_lt_of_le hmlt hg) hbr3 (Nat.le_of_lt hwlt)
              go_roundw
              case rel => exact ⟨b + 1, by omega, by go_num, ⟨_, Lib.hid hown4, Lib.hid (has_step HSEEN.out (fun y h => seen_mono h (by omega)) HNEW.out)⟩, Lib.hid hw4.1, hw4.2⟩
              case measure => simp [intOf]; omega
            · obtain rfl : b = q := by omega
              go_wp2
              go_roundw
              case rel => exact ⟨0 + 1, by omega, by go_num, ⟨D3, HOWN.out.mono (by omega), fun y hy => seen_mono (HSEEN.out y hy) (by omega)⟩, hbr3⟩
              case measure => simp [intOf]
        · by_cases hrs : r = s
          · subst hrs
            go_wp2
            go_roundw
            case rel => exact ⟨2, by omega, rfl, ⟨D2, HOWN.out.mono (by omega), fun y hy => seen_mono (HSEEN.out y hy) (by omega)⟩, hbr2⟩
            case measure => simp [intOf]
          · have hrs' : (r == s) = false := by simpa using hrs
            obtain ⟨x0, x1⟩ := mul_range (a := (q : Int)) (b := s + 1) (A := 33) (B := 1001) (by omega) s5 (by omega) (by omega)
            have x2 : 1 ≤ (q : Int) * (s + 1) := by
              have := Int.mul_le_mul (show 1 ≤ (q : Int) by omega) (show 1 ≤ s + 1 by omega) (by omega) (by omega)
              omega
            obtain ⟨y0, y1⟩ := mul_range (a := n) (b := (q : Int) * (s + 1) - 1) (A := 8) (B := 33033) (by omega) g1 (by omega) (by omega)
            have HE := fun w => esis_good n u rd c t sl a k s q w H.out HQD.out ⟨k0, k1⟩ ⟨by omega, hlt⟩ ⟨by omega, by omega⟩ (by rw [← HQD.out]; omega)
            clear x0 x1 x2 y0 y1
            unfold cfg at HE
            go_wp2_with (first
              | (go_at_call 12; (with_reducible refine (HE _).mono ?_); rintro x w3 ⟨g, rfl, hg, ⟨cur, hg1, hg2, hg3⟩, hb3⟩))
            have hown3 := ownsMap_below HOWN.out hb3
            have hb03 := hbr2.trans (hb3.mono hbr2.size)
            have hmlt : w2.heap.size < wr.heap.size := HOWN.out.lt
            have HSEEN1 := HSEEN
            have HG1 := Lib.hid hg1
            have HG3 := Lib.hid hg3
            have HOWN3 := Lib.hid hown3
            clear hg1 hg3 hown3 HE HSEEN HOWN d0 d1 d2 d3 d4 d5 holdr2 hb3 hg2
            go_loopw [15] (fun i wr => ∃ b : Nat, b ≤ q ∧ i = .int .i64 b ∧ (∃ D : DataW Unit, Hid (wr.ownsMap Try.prog 3 tagElem w2.heap.size (a * 66 + 1 * 33 + b) D) ∧ Hid (∀ y, Maps.has D (.int .i64 y) = true → Seen n q r s a 1 b y)) ∧ Hid (wr.heap[g]? = some (.cells cur 3 (0, 0))) ∧ Below w2.heap.size w2 wr) (fun i _ => q - (intOf i).toNat)
            case atStart => exact ⟨0, Nat.zero_le _, rfl, ⟨_, HOWN3, HSEEN1⟩, HG1, hb03⟩
            case round =>
              clear HOWN3 HSEEN1 HG1
              obtain ⟨b, hb, rfl, ⟨D3, HOWN, HSEEN⟩, HG1, hbr3⟩ := hrel
              by_cases hbq : b < q
              · obtain ⟨v, hv⟩ : ∃ v, v = (a : Int) + n * ((q : Int) * s + (b : Int)) := ⟨_, rfl⟩
                have cv : wr.cell? ⟨g, b, none⟩ = some (.int .i64 v) := by rw [cell_of_row _ _ _ _ _ _ HG1.out, HG3.out b hbq, hv]
                obtain ⟨x0, x1⟩ := mul_range (a := (q : Int)) (b := s) (A := 33) (B := 1000) (by omega) s5 (by omega) (by omega)
                obtain ⟨y0, y1⟩ := mul_range (a := n) (b := (q : Int) * s + (b : Int)) (A := 8) (B := 33033) (by omega) g1 (by omega) (by omega)
                have hkey : keyOf Try.prog 3 (.int .i64 v) = some (.int .i64 v) := keyOf_int_mk Try.underlying3 (WalkArith.wf_i64 (by omega))
                clear x0 x1 y0 y1
                have hno : Maps.has D3 (.int .i64 v) = false := by
                  cases hh : Maps.has D3 (.int .i64 v)
                  · rfl
                  · exfalso
                    have := HSEEN.out v hh
                    rw [hv] at this
                    exact seen_no (n := n) (q := (q : Int)) (r := r) (s := s) (a := a) (j := 1) (b := b) hlt (by omega) (by exact Or.inr ⟨rfl, hrs⟩) this
                have hnew : Seen n q r s a 1 (b + 1) v := by
                  rw [hv]
                  exact seen_new (n := n) (q := (q : Int)) (r := r) (s := s) (a := a) (j := 1) (b := b) hlt (by omega) (by exact Or.inr ⟨rfl, hrs⟩)
                have HNEW := Lib.hid hnew
                have hwlt : w2.heap.size < wr.heap.size := HOWN.out.lt
                have hglt : g < wr.heap.size := (Array.getElem?_eq_some_iff.1 HG1.out).1
                clear hv hnew
                go_wp2_with (first
                  | (at_lookup; refine wpList_lookup_tag _ rfl _ _ 37 rfl 3 39 law Try.underlying37 (zeroTag _) w2.heap.size _ D3 rfl HOWN.out _ _ rfl hkey hno ?_; intro e1 e2)
                  | (at_mapUpdate; refine wpList_mapUpdate_own _ rfl _ _ _ 37 rfl 3 39 law Try.underlying37 tagElem w2.heap.size (a * 66 + 1 * 33 + b) D3 rfl (HOWN.out.alloc _) (by unfold maxLen; omega) _ _ _ rfl rfl hkey _ [] (tagElem_mk _ _) ?_; intro w4 hown4 hgrow4))
                have hw4 := step_world hgrow4 HG1.out (Nat.lt_of_lt_of_le hmlt hg) hbr3 (Nat.le_of_lt hwlt)
                go_roundw
                case rel => exact ⟨b + 1, by omega, by go_num, ⟨_, Lib.hid hown4, Lib.hid (has_step HSEEN.out (fun y h => seen_mono h (by omega)) HNEW.out)⟩, Lib.hid hw4.1, hw4.2⟩
                case measure => simp [intOf]; omega
              · obtain rfl : b = q := by omega
                go_wp2
                go_roundw
                case rel => exact ⟨1 + 1, by omega, by go_num, ⟨D3, HOWN.out.mono (by omega), fun y hy => seen_mono (HSEEN.out y hy) (by omega)⟩, hbr3⟩
                case measure => simp [intOf]
        · go_wp2
          go_roundw
          case rel => exact ⟨a + 1, by omega, by go_num, ⟨D2, HOWN.out.mono (by omega), fun y hy => seen_mono (HSEEN.out y hy) (by omega)⟩, hbr2⟩
          case measure => simp [intOf]; omega
    · obtain rfl : (a : Int) = n := by omega
      go_wp2
      go_ret
      exact ⟨rfl, trans_below hbw02 hbr hbw02.size⟩
theorem placeApart_walk (n u rd c t sl k r s : Int) (w : World) (_w0 : (Lit.int .i64 n).wf = true) (w1 : (Lit.int .i64 u).wf = true) (w2 : (Lit.int .i64 rd).wf = true) (_w3 : (Lit.int .i64 c).wf = true) (_w4 : (Lit.int .i64 t).wf = true) (_w5 : (Lit.int .i64 sl).wf = true) (_w6 : (Lit.int .i64 k).wf = true) (_w7 : (Lit.int .i64 r).wf = true) (_w8 : (Lit.int .i64 s).wf = true) :
    Calls Try.prog 5 #[.agg #[.int .i64 n, .int .i64 u, .int .i64 rd, .int .i64 c, .int .i64 t, .int .i64 sl], .int .i64 k, .int .i64 r, .int .i64 s] w fun x w' => x = .returned (.bool true) ∧ Below w.heap.size w w' := by
  change Calls _ _ #[cfg n u rd c t sl, _, _, _] _ _
  by_cases h : Good n u rd c t sl ∧ 1 ≤ k ∧ k ≤ 32 ∧ 0 ≤ r ∧ 0 ≤ s ∧ r ≤ 1000 ∧ s ≤ 1000
  · obtain ⟨hg, k0, k1, r0, s0, r1, s1⟩ := h
    obtain ⟨s4, _⟩ := shr_range hg k0 k1
    exact apart_good n u rd c t sl k r s (shr n u rd k).toNat w hg (by omega) k0 k1 r0 s0 r1 s1
  · exact apart_bad n u rd c t sl k r s w h (wf_i64 w1) (wf_i64 w2)
end Go.Proofs.Ythkpofopcnapdaa
