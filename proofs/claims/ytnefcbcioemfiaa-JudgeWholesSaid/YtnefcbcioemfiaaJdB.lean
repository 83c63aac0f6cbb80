/-
  Acts in memory, and what is asked of one or two of them.
-/
import Derived.Test.YtnefcbcioemfiaaJdA
import Derived.Test.YtnefcbcioemfiaaUseI
import Derived.Test.YtnefcbcioemfiaaUse2
namespace Go.Proofs.Ytnefcbcioemfiaa
open Go.RowKit

abbrev SH3 : Type := Option Addr × Nat × Nat
abbrev ActT : TypeId := 45
abbrev ActC (A : ActR) (x y z : SH3) : Array Value := #[.int .i64 A.cl, .int .i64 A.d, .int .i64 A.st, .int .i64 A.en, .string A.key, .slice x.1 x.2.1 x.2.2, .int .i64 A.rop, .int .i64 A.rdo, .string A.rkey, .slice y.1 y.2.1 y.2.2, .int .i64 A.tn, .int .i64 A.tc, .int .i64 A.code, .bool A.found, .slice z.1 z.2.1 z.2.2]
/-- a slice of strings. -/
structure TxV (w : World) (x : SH3) (l : List ByteArray) : Prop where
  row : RowV w x.1 x.2.1 (l.map Value.string)
  small : x.2.1 * 16 ≤ 140737488355328
  cap : x.2.1 ≤ x.2.2
  nil : x.1 = none → x.2.2 = 0
theorem TxV.below {w w' : World} {x : SH3} {l : List ByteArray} (h : TxV w x l) (hb : Below w.heap.size w w') : TxV w' x l := ⟨h.row.below hb, h.small, h.cap, h.nil⟩
theorem TxV.length {w : World} {x : SH3} {l : List ByteArray} (h : TxV w x l) : l.length = x.2.1 := by have := h.row.1; simpa using this
theorem cellBelow {w w' : World} {b o : Nat} {v : Value} (h : w.cell? ⟨b, o, none⟩ = some v) (hb : Below w.heap.size w w') : w'.cell? ⟨b, o, none⟩ = some v := by
  rw [← h]
  exact hb.cell (p := ⟨b, o, none⟩) (World.block_lt_of_cell? w ⟨b, o, none⟩ h)
/-- what an act's slices hold. -/
structure ActS (w : World) (A : ActR) (x y z : SH3) : Prop where
  v : BytesV w x A.val
  r : BytesV w y A.rval
  k : TxV w z A.keys
theorem ActS.below {w w' : World} {A : ActR} {x y z : SH3} (h : ActS w A x y z) (hb : Below w.heap.size w w') : ActS w' A x y z := ⟨h.v.below hb, h.r.below hb, h.k.below hb⟩
/-- an act in memory: fifteen cells. -/
structure ActAt (w : World) (b o : Nat) (A : ActR) (x y z : SH3) : Prop where
  c0 : w.cell? ⟨b, o, none⟩ = some (.int .i64 A.cl)
  c1 : w.cell? ⟨b, o + 1, none⟩ = some (.int .i64 A.d)
  c2 : w.cell? ⟨b, o + 2, none⟩ = some (.int .i64 A.st)
  c3 : w.cell? ⟨b, o + 3, none⟩ = some (.int .i64 A.en)
  c4 : w.cell? ⟨b, o + 4, none⟩ = some (.string A.key)
  c5 : w.cell? ⟨b, o + 5, none⟩ = some (.slice x.1 x.2.1 x.2.2)
  c6 : w.cell? ⟨b, o + 6, none⟩ = some (.int .i64 A.rop)
  c7 : w.cell? ⟨b, o + 7, none⟩ = some (.int .i64 A.rdo)
  c8 : w.cell? ⟨b, o + 8, none⟩ = some (.string A.rkey)
  c9 : w.cell? ⟨b, o + 9, none⟩ = some (.slice y.1 y.2.1 y.2.2)
  ca : w.cell? ⟨b, o + 10, none⟩ = some (.int .i64 A.tn)
  cb : w.cell? ⟨b, o + 11, none⟩ = some (.int .i64 A.tc)
  cc : w.cell? ⟨b, o + 12, none⟩ = some (.int .i64 A.code)
  cd : w.cell? ⟨b, o + 13, none⟩ = some (.bool A.found)
  ce : w.cell? ⟨b, o + 14, none⟩ = some (.slice z.1 z.2.1 z.2.2)
  s : ActS w A x y z
theorem ActAt.below {w w' : World} {b o : Nat} {A : ActR} {x y z : SH3} (h : ActAt w b o A x y z) (hb : Below w.heap.size w w') : ActAt w' b o A x y z :=
  ⟨cellBelow h.c0 hb, cellBelow h.c1 hb, cellBelow h.c2 hb, cellBelow h.c3 hb, cellBelow h.c4 hb, cellBelow h.c5 hb, cellBelow h.c6 hb, cellBelow h.c7 hb, cellBelow h.c8 hb, cellBelow h.c9 hb, cellBelow h.ca hb, cellBelow h.cb hb, cellBelow h.cc hb, cellBelow h.cd hb, cellBelow h.ce hb, h.s.below hb⟩
structure ActsV (w : World) (a : Option Addr) (n : Nat) (As : List ActR) : Prop where
  len : As.length = n
  ex : ∃ X : Nat → SH3 × SH3 × SH3, 0 < n → ∃ b o, a = some ⟨b, o, none⟩ ∧ b < w.heap.size ∧ ∀ i A, As[i]? = some A → ActAt w b (o + i * 15) A (X i).1 (X i).2.1 (X i).2.2
theorem ActsV.below {w w' : World} {a : Option Addr} {n : Nat} {As : List ActR} (h : ActsV w a n As) (hb : Below w.heap.size w w') : ActsV w' a n As := by
  obtain ⟨h1, X, hx⟩ := h
  refine ⟨h1, X, fun h0 => ?_⟩
  obtain ⟨b, o, e, hl, hc⟩ := hx h0
  exact ⟨b, o, e, Nat.lt_of_lt_of_le hl hb.size, fun i it hi => (hc i it hi).below hb⟩
theorem ActsV.at {w : World} {a : Option Addr} {n i : Nat} {As : List ActR} (h : ActsV w a n As) (hi : i < n) : ∃ b o A x y z, a = some ⟨b, o, none⟩ ∧ As[i]? = some A ∧ As.getD i dAct = A ∧ ActAt w b (o + i * 15) A x y z := by
  obtain ⟨h1, X, hx⟩ := h
  obtain ⟨b, o, e, hl, hc⟩ := hx (by omega)
  have hit : As[i]? = some As[i] := List.getElem?_eq_getElem (by omega)
  exact ⟨b, o, _, _, _, _, e, hit, by rw [List.getD_eq_getElem?_getD, hit]; rfl, hc i _ hit⟩

theorem cells15 {w : World} {b : Nat} {v0 v1 v2 v3 v4 v5 v6 v7 v8 v9 v10 v11 v12 v13 v14 : Value} {T : TypeId} (h : w.heap[b]? = some (.cells #[v0, v1, v2, v3, v4, v5, v6, v7, v8, v9, v10, v11, v12, v13, v14] T (0, 0))) :
    w.cell? ⟨b, 0, none⟩ = some v0 ∧ w.cell? ⟨b, 1, none⟩ = some v1 ∧ w.cell? ⟨b, 2, none⟩ = some v2 ∧ w.cell? ⟨b, 3, none⟩ = some v3 ∧ w.cell? ⟨b, 4, none⟩ = some v4 ∧ w.cell? ⟨b, 5, none⟩ = some v5 ∧ w.cell? ⟨b, 6, none⟩ = some v6 ∧ w.cell? ⟨b, 7, none⟩ = some v7 ∧ w.cell? ⟨b, 8, none⟩ = some v8 ∧ w.cell? ⟨b, 9, none⟩ = some v9 ∧ w.cell? ⟨b, 10, none⟩ = some v10 ∧ w.cell? ⟨b, 11, none⟩ = some v11 ∧ w.cell? ⟨b, 12, none⟩ = some v12 ∧ w.cell? ⟨b, 13, none⟩ = some v13 ∧ w.cell? ⟨b, 14, none⟩ = some v14 ∧ ∀ j, w.frozen? ⟨b, j, none⟩ = false :=
  ⟨cell_of_row _ _ 0 _ _ _ h, cell_of_row _ _ 1 _ _ _ h, cell_of_row _ _ 2 _ _ _ h, cell_of_row _ _ 3 _ _ _ h, cell_of_row _ _ 4 _ _ _ h, cell_of_row _ _ 5 _ _ _ h, cell_of_row _ _ 6 _ _ _ h, cell_of_row _ _ 7 _ _ _ h, cell_of_row _ _ 8 _ _ _ h, cell_of_row _ _ 9 _ _ _ h, cell_of_row _ _ 10 _ _ _ h, cell_of_row _ _ 11 _ _ _ h, cell_of_row _ _ 12 _ _ _ h, cell_of_row _ _ 13 _ _ _ h, cell_of_row _ _ 14 _ _ _ h, fun _ => frozen_of_row _ _ _ _ _ h⟩
set_option maxRecDepth 100000 in
theorem sure_any (A : ActR) (x y z : SH3) (w : World) : Calls Try.prog 60 #[.agg (ActC A x y z)] w fun e w' => e = .returned (.bool (sureB A)) ∧ Below w.heap.size w w' := by
  have hb := below_alloc w (.cells (ActC A x y z) ActT)
  unfold ActC at hb ⊢
  by_cases h0 : 0 ≤ A.en
  · have hS : sureB A = (A.code == 0) := by unfold sureB; rw [decide_eq_true h0]; rfl
    rw [hS]
    clear hS
    go_enter Try.func60, Try.ntmps60
    go_wp2
    go_ret
    exact ⟨rfl, hb⟩
  · have hS : sureB A = false := by unfold sureB; rw [decide_eq_false h0]; rfl
    rw [hS]
    clear hS
    go_enter Try.func60, Try.ntmps60
    go_wp2
    go_ret
    exact ⟨rfl, hb⟩
set_option maxRecDepth 100000 in
theorem keyed_any (A : ActR) (x y z : SH3) (w : World) : Calls Try.prog 51 #[.agg (ActC A x y z)] w fun e w' => e = .returned (.bool (keyedB A)) ∧ Below w.heap.size w w' := by
  have hb := below_alloc w (.cells (ActC A x y z) ActT)
  unfold ActC at hb ⊢
  obtain ⟨d, hd⟩ : ∃ d, d = A.d := ⟨_, rfl⟩
  have hk : keyedB A = (decide (d = 1) || decide (d = 2) || decide (d = 3)) := by rw [hd]; rfl
  rw [hk]
  rw [← hd] at hb ⊢
  clear hd hk
  by_cases h1 : d = 1
  · subst h1
    go_enter Try.func51, Try.ntmps51
    go_wp2
    go_ret
    exact ⟨rfl, hb⟩
  · by_cases h2 : d = 2
    · subst h2
      go_enter Try.func51, Try.ntmps51
      go_wp2
      go_ret
      exact ⟨rfl, hb⟩
    · have e1 : (d == 1) = false := by simpa using h1
      have e2 : (d == 2) = false := by simpa using h2
      go_enter Try.func51, Try.ntmps51
      go_wp2
      go_ret
      exact ⟨by simp only [h1, h2, decide_false, Bool.false_or]; first | rfl | (congr 1; exact beq_eq_decide _ _) | (rw [beq_eq_decide]), hb⟩
set_option maxRecDepth 100000 in
theorem before_any (A : ActR) (x y z : SH3) (B : ActR) (x' y' z' : SH3) (w : World) : Calls Try.prog 56 #[.agg (ActC A x y z), .agg (ActC B x' y' z')] w fun e w' => e = .returned (.bool (beforeB A B)) ∧ Below w.heap.size w w' := by
  have hb := (below_alloc w (.cells (ActC A x y z) ActT)).alloc (by simp) (.cells (ActC B x' y' z') ActT)
  unfold ActC at hb ⊢
  by_cases h0 : 0 ≤ A.en
  · have hS : beforeB A B = decide (A.en < B.st) := by unfold beforeB; rw [decide_eq_true h0]; rfl
    rw [hS]
    clear hS
    go_enter Try.func56, Try.ntmps56
    go_wp2
    go_ret
    exact ⟨rfl, hb⟩
  · have hS : beforeB A B = false := by unfold beforeB; rw [decide_eq_false h0]; rfl
    rw [hS]
    clear hS
    go_enter Try.func56, Try.ntmps56
    go_wp2
    go_ret
    exact ⟨rfl, hb⟩
set_option maxRecDepth 100000 in
theorem counts_any (A : ActR) (x y z : SH3) (w : World) : Calls Try.prog 52 #[.agg (ActC A x y z)] w fun e w' => e = .returned (.bool (countsB A)) ∧ Below w.heap.size w w' := by
  have KK := keyed_any
  have KS := sure_any
  have hb := below_alloc w (.cells (ActC A x y z) ActT)
  unfold ActC at hb KK KS ⊢
  obtain ⟨k, hk⟩ : ∃ k, k = keyedB A := ⟨_, rfl⟩
  obtain ⟨s, hs⟩ : ∃ k, k = sureB A := ⟨_, rfl⟩
  have hc : countsB A = (k && (!decide (A.d = 2) || s)) := by rw [hk, hs]; rfl
  rw [hc]
  have KA := KK A x y z
  have KB := KS A x y z
  rw [← hk] at KA
  rw [← hs] at KB
  clear hk hs hc KK KS
  have hsz : w.heap.size < (w.alloc (.cells (ActC A x y z) ActT)).heap.size := by simp
  unfold ActC at hsz
  have HZ := Lib.hid hsz
  have HB := Lib.hid hb
  clear hsz hb
  cases k
  · go_enter Try.func52, Try.ntmps52
    go_wp2_with fail
    (with_reducible refine (KA _).mono ?_)
    rintro e w6 ⟨rfl, hb6⟩
    have H6 := Lib.hid (HB.out.trans (hb6.mono (Nat.le_of_lt HZ.out)))
    clear hb6
    go_wp2
    go_ret
    exact ⟨by simp, H6.out⟩
  · by_cases h2 : A.d = 2
    · have e2 : (A.d != 2) = false := by simpa using h2
      have hT : (true && (!decide (A.d = 2) || s)) = s := by simp [h2]
      rw [hT]
      clear h2 hT
      go_enter Try.func52, Try.ntmps52
      go_wp2_with fail
      (with_reducible refine (KA _).mono ?_)
      rintro e w6 ⟨rfl, hb6⟩
      obtain ⟨c0, c1, c2, c3, c4, c5, c6, c7, c8, c9, ca, cb, cc, cd, ce, cF⟩ := cells15 ((hb6.block w.heap.size HZ.out).trans (heap_alloc_new w _))
      have H6 := Lib.hid (HB.out.trans (hb6.mono (Nat.le_of_lt HZ.out)))
      clear hb6
      go_wp2_with fail
      (with_reducible refine (KB _).mono ?_)
      rintro e w7 ⟨rfl, hb7⟩
      have H7 := Lib.hid (H6.out.trans (hb7.mono H6.out.size))
      clear hb7
      go_wp2
      go_ret
      exact ⟨rfl, H7.out⟩
    · have e2 : (A.d != 2) = true := by simpa using h2
      have hT : (true && (!decide (A.d = 2) || s)) = true := by simp [h2]
      rw [hT]
      clear h2 hT
      go_enter Try.func52, Try.ntmps52
      go_wp2_with fail
      (with_reducible refine (KA _).mono ?_)
      rintro e w6 ⟨rfl, hb6⟩
      obtain ⟨c0, c1, c2, c3, c4, c5, c6, c7, c8, c9, ca, cb, cc, cd, ce, cF⟩ := cells15 ((hb6.block w.heap.size HZ.out).trans (heap_alloc_new w _))
      have H6 := Lib.hid (HB.out.trans (hb6.mono (Nat.le_of_lt HZ.out)))
      clear hb6
      go_wp2
      go_ret
      exact ⟨rfl, H6.out⟩
end Go.Proofs.Ytnefcbcioemfiaa
