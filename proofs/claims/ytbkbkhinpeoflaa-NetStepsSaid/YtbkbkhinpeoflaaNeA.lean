/-
  net: what a net is in memory; put.
-/
import Derived.Test.YtbkbkhinpeoflaaUse2
import Derived.Test.YtbkbkhinpeoflaaFrC
import Derived.Deep.AppendLies
import Derived.Deep.RegionLaw
import Derived.Deep.RegionHeld3
namespace Go.Proofs.Ytbkbkhinpeoflaa
open Go.RowKit

abbrev Hd := Option Addr × Nat × Nat
abbrev DT : TypeId := 59
abbrev NT : TypeId := 56
def dcell (x : Int × Hd) : List Value := [.int .i64 x.1, SV x.2]
def dcells : List (Int × Hd) → List Value
  | [] => []
  | x :: xs => .int .i64 x.1 :: SV x.2 :: dcells xs
theorem dcells_length : ∀ xs : List (Int × Hd), (dcells xs).length = xs.length * 2
  | [] => rfl
  | x :: xs => by simp [dcells, dcells_length xs]; omega
theorem dcells_append : ∀ xs ys : List (Int × Hd), dcells (xs ++ ys) = dcells xs ++ dcells ys
  | [], ys => rfl
  | x :: xs, ys => by simp [dcells, dcells_append xs ys]
theorem dcells_one (xs : List (Int × Hd)) : ∀ u ∈ dcells xs, u.oneCell' = true := by
  induction xs with
  | nil => intro u hu; cases hu
  | cons x xs ih =>
    intro u hu
    simp only [dcells, List.mem_cons] at hu
    rcases hu with rfl | rfl | hu
    · rfl
    · rfl
    · exact ih u hu
theorem dcells_get (xs : List (Int × Hd)) : ∀ (i : Nat) (x : Int × Hd), xs[i]? = some x → (dcells xs)[i * 2]? = some (.int .i64 x.1) ∧ (dcells xs)[i * 2 + 1]? = some (SV x.2) := by
  induction xs with
  | nil => intro i x h; simp at h
  | cons y xs ih =>
    intro i x h
    cases i with
    | zero => simp at h; subst h; exact ⟨rfl, rfl⟩
    | succ i =>
      simp at h
      have := ih i x h
      rw [show (i + 1) * 2 = i * 2 + 2 by omega]
      exact this

theorem Try.info59 : (Try.prog.info? 59).map (fun i => (i.zero, i.size, i.bytes)) = some (some (.agg #[.int .i64 0, .slice none 0 0]), 2, 32) := by kernel_rfl

/-- block g holds a net: its datagrams' receivers and bytes. -/
structure NetV (w : World) (g base : Nat) (v : Value) (sent : Int) (xs : List (Int × Hd)) (bs : List (List Nat)) : Prop where
  box : w.heap[g]? = some (.cells #[v, .int .i64 sent] NT (0, 0))
  row : w.ownsRow base DT 2 v xs.length (dcells xs)
  own : OwnsRows w base 5 (xs.map Prod.snd) bs
  bytes : ∀ l ∈ bs, Bytes l ∧ l.length ≤ 140737488355328
  ge : base ≤ g
/-- only the net's own block, its row and new blocks have turned. -/
structure OnlyN (w w' : World) (g : Nat) (v : Value) : Prop where
  os : w'.os = w.os
  tape : w'.tape = w.tape
  output : w'.output = w.output
  size : w.heap.size ≤ w'.heap.size
  block : ∀ b, b < w.heap.size → b ≠ g → v.ownBlock ≠ some b → w'.heap[b]? = w.heap[b]?
theorem OnlyN.refl (w : World) (g : Nat) (v : Value) : OnlyN w w g v := ⟨rfl, rfl, rfl, Nat.le_refl _, fun _ _ _ _ => rfl⟩
theorem OnlyN.of_below {w w' : World} {g : Nat} {v : Value} (h : Below w.heap.size w w') : OnlyN w w' g v := ⟨h.os, h.tape, h.output, h.size, fun b hb _ _ => h.block b hb⟩
theorem NetV.below {w w' : World} {g base : Nat} {v : Value} {sent : Int} {xs : List (Int × Hd)} {bs : List (List Nat)} (h : NetV w g base v sent xs bs) (hb : Below w.heap.size w w') : NetV w' g base v sent xs bs :=
  ⟨(hb.block g (Array.getElem?_eq_some_iff.1 h.box).1).trans h.box, h.row.kept (grownBy_of_below hb none) (by cases v.ownBlock <;> simp), h.own.below hb, h.bytes, h.ge⟩
theorem NetV.lt {w : World} {g base : Nat} {v : Value} {sent : Int} {xs : List (Int × Hd)} {bs : List (List Nat)} (h : NetV w g base v sent xs bs) : g < w.heap.size := (Array.getElem?_eq_some_iff.1 h.box).1
theorem NetV.cells {w : World} {g base : Nat} {v : Value} {sent : Int} {xs : List (Int × Hd)} {bs : List (List Nat)} (h : NetV w g base v sent xs bs) : w.cell? ⟨g, 0, none⟩ = some v ∧ w.cell? ⟨g, 1, none⟩ = some (.int .i64 sent) ∧ ∀ j, w.frozen? ⟨g, j, none⟩ = false :=
  ⟨cell_of_row _ _ 0 _ _ _ h.box, cell_of_row _ _ 1 _ _ _ h.box, fun _ => frozen_of_row _ _ _ _ _ h.box⟩
theorem NetV.ne {w : World} {g base : Nat} {v : Value} {sent : Int} {xs : List (Int × Hd)} {bs : List (List Nat)} (h : NetV w g base v sent xs bs) : v.ownBlock ≠ some g := by
  intro e
  rcases h.row.2 with ⟨rfl, _⟩ | ⟨g', cap, cur, rfl, _, hh, _⟩
  · cases e
  · simp [Value.ownBlock] at e
    subst e
    have hb := h.box
    rw [hh] at hb
    injection hb with hb
    injection hb with _ ht
    exact absurd ht (by decide)
end Go.Proofs.Ytbkbkhinpeoflaa
