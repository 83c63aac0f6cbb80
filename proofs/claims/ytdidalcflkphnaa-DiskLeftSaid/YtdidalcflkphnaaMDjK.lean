/-
  rilllaw08: DiskReads: what two disks have in common.
-/
import Derived.Test.YtdidalcflkphnaaMDjJ
namespace Go.Proofs.Ytdidalcflkphnaa
open Go.RowKit

/-- two disks that are read alike. -/
structure RelR (d o : DV) (N m : Nat) : Prop where
  p1 : d.pow = -1
  p2 : o.pow = -1
  rd : d.read = o.read
  now : d.sl.map (fun s => s.2.1) = o.sl.map (fun s => s.2.1)
  n1 : d.sl.length = N
  len : d.read.length ≤ m
theorem RelR.n2 {d o : DV} {N m : Nat} (h : RelR d o N m) : o.sl.length = N := by have := congrArg List.length h.now; simp at this; have := h.n1; omega
theorem neg1 : (spendV (-1)).1 = -1 := rfl
theorem RelR.new (N : Nat) : RelR (newV N (-1)) (newV N (-1)) N 0 := ⟨rfl, rfl, rfl, rfl, by simp [newV, noSl], by simp [newV]⟩
theorem RelR.app {d o : DV} {N m : Nat} (h : RelR d o N m) (l : List Nat) : RelR (appV d l).1 (appV o l).1 N (m + l.length) := by
  have e1 : appV d l = ({ d with pow := -1, read := d.read ++ l }, 0) := by unfold appV; rw [if_neg (by rw [h.p1]; decide), h.p1]; rfl
  have e2 : appV o l = ({ o with pow := -1, read := o.read ++ l }, 0) := by unfold appV; rw [if_neg (by rw [h.p2]; decide), h.p2]; rfl
  rw [e1, e2]
  exact ⟨rfl, rfl, by simp only [h.rd], h.now, h.n1, by simp only [List.length_append]; have := h.len; omega⟩
theorem RelR.lay {d o : DV} {N m : Nat} (h : RelR d o N m) (l : List Nat) : RelR (layV d l).1 (layV o l).1 N (m + l.length) := by
  have e1 : layV d l = ({ d with pow := -1, read := l, base := l.length, laid := true }, 0) := by unfold layV; rw [if_neg (by rw [h.p1]; decide), h.p1]; rfl
  have e2 : layV o l = ({ o with pow := -1, read := l, base := l.length, laid := true }, 0) := by unfold layV; rw [if_neg (by rw [h.p2]; decide), h.p2]; rfl
  rw [e1, e2]
  exact ⟨rfl, rfl, rfl, h.now, h.n1, by simp only; omega⟩
theorem RelR.sync {d o : DV} {N m : Nat} (h : RelR d o N m) : RelR (syncV d).1 o N m := by
  have e1 : syncV d = ({ d with pow := -1, safe := d.read, base := d.read.length, laid := false }, 0) := by unfold syncV; rw [if_neg (by rw [h.p1]; decide), h.p1]; rfl
  rw [e1]
  exact ⟨rfl, h.p2, h.rd, h.now, h.n1, h.len⟩
theorem RelR.slots {d o : DV} {N m : Nat} (h : RelR d o N m) : RelR (slotsV d).1 o N m := by
  have e1 : slotsV d = ({ d with pow := -1, sl := d.sl.map syncS }, 0) := by unfold slotsV; rw [if_neg (by rw [h.p1]; decide), h.p1]; rfl
  rw [e1]
  refine ⟨rfl, h.p2, h.rd, ?_, by simpa using h.n1, h.len⟩
  rw [← h.now]
  simp only [List.map_map]
  apply List.map_congr_left
  intro s _
  show (syncS s).2.1 = s.2.1
  unfold syncS
  split <;> rfl
theorem now_at {d o : DV} (h : d.sl.map (fun s => s.2.1) = o.sl.map (fun s => s.2.1)) (i : Nat) : (d.sl.getD i ([], [], false)).2.1 = (o.sl.getD i ([], [], false)).2.1 := by
  have e := congrArg (fun l => l[i]?) h
  simp only [List.getElem?_map] at e
  rw [List.getD_eq_getElem?_getD, List.getD_eq_getElem?_getD]
  cases h1 : d.sl[i]? with
  | none => rw [h1] at e; cases h2 : o.sl[i]? with
    | none => rfl
    | some y => rw [h2] at e; cases e
  | some x => rw [h1] at e; cases h2 : o.sl[i]? with
    | none => rw [h2] at e; cases e
    | some y => rw [h2] at e; exact Option.some.inj e
theorem RelR.write {d o : DV} {N m : Nat} (h : RelR d o N m) (i : Int) (l : List Nat) : (writeV o i l).2 = (writeV d i l).2 ∧ RelR (writeV d i l).1 (writeV o i l).1 N m := by
  have q1 : d.pow ≠ 0 := by rw [h.p1]; decide
  have q2 : o.pow ≠ 0 := by rw [h.p2]; decide
  unfold writeV
  rw [h.n1, h.n2]
  by_cases hi : 0 ≤ i ∧ i < (N : Int)
  · rw [if_pos hi, if_pos hi]
    by_cases hl : 64 < l.length
    · rw [if_pos hl, if_pos hl]; exact ⟨rfl, h⟩
    · rw [if_neg hl, if_neg hl, if_neg q1, if_neg q2]
      refine ⟨rfl, by simp only [h.p1]; rfl, by simp only [h.p2]; rfl, h.rd, ?_, by simpa using h.n1, h.len⟩
      simp only [List.map_set, h.now]
  · rw [if_neg hi, if_neg hi]; exact ⟨rfl, h⟩
theorem RelR.rot {d o : DV} {N m : Nat} (h : RelR d o N m) (i bit : Int) : (rotV o i bit).2 = (rotV d i bit).2 ∧ RelR (rotV d i bit).1 (rotV o i bit).1 N m := by
  unfold rotV
  rw [h.n1, h.n2]
  by_cases hi : 0 ≤ i ∧ i < (N : Int)
  · rw [if_pos hi, if_pos hi]
    dsimp only
    rw [← now_at h.now i.toNat]
    by_cases hb : bit < 0 ∨ 8 * ((d.sl.getD i.toNat ([], [], false)).2.1.length : Int) ≤ bit
    · rw [if_pos hb, if_pos hb]; exact ⟨rfl, h⟩
    · rw [if_neg hb, if_neg hb]
      refine ⟨rfl, h.p1, h.p2, h.rd, ?_, by simpa using h.n1, h.len⟩
      simp only [List.map_set, h.now]
  · rw [if_neg hi, if_neg hi]; exact ⟨rfl, h⟩
theorem RelR.read {d o : DV} {N m : Nat} (h : RelR d o N m) (i : Int) : readV o i = readV d i := by
  unfold readV
  rw [h.n1, h.n2, now_at h.now]
theorem RelR.more {d o : DV} {N m m' : Nat} (h : RelR d o N m) (hm : m ≤ m') : RelR d o N m' := ⟨h.p1, h.p2, h.rd, h.now, h.n1, Nat.le_trans h.len hm⟩
theorem DiskM.readB {w : World} {F : Nat → Prop} {g : Nat} {d : DV} (h : DiskM w F g d) (i : Int) : Bytes (readV d i).1 ∧ (readV d i).1.length ≤ 1000000000 := by
  obtain ⟨s1, s3, c5, -⟩ := h.cell5
  unfold readV
  by_cases hi : 0 ≤ i ∧ i < (d.sl.length : Int)
  · rw [if_pos hi]
    obtain ⟨s, hs⟩ : ∃ s, d.sl[i.toNat]? = some s := ⟨_, List.getElem?_eq_getElem (by omega)⟩
    obtain ⟨b, c, x, e, hcap, hcm, x0, x1, x2, xF, hne, bS, bR, -⟩ := h.slot c5 hs
    rw [List.getD_eq_getElem?_getD, hs]
    exact ⟨bR.bytes, bR.small⟩
  · rw [if_neg hi]
    exact ⟨fun y hy => (nomatch hy), by simp⟩
theorem DiskM.logB {w : World} {F : Nat → Prop} {g : Nat} {d : DV} (h : DiskM w F g d) : Bytes d.read ∧ d.read.length ≤ 1000000000 := by
  obtain ⟨_, _, _, _, _, _, _, h2, _⟩ := h
  exact ⟨h2.now.bytes, h2.now.small⟩
abbrev OT : TypeId := 40
theorem cells7D {w : World} {b : Nat} {v0 v1 v2 v3 v4 v5 v6 : Value} {T : TypeId} (h : w.heap[b]? = some (.cells #[v0, v1, v2, v3, v4, v5, v6] T (0, 0))) :
    w.cell? ⟨b, 0, none⟩ = some v0 ∧ w.cell? ⟨b, 1, none⟩ = some v1 ∧ w.cell? ⟨b, 2, none⟩ = some v2 ∧ w.cell? ⟨b, 3, none⟩ = some v3 ∧ w.cell? ⟨b, 4, none⟩ = some v4 ∧ w.cell? ⟨b, 5, none⟩ = some v5 ∧ w.cell? ⟨b, 6, none⟩ = some v6 :=
  ⟨cell_of_row _ _ 0 _ _ _ h, cell_of_row _ _ 1 _ _ _ h, cell_of_row _ _ 2 _ _ _ h, cell_of_row _ _ 3 _ _ _ h, cell_of_row _ _ 4 _ _ _ h, cell_of_row _ _ 5 _ _ _ h, cell_of_row _ _ 6 _ _ _ h⟩
end Go.Proofs.Ytdidalcflkphnaa
