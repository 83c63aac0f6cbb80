/-
  sha: the parts behind one another, block by block (the iterator of `blocks`).
-/
import Derived.Test.YthofndobmiamjaaDoorShF
import Derived.RangeFuncCalls
import Derived.RangeFuncLeaves
import Derived.RangeFuncRecord
import Derived.OwnWalkIn
import Derived.TacticsInMore
import Derived.LoopNIn
import Derived.LoopIn
namespace Go.Proofs.YthofndobmiamjaaDoor
open Go.RowKit

/-- all blocks but some stay as they are. -/
structure KeepX (X : Nat → Prop) (w w' : World) : Prop where
  os : w'.os = w.os
  tape : w'.tape = w.tape
  output : w'.output = w.output
  size : w.heap.size ≤ w'.heap.size
  block : ∀ k, k < w.heap.size → ¬ X k → w'.heap[k]? = w.heap[k]?
theorem KeepX.refl (X : Nat → Prop) (w : World) : KeepX X w w := ⟨rfl, rfl, rfl, Nat.le_refl _, fun _ _ _ => rfl⟩
theorem KeepX.trans {X : Nat → Prop} {a b c : World} (h : KeepX X a b) (k : KeepX X b c) : KeepX X a c :=
  ⟨k.os.trans h.os, k.tape.trans h.tape, k.output.trans h.output, Nat.le_trans h.size k.size, fun i hi hn => (k.block i (Nat.lt_of_lt_of_le hi h.size) hn).trans (h.block i hi hn)⟩
theorem KeepX.of_below {X : Nat → Prop} {w w' : World} (h : Below w.heap.size w w') : KeepX X w w' := ⟨h.os, h.tape, h.output, h.size, fun k hk _ => h.block k hk⟩
theorem KeepX.setRow {X : Nat → Prop} {w w' : World} (h : KeepX X w w') {g : Nat} (hg : w.heap.size ≤ g) (cs : Array Value) : KeepX X w (w'.setRow g cs) :=
  ⟨h.os, h.tape, h.output, by simpa using h.size, fun k hk hn => (_root_.Go.setRow_other w' g k cs (by omega)).trans (h.block k hk hn)⟩
theorem KeepX.cell {X : Nat → Prop} {w w' : World} (h : KeepX X w w') {g off : Nat} {v : Value} (hc : w.cell? ⟨g, off, none⟩ = some v) (hn : ¬ X g) : w'.cell? ⟨g, off, none⟩ = some v :=
  (World.cell?_of_block (a := ⟨g, off, none⟩) (h.block g (World.block_lt_of_cell? w _ hc) hn)).trans hc
theorem BytesV.dropS {w : World} {x : Addr} {n c m : Nat} {l : List Nat} (h : BytesV w (some x, n, c) l) (hm : m ≤ n) : BytesV w (some (x.add m), n - m, c - m) (l.drop m) := by
  have hl : l.length = n := h.length
  have hc : n ≤ c := h.cap
  have hs : n ≤ 140737488355328 := h.small
  refine ⟨⟨by simp [hl], fun h0 => ?_⟩, fun y hy => h.bytes y (List.mem_of_mem_drop hy), by simp only; omega, by simp only; omega, fun e => by cases e⟩
  simp only at h0
  obtain ⟨b, off, e, hcl⟩ := h.row.2 (by simp only; omega)
  injection e with e
  subst e
  refine ⟨b, off + m, by unfold Addr.add; split <;> simp_all, fun i hi => ?_⟩
  simp only at hi
  rw [show off + m + i = off + (m + i) by omega, hcl (m + i) (by simp only; omega), List.getElem?_map, List.getElem?_map, List.getElem?_drop]
theorem bytesV_noneS {w : World} {a : Option Addr} {l : List Nat} (hl : l = []) : BytesV w (a, 0, 0) l := by
  subst hl
  exact ⟨⟨rfl, fun h => absurd h (Nat.lt_irrefl _)⟩, fun x hx => (by cases hx), Nat.zero_le _, Nat.le_refl _, fun _ => rfl⟩
/-- the box of 64 bytes: as many of the block in hand as have come. -/
def BX (W : World) (D : Nat) (flat : List Nat) (q : Nat) : Prop :=
  ∃ bb : List Nat, W.heap[D]? = some (.cells (bb.map bv).toArray BT64 (0, 0)) ∧ bb.length = 64 ∧ Bytes bb ∧ bb.take (q % 64) = (flat.drop (64 * (q / 64))).take (q % 64)
def blockS (flat : List Nat) (k : Nat) : List Nat := (flat.drop (64 * k)).take 64
theorem fill_eq {flat bb p : List Nat} {q n : Nat} (h : bb.take (q % 64) = (flat.drop (64 * (q / 64))).take (q % 64)) (hb : bb.length = 64) (hp : (flat.drop q).take n = p) (hn : p.length = n) :
    (bb.take (q % 64) ++ (p ++ bb.drop (q % 64 + n))).take (q % 64 + n) = (flat.drop (64 * (q / 64))).take (q % 64 + n) := by
  rw [← List.append_assoc, List.take_append_of_le_length (by simp [hb, hn]; omega), List.take_of_length_le (by simp [hn]; omega), h, ← hp]
  rw [List.take_add, List.drop_drop]
  congr 3
  omega
theorem BX.fill {W : World} {D : Nat} {flat : List Nat} {q n : Nat} {bb p : List Nat} (hb : bb.length = 64) (hB : Bytes bb) (h : bb.take (q % 64) = (flat.drop (64 * (q / 64))).take (q % 64))
    (hg : W.heap[D]? = some (.cells (bb.map bv).toArray BT64 (0, 0))) (hp : (flat.drop q).take n = p) (hn : p.length = n) (hP : Bytes p) (h64 : q % 64 + n < 64) :
    BX (W.setRow D ((bb.take (q % 64) ++ (p ++ bb.drop (q % 64 + n))).map bv).toArray) D flat (q + n) := by
  have e1 : (q + n) % 64 = q % 64 + n := by omega
  have e2 : (q + n) / 64 = q / 64 := by omega
  refine ⟨_, setRow_heap _ _ _ _ _ _ hg, by simp [hb, hn]; omega, ?_, ?_⟩
  · intro x hx
    simp only [List.mem_append] at hx
    rcases hx with hx | hx | hx
    · exact hB x (List.mem_of_mem_take hx)
    · exact hP x hx
    · exact hB x (List.mem_of_mem_drop hx)
  · rw [e1, e2]
    exact fill_eq h hb hp hn
theorem full_eq {flat bb p : List Nat} {q n : Nat} (h : bb.take (q % 64) = (flat.drop (64 * (q / 64))).take (q % 64)) (hb : bb.length = 64) (hp : (flat.drop q).take n = p) (hn : p.length = n) (h64 : q % 64 + n = 64) :
    bb.take (q % 64) ++ (p ++ bb.drop (q % 64 + n)) = blockS flat (q / 64) := by
  have := fill_eq h hb hp hn
  rw [h64] at this ⊢
  rw [List.take_of_length_le (by simp [hb, hn]; omega)] at this
  exact this
theorem row_bytes (bb p : List Nat) (f n : Nat) (hn : p.length = n) : ((bb.map bv).toArray.toList.take f ++ (p.map bv ++ (bb.map bv).toArray.toList.drop (f + (p.map bv).length))).toArray = ((bb.take f ++ (p ++ bb.drop (f + n))).map bv).toArray := by
  simp [hn]
end Go.Proofs.YthofndobmiamjaaDoor
