/-
  meta: the writer, with what it has written.
-/
import Derived.Test.YtopnjjehefaghaaDoorMMeO
namespace Go.Proofs.YtopnjjehefaghaaDoor
open Go.RowKit

/-- the first m of the W bytes of a number, the greatest weight first. -/
def numTo (n W m : Nat) : List Nat := (List.range m).map fun t => n / 256 ^ (W - 1 - t) % 256
def numL (n W : Nat) : List Nat := numTo n W W
theorem numTo_succ (n W m : Nat) : numTo n W (m + 1) = numTo n W m ++ [n / 256 ^ (W - 1 - m) % 256] := by
  unfold numTo
  rw [List.range_succ, List.map_append]
  rfl
theorem numTo_len (n W m : Nat) : (numTo n W m).length = m := by simp [numTo]
theorem numTo_bytes (n W m : Nat) : Bytes (numTo n W m) := by
  intro x hx
  simp only [numTo, List.mem_map] at hx
  obtain ⟨t, -, rfl⟩ := hx
  exact Nat.mod_lt _ (by decide)
/-- what may have changed: the writer, and its bytes' block. -/
structure KpW (w w' : World) (b : Nat) (o : Option Nat) : Prop where
  os : w'.os = w.os
  tape : w'.tape = w.tape
  output : w'.output = w.output
  size : w.heap.size ≤ w'.heap.size
  block : ∀ q, q < w.heap.size → q ≠ b → some q ≠ o → w'.heap[q]? = w.heap[q]?
theorem KpW.refl (w : World) (b : Nat) (o : Option Nat) : KpW w w b o := ⟨rfl, rfl, rfl, Nat.le_refl _, fun _ _ _ _ => rfl⟩
theorem KpW.trans {w w1 w2 : World} {b : Nat} {o o1 : Option Nat} (h : KpW w w1 b o) (k : KpW w1 w2 b o1) (ho : o1 = o ∨ ∀ q, o1 = some q → w.heap.size ≤ q) : KpW w w2 b o :=
  ⟨k.os.trans h.os, k.tape.trans h.tape, k.output.trans h.output, Nat.le_trans h.size k.size, fun q h1 h2 h3 => (k.block q (Nat.lt_of_lt_of_le h1 h.size) h2 (fun e => by
    rcases ho with ho | ho
    · exact h3 (e.trans ho)
    · have := ho q e.symm; omega)).trans (h.block q h1 h2 h3)⟩
theorem KpW.below {w w' : World} {b B : Nat} {o : Option Nat} (h : KpW w w' b o) (hb : B ≤ b) (ho : ∀ q, o = some q → B ≤ q) (hB : B ≤ w.heap.size) : Below B w w' :=
  ⟨h.os, h.tape, h.output, h.size, fun q hq => h.block q (by omega) (by omega) (fun e => by have := ho q e.symm; omega)⟩
theorem KpW.of_grown {w w' : World} {b : Nat} {o : Option Nat} (h : w.grownBy w' o) : KpW w w' b o := ⟨h.os, h.tape, h.output, h.size, fun q h1 _ h3 => h.block q h1 h3⟩
theorem ownBlock_len (ad : Option Addr) (n c m d : Nat) : (Value.slice ad n c).ownBlock = (Value.slice ad m d).ownBlock := by cases ad <;> rfl
theorem u8_byte (n D : Nat) (v : Int) (h : v = ((n / D : Nat) : Int)) : IntKind.u8.wrap v = ((n / D % 256 : Nat) : Int) := by
  subst h
  simp [IntKind.wrap, IntKind.bits, IntKind.signed]
end Go.Proofs.YtopnjjehefaghaaDoor
