/-
  meta: Encode, of any record.
-/
import Derived.Laws.IdiomStrings
import Derived.Test.YtopnjjehefaghaaDoorMMeQ
namespace Go.Proofs.YtopnjjehefaghaaDoor
open Go.RowKit

def keyL (s : ByteArray) : List Nat := s.data.toList.map UInt8.toNat
theorem keyL_len (s : ByteArray) : (keyL s).length = s.size := by unfold keyL; simp
theorem grownCap_leM (w : World) (n : Nat) (e : TypeId) : n ≤ grownCap w n 0 e := by
  exact grownCap_ge w n 0 e
theorem key_bytesV {w : World} {g kc : Nat} {key : ByteArray} {fr : Nat × Nat} (h : w.heap[g]? = some (.cells (bytesRow key kc) 5 fr)) (hc : key.size ≤ kc) (hs : key.size ≤ 1000) : BytesV w (some ⟨g, 0, none⟩, key.size, kc) (keyL key) := by
  refine ⟨⟨by rw [List.length_map, keyL_len], fun _ => ⟨g, 0, rfl, fun i hi => ?_⟩⟩, fun x hx => ?_, by simp only; omega, by simp only; omega, fun e => by cases e⟩
  · rw [cell_of_row _ _ _ _ _ _ h]
    simp only at hi
    have hi2 : i < key.data.size := hi
    unfold bytesRow keyL bv
    rw [Nat.zero_add, Array.getElem?_append_left (by simpa using hi2)]
    simp
    rfl
  · simp only [keyL, List.mem_map] at hx
    obtain ⟨y, -, rfl⟩ := hx
    exact y.toNat_lt
/-- a place's bytes. -/
def placeL (p : PlR) : List Nat := numL p.b.toNat 2 ++ numL p.e.toNat 3 ++ numL p.s.toNat 2 ++ (numL p.l.length 1 ++ p.l)
def placesL (P : Nat → PlR) : Nat → List Nat
  | 0 => []
  | m + 1 => placesL P m ++ placeL (P m)
def headL (k : Int) (key : ByteArray) (N c s t : Int) (d : Bool) (sum : List Nat) (pn : Nat) : List Nat :=
  [] ++ numL k.toNat 1 ++ numL key.size 1 ++ keyL key ++ numL N.toNat 4 ++ numL s.toNat 4 ++ numL c.toNat 1 ++ numL t.toNat 1 ++ numL (if d = true then 1 else 0) 1 ++ (numL sum.length 1 ++ sum) ++ numL pn 2
def encL (k : Int) (key : ByteArray) (N c s t : Int) (d : Bool) (sum : List Nat) (P : Nat → PlR) (pn : Nat) : List Nat := headL k key N c s t d sum pn ++ placesL P pn
/-- what a right record keeps. -/
structure Facts (k : Int) (key : ByteArray) (N c s t : Int) (sn : Nat) (P : Nat → PlR) (pn : Nat) : Prop where
  k1 : 1 ≤ k
  k4 : k ≤ 4
  ks : key.size ≤ 32
  N0 : 0 ≤ N
  N1 : N ≤ 2147483647
  c0 : 0 ≤ c
  c1 : c < 4
  s0 : 0 ≤ s
  s1 : s ≤ 1024
  t0 : 0 ≤ t
  t1 : t ≤ 64
  sn32 : sn ≤ 32
  pn512 : pn ≤ 512
  pl : ∀ i, i < pn → 0 ≤ (P i).b ∧ (P i).b < 1024 ∧ 0 ≤ (P i).e ∧ (P i).e < 16777216 ∧ 0 ≤ (P i).s ∧ (P i).s < 512 ∧ (P i).x.2.1 ≤ 32
theorem tagB_iff {N c : Int} : tagB N c = true ↔ 1 ≤ N ∧ N ≤ 2147483647 ∧ 0 ≤ c ∧ c < 4 := by unfold tagB; exact decide_eq_true_iff
theorem belowB_iff {n b : Int} : belowB n b = true ↔ 0 ≤ n ∧ n < b := by unfold belowB; exact decide_eq_true_iff
theorem metaB_facts {N c s t : Int} {d : Bool} {n : Nat} (h : metaB N c s t d n = true) : (0 ≤ N ∧ N ≤ 2147483647 ∧ 0 ≤ c ∧ c < 4) ∧ 0 ≤ s ∧ s ≤ 1024 ∧ 0 ≤ t ∧ t ≤ 64 ∧ n ≤ 32 := by
  unfold metaB at h
  rw [Bool.and_eq_true] at h
  have h2 := tagB_iff.1 h.2
  refine ⟨⟨by omega, h2.2.1, h2.2.2.1, h2.2.2.2⟩, ?_⟩
  have h1 := h.1
  split at h1
  · have := of_decide_eq_true (show decide _ = true from h1)
    omega
  · have := of_decide_eq_true (show decide _ = true from h1)
    omega
theorem aloneB_facts {N c s t : Int} {d : Bool} {n : Nat} (h : aloneB N c s t d n = true) : (0 ≤ N ∧ N ≤ 2147483647 ∧ 0 ≤ c ∧ c < 4) ∧ 0 ≤ s ∧ s ≤ 1024 ∧ 0 ≤ t ∧ t ≤ 64 ∧ n ≤ 32 := by
  unfold aloneB at h
  rw [Bool.and_eq_true] at h
  have h1 := tagB_iff.1 h.1
  have h2 := of_decide_eq_true h.2
  exact ⟨⟨by omega, h1.2.1, h1.2.2.1, h1.2.2.2⟩, by omega, by omega, by omega, by omega, by omega⟩
theorem right_facts {k : Int} {key : ByteArray} {N c s t : Int} {d : Bool} {sn : Nat} {P : Nat → PlR} {pn : Nat} (h : rightB k key N c s t d sn P pn = true) : Facts k key N c s t sn P pn := by
  unfold rightB at h
  simp only [Bool.and_eq_true, Bool.not_eq_true'] at h
  obtain ⟨h1, h2, h3, h4⟩ := h
  have h3 := of_decide_eq_true h3
  have hk := of_decide_eq_true (show decide _ = true from h2)
  have hall := someWrong_false.1 h4
  have hpl : ∀ i, i < pn → 0 ≤ (P i).b ∧ (P i).b < 1024 ∧ 0 ≤ (P i).e ∧ (P i).e < 16777216 ∧ 0 ≤ (P i).s ∧ (P i).s < 512 ∧ (P i).x.2.1 ≤ 32 := fun i hi => by
    have hw := hall i hi
    unfold wrongB at hw
    simp only [Bool.not_eq_false', Bool.and_eq_true] at hw
    obtain ⟨q1, q2, q3, q4⟩ := hw
    have q1 := belowB_iff.1 q1
    have q2 := belowB_iff.1 q2
    have q3 := belowB_iff.1 q3
    have q4 := of_decide_eq_true q4
    have hS : slotsOf k ≤ 512 := by unfold slotsOf; split <;> omega
    have hU : sumOf k ≤ 32 := by unfold sumOf; split <;> omega
    exact ⟨q1.1, q1.2, q2.1, q2.2, q3.1, by omega, by omega⟩
  have hf : (1 ≤ k ∧ k ≤ 4) ∧ (0 ≤ N ∧ N ≤ 2147483647 ∧ 0 ≤ c ∧ c < 4) ∧ 0 ≤ s ∧ s ≤ 1024 ∧ 0 ≤ t ∧ t ≤ 64 ∧ sn ≤ 32 := by
    unfold fitsB at h1
    split at h1
    · rw [Bool.and_eq_true] at h1
      exact ⟨by omega, metaB_facts h1.1⟩
    · split at h1
      · rw [Bool.and_eq_true] at h1
        exact ⟨by omega, metaB_facts h1.1⟩
      · split at h1
        · rw [Bool.and_eq_true] at h1
          exact ⟨by omega, aloneB_facts h1.1⟩
        · split at h1
          · rw [Bool.and_eq_true] at h1
            exact ⟨by omega, aloneB_facts h1.1⟩
          · cases h1
  obtain ⟨⟨a1, a2⟩, ⟨b1, b2, b3, b4⟩, e1, e2, e3, e4, e5⟩ := hf
  exact ⟨a1, a2, by omega, b1, b2, b3, b4, e1, e2, e3, e4, e5, by omega, hpl⟩
theorem cells4M {w : World} {b : Nat} {v0 v1 v2 v3 : Value} {T : TypeId} (h : w.heap[b]? = some (.cells #[v0, v1, v2, v3] T (0, 0))) : w.cell? ⟨b, 0, none⟩ = some v0 ∧ w.cell? ⟨b, 1, none⟩ = some v1 ∧ w.cell? ⟨b, 2, none⟩ = some v2 ∧ w.cell? ⟨b, 3, none⟩ = some v3 :=
  ⟨cell_of_row _ _ 0 _ _ _ h, cell_of_row _ _ 1 _ _ _ h, cell_of_row _ _ 2 _ _ _ h, cell_of_row _ _ 3 _ _ _ h⟩
theorem Below.mono0 {a b : Nat} {w w0 : World} (h : Below a w0 w) (hb : b ≤ a) : Below b w0 w := h.mono hb
end Go.Proofs.YtopnjjehefaghaaDoor
