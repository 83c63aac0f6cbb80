/-
  rilllaw02: the calls' contracts over lists of rows, for the laws.
-/
import Derived.Test.YtgnnfpnkhemimaaLiY
namespace Go.Proofs.Ytgnnfpnkhemimaa
open Go.RowKit

/-- a slice of rows reads as these lists. -/
def RD (w : World) (a : Option Addr) (n : Nat) (ls : List (List Nat)) : Prop := ls.length = n ∧ ∃ hs, RowV w a n (hs.map SV) ∧ RowsV w hs ls
theorem RD.below {w w' : World} {a : Option Addr} {n : Nat} {ls : List (List Nat)} (h : RD w a n ls) (hb : Below w.heap.size w w') : RD w' a n ls := by
  obtain ⟨h1, hs, h2, h3⟩ := h
  exact ⟨h1, hs, h2.below hb, h3.below hb⟩
theorem RD.mem {w : World} {a : Option Addr} {n : Nat} {ls : List (List Nat)} (h : RD w a n ls) : ∀ l ∈ ls, Bytes l ∧ l.length ≤ 140737488355328 := by
  obtain ⟨h1, hs, h2, h3⟩ := h
  exact h3.mem
theorem RD.nil (w : World) (a : Option Addr) : RD w a 0 [] := ⟨rfl, [], ⟨rfl, fun h => absurd h (by omega)⟩, rowsV_nil _⟩
theorem rd_of_owns {w : World} {B B' n : Nat} {a : Option Addr} {c : Nat} {hs : List HdT} {ls : List (List Nat)} (h1 : w.ownsRow B 34 1 (.slice a n c) n (hs.map SV)) (h2 : OwnsRows w B' 5 hs ls) (hb : ∀ l ∈ ls, Bytes l ∧ l.length ≤ 140737488355328) : RD w a n ls := by
  have hn : ls.length = n := by rw [← h2.1]; have := h1.1; simpa using this
  refine ⟨hn, hs, ?_, h2.rowsV hb⟩
  obtain ⟨_, _, e, _, _, _, k⟩ := ownsRow_parts h1
  cases e
  exact k
theorem copyRows_rd (a : Option Addr) (n c : Nat) (ls : List (List Nat)) (w : World) (h : RD w a n ls) (hn : n ≤ 1000) :
    Calls Try.prog 14 #[.slice a n c] w fun e w' => ∃ a' c', e = .returned (.slice a' n c') ∧ RD w' a' n ls ∧ Below w.heap.size w w' := by
  have hb := h.mem
  obtain ⟨h1, hs, h2, h3⟩ := h
  subst h1
  exact (copyRows_any a _ c hs ls w h2 (by omega) h3).mono fun e w' ⟨ad, cap, hs', he, ho, hO, hbl⟩ => ⟨ad, cap, he, rd_of_owns ho hO hb, hbl⟩
theorem sameRows_rd (a1 : Option Addr) (n1 c1 : Nat) (l1 : List (List Nat)) (a2 : Option Addr) (n2 c2 : Nat) (l2 : List (List Nat)) (w : World) (h1 : RD w a1 n1 l1) (h2 : RD w a2 n2 l2) (hn : n1 ≤ 1000) :
    Calls Try.prog 17 #[.slice a1 n1 c1, .slice a2 n2 c2] w fun e w' => e = .returned (.bool (decide (l1 = l2))) ∧ Below w.heap.size w w' := by
  obtain ⟨_, hs1, v1, r1⟩ := h1
  obtain ⟨_, hs2, v2, r2⟩ := h2
  exact sameRows_any a1 n1 c1 hs1 l1 a2 n2 c2 hs2 l2 w v1 r1 v2 r2 (by omega)
/-- what Rank, Apply and Solve answer. -/
def rankR (cols : Int) (rows : List (List Nat)) : Nat × Int := if rightB cols rows = true then (rankOf cols.toNat rows, 0) else (0, 20)
def applyR (cols : Int) (rows xs : List (List Nat)) : List (List Nat) × Int := if applyOK cols rows xs = true then (applyOf rows xs, 0) else ([], 20)
def solveR (cols : Int) (rows vs : List (List Nat)) : List (List Nat) × Int := if solveOK cols rows vs = true then solveOut cols.toNat rows vs else ([], 20)
theorem right_pos {cols : Int} {rows : List (List Nat)} (h : rightB cols rows = true) : cols = (cols.toNat : Int) := by
  obtain ⟨h1, _⟩ := rightB_iff.1 h
  omega
theorem rank_rd (cols : Int) (a : Option Addr) (n c : Nat) (rows : List (List Nat)) (w : World) (h : RD w a n rows) (hn : n ≤ 1000) :
    Calls Try.prog 15 #[.int .i64 cols, .slice a n c] w fun e w' => e = .returned (.tuple #[.int .i64 ((rankR cols rows).1 : Int), .int .i64 (rankR cols rows).2]) ∧ Below w.heap.size w w' := by
  obtain ⟨h1, hs, h2, h3⟩ := h
  unfold rankR
  by_cases hB : rightB cols rows = true
  · rw [if_pos hB]
    have hc := right_pos hB
    generalize cols.toNat = k at hc ⊢
    subst hc
    exact rank_any k a n c hs rows w h2 h3 hB
  · rw [if_neg hB]
    exact rank_bad cols a n c hs rows w h2 (by omega) h3 (by simpa using hB)
/-- rows and an error, as the laws use them. -/
def GivesR (w : World) (o : List (List Nat) × Int) (e : Ending) (w' : World) : Prop := ∃ a c, e = .returned (.tuple #[.slice a o.1.length c, .int .i64 o.2]) ∧ RD w' a o.1.length o.1 ∧ Below w.heap.size w w'
theorem GivesE.R {w w' : World} {out : List (List Nat)} {code : Int} {e : Ending} (h : GivesE w out code e w') : GivesR w (out, code) e w' := by
  obtain ⟨a, c, hs, he, h1, h2, h3⟩ := h
  exact ⟨a, c, he, ⟨rfl, hs, h1, h2⟩, h3⟩
theorem apply_rd (cols : Int) (ar : Option Addr) (nr cr : Nat) (rows : List (List Nat)) (ax : Option Addr) (nx cx : Nat) (xs : List (List Nat)) (w : World) (h : RD w ar nr rows) (k : RD w ax nx xs) (hn : nr ≤ 1000) (hx : nx ≤ 1000) :
    Calls Try.prog 20 #[.int .i64 cols, .slice ar nr cr, .slice ax nx cx] w (GivesR w (applyR cols rows xs)) := by
  obtain ⟨_, hs, h2, h3⟩ := h
  obtain ⟨_, ks, k2, k3⟩ := k
  unfold applyR
  by_cases hB : applyOK cols rows xs = true
  · rw [if_pos hB]
    have hR : rightB cols rows = true := by unfold applyOK at hB; simp only [Bool.and_eq_true] at hB; exact hB.1
    have hc := right_pos hR
    generalize cols.toNat = m at hc
    subst hc
    exact (apply_any m ar nr cr hs rows ax nx cx ks xs w h2 h3 k2 k3 hB).mono fun _ _ h => h.R
  · rw [if_neg hB]
    exact (apply_bad cols ar nr cr hs rows ax nx cx ks xs w h2 h3 k2 k3 (by omega) (by omega) (by simpa using hB)).mono fun _ _ h => h.R
theorem solve_rd (cols : Int) (ar : Option Addr) (nr cr : Nat) (rows : List (List Nat)) (ax : Option Addr) (nx cx : Nat) (xs : List (List Nat)) (w : World) (h : RD w ar nr rows) (k : RD w ax nx xs) (hn : nr ≤ 1000) (hx : nx ≤ 1000) (hw : rightB cols rows = true → widthB xs ≤ 100000) :
    Calls Try.prog 18 #[.int .i64 cols, .slice ar nr cr, .slice ax nx cx] w (GivesR w (solveR cols rows xs)) := by
  obtain ⟨_, hs, h2, h3⟩ := h
  obtain ⟨_, ks, k2, k3⟩ := k
  unfold solveR
  by_cases hB : solveOK cols rows xs = true
  · rw [if_pos hB]
    have hR : rightB cols rows = true := by unfold solveOK at hB; simp only [Bool.and_eq_true] at hB; exact hB.1
    have hw' := hw hR
    have hc := right_pos hR
    generalize cols.toNat = m at hc ⊢
    subst hc
    exact (solve_any m ar nr cr hs rows ax nx cx ks xs w h2 h3 k2 k3 hB hw').mono fun _ _ h => h.R
  · rw [if_neg hB]
    exact (solve_bad cols ar nr cr hs rows ax nx cx ks xs w h2 h3 k2 k3 (by omega) (by omega) (by simpa using hB)).mono fun _ _ h => h.R
theorem great_rd (ar : Option Addr) (nr cr : Nat) (rows : List (List Nat)) (ax : Option Addr) (nx cx : Nat) (xs : List (List Nat)) (w : World) (h : RD w ar nr rows) (k : RD w ax nx xs) :
    Calls Try.prog 13 #[.slice ar nr cr, .slice ax nx cx] w (GreatR rows xs w) := by
  obtain ⟨_, hs, h2, h3⟩ := h
  obtain ⟨_, ks, k2, k3⟩ := k
  exact great_any ar nr cr hs rows ax nx cx ks xs w h2 h3 k2 k3
/-! what the shapes say -/
theorem right_rws {cols : Int} {rows : List (List Nat)} (h : rightB cols rows = true) (hb : ∀ l ∈ rows, Bytes l ∧ l.length ≤ 140737488355328) : Rws rows cols.toNat ∧ 0 < cols.toNat ∧ cols.toNat ≤ 128 ∧ rows.length ≤ 256 ∧ ∀ r ∈ rows, r.length ≤ 128 := by
  obtain ⟨h1, h2, h3, h4⟩ := rightB_iff.1 h
  exact ⟨fun r hr => ⟨(hb r hr).1, by have := h4 r hr; omega⟩, by omega, by omega, h3, fun r hr => by have := h4 r hr; omega⟩
theorem even_rws {xs : List (List Nat)} (h : evenB xs (widthB xs : Nat) = true) (hb : ∀ l ∈ xs, Bytes l ∧ l.length ≤ 140737488355328) : Rws xs (widthB xs) := fun x hx => ⟨(hb x hx).1, by have := evenB_iff.1 h x hx; omega⟩
theorem width_rws {xs : List (List Nat)} {n : Nat} (h : Rws xs n) (h0 : 0 < xs.length) : widthB xs = n := by
  unfold widthB
  rw [List.getD_eq_getElem?_getD, List.getElem?_eq_getElem h0]
  exact (h _ (List.getElem_mem h0)).2
theorem width_le {xs : List (List Nat)} {B : Nat} (h : ∀ x ∈ xs, x.length ≤ B) : widthB xs ≤ B := by
  unfold widthB
  by_cases h0 : 0 < xs.length
  · rw [List.getD_eq_getElem?_getD, List.getElem?_eq_getElem h0]
    exact h _ (List.getElem_mem h0)
  · rw [List.getD_eq_getElem?_getD, List.getElem?_eq_none (by omega)]; simp
theorem even_of_rws {xs : List (List Nat)} {n : Nat} (h : Rws xs n) : evenB xs (widthB xs : Nat) = true := evenB_iff.2 fun x hx => by
  have h1 := (h x hx).2
  have h2 := width_rws h (by have := List.length_pos_of_mem hx; exact this)
  omega
theorem applyOK_iff {cols : Int} {rows xs : List (List Nat)} : applyOK cols rows xs = true ↔ rightB cols rows = true ∧ (xs.length : Int) = cols ∧ evenB xs (widthB xs : Nat) = true := by
  unfold applyOK
  simp only [Bool.and_eq_true, decide_eq_true_iff]
theorem solveOK_iff {cols : Int} {rows xs : List (List Nat)} : solveOK cols rows xs = true ↔ rightB cols rows = true ∧ xs.length = rows.length ∧ evenB xs (widthB xs : Nat) = true := by
  unfold solveOK
  simp only [Bool.and_eq_true, decide_eq_true_iff]
theorem rank_le {cols : Nat} {rows : List (List Nat)} (h : Rws rows cols) : rankOf cols rows ≤ cols ∧ rankOf cols rows ≤ rows.length := ⟨count_le _ _, count_to_n cols h _⟩
theorem solve_kinds (cols : Int) (rows vs : List (List Nat)) : (solveR cols rows vs).2 = 0 ∨ ((solveR cols rows vs).1 = [] ∧ ((solveR cols rows vs).2 = 20 ∨ (solveR cols rows vs).2 = 21 ∨ (solveR cols rows vs).2 = 22)) := by
  unfold solveR
  split
  · rw [solveOut_end]
    unfold solveEnd
    split
    · exact .inr ⟨rfl, .inr (.inl rfl)⟩
    · split
      · exact .inr ⟨rfl, .inr (.inr rfl)⟩
      · exact .inl rfl
  · exact .inr ⟨rfl, .inl rfl⟩
end Go.Proofs.Ytgnnfpnkhemimaa
