/-
  The reference of the judge: what Fits asks.
-/
import Derived.Test.YtnefcbcioemfiaaJeD
namespace Go.Proofs.Ytnefcbcioemfiaa
open Go Go.RowKit

theorem mem_placesOf {xs : List ActR} {k : ByteArray} {i : Nat} : i ∈ placesOf xs k ↔ i < xs.length ∧ (xs.getD i dAct).key = k ∧ countsB (xs.getD i dAct) = true := by
  unfold placesOf placesTo
  rw [List.mem_filter, List.mem_range, Bool.and_eq_true, decide_eq_true_eq]
theorem nodup_placesOf (xs : List ActR) (k : ByteArray) : (placesOf xs k).Nodup := List.nodup_range.filter _
def okP (xs : List ActR) (k : ByteArray) (p : Int) : Prop := ∃ i : Nat, i ∈ placesOf xs k ∧ p = (i : Int)
def aP (xs : List ActR) (p : Int) : ActR := xs.getD p.toNat dAct
def befP (xs : List ActR) (q p : Int) : Prop := 0 ≤ q ∧ q < xs.length ∧ 0 ≤ (aP xs q).en ∧ (aP xs q).en < (aP xs p).st
def tellP (xs : List ActR) (l p : Int) : Prop := (aP xs p).d = 2 → tellsB xs l (aP xs p) = true
def nextP (xs : List ActR) (l p : Int) : Int := if (aP xs p).d = 2 then l else p
def refGo (xs : List ActR) (k : ByteArray) : List Int → Int → Prop
  | [], _ => True
  | p :: r, l => okP xs k p ∧ (∀ q ∈ r, q ≠ p ∧ ¬ befP xs q p) ∧ tellP xs l p ∧ refGo xs k r (nextP xs l p)
def refEnd (xs : List ActR) (k : ByteArray) (o : List Int) : Prop := ∀ i : Nat, i ∈ placesOf xs k → sureB (xs.getD i dAct) = true → (i : Int) ∈ o
theorem row_at (xs : List ActR) (k : ByteArray) {i : Nat} (hi : i < (placesOf xs k).length) : (rowOf xs k).getD i dAct = xs.getD ((placesOf xs k).getD i 0) dAct := by
  rw [← placesOf_row, List.getD_eq_getElem?_getD, List.getElem?_map, List.getD_eq_getElem?_getD (l := placesOf xs k), List.getElem?_eq_getElem hi]
  rfl
theorem at_mem (xs : List ActR) (k : ByteArray) {i : Nat} (hi : i < (placesOf xs k).length) : (placesOf xs k).getD i 0 ∈ placesOf xs k := by
  rw [List.getD_eq_getElem?_getD, List.getElem?_eq_getElem hi]
  exact List.getElem_mem hi
theorem mem_at (xs : List ActR) (k : ByteArray) {p : Nat} (h : p ∈ placesOf xs k) : ∃ i, i < (placesOf xs k).length ∧ (placesOf xs k).getD i 0 = p := by
  obtain ⟨i, hi, e⟩ := List.getElem_of_mem h
  exact ⟨i, hi, by rw [List.getD_eq_getElem?_getD, List.getElem?_eq_getElem hi]; exact e⟩
theorem at_inj (xs : List ActR) (k : ByteArray) {i j : Nat} (hi : i < (placesOf xs k).length) (hj : j < (placesOf xs k).length) (e : (placesOf xs k).getD i 0 = (placesOf xs k).getD j 0) : i = j := by
  rw [List.getD_eq_getElem?_getD, List.getElem?_eq_getElem hi, List.getD_eq_getElem?_getD, List.getElem?_eq_getElem hj] at e
  simp only [Option.getD_some] at e
  have hn := List.pairwise_iff_getElem.1 (nodup_placesOf xs k)
  rcases Nat.lt_trichotomy i j with h | h | h
  · exact absurd e (hn i j hi hj h)
  · exact h
  · exact absurd e.symm (hn j i hj hi h)
theorem find_place {xs : List ActR} {k : ByteArray} (p : Int) : (∃ i, (placesOf xs k).findIdx? (fun (q : Nat) => decide ((q : Int) = p)) = some i ∧ i < (placesOf xs k).length ∧ p = (((placesOf xs k).getD i 0 : Nat) : Int)) ∨ ((placesOf xs k).findIdx? (fun (q : Nat) => decide ((q : Int) = p)) = none ∧ ¬ okP xs k p) := by
  cases h : (placesOf xs k).findIdx? (fun (q : Nat) => decide ((q : Int) = p)) with
  | none =>
    refine .inr ⟨rfl, fun ⟨i, hi, e⟩ => ?_⟩
    rw [List.findIdx?_eq_none_iff] at h
    have := h i hi
    rw [e] at this
    simp at this
  | some i =>
    refine .inl ⟨i, rfl, ?_⟩
    obtain ⟨hi, h1, -⟩ := List.findIdx?_eq_some_iff_getElem.1 h
    refine ⟨hi, ?_⟩
    rw [List.getD_eq_getElem?_getD, List.getElem?_eq_getElem hi]
    simp at h1
    exact h1.symm
theorem aP_cast (xs : List ActR) (i : Nat) : aP xs (i : Int) = xs.getD i dAct := rfl
theorem bef_before (xs : List ActR) {i : Nat} (j : Nat) (hi : i < xs.length) : befP xs (i : Int) (j : Int) ↔ beforeB (xs.getD i dAct) (xs.getD j dAct) = true := by
  unfold befP beforeB
  rw [aP_cast, aP_cast, Bool.and_eq_true, decide_eq_true_eq, decide_eq_true_eq]
  constructor
  · rintro ⟨_, _, h3, h4⟩; exact ⟨h3, h4⟩
  · rintro ⟨h3, h4⟩; exact ⟨by omega, by omega, h3, h4⟩
theorem tell_fits (xs : List ActR) (k : ByteArray) {l last : Int} (hl : (l = -1 ∧ last = -1) ∨ ∃ i, i < (placesOf xs k).length ∧ l = (i : Int) ∧ last = (((placesOf xs k).getD i 0 : Nat) : Int)) (p : Nat) : fitsB (rowOf xs k) l (xs.getD p dAct) = true ↔ tellP xs last (p : Int) := by
  unfold fitsB tellP tellsB
  rw [aP_cast]
  by_cases h2 : (xs.getD p dAct).d = 2
  · rw [if_pos h2]
    rcases hl with ⟨rfl, rfl⟩ | ⟨i, hi, rfl, rfl⟩
    · rw [if_pos (.inl rfl), if_pos (.inl (by decide))]
      exact ⟨fun h _ => h, fun h => h h2⟩
    · have e : (rowOf xs k).getD ((i : Int)).toNat dAct = xs.getD ((((placesOf xs k).getD i 0 : Nat) : Int)).toNat dAct := row_at xs k hi
      rw [e]
      have h3 : ¬ ((i : Int) = -1) := by omega
      have h4 : ¬ ((((placesOf xs k).getD i 0 : Nat) : Int) < 0) := by omega
      simp only [h3, h4, false_or]
      exact ⟨fun h _ => h, fun h => h h2⟩
  · rw [if_neg h2]
    exact ⟨fun _ h => absurd h h2, fun _ => rfl⟩
theorem fits_ref {xs : List ActR} {k : ByteArray} : ∀ (o : List Int) (T : Nat) (l last : Int) (pre : List Int), (∀ p ∈ pre, okP xs k p) → (∀ i, i < (placesOf xs k).length → (T.testBit i = true ↔ (((placesOf xs k).getD i 0 : Nat) : Int) ∈ pre)) →
    ((l = -1 ∧ last = -1) ∨ ∃ i, i < (placesOf xs k).length ∧ l = (i : Int) ∧ last = (((placesOf xs k).getD i 0 : Nat) : Int)) →
    (fitsR (rowOf xs k) (placesOf xs k) o T l = true ↔ (∀ q ∈ o, q ∉ pre) ∧ (∀ p ∈ pre, ∀ q ∈ o, ¬ befP xs q p) ∧ refGo xs k o last ∧ ∀ i : Nat, i ∈ placesOf xs k → sureB (xs.getD i dAct) = true → (i : Int) ∈ pre ∨ (i : Int) ∈ o)
  | [], T, l, last, pre, hp, hT, hl => by
    have hlen := places_row_len xs k
    rw [fitsR]
    unfold completeB
    rw [Bool.not_eq_true', List.any_eq_false]
    constructor
    · intro h
      refine ⟨fun q hq => (nomatch hq), fun p _ q hq => (nomatch hq), trivial, fun i hi hs => .inl ?_⟩
      obtain ⟨m, hm, e⟩ := mem_at xs k hi
      have h1 := h m (by rw [List.mem_range]; omega)
      rw [row_at xs k hm, e, hs, Bool.and_true, Bool.not_eq_true', Bool.not_eq_false] at h1
      rw [← e]
      exact (hT m hm).1 h1
    · rintro ⟨-, -, -, h⟩ m hm
      rw [List.mem_range, ← hlen] at hm
      rw [row_at xs k hm]
      intro hc
      rw [Bool.and_eq_true, Bool.not_eq_true'] at hc
      rcases h _ (at_mem xs k hm) hc.2 with h1 | h1
      · rw [(hT m hm).2 h1] at hc; cases hc.1
      · nomatch h1
  | p :: r, T, l, last, pre, hp, hT, hl => by
    have hlen := places_row_len xs k
    rw [fitsR]
    rcases find_place (xs := xs) (k := k) p with ⟨i, e, hi, rfl⟩ | ⟨e, hno⟩
    case inr =>
      rw [e]
      constructor
      · intro h; cases h
      · rintro ⟨-, -, h, -⟩; exact absurd h.1 hno
    rw [e]
    obtain ⟨pn, hpn⟩ : ∃ pn, pn = (placesOf xs k).getD i 0 := ⟨_, rfl⟩
    have hpm : pn ∈ placesOf xs k := hpn ▸ at_mem xs k hi
    have hpl : pn < xs.length := (mem_placesOf.1 hpm).1
    have hrow : (rowOf xs k).getD i dAct = xs.getD pn dAct := by rw [row_at xs k hi, ← hpn]
    have IH := fits_ref r (behT T i) (behL (rowOf xs k) l i) (nextP xs last (pn : Int)) ((pn : Int) :: pre)
      (fun q hq => by rcases List.mem_cons.1 hq with rfl | hq; exact ⟨pn, hpm, rfl⟩; exact hp q hq)
      (fun j hj => by
        rw [testBit_beh, Bool.or_eq_true, hT j hj, decide_eq_true_eq, List.mem_cons, hpn]
        constructor
        · rintro (h | rfl)
          · exact .inr h
          · exact .inl rfl
        · rintro (h | h)
          · exact .inr (at_inj xs k hi hj (by omega))
          · exact .inl h)
      (by
        unfold behL nextP
        rw [hrow, aP_cast]
        by_cases h2 : (xs.getD pn dAct).d = 2
        · rw [if_pos h2, if_pos h2]; exact hl
        · rw [if_neg h2, if_neg h2]; exact .inr ⟨i, hi, rfl, by rw [hpn]⟩)
    rw [← hpn]
    simp only []
    rw [Bool.and_eq_true, IH]
    have hfol : followsB (rowOf xs k) T l i = true ↔ (pn : Int) ∉ pre ∧ (∀ q ∈ pre, ¬ befP xs (pn : Int) q) ∧ tellP xs last (pn : Int) := by
      unfold followsB
      rw [Bool.and_eq_true, Bool.and_eq_true, Bool.not_eq_true', Bool.not_eq_true', hrow, tell_fits xs k hl pn, and_assoc]
      refine and_congr ?_ (and_congr ?_ Iff.rfl)
      · rw [← Bool.not_eq_true, hT i hi, ← hpn]
      · unfold lateB
        rw [List.any_eq_false]
        constructor
        · intro h q hq hb
          obtain ⟨m, hm, rfl⟩ := hp q hq
          obtain ⟨j, hj, e2⟩ := mem_at xs k hm
          have h1 := h j (by rw [List.mem_range]; omega)
          rw [Bool.and_eq_true, hrow, row_at xs k hj, e2, ← bef_before xs m hpl, hT j hj, e2] at h1
          exact h1 ⟨hq, hb⟩
        · intro h j hj
          rw [List.mem_range, ← hlen] at hj
          rw [Bool.and_eq_true, hrow, row_at xs k hj, hT j hj]
          rintro ⟨h1, h2⟩
          exact h _ h1 ((bef_before xs _ hpl).2 h2)
    rw [hfol]
    constructor
    · rintro ⟨⟨a1, a2, a3⟩, b1, b2, b3, b4⟩
      refine ⟨fun q hq => ?_, fun q hq z hz => ?_, ⟨⟨pn, hpm, rfl⟩, fun q hq => ⟨fun e => b1 q hq (by rw [e]; simp), b2 _ (by simp) q hq⟩, a3, b3⟩, fun j hj hs => ?_⟩
      · rcases List.mem_cons.1 hq with rfl | hq
        · exact a1
        · exact fun hm => b1 q hq (by simp [hm])
      · rcases List.mem_cons.1 hz with rfl | hz
        · exact a2 q hq
        · exact b2 q (by simp [hq]) z hz
      · rcases b4 j hj hs with h | h
        · rcases List.mem_cons.1 h with h | h
          · exact .inr (by rw [h]; simp)
          · exact .inl h
        · exact .inr (by simp [h])
    · rintro ⟨a1, a2, ⟨-, c2, c3, c4⟩, a4⟩
      refine ⟨⟨a1 _ (by simp), fun q hq => a2 q hq _ (by simp), c3⟩, fun q hq hm => ?_, fun q hq z hz => ?_, c4, fun j hj hs => ?_⟩
      · rcases List.mem_cons.1 hm with h | h
        · exact (c2 q hq).1 h
        · exact a1 q (by simp [hq]) h
      · rcases List.mem_cons.1 hq with rfl | hq
        · exact (c2 z hz).2
        · exact a2 q hq z (by simp [hz])
      · rcases a4 j hj hs with h | h
        · exact .inl (by simp [h])
        · rcases List.mem_cons.1 h with h | h
          · exact .inl (by rw [h]; simp)
          · exact .inr h
theorem fitsOf_ref (xs : List ActR) (k : ByteArray) (o : List Int) : fitsOf xs k o = true ↔ checkR xs = 0 ∧ refGo xs k o (-1) ∧ refEnd xs k o := by
  unfold fitsOf
  rw [Bool.and_eq_true, decide_eq_true_eq, fits_ref o 0 (-1) (-1) [] (fun p hp => nomatch hp) (fun i _ => by simp) (.inl ⟨rfl, rfl⟩)]
  constructor
  · rintro ⟨h0, -, -, h1, h2⟩
    exact ⟨h0, h1, fun i hi hs => by rcases h2 i hi hs with h | h; exact (nomatch h); exact h⟩
  · rintro ⟨h0, h1, h2⟩
    exact ⟨h0, fun q _ h => (nomatch h), fun p hp => (nomatch hp), h1, fun i hi hs => .inr (h2 i hi hs)⟩
end Go.Proofs.Ytnefcbcioemfiaa
