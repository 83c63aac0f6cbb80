/-
  rillref02: plain mathematics of Gauss and Jordan, column by column.
-/
import Derived.Test.YtgnnfpnkhemimaaLiX
import Derived.Test.YtgnnfpnkhemimaaGfF
namespace Go.Proofs.Ytgnnfpnkhemimaa

/-! one column -/
def swapR (m : List (List Nat)) (k ρ : Nat) : List (List Nat) := (m.set k (m.getD ρ [])).set ρ (m.getD k [])
def normR (m : List (List Nat)) (ρ c : Nat) : List (List Nat) := m.set ρ (scaleB (inv ((m.getD ρ []).getD c 0)) (m.getD ρ []))
def elimRow (c : Nat) (e r : List Nat) : List Nat := addB r (scaleB (r.getD c 0) e)
def elimTo (ρ c : Nat) (m : List (List Nat)) : Nat → List (List Nat)
  | 0 => m
  | t + 1 => if t = ρ ∨ (m.getD t []).getD c 0 = 0 then elimTo ρ c m t else (elimTo ρ c m t).set t (elimRow c (m.getD ρ []) (m.getD t []))
theorem swapR_length (m : List (List Nat)) (k ρ : Nat) : (swapR m k ρ).length = m.length := by simp [swapR]
theorem normR_length (m : List (List Nat)) (ρ c : Nat) : (normR m ρ c).length = m.length := by simp [normR]
theorem elimTo_length (ρ c : Nat) (m : List (List Nat)) : ∀ t, (elimTo ρ c m t).length = m.length
  | 0 => rfl
  | t + 1 => by
    simp only [elimTo]
    split
    · exact elimTo_length ρ c m t
    · rw [List.length_set, elimTo_length ρ c m t]
theorem set_getD (m : List (List Nat)) (i j : Nat) (x : List Nat) (h : i < m.length) : (m.set i x).getD j [] = if j = i then x else m.getD j [] := by
  rw [List.getD_eq_getElem?_getD, List.getElem?_set]
  by_cases e : j = i
  · subst e; rw [if_pos rfl, if_pos rfl, if_pos h]; rfl
  · rw [if_neg e, if_neg (fun e2 => e e2.symm), List.getD_eq_getElem?_getD]
theorem swapR_getD {m : List (List Nat)} {k ρ : Nat} (hk : k < m.length) (hρ : ρ < m.length) (j : Nat) : (swapR m k ρ).getD j [] = if j = ρ then m.getD k [] else if j = k then m.getD ρ [] else m.getD j [] := by
  unfold swapR
  rw [set_getD _ _ _ _ (by rw [List.length_set]; exact hρ), set_getD _ _ _ _ hk]
theorem normR_getD {m : List (List Nat)} {ρ : Nat} (c : Nat) (hρ : ρ < m.length) (j : Nat) : (normR m ρ c).getD j [] = if j = ρ then scaleB (inv ((m.getD ρ []).getD c 0)) (m.getD ρ []) else m.getD j [] := by
  unfold normR
  rw [set_getD _ _ _ _ hρ]
/-- a row whose element is 0 stays what it is, whichever way. -/
def rowTo (c : Nat) (e r : List Nat) : List Nat := if r.getD c 0 = 0 then r else elimRow c e r
theorem elimTo_getD {ρ c : Nat} {m : List (List Nat)} : ∀ {t : Nat}, t ≤ m.length → ∀ j, (elimTo ρ c m t).getD j [] = if j < t ∧ j ≠ ρ then rowTo c (m.getD ρ []) (m.getD j []) else m.getD j []
  | 0, _, j => by rw [if_neg (by omega)]; rfl
  | t + 1, ht, j => by
    have ih := elimTo_getD (ρ := ρ) (c := c) (m := m) (t := t) (by omega) j
    simp only [elimTo]
    by_cases h : t = ρ ∨ (m.getD t []).getD c 0 = 0
    · rw [if_pos h, ih]
      by_cases e : j = t
      · subst e
        rw [if_neg (by omega)]
        rcases h with h | h
        · rw [if_neg (by omega)]
        · by_cases e2 : j = ρ
          · rw [if_neg (by omega)]
          · rw [if_pos ⟨by omega, e2⟩]; unfold rowTo; rw [if_pos h]
      · by_cases h2 : j < t ∧ j ≠ ρ
        · rw [if_pos h2, if_pos ⟨by omega, h2.2⟩]
        · rw [if_neg h2, if_neg (by omega)]
    · rw [if_neg h, set_getD _ _ _ _ (by rw [elimTo_length]; omega)]
      by_cases e : j = t
      · subst e
        rw [if_pos rfl, if_pos ⟨by omega, fun e => h (.inl e)⟩]
        unfold rowTo
        rw [if_neg (fun e => h (.inr e))]
      · rw [if_neg e, ih]
        by_cases h2 : j < t ∧ j ≠ ρ
        · rw [if_pos h2, if_pos ⟨by omega, h2.2⟩]
        · rw [if_neg h2, if_neg (by omega)]
theorem rowTo_getD (c : Nat) {e r : List Nat} (_hr : Bytes r) (_he : Bytes e) (j : Nat) : (rowTo c e r).getD j 0 = r.getD j 0 ^^^ mul (r.getD c 0) (e.getD j 0) := by
  unfold rowTo
  split
  · rename_i h; rw [h, zero_mul, Nat.xor_zero]
  · unfold elimRow; rw [addB_getD, scaleB_getD]
theorem rowTo_length (c : Nat) {e r : List Nat} (h : e.length = r.length) : (rowTo c e r).length = r.length := by
  unfold rowTo
  split
  · rfl
  · unfold elimRow; rw [addB_length, scaleB_length, h, Nat.max_self]
theorem rowTo_bytes (c : Nat) {e r : List Nat} (hr : Bytes r) : Bytes (rowTo c e r) := by
  unfold rowTo
  split
  · exact hr
  · exact addB_bytes hr (scaleB_bytes (hr.getD c))
theorem dot_rowTo {y : Nat → Nat} {e r : List Nat} (c n : Nat) (hy : ∀ j, y j < 256) (hr : Bytes r) (he : Bytes e) : dot y (rowTo c e r) n = dot y r n ^^^ mul (r.getD c 0) (dot y e n) := by
  unfold dot
  rw [mul_xsum (hr.getD c) (fun j => mul_lt (hy j)), ← xsum_xor]
  apply xsum_congr
  intro j _
  rw [rowTo_getD c hr he, mul_xor (hy j) (hr.getD j) (mul_lt (hr.getD c)), mul_left_comm' (hy j) (hr.getD c) (he.getD j)]
theorem dot_scale {y : Nat → Nat} {r : List Nat} {k : Nat} (n : Nat) (hy : ∀ j, y j < 256) (hr : Bytes r) (hk : k < 256) : dot y (scaleB k r) n = mul k (dot y r n) := dot_mul hy hr hk (fun j _ => scaleB_getD k r j)

/-! what stands after c columns -/
structure Red (L : Nat) (A m : List (List Nat)) (ρ c : Nat) (p : Nat → Nat) : Prop where
  len : m.length = A.length
  rws : Rws m L
  le : ρ ≤ m.length
  pt : ∀ t, t < ρ → p t < c
  inc : ∀ t u, t < u → u < ρ → p t < p u
  one : ∀ t, t < ρ → (m.getD t []).getD (p t) 0 = 1
  zero : ∀ t i, t < ρ → i < m.length → i ≠ t → (m.getD i []).getD (p t) 0 = 0
  lead : ∀ t j, t < ρ → j < p t → (m.getD t []).getD j 0 = 0
  low : ∀ i j, ρ ≤ i → i < m.length → j < c → (m.getD i []).getD j 0 = 0
  ker : ∀ y : Nat → Nat, (∀ j, y j < 256) → ((∀ a ∈ A, dot y a L = 0) ↔ ∀ i, i < m.length → dot y (m.getD i []) L = 0)
theorem mem_getD {m : List (List Nat)} {a : List Nat} : a ∈ m ↔ ∃ i, i < m.length ∧ m.getD i [] = a := by
  rw [List.mem_iff_getElem]
  constructor
  · rintro ⟨i, h, rfl⟩; exact ⟨i, h, by rw [List.getD_eq_getElem?_getD, List.getElem?_eq_getElem h]; rfl⟩
  · rintro ⟨i, h, rfl⟩; exact ⟨i, h, by rw [List.getD_eq_getElem?_getD, List.getElem?_eq_getElem h]; rfl⟩
theorem rws_at {n : Nat} {S : List (List Nat)} (h : Rws S n) {i : Nat} (hi : i < S.length) : Bytes (S.getD i []) ∧ (S.getD i []).length = n := h _ (mem_getD.2 ⟨i, hi, rfl⟩)
theorem red_start {L : Nat} {A : List (List Nat)} (h : Rws A L) : Red L A A 0 0 (fun _ => 0) :=
  ⟨rfl, h, Nat.zero_le _, fun t ht => absurd ht (Nat.not_lt_zero _), fun t u _ h => absurd h (Nat.not_lt_zero _), fun t ht => absurd ht (Nat.not_lt_zero _), fun t i ht => absurd ht (Nat.not_lt_zero _), fun t j ht => absurd ht (Nat.not_lt_zero _), fun i j _ _ hj => absurd hj (Nat.not_lt_zero _), fun y _ => ⟨fun k i hi => k _ (mem_getD.2 ⟨i, hi, rfl⟩), fun k a ha => by
    obtain ⟨i, hi, rfl⟩ := mem_getD.1 ha
    exact k i hi⟩⟩
theorem Red.skip {L : Nat} {A m : List (List Nat)} {ρ c : Nat} {p : Nat → Nat} (h : Red L A m ρ c p) (hz : ∀ i, ρ ≤ i → i < m.length → (m.getD i []).getD c 0 = 0) : Red L A m ρ (c + 1) p :=
  ⟨h.len, h.rws, h.le, fun t ht => Nat.lt_succ_of_lt (h.pt t ht), h.inc, h.one, h.zero, h.lead, fun i j h1 h2 hj => by
    by_cases e : j = c
    · rw [e]; exact hz i h1 h2
    · exact h.low i j h1 h2 (by omega), h.ker⟩
def pivTo (m : List (List Nat)) (k ρ c : Nat) : List (List Nat) := elimTo ρ c (normR (swapR m k ρ) ρ c) m.length
theorem Red.pivot {L : Nat} {A m : List (List Nat)} {ρ c k : Nat} {p : Nat → Nat} (h : Red L A m ρ c p) (hk : ρ ≤ k) (hk2 : k < m.length) (hn : (m.getD k []).getD c 0 ≠ 0) (_hc : c < L) : Red L A (pivTo m k ρ c) (ρ + 1) (c + 1) (fun t => if t = ρ then c else p t) := by
  have hρ : ρ < m.length := by omega
  have hb := rws_at h.rws hk2
  obtain ⟨x, hx⟩ : ∃ x, x = (m.getD k []).getD c 0 := ⟨_, rfl⟩
  rw [← hx] at hn
  have x1 : x < 256 := by rw [hx]; exact hb.1.getD c
  obtain ⟨e, he⟩ : ∃ e, e = scaleB (inv x) (m.getD k []) := ⟨_, rfl⟩
  have eb : Bytes e := by rw [he]; exact scaleB_bytes (inv_lt x)
  have el : e.length = L := by rw [he, scaleB_length, hb.2]
  have eg : ∀ j, e.getD j 0 = mul (inv x) ((m.getD k []).getD j 0) := fun j => by rw [he, scaleB_getD]
  have e1 : e.getD c 0 = 1 := by rw [eg, ← hx, mul_comm (inv_lt x) x1, mul_inv x1 hn]
  have ez : ∀ j, j < c → e.getD j 0 = 0 := fun j hj => by rw [eg, h.low k j hk hk2 hj, mul_zero]
  have ed : ∀ y : Nat → Nat, (∀ j, y j < 256) → dot y e L = mul (inv x) (dot y (m.getD k []) L) := fun y hy => by rw [he, dot_scale L hy hb.1 (inv_lt x)]
  -- the rows of the new list
  have hl : (pivTo m k ρ c).length = m.length := by unfold pivTo; rw [elimTo_length, normR_length, swapR_length]
  have g1 : ∀ j, (normR (swapR m k ρ) ρ c).getD j [] = if j = ρ then e else m.getD (if j = k then ρ else j) [] := fun j => by
    rw [normR_getD c (by rw [swapR_length]; exact hρ), swapR_getD hk2 hρ, swapR_getD hk2 hρ, if_pos rfl, ← hx, ← he]
    by_cases e1 : j = ρ
    · rw [if_pos e1, if_pos e1]
    · rw [if_neg e1, if_neg e1, if_neg e1]
      by_cases e2 : j = k
      · rw [if_pos e2, if_pos e2]
      · rw [if_neg e2, if_neg e2]
  have g : ∀ j, j < m.length → (pivTo m k ρ c).getD j [] = if j = ρ then e else rowTo c e (m.getD (if j = k then ρ else j) []) := fun j hj => by
    unfold pivTo
    rw [elimTo_getD (by rw [normR_length, swapR_length]; exact Nat.le_refl _), g1, g1, if_pos rfl]
    by_cases e1 : j = ρ
    · rw [if_pos e1, if_neg (by omega), if_pos e1]
    · rw [if_neg e1, if_pos ⟨hj, e1⟩, if_neg e1]
  have gρ : (pivTo m k ρ c).getD ρ [] = e := by rw [g ρ hρ, if_pos rfl]
  have gn : ∀ j, j < m.length → j ≠ ρ → ∃ s, s < m.length ∧ (ρ ≤ j → ρ ≤ s) ∧ (j < ρ → s = j) ∧ s = (if j = k then ρ else j) ∧ (pivTo m k ρ c).getD j [] = rowTo c e (m.getD s []) := fun j hj hne => by
    refine ⟨if j = k then ρ else j, ?_, ?_, ?_, rfl, by rw [g j hj, if_neg hne]⟩
    · split <;> omega
    · intro h2; split <;> omega
    · intro h2; rw [if_neg (by omega)]
  have gd : ∀ s j, s < m.length → (rowTo c e (m.getD s [])).getD j 0 = (m.getD s []).getD j 0 ^^^ mul ((m.getD s []).getD c 0) (e.getD j 0) := fun s j hs => rowTo_getD c (rws_at h.rws hs).1 eb j
  have gd0 : ∀ s j, s < m.length → j < c → (rowTo c e (m.getD s [])).getD j 0 = (m.getD s []).getD j 0 := fun s j hs hj => by rw [gd s j hs, ez j hj, mul_zero, Nat.xor_zero]
  have gdc : ∀ s, s < m.length → (rowTo c e (m.getD s [])).getD c 0 = 0 := fun s hs => by rw [gd s c hs, e1, mul_one ((rws_at h.rws hs).1.getD c), Nat.xor_self]
  refine ⟨by rw [hl, h.len], fun r hr => ?_, by rw [hl]; omega, fun t ht => ?_, fun t u htu hu => ?_, fun t ht => ?_, fun t i ht hi hne => ?_, fun t j ht hj => ?_, fun i j h1 h2 hj => ?_, fun y hy => ?_⟩
  · obtain ⟨i, hi, rfl⟩ := mem_getD.1 hr
    rw [hl] at hi
    by_cases e2 : i = ρ
    · rw [e2, gρ]; exact ⟨eb, el⟩
    · obtain ⟨s, hs, -, -, -, e3⟩ := gn i hi e2
      have := rws_at h.rws hs
      rw [e3]
      exact ⟨rowTo_bytes c this.1, by rw [rowTo_length c (by rw [el, this.2]), this.2]⟩
  · show (if t = ρ then c else p t) < c + 1
    by_cases e2 : t = ρ
    · rw [if_pos e2]; omega
    · rw [if_neg e2]; have := h.pt t (by omega); omega
  · show (if t = ρ then c else p t) < if u = ρ then c else p u
    rw [if_neg (by omega)]
    by_cases e2 : u = ρ
    · rw [if_pos e2]; exact h.pt t (by omega)
    · rw [if_neg e2]; exact h.inc t u htu (by omega)
  · show ((pivTo m k ρ c).getD t []).getD (if t = ρ then c else p t) 0 = 1
    by_cases e2 : t = ρ
    · rw [if_pos e2, e2, gρ, e1]
    · obtain ⟨s, hs, -, hst, -, e3⟩ := gn t (by omega) e2
      rw [if_neg e2, e3, gd0 s _ hs (h.pt t (by omega)), hst (by omega), h.one t (by omega)]
  · show ((pivTo m k ρ c).getD i []).getD (if t = ρ then c else p t) 0 = 0
    rw [hl] at hi
    by_cases e2 : t = ρ
    · rw [if_pos e2]
      obtain ⟨s, hs, -, -, -, e3⟩ := gn i hi (by omega)
      rw [e3, gdc s hs]
    · rw [if_neg e2]
      have hp := h.pt t (by omega)
      by_cases e4 : i = ρ
      · rw [e4, gρ, ez _ hp]
      · obtain ⟨s, hs, h5, h6, -, e3⟩ := gn i hi e4
        rw [e3, gd0 s _ hs hp]
        refine h.zero t s (by omega) hs ?_
        by_cases e7 : i < ρ
        · rw [h6 e7]; exact hne
        · have := h5 (by omega); omega
  · show ((pivTo m k ρ c).getD t []).getD j 0 = 0
    have hj' : j < if t = ρ then c else p t := hj
    by_cases e2 : t = ρ
    · rw [if_pos e2] at hj'
      rw [e2, gρ, ez j hj']
    · rw [if_neg e2] at hj'
      have hp := h.pt t (by omega)
      obtain ⟨s, hs, -, hst, -, e3⟩ := gn t (by omega) e2
      rw [e3, gd0 s _ hs (by omega), hst (by omega), h.lead t j (by omega) hj']
  · rw [hl] at h2
    obtain ⟨s, hs, h5, -, -, e3⟩ := gn i h2 (by omega)
    rw [e3]
    by_cases e4 : j = c
    · rw [e4, gdc s hs]
    · rw [gd0 s j hs (by omega), h.low s j (h5 (by omega)) hs (by omega)]
  · rw [h.ker y hy, hl]
    have hd : ∀ s, s < m.length → dot y (rowTo c e (m.getD s [])) L = dot y (m.getD s []) L ^^^ mul ((m.getD s []).getD c 0) (dot y e L) := fun s hs => dot_rowTo c L hy (rws_at h.rws hs).1 eb
    constructor
    · intro q i hi
      have qe : dot y e L = 0 := by rw [ed y hy, q k hk2, mul_zero]
      by_cases e2 : i = ρ
      · rw [e2, gρ, qe]
      · obtain ⟨s, hs, -, -, -, e3⟩ := gn i hi e2
        rw [e3, hd s hs, q s hs, qe, mul_zero]; rfl
    · intro q i hi
      have qe : dot y e L = 0 := by have := q ρ hρ; rwa [gρ] at this
      by_cases e2 : i = k
      · rw [e2]
        rw [ed y hy] at qe
        exact Classical.byContradiction fun e4 => mul_ne (inv_lt x) (dot_lt hy _ _) (inv_ne x) e4 qe
      · have : ∃ j, j < m.length ∧ j ≠ ρ ∧ (if j = k then ρ else j) = i := by
          by_cases e5 : i = ρ
          · exact ⟨k, hk2, by omega, by rw [if_pos rfl, e5]⟩
          · exact ⟨i, hi, e5, by rw [if_neg e2]⟩
        obtain ⟨j, hj, hne, hji⟩ := this
        obtain ⟨s, hs, -, -, h6, e3⟩ := gn j hj hne
        have h7 := q j hj
        rw [e3, hd s hs, qe, mul_zero, Nat.xor_zero, h6, hji] at h7
        exact h7

/-! at the end -/
def pivF (p : Nat → Nat) (m : List (List Nat)) (ρ : Nat) : Wk := fun c => ((List.range ρ).find? (fun t => p t == c)).map (fun t => m.getD t [])
theorem pivF_some {p : Nat → Nat} {m : List (List Nat)} {ρ c : Nat} {r : List Nat} (h : pivF p m ρ c = some r) : ∃ t, t < ρ ∧ p t = c ∧ r = m.getD t [] := by
  unfold pivF at h
  rw [Option.map_eq_some_iff] at h
  obtain ⟨t, h1, h2⟩ := h
  have h3 := List.mem_of_find?_eq_some h1
  have h4 := List.find?_some h1
  exact ⟨t, by simpa using h3, by simpa using h4, h2.symm⟩
theorem pivF_at {p : Nat → Nat} {m : List (List Nat)} {ρ t : Nat} (hi : ∀ t u, t < u → u < ρ → p t < p u) (ht : t < ρ) : pivF p m ρ (p t) = some (m.getD t []) := by
  cases h : pivF p m ρ (p t) with
  | some r =>
    obtain ⟨u, h1, h2, h3⟩ := pivF_some h
    have : u = t := by
      rcases Nat.lt_trichotomy u t with e | e | e
      · have := hi u t e ht; omega
      · exact e
      · have := hi t u e h1; omega
    rw [h3, this]
  | none =>
    unfold pivF at h
    rw [Option.map_eq_none_iff, List.find?_eq_none] at h
    have := h t (by simpa using ht)
    simp at this
theorem pivF_isSome {p : Nat → Nat} {m : List (List Nat)} {ρ c : Nat} (hi : ∀ t u, t < u → u < ρ → p t < p u) : (pivF p m ρ c).isSome = true ↔ ∃ t, t < ρ ∧ p t = c := by
  constructor
  · intro h
    obtain ⟨r, hr⟩ := Option.isSome_iff_exists.1 h
    obtain ⟨t, h1, h2, -⟩ := pivF_some hr
    exact ⟨t, h1, h2⟩
  · rintro ⟨t, h1, rfl⟩
    rw [pivF_at hi h1]; rfl
theorem pivF_count {p : Nat → Nat} {m : List (List Nat)} {n : Nat} : ∀ {ρ : Nat}, (∀ t u, t < u → u < ρ → p t < p u) → (∀ t, t < ρ → p t < n) → count (pivF p m ρ) n = ρ
  | 0, _, _ => by
    have : pivF p m 0 = fun _ => none := by funext c; rfl
    rw [this, count_none]
  | ρ + 1, hi, hp => by
    have hi' : ∀ t u, t < u → u < ρ → p t < p u := fun t u h1 h2 => hi t u h1 (by omega)
    rw [count_new (f := pivF p m ρ) (l := p ρ) ?_ ?_ ?_ (hp ρ (by omega)), pivF_count hi' (fun t ht => hp t (by omega))]
    · cases h : pivF p m ρ (p ρ) with
      | none => rfl
      | some r =>
        obtain ⟨t, h1, h2, -⟩ := pivF_some h
        have := hi t ρ h1 (by omega)
        omega
    · exact (pivF_isSome hi).2 ⟨ρ, by omega, rfl⟩
    · intro c hc
      rw [Bool.eq_iff_iff, pivF_isSome hi', pivF_isSome hi]
      constructor
      · rintro ⟨t, h1, h2⟩; exact ⟨t, by omega, h2⟩
      · rintro ⟨t, h1, h2⟩
        refine ⟨t, ?_, h2⟩
        by_cases e : t = ρ
        · exact absurd (by rw [← h2, e]) hc
        · omega
/-- is there something else than 0 in a row that has no place? -/
def restB (m : List (List Nat)) (ρ : Nat) : Bool := (m.drop ρ).any fun r => r.any (· != 0)
theorem restB_true {m : List (List Nat)} {ρ : Nat} (h : restB m ρ = true) : ∃ i j, ρ ≤ i ∧ i < m.length ∧ j < (m.getD i []).length ∧ (m.getD i []).getD j 0 ≠ 0 := by
  unfold restB at h
  obtain ⟨r, hr, hr2⟩ := List.any_eq_true.1 h
  obtain ⟨x, hx, hx2⟩ := List.any_eq_true.1 hr2
  obtain ⟨i, hi, rfl⟩ := List.mem_iff_getElem.1 hr
  rw [List.getElem_drop] at hx
  rw [List.length_drop] at hi
  have e : m.getD (ρ + i) [] = m[ρ + i] := by rw [List.getD_eq_getElem?_getD, List.getElem?_eq_getElem (by omega)]; rfl
  obtain ⟨j, hj, rfl⟩ := List.mem_iff_getElem.1 hx
  refine ⟨ρ + i, j, by omega, by omega, by rw [e]; exact hj, ?_⟩
  rw [e, List.getD_eq_getElem?_getD, List.getElem?_eq_getElem hj]
  simpa using hx2
theorem restB_of {m : List (List Nat)} {ρ i j : Nat} (h1 : ρ ≤ i) (h2 : i < m.length) (h3 : (m.getD i []).getD j 0 ≠ 0) : restB m ρ = true := by
  have hj : j < (m.getD i []).length := Nat.lt_of_not_le fun e => h3 (by rw [List.getD_eq_getElem?_getD, List.getElem?_eq_none e]; rfl)
  unfold restB
  refine List.any_eq_true.2 ⟨m.getD i [], List.mem_iff_getElem.2 ⟨i - ρ, by rw [List.length_drop]; omega, ?_⟩, List.any_eq_true.2 ⟨(m.getD i [])[j], List.getElem_mem hj, ?_⟩⟩
  · rw [List.getElem_drop, List.getD_eq_getElem?_getD, List.getElem?_eq_getElem h2]
    simp [show ρ + (i - ρ) = i by omega]
  · rw [List.getD_eq_getElem?_getD (l := m.getD i []), List.getElem?_eq_getElem hj] at h3
    simpa using h3
theorem Red.says {cols L : Nat} {A m : List (List Nat)} {ρ : Nat} {p : Nat → Nat} (h : Red L A m ρ cols p) (_hc : cols ≤ L) : Says cols L A (pivF p m ρ, restB m ρ) := by
  have hm : ∀ t, t < ρ → t < m.length := fun t ht => by have := h.le; omega
  refine ⟨⟨fun {c r} hc => ?_, fun {c r} hc => ?_, fun {c r} hc => ?_, fun {c r} hc => ?_, fun {c r c' r'} hc hc' hne => ?_, fun {c r j} hc hj => ?_⟩, fun y hy k c r hc => ?_, fun y hy hf k => ?_, fun hcl => ?_⟩
  · obtain ⟨t, h1, h2, rfl⟩ := pivF_some hc
    exact (rws_at h.rws (hm t h1)).2
  · obtain ⟨t, h1, h2, rfl⟩ := pivF_some hc
    exact (rws_at h.rws (hm t h1)).1
  · obtain ⟨t, h1, rfl, rfl⟩ := pivF_some hc
    exact h.pt t h1
  · obtain ⟨t, h1, rfl, rfl⟩ := pivF_some hc
    exact h.one t h1
  · obtain ⟨t, h1, rfl, rfl⟩ := pivF_some hc
    obtain ⟨u, h3, rfl, rfl⟩ := pivF_some hc'
    exact h.zero u t h3 (hm t h1) (fun e => hne (by rw [e]))
  · obtain ⟨t, h1, rfl, rfl⟩ := pivF_some hc
    exact h.lead t j h1 hj
  · obtain ⟨t, h1, rfl, rfl⟩ := pivF_some hc
    exact (h.ker y hy).1 k t (hm t h1)
  · refine (h.ker y hy).2 fun i hi => ?_
    by_cases e : i < ρ
    · exact k (p i) _ (pivF_at h.inc e)
    · apply xsum_zero
      intro j _
      rcases hf with hf | hf
      · have : (m.getD i []).getD j 0 = 0 := Classical.byContradiction fun e2 => by
          have := restB_of (ρ := ρ) (by omega) hi e2
          rw [show restB m ρ = false from hf] at this
          cases this
        rw [this, mul_zero]
      · by_cases e2 : j < cols
        · rw [h.low i j (by omega) hi e2, mul_zero]
        · rw [hf j (by omega), zero_mul]
  · obtain ⟨i, j, h1, h2, h3, h4⟩ := restB_true hcl
    have hr := rws_at h.rws h2
    exact ⟨m.getD i [], hr.2, hr.1, fun j hj => h.low i j h1 h2 hj, ⟨j, by omega, h4⟩, fun y hy k => (h.ker y hy).1 k i h2⟩
theorem Red.count {L : Nat} {A m : List (List Nat)} {ρ cols : Nat} {p : Nat → Nat} (h : Red L A m ρ cols p) : count (pivF p m ρ) cols = ρ := pivF_count h.inc h.pt
theorem Red.le_cols {L : Nat} {A m : List (List Nat)} {ρ cols : Nat} {p : Nat → Nat} (h : Red L A m ρ cols p) : ρ ≤ cols := by
  have := count_le (pivF p m ρ) cols
  rwa [h.count] at this
theorem inc_ge {ρ : Nat} {p : Nat → Nat} (hi : ∀ t u, t < u → u < ρ → p t < p u) : ∀ t, t < ρ → t ≤ p t
  | 0, _ => Nat.zero_le _
  | t + 1, ht => by have := inc_ge hi t (by omega); have := hi t (t + 1) (by omega) ht; omega
theorem inc_full {n : Nat} {p : Nat → Nat} (hi : ∀ t u, t < u → u < n → p t < p u) (hp : ∀ t, t < n → p t < n) {t : Nat} (ht : t < n) : p t = t := by
  have h1 := inc_ge hi t ht
  have h2 : ∀ d, t + d < n → p t + d ≤ p (t + d) := fun d => by
    induction d with
    | zero => intro _; exact Nat.le_refl _
    | succ d ih =>
      intro hd
      have := ih (by omega)
      have := hi (t + d) (t + (d + 1)) (by omega) hd
      omega
  have := h2 (n - 1 - t) (by omega)
  have := hp (t + (n - 1 - t)) (by omega)
  omega
/-- the places that are worked off hang on what the equations say alone. -/
theorem piv_ker {cols wid : Nat} {A : List (List Nat)} {s : Wk × Bool} (h : Says cols (cols + wid) A s) {c0 : Nat} (hc0 : c0 < cols) : (s.1 c0).isSome = true ↔ ¬ ∃ y, KerT cols wid A y ∧ y c0 ≠ 0 ∧ ∀ j, c0 < j → y j = 0 := by
  constructor
  · rintro hs ⟨y, ⟨h1, h2, h3⟩, h4, h5⟩
    obtain ⟨r, hr⟩ := Option.isSome_iff_exists.1 hs
    have := h.down y h1 h3 c0 r hr
    unfold dot at this
    rw [xsum_one (i := c0) (by omega) (fun j _ hne => ?_), h.sys.one hr, mul_one (h1 c0)] at this
    · exact h4 this
    · by_cases e : j < c0
      · rw [h.sys.lead hr e, mul_zero]
      · rw [h5 j (by omega), zero_mul]
  · intro hk
    cases hn : s.1 c0 with
    | some r => rfl
    | none =>
      exfalso
      refine hk ?_
      obtain ⟨y, hy⟩ : ∃ y : Nat → Nat, y = fun j => if j = c0 then 1 else (rowOf s.1 j).getD c0 0 := ⟨_, rfl⟩
      have ye : ∀ j, y j = if j = c0 then 1 else (rowOf s.1 j).getD c0 0 := fun j => by rw [hy]
      have yn : ∀ j, j ≠ c0 → s.1 j = none → y j = 0 := fun j h1 h2 => by rw [ye, if_neg h1]; unfold rowOf; rw [h2]; rfl
      have y1 : ∀ j, y j < 256 := fun j => by
        rw [ye]
        split
        · decide
        · cases hj : s.1 j with
          | none => unfold rowOf; rw [hj]; simp
          | some r => rw [rowOf_some hj]; exact (h.sys.bytes hj).getD c0
      have y2 : ∀ j, cols ≤ j → y j = 0 := fun j hj => yn j (by omega) (by
        cases e : s.1 j with
        | none => rfl
        | some r => have := h.sys.lt e; omega)
      have y3 : ∀ c r, s.1 c = some r → dot y r (cols + wid) = 0 := fun c r hc => by
        have hcl := h.sys.lt hc
        have hne : c ≠ c0 := fun e => by rw [e, hn] at hc; cases hc
        unfold dot
        rw [xsum_two (i := c) (k := c0) (by omega) (by omega) hne (fun j _ h1 h2 => ?_)]
        · rw [ye c, if_neg hne, rowOf_some hc, h.sys.one hc, mul_one ((h.sys.bytes hc).getD c0), ye c0, if_pos rfl, one_mul ((h.sys.bytes hc).getD c0), Nat.xor_self]
        · cases e : s.1 j with
          | none => rw [yn j h2 e, zero_mul]
          | some r' => rw [h.sys.zero hc e h1, mul_zero]
      refine ⟨y, ⟨y1, y2, h.up y y1 (.inr y2) y3⟩, by rw [ye, if_pos rfl]; decide, fun j hj => ?_⟩
      cases e : s.1 j with
      | none => exact yn j (by omega) e
      | some r => rw [ye, if_neg (by omega), rowOf_some e, h.sys.lead e hj]
theorem count_says {cols wid : Nat} {A : List (List Nat)} {s s' : Wk × Bool} (h : Says cols (cols + wid) A s) (h' : Says cols (cols + wid) A s') : Proofs.Ytgnnfpnkhemimaa.count s.1 cols = Proofs.Ytgnnfpnkhemimaa.count s'.1 cols := by
  apply count_congr
  intro c hc
  rw [Bool.eq_iff_iff, piv_ker h hc, piv_ker h' hc]
theorem Red.rank {cols : Nat} {A m : List (List Nat)} {ρ : Nat} {p : Nat → Nat} (hA : Rws A cols) (h : Red cols A m ρ cols p) : rankOf cols A = ρ := by
  unfold rankOf
  rw [count_says (wid := 0) (says_rows hA) (h.says (Nat.le_refl _)), h.count]
theorem Red.solve {cols wid : Nat} {rows vs m : List (List Nat)} {ρ : Nat} {p : Nat → Nat} (hl : vs.length = rows.length) (hr : Rws rows cols) (hv : Rws vs wid) (h : Red (cols + wid) (augs rows vs) m ρ cols p) :
    solveOut cols rows vs = if ρ < cols then ([], 21) else if restB m cols = true then ([], 22) else ((m.take cols).map (List.drop cols), 0) := by
  have hle := h.le_cols
  rw [solveOut_end, end_congr (says_augs hl hr hv) (h.says (by omega)) (fun y _ => Iff.rfl)]
  unfold solveEnd
  simp only
  rw [h.count]
  by_cases e : ρ < cols
  · rw [if_pos e, if_pos (show ρ ≠ cols by omega)]
  · have e' : ρ = cols := by omega
    rw [if_neg e, if_neg (show ¬ ρ ≠ cols from fun k => k e')]
    subst e'
    by_cases e2 : restB m ρ = true
    · rw [if_pos e2, if_pos e2]
    · rw [if_neg e2, if_neg e2]
      congr 1
      apply List.ext_getElem?
      intro c
      by_cases hc : c < ρ
      · have hp := inc_full h.inc h.pt hc
        have := pivF_at (m := m) h.inc hc
        rw [hp] at this
        rw [solved_at hc, rowOf_some this, List.getElem?_map, List.getElem?_take, if_pos hc, List.getElem?_eq_getElem (by have := h.le; omega), List.getD_eq_getElem?_getD, List.getElem?_eq_getElem (by have := h.le; omega)]
        rfl
      · rw [List.getElem?_eq_none (by rw [solved_len]; omega), List.getElem?_eq_none (by simp; omega)]
end Go.Proofs.Ytgnnfpnkhemimaa
