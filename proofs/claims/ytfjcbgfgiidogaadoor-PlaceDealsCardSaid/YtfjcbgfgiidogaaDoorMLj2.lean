/-
  Lj2: LjG LjF LjH
-/
import Derived.StillTailTactics
import Derived.Test.YtfjcbgfgiidogaaDoorMBase
import Derived.Test.YtfjcbgfgiidogaaDoorMLi2
import Derived.Test.YtfjcbgfgiidogaaDoorMLj1
namespace Go.Proofs.YtfjcbgfgiidogaaDoor

/-! one column -/
def swapR (m : List (List Nat)) (k ρ : Nat) : List (List Nat) := (m.set k (m.getD ρ [])).set ρ (m.getD k [])
def normR (m : List (List Nat)) (ρ c : Nat) : List (List Nat) := m.set ρ (scaleB (inv ((m.getD ρ []).getD c 0)) (m.getD ρ []))
def elimRow (c : Nat) (e r : List Nat) : List Nat := addB r (scaleB (r.getD c 0) e)
def elimTo (ρ c : Nat) (m : List (List Nat)) : Nat → List (List Nat)
  | 0 => m
  | t + 1 => if t = ρ ∨ (m.getD t []).getD c 0 = 0 then elimTo ρ c m t else (elimTo ρ c m t).set t (elimRow c (m.getD ρ []) (m.getD t []))
theorem swapR_length (m : List (List Nat)) (k ρ : Nat) : (swapR m k ρ).length = m.length := by simp [swapR]
theorem normR_length (m : List (List Nat)) (ρ c : Nat) : (normR m ρ c).length = m.length := by simp [normR]
theorem elimTo_length (ρ c : Nat) (m : List (List Nat)) : ∀ t, (elimTo ρ c m t).length = m.length
  | 0 => rfl
  | t + 1 => by
    simp only [elimTo]
    split
    · exact elimTo_length ρ c m t
    · rw [List.length_set, elimTo_length ρ c m t]
theorem set_getD (m : List (List Nat)) (i j : Nat) (x : List Nat) (h : i < m.length) : (m.set i x).getD j [] = if j = i then x else m.getD j [] := by
  rw [List.getD_eq_getElem?_getD, List.getElem?_set]
  by_cases e : j = i
  · subst e; rw [if_pos rfl, if_pos rfl, if_pos h]; rfl
  · rw [if_neg e, if_neg (fun e2 => e e2.symm), List.getD_eq_getElem?_getD]
theorem swapR_getD {m : List (List Nat)} {k ρ : Nat} (hk : k < m.length) (hρ : ρ < m.length) (j : Nat) : (swapR m k ρ).getD j [] = if j = ρ then m.getD k [] else if j = k then m.getD ρ [] else m.getD j [] := by
  unfold swapR
  rw [set_getD _ _ _ _ (by rw [List.length_set]; exact hρ), set_getD _ _ _ _ hk]
theorem normR_getD {m : List (List Nat)} {ρ : Nat} (c : Nat) (hρ : ρ < m.length) (j : Nat) : (normR m ρ c).getD j [] = if j = ρ then scaleB (inv ((m.getD ρ []).getD c 0)) (m.getD ρ []) else m.getD j [] := by
  unfold normR
  rw [set_getD _ _ _ _ hρ]
/-- a row whose element is 0 stays what it is, whichever way. -/
def rowTo (c : Nat) (e r : List Nat) : List Nat := if r.getD c 0 = 0 then r else elimRow c e r
theorem elimTo_getD {ρ c : Nat} {m : List (List Nat)} : ∀ {t : Nat}, t ≤ m.length → ∀ j, (elimTo ρ c m t).getD j [] = if j < t ∧ j ≠ ρ then rowTo c (m.getD ρ []) (m.getD j []) else m.getD j []
  | 0, _, j => by rw [if_neg (by omega)]; rfl
  | t + 1, ht, j => by
    have ih := elimTo_getD (ρ := ρ) (c := c) (m := m) (t := t) (by omega) j
    simp only [elimTo]
    by_cases h : t = ρ ∨ (m.getD t []).getD c 0 = 0
    · rw [if_pos h, ih]
      by_cases e : j = t
      · subst e
        rw [if_neg (by omega)]
        rcases h with h | h
        · rw [if_neg (by omega)]
        · by_cases e2 : j = ρ
          · rw [if_neg (by omega)]
          · rw [if_pos ⟨by omega, e2⟩]; unfold rowTo; rw [if_pos h]
      · by_cases h2 : j < t ∧ j ≠ ρ
        · rw [if_pos h2, if_pos ⟨by omega, h2.2⟩]
        · rw [if_neg h2, if_neg (by omega)]
    · rw [if_neg h, set_getD _ _ _ _ (by rw [elimTo_length]; omega)]
      by_cases e : j = t
      · subst e
        rw [if_pos rfl, if_pos ⟨by omega, fun e => h (.inl e)⟩]
        unfold rowTo
        rw [if_neg (fun e => h (.inr e))]
      · rw [if_neg e, ih]
        by_cases h2 : j < t ∧ j ≠ ρ
        · rw [if_pos h2, if_pos ⟨by omega, h2.2⟩]
        · rw [if_neg h2, if_neg (by omega)]
theorem rowTo_getD (c : Nat) {e r : List Nat} (_hr : Bytes r) (_he : Bytes e) (j : Nat) : (rowTo c e r).getD j 0 = r.getD j 0 ^^^ mul (r.getD c 0) (e.getD j 0) := by
  unfold rowTo
  split
  · rename_i h; rw [h, zero_mul, Nat.xor_zero]
  · unfold elimRow; rw [addB_getD, scaleB_getD]
theorem rowTo_length (c : Nat) {e r : List Nat} (h : e.length = r.length) : (rowTo c e r).length = r.length := by
  unfold rowTo
  split
  · rfl
  · unfold elimRow; rw [addB_length, scaleB_length, h, Nat.max_self]
theorem rowTo_bytes (c : Nat) {e r : List Nat} (hr : Bytes r) : Bytes (rowTo c e r) := by
  unfold rowTo
  split
  · exact hr
  · exact addB_bytes hr (scaleB_bytes (hr.getD c))
theorem dot_rowTo {y : Nat → Nat} {e r : List Nat} (c n : Nat) (hy : ∀ j, y j < 256) (hr : Bytes r) (he : Bytes e) : dot y (rowTo c e r) n = dot y r n ^^^ mul (r.getD c 0) (dot y e n) := by
  unfold dot
  rw [mul_xsum (hr.getD c) (fun j => mul_lt (hy j)), ← xsum_xor]
  apply xsum_congr
  intro j _
  rw [rowTo_getD c hr he, mul_xor (hy j) (hr.getD j) (mul_lt (hr.getD c)), mul_left_comm' (hy j) (hr.getD c) (he.getD j)]
theorem dot_scale {y : Nat → Nat} {r : List Nat} {k : Nat} (n : Nat) (hy : ∀ j, y j < 256) (hr : Bytes r) (hk : k < 256) : dot y (scaleB k r) n = mul k (dot y r n) := dot_mul hy hr hk (fun j _ => scaleB_getD k r j)

/-! what stands after c columns -/
structure Red (L : Nat) (A m : List (List Nat)) (ρ c : Nat) (p : Nat → Nat) : Prop where
  len : m.length = A.length
  rws : Rws m L
  le : ρ ≤ m.length
  pt : ∀ t, t < ρ → p t < c
  inc : ∀ t u, t < u → u < ρ → p t < p u
  one : ∀ t, t < ρ → (m.getD t []).getD (p t) 0 = 1
  zero : ∀ t i, t < ρ → i < m.length → i ≠ t → (m.getD i []).getD (p t) 0 = 0
  lead : ∀ t j, t < ρ → j < p t → (m.getD t []).getD j 0 = 0
  low : ∀ i j, ρ ≤ i → i < m.length → j < c → (m.getD i []).getD j 0 = 0
  ker : ∀ y : Nat → Nat, (∀ j, y j < 256) → ((∀ a ∈ A, dot y a L = 0) ↔ ∀ i, i < m.length → dot y (m.getD i []) L = 0)
theorem mem_getD {m : List (List Nat)} {a : List Nat} : a ∈ m ↔ ∃ i, i < m.length ∧ m.getD i [] = a := by
  rw [List.mem_iff_getElem]
  constructor
  · rintro ⟨i, h, rfl⟩; exact ⟨i, h, by rw [List.getD_eq_getElem?_getD, List.getElem?_eq_getElem h]; rfl⟩
  · rintro ⟨i, h, rfl⟩; exact ⟨i, h, by rw [List.getD_eq_getElem?_getD, List.getElem?_eq_getElem h]; rfl⟩
theorem rws_at {n : Nat} {S : List (List Nat)} (h : Rws S n) {i : Nat} (hi : i < S.length) : Bytes (S.getD i []) ∧ (S.getD i []).length = n := h _ (mem_getD.2 ⟨i, hi, rfl⟩)
theorem red_start {L : Nat} {A : List (List Nat)} (h : Rws A L) : Red L A A 0 0 (fun _ => 0) :=
  ⟨rfl, h, Nat.zero_le _, fun t ht => absurd ht (Nat.not_lt_zero _), fun t u _ h => absurd h (Nat.not_lt_zero _), fun t ht => absurd ht (Nat.not_lt_zero _), fun t i ht => absurd ht (Nat.not_lt_zero _), fun t j ht => absurd ht (Nat.not_lt_zero _), fun i j _ _ hj => absurd hj (Nat.not_lt_zero _), fun y _ => ⟨fun k i hi => k _ (mem_getD.2 ⟨i, hi, rfl⟩), fun k a ha => by
    obtain ⟨i, hi, rfl⟩ := mem_getD.1 ha
    exact k i hi⟩⟩
theorem Red.skip {L : Nat} {A m : List (List Nat)} {ρ c : Nat} {p : Nat → Nat} (h : Red L A m ρ c p) (hz : ∀ i, ρ ≤ i → i < m.length → (m.getD i []).getD c 0 = 0) : Red L A m ρ (c + 1) p :=
  ⟨h.len, h.rws, h.le, fun t ht => Nat.lt_succ_of_lt (h.pt t ht), h.inc, h.one, h.zero, h.lead, fun i j h1 h2 hj => by
    by_cases e : j = c
    · rw [e]; exact hz i h1 h2
    · exact h.low i j h1 h2 (by omega), h.ker⟩
def pivTo (m : List (List Nat)) (k ρ c : Nat) : List (List Nat) := elimTo ρ c (normR (swapR m k ρ) ρ c) m.length
theorem Red.pivot {L : Nat} {A m : List (List Nat)} {ρ c k : Nat} {p : Nat → Nat} (h : Red L A m ρ c p) (hk : ρ ≤ k) (hk2 : k < m.length) (hn : (m.getD k []).getD c 0 ≠ 0) (_hc : c < L) : Red L A (pivTo m k ρ c) (ρ + 1) (c + 1) (fun t => if t = ρ then c else p t) := by
  have hρ : ρ < m.length := by omega
  have hb := rws_at h.rws hk2
  obtain ⟨x, hx⟩ : ∃ x, x = (m.getD k []).getD c 0 := ⟨_, rfl⟩
  rw [← hx] at hn
  have x1 : x < 256 := by rw [hx]; exact hb.1.getD c
  obtain ⟨e, he⟩ : ∃ e, e = scaleB (inv x) (m.getD k []) := ⟨_, rfl⟩
  have eb : Bytes e := by rw [he]; exact scaleB_bytes (inv_lt x)
  have el : e.length = L := by rw [he, scaleB_length, hb.2]
  have eg : ∀ j, e.getD j 0 = mul (inv x) ((m.getD k []).getD j 0) := fun j => by rw [he, scaleB_getD]
  have e1 : e.getD c 0 = 1 := by rw [eg, ← hx, mul_comm (inv_lt x) x1, mul_inv x1 hn]
  have ez : ∀ j, j < c → e.getD j 0 = 0 := fun j hj => by rw [eg, h.low k j hk hk2 hj, mul_zero]
  have ed : ∀ y : Nat → Nat, (∀ j, y j < 256) → dot y e L = mul (inv x) (dot y (m.getD k []) L) := fun y hy => by rw [he, dot_scale L hy hb.1 (inv_lt x)]
  -- the rows of the new list
  have hl : (pivTo m k ρ c).length = m.length := by unfold pivTo; rw [elimTo_length, normR_length, swapR_length]
  have g1 : ∀ j, (normR (swapR m k ρ) ρ c).getD j [] = if j = ρ then e else m.getD (if j = k then ρ else j) [] := fun j => by
    rw [normR_getD c (by rw [swapR_length]; exact hρ), swapR_getD hk2 hρ, swapR_getD hk2 hρ, if_pos rfl, ← hx, ← he]
    by_cases e1 : j = ρ
    · rw [if_pos e1, if_pos e1]
    · rw [if_neg e1, if_neg e1, if_neg e1]
      by_cases e2 : j = k
      · rw [if_pos e2, if_pos e2]
      · rw [if_neg e2, if_neg e2]
  have g : ∀ j, j < m.length → (pivTo m k ρ c).getD j [] = if j = ρ then e else rowTo c e (m.getD (if j = k then ρ else j) []) := fun j hj => by
    unfold pivTo
    rw [elimTo_getD (by rw [normR_length, swapR_length]; exact Nat.le_refl _), g1, g1, if_pos rfl]
    by_cases e1 : j = ρ
    · rw [if_pos e1, if_neg (by omega), if_pos e1]
    · rw [if_neg e1, if_pos ⟨hj, e1⟩, if_neg e1]
  have gρ : (pivTo m k ρ c).getD ρ [] = e := by rw [g ρ hρ, if_pos rfl]
  have gn : ∀ j, j < m.length → j ≠ ρ → ∃ s, s < m.length ∧ (ρ ≤ j → ρ ≤ s) ∧ (j < ρ → s = j) ∧ s = (if j = k then ρ else j) ∧ (pivTo m k ρ c).getD j [] = rowTo c e (m.getD s []) := fun j hj hne => by
    refine ⟨if j = k then ρ else j, ?_, ?_, ?_, rfl, by rw [g j hj, if_neg hne]⟩
    · split <;> omega
    · intro h2; split <;> omega
    · intro h2; rw [if_neg (by omega)]
  have gd : ∀ s j, s < m.length → (rowTo c e (m.getD s [])).getD j 0 = (m.getD s []).getD j 0 ^^^ mul ((m.getD s []).getD c 0) (e.getD j 0) := fun s j hs => rowTo_getD c (rws_at h.rws hs).1 eb j
  have gd0 : ∀ s j, s < m.length → j < c → (rowTo c e (m.getD s [])).getD j 0 = (m.getD s []).getD j 0 := fun s j hs hj => by rw [gd s j hs, ez j hj, mul_zero, Nat.xor_zero]
  have gdc : ∀ s, s < m.length → (rowTo c e (m.getD s [])).getD c 0 = 0 := fun s hs => by rw [gd s c hs, e1, mul_one ((rws_at h.rws hs).1.getD c), Nat.xor_self]
  refine ⟨by rw [hl, h.len], fun r hr => ?_, by rw [hl]; omega, fun t ht => ?_, fun t u htu hu => ?_, fun t ht => ?_, fun t i ht hi hne => ?_, fun t j ht hj => ?_, fun i j h1 h2 hj => ?_, fun y hy => ?_⟩
  · obtain ⟨i, hi, rfl⟩ := mem_getD.1 hr
    rw [hl] at hi
    by_cases e2 : i = ρ
    · rw [e2, gρ]; exact ⟨eb, el⟩
    · obtain ⟨s, hs, -, -, -, e3⟩ := gn i hi e2
      have := rws_at h.rws hs
      rw [e3]
      exact ⟨rowTo_bytes c this.1, by rw [rowTo_length c (by rw [el, this.2]), this.2]⟩
  · show (if t = ρ then c else p t) < c + 1
    by_cases e2 : t = ρ
    · rw [if_pos e2]; omega
    · rw [if_neg e2]; have := h.pt t (by omega); omega
  · show (if t = ρ then c else p t) < if u = ρ then c else p u
    rw [if_neg (by omega)]
    by_cases e2 : u = ρ
    · rw [if_pos e2]; exact h.pt t (by omega)
    · rw [if_neg e2]; exact h.inc t u htu (by omega)
  · show ((pivTo m k ρ c).getD t []).getD (if t = ρ then c else p t) 0 = 1
    by_cases e2 : t = ρ
    · rw [if_pos e2, e2, gρ, e1]
    · obtain ⟨s, hs, -, hst, -, e3⟩ := gn t (by omega) e2
      rw [if_neg e2, e3, gd0 s _ hs (h.pt t (by omega)), hst (by omega), h.one t (by omega)]
  · show ((pivTo m k ρ c).getD i []).getD (if t = ρ then c else p t) 0 = 0
    rw [hl] at hi
    by_cases e2 : t = ρ
    · rw [if_pos e2]
      obtain ⟨s, hs, -, -, -, e3⟩ := gn i hi (by omega)
      rw [e3, gdc s hs]
    · rw [if_neg e2]
      have hp := h.pt t (by omega)
      by_cases e4 : i = ρ
      · rw [e4, gρ, ez _ hp]
      · obtain ⟨s, hs, h5, h6, -, e3⟩ := gn i hi e4
        rw [e3, gd0 s _ hs hp]
        refine h.zero t s (by omega) hs ?_
        by_cases e7 : i < ρ
        · rw [h6 e7]; exact hne
        · have := h5 (by omega); omega
  · show ((pivTo m k ρ c).getD t []).getD j 0 = 0
    have hj' : j < if t = ρ then c else p t := hj
    by_cases e2 : t = ρ
    · rw [if_pos e2] at hj'
      rw [e2, gρ, ez j hj']
    · rw [if_neg e2] at hj'
      have hp := h.pt t (by omega)
      obtain ⟨s, hs, -, hst, -, e3⟩ := gn t (by omega) e2
      rw [e3, gd0 s _ hs (by omega), hst (by omega), h.lead t j (by omega) hj']
  · rw [hl] at h2
    obtain ⟨s, hs, h5, -, -, e3⟩ := gn i h2 (by omega)
    rw [e3]
    by_cases e4 : j = c
    · rw [e4, gdc s hs]
    · rw [gd0 s j hs (by omega), h.low s j (h5 (by omega)) hs (by omega)]
  · rw [h.ker y hy, hl]
    have hd : ∀ s, s < m.length → dot y (rowTo c e (m.getD s [])) L = dot y (m.getD s []) L ^^^ mul ((m.getD s []).getD c 0) (dot y e L) := fun s hs => dot_rowTo c L hy (rws_at h.rws hs).1 eb
    constructor
    · intro q i hi
      have qe : dot y e L = 0 := by rw [ed y hy, q k hk2, mul_zero]
      by_cases e2 : i = ρ
      · rw [e2, gρ, qe]
      · obtain ⟨s, hs, -, -, -, e3⟩ := gn i hi e2
        rw [e3, hd s hs, q s hs, qe, mul_zero]; rfl
    · intro q i hi
      have qe : dot y e L = 0 := by have := q ρ hρ; rwa [gρ] at this
      by_cases e2 : i = k
      · rw [e2]
        rw [ed y hy] at qe
        exact Classical.byContradiction fun e4 => mul_ne (inv_lt x) (dot_lt hy _ _) (inv_ne x) e4 qe
      · have : ∃ j, j < m.length ∧ j ≠ ρ ∧ (if j = k then ρ else j) = i := by
          by_cases e5 : i = ρ
          · exact ⟨k, hk2, by omega, by rw [if_pos rfl, e5]⟩
          · exact ⟨i, hi, e5, by rw [if_neg e2]⟩
        obtain ⟨j, hj, hne, hji⟩ := this
        obtain ⟨s, hs, -, -, h6, e3⟩ := gn j hj hne
        have h7 := q j hj
        rw [e3, hd s hs, qe, mul_zero, Nat.xor_zero, h6, hji] at h7
        exact h7

/-! at the end -/
def pivF (p : Nat → Nat) (m : List (List Nat)) (ρ : Nat) : Wk := fun c => ((List.range ρ).find? (fun t => p t == c)).map (fun t => m.getD t [])
theorem pivF_some {p : Nat → Nat} {m : List (List Nat)} {ρ c : Nat} {r : List Nat} (h : pivF p m ρ c = some r) : ∃ t, t < ρ ∧ p t = c ∧ r = m.getD t [] := by
  unfold pivF at h
  rw [Option.map_eq_some_iff] at h
  obtain ⟨t, h1, h2⟩ := h
  have h3 := List.mem_of_find?_eq_some h1
  have h4 := List.find?_some h1
  exact ⟨t, by simpa using h3, by simpa using h4, h2.symm⟩
theorem pivF_at {p : Nat → Nat} {m : List (List Nat)} {ρ t : Nat} (hi : ∀ t u, t < u → u < ρ → p t < p u) (ht : t < ρ) : pivF p m ρ (p t) = some (m.getD t []) := by
  cases h : pivF p m ρ (p t) with
  | some r =>
    obtain ⟨u, h1, h2, h3⟩ := pivF_some h
    have : u = t := by
      rcases Nat.lt_trichotomy u t with e | e | e
      · have := hi u t e ht; omega
      · exact e
      · have := hi t u e h1; omega
    rw [h3, this]
  | none =>
    unfold pivF at h
    rw [Option.map_eq_none_iff, List.find?_eq_none] at h
    have := h t (by simpa using ht)
    simp at this
theorem pivF_isSome {p : Nat → Nat} {m : List (List Nat)} {ρ c : Nat} (hi : ∀ t u, t < u → u < ρ → p t < p u) : (pivF p m ρ c).isSome = true ↔ ∃ t, t < ρ ∧ p t = c := by
  constructor
  · intro h
    obtain ⟨r, hr⟩ := Option.isSome_iff_exists.1 h
    obtain ⟨t, h1, h2, -⟩ := pivF_some hr
    exact ⟨t, h1, h2⟩
  · rintro ⟨t, h1, rfl⟩
    rw [pivF_at hi h1]; rfl
theorem pivF_count {p : Nat → Nat} {m : List (List Nat)} {n : Nat} : ∀ {ρ : Nat}, (∀ t u, t < u → u < ρ → p t < p u) → (∀ t, t < ρ → p t < n) → count (pivF p m ρ) n = ρ
  | 0, _, _ => by
    have : pivF p m 0 = fun _ => none := by funext c; rfl
    rw [this, count_none]
  | ρ + 1, hi, hp => by
    have hi' : ∀ t u, t < u → u < ρ → p t < p u := fun t u h1 h2 => hi t u h1 (by omega)
    rw [count_new (f := pivF p m ρ) (l := p ρ) ?_ ?_ ?_ (hp ρ (by omega)), pivF_count hi' (fun t ht => hp t (by omega))]
    · cases h : pivF p m ρ (p ρ) with
      | none => rfl
      | some r =>
        obtain ⟨t, h1, h2, -⟩ := pivF_some h
        have := hi t ρ h1 (by omega)
        omega
    · exact (pivF_isSome hi).2 ⟨ρ, by omega, rfl⟩
    · intro c hc
      rw [Bool.eq_iff_iff, pivF_isSome hi', pivF_isSome hi]
      constructor
      · rintro ⟨t, h1, h2⟩; exact ⟨t, by omega, h2⟩
      · rintro ⟨t, h1, h2⟩
        refine ⟨t, ?_, h2⟩
        by_cases e : t = ρ
        · exact absurd (by rw [← h2, e]) hc
        · omega
/-- is there something else than 0 in a row that has no place? -/
def restB (m : List (List Nat)) (ρ : Nat) : Bool := (m.drop ρ).any fun r => r.any (· != 0)
theorem restB_true {m : List (List Nat)} {ρ : Nat} (h : restB m ρ = true) : ∃ i j, ρ ≤ i ∧ i < m.length ∧ j < (m.getD i []).length ∧ (m.getD i []).getD j 0 ≠ 0 := by
  unfold restB at h
  obtain ⟨r, hr, hr2⟩ := List.any_eq_true.1 h
  obtain ⟨x, hx, hx2⟩ := List.any_eq_true.1 hr2
  obtain ⟨i, hi, rfl⟩ := List.mem_iff_getElem.1 hr
  rw [List.getElem_drop] at hx
  rw [List.length_drop] at hi
  have e : m.getD (ρ + i) [] = m[ρ + i] := by rw [List.getD_eq_getElem?_getD, List.getElem?_eq_getElem (by omega)]; rfl
  obtain ⟨j, hj, rfl⟩ := List.mem_iff_getElem.1 hx
  refine ⟨ρ + i, j, by omega, by omega, by rw [e]; exact hj, ?_⟩
  rw [e, List.getD_eq_getElem?_getD, List.getElem?_eq_getElem hj]
  simpa using hx2
theorem restB_of {m : List (List Nat)} {ρ i j : Nat} (h1 : ρ ≤ i) (h2 : i < m.length) (h3 : (m.getD i []).getD j 0 ≠ 0) : restB m ρ = true := by
  have hj : j < (m.getD i []).length := Nat.lt_of_not_le fun e => h3 (by rw [List.getD_eq_getElem?_getD, List.getElem?_eq_none e]; rfl)
  unfold restB
  refine List.any_eq_true.2 ⟨m.getD i [], List.mem_iff_getElem.2 ⟨i - ρ, by rw [List.length_drop]; omega, ?_⟩, List.any_eq_true.2 ⟨(m.getD i [])[j], List.getElem_mem hj, ?_⟩⟩
  · rw [List.getElem_drop, List.getD_eq_getElem?_getD, List.getElem?_eq_getElem h2]
    simp [show ρ + (i - ρ) = i by omega]
  · rw [List.getD_eq_getElem?_getD (l := m.getD i []), List.getElem?_eq_getElem hj] at h3
    simpa using h3
theorem Red.says {cols L : Nat} {A m : List (List Nat)} {ρ : Nat} {p : Nat → Nat} (h : Red L A m ρ cols p) (_hc : cols ≤ L) : Says cols L A (pivF p m ρ, restB m ρ) := by
  have hm : ∀ t, t < ρ → t < m.length := fun t ht => by have := h.le; omega
  refine ⟨⟨fun {c r} hc => ?_, fun {c r} hc => ?_, fun {c r} hc => ?_, fun {c r} hc => ?_, fun {c r c' r'} hc hc' hne => ?_, fun {c r j} hc hj => ?_⟩, fun y hy k c r hc => ?_, fun y hy hf k => ?_, fun hcl => ?_⟩
  · obtain ⟨t, h1, h2, rfl⟩ := pivF_some hc
    exact (rws_at h.rws (hm t h1)).2
  · obtain ⟨t, h1, h2, rfl⟩ := pivF_some hc
    exact (rws_at h.rws (hm t h1)).1
  · obtain ⟨t, h1, rfl, rfl⟩ := pivF_some hc
    exact h.pt t h1
  · obtain ⟨t, h1, rfl, rfl⟩ := pivF_some hc
    exact h.one t h1
  · obtain ⟨t, h1, rfl, rfl⟩ := pivF_some hc
    obtain ⟨u, h3, rfl, rfl⟩ := pivF_some hc'
    exact h.zero u t h3 (hm t h1) (fun e => hne (by rw [e]))
  · obtain ⟨t, h1, rfl, rfl⟩ := pivF_some hc
    exact h.lead t j h1 hj
  · obtain ⟨t, h1, rfl, rfl⟩ := pivF_some hc
    exact (h.ker y hy).1 k t (hm t h1)
  · refine (h.ker y hy).2 fun i hi => ?_
    by_cases e : i < ρ
    · exact k (p i) _ (pivF_at h.inc e)
    · apply xsum_zero
      intro j _
      rcases hf with hf | hf
      · have : (m.getD i []).getD j 0 = 0 := Classical.byContradiction fun e2 => by
          have := restB_of (ρ := ρ) (by omega) hi e2
          rw [show restB m ρ = false from hf] at this
          cases this
        rw [this, mul_zero]
      · by_cases e2 : j < cols
        · rw [h.low i j (by omega) hi e2, mul_zero]
        · rw [hf j (by omega), zero_mul]
  · obtain ⟨i, j, h1, h2, h3, h4⟩ := restB_true hcl
    have hr := rws_at h.rws h2
    exact ⟨m.getD i [], hr.2, hr.1, fun j hj => h.low i j h1 h2 hj, ⟨j, by omega, h4⟩, fun y hy k => (h.ker y hy).1 k i h2⟩
theorem Red.count {L : Nat} {A m : List (List Nat)} {ρ cols : Nat} {p : Nat → Nat} (h : Red L A m ρ cols p) : count (pivF p m ρ) cols = ρ := pivF_count h.inc h.pt
theorem Red.le_cols {L : Nat} {A m : List (List Nat)} {ρ cols : Nat} {p : Nat → Nat} (h : Red L A m ρ cols p) : ρ ≤ cols := by
  have := count_le (pivF p m ρ) cols
  rwa [h.count] at this
theorem inc_ge {ρ : Nat} {p : Nat → Nat} (hi : ∀ t u, t < u → u < ρ → p t < p u) : ∀ t, t < ρ → t ≤ p t
  | 0, _ => Nat.zero_le _
  | t + 1, ht => by have := inc_ge hi t (by omega); have := hi t (t + 1) (by omega) ht; omega
theorem inc_full {n : Nat} {p : Nat → Nat} (hi : ∀ t u, t < u → u < n → p t < p u) (hp : ∀ t, t < n → p t < n) {t : Nat} (ht : t < n) : p t = t := by
  have h1 := inc_ge hi t ht
  have h2 : ∀ d, t + d < n → p t + d ≤ p (t + d) := fun d => by
    induction d with
    | zero => intro _; exact Nat.le_refl _
    | succ d ih =>
      intro hd
      have := ih (by omega)
      have := hi (t + d) (t + (d + 1)) (by omega) hd
      omega
  have := h2 (n - 1 - t) (by omega)
  have := hp (t + (n - 1 - t)) (by omega)
  omega
/-- the places that are worked off hang on what the equations say alone. -/
theorem piv_ker {cols wid : Nat} {A : List (List Nat)} {s : Wk × Bool} (h : Says cols (cols + wid) A s) {c0 : Nat} (hc0 : c0 < cols) : (s.1 c0).isSome = true ↔ ¬ ∃ y, KerT cols wid A y ∧ y c0 ≠ 0 ∧ ∀ j, c0 < j → y j = 0 := by
  constructor
  · rintro hs ⟨y, ⟨h1, h2, h3⟩, h4, h5⟩
    obtain ⟨r, hr⟩ := Option.isSome_iff_exists.1 hs
    have := h.down y h1 h3 c0 r hr
    unfold dot at this
    rw [xsum_one (i := c0) (by omega) (fun j _ hne => ?_), h.sys.one hr, mul_one (h1 c0)] at this
    · exact h4 this
    · by_cases e : j < c0
      · rw [h.sys.lead hr e, mul_zero]
      · rw [h5 j (by omega), zero_mul]
  · intro hk
    cases hn : s.1 c0 with
    | some r => rfl
    | none =>
      exfalso
      refine hk ?_
      obtain ⟨y, hy⟩ : ∃ y : Nat → Nat, y = fun j => if j = c0 then 1 else (rowOf s.1 j).getD c0 0 := ⟨_, rfl⟩
      have ye : ∀ j, y j = if j = c0 then 1 else (rowOf s.1 j).getD c0 0 := fun j => by rw [hy]
      have yn : ∀ j, j ≠ c0 → s.1 j = none → y j = 0 := fun j h1 h2 => by rw [ye, if_neg h1]; unfold rowOf; rw [h2]; rfl
      have y1 : ∀ j, y j < 256 := fun j => by
        rw [ye]
        split
        · decide
        · cases hj : s.1 j with
          | none => unfold rowOf; rw [hj]; simp
          | some r => rw [rowOf_some hj]; exact (h.sys.bytes hj).getD c0
      have y2 : ∀ j, cols ≤ j → y j = 0 := fun j hj => yn j (by omega) (by
        cases e : s.1 j with
        | none => rfl
        | some r => have := h.sys.lt e; omega)
      have y3 : ∀ c r, s.1 c = some r → dot y r (cols + wid) = 0 := fun c r hc => by
        have hcl := h.sys.lt hc
        have hne : c ≠ c0 := fun e => by rw [e, hn] at hc; cases hc
        unfold dot
        rw [xsum_two (i := c) (k := c0) (by omega) (by omega) hne (fun j _ h1 h2 => ?_)]
        · rw [ye c, if_neg hne, rowOf_some hc, h.sys.one hc, mul_one ((h.sys.bytes hc).getD c0), ye c0, if_pos rfl, one_mul ((h.sys.bytes hc).getD c0), Nat.xor_self]
        · cases e : s.1 j with
          | none => rw [yn j h2 e, zero_mul]
          | some r' => rw [h.sys.zero hc e h1, mul_zero]
      refine ⟨y, ⟨y1, y2, h.up y y1 (.inr y2) y3⟩, by rw [ye, if_pos rfl]; decide, fun j hj => ?_⟩
      cases e : s.1 j with
      | none => exact yn j (by omega) e
      | some r => rw [ye, if_neg (by omega), rowOf_some e, h.sys.lead e hj]
theorem count_says {cols wid : Nat} {A : List (List Nat)} {s s' : Wk × Bool} (h : Says cols (cols + wid) A s) (h' : Says cols (cols + wid) A s') : Proofs.YtfjcbgfgiidogaaDoor.count s.1 cols = Proofs.YtfjcbgfgiidogaaDoor.count s'.1 cols := by
  apply count_congr
  intro c hc
  rw [Bool.eq_iff_iff, piv_ker h hc, piv_ker h' hc]
theorem Red.rank {cols : Nat} {A m : List (List Nat)} {ρ : Nat} {p : Nat → Nat} (hA : Rws A cols) (h : Red cols A m ρ cols p) : rankOf cols A = ρ := by
  unfold rankOf
  rw [count_says (wid := 0) (says_rows hA) (h.says (Nat.le_refl _)), h.count]
theorem Red.solve {cols wid : Nat} {rows vs m : List (List Nat)} {ρ : Nat} {p : Nat → Nat} (hl : vs.length = rows.length) (hr : Rws rows cols) (hv : Rws vs wid) (h : Red (cols + wid) (augs rows vs) m ρ cols p) :
    solveOut cols rows vs = if ρ < cols then ([], 21) else if restB m cols = true then ([], 22) else ((m.take cols).map (List.drop cols), 0) := by
  have hle := h.le_cols
  rw [solveOut_end, end_congr (says_augs hl hr hv) (h.says (by omega)) (fun y _ => Iff.rfl)]
  unfold solveEnd
  simp only
  rw [h.count]
  by_cases e : ρ < cols
  · rw [if_pos e, if_pos (show ρ ≠ cols by omega)]
  · have e' : ρ = cols := by omega
    rw [if_neg e, if_neg (show ¬ ρ ≠ cols from fun k => k e')]
    subst e'
    by_cases e2 : restB m ρ = true
    · rw [if_pos e2, if_pos e2]
    · rw [if_neg e2, if_neg e2]
      congr 1
      apply List.ext_getElem?
      intro c
      by_cases hc : c < ρ
      · have hp := inc_full h.inc h.pt hc
        have := pivF_at (m := m) h.inc hc
        rw [hp] at this
        rw [solved_at hc, rowOf_some this, List.getElem?_map, List.getElem?_take, if_pos hc, List.getElem?_eq_getElem (by have := h.le; omega), List.getD_eq_getElem?_getD, List.getElem?_eq_getElem (by have := h.le; omega)]
        rfl
      · rw [List.getElem?_eq_none (by rw [solved_len]; omega), List.getElem?_eq_none (by simp; omega)]
end Go.Proofs.YtfjcbgfgiidogaaDoor
namespace Go.Proofs.YtfjcbgfgiidogaaDoor
open Go.RowKit

set_option maxRecDepth 100000 in
set_option maxHeartbeats 2000000 in
theorem refRight_rd (cols : Int) (a : Option Addr) (n c : Nat) (ls : List (List Nat)) (w : World) (h : RD w a n ls) (hn : n ≤ 1000) :
    Calls Tryd.prog 93 #[.int .i64 cols, .slice a n c] w fun e w' => e = .returned (.bool (rightB cols ls)) ∧ w = w' := by
  have HLS := Lib.hid h.1
  have H := Lib.hid h
  unfold rightB
  rw [h.1]
  clear h
  by_cases h1 : 1 ≤ cols
  rotate_left 1
  · have h1' : cols < 1 := by omega
    rw [decide_eq_false h1]
    clear h1
    go_enter Tryd.func93, Tryd.ntmps93
    go_wp2
    go_ret
    exact ⟨rfl, rfl⟩
  by_cases h2 : cols ≤ 128
  rotate_left 1
  · rw [decide_eq_false h2, decide_eq_true h1]
    go_enter Tryd.func93, Tryd.ntmps93
    go_wp2
    go_ret
    exact ⟨rfl, rfl⟩
  by_cases h3 : n ≤ 256
  rotate_left 1
  · rw [decide_eq_false h3, decide_eq_true h1, decide_eq_true h2]
    go_enter Tryd.func93, Tryd.ntmps93
    go_wp2
    go_ret
    exact ⟨rfl, rfl⟩
  rw [decide_eq_true h1, decide_eq_true h2, decide_eq_true h3]
  simp only [Bool.true_and]
  go_enter Tryd.func93, Tryd.ntmps93
  go_wp2
  go_loopw [5] (fun i wr => ∃ m : Nat, m ≤ n ∧ i = .int .i64 (m : Nat) ∧ Hid (∀ j l, j < m → ls[j]? = some l → (l.length : Int) = cols) ∧ wr = w) (fun i _ => (n - intOf i).toNat)
  case atStart => exact ⟨0, Nat.zero_le _, rfl, Lib.hid (fun j _ hj => absurd hj (Nat.not_lt_zero _)), rfl⟩
  case round =>
    obtain ⟨m, hm, rfl, HZ, rfl⟩ := hrel
    by_cases hlt : m < n
    · obtain ⟨b, off, xa, xn, xc, l, rfl, hc, hl, hB⟩ := H.out.at hlt
      have HLL := Lib.hid (show l.length = xn from hB.length)
      have HL := Lib.hid hl
      clear hl hB
      by_cases h0 : (xn : Int) = cols
      · have h0' : ((xn : Int) != cols) = false := by simp [h0]
        have H0 := Lib.hid h0
        clear h0
        go_wp2
        go_roundw
        case rel => exact ⟨m + 1, by omega, by go_num, Lib.hid (fun j l' hj hl' => (by
          by_cases e : j = m
          · rw [e, HL.out] at hl'
            injection hl' with hl'
            rw [← hl', HLL.out]; exact H0.out
          · exact HZ.out j l' (by omega) hl')), by first | exact rfl | exact trivial⟩
        case measure => simp [intOf] <;> omega
      · have h0' : ((xn : Int) != cols) = true := by simp [h0]
        have he : evenB ls cols = false := by
          cases e : evenB ls cols with
          | false => rfl
          | true => exact absurd (by rw [← HLL.out]; exact evenB_iff.1 e l (List.mem_of_getElem? HL.out)) h0
        clear h0
        go_wp2
        go_ret
        rw [he]
        exact ⟨rfl, rfl⟩
    · obtain rfl : m = n := by omega
      have he : evenB ls cols = true := evenB_iff.2 fun l hl => by
        obtain ⟨j, hj⟩ := List.getElem?_of_mem hl
        exact HZ.out j l (by have := (List.getElem?_eq_some_iff.1 hj).1; rw [HLS.out] at this; exact this) hj
      go_wp2
      go_ret
      rw [he]
      exact ⟨rfl, rfl⟩

set_option maxRecDepth 100000 in
set_option maxHeartbeats 2000000 in
theorem refEven_rd (a : Option Addr) (n c : Nat) (ls : List (List Nat)) (w : World) (h : RD w a n ls) (hn : n ≤ 1000) :
    Calls Tryd.prog 94 #[.slice a n c] w fun e w' => e = .returned (.bool (evenB ls (widthB ls : Nat))) ∧ Below w.heap.size w w' := by
  have HLS := Lib.hid h.1
  have H := Lib.hid h
  clear h
  go_enter Tryd.func94, Tryd.ntmps94
  go_wp2
  go_loopw [3] (fun i wr => ∃ m : Nat, 1 ≤ m ∧ (m = 1 ∨ m ≤ n) ∧ i = .int .i64 (m : Nat) ∧ Hid (∀ j l, j < m → ls[j]? = some l → l.length = widthB ls) ∧ Below w.heap.size w wr) (fun i _ => (n - intOf i).toNat)
  case atStart =>
    refine ⟨1, Nat.le_refl _, .inl rfl, rfl, Lib.hid (fun j l hj hl => ?_), Below.refl _ _⟩
    obtain rfl : j = 0 := by omega
    unfold widthB
    rw [List.getD_eq_getElem?_getD, hl]
    rfl
  case round =>
    obtain ⟨m, h1, hm, rfl, HZ, hb⟩ := hrel
    by_cases hlt : m < n
    · obtain ⟨b, off, xa, xn, xc, l, rfl, hc0, hl, hB⟩ := H.out.at hlt
      obtain ⟨b', off', ya, yn, yc, l0, e, hc1, hl0, hB0⟩ := H.out.at (i := 0) (by omega)
      injection e with e
      injection e with e1 e2
      subst e1 e2
      have HLL := Lib.hid (show l.length = xn from hB.length)
      have HL := Lib.hid hl
      have hw : widthB ls = yn := by
        unfold widthB
        rw [List.getD_eq_getElem?_getD, hl0]
        exact hB0.length
      have HW := Lib.hid hw
      have hc := cell_below hc0 hb
      have hd := cell_below hc1 hb
      rw [Nat.add_zero] at hd
      have j0 : 0 < n := by omega
      have i0' : (0 : Int) < (n : Int) := by omega
      clear hl hB hl0 hB0 hc0 hc1 hw
      by_cases h0 : xn = yn
      · have h0' : ((xn : Int) != (yn : Int)) = false := by simp [h0]
        have H0 := Lib.hid h0
        clear h0
        go_wp2
        go_quiet (fail)
        go_wp2
        go_roundw
        case rel => exact ⟨m + 1, by omega, .inr (by omega), by go_num, Lib.hid (fun j l' hj hl' => (by
          by_cases e : j = m
          · rw [e, HL.out] at hl'
            injection hl' with hl'
            rw [← hl', HLL.out, H0.out, HW.out]
          · exact HZ.out j l' (by omega) hl')), below_drewN hb _⟩
        case measure => simp [intOf] <;> omega
      · have h0' : ((xn : Int) != (yn : Int)) = true := by simp; omega
        have he : evenB ls (widthB ls : Nat) = false := by
          cases e : evenB ls (widthB ls : Nat) with
          | false => rfl
          | true =>
            have := evenB_iff.1 e l (List.mem_of_getElem? HL.out)
            rw [HLL.out, HW.out] at this
            omega
        clear h0
        go_wp2
        go_quiet (fail)
        go_wp2
        go_ret
        rw [he]
        exact ⟨rfl, below_drewN hb _⟩
    · have he : evenB ls (widthB ls : Nat) = true := evenB_iff.2 fun l hl => by
        obtain ⟨j, hj⟩ := List.getElem?_of_mem hl
        have := HZ.out j l (by have := (List.getElem?_eq_some_iff.1 hj).1; rw [HLS.out] at this; omega) hj
        omega
      go_wp2
      go_ret
      rw [he]
      exact ⟨rfl, hb⟩

theorem refMix_rd (adk : Option Addr) (lk ck : Nat) (ks : List Nat) (a : Option Addr) (n c : Nat) (xs : List (List Nat)) (w : World) (hks : BytesV w (adk, lk, ck) ks) (h : RD w a n xs) (hn : n ≤ 1000) :
    Calls Tryd.prog 59 #[.slice adk lk ck, .slice a n c] w (GivesBytes 5 w (mixTo ks xs (longest xs xs.length) xs.length)) := by
  obtain ⟨h1, hs, h2, h3⟩ := h
  rw [h1, ← refMix_mix]
  exact refMix_any adk lk ck ks a n c hs xs w hks h2 (by omega) h3
theorem apply_step {rows xs : List (List Nat)} {k : Nat} {r : List Nat} (h : rows[k]? = some r) : (applyOf rows xs).take (k + 1) = (applyOf rows xs).take k ++ [mixTo r xs (longest xs xs.length) xs.length] := by
  apply take_step
  unfold applyOf
  rw [List.getElem?_map, h]
  rfl
theorem mix_mem {xs : List (List Nat)} (hx : Mem xs) {r : List Nat} (hr : Bytes r) : Bytes (mixTo r xs (longest xs xs.length) xs.length) ∧ (mixTo r xs (longest xs xs.length) xs.length).length ≤ 140737488355328 := by
  refine ⟨mixTo_bytes hr _ _ _, ?_⟩
  rw [mixTo_length]
  have : ∀ k, longest xs k ≤ 140737488355328 := fun k => by
    induction k with
    | zero => exact Nat.zero_le _
    | succ k ih =>
      simp only [longest]
      have : (xs.getD k []).length ≤ 140737488355328 := by
        by_cases hk : k < xs.length
        · rw [List.getD_eq_getElem?_getD, List.getElem?_eq_getElem hk]; exact (hx _ (List.getElem_mem hk)).2
        · rw [List.getD_eq_getElem?_getD, List.getElem?_eq_none (by omega)]; simp
      omega
  exact this _
theorem givesR_nil {w w' : World} {code : Int} (hb : Below w.heap.size w w') : GivesR w ([], code) (.returned (.tuple #[.slice none 0 0, .int .i64 code])) w' := ⟨none, 0, rfl, RD.nil _ _, hb⟩
set_option maxRecDepth 100000 in
set_option maxHeartbeats 4000000 in
theorem refApply_ro (cols : Int) (ar : Option Addr) (nr cr : Nat) (rows : List (List Nat)) (ax : Option Addr) (nx cx : Nat) (xs : List (List Nat)) (w : World) (h : RD w ar nr rows) (k : RD w ax nx xs) (hn : nr ≤ 1000) (hx : nx ≤ 1000) :
    Calls Tryd.prog 70 #[.int .i64 cols, .slice ar nr cr, .slice ax nx cx] w (GivesRO w (applyR cols rows xs)) := by
  obtain ⟨i0, hi, hz0, hz1, hz2⟩ := info_parts Tryd.info22
  have HR := Lib.hid h
  have HX := Lib.hid k
  have HER := Lib.hid h.1
  have HEX := Lib.hid k.1
  have HMX := Lib.hid k.mem
  have HMR := Lib.hid h.mem
  have KR := refRight_rd cols ar nr cr rows w h hn
  have KE := refEven_rd ax nx cx xs w k hx
  clear h k
  by_cases hB : applyOK cols rows xs = true
  rotate_left 1
  · rw [apply_no hB]
    by_cases h1 : rightB cols rows = true
    rotate_left 1
    · have h1' : rightB cols rows = false := by simpa using h1
      rw [h1'] at KR
      clear h1 h1' hB KE
      go_enter Tryd.func70, Tryd.ntmps70
      go_wp2_with fail
      (with_reducible refine KR.mono ?_)
      rintro x w1 ⟨rfl, rfl⟩
      go_wp2
      go_ret2
      exact givesRO_nil (Below.refl _ _)
    rw [h1] at KR
    by_cases h2 : (nx : Int) = cols
    rotate_left 1
    · have h2' : ((nx : Int) != cols) = true := by rw [bne_iff_ne]; exact h2
      clear h1 h2 hB KE
      go_enter Tryd.func70, Tryd.ntmps70
      go_wp2_with fail
      (with_reducible refine KR.mono ?_)
      rintro x w1 ⟨rfl, rfl⟩
      go_wp2
      go_ret2
      exact givesRO_nil (Below.refl _ _)
    have h3 : evenB xs (widthB xs : Nat) = false := by
      cases e : evenB xs (widthB xs : Nat) with
      | false => rfl
      | true => exact absurd (applyOK_iff.2 ⟨h1, by rw [HEX.out]; exact h2, e⟩) hB
    rw [h3] at KE
    have h2' : ((nx : Int) != cols) = false := by simp [h2]
    clear h1 h2 h3 hB
    go_enter Tryd.func70, Tryd.ntmps70
    go_wp2_with fail
    (with_reducible refine KR.mono ?_)
    rintro x w1 ⟨rfl, rfl⟩
    go_wp2_with fail
    (with_reducible refine KE.mono ?_)
    rintro x w1 ⟨rfl, b1⟩
    go_wp2
    go_ret2
    exact givesRO_nil b1
  obtain ⟨h1, h2, h3⟩ := applyOK_iff.1 hB
  rw [h1] at KR
  rw [h3] at KE
  rw [HEX.out] at h2
  have h2' : ((nx : Int) != cols) = false := by simp [h2]
  have hap : applyR cols rows xs = (applyOf rows xs, 0) := by unfold applyR; rw [if_pos hB]
  rw [hap]
  have hla : (applyOf rows xs).length = nr := by unfold applyOf; rw [List.length_map, HER.out]
  have HLA := Lib.hid hla
  clear h1 h2 h3 hB hap hla
  go_enter Tryd.func70, Tryd.ntmps70
  go_wp2_with fail
  (with_reducible refine KR.mono ?_)
  rintro x w1 ⟨rfl, rfl⟩
  go_wp2_with fail
  (with_reducible refine KE.mono ?_)
  rintro x w1 ⟨rfl, b1⟩
  clear KR KE
  have hs1 := b1.size
  have hown0 := World.ownsRow_made (base := w1.heap.size) (e := 22) (size := 1) w1 #[] 0 (Nat.le_refl _) (by simp [maxLen]) rfl
  have HO0 := Lib.hid hown0
  clear hown0
  go_wp2_with fail
  go_loopw [8, 9] (fun v i wr => ∃ m ad cap, m ≤ nr ∧ i = .int .i64 (m : Nat) ∧ v = .slice ad m cap ∧ OwnRs wr w1.heap.size ad m cap ((applyOf rows xs).take m) ∧ Below w1.heap.size w1 wr) (fun _ i _ => (nr - intOf i).toNat)
  case atStart => exact ⟨0, _, _, Nat.zero_le _, rfl, rfl, ⟨by simp, [], HO0.out, ⟨rfl, fun i x l h => by simp at h⟩, fun l hl => by simp at hl⟩, below_alloc _ _⟩
  case round =>
    obtain ⟨m, ad, cap, hm, rfl, rfl, hO, hb⟩ := hrel
    have hHB := b1.trans (hb.mono hs1)
    have hbs := hb.size
    by_cases hlt : m < nr
    · obtain ⟨b, off, xa, xn, xc, r, rfl, hc0, hr, hB⟩ := HR.out.at hlt
      have hc := cell_below hc0 hHB
      have HST := Lib.hid (apply_step (xs := xs) hr)
      have HBB := Lib.hid hB
      have HMM := Lib.hid (mix_mem HMX.out hB.bytes)
      have KM := refMix_rd xa xn xc r ax nx cx xs wr (hB.below hHB) (HX.out.below hHB) hx
      obtain ⟨M, hM⟩ : ∃ M, M = mixTo r xs (longest xs xs.length) xs.length := ⟨_, rfl⟩
      rw [← hM] at KM HST HMM
      clear hr hB hc0 hM
      go_wp2_with fail
      (with_reducible refine KM.mono ?_)
      rintro e w7 ⟨a8, c8, rfl, o8, b7⟩
      have hb7 := hb.trans (b7.mono hbs)
      obtain ⟨-, hs, ho7, hO7, hm7⟩ := hO.below b7
      have o8' := ownsRow_base (base' := w1.heap.size) o8 hbs
      clear KM hc hO
      have hs7 := hb7.size
      go_wp2_with (first | (at_builtin; refine Hid.out ?_))
      refine Lib.hid ?_
      refine wpList_append_row rfl _ _ 35 rfl w1.heap.size 22 i0 (.slice none 0 0) 24 Tryd.underlying35 hi hz0 hz1 hz2 rfl _ _ _ rfl (ho7.alloc _) (some ⟨w7.heap.size, 0, none⟩) 1 1 [SV (a8, M.length, c8)] rfl (rowV_lit w7 _ _ _ 1 _ rfl rfl rfl) (fun h => by cases h) (SV_one [(a8, M.length, c8)]) (by simp [maxLen]; omega) (by omega) (by simp; omega) ?_
      intro v' w9 hE9 g9 _
      have hb9 := below_grown (hb7.alloc hb7.size (.cells #[.slice a8 M.length c8] 22)) g9 (fun k hk => (ho7.lt k hk).1)
      obtain ⟨a9, c9, rfl, h9⟩ := append_own (x := (a8, M.length, c8)) (ho7.alloc (.cells #[.slice a8 M.length c8] 22)) (hO7.below (below_alloc _ _)) hm7 hE9 g9 (o8'.alloc _) rfl HMM.out
      rw [← HST.out] at h9
      clear ho7 hO7 hm7 o8 o8' hE9 g9 b7 hb7 hs7 hHB hb
      go_wp2
      go_roundw
      case rel => exact ⟨m + 1, _, _, by omega, by go_num, rfl, h9, hb9⟩
      case measure => simp [intOf] <;> omega
    · obtain rfl : m = nr := by omega
      rw [List.take_of_length_le (by rw [HLA.out]; omega)] at hO
      go_wp2
      go_ret2
      have hl := HLA.out
      subst hl
      exact ⟨ad, cap, rfl, hO.rd, fun _ => hO.rebase hs1, hHB⟩
theorem refApply_rd (cols : Int) (ar : Option Addr) (nr cr : Nat) (rows : List (List Nat)) (ax : Option Addr) (nx cx : Nat) (xs : List (List Nat)) (w : World) (h : RD w ar nr rows) (k : RD w ax nx xs) (hn : nr ≤ 1000) (hx : nx ≤ 1000) :
    Calls Tryd.prog 70 #[.int .i64 cols, .slice ar nr cr, .slice ax nx cx] w (GivesR w (applyR cols rows xs)) :=
  (refApply_ro cols ar nr cr rows ax nx cx xs w h k hn hx).mono fun _ _ h => h.R

end Go.Proofs.YtfjcbgfgiidogaaDoor
namespace Go.Proofs.YtfjcbgfgiidogaaDoor
open Go.RowKit

theorem OwnRs.set {w : World} {B g n c : Nat} {ls : List (List Nat)} {x : HdT} {l : List Nat} (i : Nat) (h : OwnRs w B (some ⟨g, 0, none⟩) n c ls) (hx : w.ownsRow B 5 1 (SV x) l.length (l.map bv)) (hxl : x.2.1 = l.length) (hl : Bytes l ∧ l.length ≤ 140737488355328) :
    OwnRs (w.setCell ⟨g, i, none⟩ (SV x)) B (some ⟨g, 0, none⟩) n c (ls.set i l) := by
  obtain ⟨h0, hs, h1, h2, h3⟩ := h
  have hg := grown_set4 w g i (SV x)
  have k1 := own_set' h1 i (SV x)
  rw [← List.map_set] at k1
  have k2 : OwnsRows (w.setCell ⟨g, i, none⟩ (SV x)) B 5 hs ls := h2.kept hg (fun i y m a b => by
    have := own_ne (h2.2 i y m a b).2 h1 (by decide)
    simpa [Value.ownBlock] using this)
  have k3 := hx.kept hg (by
    have := own_ne hx h1 (by decide)
    simpa [Value.ownBlock] using this)
  refine ⟨by simp [h0], hs.set i x, k1, ⟨by simp [h2.1], fun j y m a b => ?_⟩, fun m hm => ?_⟩
  · rw [List.getElem?_set] at a b
    by_cases hi : i = j
    · rw [if_pos hi] at a b
      split at a
      · split at b
        · injection a with a
          injection b with b
          subst a b
          exact ⟨hxl, k3⟩
        · cases b
      · cases a
    · rw [if_neg hi] at a b
      exact k2.2 j y m a b
  · rcases List.mem_or_eq_of_mem_set hm with h | h
    · exact h3 m h
    · rw [h]; exact hl
/-- a row in its cell. -/
theorem OwnRs.row {w : World} {B g n c : Nat} {ls : List (List Nat)} {L : Nat} {l : List Nat} {i : Nat} (h : OwnRs w B (some ⟨g, 0, none⟩) n c ls) (hi : i < n) (hl : ls.getD i [] = l) (hL : l.length = L) : ∃ a' c', w.cell? ⟨g, i, none⟩ = some (.slice a' L c') ∧ w.ownsRow B 5 1 (.slice a' L c') L (l.map bv) ∧ BytesV w (a', L, c') l ∧ w.frozen? ⟨g, i, none⟩ = false := by
  obtain ⟨h0, hs, h1, h2, h3⟩ := h
  have hhs : hs.length = n := by have := h1.1; simpa using this
  obtain ⟨⟨a', n', c'⟩, hx⟩ : ∃ x, hs[i]? = some x := ⟨_, List.getElem?_eq_getElem (by omega)⟩
  have hli : ls[i]? = some l := by rw [← hl, List.getD_eq_getElem?_getD, List.getElem?_eq_getElem (by omega)]; rfl
  obtain ⟨e1, ho⟩ := h2.2 i _ l hx hli
  simp only at e1
  have en : n' = L := by omega
  subst en
  have hm := h3 l (List.mem_of_getElem? hli)
  rw [← e1] at ho
  obtain ⟨_, _, e, -, -, -, hrow⟩ := ownsRow_parts h1
  cases e
  obtain ⟨b, off, e, hc⟩ := hrow.2 (by omega)
  injection e with e
  injection e with e1 e2
  subst e1 e2
  have hci := hc i (by omega)
  rw [List.getElem?_map, hx, Nat.zero_add] at hci
  exact ⟨a', c', hci, ho, bytesV_of_owns ho hm.1 (by omega), h1.frozenAt i⟩
theorem OwnRs.swap {w : World} {B g n c : Nat} {ls : List (List Nat)} {L : Nat} {k ρ : Nat} {x y : HdT} (h : OwnRs w B (some ⟨g, 0, none⟩) n c ls) (hx : w.ownsRow B 5 1 (SV x) L ((ls.getD ρ []).map bv)) (hy : w.ownsRow B 5 1 (SV y) L ((ls.getD k []).map bv)) (hxl : x.2.1 = L) (hyl : y.2.1 = L) (hk : k < n) (hρ : ρ < n) (lx : (ls.getD ρ []).length = L) (ly : (ls.getD k []).length = L) :
    OwnRs ((w.setCell ⟨g, k, none⟩ (SV x)).setCell ⟨g, ρ, none⟩ (SV y)) B (some ⟨g, 0, none⟩) n c (swapR ls k ρ) := by
  have hm := h.rd.mem
  have m : ∀ i, i < n → Bytes (ls.getD i []) ∧ (ls.getD i []).length ≤ 140737488355328 := fun i hi => hm _ (mem_getD.2 ⟨i, by have := h.1; omega, rfl⟩)
  have hy' : (w.setCell ⟨g, k, none⟩ (SV x)).ownsRow B 5 1 (SV y) L ((ls.getD k []).map bv) := by
    obtain ⟨_, hs, h1, -⟩ := h
    exact hy.kept (grown_set4 w g k (SV x)) (by
      have := own_ne hy h1 (by decide)
      simpa [Value.ownBlock] using this)
  unfold swapR
  exact (h.set k (x := x) (by rw [lx]; exact hx) (by omega) (m ρ hρ)).set ρ (x := y) (by rw [ly]; exact hy') (by omega) (m k hk)
theorem OwnRs.ltg' {w : World} {B g n c : Nat} {ls : List (List Nat)} (h : OwnRs w B (some ⟨g, 0, none⟩) n c ls) : B ≤ g := h.ltg.1
theorem OwnRs.addr {w : World} {B n c : Nat} {a : Option Addr} {ls : List (List Nat)} (h : OwnRs w B a n c ls) (h0 : 0 < n) : ∃ g, a = some ⟨g, 0, none⟩ := by
  obtain ⟨_, hs, h1, -⟩ := h
  obtain ⟨_, _, e, hcase, hnc, -⟩ := ownsRow_parts h1
  cases e
  rcases hcase with ⟨_, h2, _⟩ | ⟨g, hg, -⟩
  · omega
  · exact ⟨g, hg⟩
theorem rws_norm {L : Nat} {m : List (List Nat)} {ρ c : Nat} (h : Rws m L) (hρ : ρ < m.length) : Rws (normR m ρ c) L := fun r hr => by
  obtain ⟨i, hi, rfl⟩ := mem_getD.1 hr
  rw [normR_length] at hi
  rw [normR_getD c hρ]
  split
  · exact ⟨scaleB_bytes (inv_lt _), by rw [scaleB_length]; exact (rws_at h hρ).2⟩
  · exact rws_at h hi
theorem rws_swap {L : Nat} {m : List (List Nat)} {ρ k : Nat} (h : Rws m L) (hk : k < m.length) (hρ : ρ < m.length) : Rws (swapR m k ρ) L := fun r hr => by
  obtain ⟨i, hi, rfl⟩ := mem_getD.1 hr
  rw [swapR_length] at hi
  rw [swapR_getD hk hρ]
  split
  · exact rws_at h hk
  · split
    · exact rws_at h hρ
    · exact rws_at h hi
theorem rws_elim {L : Nat} {m : List (List Nat)} {ρ c t : Nat} (h : Rws m L) (hρ : ρ < m.length) (ht : t ≤ m.length) : Rws (elimTo ρ c m t) L := fun r hr => by
  obtain ⟨i, hi, rfl⟩ := mem_getD.1 hr
  rw [elimTo_length] at hi
  rw [elimTo_getD ht]
  have a := rws_at h hi
  have b := rws_at h hρ
  split
  · exact ⟨rowTo_bytes c a.1, by rw [rowTo_length c (by rw [b.2, a.2]), a.2]⟩
  · exact a
end Go.Proofs.YtfjcbgfgiidogaaDoor
