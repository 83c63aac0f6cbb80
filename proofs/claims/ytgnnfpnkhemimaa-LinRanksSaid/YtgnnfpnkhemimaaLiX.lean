/-
  lin: plain mathematics: what a system that was worked off says of its solutions.
-/
import Derived.Test.YtgnnfpnkhemimaaLiW
namespace Go.Proofs.Ytgnnfpnkhemimaa

theorem xsum_add (f : Nat → Nat) (n : Nat) : ∀ m, xsum f (n + m) = xsum f n ^^^ xsum (fun u => f (n + u)) m
  | 0 => by simp [xsum]
  | m + 1 => by rw [← Nat.add_assoc]; simp only [xsum]; rw [xsum_add f n m, Nat.xor_assoc]
theorem xsum_two {f : Nat → Nat} {i k n : Nat} (hi : i < n) (hk : k < n) (hne : i ≠ k) (h : ∀ j, j < n → j ≠ i → j ≠ k → f j = 0) : xsum f n = f i ^^^ f k := by
  have e : xsum f n = xsum (fun j => (if j = i then f i else 0) ^^^ (if j = k then f k else 0)) n := by
    apply xsum_congr
    intro j hj
    by_cases h1 : j = i
    · subst h1
      rw [if_pos rfl, if_neg hne, Nat.xor_zero]
    · by_cases h2 : j = k
      · subst h2
        rw [if_neg h1, if_pos rfl, Nat.zero_xor]
      · rw [if_neg h1, if_neg h2, h j hj h1 h2]; rfl
  rw [e, xsum_xor, xsum_one hi (fun j _ hj => if_neg hj), xsum_one hk (fun j _ hj => if_neg hj), if_pos rfl, if_pos rfl]
theorem dot_split (y : Nat → Nat) (r : List Nat) (cols wid : Nat) : dot y r (cols + wid) = dot y r cols ^^^ xsum (fun u => mul (y (cols + u)) (r.getD (cols + u) 0)) wid := xsum_add _ _ _
theorem dot_aug (y : Nat → Nat) {r v : List Nat} {cols : Nat} (wid : Nat) (hr : r.length = cols) : dot y (r ++ v) (cols + wid) = dot y r cols ^^^ xsum (fun u => mul (y (cols + u)) (v.getD u 0)) wid := by
  rw [dot_split]
  congr 1
  · exact dot_congr fun j hj => by rw [List.getD_eq_getElem?_getD, List.getElem?_append_left (by omega), ← List.getD_eq_getElem?_getD]
  · apply xsum_congr
    intro u _
    rw [List.getD_eq_getElem?_getD, List.getElem?_append_right (by omega), hr, Nat.add_sub_cancel_left, ← List.getD_eq_getElem?_getD]
theorem tail_one {y : Nat → Nat} {g : Nat → Nat} {cols wid t : Nat} (ht : t < wid) (h1 : y (cols + t) = 1) (h0 : ∀ u, u < wid → u ≠ t → y (cols + u) = 0) (hg : g t < 256) : xsum (fun u => mul (y (cols + u)) (g u)) wid = g t := by
  rw [xsum_one ht (fun u hu hne => by rw [h0 u hu hne, zero_mul]), h1, one_mul hg]
theorem tail_zero {y : Nat → Nat} {g : Nat → Nat} {cols : Nat} (wid : Nat) (h0 : ∀ j, cols ≤ j → y j = 0) : xsum (fun u => mul (y (cols + u)) (g u)) wid = 0 := xsum_zero fun u _ => by rw [h0 _ (by omega), zero_mul]

def SolT (cols wid : Nat) (A : List (List Nat)) (t : Nat) (y : Nat → Nat) : Prop := (∀ j, y j < 256) ∧ (∀ a ∈ A, dot y a (cols + wid) = 0) ∧ y (cols + t) = 1 ∧ ∀ u, u < wid → u ≠ t → y (cols + u) = 0
def KerT (cols wid : Nat) (A : List (List Nat)) (y : Nat → Nat) : Prop := (∀ j, y j < 256) ∧ (∀ j, cols ≤ j → y j = 0) ∧ ∀ a ∈ A, dot y a (cols + wid) = 0

theorem dot_full {cols L : Nat} {f : Wk} (h : Sys cols L f) (hf : count f cols = cols) {c : Nat} {r : List Nat} (hc : f c = some r) {y : Nat → Nat} (hy : ∀ j, y j < 256) : dot y r cols = y c := by
  have hcl := h.lt hc
  unfold dot
  rw [xsum_one hcl (fun j hj hne => ?_), h.one hc, mul_one (hy c)]
  obtain ⟨r', hr'⟩ := count_full.1 hf j hj
  rw [h.zero hc hr' hne, mul_zero]
theorem full_ker {cols wid : Nat} {A : List (List Nat)} {s : Wk × Bool} (h : Says cols (cols + wid) A s) : count s.1 cols = cols ↔ ∀ y, KerT cols wid A y → ∀ j, j < cols → y j = 0 := by
  constructor
  · intro hf y ⟨h1, h2, h3⟩ c hc
    obtain ⟨r, hr⟩ := count_full.1 hf c hc
    have := h.down y h1 h3 c r hr
    rw [dot_split, tail_zero wid h2, Nat.xor_zero, dot_full h.sys hf hr h1] at this
    exact this
  · intro hk
    rw [count_full]
    intro c0 hc0
    cases hn : s.1 c0 with
    | some r => exact ⟨r, rfl⟩
    | none =>
      exfalso
      obtain ⟨y, hy⟩ : ∃ y : Nat → Nat, y = fun j => if j = c0 then 1 else (rowOf s.1 j).getD c0 0 := ⟨_, rfl⟩
      have ye : ∀ j, y j = if j = c0 then 1 else (rowOf s.1 j).getD c0 0 := fun j => by rw [hy]
      have yn : ∀ j, j ≠ c0 → s.1 j = none → y j = 0 := fun j h1 h2 => by rw [ye, if_neg h1]; unfold rowOf; rw [h2]; rfl
      have y1 : ∀ j, y j < 256 := fun j => by
        rw [ye]
        split
        · decide
        · cases hj : s.1 j with
          | none => unfold rowOf; rw [hj]; simp
          | some r => rw [rowOf_some hj]; exact (h.sys.bytes hj).getD c0
      have y2 : ∀ j, cols ≤ j → y j = 0 := fun j hj => yn j (by omega) (by
        cases e : s.1 j with
        | none => rfl
        | some r => have := h.sys.lt e; omega)
      have y3 : ∀ c r, s.1 c = some r → dot y r (cols + wid) = 0 := fun c r hc => by
        have hcl := h.sys.lt hc
        have hne : c ≠ c0 := fun e => by rw [e, hn] at hc; cases hc
        unfold dot
        rw [xsum_two (i := c) (k := c0) (by omega) (by omega) hne (fun j _ h1 h2 => ?_)]
        · rw [ye c, if_neg hne, rowOf_some hc, h.sys.one hc, mul_one ((h.sys.bytes hc).getD c0), ye c0, if_pos rfl, one_mul ((h.sys.bytes hc).getD c0), Nat.xor_self]
        · cases e : s.1 j with
          | none => rw [yn j h2 e, zero_mul]
          | some r' => rw [h.sys.zero hc e h1, mul_zero]
      have := hk y ⟨y1, y2, h.up y y1 (.inr y2) y3⟩ c0 hc0
      rw [ye, if_pos rfl] at this
      cases this
theorem sol_of {cols wid : Nat} {A : List (List Nat)} {s : Wk × Bool} (h : Says cols (cols + wid) A s) (hf : count s.1 cols = cols) (hcl : s.2 = false) {t : Nat} (ht : t < wid) :
    SolT cols wid A t (fun j => if j < cols then (rowOf s.1 j).getD (cols + t) 0 else if j = cols + t then 1 else 0) := by
  obtain ⟨y, hy⟩ : ∃ y : Nat → Nat, y = fun j => if j < cols then (rowOf s.1 j).getD (cols + t) 0 else if j = cols + t then 1 else 0 := ⟨_, rfl⟩
  rw [← hy]
  have y1 : ∀ j, y j < 256 := fun j => by
    rw [hy]; simp only
    split
    · cases hj : s.1 j with
      | none => unfold rowOf; rw [hj]; simp
      | some r => rw [rowOf_some hj]; exact (h.sys.bytes hj).getD _
    · split <;> decide
  have y2 : y (cols + t) = 1 := by rw [hy]; show (if cols + t < cols then _ else if cols + t = cols + t then 1 else 0) = 1; rw [if_neg (by omega), if_pos rfl]
  have y3 : ∀ u, u < wid → u ≠ t → y (cols + u) = 0 := fun u _ hu => by rw [hy]; simp only; rw [if_neg (by omega), if_neg (by omega)]
  refine ⟨y1, h.up y y1 (.inl hcl) (fun c r hc => ?_), y2, y3⟩
  have hcc := h.sys.lt hc
  rw [dot_split, dot_full h.sys hf hc y1, tail_one ht y2 y3 ((h.sys.bytes hc).getD _)]
  have : y c = r.getD (cols + t) 0 := by rw [hy]; simp only; rw [if_pos hcc, rowOf_some hc]
  rw [this, Nat.xor_self]
theorem sol_only {cols wid : Nat} {A : List (List Nat)} {s : Wk × Bool} (h : Says cols (cols + wid) A s) (hf : count s.1 cols = cols) {t : Nat} (ht : t < wid) {y : Nat → Nat} (hy : SolT cols wid A t y) {c : Nat} {r : List Nat} (hc : s.1 c = some r) : y c = r.getD (cols + t) 0 := by
  obtain ⟨h1, h2, h3, h4⟩ := hy
  have := h.down y h1 h2 c r hc
  rw [dot_split, dot_full h.sys hf hc h1, tail_one ht h3 h4 ((h.sys.bytes hc).getD _)] at this
  exact xor_eq_zero this
theorem no_sol {cols wid : Nat} {A : List (List Nat)} {s : Wk × Bool} (h : Says cols (cols + wid) A s) (hcl : s.2 = true) : ∃ t, t < wid ∧ ∀ y, ¬ SolT cols wid A t y := by
  obtain ⟨v, v1, v2, v3, ⟨j, hj, hjn⟩, v5⟩ := h.clash hcl
  have hjc : cols ≤ j := by
    by_cases e : cols ≤ j
    · exact e
    · exact absurd (v3 j (by omega)) hjn
  refine ⟨j - cols, by omega, fun y ⟨h1, h2, h3, h4⟩ => ?_⟩
  have := v5 y h1 h2
  rw [dot_split, tail_one (t := j - cols) (by omega) h3 h4 (v2.getD _)] at this
  rw [show dot y v cols = 0 from xsum_zero fun i hi => by rw [v3 i hi, mul_zero], Nat.zero_xor, show cols + (j - cols) = j by omega] at this
  exact hjn this

/-- what a system tells at the end. -/
def solveEnd (cols : Nat) (s : Wk × Bool) : List (List Nat) × Int := if count s.1 cols ≠ cols then ([], 21) else if s.2 = true then ([], 22) else (solvedBy cols s.1, 0)
theorem solveOut_end (cols : Nat) (rows vs : List (List Nat)) : solveOut cols rows vs = solveEnd cols (sysTo cols (augs rows vs) rows.length) := rfl
theorem solved_at {cols : Nat} {f : Wk} {c : Nat} (hc : c < cols) : (solvedBy cols f)[c]? = some ((rowOf f c).drop cols) := by
  unfold solvedBy
  rw [List.getElem?_map, List.getElem?_range hc]
  rfl
theorem solved_len (cols : Nat) (f : Wk) : (solvedBy cols f).length = cols := by unfold solvedBy; simp
theorem solved_ext {cols wid : Nat} {f : Wk} (hS : Sys cols (cols + wid) f) (hf : count f cols = cols) {X : List (List Nat)} (hX : X.length = cols) (hl : ∀ x ∈ X, x.length = wid) (h : ∀ c t r x, f c = some r → X[c]? = some x → t < wid → r.getD (cols + t) 0 = x.getD t 0) : solvedBy cols f = X := by
  apply List.ext_getElem?
  intro c
  by_cases hc : c < cols
  · obtain ⟨r, hr⟩ := count_full.1 hf c hc
    obtain ⟨x, hx⟩ : ∃ x, X[c]? = some x := ⟨_, List.getElem?_eq_getElem (by omega)⟩
    rw [solved_at hc, hx, rowOf_some hr]
    congr 1
    have hxl := hl x (List.mem_of_getElem? hx)
    have hrl := hS.len hr
    apply ext_getD
    · rw [List.length_drop]; omega
    · intro t ht
      rw [List.length_drop] at ht
      rw [List.getD_eq_getElem?_getD, List.getElem?_drop, ← List.getD_eq_getElem?_getD]
      exact h c t r x hr hx (by omega)
  · rw [List.getElem?_eq_none (by rw [solved_len]; omega), List.getElem?_eq_none (by omega)]
/-- the end hangs on what the equations say alone. -/
theorem end_congr {cols wid : Nat} {A A' : List (List Nat)} {s s' : Wk × Bool} (h : Says cols (cols + wid) A s) (h' : Says cols (cols + wid) A' s')
    (he : ∀ y : Nat → Nat, (∀ j, y j < 256) → ((∀ a ∈ A, dot y a (cols + wid) = 0) ↔ ∀ a ∈ A', dot y a (cols + wid) = 0)) : solveEnd cols s = solveEnd cols s' := by
  have hk : count s.1 cols = cols ↔ count s'.1 cols = cols := by
    rw [full_ker h, full_ker h']
    constructor
    · intro k y ⟨h1, h2, h3⟩; exact k y ⟨h1, h2, (he y h1).2 h3⟩
    · intro k y ⟨h1, h2, h3⟩; exact k y ⟨h1, h2, (he y h1).1 h3⟩
  have hs : ∀ t y, SolT cols wid A t y ↔ SolT cols wid A' t y := fun t y => ⟨fun ⟨h1, h2, h3⟩ => ⟨h1, (he y h1).1 h2, h3⟩, fun ⟨h1, h2, h3⟩ => ⟨h1, (he y h1).2 h2, h3⟩⟩
  unfold solveEnd
  by_cases hf : count s.1 cols = cols
  · have hf' := hk.1 hf
    rw [if_neg (show ¬ count s.1 cols ≠ cols from fun e => e hf), if_neg (show ¬ count s'.1 cols ≠ cols from fun e => e hf')]
    by_cases hc : s.2 = true
    · have hc' : s'.2 = true := by
        cases e : s'.2 with
        | true => rfl
        | false =>
          obtain ⟨t, ht, hn⟩ := no_sol h hc
          exact absurd ((hs t _).2 (sol_of h' hf' e ht)) (hn _)
      rw [if_pos hc, if_pos hc']
    · have hc2 : s.2 = false := by simpa using hc
      have hc' : ¬ s'.2 = true := fun e => by
        obtain ⟨t, ht, hn⟩ := no_sol h' e
        exact hn _ ((hs t _).1 (sol_of h hf hc2 ht))
      have hc2' : s'.2 = false := by simpa using hc'
      rw [if_neg hc, if_neg hc']
      congr 1
      refine solved_ext h.sys hf (solved_len _ _) (fun x hx => ?_) (fun c t r x hr hx ht => ?_)
      · obtain ⟨c, hc⟩ := List.getElem?_of_mem hx
        have hcl : c < cols := by have := (List.getElem?_eq_some_iff.1 hc).1; rw [solved_len] at this; exact this
        obtain ⟨r, hr⟩ := count_full.1 hf' c hcl
        rw [solved_at hcl, rowOf_some hr] at hc
        injection hc with hc
        rw [← hc, List.length_drop, h'.sys.len hr]; omega
      · have hcl := h.sys.lt hr
        obtain ⟨r', hr'⟩ := count_full.1 hf' c hcl
        rw [solved_at hcl, rowOf_some hr'] at hx
        injection hx with hx
        have hsl := sol_of h' hf' hc2' ht
        have e1 := sol_only h hf ht ((hs t _).2 hsl) hr
        simp only [if_pos hcl, rowOf_some hr'] at e1
        rw [← e1, ← hx, List.getD_eq_getElem?_getD, List.getD_eq_getElem?_getD, List.getElem?_drop]
  · rw [if_pos (show count s.1 cols ≠ cols from hf), if_pos (show count s'.1 cols ≠ cols from fun e => hf (hk.2 e))]

/-! rows and values -/
theorem mixAt_xsum (ks : List Nat) (ls : List (List Nat)) (j : Nat) : ∀ k, mixAt ks ls j k = xsum (fun i => mul (ks.getD i 0) ((ls.getD i []).getD j 0)) k
  | 0 => rfl
  | k + 1 => by simp only [mixAt, xsum]; rw [mixAt_xsum ks ls j k]
theorem mem_augs {rows vs : List (List Nat)} {a : List Nat} : a ∈ augs rows vs ↔ ∃ (i : Nat) (r v : List Nat), rows[i]? = some r ∧ vs[i]? = some v ∧ a = r ++ v := by
  unfold augs
  constructor
  · intro h
    obtain ⟨i, hi⟩ := List.getElem?_of_mem h
    rw [List.getElem?_zipWith] at hi
    cases hr : rows[i]? with
    | none => rw [hr] at hi; simp at hi
    | some r =>
      cases hv : vs[i]? with
      | none => rw [hr, hv] at hi; simp at hi
      | some v => rw [hr, hv] at hi; simp at hi; exact ⟨i, r, v, hr, hv, hi.symm⟩
  · rintro ⟨i, r, v, hr, hv, rfl⟩
    exact List.mem_of_getElem? (i := i) (by rw [List.getElem?_zipWith, hr, hv])
/-- rows of a length, bytes. -/
def Rws (rows : List (List Nat)) (n : Nat) : Prop := ∀ r ∈ rows, Bytes r ∧ r.length = n
theorem says_augs {cols wid : Nat} {rows vs : List (List Nat)} (hl : vs.length = rows.length) (hr : Rws rows cols) (hv : Rws vs wid) : Says cols (cols + wid) (augs rows vs) (sysTo cols (augs rows vs) rows.length) := by
  have h := says_to cols (cols + wid) (augs rows vs) (by omega) (fun a ha => by
    obtain ⟨i, r, v, h1, h2, rfl⟩ := mem_augs.1 ha
    have k1 := hr r (List.mem_of_getElem? h1)
    have k2 := hv v (List.mem_of_getElem? h2)
    exact ⟨fun x hx => by
      rcases List.mem_append.1 hx with h | h
      · exact k1.1 x h
      · exact k2.1 x h, by rw [List.length_append, k1.2, k2.2]⟩) rows.length
  rwa [List.take_of_length_le (by unfold augs; rw [List.length_zipWith]; omega)] at h
theorem says_rows {cols : Nat} {rows : List (List Nat)} (hr : Rws rows cols) : Says cols (cols + 0) rows (sysTo cols rows rows.length) := by
  have h := says_to cols (cols + 0) rows (by omega) hr rows.length
  rwa [List.take_of_length_le (Nat.le_refl _)] at h
theorem count_step (cols L : Nat) (s : Wk × Bool) (hS : Sys cols L s.1) {e : List Nat} (hb : Bytes e) (hl : e.length = L) (hc : cols ≤ L) : count (addEq cols s e).1 cols ≤ count s.1 cols + 1 := by
  unfold addEq
  simp only
  split
  · exact Nat.le_succ _
  · rename_i hne
    have hle := lead_le (cols := cols) (e := clrAll s.1 e cols) (by unfold clrAll; rw [clr_length]; omega)
    have hlt : lead cols (clrAll s.1 e cols) < cols := by omega
    have hn := lead_ne (cols := cols) (e := clrAll s.1 e cols) (by unfold clrAll; rw [clr_length]; omega) hlt
    have hfl : s.1 (lead cols (clrAll s.1 e cols)) = none := by
      cases hf : s.1 (lead cols (clrAll s.1 e cols)) with
      | none => rfl
      | some r => exact absurd (clrAll_zero hS hb hf (by omega)) hn
    rw [count_new (f := s.1) hfl (by simp) (fun c hc => by simp [hc]) hlt]
    exact Nat.le_refl _
theorem count_to_step (cols : Nat) {rows : List (List Nat)} (hr : Rws rows cols) (k : Nat) : count (sysTo cols rows (k + 1)).1 cols ≤ count (sysTo cols rows k).1 cols + 1 := by
  by_cases hk : k < rows.length
  · rw [sysTo_succ cols rows k _ (List.getElem?_eq_getElem hk)]
    have h1 := hr rows[k] (List.getElem_mem hk)
    exact count_step cols cols _ (says_to cols cols rows (Nat.le_refl _) hr k).sys h1.1 h1.2 (Nat.le_refl _)
  · unfold sysTo
    rw [List.take_of_length_le (by omega : rows.length ≤ k), List.take_of_length_le (by omega)]
    omega
theorem count_to_n (cols : Nat) {rows : List (List Nat)} (hr : Rws rows cols) : ∀ k, count (sysTo cols rows k).1 cols ≤ k
  | 0 => by rw [sysTo_zero, count_none]; exact Nat.le_refl _
  | k + 1 => Nat.le_trans (count_to_step cols hr k) (by have := count_to_n cols hr k; omega)
/-- is the system full? the values don't matter. -/
theorem full_augs {cols wid : Nat} {rows vs : List (List Nat)} (hl : vs.length = rows.length) (hr : Rws rows cols) (hv : Rws vs wid) : count (sysTo cols (augs rows vs) rows.length).1 cols = cols ↔ rankOf cols rows = cols := by
  unfold rankOf
  rw [full_ker (says_augs hl hr hv), full_ker (says_rows hr)]
  have key : ∀ y, KerT cols wid (augs rows vs) y ↔ KerT cols 0 rows y := fun y => by
    constructor
    · rintro ⟨h1, h2, h3⟩
      refine ⟨h1, h2, fun r hrm => ?_⟩
      obtain ⟨i, hi⟩ := List.getElem?_of_mem hrm
      obtain ⟨v, hv'⟩ : ∃ v, vs[i]? = some v := ⟨_, List.getElem?_eq_getElem (by have := (List.getElem?_eq_some_iff.1 hi).1; omega)⟩
      have := h3 (r ++ v) (mem_augs.2 ⟨i, r, v, hi, hv', rfl⟩)
      rw [dot_aug y wid (hr r hrm).2, tail_zero wid h2, Nat.xor_zero] at this
      exact this
    · rintro ⟨h1, h2, h3⟩
      refine ⟨h1, h2, fun a ha => ?_⟩
      obtain ⟨i, r, v, hi, hv', rfl⟩ := mem_augs.1 ha
      have hrm := List.mem_of_getElem? hi
      rw [dot_aug y wid (hr r hrm).2, tail_zero wid h2, Nat.xor_zero]
      exact h3 r hrm
  constructor
  · intro k y hy; exact k y ((key y).2 hy)
  · intro k y hy; exact k y ((key y).1 hy)
theorem longest_even {xs : List (List Nat)} {wid : Nat} (h : ∀ x ∈ xs, x.length = wid) : ∀ {k}, 0 < k → k ≤ xs.length → longest xs k = wid
  | 0, h0, _ => absurd h0 (by omega)
  | k + 1, _, hk => by
    simp only [longest]
    have h1 : (xs.getD k []).length = wid := by
      rw [List.getD_eq_getElem?_getD, List.getElem?_eq_getElem (by omega)]
      exact h _ (List.getElem_mem _)
    rw [h1]
    by_cases e : k = 0
    · subst e; simp [longest]
    · rw [longest_even h (by omega) (by omega)]; omega
theorem apply_at {rows xs : List (List Nat)} {cols wid : Nat} (hx : xs.length = cols) (h0 : 0 < cols) (hw : ∀ x ∈ xs, x.length = wid) {i : Nat} {r : List Nat} (hr : rows[i]? = some r) : (applyOf rows xs)[i]? = some (mixTo r xs wid cols) := by
  unfold applyOf
  rw [List.getElem?_map, hr, hx, longest_even hw h0 (by omega)]
  rfl
theorem solT_apply {cols wid : Nat} {rows xs : List (List Nat)} (h0 : 0 < cols) (hx : xs.length = cols) (hr : Rws rows cols) (hw : Rws xs wid) {t : Nat} (ht : t < wid) :
    ∃ y, SolT cols wid (augs rows (applyOf rows xs)) t y ∧ ∀ j, j < cols → y j = (xs.getD j []).getD t 0 := by
  have hb : ∀ j, (xs.getD j []).getD t 0 < 256 := fun j => by
    by_cases hj : j < xs.length
    · have e : xs.getD j [] = xs[j] := by rw [List.getD_eq_getElem?_getD, List.getElem?_eq_getElem hj]; rfl
      rw [e]
      exact (hw _ (List.getElem_mem hj)).1.getD t
    · have e : xs.getD j [] = [] := by rw [List.getD_eq_getElem?_getD, List.getElem?_eq_none (by omega)]; rfl
      rw [e]; simp
  obtain ⟨y, hy⟩ : ∃ y : Nat → Nat, y = fun j => if j < cols then (xs.getD j []).getD t 0 else if j = cols + t then 1 else 0 := ⟨_, rfl⟩
  have y0 : ∀ j, j < cols → y j = (xs.getD j []).getD t 0 := fun j hj => by rw [hy]; simp only [if_pos hj]
  have y1 : ∀ j, y j < 256 := fun j => by
    rw [hy]; simp only
    split
    · exact hb j
    · split <;> decide
  have y2 : y (cols + t) = 1 := by rw [hy]; show (if cols + t < cols then _ else if cols + t = cols + t then 1 else 0) = 1; rw [if_neg (by omega), if_pos rfl]
  have y3 : ∀ u, u < wid → u ≠ t → y (cols + u) = 0 := fun u _ hu => by rw [hy]; simp only; rw [if_neg (by omega), if_neg (by omega)]
  clear hy
  refine ⟨y, ⟨y1, fun a ha => ?_, y2, y3⟩, y0⟩
  obtain ⟨i, r, v, hi, hv, rfl⟩ := mem_augs.1 ha
  have hrm := hr r (List.mem_of_getElem? hi)
  rw [apply_at hx h0 (fun x hx => (hw x hx).2) hi] at hv
  injection hv with hv
  have hvb : v.getD t 0 < 256 := by rw [← hv]; exact (mixTo_bytes hrm.1 _ _ _).getD t
  rw [dot_aug y wid hrm.2, tail_one ht y2 y3 hvb, ← hv, mixTo_getD _ _ _ _ ht, mixAt_xsum]
  have : dot y r cols = xsum (fun i => mul (r.getD i 0) ((xs.getD i []).getD t 0)) cols := by
    unfold dot
    apply xsum_congr
    intro j hj
    rw [y0 j hj]
    exact mul_comm (hb j) (hrm.1.getD j)
  rw [this, Nat.xor_self]
theorem apply_rws {cols wid : Nat} {rows xs : List (List Nat)} (h0 : 0 < cols) (hx : xs.length = cols) (hr : Rws rows cols) (hw : Rws xs wid) : Rws (applyOf rows xs) wid := by
  intro v hv
  obtain ⟨i, hi⟩ := List.getElem?_of_mem hv
  obtain ⟨r, hri⟩ : ∃ r, rows[i]? = some r := ⟨_, List.getElem?_eq_getElem (by have := (List.getElem?_eq_some_iff.1 hi).1; unfold applyOf at this; simpa using this)⟩
  rw [apply_at hx h0 (fun x hx => (hw x hx).2) hri] at hi
  injection hi with hi
  rw [← hi]
  exact ⟨mixTo_bytes (hr r (List.mem_of_getElem? hri)).1 _ _ _, mixTo_length _ _ _ _⟩
/-- what was applied is solved again, if the rank is full. -/
theorem solve_applied {cols wid : Nat} {rows xs : List (List Nat)} (h0 : 0 < cols) (hx : xs.length = cols) (hr : Rws rows cols) (hw : Rws xs wid) :
    solveOut cols rows (applyOf rows xs) = if rankOf cols rows = cols then (xs, 0) else ([], 21) := by
  have hl : (applyOf rows xs).length = rows.length := by unfold applyOf; simp
  have hv := apply_rws h0 hx hr hw
  have hS := says_augs hl hr hv
  have hfa := full_augs hl hr hv
  rw [solveOut_end]
  unfold solveEnd
  by_cases hf : rankOf cols rows = cols
  · have hf' := hfa.2 hf
    rw [if_neg (show ¬ count (sysTo cols (augs rows (applyOf rows xs)) rows.length).1 cols ≠ cols from fun e => e hf'), if_pos hf]
    have hc : ¬ (sysTo cols (augs rows (applyOf rows xs)) rows.length).2 = true := fun e => by
      obtain ⟨t, ht, hn⟩ := no_sol hS e
      obtain ⟨y, hy, _⟩ := solT_apply h0 hx hr hw ht
      exact hn y hy
    rw [if_neg hc]
    congr 1
    refine solved_ext hS.sys hf' hx (fun x hx => (hw x hx).2) (fun c t r x hr' hx' ht => ?_)
    obtain ⟨y, hy, hy0⟩ := solT_apply h0 hx hr hw ht
    have := sol_only hS hf' ht hy hr'
    rw [hy0 c (hS.sys.lt hr')] at this
    have e : xs.getD c [] = x := by rw [List.getD_eq_getElem?_getD, hx']; rfl
    rw [← this, e]
  · rw [if_pos (show count (sysTo cols (augs rows (applyOf rows xs)) rows.length).1 cols ≠ cols from fun e => hf (hfa.1 e)), if_neg hf]
/-- what is solved has the values that were given. -/
theorem solve_told {cols wid : Nat} {rows vs X : List (List Nat)} (h0 : 0 < cols) (hl : vs.length = rows.length) (hr : Rws rows cols) (hv : Rws vs wid) {code : Int} (h : solveOut cols rows vs = (X, code)) (hc : code = 0) :
    X.length = cols ∧ Rws X wid ∧ applyOf rows X = vs := by
  subst hc
  have hS := says_augs hl hr hv
  rw [solveOut_end] at h
  unfold solveEnd at h
  by_cases hf : count (sysTo cols (augs rows vs) rows.length).1 cols = cols
  · rw [if_neg (show ¬ count (sysTo cols (augs rows vs) rows.length).1 cols ≠ cols from fun e => e hf)] at h
    by_cases hcl : (sysTo cols (augs rows vs) rows.length).2 = true
    · rw [if_pos hcl] at h; injection h with _ h; cases h
    · rw [if_neg hcl] at h
      have hcl' : (sysTo cols (augs rows vs) rows.length).2 = false := by simpa using hcl
      injection h with h _
      subst h
      have hX : Rws (solvedBy cols (sysTo cols (augs rows vs) rows.length).1) wid := by
        intro x hx
        obtain ⟨c, hc⟩ := List.getElem?_of_mem hx
        have hcl : c < cols := by have := (List.getElem?_eq_some_iff.1 hc).1; rw [solved_len] at this; exact this
        obtain ⟨r, hr'⟩ := count_full.1 hf c hcl
        rw [solved_at hcl, rowOf_some hr'] at hc
        injection hc with hc
        rw [← hc]
        exact ⟨fun y hy => hS.sys.bytes hr' y (List.mem_of_mem_drop hy), by rw [List.length_drop, hS.sys.len hr']; omega⟩
      refine ⟨solved_len _ _, hX, ?_⟩
      apply List.ext_getElem?
      intro i
      by_cases hi : i < rows.length
      · have hri : rows[i]? = some rows[i] := List.getElem?_eq_getElem hi
        have hvi : vs[i]? = some (vs[i]'(by omega)) := List.getElem?_eq_getElem (by omega)
        have hrm := hr _ (List.getElem_mem hi)
        have hvm := hv _ (List.getElem_mem (show i < vs.length by omega))
        rw [apply_at (solved_len _ _) h0 (fun x hx => (hX x hx).2) hri, hvi]
        congr 1
        apply ext_getD
        · rw [mixTo_length, hvm.2]
        · intro t ht
          rw [mixTo_length] at ht
          rw [mixTo_getD _ _ _ _ ht, mixAt_xsum]
          obtain ⟨y, hsl, hy0⟩ : ∃ y, SolT cols wid (augs rows vs) t y ∧ ∀ j, j < cols → y j = (rowOf (sysTo cols (augs rows vs) rows.length).1 j).getD (cols + t) 0 := ⟨_, sol_of hS hf hcl' ht, fun j hj => by simp only [if_pos hj]⟩
          have := hsl.2.1 _ (mem_augs.2 ⟨i, _, _, hri, hvi, rfl⟩)
          rw [dot_aug _ wid hrm.2, tail_one ht hsl.2.2.1 hsl.2.2.2 (hvm.1.getD t)] at this
          rw [← xor_eq_zero this]
          unfold dot
          apply xsum_congr
          intro j hj
          rw [hy0 j hj]
          obtain ⟨r', hr'⟩ := count_full.1 hf j hj
          rw [List.getD_eq_getElem?_getD (l := solvedBy _ _), solved_at hj, rowOf_some hr']
          simp only [Option.getD_some]
          rw [List.getD_eq_getElem?_getD (l := List.drop _ _), List.getElem?_drop, ← List.getD_eq_getElem?_getD]
          exact mul_comm (hrm.1.getD j) ((hS.sys.bytes hr').getD _)
      · rw [List.getElem?_eq_none (by unfold applyOf; simp; omega), List.getElem?_eq_none (by omega)]
  · rw [if_pos hf] at h; injection h with _ h; cases h
end Go.Proofs.Ytgnnfpnkhemimaa
