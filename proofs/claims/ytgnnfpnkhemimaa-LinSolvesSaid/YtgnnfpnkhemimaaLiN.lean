/-
  lin: plain mathematics: equations worked off one by one, and what the worked ones say.
-/
import Derived.Test.YtgnnfpnkhemimaaLiM
namespace Go.Proofs.Ytgnnfpnkhemimaa

abbrev Wk := Nat → Option (List Nat)
def rowOf (f : Wk) (c : Nat) : List Nat := (f c).getD []
theorem rowOf_some {f : Wk} {c : Nat} {r : List Nat} (h : f c = some r) : rowOf f c = r := by simp [rowOf, h]
def clr (f : Wk) (eq : List Nat) (p : Nat → Bool) (n : Nat) : List Nat :=
  eq.mapIdx fun j x => x ^^^ xsum (fun c => if p c then mul (eq.getD c 0) ((rowOf f c).getD j 0) else 0) n
theorem clr_length (f : Wk) (eq : List Nat) (p : Nat → Bool) (n : Nat) : (clr f eq p n).length = eq.length := by simp [clr]
theorem clr_getD (f : Wk) (eq : List Nat) (p : Nat → Bool) (n : Nat) {j : Nat} (hj : j < eq.length) : (clr f eq p n).getD j 0 = eq.getD j 0 ^^^ xsum (fun c => if p c then mul (eq.getD c 0) ((rowOf f c).getD j 0) else 0) n := by
  simp [clr, List.getD_eq_getElem?_getD, hj]
theorem clr_none (f : Wk) (eq : List Nat) (p : Nat → Bool) (n : Nat) (h : ∀ c, p c = false) : clr f eq p n = eq := by
  apply ext_getD (clr_length _ _ _ _)
  intro j hj
  rw [clr_length] at hj
  rw [clr_getD _ _ _ _ hj, xsum_zero (fun c _ => by rw [h c]; rfl), Nat.xor_zero]
theorem clr_congr (f : Wk) (eq : List Nat) {p q : Nat → Bool} (n : Nat) (h : ∀ c, c < n → p c = q c) : clr f eq p n = clr f eq q n := by
  apply ext_getD (by rw [clr_length, clr_length])
  intro j hj
  rw [clr_length] at hj
  rw [clr_getD _ _ _ _ hj, clr_getD _ _ _ _ hj, xsum_congr (fun c hc => by rw [h c hc])]
theorem clr_bytes (f : Wk) {eq : List Nat} (p : Nat → Bool) (n : Nat) (h : Bytes eq) : Bytes (clr f eq p n) :=
  Bytes.of_getD fun j hj => by
    rw [clr_length] at hj
    rw [clr_getD _ _ _ _ hj]
    exact xor_lt (h.getD j) (xsum_lt (fun c => by split; exact mul_lt (h.getD c); decide) n)

structure Sys (cols L : Nat) (f : Wk) : Prop where
  len : ∀ {c r}, f c = some r → r.length = L
  bytes : ∀ {c r}, f c = some r → Bytes r
  lt : ∀ {c r}, f c = some r → c < cols
  one : ∀ {c r}, f c = some r → r.getD c 0 = 1
  zero : ∀ {c r c' r'}, f c = some r → f c' = some r' → c' ≠ c → r.getD c' 0 = 0
  lead : ∀ {c r j}, f c = some r → j < c → r.getD j 0 = 0

theorem clr_at {cols L : Nat} {f : Wk} (h : Sys cols L f) {eq : List Nat} {p : Nat → Bool} {x : Nat} {r : List Nat} (hx : f x = some r) (hp : p x = false) (hps : ∀ c, p c = true → ∃ r, f c = some r) (hl : x < eq.length) : (clr f eq p cols).getD x 0 = eq.getD x 0 := by
  rw [clr_getD _ _ _ _ hl, xsum_zero, Nat.xor_zero]
  intro c _
  by_cases e : p c = true
  · obtain ⟨r', hr'⟩ := hps c e
    rw [if_pos e, rowOf_some hr', h.zero hr' hx (fun e2 => by rw [e2, e] at hp; cases hp), mul_zero]
  · rw [if_neg e]
theorem clr_step {cols L : Nat} {f : Wk} (h : Sys cols L f) {eq : List Nat} {p : Nat → Bool} {x : Nat} {r : List Nat} (hx : f x = some r) (hp : p x = false) (hps : ∀ c, p c = true → ∃ r, f c = some r) (hL : cols ≤ eq.length) :
    addTo (clr f eq p cols) ((clr f eq p cols).getD x 0) r = clr f eq (fun c => p c || c == x) cols := by
  have hxc := h.lt hx
  rw [clr_at h hx hp hps (by omega)]
  apply ext_getD
  · rw [addTo_length, clr_length, clr_length]
  · intro j hj
    rw [addTo_length, clr_length] at hj
    rw [addTo_getD _ _ _ _ (by rw [clr_length]; exact hj), clr_getD _ _ _ _ hj, clr_getD _ _ _ _ hj]
    have := xsum_pick (g := fun c => mul (eq.getD c 0) ((rowOf f c).getD j 0)) (p := p) hxc hp
    rw [this, rowOf_some hx, Nat.xor_assoc]
def clrAll (f : Wk) (eq : List Nat) (n : Nat) : List Nat := clr f eq (fun c => (f c).isSome) n
theorem clrAll_zero {cols L : Nat} {f : Wk} (h : Sys cols L f) {eq : List Nat} (hb : Bytes eq) {c : Nat} {r : List Nat} (hc : f c = some r) (hL : cols ≤ eq.length) : (clrAll f eq cols).getD c 0 = 0 := by
  have hcl := h.lt hc
  unfold clrAll
  rw [clr_getD _ _ _ _ (by omega), xsum_one hcl, if_pos (by rw [hc]; rfl), rowOf_some hc, h.one hc, mul_one (hb.getD c), Nat.xor_self]
  intro c' _ hne
  by_cases e : (f c').isSome = true
  · obtain ⟨r', hr'⟩ := Option.isSome_iff_exists.1 e
    rw [if_pos e, rowOf_some hr', h.zero hr' hc (fun e2 => hne e2.symm), mul_zero]
  · rw [if_neg e]
theorem dot_clrAll {cols L : Nat} {f : Wk} (h : Sys cols L f) {eq : List Nat} (hb : Bytes eq) (hL : eq.length = L) {y : Nat → Nat} (hy : ∀ j, y j < 256) (h0 : ∀ c r, f c = some r → dot y r L = 0) : dot y (clrAll f eq cols) L = dot y eq L := by
  have e1 : dot y (clrAll f eq cols) L = xsum (fun j => mul (y j) (eq.getD j 0) ^^^ xsum (fun c => if (f c).isSome = true then mul (eq.getD c 0) (mul (y j) ((rowOf f c).getD j 0)) else 0) cols) L := by
    unfold dot
    apply xsum_congr
    intro j hj
    unfold clrAll
    have hlt : ∀ c, (if (f c).isSome = true then mul (eq.getD c 0) ((rowOf f c).getD j 0) else 0) < 256 := fun c => by
      split
      · exact mul_lt (hb.getD c)
      · decide
    rw [clr_getD _ _ _ _ (by omega), mul_xor (hy j) (hb.getD j) (xsum_lt hlt _), mul_xsum (hy j) hlt]
    congr 1
    apply xsum_congr
    intro c _
    by_cases e : (f c).isSome = true
    · obtain ⟨r, hr⟩ := Option.isSome_iff_exists.1 e
      rw [if_pos e, if_pos e, rowOf_some hr, mul_left_comm' (hy j) (hb.getD c) ((h.bytes hr).getD j)]
    · rw [if_neg e, if_neg e, mul_zero]
  rw [e1, xsum_xor, xsum_swap]
  have e2 : xsum (fun c => xsum (fun j => if (f c).isSome = true then mul (eq.getD c 0) (mul (y j) ((rowOf f c).getD j 0)) else 0) L) cols = 0 := by
    apply xsum_zero
    intro c _
    by_cases e : (f c).isSome = true
    · obtain ⟨r, hr⟩ := Option.isSome_iff_exists.1 e
      simp only [e, if_true]
      rw [← mul_xsum (hb.getD c) (fun j => mul_lt (hy j)), rowOf_some hr]
      have := h0 c r hr
      unfold dot at this
      rw [this, mul_zero]
    · apply xsum_zero
      intro j _
      rw [if_neg e]
  rw [e2, Nat.xor_zero]
  rfl

/-- the first column with another coefficient than 0; cols, if there is none. -/
def lead (cols : Nat) (e : List Nat) : Nat := (e.take cols).findIdx (· != 0)
theorem lead_le {cols : Nat} {e : List Nat} (h : cols ≤ e.length) : lead cols e ≤ cols := by
  have := List.findIdx_le_length (p := (· != 0)) (xs := e.take cols)
  rw [List.length_take] at this
  unfold lead
  omega
theorem lead_zero {cols : Nat} {e : List Nat} (h : cols ≤ e.length) {j : Nat} (hj : j < lead cols e) : e.getD j 0 = 0 := by
  have hle := lead_le h
  have := List.not_of_lt_findIdx hj
  rw [List.getElem_take] at this
  rw [List.getD_eq_getElem?_getD, List.getElem?_eq_getElem (by omega)]
  simpa using this
theorem lead_ne {cols : Nat} {e : List Nat} (h : cols ≤ e.length) (hl : lead cols e < cols) : e.getD (lead cols e) 0 ≠ 0 := by
  have h1 : (e.take cols).findIdx (· != 0) < (e.take cols).length := by
    have : (e.take cols).length = cols := by simp; omega
    rw [this]; exact hl
  have := List.findIdx_getElem (w := h1)
  simp only [bne_iff_ne, ne_eq, List.getElem_take] at this
  rw [List.getD_eq_getElem?_getD, List.getElem?_eq_getElem (by omega)]
  simpa [lead] using this

def addEq (cols : Nat) (s : Wk × Bool) (eq : List Nat) : Wk × Bool :=
  let e0 := clrAll s.1 eq cols
  if lead cols e0 = cols then (s.1, s.2 || e0.any (· != 0))
  else (fun c => if c = lead cols e0 then some (e0.map (mul (inv (e0.getD (lead cols e0) 0)))) else (s.1 c).map fun r => addTo r (r.getD (lead cols e0) 0) (e0.map (mul (inv (e0.getD (lead cols e0) 0)))), s.2)

theorem map_mul_getD (k : Nat) (e : List Nat) (j : Nat) : (e.map (mul k)).getD j 0 = mul k (e.getD j 0) := by
  by_cases h : j < e.length
  · simp [List.getD_eq_getElem?_getD, h]
  · rw [List.getD_eq_getElem?_getD, List.getElem?_eq_none (by simp; omega), List.getD_eq_getElem?_getD, List.getElem?_eq_none (by omega)]
    simp [mul_zero]
theorem map_mul_bytes {k : Nat} (hk : k < 256) (e : List Nat) : Bytes (e.map (mul k)) := Bytes.of_getD fun j _ => by rw [map_mul_getD]; exact mul_lt hk

/-- what the rows that have been worked off say, and what is left of them. -/
structure Says (cols L : Nat) (rows : List (List Nat)) (s : Wk × Bool) : Prop where
  sys : Sys cols L s.1
  down : ∀ y : Nat → Nat, (∀ j, y j < 256) → (∀ r ∈ rows, dot y r L = 0) → ∀ c r, s.1 c = some r → dot y r L = 0
  up : ∀ y : Nat → Nat, (∀ j, y j < 256) → (s.2 = false ∨ ∀ j, cols ≤ j → y j = 0) → (∀ c r, s.1 c = some r → dot y r L = 0) → ∀ r ∈ rows, dot y r L = 0
  clash : s.2 = true → ∃ v : List Nat, v.length = L ∧ Bytes v ∧ (∀ j, j < cols → v.getD j 0 = 0) ∧ (∃ j, j < L ∧ v.getD j 0 ≠ 0) ∧ ∀ y : Nat → Nat, (∀ j, y j < 256) → (∀ r ∈ rows, dot y r L = 0) → dot y v L = 0

theorem says_none (cols L : Nat) : Says cols L [] (fun _ => none, false) :=
  ⟨⟨fun h => (by cases h), fun h => (by cases h), fun h => (by cases h), fun h => (by cases h), fun h => (by cases h), fun h => (by cases h)⟩, fun _ _ _ c r h => (by cases h), fun _ _ _ _ r h => (by cases h), fun h => (by cases h)⟩

theorem Says.add {cols L : Nat} {rows : List (List Nat)} {s : Wk × Bool} (h : Says cols L rows s) {eq : List Nat} (hb : Bytes eq) (hl : eq.length = L) (hc : cols ≤ L) : Says cols L (rows ++ [eq]) (addEq cols s eq) := by
  have hS := h.sys
  obtain ⟨e0, he0⟩ : ∃ e0, e0 = clrAll s.1 eq cols := ⟨_, rfl⟩
  have l0 : e0.length = L := by rw [he0]; unfold clrAll; rw [clr_length, hl]
  have b0 : Bytes e0 := by rw [he0]; exact clr_bytes _ _ _ hb
  have d0 : ∀ y : Nat → Nat, (∀ j, y j < 256) → (∀ c r, s.1 c = some r → dot y r L = 0) → dot y e0 L = dot y eq L := fun y hy k => by rw [he0]; exact dot_clrAll hS hb hl hy k
  have z0 : ∀ {c r}, s.1 c = some r → e0.getD c 0 = 0 := fun hcr => by rw [he0]; exact clrAll_zero hS hb hcr (by omega)
  unfold addEq
  simp only [← he0]
  by_cases hlead : lead cols e0 = cols
  · rw [if_pos hlead]
    have hz : ∀ j, j < cols → e0.getD j 0 = 0 := fun j hj => lead_zero (cols := cols) (by omega) (by omega)
    refine ⟨hS, fun y hy k => h.down y hy (fun r hr => k r (by simp [hr])), fun y hy hf k r hr => ?_, fun hcl => ?_⟩
    · rcases List.mem_append.1 hr with hr | hr
      · exact h.up y hy (by rcases hf with hf | hf; left; simp at hf; exact hf.1; right; exact hf) k r hr
      · simp only [List.mem_singleton] at hr
        subst hr
        rw [← d0 y hy k]
        apply xsum_zero
        intro j hj
        rcases hf with hf | hf
        · simp only [Bool.or_eq_false_iff] at hf
          have := List.any_eq_false.1 hf.2 (e0.getD j 0) (by rw [List.getD_eq_getElem?_getD, List.getElem?_eq_getElem (by omega)]; exact List.getElem_mem _)
          simp only [bne_iff_ne, ne_eq, Decidable.not_not] at this
          rw [this, mul_zero]
        · by_cases hjc : j < cols
          · rw [hz j hjc, mul_zero]
          · rw [hf j (by omega), zero_mul]
    · simp only [Bool.or_eq_true] at hcl
      rcases hcl with hcl | hcl
      · obtain ⟨v, v1, v2, v3, v4, v5⟩ := h.clash hcl
        exact ⟨v, v1, v2, v3, v4, fun y hy k => v5 y hy (fun r hr => k r (by simp [hr]))⟩
      · obtain ⟨x, hx, hxn⟩ := List.any_eq_true.1 hcl
        obtain ⟨j, hj, rfl⟩ := List.mem_iff_getElem.1 hx
        refine ⟨e0, l0, b0, hz, ⟨j, by omega, ?_⟩, fun y hy k => ?_⟩
        · rw [List.getD_eq_getElem?_getD, List.getElem?_eq_getElem hj]
          simpa using hxn
        · rw [d0 y hy (h.down y hy (fun r hr => k r (by simp [hr])))]
          exact k eq (by simp)
  · rw [if_neg hlead]
    have hle : lead cols e0 < cols := by have := lead_le (cols := cols) (e := e0) (by omega); omega
    have hne := lead_ne (cols := cols) (e := e0) (by omega) hle
    have hlz : ∀ j, j < lead cols e0 → e0.getD j 0 = 0 := fun j hj => lead_zero (cols := cols) (by omega) hj
    obtain ⟨l, hl'⟩ : ∃ l, l = lead cols e0 := ⟨_, rfl⟩
    rw [← hl'] at hle hne hlz ⊢
    obtain ⟨a, ha⟩ : ∃ a, a = e0.getD l 0 := ⟨_, rfl⟩
    have a1 : a < 256 := by rw [ha]; exact b0.getD l
    rw [← ha] at hne ⊢
    obtain ⟨e, he⟩ : ∃ e, e = e0.map (mul (inv a)) := ⟨_, rfl⟩
    have eg : ∀ j, e.getD j 0 = mul (inv a) (e0.getD j 0) := fun j => by rw [he, map_mul_getD]
    have el : e.length = L := by rw [he]; simp [l0]
    have eb : Bytes e := by rw [he]; exact map_mul_bytes (inv_lt a) _
    have e1 : e.getD l 0 = 1 := by rw [eg, ← ha, mul_comm (inv_lt a) a1, mul_inv a1 hne]
    rw [← he]
    have hln : ∀ r, s.1 l ≠ some r := fun r hr => hne (by rw [ha]; exact z0 hr)
    have ez : ∀ {c r}, s.1 c = some r → e.getD c 0 = 0 := fun hcr => by rw [eg, z0 hcr, mul_zero]
    have elz : ∀ j, j < l → e.getD j 0 = 0 := fun j hj => by rw [eg, hlz j hj, mul_zero]
    have ed : ∀ y : Nat → Nat, (∀ j, y j < 256) → dot y e L = mul (inv a) (dot y e0 L) := fun y hy => dot_mul hy b0 (inv_lt a) (fun j _ => eg j)
    have at' : ∀ {c r}, (if c = l then some e else (s.1 c).map fun r => addTo r (r.getD l 0) e) = some r → (c = l ∧ r = e) ∨ (c ≠ l ∧ ∃ r0, s.1 c = some r0 ∧ r = addTo r0 (r0.getD l 0) e) := fun {c r} hcr => by
      by_cases e2 : c = l
      · rw [if_pos e2] at hcr
        exact .inl ⟨e2, by injection hcr with hcr; exact hcr.symm⟩
      · rw [if_neg e2] at hcr
        obtain ⟨r0, h1, h2⟩ := Option.map_eq_some_iff.1 hcr
        exact .inr ⟨e2, r0, h1, h2.symm⟩
    refine ⟨⟨fun {c r} hcr => ?_, fun {c r} hcr => ?_, fun {c r} hcr => ?_, fun {c r} hcr => ?_, fun {c r c' r'} hcr hcr' hne' => ?_, fun {c r j} hcr hj => ?_⟩, fun y hy k => ?_, fun y hy hf k => ?_, fun hcl => ?_⟩
    · rcases at' hcr with ⟨_, rfl⟩ | ⟨_, r0, h0, rfl⟩
      · exact el
      · rw [addTo_length]; exact hS.len h0
    · rcases at' hcr with ⟨_, rfl⟩ | ⟨_, r0, h0, rfl⟩
      · exact eb
      · exact addTo_bytes (hS.bytes h0) ((hS.bytes h0).getD l)
    · rcases at' hcr with ⟨rfl, _⟩ | ⟨_, r0, h0, _⟩
      · exact hle
      · exact hS.lt h0
    · rcases at' hcr with ⟨rfl, rfl⟩ | ⟨_, r0, h0, rfl⟩
      · exact e1
      · rw [addTo_getD _ _ _ _ (by rw [hS.len h0]; have := hS.lt h0; omega), hS.one h0, ez h0, mul_zero]; rfl
    · rcases at' hcr with ⟨rfl, rfl⟩ | ⟨n0, r0, h0, rfl⟩
      · rcases at' hcr' with ⟨e2, _⟩ | ⟨_, r1, h1, _⟩
        · exact absurd e2 hne'
        · exact ez h1
      · rcases at' hcr' with ⟨rfl, _⟩ | ⟨_, r1, h1, _⟩
        · rw [addTo_getD _ _ _ _ (by rw [hS.len h0]; omega), e1, mul_one ((hS.bytes h0).getD _), Nat.xor_self]
        · rw [addTo_getD _ _ _ _ (by rw [hS.len h0]; have := hS.lt h1; omega), hS.zero h0 h1 hne', ez h1, mul_zero]; rfl
    · rcases at' hcr with ⟨rfl, rfl⟩ | ⟨n0, r0, h0, rfl⟩
      · exact elz j hj
      · have := hS.lt h0
        rw [addTo_getD _ _ _ _ (by rw [hS.len h0]; omega), hS.lead h0 hj]
        by_cases hlc : l < c
        · rw [hS.lead h0 hlc, zero_mul]; rfl
        · rw [elz j (by omega), mul_zero]; rfl
    · have k0 := h.down y hy (fun r hr => k r (by simp [hr]))
      have ke : dot y e L = 0 := by rw [ed y hy, d0 y hy k0, k eq (by simp), mul_zero]
      intro c r hcr
      rcases at' hcr with ⟨rfl, rfl⟩ | ⟨n0, r0, h0, rfl⟩
      · exact ke
      · rw [dot_addTo hy (hS.bytes h0) eb ((hS.bytes h0).getD l) (by rw [hS.len h0]; omega), k0 _ _ h0, ke, mul_zero]; rfl
    · have ke : dot y e L = 0 := k l e (if_pos rfl)
      have k0 : ∀ c r, s.1 c = some r → dot y r L = 0 := fun c r h0 => by
        have hcl : c ≠ l := fun e2 => hln r (by rw [← e2]; exact h0)
        have := k c (addTo r (r.getD l 0) e) (by simp only [if_neg hcl, h0]; rfl)
        rw [dot_addTo hy (hS.bytes h0) eb ((hS.bytes h0).getD l) (by rw [hS.len h0]; omega), ke, mul_zero, Nat.xor_zero] at this
        exact this
      intro r hr
      rcases List.mem_append.1 hr with hr | hr
      · exact h.up y hy hf k0 r hr
      · simp only [List.mem_singleton] at hr
        subst hr
        rw [← d0 y hy k0]
        rw [ed y hy] at ke
        exact Classical.byContradiction fun e2 => mul_ne (inv_lt a) (dot_lt hy _ _) (inv_ne a) e2 ke
    · obtain ⟨v, v1, v2, v3, v4, v5⟩ := h.clash hcl
      exact ⟨v, v1, v2, v3, v4, fun y hy k => v5 y hy (fun r hr => k r (by simp [hr]))⟩
end Go.Proofs.Ytgnnfpnkhemimaa
