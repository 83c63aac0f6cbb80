/-
  Li1: LiM LiN LiO LiP LiQ LiR LiS
-/
import Derived.Test.YtfjcbgfgiidogaaDoorRows
import Derived.Maps.RangeWalk
import Derived.BigQuiet
import Derived.Deep.QuietTactic
import Derived.Deep.RegionHeld3
import Derived.Test.YtfjcbgfgiidogaaDoorMBase
namespace Go.Proofs.YtfjcbgfgiidogaaDoor

def xsum (f : Nat → Nat) : Nat → Nat
  | 0 => 0
  | k + 1 => xsum f k ^^^ f k
theorem xsum_lt {f : Nat → Nat} (h : ∀ j, f j < 256) : ∀ n, xsum f n < 256
  | 0 => by simp [xsum]
  | k + 1 => xor_lt (xsum_lt h k) (h k)
theorem xsum_congr {f g : Nat → Nat} : ∀ {n : Nat}, (∀ j, j < n → f j = g j) → xsum f n = xsum g n
  | 0, _ => rfl
  | k + 1, h => by simp only [xsum]; rw [xsum_congr (fun j hj => h j (by omega)), h k (by omega)]
theorem xsum_zero {f : Nat → Nat} : ∀ {n : Nat}, (∀ j, j < n → f j = 0) → xsum f n = 0
  | 0, _ => rfl
  | k + 1, h => by simp only [xsum]; rw [xsum_zero (fun j hj => h j (by omega)), h k (by omega)]; rfl
theorem xor4 (a b c d : Nat) : (a ^^^ b) ^^^ (c ^^^ d) = (a ^^^ c) ^^^ (b ^^^ d) := by
  rw [Nat.xor_assoc, Nat.xor_assoc, ← Nat.xor_assoc b c d, Nat.xor_comm b c, Nat.xor_assoc c b d]
theorem xsum_xor (f g : Nat → Nat) : ∀ n, xsum (fun j => f j ^^^ g j) n = xsum f n ^^^ xsum g n
  | 0 => by simp [xsum]
  | k + 1 => by simp only [xsum]; rw [xsum_xor f g k, xor4]
theorem mul_xsum {k : Nat} (hk : k < 256) {f : Nat → Nat} (hf : ∀ j, f j < 256) : ∀ n, mul k (xsum f n) = xsum (fun j => mul k (f j)) n
  | 0 => mul_zero k
  | n + 1 => by simp only [xsum]; rw [mul_xor hk (xsum_lt hf n) (hf n), mul_xsum hk hf n]
theorem xsum_one {f : Nat → Nat} {i : Nat} : ∀ {n : Nat}, i < n → (∀ j, j < n → j ≠ i → f j = 0) → xsum f n = f i
  | 0, hi, _ => absurd hi (by omega)
  | n + 1, hi, h => by
    simp only [xsum]
    by_cases e : i = n
    · subst e
      rw [xsum_zero (fun j hj => h j (by omega) (by omega)), Nat.zero_xor]
    · rw [xsum_one (by omega) (fun j hj => h j (by omega)), h n (by omega) (fun e2 => e e2.symm), Nat.xor_zero]
theorem xsum_more {f : Nat → Nat} {n : Nat} : ∀ {m : Nat}, n ≤ m → (∀ j, n ≤ j → j < m → f j = 0) → xsum f m = xsum f n
  | 0, h, _ => by rw [show n = 0 by omega]
  | m + 1, h, hz => by
    by_cases e : n = m + 1
    · rw [e]
    · simp only [xsum]
      rw [hz m (by omega) (by omega), Nat.xor_zero, xsum_more (by omega) (fun j h1 h2 => hz j h1 (by omega))]
theorem xsum_swap (f : Nat → Nat → Nat) (m : Nat) : ∀ n, xsum (fun i => xsum (fun j => f i j) m) n = xsum (fun j => xsum (fun i => f i j) n) m
  | 0 => (xsum_zero (fun _ _ => rfl)).symm
  | n + 1 => by simp only [xsum]; rw [xsum_swap f m n, ← xsum_xor]
theorem xor_eq_zero {a b : Nat} (h : a ^^^ b = 0) : a = b := by
  have := congrArg (· ^^^ b) h
  simpa [Nat.xor_assoc] using this
/-- one more place of a choice. -/
theorem xsum_pick {g : Nat → Nat} {p : Nat → Bool} {x : Nat} : ∀ {n : Nat}, x < n → p x = false → xsum (fun c => if p c || c == x then g c else 0) n = xsum (fun c => if p c then g c else 0) n ^^^ g x := by
  intro n hx hp
  have h1 : xsum (fun c => if c = x then g c else 0) n = g x := by
    rw [xsum_one hx (fun j _ hj => if_neg hj), if_pos rfl]
  rw [← h1, ← xsum_xor]
  apply xsum_congr
  intro j _
  by_cases e : j = x
  · subst e; simp [hp]
  · simp [e]

/-- a row as a functional: its sum with these weights, up to n. -/
def dot (y : Nat → Nat) (r : List Nat) (n : Nat) : Nat := xsum (fun j => mul (y j) (r.getD j 0)) n
theorem dot_lt {y : Nat → Nat} (hy : ∀ j, y j < 256) (r : List Nat) (n : Nat) : dot y r n < 256 := xsum_lt (fun j => mul_lt (hy j)) n
theorem mul_left_comm' {a b c : Nat} (ha : a < 256) (hb : b < 256) (hc : c < 256) : mul a (mul b c) = mul b (mul a c) := by
  rw [← mul_assoc ha hb hc, mul_comm ha hb, mul_assoc hb ha hc]
theorem dot_addTo {y : Nat → Nat} {r v : List Nat} {k n : Nat} (hy : ∀ j, y j < 256) (hr : Bytes r) (hv : Bytes v) (hk : k < 256) (hn : n ≤ r.length) : dot y (addTo r k v) n = dot y r n ^^^ mul k (dot y v n) := by
  unfold dot
  rw [mul_xsum hk (fun j => mul_lt (hy j)) n, ← xsum_xor]
  apply xsum_congr
  intro j hj
  rw [addTo_getD _ _ _ _ (by omega), mul_xor (hy j) (hr.getD j) (mul_lt hk), mul_left_comm' (hy j) hk (hv.getD j)]
theorem dot_congr {y : Nat → Nat} {r v : List Nat} {n : Nat} (h : ∀ j, j < n → r.getD j 0 = v.getD j 0) : dot y r n = dot y v n :=
  xsum_congr fun j hj => by rw [h j hj]
theorem dot_mul {y : Nat → Nat} {r v : List Nat} {k n : Nat} (hy : ∀ j, y j < 256) (hv : Bytes v) (hk : k < 256) (h : ∀ j, j < n → r.getD j 0 = mul k (v.getD j 0)) : dot y r n = mul k (dot y v n) := by
  unfold dot
  rw [mul_xsum hk (fun j => mul_lt (hy j)) n]
  apply xsum_congr
  intro j hj
  rw [h j hj, mul_left_comm' (hy j) hk (hv.getD j)]
end Go.Proofs.YtfjcbgfgiidogaaDoor
namespace Go.Proofs.YtfjcbgfgiidogaaDoor

abbrev Wk := Nat → Option (List Nat)
def rowOf (f : Wk) (c : Nat) : List Nat := (f c).getD []
theorem rowOf_some {f : Wk} {c : Nat} {r : List Nat} (h : f c = some r) : rowOf f c = r := by simp [rowOf, h]
def clr (f : Wk) (eq : List Nat) (p : Nat → Bool) (n : Nat) : List Nat :=
  eq.mapIdx fun j x => x ^^^ xsum (fun c => if p c then mul (eq.getD c 0) ((rowOf f c).getD j 0) else 0) n
theorem clr_length (f : Wk) (eq : List Nat) (p : Nat → Bool) (n : Nat) : (clr f eq p n).length = eq.length := by simp [clr]
theorem clr_getD (f : Wk) (eq : List Nat) (p : Nat → Bool) (n : Nat) {j : Nat} (hj : j < eq.length) : (clr f eq p n).getD j 0 = eq.getD j 0 ^^^ xsum (fun c => if p c then mul (eq.getD c 0) ((rowOf f c).getD j 0) else 0) n := by
  simp [clr, List.getD_eq_getElem?_getD, hj]
theorem clr_none (f : Wk) (eq : List Nat) (p : Nat → Bool) (n : Nat) (h : ∀ c, p c = false) : clr f eq p n = eq := by
  apply ext_getD (clr_length _ _ _ _)
  intro j hj
  rw [clr_length] at hj
  rw [clr_getD _ _ _ _ hj, xsum_zero (fun c _ => by rw [h c]; rfl), Nat.xor_zero]
theorem clr_congr (f : Wk) (eq : List Nat) {p q : Nat → Bool} (n : Nat) (h : ∀ c, c < n → p c = q c) : clr f eq p n = clr f eq q n := by
  apply ext_getD (by rw [clr_length, clr_length])
  intro j hj
  rw [clr_length] at hj
  rw [clr_getD _ _ _ _ hj, clr_getD _ _ _ _ hj, xsum_congr (fun c hc => by rw [h c hc])]
theorem clr_bytes (f : Wk) {eq : List Nat} (p : Nat → Bool) (n : Nat) (h : Bytes eq) : Bytes (clr f eq p n) :=
  Bytes.of_getD fun j hj => by
    rw [clr_length] at hj
    rw [clr_getD _ _ _ _ hj]
    exact xor_lt (h.getD j) (xsum_lt (fun c => by split; exact mul_lt (h.getD c); decide) n)

structure Sys (cols L : Nat) (f : Wk) : Prop where
  len : ∀ {c r}, f c = some r → r.length = L
  bytes : ∀ {c r}, f c = some r → Bytes r
  lt : ∀ {c r}, f c = some r → c < cols
  one : ∀ {c r}, f c = some r → r.getD c 0 = 1
  zero : ∀ {c r c' r'}, f c = some r → f c' = some r' → c' ≠ c → r.getD c' 0 = 0
  lead : ∀ {c r j}, f c = some r → j < c → r.getD j 0 = 0

theorem clr_at {cols L : Nat} {f : Wk} (h : Sys cols L f) {eq : List Nat} {p : Nat → Bool} {x : Nat} {r : List Nat} (hx : f x = some r) (hp : p x = false) (hps : ∀ c, p c = true → ∃ r, f c = some r) (hl : x < eq.length) : (clr f eq p cols).getD x 0 = eq.getD x 0 := by
  rw [clr_getD _ _ _ _ hl, xsum_zero, Nat.xor_zero]
  intro c _
  by_cases e : p c = true
  · obtain ⟨r', hr'⟩ := hps c e
    rw [if_pos e, rowOf_some hr', h.zero hr' hx (fun e2 => by rw [e2, e] at hp; cases hp), mul_zero]
  · rw [if_neg e]
theorem clr_step {cols L : Nat} {f : Wk} (h : Sys cols L f) {eq : List Nat} {p : Nat → Bool} {x : Nat} {r : List Nat} (hx : f x = some r) (hp : p x = false) (hps : ∀ c, p c = true → ∃ r, f c = some r) (hL : cols ≤ eq.length) :
    addTo (clr f eq p cols) ((clr f eq p cols).getD x 0) r = clr f eq (fun c => p c || c == x) cols := by
  have hxc := h.lt hx
  rw [clr_at h hx hp hps (by omega)]
  apply ext_getD
  · rw [addTo_length, clr_length, clr_length]
  · intro j hj
    rw [addTo_length, clr_length] at hj
    rw [addTo_getD _ _ _ _ (by rw [clr_length]; exact hj), clr_getD _ _ _ _ hj, clr_getD _ _ _ _ hj]
    have := xsum_pick (g := fun c => mul (eq.getD c 0) ((rowOf f c).getD j 0)) (p := p) hxc hp
    rw [this, rowOf_some hx, Nat.xor_assoc]
def clrAll (f : Wk) (eq : List Nat) (n : Nat) : List Nat := clr f eq (fun c => (f c).isSome) n
theorem clrAll_zero {cols L : Nat} {f : Wk} (h : Sys cols L f) {eq : List Nat} (hb : Bytes eq) {c : Nat} {r : List Nat} (hc : f c = some r) (hL : cols ≤ eq.length) : (clrAll f eq cols).getD c 0 = 0 := by
  have hcl := h.lt hc
  unfold clrAll
  rw [clr_getD _ _ _ _ (by omega), xsum_one hcl, if_pos (by rw [hc]; rfl), rowOf_some hc, h.one hc, mul_one (hb.getD c), Nat.xor_self]
  intro c' _ hne
  by_cases e : (f c').isSome = true
  · obtain ⟨r', hr'⟩ := Option.isSome_iff_exists.1 e
    rw [if_pos e, rowOf_some hr', h.zero hr' hc (fun e2 => hne e2.symm), mul_zero]
  · rw [if_neg e]
theorem dot_clrAll {cols L : Nat} {f : Wk} (h : Sys cols L f) {eq : List Nat} (hb : Bytes eq) (hL : eq.length = L) {y : Nat → Nat} (hy : ∀ j, y j < 256) (h0 : ∀ c r, f c = some r → dot y r L = 0) : dot y (clrAll f eq cols) L = dot y eq L := by
  have e1 : dot y (clrAll f eq cols) L = xsum (fun j => mul (y j) (eq.getD j 0) ^^^ xsum (fun c => if (f c).isSome = true then mul (eq.getD c 0) (mul (y j) ((rowOf f c).getD j 0)) else 0) cols) L := by
    unfold dot
    apply xsum_congr
    intro j hj
    unfold clrAll
    have hlt : ∀ c, (if (f c).isSome = true then mul (eq.getD c 0) ((rowOf f c).getD j 0) else 0) < 256 := fun c => by
      split
      · exact mul_lt (hb.getD c)
      · decide
    rw [clr_getD _ _ _ _ (by omega), mul_xor (hy j) (hb.getD j) (xsum_lt hlt _), mul_xsum (hy j) hlt]
    congr 1
    apply xsum_congr
    intro c _
    by_cases e : (f c).isSome = true
    · obtain ⟨r, hr⟩ := Option.isSome_iff_exists.1 e
      rw [if_pos e, if_pos e, rowOf_some hr, mul_left_comm' (hy j) (hb.getD c) ((h.bytes hr).getD j)]
    · rw [if_neg e, if_neg e, mul_zero]
  rw [e1, xsum_xor, xsum_swap]
  have e2 : xsum (fun c => xsum (fun j => if (f c).isSome = true then mul (eq.getD c 0) (mul (y j) ((rowOf f c).getD j 0)) else 0) L) cols = 0 := by
    apply xsum_zero
    intro c _
    by_cases e : (f c).isSome = true
    · obtain ⟨r, hr⟩ := Option.isSome_iff_exists.1 e
      simp only [e, if_true]
      rw [← mul_xsum (hb.getD c) (fun j => mul_lt (hy j)), rowOf_some hr]
      have := h0 c r hr
      unfold dot at this
      rw [this, mul_zero]
    · apply xsum_zero
      intro j _
      rw [if_neg e]
  rw [e2, Nat.xor_zero]
  rfl

/-- the first column with another coefficient than 0; cols, if there is none. -/
def lead (cols : Nat) (e : List Nat) : Nat := (e.take cols).findIdx (· != 0)
theorem lead_le {cols : Nat} {e : List Nat} (h : cols ≤ e.length) : lead cols e ≤ cols := by
  have := List.findIdx_le_length (p := (· != 0)) (xs := e.take cols)
  rw [List.length_take] at this
  unfold lead
  omega
theorem lead_zero {cols : Nat} {e : List Nat} (h : cols ≤ e.length) {j : Nat} (hj : j < lead cols e) : e.getD j 0 = 0 := by
  have hle := lead_le h
  have := List.not_of_lt_findIdx hj
  rw [List.getElem_take] at this
  rw [List.getD_eq_getElem?_getD, List.getElem?_eq_getElem (by omega)]
  simpa using this
theorem lead_ne {cols : Nat} {e : List Nat} (h : cols ≤ e.length) (hl : lead cols e < cols) : e.getD (lead cols e) 0 ≠ 0 := by
  have h1 : (e.take cols).findIdx (· != 0) < (e.take cols).length := by
    have : (e.take cols).length = cols := by simp; omega
    rw [this]; exact hl
  have := List.findIdx_getElem (w := h1)
  simp only [bne_iff_ne, ne_eq, List.getElem_take] at this
  rw [List.getD_eq_getElem?_getD, List.getElem?_eq_getElem (by omega)]
  simpa [lead] using this

def addEq (cols : Nat) (s : Wk × Bool) (eq : List Nat) : Wk × Bool :=
  let e0 := clrAll s.1 eq cols
  if lead cols e0 = cols then (s.1, s.2 || e0.any (· != 0))
  else (fun c => if c = lead cols e0 then some (e0.map (mul (inv (e0.getD (lead cols e0) 0)))) else (s.1 c).map fun r => addTo r (r.getD (lead cols e0) 0) (e0.map (mul (inv (e0.getD (lead cols e0) 0)))), s.2)

theorem map_mul_getD (k : Nat) (e : List Nat) (j : Nat) : (e.map (mul k)).getD j 0 = mul k (e.getD j 0) := by
  by_cases h : j < e.length
  · simp [List.getD_eq_getElem?_getD, h]
  · rw [List.getD_eq_getElem?_getD, List.getElem?_eq_none (by simp; omega), List.getD_eq_getElem?_getD, List.getElem?_eq_none (by omega)]
    simp [mul_zero]
theorem map_mul_bytes {k : Nat} (hk : k < 256) (e : List Nat) : Bytes (e.map (mul k)) := Bytes.of_getD fun j _ => by rw [map_mul_getD]; exact mul_lt hk

/-- what the rows that have been worked off say, and what is left of them. -/
structure Says (cols L : Nat) (rows : List (List Nat)) (s : Wk × Bool) : Prop where
  sys : Sys cols L s.1
  down : ∀ y : Nat → Nat, (∀ j, y j < 256) → (∀ r ∈ rows, dot y r L = 0) → ∀ c r, s.1 c = some r → dot y r L = 0
  up : ∀ y : Nat → Nat, (∀ j, y j < 256) → (s.2 = false ∨ ∀ j, cols ≤ j → y j = 0) → (∀ c r, s.1 c = some r → dot y r L = 0) → ∀ r ∈ rows, dot y r L = 0
  clash : s.2 = true → ∃ v : List Nat, v.length = L ∧ Bytes v ∧ (∀ j, j < cols → v.getD j 0 = 0) ∧ (∃ j, j < L ∧ v.getD j 0 ≠ 0) ∧ ∀ y : Nat → Nat, (∀ j, y j < 256) → (∀ r ∈ rows, dot y r L = 0) → dot y v L = 0

theorem says_none (cols L : Nat) : Says cols L [] (fun _ => none, false) :=
  ⟨⟨fun h => (by cases h), fun h => (by cases h), fun h => (by cases h), fun h => (by cases h), fun h => (by cases h), fun h => (by cases h)⟩, fun _ _ _ c r h => (by cases h), fun _ _ _ _ r h => (by cases h), fun h => (by cases h)⟩

theorem Says.add {cols L : Nat} {rows : List (List Nat)} {s : Wk × Bool} (h : Says cols L rows s) {eq : List Nat} (hb : Bytes eq) (hl : eq.length = L) (hc : cols ≤ L) : Says cols L (rows ++ [eq]) (addEq cols s eq) := by
  have hS := h.sys
  obtain ⟨e0, he0⟩ : ∃ e0, e0 = clrAll s.1 eq cols := ⟨_, rfl⟩
  have l0 : e0.length = L := by rw [he0]; unfold clrAll; rw [clr_length, hl]
  have b0 : Bytes e0 := by rw [he0]; exact clr_bytes _ _ _ hb
  have d0 : ∀ y : Nat → Nat, (∀ j, y j < 256) → (∀ c r, s.1 c = some r → dot y r L = 0) → dot y e0 L = dot y eq L := fun y hy k => by rw [he0]; exact dot_clrAll hS hb hl hy k
  have z0 : ∀ {c r}, s.1 c = some r → e0.getD c 0 = 0 := fun hcr => by rw [he0]; exact clrAll_zero hS hb hcr (by omega)
  unfold addEq
  simp only [← he0]
  by_cases hlead : lead cols e0 = cols
  · rw [if_pos hlead]
    have hz : ∀ j, j < cols → e0.getD j 0 = 0 := fun j hj => lead_zero (cols := cols) (by omega) (by omega)
    refine ⟨hS, fun y hy k => h.down y hy (fun r hr => k r (by simp [hr])), fun y hy hf k r hr => ?_, fun hcl => ?_⟩
    · rcases List.mem_append.1 hr with hr | hr
      · exact h.up y hy (by rcases hf with hf | hf; left; simp at hf; exact hf.1; right; exact hf) k r hr
      · simp only [List.mem_singleton] at hr
        subst hr
        rw [← d0 y hy k]
        apply xsum_zero
        intro j hj
        rcases hf with hf | hf
        · simp only [Bool.or_eq_false_iff] at hf
          have := List.any_eq_false.1 hf.2 (e0.getD j 0) (by rw [List.getD_eq_getElem?_getD, List.getElem?_eq_getElem (by omega)]; exact List.getElem_mem _)
          simp only [bne_iff_ne, ne_eq, Decidable.not_not] at this
          rw [this, mul_zero]
        · by_cases hjc : j < cols
          · rw [hz j hjc, mul_zero]
          · rw [hf j (by omega), zero_mul]
    · simp only [Bool.or_eq_true] at hcl
      rcases hcl with hcl | hcl
      · obtain ⟨v, v1, v2, v3, v4, v5⟩ := h.clash hcl
        exact ⟨v, v1, v2, v3, v4, fun y hy k => v5 y hy (fun r hr => k r (by simp [hr]))⟩
      · obtain ⟨x, hx, hxn⟩ := List.any_eq_true.1 hcl
        obtain ⟨j, hj, rfl⟩ := List.mem_iff_getElem.1 hx
        refine ⟨e0, l0, b0, hz, ⟨j, by omega, ?_⟩, fun y hy k => ?_⟩
        · rw [List.getD_eq_getElem?_getD, List.getElem?_eq_getElem hj]
          simpa using hxn
        · rw [d0 y hy (h.down y hy (fun r hr => k r (by simp [hr])))]
          exact k eq (by simp)
  · rw [if_neg hlead]
    have hle : lead cols e0 < cols := by have := lead_le (cols := cols) (e := e0) (by omega); omega
    have hne := lead_ne (cols := cols) (e := e0) (by omega) hle
    have hlz : ∀ j, j < lead cols e0 → e0.getD j 0 = 0 := fun j hj => lead_zero (cols := cols) (by omega) hj
    obtain ⟨l, hl'⟩ : ∃ l, l = lead cols e0 := ⟨_, rfl⟩
    rw [← hl'] at hle hne hlz ⊢
    obtain ⟨a, ha⟩ : ∃ a, a = e0.getD l 0 := ⟨_, rfl⟩
    have a1 : a < 256 := by rw [ha]; exact b0.getD l
    rw [← ha] at hne ⊢
    obtain ⟨e, he⟩ : ∃ e, e = e0.map (mul (inv a)) := ⟨_, rfl⟩
    have eg : ∀ j, e.getD j 0 = mul (inv a) (e0.getD j 0) := fun j => by rw [he, map_mul_getD]
    have el : e.length = L := by rw [he]; simp [l0]
    have eb : Bytes e := by rw [he]; exact map_mul_bytes (inv_lt a) _
    have e1 : e.getD l 0 = 1 := by rw [eg, ← ha, mul_comm (inv_lt a) a1, mul_inv a1 hne]
    rw [← he]
    have hln : ∀ r, s.1 l ≠ some r := fun r hr => hne (by rw [ha]; exact z0 hr)
    have ez : ∀ {c r}, s.1 c = some r → e.getD c 0 = 0 := fun hcr => by rw [eg, z0 hcr, mul_zero]
    have elz : ∀ j, j < l → e.getD j 0 = 0 := fun j hj => by rw [eg, hlz j hj, mul_zero]
    have ed : ∀ y : Nat → Nat, (∀ j, y j < 256) → dot y e L = mul (inv a) (dot y e0 L) := fun y hy => dot_mul hy b0 (inv_lt a) (fun j _ => eg j)
    have at' : ∀ {c r}, (if c = l then some e else (s.1 c).map fun r => addTo r (r.getD l 0) e) = some r → (c = l ∧ r = e) ∨ (c ≠ l ∧ ∃ r0, s.1 c = some r0 ∧ r = addTo r0 (r0.getD l 0) e) := fun {c r} hcr => by
      by_cases e2 : c = l
      · rw [if_pos e2] at hcr
        exact .inl ⟨e2, by injection hcr with hcr; exact hcr.symm⟩
      · rw [if_neg e2] at hcr
        obtain ⟨r0, h1, h2⟩ := Option.map_eq_some_iff.1 hcr
        exact .inr ⟨e2, r0, h1, h2.symm⟩
    refine ⟨⟨fun {c r} hcr => ?_, fun {c r} hcr => ?_, fun {c r} hcr => ?_, fun {c r} hcr => ?_, fun {c r c' r'} hcr hcr' hne' => ?_, fun {c r j} hcr hj => ?_⟩, fun y hy k => ?_, fun y hy hf k => ?_, fun hcl => ?_⟩
    · rcases at' hcr with ⟨_, rfl⟩ | ⟨_, r0, h0, rfl⟩
      · exact el
      · rw [addTo_length]; exact hS.len h0
    · rcases at' hcr with ⟨_, rfl⟩ | ⟨_, r0, h0, rfl⟩
      · exact eb
      · exact addTo_bytes (hS.bytes h0) ((hS.bytes h0).getD l)
    · rcases at' hcr with ⟨rfl, _⟩ | ⟨_, r0, h0, _⟩
      · exact hle
      · exact hS.lt h0
    · rcases at' hcr with ⟨rfl, rfl⟩ | ⟨_, r0, h0, rfl⟩
      · exact e1
      · rw [addTo_getD _ _ _ _ (by rw [hS.len h0]; have := hS.lt h0; omega), hS.one h0, ez h0, mul_zero]; rfl
    · rcases at' hcr with ⟨rfl, rfl⟩ | ⟨n0, r0, h0, rfl⟩
      · rcases at' hcr' with ⟨e2, _⟩ | ⟨_, r1, h1, _⟩
        · exact absurd e2 hne'
        · exact ez h1
      · rcases at' hcr' with ⟨rfl, _⟩ | ⟨_, r1, h1, _⟩
        · rw [addTo_getD _ _ _ _ (by rw [hS.len h0]; omega), e1, mul_one ((hS.bytes h0).getD _), Nat.xor_self]
        · rw [addTo_getD _ _ _ _ (by rw [hS.len h0]; have := hS.lt h1; omega), hS.zero h0 h1 hne', ez h1, mul_zero]; rfl
    · rcases at' hcr with ⟨rfl, rfl⟩ | ⟨n0, r0, h0, rfl⟩
      · exact elz j hj
      · have := hS.lt h0
        rw [addTo_getD _ _ _ _ (by rw [hS.len h0]; omega), hS.lead h0 hj]
        by_cases hlc : l < c
        · rw [hS.lead h0 hlc, zero_mul]; rfl
        · rw [elz j (by omega), mul_zero]; rfl
    · have k0 := h.down y hy (fun r hr => k r (by simp [hr]))
      have ke : dot y e L = 0 := by rw [ed y hy, d0 y hy k0, k eq (by simp), mul_zero]
      intro c r hcr
      rcases at' hcr with ⟨rfl, rfl⟩ | ⟨n0, r0, h0, rfl⟩
      · exact ke
      · rw [dot_addTo hy (hS.bytes h0) eb ((hS.bytes h0).getD l) (by rw [hS.len h0]; omega), k0 _ _ h0, ke, mul_zero]; rfl
    · have ke : dot y e L = 0 := k l e (if_pos rfl)
      have k0 : ∀ c r, s.1 c = some r → dot y r L = 0 := fun c r h0 => by
        have hcl : c ≠ l := fun e2 => hln r (by rw [← e2]; exact h0)
        have := k c (addTo r (r.getD l 0) e) (by simp only [if_neg hcl, h0]; rfl)
        rw [dot_addTo hy (hS.bytes h0) eb ((hS.bytes h0).getD l) (by rw [hS.len h0]; omega), ke, mul_zero, Nat.xor_zero] at this
        exact this
      intro r hr
      rcases List.mem_append.1 hr with hr | hr
      · exact h.up y hy hf k0 r hr
      · simp only [List.mem_singleton] at hr
        subst hr
        rw [← d0 y hy k0]
        rw [ed y hy] at ke
        exact Classical.byContradiction fun e2 => mul_ne (inv_lt a) (dot_lt hy _ _) (inv_ne a) e2 ke
    · obtain ⟨v, v1, v2, v3, v4, v5⟩ := h.clash hcl
      exact ⟨v, v1, v2, v3, v4, fun y hy k => v5 y hy (fun r hr => k r (by simp [hr]))⟩
end Go.Proofs.YtfjcbgfgiidogaaDoor
namespace Go.Proofs.YtfjcbgfgiidogaaDoor
open Go Go.RowKit Go.ChangeMaps Go.MapKept Go.WideShapes
open Go.WideElems (Fit rd rg pl rd_key rd_val rg_of rd_mk rd_stay other_key)
open Go.Maps (Keyed)

section
variable {H : Type} {P : Program} {k : TypeId} {R : Value → Option (DataW H × List MemPlace)} {w : World} {b r n : Nat} {D : DataW H} {left : Lit → Bool} {cnt : Nat}

set_option maxRecDepth 10000 in
theorem owns_tight (h : w.ownsMap P k R b n D) : w.ownsMap P k R b (Maps.size D) D := by
  obtain ⟨es, clock, hb, F, hs, rfl⟩ := h
  exact ⟨es, clock, hb, F, by simp [Maps.size, length_sorted], rfl⟩
set_option maxRecDepth 10000 in
theorem ranges_has (h : w.ranges P k R b r n D left cnt) (K : Keyed P k) {kl : Lit} (hl : left kl = true) : Maps.has D kl = true := by
  obtain ⟨es, clock, since, seen, c0, hb, F, hs, rfl, hr, hold, rfl, hl1, hl2, hsc, hsk⟩ := h
  obtain ⟨x, hx, rfl⟩ := hl2 kl hl
  obtain ⟨y, hy⟩ := F.reads x hx
  exact List.any_eq_true.2 ⟨rg P k R x, mem_sorted.2 (List.mem_map.2 ⟨x, hx, rfl⟩), WideAt.sameKey_self (by rw [rg_of hy]; exact K.key (rd_key hy))⟩

set_option maxRecDepth 10000 in
/-- a store at a key that is there, while the map is ranged over. -/
theorem ranges_put {t e : TypeId} (h : w.ranges P k R b r n D left cnt) (K : Keyed P k) (ht : P.underlying t = some (.map k e)) {key val : Value} {kl : Lit} {d : DataW H} {ps : List MemPlace}
    (hkey : keyOf P k key = some kl) (hv : R val = some (d, ps)) (hhas : Maps.has D kl = true) : ∃ w', (Instr.mapUpdate t (.map (some b)) key val).run P w = .ok () w' ∧ w'.ranges P k R b r n (D.put kl d) left cnt ∧ w.grownBy w' (some b) ∧ w'.heap.size = w.heap.size := by
  have hne := h.ne
  obtain ⟨es, clock, since, seen, c0, hb, F, hs, rfl, hr, hold, rfl, hl1, hl2, hsc, hsk⟩ := h
  rcases K.find w hkey es.toList F.keys with ⟨h1, h2⟩ | ⟨j, e0, h1, h2, h3⟩
  · exfalso
    obtain ⟨p, hp, hpk⟩ := List.any_eq_true.1 hhas
    obtain ⟨x, hx, rfl⟩ := List.mem_map.1 (mem_sorted.1 hp)
    obtain ⟨y, hy⟩ := F.reads x hx
    have e1 := WideAt.sameKey_eq hpk
    rw [rg_of hy] at e1
    exact h2 x hx (K.inj (e1 ▸ rd_key hy) hkey)
  · have hj : es[j]? = some e0 := by simpa using h2
    have hjl : j < es.toList.length := (List.getElem?_eq_some_iff.1 h2).1
    have hm0 : e0 ∈ es.toList := List.mem_of_getElem? h2
    have hkeyf : ∀ e', es[j]? = some e' → ({ e' with key := key, val := val } : MapEntry).key = e'.key := fun e' he' => by rw [hj] at he'; cases he'; exact h3.symm
    have hlist : (es.modify j (fun e' => { e' with key := key, val := val })).toList = es.toList.set j { e0 with key := key, val := val } := by rw [Array.toList_modify, modify_eq_set _ _ _ _ h2]
    have who : ∀ x ∈ es.toList.set j { e0 with key := key, val := val }, x = { e0 with key := key, val := val } ∨ (x ∈ es.toList ∧ x.key ≠ key) := by
      intro x hx
      obtain ⟨i, hi, ex⟩ := List.getElem_of_mem hx
      rw [List.getElem_set] at ex
      split at ex
      · exact Or.inl ex.symm
      · rename_i hne
        have hi' : i < es.toList.length := by simpa using hi
        refine Or.inr ⟨ex ▸ List.getElem_mem hi', ?_⟩
        rw [← h3]
        exact other_key F h2 (by rw [List.getElem?_eq_getElem hi', ex]) (fun e1 => hne e1.symm)
    have back : ∀ x ∈ es.toList, x.key ≠ key → x ∈ es.toList.set j { e0 with key := key, val := val } := by
      intro x hx hk
      obtain ⟨i, hi⟩ := List.getElem?_of_mem hx
      refine List.mem_of_getElem? (i := i) ?_
      rw [List.getElem?_set_ne (fun e => hk (by rw [← e, h2] at hi; injection hi with hi; rw [← hi]; exact h3))]
      exact hi
    have hnew : ({ e0 with key := key, val := val } : MapEntry) ∈ es.toList.set j { e0 with key := key, val := val } := List.mem_iff_getElem.2 ⟨j, by simpa using hjl, by simp⟩
    have rgn : (rg P k R ({ e0 with key := key, val := val } : MapEntry)) = (kl, d) := rg_of (rd_mk hkey hv)
    have rg0 : (rg P k R e0).1 = kl := by
      obtain ⟨y, hy⟩ := F.reads e0 hm0
      have := rd_key hy
      rw [h3, hkey] at this
      rw [rg_of hy]
      exact (Option.some.inj this).symm
    have F' : Fit P k R (es.modify j (fun e' => { e' with key := key, val := val })) clock := by
      refine ⟨by simpa using F.size, stamped_modify F.stamped _ _ (fun _ _ => rfl) (fun e' _ he' => hkeyf e' he'), ?_⟩
      intro x hx
      rw [hlist] at hx
      rcases who x hx with rfl | ⟨hx', _⟩
      · exact ⟨_, rd_mk hkey hv⟩
      · exact F.reads x hx'
    have hput : ((es.modify j (fun e' => { e' with key := key, val := val })).toList.map (rg P k R)).foldr DataW.insert [] = putKey kl d ((es.toList.map (rg P k R)).foldr DataW.insert []) := by
      refine Maps.sorted_put K.one ⟨key, hkey⟩ (Maps.fit_keys F) (Maps.fit_apart K F) ?_
      rw [Maps.filter_one K F hkey h2 h3, hlist, List.map_set, rgn]
      exact set_perm _ _ (by simpa using hjl) _
    refine ⟨_, ?_, ⟨es.modify j (fun e' => { e' with key := key, val := val }), clock, since, seen, c0, heap_setBlock_same hb _, F', ?_, ?_, (heap_setBlock_other hb _ hne).trans hr, fun x hx => ?_, ?_, fun x hx => ?_, fun kl' hkl' => ?_, hsc, hsk⟩, ⟨rfl, rfl, rfl, by simp [setBlock], fun i _ hi => heap_setBlock_other hb _ (fun e => hi (by rw [e]))⟩, by simp [setBlock]⟩
    · simp [Instr.mapUpdate, run_underlying ht, MapKept.run_getObj_map hb, K.check w false hkey, h1, hj, h3, K.stays w hkey, MapKept.run_setObj_map _ hb, Result.andThen, setBlock]
    · simpa using hs
    · rw [DataW.put_eq, hput]
    · rw [hlist] at hx
      rcases who x hx with rfl | ⟨hx', _⟩
      · exact hold e0 hm0
      · exact hold x hx'
    · have e1 : ∀ a : Array MapEntry, (leftOf a seen).size = ((a.toList.map MapEntry.born).filter fun e => !seen.contains e).length := fun a => by
        unfold leftOf
        rw [List.filter_map, List.length_map, ← Array.length_toList, Array.toList_filter]
        rfl
      rw [e1, e1, hlist, List.map_set]
      congr 2
      apply List.ext_getElem?
      intro i
      rw [List.getElem?_set]
      split
      · rename_i e; subst e
        simp only [List.length_map, hjl, if_true, List.getElem?_map, h2, Option.map_some]
      · rfl
    · rw [hlist] at hx
      rcases who x hx with rfl | ⟨hx', _⟩
      · rw [rgn]
        show left kl = _
        rw [← rg0]
        exact hl1 e0 hm0
      · exact hl1 x hx'
    · obtain ⟨x, hx, rfl⟩ := hl2 kl' hkl'
      by_cases e : x.key = key
      · refine ⟨_, by rw [hlist]; exact hnew, ?_⟩
        rw [rgn]
        obtain ⟨y, hy⟩ := F.reads x hx
        have := rd_key hy
        rw [e, hkey] at this
        rw [rg_of hy]
        exact Option.some.inj this
      · exact ⟨x, by rw [hlist]; exact back x hx e, rfl⟩
end

abbrev HdT := Option Addr × Nat × Nat
/-- an element of the map: a slice, by its header. -/
def hdElem (v : Value) : Option (DataW HdT × List MemPlace) :=
  match v with
  | .slice a n c => some (.held (a, n, c), [])
  | _ => none
set_option maxRecDepth 10000 in
theorem hdElem_mk (x : HdT) : hdElem (SV x) = some (.held x, []) := rfl
set_option maxRecDepth 10000 in
theorem hdElem_inv {v : Value} {z : DataW HdT × List MemPlace} (h : hdElem v = some z) : ∃ x, v = SV x ∧ z = (.held x, []) := by
  unfold hdElem at h
  split at h
  · rename_i a n c
    exact ⟨(a, n, c), rfl, by injection h with h; exact h.symm⟩
  · cases h
def key (c : Nat) : Lit := .int .i64 (c : Int)
def ReadsD (D : DataW HdT) (f : Nat → Option HdT) : Prop :=
  (∀ kl, Maps.has D kl = true → ∃ c : Nat, kl = key c) ∧ ∀ c : Nat, (f c = none → Maps.has D (key c) = false) ∧ ∀ hd, f c = some hd → ∀ zd, D.atKey (key c) zd = .held hd
set_option maxRecDepth 10000 in
theorem ReadsD.has {D : DataW HdT} {f : Nat → Option HdT} (h : ReadsD D f) {c : Nat} {hd : HdT} (hc : f c = some hd) : Maps.has D (key c) = true := Maps.has_true_of_atKey ((h.2 c).2 hd hc)
set_option maxRecDepth 10000 in
theorem key_ne {c d : Nat} (h : c ≠ d) : key c ≠ key d := fun e => h (by unfold key at e; injection e with _ e; omega)
set_option maxRecDepth 10000 in
theorem ReadsD.put {D : DataW HdT} {f : Nat → Option HdT} (h : ReadsD D f) (hm : Maps.IsMap D) (c : Nat) (hd : HdT) : ReadsD (D.put (key c) (.held hd)) (fun z => if z = c then some hd else f z) := by
  have hk : WideAt.IsKeyLit (key c) := trivial
  refine ⟨fun kl hkl => ?_, fun z => ⟨fun hz => ?_, fun x hx zd => ?_⟩⟩
  · by_cases e : kl = key c
    · exact ⟨c, e⟩
    · rw [Maps.has_put_other e] at hkl
      exact h.1 kl hkl
  · by_cases e : z = c
    · simp [e] at hz
    · rw [Maps.has_put_other (key_ne e)]
      simp only [if_neg e] at hz
      exact (h.2 z).1 hz
  · by_cases e : z = c
    · subst e
      simp at hx
      subst hx
      exact Maps.atKey_put_same hm hk _ _
    · rw [Maps.atKey_put_other (key_ne e)]
      simp only [if_neg e] at hx
      exact (h.2 z).2 x hx zd

set_option maxRecDepth 10000 in
theorem klaw : Keyed Tryd.prog 3 := Maps.int_keyed Tryd.underlying3
set_option maxRecDepth 10000 in
theorem key_of {c : Nat} (h : c < 1000000) : keyOf Tryd.prog 3 (.int .i64 (c : Int)) = some (key c) := Maps.keyOf_int_mk Tryd.underlying3 (by unfold Lit.wf IntKind.min IntKind.max; simp [IntKind.signed, IntKind.bits]; omega)

/-- block b is a map from columns to slices. -/
def MapH (w : World) (b : Nat) (f : Nat → Option HdT) (cnt : Nat) : Prop := ∃ D, w.ownsMap Tryd.prog 3 hdElem b cnt D ∧ Maps.size D = cnt ∧ ReadsD D f
/-- .. ranged over, left: what is still to come. -/
def RangeH (w : World) (b r : Nat) (f : Nat → Option HdT) (left : Nat → Bool) (cnt m : Nat) : Prop :=
  ∃ D lf, w.ranges Tryd.prog 3 hdElem b r cnt D lf m ∧ Maps.size D = cnt ∧ ReadsD D f ∧ (∀ c, lf (key c) = left c) ∧ ∀ c, left c = true → ∃ hd, f c = some hd
set_option maxRecDepth 10000 in
theorem MapH.lt {w : World} {b : Nat} {f : Nat → Option HdT} {cnt : Nat} (h : MapH w b f cnt) : b < w.heap.size := by obtain ⟨D, h, _⟩ := h; exact h.lt
set_option maxRecDepth 10000 in
theorem MapH.kept {w w' : World} {b : Nat} {f : Nat → Option HdT} {cnt : Nat} {row : Option Nat} (h : MapH w b f cnt) (hg : w.grownBy w' row) (hne : some b ≠ row) : MapH w' b f cnt := by
  obtain ⟨D, h, h2⟩ := h
  exact ⟨D, h.kept hg hne, h2⟩
set_option maxRecDepth 10000 in
theorem MapH.below {w w' : World} {b : Nat} {f : Nat → Option HdT} {cnt : Nat} (h : MapH w b f cnt) (hb : Below w.heap.size w w') : MapH w' b f cnt := h.kept (grownBy_of_below hb none) (by simp)
set_option maxRecDepth 10000 in
theorem RangeH.kept {w w' : World} {b r : Nat} {f : Nat → Option HdT} {left : Nat → Bool} {cnt m : Nat} {row : Option Nat} (h : RangeH w b r f left cnt m) (hg : w.grownBy w' row) (h1 : some b ≠ row) (h2 : some r ≠ row) : RangeH w' b r f left cnt m := by
  obtain ⟨D, lf, h, k⟩ := h
  exact ⟨D, lf, h.kept hg h1 h2, k⟩
set_option maxRecDepth 10000 in
theorem RangeH.below {w w' : World} {b r : Nat} {f : Nat → Option HdT} {left : Nat → Bool} {cnt m : Nat} (h : RangeH w b r f left cnt m) (hb : Below w.heap.size w w') : RangeH w' b r f left cnt m := h.kept (grownBy_of_below hb none) (by simp) (by simp)
set_option maxRecDepth 10000 in
theorem RangeH.map {w : World} {b r : Nat} {f : Nat → Option HdT} {left : Nat → Bool} {cnt m : Nat} (h : RangeH w b r f left cnt m) : MapH w b f cnt := by
  obtain ⟨D, lf, h, h1, h2, _⟩ := h
  exact ⟨D, h.owns, h1, h2⟩
set_option maxRecDepth 10000 in
theorem RangeH.left_eq {w : World} {b r : Nat} {f : Nat → Option HdT} {left : Nat → Bool} {cnt m : Nat} (h : RangeH w b r f left cnt m) : w.rangeLeft b r = m := by
  obtain ⟨D, lf, h, _⟩ := h
  exact h.left_eq
set_option maxRecDepth 10000 in
theorem RangeH.ne {w : World} {b r : Nat} {f : Nat → Option HdT} {left : Nat → Bool} {cnt m : Nat} (h : RangeH w b r f left cnt m) : r ≠ b := by
  obtain ⟨D, lf, h, _⟩ := h
  exact h.ne
set_option maxRecDepth 10000 in
theorem RangeH.lt {w : World} {b r : Nat} {f : Nat → Option HdT} {left : Nat → Bool} {cnt m : Nat} (h : RangeH w b r f left cnt m) : r < w.heap.size := by
  obtain ⟨D, lf, h, _⟩ := h
  exact h.lt
set_option maxRecDepth 10000 in
theorem mapH_made (w : World) : MapH (w.alloc (.map #[] 0)) w.heap.size (fun _ => none) 0 :=
  ⟨.map [], World.ownsMap_made _ _ _ _, rfl, fun kl h => (by simp [Maps.has] at h), fun c => ⟨fun _ => by simp [Maps.has], fun hd h => (by cases h)⟩⟩

section
variable (w : World) {ops : Array Oper} {rest : List Oper} {o : Oper} {a : Act} {Q : Exit → Act → World → Prop}
set_option maxRecDepth 10000 in
theorem wpList_range_h (hg : o.guard = none) (m : Operand) (hop : o.op = Op.range 138 m) (b : Nat) (f : Nat → Option HdT) (cnt : Nat) (hm : a.eval m = .map (some b)) (h : MapH w b f cnt)
    (hK : ∀ w', RangeH w' b w.heap.size f (fun c => (f c).isSome) cnt cnt → w.grownBy w' none → w'.heap.size = w.heap.size + 1 → wpList Tryd.prog ops Q rest (a.put o.dst (.pointer (some ⟨w.heap.size, 0, none⟩))) w') :
    wpList Tryd.prog ops Q (o :: rest) a w := by
  obtain ⟨D, hown, hs, hR⟩ := h
  refine wpList_range_own w hg m 138 hop 3 22 klaw Tryd.underlying138 hdElem b cnt D hm hown fun w' hr hgr hsz => ?_
  rw [hs] at hr
  refine hK w' ⟨D, _, hr, hs, hR, fun c => ?_, fun c hc => Option.isSome_iff_exists.1 hc⟩ hgr hsz
  cases e : f c with
  | none => rw [(hR.2 c).1 e]; simp [e]
  | some hd => rw [hR.has e]; simp [e]
set_option maxRecDepth 10000 in
theorem wpList_next_h (hg : o.guard = none) (it : Operand) (hop : o.op = Op.next it false) (b r : Nat) (f : Nat → Option HdT) (left : Nat → Bool) (cnt m : Nat) (hit : a.eval it = .pointer (some ⟨r, 0, none⟩)) (h : RangeH w b r f left cnt m)
    (hDone : m = 0 → (∀ c, left c = false) → wpList Tryd.prog ops Q rest (a.put o.dst (.tuple #[.bool false])) w)
    (hMore : ∀ (c : Nat) (hd : HdT) (w' : World) (m' : Nat), f c = some hd → left c = true → RangeH w' b r f (fun z => left z && !(z == c)) cnt m' → m' < m → w.grownBy w' (some r) → w'.heap.size = w.heap.size →
      (Instr.entry (.pointer (some ⟨r, 0, none⟩))).run Tryd.prog w' = .ok (.tuple #[.int .i64 (c : Int), .slice hd.1 hd.2.1 hd.2.2]) w' → wpList Tryd.prog ops Q rest (a.put o.dst (.tuple #[.bool true, .int .i64 (c : Int), .slice hd.1 hd.2.1 hd.2.2])) w') :
    wpList Tryd.prog ops Q (o :: rest) a w := by
  obtain ⟨D, lf, hr, hs, hR, hl1, hl2⟩ := h
  refine wpList_next_ranges w hg it hop 3 klaw hdElem (fun x : Int => Value.int .i64 x) SV (fun key kl hk => ?_) (fun v y hv => ?_) b r cnt D lf m hit hr (fun h0 hl => hDone h0 fun c => by rw [← hl1]; exact hl _) ?_
  · obtain ⟨x, rfl, _⟩ := Maps.keyOf_int_inv Tryd.underlying3 hk
    exact ⟨x, rfl⟩
  · obtain ⟨x, rfl, _⟩ := hdElem_inv hv
    exact ⟨x, rfl⟩
  · intro x c kl y w' cnt' hk hlk hv hat hrg hlt hgr hsz hen
    have hhas := Maps.has_true_of_atKey hat
    obtain ⟨c', rfl⟩ := hR.1 kl hhas
    obtain ⟨x', e1, e2, _⟩ := Maps.keyOf_int_inv Tryd.underlying3 hk
    injection e1 with _ e1
    subst e1
    unfold key at e2
    injection e2 with _ e2
    subst e2
    rw [hdElem_mk] at hv
    injection hv with hv
    subst hv
    have hf : f c' = some c := by
      cases e : f c' with
      | none => rw [(hR.2 c').1 e] at hhas; cases hhas
      | some hd =>
        have := (hR.2 c').2 hd e (.held c)
        rw [hat] at this
        injection this with this
        rw [this]
    refine hMore c' c w' cnt' hf (by rw [← hl1]; exact hlk) ⟨D, _, hrg, hs, hR, fun z => ?_, fun z hz => hl2 z ?_⟩ hlt hgr hsz hen
    · rw [hl1]
      by_cases e : z = c'
      · subst e
        rw [WideAt.sameKey_self (by trivial)]
        simp
      · rw [Maps.sameKey_ne (key_ne e)]
        simp [e]
    · simp only [Bool.and_eq_true] at hz
      exact hz.1
set_option maxRecDepth 10000 in
theorem wpList_put_here_h (hg : o.guard = none) (m x v : Operand) (hop : o.op = Op.mapUpdate 138 m x v) (b r : Nat) (f : Nat → Option HdT) (left : Nat → Bool) (cnt k : Nat) (hm : a.eval m = .map (some b)) (h : RangeH w b r f left cnt k)
    (c : Nat) (old hd : HdT) (hx : a.eval x = .int .i64 (c : Int)) (hv : a.eval v = .slice hd.1 hd.2.1 hd.2.2) (hc : c < 1000000) (hold : f c = some old)
    (hK : ∀ w', RangeH w' b r (fun z => if z = c then some hd else f z) left cnt k → w.grownBy w' (some b) → w'.heap.size = w.heap.size → wpList Tryd.prog ops Q rest (a.put o.dst undef) w') :
    wpList Tryd.prog ops Q (o :: rest) a w := by
  obtain ⟨D, lf, hr, hs, hR, hl1, hl2⟩ := h
  refine wpList_plain hg fun K' hK' => ?_
  obtain ⟨w', hrun, r1, r2, r3⟩ := ranges_put hr klaw Tryd.underlying138 (key := .int .i64 (c : Int)) (val := .slice hd.1 hd.2.1 hd.2.2) (d := .held hd) (ps := []) (key_of hc) rfl (hR.has hold)
  unfold Oper.wp
  simp [execOp, hop, hm, hx, hv, hrun, Result.andThen]
  refine hK' _ _ (hK w' ⟨_, lf, r1, ?_, hR.put hr.owns.isMap c hd, hl1, fun z hz => ?_⟩ r2 r3)
  · rw [Maps.size_put (hr.owns.tidy klaw), hR.has hold]
    simpa using hs
  · by_cases e : z = c
    · exact ⟨hd, if_pos e⟩
    · obtain ⟨x, hx'⟩ := hl2 z hz
      exact ⟨x, by simp only [if_neg e]; exact hx'⟩
set_option maxRecDepth 10000 in
theorem wpList_put_new_h (hg : o.guard = none) (m x v : Operand) (hop : o.op = Op.mapUpdate 138 m x v) (b : Nat) (f : Nat → Option HdT) (cnt : Nat) (hm : a.eval m = .map (some b)) (h : MapH w b f cnt)
    (c : Nat) (hd : HdT) (hx : a.eval x = .int .i64 (c : Int)) (hv : a.eval v = .slice hd.1 hd.2.1 hd.2.2) (hc : c < 1000000) (hn : cnt < 1000000) (hold : f c = none)
    (hK : ∀ w', MapH w' b (fun z => if z = c then some hd else f z) (cnt + 1) → w.grownBy w' (some b) → wpList Tryd.prog ops Q rest (a.put o.dst undef) w') :
    wpList Tryd.prog ops Q (o :: rest) a w := by
  obtain ⟨D, hown, hs, hR⟩ := h
  refine wpList_mapUpdate_own w hg m x v 138 hop 3 22 klaw Tryd.underlying138 hdElem b cnt D hm hown (by unfold maxLen; omega) (.int .i64 (c : Int)) (.slice hd.1 hd.2.1 hd.2.2) (key c) hx hv (key_of hc) (.held hd) [] rfl fun w' h1 h2 => ?_
  refine hK w' ⟨_, h1, ?_, hR.put hown.isMap c hd⟩ h2
  rw [Maps.size_put (hown.tidy klaw), (hR.2 c).1 hold]
  simpa using hs
set_option maxRecDepth 10000 in
theorem zeroHd (w : World) : (zeroValue 22).run Tryd.prog w = .ok (.slice none 0 0) w := by kernel_rfl
set_option maxRecDepth 10000 in
theorem wpList_lookup_h (hg : o.guard = none) (m x : Operand) (hop : o.op = Op.lookup 138 m x false) (b : Nat) (f : Nat → Option HdT) (cnt : Nat) (hm : a.eval m = .map (some b)) (h : MapH w b f cnt)
    (c : Nat) (hd : HdT) (hx : a.eval x = .int .i64 (c : Int)) (hc : c < 1000000) (hold : f c = some hd)
    (hK : wpList Tryd.prog ops Q rest (a.put o.dst (.slice hd.1 hd.2.1 hd.2.2)) w) :
    wpList Tryd.prog ops Q (o :: rest) a w := by
  obtain ⟨D, hown, hs, hR⟩ := h
  refine wpList_plain hg fun K' hK' => ?_
  obtain ⟨v, ps, hrun, hv⟩ := hown.lookup klaw Tryd.underlying138 (zeroHd w) (zd := .held (none, 0, 0)) (zp := []) rfl (key := .int .i64 (c : Int)) (key_of hc)
  rw [(hR.2 c).2 hd hold] at hv
  obtain ⟨x', rfl, e⟩ := hdElem_inv hv
  injection e with e _
  injection e with e
  subst e
  unfold Oper.wp
  simp [execOp, hop, hm, hx, hrun, Result.andThen]
  exact hK' _ _ hK
set_option maxRecDepth 10000 in
theorem wpList_len_h (hg : o.guard = none) (m : Operand) (hop : o.op = Op.call { callee := Callee.builtin Builtin.len, args := #[m], argTypes := #[138] }) (b : Nat) (f : Nat → Option HdT) (cnt : Nat) (hm : a.eval m = .map (some b)) (h : MapH w b f cnt)
    (hK : wpList Tryd.prog ops Q rest (a.put o.dst (.int .i64 (cnt : Int))) w) :
    wpList Tryd.prog ops Q (o :: rest) a w := by
  obtain ⟨D, hown, hs, hR⟩ := h
  refine wpList_len_own w hg m 138 hop 3 22 Tryd.underlying138 hdElem b cnt D hm hown ?_
  rw [hs]
  exact hK
end
end Go.Proofs.YtfjcbgfgiidogaaDoor
namespace Go.Proofs.YtfjcbgfgiidogaaDoor
open Go.RowKit

/-- What a call answers that gives bytes, its own or another's. -/
def ReadsBytes (n : Nat) (l : List Nat) (w : World) (e : Ending) (w' : World) : Prop := ∃ a c, e = .returned (.slice a n c) ∧ BytesV w' (a, n, c) l ∧ Below w.heap.size w w'
theorem mix_two {L k : Nat} {e o : List Nat} (he : e.length = L) (ho : o.length = L) (hb : Bytes e) : mixTo [1, k] [e, o] (longest [e, o] 2) 2 = addTo e k o := by
  have hL : longest [e, o] 2 = L := by simp [longest, he, ho]
  apply ext_getD
  · rw [mixTo_length, addTo_length, hL, he]
  · intro j hj
    rw [mixTo_length] at hj
    rw [mixTo_getD _ _ _ _ hj, addTo_getD _ _ _ _ (by omega)]
    simp only [mixAt, List.getD_cons_zero, List.getD_cons_succ, Nat.zero_xor, one_mul (hb.getD j)]

set_option maxRecDepth 100000 in
set_option maxHeartbeats 2000000 in
theorem without_any (c : Nat) (a1 : Option Addr) (c1 : Nat) (a2 : Option Addr) (c2 L : Nat) (e o : List Nat) (w : World) (h1 : BytesV w (a1, L, c1) e) (h2 : BytesV w (a2, L, c2) o) (hc : c < L) :
    Calls Tryd.prog 114 #[.int .i64 (c : Int), .slice a1 L c1, .slice a2 L c2] w (ReadsBytes L (addTo e (e.getD c 0) o) w) := by
  have hle : e.length = L := h1.length
  have hlo : o.length = L := h2.length
  have hsm := h1.small
  simp only at hsm
  obtain ⟨b, off, rfl, hcl⟩ := h1.row.2 (show 0 < L by omega)
  have hc1 := hcl c (show c < L by omega)
  rw [bv_getD (by omega)] at hc1
  have hk := h1.bytes.getD c
  have h1' := Lib.hid h1
  obtain ⟨k, hkk⟩ : ∃ k, k = e.getD c 0 := ⟨_, rfl⟩
  rw [← hkk] at hc1 hk ⊢
  have HLE := Lib.hid hle
  have HLO := Lib.hid hlo
  clear hle hlo hcl h1
  by_cases h0 : k = 0
  · subst h0
    clear hkk
    have hc1' : w.cell? ⟨b, off + c, none⟩ = some (.int .u8 0) := hc1
    clear hc1
    go_enter Tryd.func114, Tryd.ntmps114
    go_wp2
    go_ret
    exact ⟨_, _, rfl, by rw [addTo_zero]; exact h1'.out, Below.refl _ _⟩
  · have hne : (((k : Nat) : Int) == 0) = false := beq_eq_false_iff_ne.2 (by omega)
    clear hkk
    have hmt := fun (_ : Unit) => mix_two (k := k) HLE.out HLO.out h1'.out.bytes
    have hlg : longest [e, o] 2 = L := by simp [longest, HLE.out, HLO.out]
    have HMT := Lib.hid hmt
    have HLG := Lib.hid hlg
    clear hmt hlg
    have hks : Bytes [1, k] := by intro x hx; simp at hx; omega
    have e1 := (rowV_lit w #[.int .u8 1, .int .u8 ((k : Nat) : Int)] 5 w.heap.size 2 ([1, k].map bv) rfl rfl rfl).alloc (o := .cells #[.slice (some ⟨b, off, none⟩) L c1, .slice a2 L c2] 22)
    have e2 := rowV_lit (w.alloc (.cells #[.int .u8 1, .int .u8 ((k : Nat) : Int)] 5)) #[.slice (some ⟨b, off, none⟩) L c1, .slice a2 L c2] 22 (w.heap.size + 1) 2 ([(some (⟨b, off, none⟩ : Addr), L, c1), (a2, L, c2)].map SV) (by simp) rfl rfl
    have e3 : RowsV ((w.alloc (.cells #[.int .u8 1, .int .u8 ((k : Nat) : Int)] 5)).alloc (.cells #[.slice (some ⟨b, off, none⟩) L c1, .slice a2 L c2] 22)) [(some (⟨b, off, none⟩ : Addr), L, c1), (a2, L, c2)] [e, o] :=
      rowsV_cons (h1'.out.alloc.alloc) (rowsV_cons (h2.alloc.alloc) (rowsV_nil _))
    have KM := mix_any (some ⟨w.heap.size, 0, none⟩) 2 2 [1, k] (some ⟨w.heap.size + 1, 0, none⟩) 2 2 _ _ _ e1 hks (by omega) e2 (by omega) e3
    rw [HMT.out (), HLG.out] at KM
    have HB := Lib.hid (addTo_bytes h1'.out.bytes hk : Bytes (addTo e k o))
    clear e1 e2 e3 hks h2
    go_enter Tryd.func114, Tryd.ntmps114
    go_wp2_with (first | (go_at_call 56; (with_reducible refine KM.mono ?_); rintro e w1 ⟨rfl, ho, hb1⟩))
    go_ret
    simp only [World.size_alloc] at ho
    exact ⟨_, _, rfl, bytesV_of_owns ho HB.out hsm, ((below_alloc w _).alloc (by simp) _).trans (hb1.mono (by simp; omega))⟩

theorem alloc_ret {w : World} {o : Obj} {w' : World} (hb : Below (w.alloc o).heap.size (w.alloc o) w') : Below w.heap.size w w' := (below_alloc w o).trans (hb.mono (by simp))

theorem lead_step {cols : Nat} {e : List Nat} {k : Nat} (hk : k ≤ cols) (hl : cols ≤ e.length) (h : ∀ j, j < k → e.getD j 0 = 0) : k ≤ lead cols e := by
  by_cases hlt : k ≤ lead cols e
  · exact hlt
  · have h1 := lead_ne (cols := cols) (e := e) hl (by omega)
    exact absurd (h _ (by omega)) h1
theorem lead_at {cols : Nat} {e : List Nat} {k : Nat} (hk : k < cols) (hl : cols ≤ e.length) (h : ∀ j, j < k → e.getD j 0 = 0) (hn : e.getD k 0 ≠ 0) : lead cols e = k := by
  have h1 := lead_step (Nat.le_of_lt hk) hl h
  by_cases h2 : lead cols e ≤ k
  · omega
  · exact absurd (lead_zero hl (by omega)) hn
theorem lead_end {cols : Nat} {e : List Nat} (hl : cols ≤ e.length) (h : ∀ j, j < cols → e.getD j 0 = 0) : lead cols e = cols := by
  have h1 := lead_step (Nat.le_refl _) hl h
  have h2 := lead_le hl
  omega

set_option maxRecDepth 100000 in
set_option maxHeartbeats 2000000 in
theorem lead_any (cols wid : Nat) (a : Option Addr) (L c : Nat) (e : List Nat) (w : World) (h : BytesV w (a, L, c) e) (hc : 0 < cols) (hL : cols ≤ L) (hm : cols ≤ 1000) :
    Calls Tryd.prog 115 #[.agg #[.int .i64 (cols : Int), .int .i64 (wid : Int)], .slice a L c] w fun x w' => x = .returned (.int .i64 ((lead cols e : Nat) : Int)) ∧ Below w.heap.size w w' := by
  have hle : e.length = L := h.length
  have hcap := h.cap
  have hsm := h.small
  simp only at hsm hcap
  have HLE := Lib.hid hle
  have hbb := h.bytes
  have H := Lib.hid h
  obtain ⟨b, off, rfl, hcl⟩ := (h.below (below_alloc w (.cells #[.int .i64 (cols : Int), .int .i64 (wid : Int)] 137))).row.2 (show 0 < L by omega)
  have HCL := Lib.hid hcl
  have HBB := Lib.hid hbb
  clear hle h hcl hbb
  go_enter Tryd.func115, Tryd.ntmps115
  go_wp2
  go_loopw [12] (fun i wr => ∃ k : Nat, k ≤ cols ∧ i = .int .i64 k ∧ (∀ j, j < k → e.getD j 0 = 0) ∧ wr = w.alloc (.cells #[.int .i64 (cols : Int), .int .i64 (wid : Int)] 137)) (fun i _ => cols - (intOf i).toNat)
  case atStart => exact ⟨0, Nat.zero_le _, rfl, fun j hj => absurd hj (Nat.not_lt_zero _), rfl⟩
  case round =>
    obtain ⟨k, hk, rfl, hz, rfl⟩ := hrel
    have HZ := Lib.hid hz
    clear hz
    by_cases hlt : k < cols
    · have hc1 := HCL.out k (show k < L by omega)
      rw [bv_getD (by rw [HLE.out]; omega)] at hc1
      have hx := HBB.out.getD k
      obtain ⟨x, hxx⟩ : ∃ x, x = e.getD k 0 := ⟨_, rfl⟩
      rw [← hxx] at hc1 hx
      have HX := Lib.hid hxx
      clear hxx
      by_cases h0 : x = 0
      · subst h0
        have hc1' : (w.alloc (.cells #[.int .i64 (cols : Int), .int .i64 (wid : Int)] 137)).cell? ⟨b, off + k, none⟩ = some (.int .u8 0) := hc1
        clear hc1
        go_wp2
        go_roundw
        case rel => exact ⟨k + 1, by omega, by go_num, fun j hj => (by
          by_cases e : j = k
          · rw [e]; exact HX.out.symm
          · exact HZ.out j (by omega)), trivial⟩
        case measure => simp [intOf]; omega
      · have hne : (((x : Nat) : Int) != 0) = true := by rw [bne_iff_ne]; omega
        go_wp2
        go_ret
        refine ⟨ret_int ?_, below_alloc _ _⟩
        rw [lead_at hlt (by rw [HLE.out]; exact hL) HZ.out (by rw [← HX.out]; exact h0)]
    · obtain rfl : k = cols := by omega
      go_wp2
      go_ret
      refine ⟨ret_int ?_, below_alloc _ _⟩
      rw [lead_end (by rw [HLE.out]; exact hL) HZ.out]
end Go.Proofs.YtfjcbgfgiidogaaDoor
namespace Go.Proofs.YtfjcbgfgiidogaaDoor
open Go.RowKit

theorem isMore_any (x : Nat) (w : World) : Calls Tryd.prog 117 #[.int .u8 (x : Int)] w fun e w' => e = .returned (.bool (x != 0)) ∧ w = w' := by
  have h : (x != 0) = (((x : Nat) : Int) != 0) := by
    rw [Bool.eq_iff_iff, bne_iff_ne, bne_iff_ne]; omega
  rw [h]
  clear h
  go_enter Tryd.func117, Tryd.ntmps117
  go_wp2
  go_ret
  exact ⟨rfl, rfl⟩
theorem isMore_no (x : Nat) (h : x = 0) (w : World) : Calls Tryd.prog 117 #[.int .u8 (x : Int)] w fun e w' => e = .returned (.bool false) ∧ w = w' := by
  have := isMore_any x w; rwa [show (x != 0) = false by simpa using h] at this
theorem isMore_yes (x : Nat) (h : x ≠ 0) (w : World) : Calls Tryd.prog 117 #[.int .u8 (x : Int)] w fun e w' => e = .returned (.bool true) ∧ w = w' := by
  have := isMore_any x w; rwa [show (x != 0) = true by simpa using h] at this

/-- an index was found, or -1. -/
def Found (p : Prop) (w : World) (e : Ending) (w' : World) : Prop := w = w' ∧ ((p ∧ ∃ k : Nat, e = .returned (.int .i64 (k : Int)) ∧ k ≤ 140737488355328) ∨ (¬ p ∧ e = .returned (.int .i64 (-1))))

set_option maxRecDepth 100000 in
set_option maxHeartbeats 2000000 in
theorem indexMore_any (a : Option Addr) (L c : Nat) (e : List Nat) (w : World) (h : BytesV w (a, L, c) e) :
    Calls Tryd.prog 129 #[.slice a L c, .func (.func 117) #[] #[]] w (Found (e.any (· != 0) = true) w) := by
  have hle : e.length = L := h.length
  have hsm := h.small
  simp only at hsm
  have HLE := Lib.hid hle
  have HB := Lib.hid h.bytes
  have HR := Lib.hid h.row
  clear hle h
  have KN := isMore_no
  have KY := isMore_yes
  go_enter Tryd.func129, Tryd.ntmps129
  go_wp2
  go_loopw [8] (fun i wr => ∃ k : Nat, k ≤ L ∧ i = .int .i64 k ∧ (∀ j, j < k → e.getD j 0 = 0) ∧ wr = w) (fun i _ => L - (intOf i).toNat)
  case atStart => exact ⟨0, Nat.zero_le _, rfl, fun j hj => absurd hj (Nat.not_lt_zero _), rfl⟩
  case round =>
    obtain ⟨k, hk, rfl, hz, rfl⟩ := hrel
    have HZ := Lib.hid hz
    clear hz
    by_cases hlt : k < L
    · obtain ⟨b, off, rfl, hcl⟩ := HR.out.2 (by omega)
      have hc1 := hcl k hlt
      rw [bv_getD (by rw [HLE.out]; omega)] at hc1
      obtain ⟨x, hxx⟩ : ∃ x, x = e.getD k 0 := ⟨_, rfl⟩
      rw [← hxx] at hc1
      have HX := Lib.hid hxx
      clear hxx hcl
      by_cases h0 : x = 0
      · have H0 := Lib.hid h0
        clear h0
        go_wp2_with ((with_reducible refine (KN _ H0.out _).mono ?_); rintro e w' ⟨rfl, rfl⟩)
        go_roundw
        case rel => exact ⟨k + 1, by omega, by go_num, fun j hj => (by
          by_cases e : j = k
          · rw [e, ← HX.out]; exact H0.out
          · exact HZ.out j (by omega)), trivial⟩
        case measure => simp [intOf]; omega
      · have H0 := Lib.hid h0
        clear h0
        go_wp2_with ((with_reducible refine (KY _ H0.out _).mono ?_); rintro e w' ⟨rfl, rfl⟩)
        go_ret
        refine ⟨rfl, .inl ⟨List.any_eq_true.2 ⟨e.getD k 0, ?_, ?_⟩, k, rfl, by omega⟩⟩
        · rw [List.getD_eq_getElem?_getD, List.getElem?_eq_getElem (by rw [HLE.out]; exact hlt)]
          exact List.getElem_mem _
        · rw [← HX.out]; simpa using H0.out
    · obtain rfl : k = L := by omega
      go_wp2
      go_ret
      refine ⟨rfl, .inr ⟨fun h => ?_, rfl⟩⟩
      obtain ⟨x, hx, hn⟩ := List.any_eq_true.1 h
      obtain ⟨j, hj, rfl⟩ := List.mem_iff_getElem.1 hx
      have := HZ.out j (by rw [HLE.out] at hj; exact hj)
      rw [List.getD_eq_getElem?_getD, List.getElem?_eq_getElem hj] at this
      simp only [Option.getD_some] at this
      rw [this] at hn
      cases hn
theorem containsMore_any (a : Option Addr) (L c : Nat) (e : List Nat) (w : World) (h : BytesV w (a, L, c) e) :
    Calls Tryd.prog 116 #[.slice a L c, .func (.func 117) #[] #[]] w fun x w' => x = .returned (.bool (e.any (· != 0))) ∧ w = w' := by
  have KI := indexMore_any a L c e w h
  generalize e.any (· != 0) = t at KI ⊢
  go_enter Tryd.func116, Tryd.ntmps116
  go_wp2_with fail
  (with_reducible refine KI.mono ?_)
  rintro x w1 ⟨rfl, ⟨hp, k, rfl, hk⟩ | ⟨hp, rfl⟩⟩
  · go_wp2
    go_ret
    exact ⟨by rw [hp]; rfl, rfl⟩
  · go_wp2
    go_ret
    exact ⟨by rw [show t = false by simpa using hp]; rfl, rfl⟩

theorem evenLen_any (a : Option Addr) (n c g : Nat) (k : Int) (w : World) (hg : w.cell? ⟨g, 0, none⟩ = some (.int .i64 k)) :
    Calls Tryd.prog 113 #[.slice a n c, .pointer (some ⟨g, 0, none⟩)] w fun e w' => e = .returned (.bool ((n : Int) != k)) ∧ w = w' := by
  go_enter Tryd.func113, Tryd.ntmps113
  go_wp2
  go_ret
  exact ⟨rfl, rfl⟩
theorem evenLen_no (a : Option Addr) (n c g : Nat) (k : Int) (w : World) (hg : w.cell? ⟨g, 0, none⟩ = some (.int .i64 k)) (h : (n : Int) = k) :
    Calls Tryd.prog 113 #[.slice a n c, .pointer (some ⟨g, 0, none⟩)] w fun e w' => e = .returned (.bool false) ∧ w = w' := by
  have := evenLen_any a n c g k w hg; rwa [show ((n : Int) != k) = false by simpa using h] at this
theorem evenLen_yes (a : Option Addr) (n c g : Nat) (k : Int) (w : World) (hg : w.cell? ⟨g, 0, none⟩ = some (.int .i64 k)) (h : (n : Int) ≠ k) :
    Calls Tryd.prog 113 #[.slice a n c, .pointer (some ⟨g, 0, none⟩)] w fun e w' => e = .returned (.bool true) ∧ w = w' := by
  have := evenLen_any a n c g k w hg; rwa [show ((n : Int) != k) = true by simpa using h] at this

/-- have all lists this length? -/
def evenB (ls : List (List Nat)) (k : Int) : Bool := ls.all fun l => decide ((l.length : Int) = k)
theorem evenB_iff {ls : List (List Nat)} {k : Int} : evenB ls k = true ↔ ∀ l ∈ ls, (l.length : Int) = k := by simp [evenB]

set_option maxRecDepth 100000 in
set_option maxHeartbeats 2000000 in
theorem indexLen_any (adv : Option Addr) (n cv g : Nat) (k : Int) (hs : List (Option Addr × Nat × Nat)) (ls : List (List Nat)) (w : World) (hv : RowV w adv n (hs.map SV)) (hn : n ≤ 140737488355328) (hr : RowsV w hs ls) (hg : w.cell? ⟨g, 0, none⟩ = some (.int .i64 k)) :
    Calls Tryd.prog 128 #[.slice adv n cv, .func (.func 113) #[] #[.pointer (some ⟨g, 0, none⟩)]] w (Found (evenB ls k = false) w) := by
  have hhs : hs.length = n := by have := hv.1; simpa using this
  have hls : ls.length = n := by rw [← hr.1, hhs]
  have HHS := Lib.hid hhs
  have HLS := Lib.hid hls
  have HV := Lib.hid hv
  have HR := Lib.hid hr
  clear hhs hls hv hr
  have KN := fun a n c h => evenLen_no a n c g k w hg h
  have KY := fun a n c h => evenLen_yes a n c g k w hg h
  go_enter Tryd.func128, Tryd.ntmps128
  go_wp2
  go_loopw [8] (fun i wr => ∃ m : Nat, m ≤ n ∧ i = .int .i64 m ∧ (∀ j l, j < m → ls[j]? = some l → (l.length : Int) = k) ∧ wr = w) (fun i _ => n - (intOf i).toNat)
  case atStart => exact ⟨0, Nat.zero_le _, rfl, fun j _ hj => absurd hj (Nat.not_lt_zero _), rfl⟩
  case round =>
    obtain ⟨m, hm, rfl, hz, rfl⟩ := hrel
    have HZ := Lib.hid hz
    clear hz
    by_cases hlt : m < n
    · obtain ⟨b, off, rfl, hcl⟩ := HV.out.2 (by omega)
      obtain ⟨⟨a2, n2, c2⟩, hx⟩ : ∃ x, hs[m]? = some x := ⟨_, List.getElem?_eq_getElem (by rw [HHS.out]; exact hlt)⟩
      obtain ⟨l, hl⟩ : ∃ l, ls[m]? = some l := ⟨_, List.getElem?_eq_getElem (by rw [HLS.out]; exact hlt)⟩
      have hB := HR.out.2 m _ l hx hl
      have hc1 := hcl m hlt
      rw [List.getElem?_map, hx] at hc1
      unfold SV at hc1
      simp only [Option.map_some] at hc1
      have hll : l.length = n2 := hB.length
      have HLL := Lib.hid hll
      have HL := Lib.hid hl
      clear hcl hx hl hB hll
      by_cases h0 : (n2 : Int) = k
      · have H0 := Lib.hid h0
        clear h0
        go_wp2_with ((with_reducible refine (KN _ _ _ H0.out).mono ?_); rintro e w' ⟨rfl, rfl⟩)
        go_roundw
        case rel => exact ⟨m + 1, by omega, by go_num, fun j l' hj hl' => (by
          by_cases e : j = m
          · rw [e, HL.out] at hl'
            injection hl' with hl'
            rw [← hl', HLL.out]; exact H0.out
          · exact HZ.out j l' (by omega) hl'), trivial⟩
        case measure => simp [intOf]; omega
      · have H0 := Lib.hid h0
        clear h0
        go_wp2_with ((with_reducible refine (KY _ _ _ H0.out).mono ?_); rintro e w' ⟨rfl, rfl⟩)
        go_ret
        refine ⟨rfl, .inl ⟨?_, m, rfl, by omega⟩⟩
        cases he : evenB ls k with
        | false => rfl
        | true => exact absurd (by rw [← HLL.out]; exact evenB_iff.1 he l (List.mem_of_getElem? HL.out)) H0.out
    · obtain rfl : m = n := by omega
      go_wp2
      go_ret
      refine ⟨rfl, .inr ⟨?_, rfl⟩⟩
      rw [evenB_iff.2 fun l hl => ?_]
      · simp
      · obtain ⟨j, hj⟩ := List.getElem?_of_mem hl
        exact HZ.out j l (by have := (List.getElem?_eq_some_iff.1 hj).1; rw [HLS.out] at this; exact this) hj
theorem containsLen_any (adv : Option Addr) (n cv g : Nat) (k : Int) (hs : List (Option Addr × Nat × Nat)) (ls : List (List Nat)) (w : World) (hv : RowV w adv n (hs.map SV)) (hn : n ≤ 140737488355328) (hr : RowsV w hs ls) (hg : w.cell? ⟨g, 0, none⟩ = some (.int .i64 k)) :
    Calls Tryd.prog 112 #[.slice adv n cv, .func (.func 113) #[] #[.pointer (some ⟨g, 0, none⟩)]] w fun x w' => x = .returned (.bool (!evenB ls k)) ∧ w = w' := by
  have KI := indexLen_any adv n cv g k hs ls w hv hn hr hg
  generalize evenB ls k = t at KI ⊢
  go_enter Tryd.func112, Tryd.ntmps112
  go_wp2_with fail
  (with_reducible refine KI.mono ?_)
  rintro x w1 ⟨rfl, ⟨hp, m, rfl, hm⟩ | ⟨hp, rfl⟩⟩
  · go_wp2
    go_ret
    exact ⟨by rw [hp]; rfl, rfl⟩
  · go_wp2
    go_ret
    exact ⟨by rw [show t = true by simpa using hp]; rfl, rfl⟩
set_option maxHeartbeats 1000000 in
theorem even_any (adv : Option Addr) (n cv : Nat) (k : Int) (hs : List (Option Addr × Nat × Nat)) (ls : List (List Nat)) (w : World) (hv : RowV w adv n (hs.map SV)) (hn : n ≤ 140737488355328) (hr : RowsV w hs ls) :
    Calls Tryd.prog 90 #[.slice adv n cv, .int .i64 k] w fun x w' => x = .returned (.bool (evenB ls k)) ∧ Below w.heap.size w w' := by
  have hb := below_alloc w (.cells #[.int .i64 k] 3)
  have KC := containsLen_any adv n cv w.heap.size k hs ls (w.alloc (.cells #[.int .i64 k] 3)) (hv.below hb) hn (hr.below hb) (by rw [cell_of_row _ _ 0 _ _ _ (heap_alloc_new w _)]; rfl)
  generalize evenB ls k = t at KC ⊢
  clear hv hr
  go_enter Tryd.func90, Tryd.ntmps90
  go_wp2_with fail
  (with_reducible refine KC.mono ?_)
  rintro x w1 ⟨rfl, rfl⟩
  go_wp2
  go_ret
  exact ⟨by cases t <;> rfl, hb⟩
end Go.Proofs.YtfjcbgfgiidogaaDoor
namespace Go.Proofs.YtfjcbgfgiidogaaDoor
open Go.RowKit

def widthB (ls : List (List Nat)) : Nat := (ls.getD 0 []).length
set_option maxHeartbeats 1000000 in
theorem width_any (adv : Option Addr) (n cv : Nat) (hs : List (Option Addr × Nat × Nat)) (ls : List (List Nat)) (w : World) (hv : RowV w adv n (hs.map SV)) (hr : RowsV w hs ls) :
    Calls Tryd.prog 91 #[.slice adv n cv] w fun x w' => x = .returned (.int .i64 ((widthB ls : Nat) : Int)) ∧ w = w' := by
  have hhs : hs.length = n := by have := hv.1; simpa using this
  have hls : ls.length = n := by rw [← hr.1, hhs]
  by_cases h0 : n = 0
  · subst h0
    obtain rfl : ls = [] := List.eq_nil_of_length_eq_zero hls
    clear hv hr hhs hls
    go_enter Tryd.func91, Tryd.ntmps91
    go_wp2
    go_ret
    exact ⟨rfl, rfl⟩
  · obtain ⟨b, off, rfl, hcl⟩ := hv.2 (by omega)
    obtain ⟨⟨a2, n2, c2⟩, hx⟩ : ∃ x, hs[0]? = some x := ⟨_, List.getElem?_eq_getElem (by omega)⟩
    obtain ⟨l, hl⟩ : ∃ l, ls[0]? = some l := ⟨_, List.getElem?_eq_getElem (by omega)⟩
    have hB := hr.2 0 _ l hx hl
    have hc1 := hcl 0 (by omega)
    rw [List.getElem?_map, hx] at hc1
    unfold SV at hc1
    simp only [Option.map_some, Nat.add_zero] at hc1
    have hll : widthB ls = n2 := by unfold widthB; rw [List.getD_eq_getElem?_getD, hl]; exact hB.length
    rw [hll]
    clear hcl hx hl hB hll hv hr hhs hls
    have hn : 0 < n := by omega
    go_enter Tryd.func91, Tryd.ntmps91
    go_wp2
    go_ret
    exact ⟨rfl, rfl⟩

def rightB (cols : Int) (ls : List (List Nat)) : Bool := decide (1 ≤ cols) && (decide (cols ≤ 128) && (decide (ls.length ≤ 256) && evenB ls cols))
set_option maxHeartbeats 1000000 in
theorem right_any (cols : Int) (adv : Option Addr) (n cv : Nat) (hs : List (Option Addr × Nat × Nat)) (ls : List (List Nat)) (w : World) (hv : RowV w adv n (hs.map SV)) (hn : n ≤ 140737488355328) (hr : RowsV w hs ls) :
    Calls Tryd.prog 89 #[.int .i64 cols, .slice adv n cv] w fun x w' => x = .returned (.bool (rightB cols ls)) ∧ Below w.heap.size w w' := by
  have hhs : hs.length = n := by have := hv.1; simpa using this
  have hls : ls.length = n := by rw [← hr.1, hhs]
  have KE := even_any adv n cv cols hs ls w hv hn hr
  unfold rightB
  rw [hls]
  generalize evenB ls cols = t at KE ⊢
  clear hv hr hhs hls
  by_cases h1 : 1 ≤ cols
  rotate_left 1
  · have h1' : cols < 1 := by omega
    rw [decide_eq_false h1]
    clear h1 KE
    go_enter Tryd.func89, Tryd.ntmps89
    go_wp2
    go_ret
    exact ⟨rfl, Below.refl _ _⟩
  by_cases h2 : cols ≤ 128
  rotate_left 1
  · have h2' : 128 < cols := by omega
    rw [decide_eq_true h1, decide_eq_false h2]
    clear h2 KE
    go_enter Tryd.func89, Tryd.ntmps89
    go_wp2
    go_ret
    exact ⟨rfl, Below.refl _ _⟩
  by_cases h3 : n ≤ 256
  rotate_left 1
  · have h3' : 256 < n := by omega
    rw [decide_eq_true h1, decide_eq_true h2, decide_eq_false h3]
    clear h3 KE
    go_enter Tryd.func89, Tryd.ntmps89
    go_wp2
    go_ret
    exact ⟨rfl, Below.refl _ _⟩
  rw [decide_eq_true h1, decide_eq_true h2, decide_eq_true h3]
  go_enter Tryd.func89, Tryd.ntmps89
  go_wp2_with fail
  (with_reducible refine KE.mono ?_)
  rintro x w1 ⟨rfl, hb⟩
  go_wp2
  go_ret
  exact ⟨by cases t <;> rfl, hb⟩

set_option maxRecDepth 100000 in
set_option maxHeartbeats 2000000 in
theorem value_any (cols wid : Nat) (a : Option Addr) (L c : Nat) (e : List Nat) (w : World) (h : BytesV w (a, L, c) e) (hL : L = cols + wid) (hm : 0 < cols ∧ cols ≤ 1000) (hw : wid ≤ 1000000) :
    Calls Tryd.prog 109 #[.agg #[.int .i64 (cols : Int), .int .i64 (wid : Int)], .slice a L c] w fun x w' => ∃ a' c', x = .returned (.slice a' wid c') ∧ BytesV w' (a', wid, c') (e.drop cols) ∧ w'.ownsRow w.heap.size 5 1 (.slice a' wid c') wid ((e.drop cols).map bv) ∧ Below w.heap.size w w' := by
  have hle : e.length = L := h.length
  have hcap := h.cap
  simp only at hcap
  have hed : (e.drop cols).length = wid := by rw [List.length_drop, hle]; omega
  have hb1 := below_alloc w (.cells #[.int .i64 (cols : Int), .int .i64 (wid : Int)] 137)
  have hg := heap_alloc_new w (.cells #[.int .i64 (cols : Int), .int .i64 (wid : Int)] 137)
  have hby : Bytes (e.drop cols) := fun x hx => h.bytes x (List.mem_of_mem_drop hx)
  obtain ⟨b, off, rfl, hcl⟩ := (h.below hb1).row.2 (show 0 < L by omega)
  simp only at hcl
  have KC : ∀ (w1 : World) (a' : Option Addr) (c' : Nat), BytesV w1 (a', wid, c') (e.drop cols) → Calls Tryd.prog 127 #[.slice a' wid c'] w1 (GivesBytes 5 w1 (e.drop cols)) := fun w1 a' c' k => clone_any a' wid c' _ w1 k
  have hX : ∀ a', (a' = some (⟨b, off, none⟩ : Addr) ∧ wid = 0) ∨ a' = some (⟨b, off + cols, none⟩ : Addr) → ∀ c', wid ≤ c' → BytesV (w.alloc (.cells #[.int .i64 (cols : Int), .int .i64 (wid : Int)] 137)) (a', wid, c') (e.drop cols) := by
    rintro a' ha c' hc'
    refine ⟨⟨by simpa using hed, fun h0 => ?_⟩, hby, by simp only; omega, hc', fun e => ?_⟩
    · rcases ha with ⟨_, h1⟩ | rfl
      · simp only at h0; omega
      · refine ⟨b, off + cols, rfl, fun i hi => ?_⟩
        simp only at hi
        rw [Nat.add_assoc, hcl (cols + i) (by omega), List.map_drop, List.getElem?_drop]
    · rcases ha with ⟨rfl, _⟩ | rfl <;> cases e
  have HED := Lib.hid hed
  have HBY := Lib.hid hby
  have HX := Lib.hid hX
  have HKC := Lib.hid KC
  have hcell0 : (w.alloc (.cells #[.int .i64 (cols : Int), .int .i64 (wid : Int)] 137)).cell? ⟨w.heap.size, 0, none⟩ = some (.int .i64 (cols : Int)) := cell_of_row _ _ 0 _ _ _ hg
  clear hed hX hby hcl h hle hg KC
  subst hL
  go_enter Tryd.func109, Tryd.ntmps109
  go_wp2_with fail
  all_goals
    first
    | (with_reducible refine (HKC.out _ _ _ (HX.out _ (.inl ⟨rfl, by omega⟩) _ (by omega))).mono ?_)
    | (with_reducible refine (HKC.out _ _ _ (HX.out _ (.inr rfl) _ (by omega))).mono ?_)
    rintro x w1 ⟨a', c', rfl, ho, hb⟩
    rw [HED.out] at ho ⊢
    go_wp2
    go_ret
    exact ⟨a', c', rfl, bytesV_of_owns ho HBY.out (by omega), ownsRow_base ho (by simp), hb1.trans (hb.mono (by simp))⟩

/-- how many columns have their equation. -/
def count (f : Wk) : Nat → Nat
  | 0 => 0
  | k + 1 => count f k + if (f k).isSome then 1 else 0
theorem count_le (f : Wk) : ∀ n, count f n ≤ n
  | 0 => Nat.le_refl _
  | k + 1 => by simp only [count]; have := count_le f k; split <;> omega
theorem count_none (n : Nat) : count (fun _ => none) n = 0 := by
  induction n with
  | zero => rfl
  | succ k ih => simp [count, ih]
theorem count_congr {f g : Wk} : ∀ {n : Nat}, (∀ c, c < n → (f c).isSome = (g c).isSome) → count f n = count g n
  | 0, _ => rfl
  | k + 1, h => by simp only [count]; rw [count_congr (fun c hc => h c (by omega)), h k (by omega)]
theorem count_new {f g : Wk} {l : Nat} (hl : f l = none) (hg : (g l).isSome = true) (h : ∀ c, c ≠ l → (f c).isSome = (g c).isSome) : ∀ {n : Nat}, l < n → count g n = count f n + 1
  | 0, h => absurd h (Nat.not_lt_zero _)
  | k + 1, hk => by
    simp only [count]
    by_cases e : l = k
    · subst e
      rw [hl, hg, count_congr (fun c hc => (h c (by omega)).symm)]
      simp
    · rw [count_new hl hg h (by omega), h k (fun e2 => e e2.symm)]
      omega
theorem count_full {f : Wk} : ∀ {n : Nat}, count f n = n ↔ ∀ c, c < n → ∃ r, f c = some r
  | 0 => ⟨fun _ c hc => absurd hc (Nat.not_lt_zero _), fun _ => rfl⟩
  | k + 1 => by
    simp only [count]
    have hle := count_le f k
    constructor
    · intro h c hc
      by_cases hs : (f k).isSome = true
      · rw [if_pos hs] at h
        by_cases e : c = k
        · subst e; exact Option.isSome_iff_exists.1 hs
        · exact count_full.1 (show count f k = k by omega) c (by omega)
      · rw [if_neg hs] at h; omega
    · intro h
      rw [if_pos (Option.isSome_iff_exists.2 (h k (by omega))), count_full.2 (fun c hc => h c (by omega))]
def ST : TypeId := 140
/-- a system in memory: its own block g, its map's block m. -/
structure SysV (w0 w : World) (g gm cols wid : Nat) (s : Wk × Bool) (hd : Nat → Option HdT) : Prop where
  box : w.heap[g]? = some (.cells #[.int .i64 (cols : Int), .int .i64 (wid : Int), .map (some gm), .bool s.2] ST (0, 0))
  map : MapH w gm hd (count s.1 cols)
  rows : ∀ c r, s.1 c = some r → ∃ x, hd c = some x ∧ x.2.1 = cols + wid ∧ BytesV w x r
  free : ∀ c, s.1 c = none → hd c = none
  sys : Sys cols (cols + wid) s.1
  base : Below w0.heap.size w0 w
  gb : w0.heap.size ≤ g
  mb : w0.heap.size ≤ gm
theorem box4_cells {w : World} {b : Nat} {v0 v1 v2 v3 : Value} {T : TypeId} (h : w.heap[b]? = some (.cells #[v0, v1, v2, v3] T (0, 0))) : w.cell? ⟨b, 0, none⟩ = some v0 ∧ w.cell? ⟨b, 1, none⟩ = some v1 ∧ w.cell? ⟨b, 2, none⟩ = some v2 ∧ w.cell? ⟨b, 3, none⟩ = some v3 ∧ ∀ j, w.frozen? ⟨b, j, none⟩ = false :=
  ⟨cell_of_row _ _ 0 _ _ _ h, cell_of_row _ _ 1 _ _ _ h, cell_of_row _ _ 2 _ _ _ h, cell_of_row _ _ 3 _ _ _ h, fun _ => frozen_of_row _ _ _ _ _ h⟩
theorem box_below' {w w' : World} {b : Nat} {o : Obj} (h : w.heap[b]? = some o) (hb : Below w.heap.size w w') : w'.heap[b]? = some o := (hb.block b (Array.getElem?_eq_some_iff.1 h).1).trans h
theorem SysV.below {w0 w w' : World} {g gm cols wid : Nat} {s : Wk × Bool} {hd : Nat → Option HdT} (h : SysV w0 w g gm cols wid s hd) (hb : Below w.heap.size w w') : SysV w0 w' g gm cols wid s hd :=
  ⟨box_below' h.box hb, h.map.below hb, fun c r hc => by obtain ⟨x, h1, h2, h3⟩ := h.rows c r hc; exact ⟨x, h1, h2, h3.below hb⟩, h.free, h.sys, h.base.trans (hb.mono h.base.size), h.gb, h.mb⟩
set_option maxRecDepth 10000 in
set_option maxHeartbeats 1000000 in
theorem newSystem_any (cols wid : Nat) (w : World) :
    Calls Tryd.prog 95 #[.int .i64 (cols : Int), .int .i64 (wid : Int)] w fun x w' => x = .returned (.pointer (some ⟨w.heap.size + 1, 0, none⟩)) ∧ SysV w w' (w.heap.size + 1) w.heap.size cols wid (fun _ => none, false) (fun _ => none) := by
  have hmm := @run_makeMap Tryd.prog
  have h2 := heap_alloc_new (w.alloc (.map #[] 0)) (.cells #[.int .i64 (cols : Int), .int .i64 (wid : Int), .map (some w.heap.size), .bool false] ST)
  rw [World.size_alloc] at h2
  have h1 : SysV w ((w.alloc (.map #[] 0)).alloc (.cells #[.int .i64 (cols : Int), .int .i64 (wid : Int), .map (some w.heap.size), .bool false] ST)) (w.heap.size + 1) w.heap.size cols wid (fun _ => none, false) (fun _ => none) :=
    ⟨h2, by rw [count_none]; exact (mapH_made w).below (below_alloc _ _), fun c r h => (by cases h), fun _ _ => rfl, (says_none cols (cols + wid)).sys, (below_alloc w _).alloc (by simp) _, by omega, Nat.le_refl _⟩
  have H1 := Lib.hid h1
  clear h1 h2
  go_enter Tryd.func95, Tryd.ntmps95
  go_wp2
  go_ret
  exact ⟨rfl, H1.out⟩
end Go.Proofs.YtfjcbgfgiidogaaDoor
namespace Go.Proofs.YtfjcbgfgiidogaaDoor
open Go.RowKit

set_option maxRecDepth 10000 in
set_option maxHeartbeats 1000000 in
theorem full_any (w0 w : World) (g gm cols wid : Nat) (s : Wk × Bool) (hd : Nat → Option HdT) (h : SysV w0 w g gm cols wid s hd) :
    Calls Tryd.prog 96 #[.pointer (some ⟨g, 0, none⟩)] w fun x w' => x = .returned (.bool (decide (count s.1 cols = cols))) ∧ Below w.heap.size w w' := by
  obtain ⟨D, hown, hs, hR⟩ := h.map
  have hlen : ∀ (m : Nat) ty, (Builtin.len_ #[138] ty #[.map (some gm)]).run Tryd.prog (w.drewN m) = .ok (.int .i64 ((count s.1 cols : Nat) : Int)) (w.drewN m) := fun m ty => by
    have h1 : (w.drewN m).ownsMap Tryd.prog 3 hdElem gm (count s.1 cols) D := hown.kept (grownBy_of_below (below_drewN (Below.refl _ _) m) none) (by simp)
    have := h1.len Tryd.underlying138 ty
    rw [hs] at this
    exact this
  have hlen0 := hlen 0
  have hb := h.box
  unfold ST at hb
  obtain ⟨p0, p1, p2, p3, pF⟩ := box4_cells hb
  clear hown hs hR hb h
  obtain ⟨n, hn⟩ : ∃ n, n = count s.1 cols := ⟨_, rfl⟩
  rw [← hn] at hlen hlen0 ⊢
  clear hn
  go_enter Tryd.func96, Tryd.ntmps96
  go_wp2
  go_quiet (fail)
  go_wp2
  go_ret
  refine ⟨?_, below_drewN (Below.refl _ _) nq⟩
  have : decide (n = cols) = ((n : Int) == (cols : Int)) := by rw [Bool.eq_iff_iff, decide_eq_true_iff, beq_iff_eq]; omega
  rw [this]
  rfl

/-- block q holds no cells. -/
def NoCells (w : World) (q : Nat) : Prop := ∀ cs T fr, w.heap[q]? ≠ some (.cells cs T fr)
theorem cell_ne {w : World} {b o q : Nat} {v : Value} (h : w.cell? ⟨b, o, none⟩ = some v) (hq : NoCells w q) : b ≠ q := by
  intro e
  subst e
  unfold World.cell? at h
  cases hh : w.heap[b]? with
  | none => rw [hh] at h; simp at h
  | some ob =>
    cases ob with
    | cells cs T fr => exact hq cs T fr hh
    | _ => rw [hh] at h; simp at h
theorem RowV.keptQ {w w' : World} {ad : Option Addr} {n q : Nat} {vs : List Value} (h : RowV w ad n vs) (hg : w.grownBy w' (some q)) (hq : NoCells w q) : RowV w' ad n vs :=
  h.kept' fun hl a ha => by
    obtain ⟨b, off, e, hc⟩ := h.2 hl
    have h0 := hc 0 hl
    rw [List.getElem?_eq_getElem (by rw [h.1]; exact hl)] at h0
    rw [e] at ha
    cases ha
    exact hg.block b (block_lt_of_cell h0) (fun e2 => cell_ne h0 hq (by injection e2))
theorem BytesV.keptQ {w w' : World} {x : HdT} {l : List Nat} {q : Nat} (h : BytesV w x l) (hg : w.grownBy w' (some q)) (hq : NoCells w q) : BytesV w' x l := ⟨h.row.keptQ hg hq, h.bytes, h.small, h.cap, h.nil⟩
theorem MapH.noCells {w : World} {b : Nat} {f : Nat → Option HdT} {cnt : Nat} (h : MapH w b f cnt) : NoCells w b := by
  obtain ⟨D, ⟨es, clock, hb, _⟩, _⟩ := h
  intro cs T fr e
  rw [hb] at e
  cases e
theorem RangeH.noCells {w : World} {b r : Nat} {f : Nat → Option HdT} {left : Nat → Bool} {cnt m : Nat} (h : RangeH w b r f left cnt m) : NoCells w r := by
  obtain ⟨D, lf, ⟨es, clock, since, seen, c0, hb, _, _, _, hr, _⟩, _⟩ := h
  intro cs T fr e
  rw [hr] at e
  cases e
/-- the equations' slices. -/
def RowsOK (w : World) (f : Wk) (hd : Nat → Option HdT) (L : Nat) : Prop := (∀ c r, f c = some r → ∃ x, hd c = some x ∧ x.2.1 = L ∧ BytesV w x r) ∧ ∀ c, f c = none → hd c = none
theorem RowsOK.at {w : World} {f : Wk} {hd : Nat → Option HdT} {L : Nat} (h : RowsOK w f hd L) {c : Nat} {x : HdT} (hc : hd c = some x) : ∃ r, f c = some r ∧ x.2.1 = L ∧ BytesV w x r := by
  cases e : f c with
  | none => rw [h.2 c e] at hc; cases hc
  | some r =>
    obtain ⟨y, h1, h2, h3⟩ := h.1 c r e
    rw [hc] at h1
    injection h1 with h1
    subst h1
    exact ⟨r, rfl, h2, h3⟩
theorem RowsOK.below {w w' : World} {f : Wk} {hd : Nat → Option HdT} {L : Nat} (h : RowsOK w f hd L) (hb : Below w.heap.size w w') : RowsOK w' f hd L := ⟨fun c r hc => by obtain ⟨x, h1, h2, h3⟩ := h.1 c r hc; exact ⟨x, h1, h2, h3.below hb⟩, h.2⟩
theorem RowsOK.keptQ {w w' : World} {f : Wk} {hd : Nat → Option HdT} {L q : Nat} (h : RowsOK w f hd L) (hg : w.grownBy w' (some q)) (hq : NoCells w q) : RowsOK w' f hd L := ⟨fun c r hc => by obtain ⟨x, h1, h2, h3⟩ := h.1 c r hc; exact ⟨x, h1, h2, h3.keptQ hg hq⟩, h.2⟩
theorem RowsOK.isSome {w : World} {f : Wk} {hd : Nat → Option HdT} {L : Nat} (h : RowsOK w f hd L) (c : Nat) : (hd c).isSome = (f c).isSome := by
  cases e : f c with
  | none => rw [h.2 c e]; rfl
  | some r => obtain ⟨x, h1, _⟩ := h.1 c r e; rw [h1]; rfl
theorem box_keptQ {w w' : World} {b q : Nat} {cs : Array Value} {T : TypeId} {fr : Nat × Nat} (h : w.heap[b]? = some (.cells cs T fr)) (hg : w.grownBy w' (some q)) (hq : NoCells w q) : w'.heap[b]? = some (.cells cs T fr) :=
  (hg.block b (Array.getElem?_eq_some_iff.1 h).1 (fun e => by injection e with e; subst e; exact hq _ _ _ h)).trans h
theorem grown_none {w w' : World} (h : w.grownBy w' none) : Below w.heap.size w w' := ⟨h.os, h.tape, h.output, h.size, fun b hb => h.block b hb (by simp)⟩

/-- what the first loop has cleared. -/
def seenP (f : Wk) (left : Nat → Bool) (c : Nat) : Bool := (f c).isSome && !left c
theorem seenP_step {cols L : Nat} {f : Wk} (h : Sys cols L f) {eq : List Nat} {left : Nat → Bool} {x : Nat} {r : List Nat} (hx : f x = some r) (hl : left x = true) (hL : cols ≤ eq.length) :
    addTo (clr f eq (seenP f left) cols) ((clr f eq (seenP f left) cols).getD x 0) r = clr f eq (seenP f (fun z => left z && !(z == x))) cols := by
  rw [clr_step h hx (by unfold seenP; rw [hl]; simp) (fun c hc => by unfold seenP at hc; simp only [Bool.and_eq_true] at hc; exact Option.isSome_iff_exists.1 hc.1) hL]
  apply clr_congr
  intro c _
  unfold seenP
  by_cases e : c = x
  · subst e; simp [hx]
  · have : (c == x) = false := by simpa using e
    simp [this]
theorem seenP_start (f : Wk) (eq : List Nat) (hd : Nat → Option HdT) (h : ∀ c, (hd c).isSome = (f c).isSome) (n : Nat) : clr f eq (seenP f (fun c => (hd c).isSome)) n = eq :=
  clr_none _ _ _ _ fun c => by unfold seenP; simp only [h]; simp
theorem seenP_end (f : Wk) (eq : List Nat) (left : Nat → Bool) (h : ∀ c, left c = false) (n : Nat) : clr f eq (seenP f left) n = clrAll f eq n :=
  clr_congr _ _ _ fun c _ => by unfold seenP; rw [h]; simp
/-- what the second loop has cleared. -/
def f2 (f : Wk) (l : Nat) (e : List Nat) (left : Nat → Bool) : Wk := fun c => (f c).map fun r => if left c then r else addTo r (r.getD l 0) e
end Go.Proofs.YtfjcbgfgiidogaaDoor
