/-
  lin: plain mathematics: sums over the field, rows as functionals.
-/
import Derived.Test.YtgnnfpnkhemimaaMem
namespace Go.Proofs.Ytgnnfpnkhemimaa

def xsum (f : Nat → Nat) : Nat → Nat
  | 0 => 0
  | k + 1 => xsum f k ^^^ f k
theorem xsum_lt {f : Nat → Nat} (h : ∀ j, f j < 256) : ∀ n, xsum f n < 256
  | 0 => by simp [xsum]
  | k + 1 => xor_lt (xsum_lt h k) (h k)
theorem xsum_congr {f g : Nat → Nat} : ∀ {n : Nat}, (∀ j, j < n → f j = g j) → xsum f n = xsum g n
  | 0, _ => rfl
  | k + 1, h => by simp only [xsum]; rw [xsum_congr (fun j hj => h j (by omega)), h k (by omega)]
theorem xsum_zero {f : Nat → Nat} : ∀ {n : Nat}, (∀ j, j < n → f j = 0) → xsum f n = 0
  | 0, _ => rfl
  | k + 1, h => by simp only [xsum]; rw [xsum_zero (fun j hj => h j (by omega)), h k (by omega)]; rfl
theorem xor4 (a b c d : Nat) : (a ^^^ b) ^^^ (c ^^^ d) = (a ^^^ c) ^^^ (b ^^^ d) := by
  rw [Nat.xor_assoc, Nat.xor_assoc, ← Nat.xor_assoc b c d, Nat.xor_comm b c, Nat.xor_assoc c b d]
theorem xsum_xor (f g : Nat → Nat) : ∀ n, xsum (fun j => f j ^^^ g j) n = xsum f n ^^^ xsum g n
  | 0 => by simp [xsum]
  | k + 1 => by simp only [xsum]; rw [xsum_xor f g k, xor4]
theorem mul_xsum {k : Nat} (hk : k < 256) {f : Nat → Nat} (hf : ∀ j, f j < 256) : ∀ n, mul k (xsum f n) = xsum (fun j => mul k (f j)) n
  | 0 => mul_zero k
  | n + 1 => by simp only [xsum]; rw [mul_xor hk (xsum_lt hf n) (hf n), mul_xsum hk hf n]
theorem xsum_one {f : Nat → Nat} {i : Nat} : ∀ {n : Nat}, i < n → (∀ j, j < n → j ≠ i → f j = 0) → xsum f n = f i
  | 0, hi, _ => absurd hi (by omega)
  | n + 1, hi, h => by
    simp only [xsum]
    by_cases e : i = n
    · subst e
      rw [xsum_zero (fun j hj => h j (by omega) (by omega)), Nat.zero_xor]
    · rw [xsum_one (by omega) (fun j hj => h j (by omega)), h n (by omega) (fun e2 => e e2.symm), Nat.xor_zero]
theorem xsum_more {f : Nat → Nat} {n : Nat} : ∀ {m : Nat}, n ≤ m → (∀ j, n ≤ j → j < m → f j = 0) → xsum f m = xsum f n
  | 0, h, _ => by rw [show n = 0 by omega]
  | m + 1, h, hz => by
    by_cases e : n = m + 1
    · rw [e]
    · simp only [xsum]
      rw [hz m (by omega) (by omega), Nat.xor_zero, xsum_more (by omega) (fun j h1 h2 => hz j h1 (by omega))]
theorem xsum_swap (f : Nat → Nat → Nat) (m : Nat) : ∀ n, xsum (fun i => xsum (fun j => f i j) m) n = xsum (fun j => xsum (fun i => f i j) n) m
  | 0 => (xsum_zero (fun _ _ => rfl)).symm
  | n + 1 => by simp only [xsum]; rw [xsum_swap f m n, ← xsum_xor]
theorem xor_eq_zero {a b : Nat} (h : a ^^^ b = 0) : a = b := by
  have := congrArg (· ^^^ b) h
  simpa [Nat.xor_assoc] using this
/-- one more place of a choice. -/
theorem xsum_pick {g : Nat → Nat} {p : Nat → Bool} {x : Nat} : ∀ {n : Nat}, x < n → p x = false → xsum (fun c => if p c || c == x then g c else 0) n = xsum (fun c => if p c then g c else 0) n ^^^ g x := by
  intro n hx hp
  have h1 : xsum (fun c => if c = x then g c else 0) n = g x := by
    rw [xsum_one hx (fun j _ hj => if_neg hj), if_pos rfl]
  rw [← h1, ← xsum_xor]
  apply xsum_congr
  intro j _
  by_cases e : j = x
  · subst e; simp [hp]
  · simp [e]

/-- a row as a functional: its sum with these weights, up to n. -/
def dot (y : Nat → Nat) (r : List Nat) (n : Nat) : Nat := xsum (fun j => mul (y j) (r.getD j 0)) n
theorem dot_lt {y : Nat → Nat} (hy : ∀ j, y j < 256) (r : List Nat) (n : Nat) : dot y r n < 256 := xsum_lt (fun j => mul_lt (hy j)) n
theorem mul_left_comm' {a b c : Nat} (ha : a < 256) (hb : b < 256) (hc : c < 256) : mul a (mul b c) = mul b (mul a c) := by
  rw [← mul_assoc ha hb hc, mul_comm ha hb, mul_assoc hb ha hc]
theorem dot_addTo {y : Nat → Nat} {r v : List Nat} {k n : Nat} (hy : ∀ j, y j < 256) (hr : Bytes r) (hv : Bytes v) (hk : k < 256) (hn : n ≤ r.length) : dot y (addTo r k v) n = dot y r n ^^^ mul k (dot y v n) := by
  unfold dot
  rw [mul_xsum hk (fun j => mul_lt (hy j)) n, ← xsum_xor]
  apply xsum_congr
  intro j hj
  rw [addTo_getD _ _ _ _ (by omega), mul_xor (hy j) (hr.getD j) (mul_lt hk), mul_left_comm' (hy j) hk (hv.getD j)]
theorem dot_congr {y : Nat → Nat} {r v : List Nat} {n : Nat} (h : ∀ j, j < n → r.getD j 0 = v.getD j 0) : dot y r n = dot y v n :=
  xsum_congr fun j hj => by rw [h j hj]
theorem dot_mul {y : Nat → Nat} {r v : List Nat} {k n : Nat} (hy : ∀ j, y j < 256) (hv : Bytes v) (hk : k < 256) (h : ∀ j, j < n → r.getD j 0 = mul k (v.getD j 0)) : dot y r n = mul k (dot y v n) := by
  unfold dot
  rw [mul_xsum hk (fun j => mul_lt (hy j)) n]
  apply xsum_congr
  intro j hj
  rw [h j hj, mul_left_comm' (hy j) hk (hv.getD j)]
end Go.Proofs.Ytgnnfpnkhemimaa
