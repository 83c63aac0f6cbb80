/-
  The numbers of a block's code in plain numbers: primes, the code's numbers; no Go in sight.
-/
namespace Go.Proofs.YtlmnijcocfjpoaaDoor

theorem bltI {a b : Nat} : Nat.blt a b = true ↔ a < b := by rw [Nat.blt_eq]
theorem bleI {a b : Nat} : Nat.ble a b = true ↔ a ≤ b := by rw [Nat.ble_eq]

def pr (n : Nat) : Bool := Nat.blt 1 n && (List.range n).all fun e => Nat.blt e 2 || !Nat.beq (n % e) 0
def pfF : Nat → Nat → Nat
  | 0, n => n
  | f + 1, n => if pr n then n else pfF f (n + 1)
def pfrom (n : Nat) : Nat := pfF 64 n
def puF : Nat → Nat → Nat
  | 0, n => n
  | f + 1, n => if pr n then n else puF f (n - 1)
def pup (n : Nat) : Nat := puF 64 n

theorem allR {p : Nat → Bool} {n : Nat} (h : (List.range n).all p = true) (k : Nat) (hk : k < n) : p k = true := List.all_eq_true.1 h k (by simpa using hk)

/-- no divisor below d, and d * d is more: just whether n is more than 1. -/
theorem pr_exit {n d : Nat} (hn : n < 64) (hd : d < 10) (h2 : 2 ≤ d) (hdd : n < d * d) (h : ∀ e, 2 ≤ e → e < d → n % e ≠ 0) : pr n = decide (1 < n) := by
  have key : (List.range 64).all (fun n => (List.range 10).all fun d => !Nat.blt n (d * d) || Nat.blt d 2 || (List.range d).any (fun e => !Nat.blt e 2 && Nat.beq (n % e) 0) || (pr n == Nat.blt 1 n)) = true := by decide +kernel
  have k1 := allR (allR key n hn) d hd
  simp only [Bool.or_eq_true, Bool.not_eq_true'] at k1
  rcases k1 with ((k1 | k1) | k1) | k1
  · exact absurd (bltI.2 hdd) (by rw [k1]; decide)
  · have : d < 2 := bltI.1 k1; omega
  · obtain ⟨e, he, h1⟩ := List.any_eq_true.1 k1
    simp only [Bool.and_eq_true, Bool.not_eq_true'] at h1
    have e2 : ¬ e < 2 := by intro h; have := bltI.2 h; rw [h1.1] at this; cases this
    exact absurd (Nat.eq_of_beq_eq_true h1.2) (h e (by omega) (by simpa using he))
  · rw [eq_of_beq k1]
    by_cases h1 : 1 < n
    · rw [bltI.2 h1, decide_eq_true h1]
    · rw [decide_eq_false h1]
      cases hb : Nat.blt 1 n with
      | false => rfl
      | true => exact absurd (bltI.1 hb) h1
/-- a divisor. -/
theorem pr_div {n d : Nat} (h2 : 2 ≤ d) (hd : d * d ≤ n) (h : n % d = 0) : pr n = false := by
  have hlt : d < n := by
    have : d * 2 ≤ d * d := Nat.mul_le_mul_left d h2
    omega
  cases hp : pr n with
  | false => rfl
  | true =>
    simp only [pr, Bool.and_eq_true] at hp
    have := allR hp.2 d hlt
    simp only [Bool.or_eq_true] at this
    rcases this with h1 | h1
    · have := bltI.1 h1; omega
    · rw [h] at h1; cases h1

theorem pfrom_facts {n : Nat} (hn : n < 60) : n ≤ pfrom n ∧ pfrom n < 64 ∧ pr (pfrom n) = true ∧ ∀ m, n ≤ m → m < pfrom n → pr m = false := by
  have key : (List.range 60).all (fun n => Nat.ble n (pfrom n) && Nat.blt (pfrom n) 64 && pr (pfrom n) && (List.range 64).all fun m => Nat.blt m n || !Nat.blt m (pfrom n) || !pr m) = true := by decide +kernel
  have k1 := allR key n hn
  simp only [Bool.and_eq_true] at k1
  refine ⟨Nat.le_of_ble_eq_true k1.1.1.1, bltI.1 k1.1.1.2, k1.1.2, fun m h1 h2 => ?_⟩
  have h64 : pfrom n < 64 := bltI.1 k1.1.1.2
  have k2 := allR k1.2 m (by omega)
  simp only [Bool.or_eq_true, Bool.not_eq_true'] at k2
  rcases k2 with (k2 | k2) | k2
  · have := bltI.1 k2; omega
  · rw [bltI.2 h2] at k2; cases k2
  · exact k2
theorem pup_facts {n : Nat} (h2 : 2 ≤ n) (hn : n < 60) : pup n ≤ n ∧ 2 ≤ pup n ∧ pr (pup n) = true ∧ ∀ m, pup n < m → m ≤ n → pr m = false := by
  have key : (List.range 60).all (fun n => Nat.blt n 2 || (Nat.ble (pup n) n && Nat.ble 2 (pup n) && pr (pup n) && (List.range 64).all fun m => !Nat.ble m n || !Nat.blt (pup n) m || !pr m)) = true := by decide +kernel
  have k1 := allR key n hn
  simp only [Bool.or_eq_true, Bool.and_eq_true] at k1
  rcases k1 with k1 | k1
  · have := bltI.1 k1; omega
  refine ⟨Nat.le_of_ble_eq_true k1.1.1.1, Nat.le_of_ble_eq_true k1.1.1.2, k1.1.2, fun m h1 h3 => ?_⟩
  have k2 := allR k1.2 m (by omega)
  simp only [Bool.or_eq_true, Bool.not_eq_true'] at k2
  rcases k2 with (k2 | k2) | k2
  · rw [bleI.2 h3] at k2; cases k2
  · rw [bltI.2 h1] at k2; cases k2
  · exact k2

/-- the code's numbers -/
def cKp (k : Nat) : Nat := (k + 3) / 4 * 4
def cS (k : Nat) : Nat := pfrom (2 + cKp k / 4)
def cL (k : Nat) : Nat := cKp k + cS k + 4
def cW (k : Nat) : Nat := pup (cKp k + cS k)
def cP (k : Nat) : Nat := cL k - cW k
def cP1 (k : Nat) : Nat := pfrom (cP k)
def cB (k : Nat) : Nat := cW k - cS k
def cJ (k : Nat) : Nat := if cKp k = 4 then 2 else 0
theorem code_facts {k : Nat} (h1 : 1 ≤ k) (hk : k ≤ 32) : 4 ≤ cKp k ∧ cKp k ≤ 32 ∧ cKp k < k + 4 ∧ k ≤ cKp k ∧ 3 ≤ cS k ∧ cS k ≤ 11 ∧ cW k ≤ cKp k + cS k ∧ 7 ≤ cW k ∧ cS k < cW k ∧ 4 ≤ cP k ∧ cP k ≤ 20 ∧ cP k ≤ cP1 k ∧ cP1 k ≤ 23 ∧ cP k + cW k = cL k := by
  have key : (List.range 33).all (fun k => Nat.blt k 1 || (Nat.ble 4 (cKp k) && Nat.ble (cKp k) 32 && Nat.blt (cKp k) (k + 4) && Nat.ble k (cKp k) && Nat.ble 3 (cS k) && Nat.ble (cS k) 11 && Nat.ble (cW k) (cKp k + cS k) && Nat.ble 7 (cW k) && Nat.blt (cS k) (cW k) && Nat.ble 4 (cP k) && Nat.ble (cP k) 20 && Nat.ble (cP k) (cP1 k) && Nat.ble (cP1 k) 23 && Nat.beq (cP k + cW k) (cL k))) = true := by decide +kernel
  have k1 := allR key k (by omega)
  simp only [Bool.or_eq_true, Bool.and_eq_true] at k1
  rcases k1 with k1 | ⟨⟨⟨⟨⟨⟨⟨⟨⟨⟨⟨⟨⟨a, b⟩, c⟩, d⟩, e⟩, f⟩, g⟩, h⟩, i⟩, j⟩, l⟩, m⟩, n⟩, o⟩
  · have := bltI.1 k1; omega
  exact ⟨Nat.le_of_ble_eq_true a, Nat.le_of_ble_eq_true b, bltI.1 c, Nat.le_of_ble_eq_true d, Nat.le_of_ble_eq_true e, Nat.le_of_ble_eq_true f, Nat.le_of_ble_eq_true g, Nat.le_of_ble_eq_true h, bltI.1 i, Nat.le_of_ble_eq_true j, Nat.le_of_ble_eq_true l, Nat.le_of_ble_eq_true m, Nat.le_of_ble_eq_true n, Nat.eq_of_beq_eq_true o⟩

end Go.Proofs.YtlmnijcocfjpoaaDoor
