/-
  The field of 256 elements in plain numbers: doubling, products, powers, logarithms; no Go in sight.
-/
namespace Go.Proofs.Ytnefcbcioemfiaa

def dbl (a : Nat) : Nat := if a < 128 then 2 * a else (2 * a % 256) ^^^ 29
def bit (b i : Nat) : Nat := b / 2 ^ i % 2
/-- doubled n times. -/
def dblN (a : Nat) : Nat → Nat
  | 0 => a
  | n + 1 => dbl (dblN a n)
/-- the product by the first k bits of b. -/
def mulTo (a b : Nat) : Nat → Nat
  | 0 => 0
  | k + 1 => if bit b k = 1 then mulTo a b k ^^^ dblN a k else mulTo a b k
def mul (a b : Nat) : Nat := mulTo a b 8
def pw (n : Nat) : Nat := dblN 1 n
/-- the first place from k on at which doubling cur comes to a. -/
def lgF (a : Nat) : Nat → Nat → Nat → Nat
  | 0, _, k => k
  | f + 1, cur, k => if cur = a then k else lgF a f (dbl cur) (k + 1)
def lg (a : Nat) : Nat := lgF a 255 1 0
def inv (a : Nat) : Nat := pw ((255 - lg a) % 255)

def allLT (p : Nat → Bool) : Nat → Bool
  | 0 => true
  | n + 1 => p n && allLT p n
theorem allLT_at {p : Nat → Bool} : ∀ {n : Nat}, allLT p n = true → ∀ k, k < n → p k = true
  | 0, _, _, h => absurd h (Nat.not_lt_zero _)
  | n + 1, h, k, hk => by
    simp only [allLT, Bool.and_eq_true] at h
    by_cases e : k = n
    · rw [e]; exact h.1
    · exact allLT_at h.2 k (by omega)
theorem all2 {p : Nat → Nat → Bool} {n m : Nat} (h : allLT (fun a => allLT (p a) m) n = true) : ∀ a, a < n → ∀ b, b < m → p a b = true :=
  fun a ha b hb => allLT_at (allLT_at h a ha) b hb

theorem xor_lt {a b : Nat} (ha : a < 256) (hb : b < 256) : a ^^^ b < 256 := Nat.xor_lt_two_pow (n := 8) ha hb
theorem dbl_lt {a : Nat} (h : a < 256) : dbl a < 256 := by
  unfold dbl
  split
  · omega
  · exact xor_lt (by omega) (by omega)
theorem dblN_lt {a : Nat} (h : a < 256) : ∀ n, dblN a n < 256
  | 0 => h
  | n + 1 => dbl_lt (dblN_lt h n)
theorem mulTo_lt {a b : Nat} (ha : a < 256) : ∀ k, mulTo a b k < 256
  | 0 => by simp [mulTo]
  | k + 1 => by
    have h := mulTo_lt ha (b := b) k
    simp only [mulTo]
    split
    · exact xor_lt h (dblN_lt ha k)
    · exact h
theorem mul_lt {a b : Nat} (ha : a < 256) : mul a b < 256 := mulTo_lt ha 8
theorem pw_lt (n : Nat) : pw n < 256 := dblN_lt (by decide) n

theorem dbl_xor {a b : Nat} (ha : a < 256) (hb : b < 256) : dbl (a ^^^ b) = dbl a ^^^ dbl b := by
  have h : allLT (fun a => allLT (fun b => Nat.beq (dbl (Nat.xor a b)) (Nat.xor (dbl a) (dbl b))) 256) 256 = true := by decide +kernel
  exact Nat.eq_of_beq_eq_true (all2 h a ha b hb)
theorem dblN_dbl (a : Nat) : ∀ n, dblN (dbl a) n = dbl (dblN a n)
  | 0 => rfl
  | n + 1 => by simp only [dblN]; rw [dblN_dbl a n]
theorem dblN_add (a n : Nat) : ∀ m, dblN a (n + m) = dblN (dblN a n) m
  | 0 => rfl
  | m + 1 => by show dbl (dblN a (n + m)) = _; rw [dblN_add a n m]; rfl
theorem dblN_xor {a b : Nat} (ha : a < 256) (hb : b < 256) : ∀ n, dblN (a ^^^ b) n = dblN a n ^^^ dblN b n
  | 0 => rfl
  | n + 1 => by simp only [dblN]; rw [dblN_xor ha hb n, dbl_xor (dblN_lt ha n) (dblN_lt hb n)]
theorem mulTo_dbl {a b : Nat} (ha : a < 256) : ∀ k, mulTo (dbl a) b k = dbl (mulTo a b k)
  | 0 => by simp [mulTo, dbl]
  | k + 1 => by
    simp only [mulTo]
    rw [mulTo_dbl ha k, dblN_dbl]
    split
    · rw [dbl_xor (mulTo_lt ha k) (dblN_lt ha k)]
    · rfl
theorem mul_dbl {a b : Nat} (ha : a < 256) : mul (dbl a) b = dbl (mul a b) := mulTo_dbl ha 8
theorem one_mul {b : Nat} (hb : b < 256) : mul 1 b = b := by
  have h : allLT (fun b => Nat.beq (mul 1 b) b) 256 = true := by decide +kernel
  exact Nat.eq_of_beq_eq_true (allLT_at h b hb)
theorem dblN_mul {a b : Nat} (ha : a < 256) : ∀ n, mul (dblN a n) b = dblN (mul a b) n
  | 0 => rfl
  | n + 1 => by simp only [dblN]; rw [mul_dbl (dblN_lt ha n), dblN_mul ha n]
theorem pw_mul {b : Nat} (n : Nat) (hb : b < 256) : mul (pw n) b = dblN b n := by
  unfold pw; rw [dblN_mul (by decide), one_mul hb]
theorem pw_add (n m : Nat) : mul (pw n) (pw m) = pw (n + m) := by
  rw [pw_mul n (pw_lt m), Nat.add_comm]; exact (dblN_add 1 m n).symm
theorem pw_255 : pw 255 = 1 := by decide +kernel
theorem dblN_255 {b : Nat} (hb : b < 256) : dblN b 255 = b := by rw [← pw_mul 255 hb, pw_255, one_mul hb]
theorem pw_mod (n : Nat) : pw n = pw (n % 255) := by
  have h : ∀ q r, pw (255 * q + r) = pw r := by
    intro q
    induction q with
    | zero => intro r; simp
    | succ q ih => intro r; rw [show 255 * (q + 1) + r = 255 * q + r + 255 by omega]; unfold pw; rw [dblN_add, dblN_255 (dblN_lt (by decide) _)]; exact ih r
  conv => lhs; rw [← Nat.div_add_mod n 255]
  exact h _ _
theorem lg_pw {n : Nat} (h : n < 255) : lg (pw n) = n := by
  have h' : allLT (fun n => Nat.beq (lg (pw n)) n) 255 = true := by decide +kernel
  exact Nat.eq_of_beq_eq_true (allLT_at h' n h)
theorem lg_at {a : Nat} (h : a < 255) : pw (lg (a + 1)) = a + 1 ∧ lg (a + 1) < 255 := by
  have h' : allLT (fun a => Nat.beq (pw (lg (Nat.succ a))) (Nat.succ a) && Nat.blt (lg (Nat.succ a)) 255) 255 = true := by decide +kernel
  have := allLT_at h' a h
  simp only [Bool.and_eq_true] at this
  exact ⟨Nat.eq_of_beq_eq_true this.1, by simpa [Nat.blt_eq] using this.2⟩
theorem pw_lg {a : Nat} (h : a < 256) (h0 : a ≠ 0) : pw (lg a) = a := by
  have := lg_at (a := a - 1) (by omega); rw [show a - 1 + 1 = a by omega] at this; exact this.1
theorem lg_lt {a : Nat} (h : a < 256) (h0 : a ≠ 0) : lg a < 255 := by
  have := lg_at (a := a - 1) (by omega); rw [show a - 1 + 1 = a by omega] at this; exact this.2
theorem pw_inj {n m : Nat} (hn : n < 255) (hm : m < 255) (h : pw n = pw m) : n = m := by
  rw [← lg_pw hn, ← lg_pw hm, h]
theorem pw_ne (n : Nat) : pw n ≠ 0 := by
  rw [pw_mod]
  have h' : allLT (fun n => !Nat.beq (pw n) 0) 255 = true := by decide +kernel
  have := allLT_at h' (n % 255) (Nat.mod_lt _ (by decide))
  intro e
  rw [e] at this
  exact absurd this (by decide)
theorem mul_zero (a : Nat) : mul a 0 = 0 := by simp [mul, mulTo, bit]
theorem dblN_zero : ∀ n, dblN 0 n = 0
  | 0 => rfl
  | n + 1 => by simp [dblN, dblN_zero n, dbl]
theorem zero_mulTo (b : Nat) : ∀ k, mulTo 0 b k = 0
  | 0 => rfl
  | k + 1 => by simp [mulTo, zero_mulTo b k, dblN_zero]
theorem zero_mul (b : Nat) : mul 0 b = 0 := zero_mulTo b 8
theorem mul_pos {a b : Nat} (ha : a < 256) (hb : b < 256) (a0 : a ≠ 0) (b0 : b ≠ 0) : mul a b = pw ((lg a + lg b) % 255) := by
  conv => lhs; rw [← pw_lg ha a0, ← pw_lg hb b0]
  rw [pw_add, pw_mod]
theorem mul_comm {a b : Nat} (ha : a < 256) (hb : b < 256) : mul a b = mul b a := by
  by_cases a0 : a = 0
  · subst a0; rw [zero_mul, mul_zero]
  by_cases b0 : b = 0
  · subst b0; rw [zero_mul, mul_zero]
  rw [mul_pos ha hb a0 b0, mul_pos hb ha b0 a0, Nat.add_comm]
theorem mul_one {a : Nat} (ha : a < 256) : mul a 1 = a := by rw [mul_comm ha (by decide), one_mul ha]
theorem mul_ne {a b : Nat} (ha : a < 256) (hb : b < 256) (a0 : a ≠ 0) (b0 : b ≠ 0) : mul a b ≠ 0 := by
  rw [mul_pos ha hb a0 b0]; exact pw_ne _
theorem lg_mul {a b : Nat} (ha : a < 256) (hb : b < 256) (a0 : a ≠ 0) (b0 : b ≠ 0) : lg (mul a b) = (lg a + lg b) % 255 := by
  rw [mul_pos ha hb a0 b0, lg_pw (Nat.mod_lt _ (by decide))]
theorem mul_assoc {a b c : Nat} (ha : a < 256) (hb : b < 256) (hc : c < 256) : mul (mul a b) c = mul a (mul b c) := by
  by_cases a0 : a = 0
  · subst a0; rw [zero_mul, zero_mul, zero_mul]
  by_cases b0 : b = 0
  · subst b0; rw [mul_zero, zero_mul, mul_zero]
  by_cases c0 : c = 0
  · subst c0; rw [mul_zero, mul_zero, mul_zero]
  rw [mul_pos (mul_lt ha) hc (mul_ne ha hb a0 b0) c0, mul_pos ha (mul_lt hb) a0 (mul_ne hb hc b0 c0), lg_mul ha hb a0 b0, lg_mul hb hc b0 c0]
  congr 1; omega
theorem mulTo_xor {a b : Nat} (ha : a < 256) (hb : b < 256) (c : Nat) : ∀ k, mulTo (a ^^^ b) c k = mulTo a c k ^^^ mulTo b c k
  | 0 => by simp [mulTo]
  | k + 1 => by
    simp only [mulTo]
    split
    · rw [mulTo_xor ha hb c k, dblN_xor ha hb, Nat.xor_assoc, Nat.xor_assoc, ← Nat.xor_assoc (mulTo b c k), Nat.xor_comm (mulTo b c k) (dblN a k), Nat.xor_assoc]
    · exact mulTo_xor ha hb c k
theorem xor_mul {a b : Nat} (ha : a < 256) (hb : b < 256) (c : Nat) : mul (a ^^^ b) c = mul a c ^^^ mul b c := mulTo_xor ha hb c 8
theorem mul_xor {a b c : Nat} (ha : a < 256) (hb : b < 256) (hc : c < 256) : mul a (b ^^^ c) = mul a b ^^^ mul a c := by
  rw [mul_comm ha (xor_lt hb hc), xor_mul hb hc, mul_comm hb ha, mul_comm hc ha]
theorem inv_lt (a : Nat) : inv a < 256 := pw_lt _
theorem inv_ne (a : Nat) : inv a ≠ 0 := pw_ne _
theorem mul_inv {a : Nat} (ha : a < 256) (a0 : a ≠ 0) : mul a (inv a) = 1 := by
  have h : mul (pw (lg a)) (inv a) = 1 := by
    unfold inv
    rw [pw_add, pw_mod]
    have := lg_lt ha a0
    rw [show (lg a + (255 - lg a) % 255) % 255 = 0 by omega]
    rfl
  rwa [pw_lg ha a0] at h
theorem mul_cancel {a b c : Nat} (ha : a < 256) (hb : b < 256) (hc : c < 256) (a0 : a ≠ 0) (h : mul a b = mul a c) : b = c := by
  have e : mul (inv a) (mul a b) = mul (inv a) (mul a c) := by rw [h]
  rw [← mul_assoc (inv_lt a) ha hb, ← mul_assoc (inv_lt a) ha hc, mul_comm (inv_lt a) ha, mul_inv ha a0, one_mul hb, one_mul hc] at e
  exact e
theorem inv_only {a b : Nat} (ha : a < 256) (hb : b < 256) (h : mul a b = 1) : b = inv a := by
  have a0 : a ≠ 0 := by intro e; subst e; rw [zero_mul] at h; exact absurd h (by decide)
  exact mul_cancel ha hb (inv_lt a) a0 (by rw [h, mul_inv ha a0])
theorem inv_mul {a b : Nat} (ha : a < 256) (hb : b < 256) (a0 : a ≠ 0) (b0 : b ≠ 0) : mul (inv a) (inv b) = inv (mul a b) := by
  apply inv_only (mul_lt ha) (mul_lt (inv_lt a))
  rw [mul_assoc ha hb (mul_lt (inv_lt a)), mul_comm (inv_lt a) (inv_lt b), ← mul_assoc hb (inv_lt b) (inv_lt a), mul_inv hb b0, one_mul (inv_lt a), mul_inv ha a0]
theorem inv_inv {a : Nat} (ha : a < 256) (a0 : a ≠ 0) : inv (inv a) = a :=
  (inv_only (inv_lt a) ha (by rw [mul_comm (inv_lt a) ha, mul_inv ha a0])).symm

theorem mul_16 {h : Nat} (hh : h < 16) : mul 16 h = 16 * h := by
  have h' : allLT (fun h => Nat.beq (mul 16 h) (16 * h)) 16 = true := by decide +kernel
  exact Nat.eq_of_beq_eq_true (allLT_at h' h hh)
theorem split_16 {y : Nat} (hy : y < 256) : y = (y % 16) ^^^ (16 * (y / 16)) := by
  have h' : allLT (fun y => Nat.beq y (Nat.xor (y % 16) (16 * (y / 16)))) 256 = true := by decide +kernel
  exact Nat.eq_of_beq_eq_true (allLT_at h' y hy)
theorem mul_halves {k y : Nat} (hk : k < 256) (hy : y < 256) : mul k (y % 16) ^^^ mul (mul k 16) (y / 16) = mul k y := by
  rw [mul_assoc hk (by decide) (by omega), mul_16 (by omega), ← mul_xor hk (by omega) (by omega), ← split_16 hy]

/-- the reference's product: a long multiplication, .. -/
def longTo (a b : Nat) : Nat → Nat
  | 0 => 0
  | k + 1 => if bit b k = 1 then longTo a b k ^^^ (a * 2 ^ k) else longTo a b k
/-- .. and one step of the remainder, for the bit i. -/
def redAt (i s : Nat) : Nat := if bit s i = 1 then s ^^^ (285 * 2 ^ (i - 8)) else s
def red (s : Nat) : Nat := redAt 8 (redAt 9 (redAt 10 (redAt 11 (redAt 12 (redAt 13 (redAt 14 s))))))
theorem bit_xor (s t i : Nat) : bit (s ^^^ t) i = (bit s i + bit t i) % 2 := by
  have h : ∀ n, bit n i = (n.testBit i).toNat := fun n => (Nat.toNat_testBit n i).symm
  rw [h, h, h, Nat.testBit_xor]
  cases s.testBit i <;> cases t.testBit i <;> rfl
theorem bit_two (s i : Nat) : bit s i = 0 ∨ bit s i = 1 := by unfold bit; omega
theorem redAt_xor (i s t : Nat) : redAt i (s ^^^ t) = redAt i s ^^^ redAt i t := by
  unfold redAt
  rw [bit_xor]
  rcases bit_two s i with hs | hs <;> rcases bit_two t i with ht | ht <;> simp only [hs, ht] <;> simp
  · rw [Nat.xor_assoc]
  · rw [Nat.xor_assoc, Nat.xor_assoc, Nat.xor_comm t]
  · rw [Nat.xor_assoc s, Nat.xor_comm _ (t ^^^ _), Nat.xor_assoc t, Nat.xor_self, Nat.xor_zero]
theorem red_xor (s t : Nat) : red (s ^^^ t) = red s ^^^ red t := by
  unfold red; simp only [redAt_xor]
theorem red_dbl {a k : Nat} (ha : a < 256) (hk : k < 8) : red (a * 2 ^ k) = dblN a k := by
  have h : allLT (fun a => allLT (fun k => Nat.beq (red (Nat.mul a (Nat.pow 2 k))) (dblN a k)) 8) 256 = true := by decide +kernel
  exact Nat.eq_of_beq_eq_true (all2 h a ha k hk)
theorem red_long {a b : Nat} (ha : a < 256) : ∀ k, k ≤ 8 → red (longTo a b k) = mulTo a b k
  | 0, _ => by simp [longTo, mulTo, red, redAt, bit]
  | k + 1, h => by
    simp only [longTo, mulTo]
    split
    · rw [red_xor, red_long ha k (by omega), red_dbl ha (by omega)]
    · exact red_long ha k (by omega)
theorem red_mul {a : Nat} (ha : a < 256) (b : Nat) : red (longTo a b 8) = mul a b := red_long ha 8 (Nat.le_refl _)
theorem longTo_lt {a b : Nat} (ha : a < 256) : ∀ k, k ≤ 8 → longTo a b k < 2 ^ (8 + k)
  | 0, _ => by simp [longTo]
  | k + 1, h => by
    have ih := longTo_lt ha (b := b) k (by omega)
    have hp : 2 ^ (8 + (k + 1)) = 2 * 2 ^ (8 + k) := by rw [show 8 + (k + 1) = (8 + k) + 1 by omega, Nat.pow_succ]; omega
    simp only [longTo]
    split
    · refine Nat.xor_lt_two_pow (by omega) ?_
      rw [hp, Nat.pow_add]
      have : a * 2 ^ k < 2 ^ 8 * 2 ^ k := Nat.mul_lt_mul_of_pos_right (by omega) (Nat.two_pow_pos k)
      omega
    · omega
theorem redAt_lt {i s : Nat} (hi : i < 15) (h8 : 8 ≤ i) (hs : s < 2 ^ 16) : redAt i s < 2 ^ 16 := by
  unfold redAt
  split
  · refine Nat.xor_lt_two_pow hs ?_
    have : 2 ^ (i - 8) ≤ 2 ^ 6 := Nat.pow_le_pow_right (by decide) (by omega)
    omega
  · exact hs
/-- n steps of the remainder, from the bit 14 down. -/
def redN (s : Nat) : Nat → Nat
  | 0 => s
  | n + 1 => redAt (14 - n) (redN s n)
theorem redN_red (s : Nat) : redN s 7 = red s := rfl
theorem redN_lt {s : Nat} (hs : s < 2 ^ 16) : ∀ n, n ≤ 7 → redN s n < 2 ^ 16
  | 0, _ => hs
  | n + 1, h => redAt_lt (by omega) (by omega) (redN_lt hs n (by omega))
theorem mul_two {x : Nat} (hx : x < 256) : mul x 2 = dbl x := by
  rw [mul_comm hx (by decide), show (2 : Nat) = dbl 1 from rfl, mul_dbl (by decide), one_mul hx]

end Go.Proofs.Ytnefcbcioemfiaa
