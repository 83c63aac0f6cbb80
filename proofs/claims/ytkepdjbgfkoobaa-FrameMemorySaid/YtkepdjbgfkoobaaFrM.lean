/-
  frame: the check sum and the frames as plain functions on lists of numbers.
-/
import Derived.WalkKit
namespace Go.Proofs.Ytkepdjbgfkoobaa
set_option linter.unusedVariables false
set_option linter.unusedSimpArgs false
theorem xor_lc (a b c : Nat) : a ^^^ (b ^^^ c) = b ^^^ (a ^^^ c) := by rw [← Nat.xor_assoc, Nat.xor_comm a b, Nat.xor_assoc]
theorem xor_eq_of {a b : Nat} (h : a ^^^ b = 0) : a = b := by
  have h2 : (a ^^^ b) ^^^ b = b := by rw [h]; simp
  simpa [Nat.xor_assoc] using h2
def crcStep (v : Nat) : Nat := if v % 2 = 1 then (v / 2) ^^^ 3988292384 else v / 2
def pIf (b : Bool) : Nat := if b then 3988292384 else 0
theorem pIf_xor (a b : Bool) : pIf (a ^^ b) = pIf a ^^^ pIf b := by cases a <;> cases b <;> decide
theorem crcStep_eq (v : Nat) : crcStep v = (v >>> 1) ^^^ pIf (v.testBit 0) := by
  unfold crcStep pIf
  have e : v >>> 1 = v / 2 := by rw [Nat.shiftRight_eq_div_pow]
  rw [Nat.testBit_zero, e]
  by_cases h : v % 2 = 1 <;> simp [h]
theorem crcStep_xor (a b : Nat) : crcStep (a ^^^ b) = crcStep a ^^^ crcStep b := by
  rw [crcStep_eq, crcStep_eq, crcStep_eq, Nat.shiftRight_xor_distrib, Nat.testBit_xor, pIf_xor]
  simp only [Nat.xor_assoc, Nat.xor_comm, xor_lc]
theorem crcStep_zero : crcStep 0 = 0 := by decide
theorem crcStep_lt {v : Nat} (h : v < 4294967296) : crcStep v < 4294967296 := by
  unfold crcStep
  split
  · exact Nat.xor_lt_two_pow (n := 32) (by omega) (by omega)
  · omega
theorem crcStep_eq_zero {v : Nat} (hv : v < 4294967296) (h : crcStep v = 0) : v = 0 := by
  unfold crcStep at h
  split at h
  · have : v / 2 = 3988292384 := xor_eq_of h
    omega
  · omega
def crc8 : Nat → Nat → Nat
  | 0, v => v
  | k + 1, v => crcStep (crc8 k v)
theorem crc8_xor (k a b : Nat) : crc8 k (a ^^^ b) = crc8 k a ^^^ crc8 k b := by
  induction k with
  | zero => rfl
  | succ k ih => simp only [crc8, ih, crcStep_xor]
theorem crc8_lt {v : Nat} (h : v < 4294967296) (k : Nat) : crc8 k v < 4294967296 := by
  induction k with
  | zero => exact h
  | succ k ih => exact crcStep_lt ih
theorem crc8_eq_zero {v : Nat} (hv : v < 4294967296) (k : Nat) (h : crc8 k v = 0) : v = 0 := by
  induction k with
  | zero => exact h
  | succ k ih => exact ih (crcStep_eq_zero (crc8_lt hv k) h)
theorem xor4_lt {a b : Nat} (ha : a < 4294967296) (hb : b < 4294967296) : a ^^^ b < 4294967296 := Nat.xor_lt_two_pow (n := 32) ha hb
theorem crc8_inj {a b : Nat} (ha : a < 4294967296) (hb : b < 4294967296) (k : Nat) (h : crc8 k a = crc8 k b) : a = b :=
  xor_eq_of (crc8_eq_zero (xor4_lt ha hb) k (by rw [crc8_xor, h, Nat.xor_self]))
def laidN (s b : Nat) : Nat := crc8 8 (s ^^^ b)
def crcFrom (s : Nat) (l : List Nat) : Nat := l.foldl laidN s
def crcN (l : List Nat) : Nat := crcFrom 4294967295 l ^^^ 4294967295
theorem laidN_lt {s b : Nat} (hs : s < 4294967296) (hb : b < 256) : laidN s b < 4294967296 := crc8_lt (xor4_lt hs (by omega)) 8
theorem crcFrom_lt {l : List Nat} (hl : ∀ x ∈ l, x < 256) : ∀ {s : Nat}, s < 4294967296 → crcFrom s l < 4294967296 := by
  induction l with
  | nil => intro s h; exact h
  | cons x l ih => intro s h; exact ih (fun y hy => hl y (List.mem_cons_of_mem _ hy)) (laidN_lt h (hl x (List.mem_cons_self)))
theorem crcN_lt {l : List Nat} (hl : ∀ x ∈ l, x < 256) : crcN l < 4294967296 := xor4_lt (crcFrom_lt hl (by omega)) (by omega)
theorem crcFrom_append (s : Nat) (a b : List Nat) : crcFrom s (a ++ b) = crcFrom (crcFrom s a) b := List.foldl_append ..
theorem crcFrom_snoc (s : Nat) (a : List Nat) (x : Nat) : crcFrom s (a ++ [x]) = laidN (crcFrom s a) x := by rw [crcFrom_append]; rfl
theorem laidN_xor (s t b c : Nat) : laidN (s ^^^ t) (b ^^^ c) = laidN s b ^^^ laidN t c := by
  unfold laidN
  rw [← crc8_xor]
  congr 1
  simp only [Nat.xor_assoc, Nat.xor_comm, xor_lc]
theorem crcFrom_inj {l : List Nat} (hl : ∀ x ∈ l, x < 256) : ∀ {s t : Nat}, s < 4294967296 → t < 4294967296 → crcFrom s l = crcFrom t l → s = t := by
  induction l with
  | nil => intro s t _ _ h; exact h
  | cons x l ih =>
    intro s t hs ht h
    have hx := hl x (List.mem_cons_self)
    have := ih (fun y hy => hl y (List.mem_cons_of_mem _ hy)) (laidN_lt hs hx) (laidN_lt ht hx) h
    have := crc8_inj (xor4_lt hs (by omega)) (xor4_lt ht (by omega)) 8 this
    have h2 : (s ^^^ x) ^^^ x = (t ^^^ x) ^^^ x := by rw [this]
    simpa [Nat.xor_assoc] using h2
theorem laidN_inj {s b c : Nat} (hs : s < 4294967296) (hb : b < 256) (hc : c < 256) (h : laidN s b = laidN s c) : b = c := by
  have := crc8_inj (xor4_lt hs (by omega)) (xor4_lt hs (by omega)) 8 h
  have h2 : s ^^^ (s ^^^ b) = s ^^^ (s ^^^ c) := by rw [this]
  simpa [← Nat.xor_assoc] using h2
theorem xorF_inj {a b : Nat} (h : a ^^^ 4294967295 = b ^^^ 4294967295) : a = b := by
  have h2 : (a ^^^ 4294967295) ^^^ 4294967295 = (b ^^^ 4294967295) ^^^ 4294967295 := by rw [h]
  simpa [Nat.xor_assoc] using h2
/-- one byte that is another gives another sum. -/
theorem crcN_one {a c : List Nat} {x y : Nat} (ha : ∀ z ∈ a, z < 256) (hc : ∀ z ∈ c, z < 256) (hx : x < 256) (hy : y < 256) (h : crcN (a ++ x :: c) = crcN (a ++ y :: c)) : x = y := by
  have h := xorF_inj h
  rw [crcFrom_append, crcFrom_append] at h
  have hs := crcFrom_lt ha (s := 4294967295) (by omega)
  exact laidN_inj hs hx hy (crcFrom_inj hc (laidN_lt hs hx) (laidN_lt hs hy) h)
theorem not32 {a : Nat} (h : a < 4294967296) : a ^^^ 4294967295 = 4294967295 - a := by
  have : (BitVec.ofNat 32 a ^^^ BitVec.allOnes 32).toNat = (~~~ (BitVec.ofNat 32 a)).toNat := by rw [BitVec.xor_allOnes]
  simp [BitVec.toNat_xor] at this
  rw [Nat.mod_eq_of_lt h] at this
  omega
def BytesM (l : List Nat) : Prop := ∀ x ∈ l, x < 256
def numN (l : List Nat) : Nat := l.foldl (fun n d => n * 256 + d) 0
def headN (n : Nat) : List Nat := [90, n / 65536 % 256, n / 256 % 256, n % 256]
def be4 (v : Nat) : List Nat := [v / 16777216 % 256, v / 65536 % 256, v / 256 % 256, v % 256]
def frameN (p : List Nat) : List Nat := headN p.length ++ p ++ be4 (crcN (headN p.length ++ p))
def nextN (b : List Nat) : List Nat × Nat × Int :=
  if b.length = 0 then ([], 0, 0) else if b.getD 0 0 ≠ 90 then ([], 0, 70) else if b.length < 4 then ([], 0, 0)
  else if 32768 < numN ((b.drop 1).take 3) then ([], 0, 70) else if b.length < numN ((b.drop 1).take 3) + 8 then ([], 0, 0)
  else if numN ((b.drop (numN ((b.drop 1).take 3) + 4)).take 4) ≠ crcN (b.take (numN ((b.drop 1).take 3) + 4)) then ([], 0, 70)
  else ((b.drop 4).take (numN ((b.drop 1).take 3)), numN ((b.drop 1).take 3) + 8, 0)
theorem numN_be4 {v : Nat} (h : v < 4294967296) : numN (be4 v) = v := by simp [numN, be4]; omega
theorem numN_head (n : Nat) (h : n < 16777216) (p r : List Nat) : numN (((headN n ++ p ++ r).drop 1).take 3) = n := by simp [numN, headN]; omega
theorem headN_length (n : Nat) : (headN n).length = 4 := rfl
theorem be4_length (n : Nat) : (be4 n).length = 4 := rfl
theorem frameN_length (p : List Nat) : (frameN p).length = p.length + 8 := by simp [frameN, headN_length, be4_length]; omega
theorem headN_bytes (n : Nat) : BytesM (headN n) := by intro x hx; simp [headN] at hx; omega
theorem be4_bytes (n : Nat) : BytesM (be4 n) := by intro x hx; simp [be4] at hx; omega
theorem BytesM.app {a b : List Nat} (h : BytesM a) (k : BytesM b) : BytesM (a ++ b) := fun x hx => by
  rcases List.mem_append.1 hx with h1 | h1
  · exact h x h1
  · exact k x h1
theorem frameN_bytes {p : List Nat} (h : BytesM p) : BytesM (frameN p) := ((headN_bytes _).app h).app (be4_bytes _)

theorem next_frame {p : List Nat} (hp : BytesM p) (hl : p.length ≤ 32768) (r : List Nat) : nextN (frameN p ++ r) = (p, p.length + 8, 0) := by
  have e : numN (((frameN p ++ r).drop 1).take 3) = p.length := by
    unfold frameN
    rw [List.append_assoc, List.append_assoc (headN _), ← List.append_assoc]
    have := numN_head p.length (by omega) (p ++ be4 (crcN (headN p.length ++ p))) r
    simpa [List.append_assoc] using this
  have hlen : (frameN p ++ r).length = p.length + 8 + r.length := by rw [List.length_append, frameN_length]
  have t1 : (frameN p ++ r).take (p.length + 4) = headN p.length ++ p := by
    unfold frameN
    rw [List.append_assoc, List.take_append_of_le_length (by simp [headN_length]; omega), List.take_of_length_le (by simp [headN_length]; omega)]
  have t2 : ((frameN p ++ r).drop (p.length + 4)).take 4 = be4 (crcN (headN p.length ++ p)) := by
    unfold frameN
    rw [List.append_assoc, List.drop_append, List.drop_of_length_le (by simp [headN_length]; omega)]
    simp [headN_length, show p.length + 4 - (4 + p.length) = 0 by omega]
    rw [List.take_append_of_le_length (by simp [be4_length]), List.take_of_length_le (by simp [be4_length])]
  have t3 : ((frameN p ++ r).drop 4).take p.length = p := by
    unfold frameN
    rw [List.append_assoc, List.append_assoc, List.drop_append, List.drop_of_length_le (by simp [headN_length])]
    simp [headN_length]
  unfold nextN
  rw [e, t1, t2, t3, hlen, numN_be4 (crcN_lt ((headN_bytes _).app hp))]
  rw [if_neg (by omega), if_neg (by simp [frameN, headN]), if_neg (by omega), if_neg (by omega), if_neg (by omega), if_neg (by simp)]

theorem next_cut {p : List Nat} (hl : p.length ≤ 32768) (j : Nat) (hj : j < p.length + 8) : nextN ((frameN p).take j) = ([], 0, 0) := by
  have hlen : ((frameN p).take j).length = j := by rw [List.length_take, frameN_length]; omega
  unfold nextN
  rw [hlen]
  by_cases h0 : j = 0
  · rw [if_pos h0]
  · rw [if_neg h0]
    have g0 : ((frameN p).take j).getD 0 0 = 90 := by
      cases j with
      | zero => omega
      | succ j => simp [frameN, headN]
    rw [if_neg (by rw [g0]; simp)]
    by_cases h4 : j < 4
    · rw [if_pos h4]
    · rw [if_neg h4]
      have e : numN ((((frameN p).take j).drop 1).take 3) = p.length := by
        have := numN_head p.length (by omega) p (be4 (crcN (headN p.length ++ p)))
        rw [List.drop_take, List.take_take, show min 3 (j - 1) = 3 by omega]
        exact this
      rw [e, if_neg (by omega), if_pos hj]

theorem nextN_cases (b : List Nat) : ((nextN b).2.1 = 0 ∧ (nextN b).1 = []) ∨ ((nextN b).2.2 = 0 ∧ (nextN b).2.1 = (nextN b).1.length + 8 ∧ (nextN b).2.1 ≤ b.length ∧ (nextN b).1 = (b.drop 4).take (nextN b).1.length ∧ (nextN b).1.length ≤ 32768) := by
  unfold nextN
  split
  · exact .inl ⟨rfl, rfl⟩
  split
  · exact .inl ⟨rfl, rfl⟩
  split
  · exact .inl ⟨rfl, rfl⟩
  split
  · exact .inl ⟨rfl, rfl⟩
  split
  · exact .inl ⟨rfl, rfl⟩
  split
  · exact .inl ⟨rfl, rfl⟩
  have hl : ((b.drop 4).take (numN ((b.drop 1).take 3))).length = numN ((b.drop 1).take 3) := by
    rw [List.length_take, List.length_drop]; omega
  exact .inr ⟨rfl, by simp only; rw [hl], by simp only; omega, by simp only; rw [hl], by simp only; rw [hl]; omega⟩
theorem nextN_le (b : List Nat) : (nextN b).2.1 ≤ b.length := by
  rcases nextN_cases b with h | h
  · omega
  · exact h.2.2.1

def scanF : Nat → List Nat → List (List Nat) × Nat
  | 0, _ => ([], 0)
  | f + 1, b => if (nextN b).2.1 = 0 then ([], 0) else ((nextN b).1 :: (scanF f (b.drop (nextN b).2.1)).1, (nextN b).2.1 + (scanF f (b.drop (nextN b).2.1)).2)
theorem scanF_fuel : ∀ (f g : Nat) (b : List Nat), b.length ≤ f → b.length ≤ g → scanF f b = scanF g b := by
  intro f
  induction f with
  | zero =>
    intro g b h1 _
    have hb : b = [] := List.eq_nil_of_length_eq_zero (by omega)
    subst hb
    cases g with
    | zero => rfl
    | succ g => simp [scanF, nextN]
  | succ f ih =>
    intro g b h1 h2
    cases g with
    | zero =>
      have hb : b = [] := List.eq_nil_of_length_eq_zero (by omega)
      subst hb
      simp [scanF, nextN]
    | succ g =>
      simp only [scanF]
      by_cases h : (nextN b).2.1 = 0
      · rw [if_pos h, if_pos h]
      · rw [if_neg h, if_neg h, ih g (b.drop (nextN b).2.1) (by rw [List.length_drop]; omega) (by rw [List.length_drop]; omega)]
def scanN (b : List Nat) : List (List Nat) × Nat := scanF b.length b
theorem scanN_stop {b : List Nat} (h : (nextN b).2.1 = 0) : scanN b = ([], 0) := by
  unfold scanN
  cases hb : b.length with
  | zero => rfl
  | succ n => simp only [scanF]; rw [if_pos h]
theorem scanN_step {b : List Nat} (h : (nextN b).2.1 ≠ 0) : scanN b = ((nextN b).1 :: (scanN (b.drop (nextN b).2.1)).1, (nextN b).2.1 + (scanN (b.drop (nextN b).2.1)).2) := by
  have hle := nextN_le b
  unfold scanN
  cases hb : b.length with
  | zero => omega
  | succ n =>
    simp only [scanF]
    rw [if_neg h, scanF_fuel n (b.drop (nextN b).2.1).length _ (by rw [List.length_drop]; omega) (Nat.le_refl _)]
theorem scanN_le (b : List Nat) : (scanN b).2 ≤ b.length := by
  suffices h : ∀ n (b : List Nat), b.length ≤ n → (scanN b).2 ≤ b.length from h _ b (Nat.le_refl _)
  intro n
  induction n with
  | zero => intro b hb; have : b = [] := List.eq_nil_of_length_eq_zero (by omega); subst this; simp [scanN, scanF]
  | succ n ih =>
    intro b hb
    by_cases h : (nextN b).2.1 = 0
    · rw [scanN_stop h]; simp
    · rw [scanN_step h]
      have := ih (b.drop (nextN b).2.1) (by rw [List.length_drop]; omega)
      have hle := nextN_le b
      rw [List.length_drop] at this
      simp only
      omega
/-- frames one behind the other. -/
def framesN (ps : List (List Nat)) : List Nat := (ps.map frameN).flatten
theorem framesN_snoc (ps : List (List Nat)) (p : List Nat) : framesN (ps ++ [p]) = framesN ps ++ frameN p := by simp [framesN]
def Payloads (ps : List (List Nat)) : Prop := ∀ p ∈ ps, BytesM p ∧ p.length ≤ 32768
theorem scan_frames : ∀ (ps : List (List Nat)), Payloads ps → ∀ r, scanN (framesN ps ++ r) = (ps ++ (scanN r).1, (framesN ps).length + (scanN r).2)
  | [], _, r => by simp [framesN]
  | p :: ps, h, r => by
    have hp := h p (List.mem_cons_self)
    have ih := scan_frames ps (fun q hq => h q (List.mem_cons_of_mem _ hq)) r
    have e : framesN (p :: ps) ++ r = frameN p ++ (framesN ps ++ r) := by simp [framesN]
    have hn := next_frame hp.1 hp.2 (framesN ps ++ r)
    rw [e, scanN_step (by rw [hn]; simp), hn]
    have hd : (frameN p ++ (framesN ps ++ r)).drop (p.length + 8) = framesN ps ++ r := by
      rw [List.drop_append, List.drop_of_length_le (by rw [frameN_length]; omega), frameN_length]; simp
    simp only
    rw [hd, ih]
    have hlen : (framesN (p :: ps)).length = p.length + 8 + (framesN ps).length := by simp [framesN, frameN_length]
    rw [hlen]
    simp [Nat.add_assoc]
theorem framesN_drop_cons (p : List Nat) (ps : List (List Nat)) : framesN (p :: ps) = frameN p ++ framesN ps := by simp [framesN]
/-- how many frames end by at. -/
def wholeN (ps : List (List Nat)) (at_ : Nat) : Nat → Nat
  | 0 => 0
  | k + 1 => wholeN ps at_ k + if (framesN (ps.take (k + 1))).length ≤ at_ then 1 else 0
theorem framesN_take_le (ps : List (List Nat)) {i j : Nat} (h : i ≤ j) : (framesN (ps.take i)).length ≤ (framesN (ps.take j)).length := by
  have : ps.take j = ps.take i ++ (ps.drop i).take (j - i) := by
    rw [← List.take_add]; congr 1; omega
  rw [this]
  simp [framesN]
theorem wholeN_spec (ps : List (List Nat)) (at_ : Nat) : ∀ k, k ≤ ps.length → wholeN ps at_ k ≤ k ∧ (∀ i, i < wholeN ps at_ k → (framesN (ps.take (i + 1))).length ≤ at_) ∧ (wholeN ps at_ k < k → at_ < (framesN (ps.take (wholeN ps at_ k + 1))).length)
  | 0, _ => ⟨Nat.le_refl _, fun i h => absurd h (by simp [wholeN]), fun h => absurd h (by simp [wholeN])⟩
  | k + 1, hk => by
    obtain ⟨h1, h2, h3⟩ := wholeN_spec ps at_ k (by omega)
    simp only [wholeN]
    by_cases h : (framesN (ps.take (k + 1))).length ≤ at_
    · rw [if_pos h]
      have e : wholeN ps at_ k = k := by
        rcases Nat.lt_or_ge (wholeN ps at_ k) k with hlt | hge
        · have := h3 hlt
          have := framesN_take_le ps (show wholeN ps at_ k + 1 ≤ k + 1 by omega)
          omega
        · omega
      rw [e]
      refine ⟨Nat.le_refl _, fun i hi => ?_, fun hh => absurd hh (by omega)⟩
      rcases Nat.lt_or_ge i k with hlt | hge
      · exact h2 i (by omega)
      · have : i = k := by omega
        subst this; exact h
    · rw [if_neg h, Nat.add_zero]
      refine ⟨by omega, h2, fun _ => ?_⟩
      rcases Nat.lt_or_ge (wholeN ps at_ k) k with hlt | hge
      · exact h3 hlt
      · have : wholeN ps at_ k = k := by omega
        rw [this]; omega
/-- frames that are cut off: the whole ones, and an end of which more is awaited. -/
theorem scan_cut {ps : List (List Nat)} (h : Payloads ps) {at_ : Nat} (hat : at_ ≤ (framesN ps).length) :
    scanN ((framesN ps).take at_) = (ps.take (wholeN ps at_ ps.length), (framesN (ps.take (wholeN ps at_ ps.length))).length) ∧
    (framesN (ps.take (wholeN ps at_ ps.length))).length ≤ at_ ∧
    nextN (((framesN ps).take at_).drop (framesN (ps.take (wholeN ps at_ ps.length))).length) = ([], 0, 0) := by
  obtain ⟨h1, h2, h3⟩ := wholeN_spec ps at_ ps.length (Nat.le_refl _)
  obtain ⟨k, hk⟩ : ∃ k, k = wholeN ps at_ ps.length := ⟨_, rfl⟩
  rw [← hk] at h1 h2 h3 ⊢
  have hle : (framesN (ps.take k)).length ≤ at_ := by
    cases k with
    | zero => simp [framesN]
    | succ k => exact h2 k (by omega)
  have hsp : framesN ps = framesN (ps.take k) ++ framesN (ps.drop k) := by
    unfold framesN
    rw [← List.flatten_append, ← List.map_append, List.take_append_drop]
  have htk : (framesN ps).take at_ = framesN (ps.take k) ++ (framesN (ps.drop k)).take (at_ - (framesN (ps.take k)).length) := by
    rw [hsp, List.take_append, List.take_of_length_le hle]
  have hrest : nextN ((framesN (ps.drop k)).take (at_ - (framesN (ps.take k)).length)) = ([], 0, 0) := by
    rcases Nat.lt_or_ge k ps.length with hlt | hge
    · have hd : ps.drop k = ps[k] :: ps.drop (k + 1) := List.drop_eq_getElem_cons hlt
      have h4 := h3 hlt
      have e4 : (framesN (ps.take (k + 1))).length = (framesN (ps.take k)).length + (ps[k].length + 8) := by
        rw [List.take_succ_eq_append_getElem hlt, framesN_snoc, List.length_append, frameN_length]
      rw [hd, framesN_drop_cons, List.take_append_of_le_length (by rw [frameN_length]; omega)]
      exact next_cut (h _ (List.getElem_mem hlt)).2 _ (by omega)
    · have : ps.drop k = [] := List.drop_of_length_le hge
      rw [this]
      simp [framesN, nextN]
  have hpk : Payloads (ps.take k) := fun p hp => h p (List.mem_of_mem_take hp)
  refine ⟨?_, hle, ?_⟩
  · rw [htk, scan_frames _ hpk, scanN_stop (by rw [hrest])]
    simp
  · rw [htk, List.drop_append, List.drop_of_length_le (Nat.le_refl _)]
    simpa using hrest

theorem nextN_yes {b : List Nat} (h : (nextN b).2.1 ≠ 0) : b.getD 0 0 = 90 ∧ (nextN b).2.1 = numN ((b.drop 1).take 3) + 8 ∧ numN ((b.drop (numN ((b.drop 1).take 3) + 4)).take 4) = crcN (b.take (numN ((b.drop 1).take 3) + 4)) := by
  unfold nextN at h ⊢
  split at h
  · exact absurd rfl h
  split at h
  · exact absurd rfl h
  split at h
  · exact absurd rfl h
  split at h
  · exact absurd rfl h
  split at h
  · exact absurd rfl h
  split at h
  · exact absurd rfl h
  rename_i h0 h1 h2 h3 h4 h5
  rw [if_neg h0, if_neg h1, if_neg h2, if_neg h3, if_neg h4, if_neg h5]
  exact ⟨by simpa using h1, rfl, by simpa using h5⟩
theorem set_split (l : List Nat) (i : Nat) (hi : i < l.length) (x : Nat) : l.set i x = l.take i ++ x :: l.drop (i + 1) := by
  rw [List.set_eq_take_append_cons_drop, if_pos hi]
theorem self_split (l : List Nat) (i : Nat) (hi : i < l.length) : l = l.take i ++ l.getD i 0 :: l.drop (i + 1) := by
  have h := set_split l i hi (l.getD i 0)
  rw [← h, List.getD_eq_getElem?_getD, List.getElem?_eq_getElem hi]
  simp
theorem next_turned {p : List Nat} (hp : BytesM p) (hl : p.length ≤ 32768) {i : Nat} (hi : i < p.length + 8) {x : Nat} (hx : x < 256) (hne : x ≠ (frameN p).getD i 0) :
    (nextN ((frameN p).set i x)).2.1 ≠ p.length + 8 := by
  intro hm
  obtain ⟨h0, h1, h2⟩ := nextN_yes (b := (frameN p).set i x) (by omega)
  have hn : numN ((((frameN p).set i x).drop 1).take 3) = p.length := by omega
  rw [hn] at h2
  have hfb := frameN_bytes hp
  rcases Nat.lt_or_ge i 4 with h4 | h4
  · have e : frameN p = 90 :: (p.length / 65536 % 256) :: (p.length / 256 % 256) :: (p.length % 256) :: (p ++ be4 (crcN (headN p.length ++ p))) := by simp [frameN, headN]
    rw [e] at hne hn h0
    rcases (by omega : i = 0 ∨ i = 1 ∨ i = 2 ∨ i = 3) with rfl | rfl | rfl | rfl
    · simp at h0 hne; omega
    · simp [numN] at hn hne; omega
    · simp [numN] at hn hne; omega
    · simp [numN] at hn hne; omega
  · obtain ⟨hd, hhd⟩ : ∃ hd, hd = headN p.length ++ p := ⟨_, rfl⟩
    have hdl : hd.length = p.length + 4 := by rw [hhd]; simp [headN_length]; omega
    have hdb : BytesM hd := by rw [hhd]; exact (headN_bytes _).app hp
    have e : frameN p = hd ++ be4 (crcN hd) := by rw [hhd]; rfl
    rw [e] at hne h2
    rcases Nat.lt_or_ge i (p.length + 4) with h5 | h5
    · rw [List.set_append, if_pos (by omega), List.drop_left' (by simpa using hdl), List.take_left' (by simpa using hdl), List.take_of_length_le (by simp [be4_length]), numN_be4 (crcN_lt hdb)] at h2
      rw [set_split hd i (by omega)] at h2
      have h6 := self_split hd i (by omega)
      have hy : hd.getD i 0 < 256 := by
        rw [List.getD_eq_getElem?_getD, List.getElem?_eq_getElem (by omega)]
        exact hdb _ (List.getElem_mem _)
      have ht : BytesM (hd.take i) := fun z hz => hdb z (List.mem_of_mem_take hz)
      have hr : BytesM (hd.drop (i + 1)) := fun z hz => hdb z (List.mem_of_mem_drop hz)
      conv at h2 => lhs; rw [h6]
      have := crcN_one ht hr hy hx h2
      apply hne
      rw [← this]
      simp [List.getElem?_append, show i < hd.length by omega]
    · rw [List.set_append, if_neg (by omega), List.drop_left' hdl, List.take_left' hdl, List.take_of_length_le (by simp [be4_length]), hdl] at h2
      obtain ⟨v, hv⟩ : ∃ v, v = crcN hd := ⟨_, rfl⟩
      have hvl := crcN_lt hdb
      have hg : (hd ++ be4 (crcN hd)).getD i 0 = (be4 (crcN hd)).getD (i - (p.length + 4)) 0 := by
        rw [List.getD_eq_getElem?_getD, List.getD_eq_getElem?_getD, List.getElem?_append_right (by omega), hdl]
      rw [hg] at hne
      rw [← hv] at hvl
      rw [← hv] at h2
      rw [← hv] at hne
      obtain ⟨j, hj⟩ : ∃ j, j = i - (p.length + 4) := ⟨_, rfl⟩
      rw [← hj] at h2 hne
      rcases (by omega : j = 0 ∨ j = 1 ∨ j = 2 ∨ j = 3) with rfl | rfl | rfl | rfl
      · simp [numN, be4] at h2 hne; omega
      · simp [numN, be4] at h2 hne; omega
      · simp [numN, be4] at h2 hne; omega
      · simp [numN, be4] at h2 hne; omega
end Go.Proofs.Ytkepdjbgfkoobaa
