/-
  SHA-256 in plain numbers; no Go in sight.
-/
import Derived.Test.YthofndobmiamjaaDoorMem
namespace Go.Proofs.YthofndobmiamjaaDoor
open Go.RowKit

/-- a word turned right. -/
def rotr (x n : Nat) : Nat := (x * 2 ^ (32 - n) % 4294967296) ||| (x / 2 ^ n)
/-- turned by each, laid over one another. -/
def turnL (x : Nat) : List Nat → Nat → Nat
  | [], acc => acc
  | n :: ns, acc => turnL x ns (acc ^^^ rotr x n)
def turns (x : Nat) (ns : List Nat) : Nat := turnL x ns 0
def add32 (a b : Nat) : Nat := (a + b) % 4294967296
def sig0 (x : Nat) : Nat := turns x [7, 18] ^^^ (x / 8)
def sig1 (x : Nat) : Nat := turns x [17, 19] ^^^ (x / 1024)
def big0 (x : Nat) : Nat := turns x [2, 13, 22]
def big1 (x : Nat) : Nat := turns x [6, 11, 25]
def ch (e f g : Nat) : Nat := (e &&& f) ^^^ ((4294967295 - e) &&& g)
def maj (a b c : Nat) : Nat := (a &&& b) ^^^ (a &&& c) ^^^ (b &&& c)
def g' (l : List Nat) (i : Nat) : Nat := l.getD i 0
/-- the state behind a round. -/
def t1R (st : List Nat) (k w : Nat) : Nat := add32 (add32 (add32 (add32 (g' st 7) (big1 (g' st 4))) (ch (g' st 4) (g' st 5) (g' st 6))) k) w
def t2R (st : List Nat) : Nat := add32 (big0 (g' st 0)) (maj (g' st 0) (g' st 1) (g' st 2))
def roundR (st : List Nat) (k w : Nat) : List Nat := [add32 (t1R st k w) (t2R st), g' st 0, g' st 1, g' st 2, add32 (g' st 3) (t1R st k w), g' st 4, g' st 5, g' st 6]
/-- the next word, behind the last sixteen. -/
def furtherR (ws : List Nat) : Nat := add32 (add32 (add32 (g' ws 0) (g' ws 9)) (sig0 (g' ws 1))) (sig1 (g' ws 14))
def shiftR (ws : List Nat) : List Nat := ws.drop 1 ++ [furtherR ws]
def shaK : List Nat := [0x428a2f98, 0x71374491, 0xb5c0fbcf, 0xe9b5dba5, 0x3956c25b, 0x59f111f1, 0x923f82a4, 0xab1c5ed5, 0xd807aa98, 0x12835b01, 0x243185be, 0x550c7dc3, 0x72be5d74, 0x80deb1fe, 0x9bdc06a7, 0xc19bf174, 0xe49b69c1, 0xefbe4786, 0x0fc19dc6, 0x240ca1cc, 0x2de92c6f, 0x4a7484aa, 0x5cb0a9dc, 0x76f988da, 0x983e5152, 0xa831c66d, 0xb00327c8, 0xbf597fc7, 0xc6e00bf3, 0xd5a79147, 0x06ca6351, 0x14292967, 0x27b70a85, 0x2e1b2138, 0x4d2c6dfc, 0x53380d13, 0x650a7354, 0x766a0abb, 0x81c2c92e, 0x92722c85, 0xa2bfe8a1, 0xa81a664b, 0xc24b8b70, 0xc76c51a3, 0xd192e819, 0xd6990624, 0xf40e3585, 0x106aa070, 0x19a4c116, 0x1e376c08, 0x2748774c, 0x34b0bcb5, 0x391c0cb3, 0x4ed8aa4a, 0x5b9cca4f, 0x682e6ff3, 0x748f82ee, 0x78a5636f, 0x84c87814, 0x8cc70208, 0x90befffa, 0xa4506ceb, 0xbef9a3f7, 0xc67178f2]
def shaH : List Nat := [0x6a09e667, 0xbb67ae85, 0x3c6ef372, 0xa54ff53a, 0x510e527f, 0x9b05688c, 0x1f83d9ab, 0x5be0cd19]
/-- n rounds from a state and sixteen words. -/
def roundsR (st ws : List Nat) : Nat → List Nat × List Nat
  | 0 => (st, ws)
  | n + 1 => (roundR (roundsR st ws n).1 (g' shaK n) (g' (roundsR st ws n).2 0), shiftR (roundsR st ws n).2)
/-- a block's words. -/
def wordR (b : List Nat) (i : Nat) : Nat := ((g' b (4 * i) * 256 + g' b (4 * i + 1)) * 256 + g' b (4 * i + 2)) * 256 + g' b (4 * i + 3)
def wordsR (b : List Nat) : List Nat := (List.range 16).map (wordR b)
def mixR (st b : List Nat) : List Nat := (List.range 8).map fun i => add32 (g' st i) (g' (roundsR st (wordsR b) 64).1 i)
/-- the blocks of a text whose length is a multiple of 64. -/
def foldR (st : List Nat) (l : List Nat) : Nat → List Nat
  | 0 => st
  | n + 1 => mixR (foldR st l n) ((l.drop (64 * n)).take 64)
def bytesW (x : Nat) : List Nat := [x / 16777216 % 256, x / 65536 % 256, x / 256 % 256, x % 256]
def endR (n : Nat) : List Nat := 128 :: (List.replicate ((119 - n % 64) % 64) 0 ++ (List.range 8).map fun i => 8 * n / 256 ^ (7 - i) % 256)
def padR (l : List Nat) : List Nat := l ++ endR l.length
def shaR (l : List Nat) : List Nat := ((foldR shaH (padR l) ((padR l).length / 64)).map bytesW).flatten
def Words (l : List Nat) : Prop := ∀ x ∈ l, x < 4294967296
theorem Words.g' {l : List Nat} (h : Words l) (i : Nat) : g' l i < 4294967296 := by
  unfold Go.Proofs.YthofndobmiamjaaDoor.g'
  rw [List.getD_eq_getElem?_getD]
  by_cases hi : i < l.length
  · rw [List.getElem?_eq_getElem hi]; exact h _ (List.getElem_mem hi)
  · rw [List.getElem?_eq_none (by omega)]; decide
theorem add32_lt (a b : Nat) : add32 a b < 4294967296 := Nat.mod_lt _ (by decide)
theorem pow32 : (4294967296 : Nat) = 2 ^ 32 := by decide
theorem rotr_lt {x n : Nat} (hx : x < 4294967296) : rotr x n < 4294967296 := by
  unfold rotr
  rw [pow32]
  exact Nat.or_lt_two_pow (by rw [← pow32]; exact Nat.mod_lt _ (by decide)) (Nat.lt_of_le_of_lt (Nat.div_le_self _ _) (by rw [← pow32]; exact hx))
theorem xor_lt32 {a b : Nat} (ha : a < 4294967296) (hb : b < 4294967296) : a ^^^ b < 4294967296 := by
  rw [pow32] at *
  exact Nat.xor_lt_two_pow ha hb
theorem and_lt32 {a b : Nat} (ha : a < 4294967296) : a &&& b < 4294967296 := Nat.lt_of_le_of_lt Nat.and_le_left ha
theorem turnL_lt {x : Nat} (hx : x < 4294967296) : ∀ (ns : List Nat) (acc : Nat), acc < 4294967296 → turnL x ns acc < 4294967296
  | [], _, h => h
  | _ :: ns, _, h => turnL_lt hx ns _ (xor_lt32 h (rotr_lt hx))
theorem turns_lt {x : Nat} (hx : x < 4294967296) (ns : List Nat) : turns x ns < 4294967296 := turnL_lt hx ns 0 (by decide)
theorem turnL_snoc (x : Nat) : ∀ (ns : List Nat) (n acc : Nat), turnL x (ns ++ [n]) acc = turnL x ns acc ^^^ rotr x n
  | [], _, _ => rfl
  | m :: ns, n, acc => turnL_snoc x ns n (acc ^^^ rotr x m)
theorem ch_lt {e f g : Nat} (he : e < 4294967296) : ch e f g < 4294967296 := xor_lt32 (and_lt32 he) (and_lt32 (by omega))
theorem maj_lt {a b c : Nat} (ha : a < 4294967296) (hb : b < 4294967296) : maj a b c < 4294967296 := xor_lt32 (xor_lt32 (and_lt32 ha) (and_lt32 ha)) (and_lt32 hb)
theorem roundR_words {st : List Nat} (h : Words st) (k w : Nat) : Words (roundR st k w) := by
  intro x hx
  simp only [roundR, List.mem_cons, List.not_mem_nil, or_false] at hx
  rcases hx with rfl | rfl | rfl | rfl | rfl | rfl | rfl | rfl
  · exact add32_lt _ _
  · exact h.g' _
  · exact h.g' _
  · exact h.g' _
  · exact add32_lt _ _
  · exact h.g' _
  · exact h.g' _
  · exact h.g' _
theorem shiftR_words {ws : List Nat} (h : Words ws) : Words (shiftR ws) := by
  intro x hx
  rcases List.mem_append.1 hx with q | q
  · exact h x (List.mem_of_mem_drop q)
  · simp only [List.mem_singleton] at q; subst q; exact add32_lt _ _
theorem roundsR_words {st ws : List Nat} (h : Words st) (k : Words ws) : ∀ n, Words (roundsR st ws n).1 ∧ Words (roundsR st ws n).2
  | 0 => ⟨h, k⟩
  | n + 1 => ⟨roundR_words (roundsR_words h k n).1 _ _, shiftR_words (roundsR_words h k n).2⟩
theorem roundsR_len {st ws : List Nat} (h : st.length = 8) (k : ws.length = 16) : ∀ n, (roundsR st ws n).1.length = 8 ∧ (roundsR st ws n).2.length = 16
  | 0 => ⟨h, k⟩
  | n + 1 => by
    have ih := roundsR_len h k n
    exact ⟨rfl, by simp [roundsR, shiftR, ih.2]⟩
theorem wordR_lt {b : List Nat} (h : Bytes b) (i : Nat) : wordR b i < 4294967296 := by
  unfold wordR g'
  have h0 := h.getD (4 * i)
  have h1 := h.getD (4 * i + 1)
  have h2 := h.getD (4 * i + 2)
  have h3 := h.getD (4 * i + 3)
  omega
theorem wordsR_len (b : List Nat) : (wordsR b).length = 16 := by simp [wordsR]
theorem wordsR_words {b : List Nat} (h : Bytes b) : Words (wordsR b) := by
  intro x hx
  simp only [wordsR, List.mem_map] at hx
  obtain ⟨i, -, rfl⟩ := hx
  exact wordR_lt h i
theorem mixR_len (st b : List Nat) : (mixR st b).length = 8 := by simp [mixR]
theorem mixR_words (st b : List Nat) : Words (mixR st b) := by
  intro x hx
  simp only [mixR, List.mem_map] at hx
  obtain ⟨i, -, rfl⟩ := hx
  exact add32_lt _ _
theorem shaH_words : Words shaH := by
  intro x hx
  have : shaH.all (fun x => Nat.blt x 4294967296) = true := by decide +kernel
  have := List.all_eq_true.1 this x hx
  simpa [Nat.blt_eq] using this
theorem shaK_words : Words shaK := by
  intro x hx
  have : shaK.all (fun x => Nat.blt x 4294967296) = true := by decide +kernel
  have := List.all_eq_true.1 this x hx
  simpa [Nat.blt_eq] using this
theorem foldR_len {l : List Nat} : ∀ n, (foldR shaH l n).length = 8
  | 0 => rfl
  | _ + 1 => mixR_len _ _
theorem foldR_words {l : List Nat} : ∀ n, Words (foldR shaH l n)
  | 0 => shaH_words
  | _ + 1 => mixR_words _ _
theorem sha_abc : shaR [97, 98, 99] = [0xba, 0x78, 0x16, 0xbf, 0x8f, 0x01, 0xcf, 0xea, 0x41, 0x41, 0x40, 0xde, 0x5d, 0xae, 0x22, 0x23, 0xb0, 0x03, 0x61, 0xa3, 0x96, 0x17, 0x7a, 0x9c, 0xb4, 0x10, 0xff, 0x61, 0xf2, 0x00, 0x15, 0xad] := by decide +kernel
end Go.Proofs.YthofndobmiamjaaDoor
