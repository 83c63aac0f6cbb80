/-
  Rq1: RqZ RqA RqB RqC RqD
-/
import Derived.Test.YtfjcbgfgiidogaaDoorMTu1
import Derived.Test.YtfjcbgfgiidogaaDoorMTuG
import Derived.Test.YtfjcbgfgiidogaaDoorMTuH
import Derived.Test.YtfjcbgfgiidogaaDoorMBase
import Derived.Test.YtfjcbgfgiidogaaDoorMLj2
import Derived.Test.YtfjcbgfgiidogaaDoorMTu2
namespace Go.Proofs.YtfjcbgfgiidogaaDoor

/-- on and on, up to a number below P. -/
def dn (a1 P P1 : Nat) : Nat → Nat → Nat
  | 0, b => b
  | f + 1, b => if b < P then b else dn a1 P P1 f ((b + a1) % P1)
def stp (a1 P P1 : Nat) : Nat → Nat → Nat
  | 0, _ => 0
  | f + 1, b => if b < P then 0 else stp a1 P P1 f ((b + a1) % P1) + 1
/-- the way down ends, for the primes that there are. -/
def dnOK (P P1 : Nat) : Bool := (List.range P1).all fun a => Nat.blt a 1 || (List.range P1).all fun b => Nat.blt (dn a P P1 32 b) P && (Nat.blt b P || (Nat.beq (dn a P P1 32 b) (dn a P P1 32 ((b + a) % P1)) && Nat.beq (stp a P P1 32 b) (stp a P P1 32 ((b + a) % P1) + 1)))
def pairs : List (Nat × Nat) := [(4, 5), (8, 11), (6, 7)]
theorem pairs_ok : pairs.all (fun x => dnOK x.1 x.2) = true := by decide +kernel
theorem pairs_all : (List.range 33).all (fun k => Nat.blt k 1 || pairs.any fun x => Nat.beq x.1 (cP k) && Nat.beq x.2 (cP1 k)) = true := by decide +kernel
theorem dn_facts {k : Nat} (h1 : 1 ≤ k) (hk : k ≤ 32) {a b : Nat} (ha : 1 ≤ a) (ha1 : a < cP1 k) (hb : b < cP1 k) :
    dn a (cP k) (cP1 k) 32 b < cP k ∧ (cP k ≤ b → dn a (cP k) (cP1 k) 32 b = dn a (cP k) (cP1 k) 32 ((b + a) % cP1 k) ∧ stp a (cP k) (cP1 k) 32 b = stp a (cP k) (cP1 k) 32 ((b + a) % cP1 k) + 1) := by
  have k0 := allR pairs_all k (by omega)
  simp only [Bool.or_eq_true] at k0
  rcases k0 with k1 | k1
  · have := bltI.1 k1; omega
  obtain ⟨⟨P, P1⟩, hm, hp⟩ := List.any_eq_true.1 k1
  simp only [Bool.and_eq_true] at hp
  rw [← Nat.eq_of_beq_eq_true hp.1, ← Nat.eq_of_beq_eq_true hp.2]
  rw [← Nat.eq_of_beq_eq_true hp.2] at ha1 hb
  have k1 := List.all_eq_true.1 pairs_ok _ hm
  simp only at k1
  unfold dnOK at k1
  have k2 := allR k1 a ha1
  simp only [Bool.or_eq_true] at k2
  rcases k2 with k2 | k2
  · have := bltI.1 k2; omega
  have k3 := allR k2 b hb
  simp only [Bool.or_eq_true, Bool.and_eq_true] at k3
  refine ⟨bltI.1 k3.1, fun h => ?_⟩
  rcases k3.2 with k4 | k4
  · have := bltI.1 k4; omega
  · exact ⟨Nat.eq_of_beq_eq_true k4.1, Nat.eq_of_beq_eq_true k4.2⟩

end Go.Proofs.YtfjcbgfgiidogaaDoor
namespace Go.Proofs.YtfjcbgfgiidogaaDoor
open Go.RowKit

/-! the tuple's numbers -/
def tY (k x : Nat) : Int := if cJ k = 2 then 30801 + 55585 * (x : Int) else 10267 + 53591 * (x : Int)
def tD (k x : Nat) : Nat := (tupD (tY k x) (cW k : Nat)).toNat
def tA (k x : Nat) : Nat := (1 + rz (tY k x) 1 % (((cW k : Nat) : Int) - 1)).toNat
def tB (k x : Nat) : Nat := (rz (tY k x) 2 % ((cW k : Nat) : Int)).toNat
def tD1 (k x : Nat) : Nat := (tupD1 (tY k x) x (cW k : Nat)).toNat
def tA1 (k x : Nat) : Nat := (1 + rz x 4 % (((cP1 k : Nat) : Int) - 1)).toNat
def tB1 (k x : Nat) : Nat := (rz x 5 % ((cP1 k : Nat) : Int)).toNat
def tupN (k x : Nat) : Value := .agg #[.int .i64 (tD k x : Nat), .int .i64 (tA k x : Nat), .int .i64 (tB k x : Nat), .int .i64 (tD1 k x : Nat), .int .i64 (tA1 k x : Nat), .int .i64 (tB1 k x : Nat)]
theorem tD_int (k x : Nat) : ((tD k x : Nat) : Int) = tupD (tY k x) ((cW k : Nat) : Int) := by
  have d := degS_range (rz (tY k x) 0 % 1048576) ((cW k : Nat) : Int)
  exact Int.toNat_of_nonneg (by unfold tupD; exact Int.le_trans (by decide) d.1)
theorem tD1_range (y x W : Int) : 2 ≤ tupD1 y x W ∧ tupD1 y x W ≤ 3 := by
  have g := rz_range2 x 3 2 (by omega)
  unfold tupD1
  generalize rz x 3 % 2 = r at g ⊢
  split <;> omega
theorem tD1_int (k x : Nat) : ((tD1 k x : Nat) : Int) = tupD1 (tY k x) (x : Int) ((cW k : Nat) : Int) := Int.toNat_of_nonneg (Int.le_trans (by decide) (tD1_range _ _ _).1)
theorem tA_int (k x : Nat) (h : 1 ≤ ((cW k : Nat) : Int) - 1) : ((tA k x : Nat) : Int) = 1 + rz (tY k x) 1 % (((cW k : Nat) : Int) - 1) := Int.toNat_of_nonneg (by
  have a := (rz_range2 (tY k x) 1 (((cW k : Nat) : Int) - 1) h).1
  generalize rz (tY k x) 1 % (((cW k : Nat) : Int) - 1) = r at a ⊢
  omega)
theorem tB_int (k x : Nat) (h : 1 ≤ ((cW k : Nat) : Int)) : ((tB k x : Nat) : Int) = rz (tY k x) 2 % ((cW k : Nat) : Int) := Int.toNat_of_nonneg (rz_range2 (tY k x) 2 _ h).1
theorem tA1_int (k x : Nat) (h : 1 ≤ ((cP1 k : Nat) : Int) - 1) : ((tA1 k x : Nat) : Int) = 1 + rz (x : Int) 4 % (((cP1 k : Nat) : Int) - 1) := Int.toNat_of_nonneg (by
  have a := (rz_range2 (x : Int) 4 (((cP1 k : Nat) : Int) - 1) h).1
  generalize rz (x : Int) 4 % (((cP1 k : Nat) : Int) - 1) = r at a ⊢
  omega)
theorem tB1_int (k x : Nat) (h : 1 ≤ ((cP1 k : Nat) : Int)) : ((tB1 k x : Nat) : Int) = rz (x : Int) 5 % ((cP1 k : Nat) : Int) := Int.toNat_of_nonneg (rz_range2 (x : Int) 5 _ h).1
theorem tup_facts {k : Nat} (h1 : 1 ≤ k) (hk : k ≤ 32) (x : Nat) : 1 ≤ tD k x ∧ tD k x ≤ 30 ∧ 1 ≤ tA k x ∧ tA k x < cW k ∧ tB k x < cW k ∧ 2 ≤ tD1 k x ∧ tD1 k x ≤ 3 ∧ 1 ≤ tA1 k x ∧ tA1 k x < cP1 k ∧ tB1 k x < cP1 k ∧ tupV (tY k x) (x : Int) ((cW k : Nat) : Int) ((cP1 k : Nat) : Int) = tupN k x := by
  obtain ⟨f1, f2, f3, f4, f5, f6, f7, f8, f9, f10, f11, f12, f13, f14⟩ := code_facts h1 hk
  have w1 : 1 ≤ ((cW k : Nat) : Int) - 1 := by omega
  have w0 : 1 ≤ ((cW k : Nat) : Int) := by omega
  have p1 : 1 ≤ ((cP1 k : Nat) : Int) - 1 := by omega
  have p0 : 1 ≤ ((cP1 k : Nat) : Int) := by omega
  have d : 1 ≤ tupD (tY k x) ((cW k : Nat) : Int) ∧ tupD (tY k x) ((cW k : Nat) : Int) ≤ 30 := degS_range (rz (tY k x) 0 % 1048576) ((cW k : Nat) : Int)
  have a := rz_range2 (tY k x) 1 (((cW k : Nat) : Int) - 1) w1
  have b := rz_range2 (tY k x) 2 ((cW k : Nat) : Int) w0
  have c := rz_range2 (x : Int) 4 (((cP1 k : Nat) : Int) - 1) p1
  have e := rz_range2 (x : Int) 5 ((cP1 k : Nat) : Int) p0
  have d1 := tD1_range (tY k x) (x : Int) ((cW k : Nat) : Int)
  have e1 := tD_int k x
  have e2 := tA_int k x w1
  have e3 := tB_int k x w0
  have e4 := tD1_int k x
  have e5 := tA1_int k x p1
  have e6 := tB1_int k x p0
  unfold tupV tupN
  rw [← e1, ← e2, ← e3, ← e4, ← e5, ← e6]
  rw [← e1] at d
  rw [← e4] at d1
  rw [← e3] at b
  rw [← e6] at e
  generalize rz (tY k x) 1 % (((cW k : Nat) : Int) - 1) = r at a e2
  generalize rz (x : Int) 4 % (((cP1 k : Nat) : Int) - 1) = r' at c e5
  clear e1 e3 e4 e6
  generalize tD k x = D at d ⊢
  generalize tA k x = A at e2 ⊢
  generalize tB k x = B at b ⊢
  generalize tD1 k x = D1 at d1 ⊢
  generalize tA1 k x = A1 at e5 ⊢
  generalize tB1 k x = B1 at e ⊢
  generalize cW k = W at *
  generalize cP1 k = P1 at *
  refine ⟨by omega, by omega, by omega, by omega, by omega, by omega, by omega, by omega, by omega, by omega, rfl⟩
theorem tuple_any (k x : Nat) (w : World) (h1 : 1 ≤ k) (hk : k ≤ 32) (hx : x ≤ 16777219) (hg : Bnd w) :
    Calls Tryd.prog 87 #[.int .i64 (k : Int), .int .i64 (x : Int)] w fun e w' => e = .returned (.tuple #[tupN k x, .int .i64 0]) ∧ Below w.heap.size w w' := by
  rw [← (tup_facts h1 hk x).2.2.2.2.2.2.2.2.2.2]
  by_cases hj : cJ k = 2
  · have := tuple_j2 k x w h1 hk hj (by omega) (by omega) hg
    unfold tY; rw [if_pos hj]; exact this
  · have hj0 : cJ k = 0 := by unfold cJ at hj ⊢; split <;> simp_all
    have := tuple_j0 k x w h1 hk hj0 (by omega) (by omega) hg
    unfold tY; rw [if_neg hj]; exact this

/-! rows -/
def zs (n : Nat) : List Nat := List.replicate n 0
def flp (l : List Nat) (i : Nat) : List Nat := l.set i (l.getD i 0 ^^^ 1)
def meets (l : List Nat) (ps : List Nat) : List Nat := ps.foldl flp l
theorem zs_length (n : Nat) : (zs n).length = n := by simp [zs]
theorem zs_bytes (n : Nat) : Bytes (zs n) := fun x hx => by simp [zs] at hx; omega
theorem flp_length (l : List Nat) (i : Nat) : (flp l i).length = l.length := by simp [flp]
theorem flp_bytes {l : List Nat} (h : Bytes l) (i : Nat) : Bytes (flp l i) := fun x hx => by
  rcases List.mem_or_eq_of_mem_set hx with h1 | h1
  · exact h x h1
  · rw [h1]; exact xor_lt (h.getD i) (by decide)
theorem meets_length (ps : List Nat) : ∀ l, (meets l ps).length = l.length := by
  induction ps with
  | nil => intro l; rfl
  | cons p ps ih => intro l; show (meets (flp l p) ps).length = _; rw [ih, flp_length]
theorem meets_bytes (ps : List Nat) : ∀ {l}, Bytes l → Bytes (meets l ps) := by
  induction ps with
  | nil => intro l h; exact h
  | cons p ps ih => intro l h; exact ih (flp_bytes h p)
theorem meets_snoc (l : List Nat) (ps : List Nat) (p : Nat) : meets l (ps ++ [p]) = flp (meets l ps) p := by unfold meets; rw [List.foldl_append]; rfl
theorem meets_take {ps : List Nat} {m : Nat} (l : List Nat) (h : m < ps.length) : meets l (ps.take (m + 1)) = flp (meets l (ps.take m)) (ps.getD m 0) := by
  rw [List.take_succ_eq_append_getElem h, meets_snoc, List.getD_eq_getElem?_getD, List.getElem?_eq_getElem h]; rfl
/-- b, b + a, .. modulo W: the row that meets them, and the next. -/
def ltR (a W : Nat) (s : List Nat × Nat) : Nat → List Nat × Nat
  | 0 => s
  | n + 1 => (flp (ltR a W s n).1 (ltR a W s n).2, ((ltR a W s n).2 + a) % W)
def piR (a1 P P1 W : Nat) (s : List Nat × Nat) : Nat → List Nat × Nat
  | 0 => s
  | n + 1 => (flp (piR a1 P P1 W s n).1 (W + dn a1 P P1 32 (piR a1 P P1 W s n).2), (dn a1 P P1 32 (piR a1 P P1 W s n).2 + a1) % P1)
def placeG (D A Bb D1 A1 B1 P P1 W L : Nat) : List Nat := (piR A1 P P1 W ((ltR A W (zs L, Bb) D).1, B1) D1).1
def placeR (k x : Nat) : List Nat := placeG (tD k x) (tA k x) (tB k x) (tD1 k x) (tA1 k x) (tB1 k x) (cP k) (cP1 k) (cW k) (cL k)
theorem ltR_len (a W : Nat) (s : List Nat × Nat) : ∀ n, (ltR a W s n).1.length = s.1.length
  | 0 => rfl
  | n + 1 => by simp only [ltR]; rw [flp_length, ltR_len a W s n]
theorem piR_len (a1 P P1 W : Nat) (s : List Nat × Nat) : ∀ n, (piR a1 P P1 W s n).1.length = s.1.length
  | 0 => rfl
  | n + 1 => by simp only [piR]; rw [flp_length, piR_len a1 P P1 W s n]
theorem ltR_bytes (a W : Nat) {s : List Nat × Nat} (h : Bytes s.1) : ∀ n, Bytes (ltR a W s n).1
  | 0 => h
  | n + 1 => flp_bytes (ltR_bytes a W h n) _
theorem piR_bytes (a1 P P1 W : Nat) {s : List Nat × Nat} (h : Bytes s.1) : ∀ n, Bytes (piR a1 P P1 W s n).1
  | 0 => h
  | n + 1 => flp_bytes (piR_bytes a1 P P1 W h n) _
theorem ltR_lt {a W : Nat} {s : List Nat × Nat} (hW : 0 < W) (h : s.2 < W) : ∀ n, (ltR a W s n).2 < W
  | 0 => h
  | _ + 1 => Nat.mod_lt _ hW
theorem piR_lt {a1 P P1 W : Nat} {s : List Nat × Nat} (hP : 0 < P1) (h : s.2 < P1) : ∀ n, (piR a1 P P1 W s n).2 < P1
  | 0 => h
  | _ + 1 => Nat.mod_lt _ hP
theorem placeG_length (D A Bb D1 A1 B1 P P1 W L : Nat) : (placeG D A Bb D1 A1 B1 P P1 W L).length = L := by unfold placeG; rw [piR_len]; exact (ltR_len _ _ _ _).trans (zs_length L)
theorem placeG_bytes (D A Bb D1 A1 B1 P P1 W L : Nat) : Bytes (placeG D A Bb D1 A1 B1 P P1 W L) := by
  unfold placeG
  refine piR_bytes _ _ _ _ ?_ _
  exact ltR_bytes _ _ (zs_bytes L) _
theorem placeR_length (k x : Nat) : (placeR k x).length = cL k := placeG_length _ _ _ _ _ _ _ _ _ _
theorem placeR_bytes (k x : Nat) : Bytes (placeR k x) := placeG_bytes _ _ _ _ _ _ _ _ _ _

/-! the light rows -/
def lit0 (k i : Nat) : List Nat := meets (zs (cL k)) [cB k + i, cW k + i % cP k, cW k + (i + 1) % cP k]
def lit1 (k n : Nat) : List (List Nat) := (List.range n).map (lit0 k) ++ List.replicate (cS k - n) []
def flpAt (ls : List (List Nat)) (r i : Nat) : List (List Nat) := ls.set r (flp (ls.getD r []) i)
def litI (k i s : Nat) : Nat := (i % cS k + s * (1 + i / cS k)) % cS k
def lit3 (k i : Nat) (m : List (List Nat)) : Nat → List (List Nat)
  | 0 => m
  | s + 1 => flpAt (lit3 k i m s) (litI k i s) i
def lit2 (k : Nat) : Nat → List (List Nat)
  | 0 => lit1 k (cS k)
  | i + 1 => lit3 k i (lit2 k i) 3
def lightP (k : Nat) : List (List Nat) := lit2 k (cB k)
/-! the heavy rows -/
def hvR (k h n : Nat) : List Nat := (List.range n).map (fun j => pw ((h + 1) * (j + 1) % 255)) ++ zs (cL k - n)
def hv0 (k h : Nat) : List Nat := flp (hvR k h (cKp k + cS k)) (cKp k + cS k + h)
def hv1 (k n : Nat) : List (List Nat) := (List.range n).map (hv0 k) ++ List.replicate (4 - n) []
def heavyP (k : Nat) : List (List Nat) := hv1 k 4
def fixedL (k : Nat) : List (List Nat) := lightP k ++ heavyP k ++ (List.range (cKp k - k)).map (fun i => placeR k (k + i))
theorem lit1_length {k n : Nat} (h : n ≤ cS k) : (lit1 k n).length = cS k := by simp [lit1]; omega
theorem lit3_length (k i : Nat) (m : List (List Nat)) : ∀ s, (lit3 k i m s).length = m.length
  | 0 => rfl
  | s + 1 => by simp only [lit3, flpAt, List.length_set]; exact lit3_length k i m s
theorem lit2_length (k : Nat) : ∀ i, (lit2 k i).length = cS k
  | 0 => lit1_length (Nat.le_refl _)
  | i + 1 => by simp only [lit2]; rw [lit3_length, lit2_length k i]
theorem lit0_length (k i : Nat) : (lit0 k i).length = cL k := by unfold lit0; rw [meets_length, zs_length]
theorem lit0_bytes (k i : Nat) : Bytes (lit0 k i) := meets_bytes _ (zs_bytes _)
def AllL (L : Nat) (ls : List (List Nat)) : Prop := ∀ l ∈ ls, Bytes l ∧ l.length = L
theorem AllL.flp {L : Nat} {ls : List (List Nat)} (h : AllL L ls) (r i : Nat) : AllL L (flpAt ls r i) := fun l hl => by
  by_cases hr : r < ls.length
  · rcases List.mem_or_eq_of_mem_set hl with h1 | h1
    · exact h l h1
    · have := h (ls.getD r []) (by rw [List.getD_eq_getElem?_getD, List.getElem?_eq_getElem hr]; exact List.getElem_mem hr)
      rw [h1]; exact ⟨flp_bytes this.1 _, by rw [flp_length]; exact this.2⟩
  · unfold flpAt at hl
    rw [List.set_eq_of_length_le (by omega)] at hl
    exact h l hl
theorem AllL.lit3 {L k i : Nat} {m : List (List Nat)} (h : AllL L m) : ∀ s, AllL L (lit3 k i m s)
  | 0 => h
  | s + 1 => (AllL.lit3 h s).flp _ _
theorem lit2_all (k : Nat) : ∀ i, AllL (cL k) (lit2 k i)
  | 0 => fun l hl => by
    simp only [lit2, lit1, Nat.sub_self, List.replicate_zero, List.append_nil, List.mem_map] at hl
    obtain ⟨i, -, rfl⟩ := hl
    exact ⟨lit0_bytes _ _, lit0_length _ _⟩
  | i + 1 => (lit2_all k i).lit3 _
theorem hvR_length {k h n : Nat} (hn : n ≤ cL k) : (hvR k h n).length = cL k := by simp [hvR, zs]; omega
theorem hvR_bytes (k h n : Nat) : Bytes (hvR k h n) := fun x hx => by
  rcases List.mem_append.1 hx with h1 | h1
  · obtain ⟨j, -, rfl⟩ := List.mem_map.1 h1; exact pw_lt _
  · exact zs_bytes _ x h1
theorem hv0_length (k h : Nat) : (hv0 k h).length = cL k := by unfold hv0; rw [flp_length, hvR_length (by unfold cL; omega)]
theorem hv0_bytes (k h : Nat) : Bytes (hv0 k h) := flp_bytes (hvR_bytes _ _ _) _
theorem heavy_all (k : Nat) : AllL (cL k) (heavyP k) := fun l hl => by
  simp only [heavyP, hv1, Nat.sub_self, List.replicate_zero, List.append_nil, List.mem_map] at hl
  obtain ⟨i, -, rfl⟩ := hl
  exact ⟨hv0_bytes _ _, hv0_length _ _⟩
theorem light_length (k : Nat) : (lightP k).length = cS k := lit2_length k _
theorem heavy_length (k : Nat) : (heavyP k).length = 4 := by simp [heavyP, hv1]
theorem fixed_all (k : Nat) : AllL (cL k) (fixedL k) := fun l hl => by
  simp only [fixedL, List.mem_append, List.mem_map] at hl
  rcases hl with (h | h) | ⟨i, -, rfl⟩
  · exact lit2_all k _ l h
  · exact heavy_all k l h
  · exact ⟨placeR_bytes _ _, placeR_length _ _⟩
theorem fixed_length {k : Nat} (h : k ≤ cKp k) : (fixedL k).length = cL k - k := by
  simp only [fixedL, List.length_append, light_length, heavy_length, List.length_map, List.length_range]
  unfold cL; omega
end Go.Proofs.YtfjcbgfgiidogaaDoor
namespace Go.Proofs.YtfjcbgfgiidogaaDoor
open Go.RowKit

/-- rows of the call's own, each in a block of its own. -/
def OwnD (w : World) (B g n c : Nat) (hs : List HdT) (ls : List (List Nat)) : Prop :=
  w.ownsRow B 22 1 (.slice (some ⟨g, 0, none⟩) n c) n (hs.map SV) ∧ OwnsRows w B 5 hs ls ∧ Mem ls ∧ ∀ (i j : Nat) (x y : HdT), hs[i]? = some x → hs[j]? = some y → x.1 ≠ none → x.1 = y.1 → i = j
theorem OwnD.own {w : World} {B g n c : Nat} {hs : List HdT} {ls : List (List Nat)} (h : OwnD w B g n c hs ls) : OwnRs w B (some ⟨g, 0, none⟩) n c ls := by
  obtain ⟨h1, h2, h3, -⟩ := h
  exact ⟨by rw [← h2.1]; have := h1.1; simpa using this, hs, h1, h2, h3⟩
theorem OwnD.len {w : World} {B g n c : Nat} {hs : List HdT} {ls : List (List Nat)} (h : OwnD w B g n c hs ls) : hs.length = n := by have := h.1.1; simpa using this
theorem OwnD.below {w w' : World} {B g n c : Nat} {hs : List HdT} {ls : List (List Nat)} (h : OwnD w B g n c hs ls) (hb : Below w.heap.size w w') : OwnD w' B g n c hs ls :=
  ⟨h.1.kept (grownBy_of_below hb none) (by simp [Value.ownBlock]), h.2.1.below hb, h.2.2.1, h.2.2.2⟩
theorem own_shape {w : World} {B : Nat} {T : TypeId} {x : HdT} {n : Nat} {xs : List Value} (h : w.ownsRow B T 1 (SV x) n xs) {q : Nat} (hq : (SV x).ownBlock = some q) : x.1 = some ⟨q, 0, none⟩ := by
  obtain ⟨ad, cap, e, hc, -⟩ := ownsRow_parts h
  unfold SV at e hq
  injection e with e1 e2 e3
  rcases hc with ⟨e4, -, -⟩ | ⟨g, e4, -, -⟩
  · rw [e1, e4] at hq; simp [Value.ownBlock] at hq
  · rw [e1, e4] at hq ⊢
    simp [Value.ownBlock] at hq
    rw [hq]
theorem OwnD.put {w w' : World} {B g n c : Nat} {hs : List HdT} {ls : List (List Nat)} {i q L c' : Nat} {l' : List Nat} (h : OwnD w B g n c hs ls) (hx : hs[i]? = some (some ⟨q, 0, none⟩, L, c')) (hg : w.grownBy w' (some q)) (ho : w'.ownsRow B 5 1 (.slice (some ⟨q, 0, none⟩) L c') L (l'.map bv)) (hl : Bytes l') (hL : L ≤ 140737488355328) :
    OwnD w' B g n c hs (ls.set i l') := by
  obtain ⟨h1, h2, h3, h4⟩ := h
  have hi := (List.getElem?_eq_some_iff.1 hx).1
  obtain ⟨l, hl0⟩ : ∃ l, ls[i]? = some l := ⟨_, List.getElem?_eq_getElem (by rw [← h2.1]; exact hi)⟩
  have hoi := (h2.2 i _ l hx hl0).2
  have hll : l'.length = L := by have := ho.1; simpa using this
  refine ⟨h1.kept hg ?_, ⟨by simp [h2.1], fun j y m a b => ?_⟩, fun m hm => ?_, h4⟩
  · have := own_ne h1 hoi (by decide)
    simpa [Value.ownBlock, SV] using this
  · rw [List.getElem?_set] at b
    by_cases e : i = j
    · subst e
      rw [hx] at a
      injection a with a
      subst a
      rw [if_pos rfl, if_pos (by rw [← h2.1]; exact hi)] at b
      injection b with b
      subst b
      exact ⟨hll.symm, by rw [hll]; exact ho⟩
    · rw [if_neg e] at b
      have k := h2.2 j y m a b
      refine ⟨k.1, k.2.kept hg ?_⟩
      cases hk : (SV y).ownBlock with
      | none => exact .inl rfl
      | some q' =>
        right
        intro e2
        injection e2 with e2
        subst e2
        have := own_shape k.2 hk
        exact e (h4 i j _ y hx a (by simp) this.symm)
  · rcases List.mem_or_eq_of_mem_set hm with h | h
    · exact h3 m h
    · rw [h]; exact ⟨hl, by omega⟩
theorem OwnD.fresh {w : World} {B g n c : Nat} {hs : List HdT} {ls : List (List Nat)} {i : Nat} {x : HdT} {l : List Nat} (h : OwnD w B g n c hs ls) (hx : w.ownsRow B 5 1 (SV x) l.length (l.map bv)) (hxl : x.2.1 = l.length) (hl : Bytes l ∧ l.length ≤ 140737488355328) (hn : ∀ (j : Nat) (y : HdT), hs[j]? = some y → y.1 = none ∨ y.1 ≠ x.1) :
    OwnD (w.setCell ⟨g, i, none⟩ (SV x)) B g n c (hs.set i x) (ls.set i l) := by
  obtain ⟨h1, h2, h3, h4⟩ := h
  have hg := grown_set4 w g i (SV x)
  have k1 := own_set' h1 i (SV x)
  rw [← List.map_set] at k1
  have k2 : OwnsRows (w.setCell ⟨g, i, none⟩ (SV x)) B 5 hs ls := h2.kept hg (fun i y m a b => by
    have := own_ne (h2.2 i y m a b).2 h1 (by decide)
    simpa [Value.ownBlock] using this)
  have k3 := hx.kept hg (by
    have := own_ne hx h1 (by decide)
    simpa [Value.ownBlock] using this)
  refine ⟨k1, ⟨by simp [h2.1], fun j y m a b => ?_⟩, fun m hm => ?_, fun a b y z ha hb hne hyz => ?_⟩
  · rw [List.getElem?_set] at a b
    by_cases hi : i = j
    · rw [if_pos hi] at a b
      split at a
      · split at b
        · injection a with a
          injection b with b
          subst a b
          exact ⟨hxl, k3⟩
        · cases b
      · cases a
    · rw [if_neg hi] at a b
      exact k2.2 j y m a b
  · rcases List.mem_or_eq_of_mem_set hm with h | h
    · exact h3 m h
    · rw [h]; exact hl
  · rw [List.getElem?_set] at ha hb
    by_cases ea : i = a
    · by_cases eb : i = b
      · rw [← ea, ← eb]
      · rw [if_pos ea] at ha
        rw [if_neg eb] at hb
        split at ha
        · injection ha with ha
          subst ha
          rcases hn b z hb with e | e
          · exact absurd (hyz.trans e) hne
          · exact absurd hyz.symm e
        · cases ha
    · rw [if_neg ea] at ha
      by_cases eb : i = b
      · rw [if_pos eb] at hb
        split at hb
        · injection hb with hb
          subst hb
          rcases hn a y ha with e | e
          · exact absurd e hne
          · exact absurd hyz e
        · cases hb
      · rw [if_neg eb] at hb
        exact h4 a b y z ha hb hne hyz
theorem OwnD.made {w : World} {B g n : Nat} (h : w.ownsRow B 22 1 (.slice (some ⟨g, 0, none⟩) n n) n (List.replicate n NilS)) : OwnD w B g n n (List.replicate n (none, 0, 0)) (List.replicate n []) := by
  refine ⟨by rw [List.map_replicate]; exact h, ⟨by simp, fun i x l a b => ?_⟩, fun m hm => ?_, fun i j x y a _ hne _ => ?_⟩
  · rw [List.getElem?_replicate] at a b
    by_cases hi : i < n
    · rw [if_pos hi] at a b
      injection a with a
      injection b with b
      subst a b
      exact ⟨rfl, ⟨rfl, .inl ⟨rfl, rfl⟩⟩⟩
    · rw [if_neg hi] at a
      cases a
  · rw [List.eq_of_mem_replicate hm]; exact ⟨fun x hx => by simp at hx, by simp⟩
  · rw [List.getElem?_replicate] at a
    split at a
    · injection a with a
      subst a
      exact absurd rfl hne
    · cases a
/-- the cell of a row, and the row. -/
theorem OwnD.row {w : World} {B g n c : Nat} {hs : List HdT} {ls : List (List Nat)} {i : Nat} (h : OwnD w B g n c hs ls) (hi : i < n) (hl : 0 < (ls.getD i []).length) : ∃ q c', hs[i]? = some (some ⟨q, 0, none⟩, (ls.getD i []).length, c') ∧ w.cell? ⟨g, i, none⟩ = some (.slice (some ⟨q, 0, none⟩) (ls.getD i []).length c') ∧ w.ownsRow B 5 1 (.slice (some ⟨q, 0, none⟩) (ls.getD i []).length c') (ls.getD i []).length ((ls.getD i []).map bv) ∧ Bytes (ls.getD i []) := by
  have hlen := h.len
  obtain ⟨h1, h2, h3, h4⟩ := h
  obtain ⟨⟨a', n', c'⟩, hx⟩ : ∃ x, hs[i]? = some x := ⟨_, List.getElem?_eq_getElem (by omega)⟩
  obtain ⟨l, hli⟩ : ∃ l, ls[i]? = some l := ⟨_, List.getElem?_eq_getElem (by rw [← h2.1]; omega)⟩
  have e : ls.getD i [] = l := by rw [List.getD_eq_getElem?_getD, hli]; rfl
  rw [e] at hl ⊢
  obtain ⟨e1, ho⟩ := h2.2 i _ l hx hli
  simp only at e1
  subst e1
  obtain ⟨q, rfl⟩ := own_some (a := a') ho hl
  have hm := h3 l (List.mem_of_getElem? hli)
  obtain ⟨_, _, e, -, -, -, hrow⟩ := ownsRow_parts h1
  cases e
  obtain ⟨b, off, e, hc⟩ := hrow.2 (by omega)
  injection e with e
  injection e with e1 e2
  subst e1 e2
  have hci := hc i (by omega)
  rw [List.getElem?_map, hx, Nat.zero_add] at hci
  exact ⟨q, c', hx, hci, ho, hm.1⟩

/-! rows that are only read -/
def RowAt (w : World) (B : Nat) (x : HdT) (l : List Nat) : Prop := BytesV w x l ∧ ((∃ b, w.ownsRow b 5 1 (SV x) l.length (l.map bv)) ∨ ∀ a, x.1 = some a → 0 < x.2.1 → a.block < B)
def HdV (w : World) (B : Nat) (a : Option Addr) (n c : Nat) (ls : List (List Nat)) : Prop :=
  ls.length = n ∧ ∃ hs : List HdT, w.ownsRow B 22 1 (.slice a n c) n (hs.map SV) ∧ hs.length = ls.length ∧ ∀ (i : Nat) x l, hs[i]? = some x → ls[i]? = some l → RowAt w B x l
theorem RowAt.keep {w w' : World} {B : Nat} {x : HdT} {l : List Nat} {row : Option Nat} (h : RowAt w B x l) (hg : w.grownBy w' row) (hrow : ∀ k, row = some k → B ≤ k ∧ ∃ cs T fr, w.heap[k]? = some (.cells cs T fr) ∧ T ≠ 5) : RowAt w' B x l := by
  obtain ⟨h1, h2⟩ := h
  have key : ∀ a, x.1 = some a → (0 < x.2.1) → row ≠ some a.block := fun a ha h0 e => by
    obtain ⟨hB, cs, T, fr, hh, hT⟩ := hrow _ e
    rcases h2 with ⟨b, ho⟩ | ho
    · rcases ho.2 with ⟨e2, _⟩ | ⟨g', cap', cur, e2, _, hh2, _⟩
      · unfold SV at e2; injection e2 with e2; rw [ha] at e2; cases e2
      · unfold SV at e2
        injection e2 with e2
        rw [ha] at e2
        injection e2 with e2
        rw [e2] at hh
        rw [hh2] at hh
        injection hh with hh
        injection hh with _ ht
        exact hT ht.symm
    · have := ho a ha h0; omega
  refine ⟨⟨h1.row.kept' fun h0 a ha => hg.block _ (h1.row.lt h0 ha) (fun e => key a ha h0 e.symm), h1.bytes, h1.small, h1.cap, h1.nil⟩, ?_⟩
  rcases h2 with ⟨b, ho⟩ | ho
  · refine .inl ⟨b, ho.kept hg ?_⟩
    cases hk : (SV x).ownBlock with
    | none => exact .inl rfl
    | some q =>
      right
      intro e
      have hx := own_shape ho hk
      obtain ⟨hB, cs, T, fr, hh, hT⟩ := hrow _ e.symm
      rcases ho.2 with ⟨e2, _⟩ | ⟨g', cap', cur, e2, _, hh2, _⟩
      · unfold SV at e2; injection e2 with e2; rw [hx] at e2; cases e2
      · unfold SV at e2
        injection e2 with e2
        rw [hx] at e2
        injection e2 with e2
        injection e2 with e2
        rw [e2] at hh
        rw [hh2] at hh
        injection hh with hh
        injection hh with _ ht
        exact hT ht.symm
  · exact .inr ho
theorem RowAt.below {w w' : World} {B : Nat} {x : HdT} {l : List Nat} (h : RowAt w B x l) (hb : Below w.heap.size w w') : RowAt w' B x l := h.keep (grownBy_of_below hb none) (fun k e => by cases e)
theorem own_row {w : World} {B : Nat} {v : Value} {n : Nat} {xs : List Value} (h : w.ownsRow B 22 1 v n xs) : ∀ k, v.ownBlock = some k → B ≤ k ∧ ∃ cs T fr, w.heap[k]? = some (.cells cs T fr) ∧ T ≠ 5 := fun k hk => by
  refine ⟨ownBlock_ge h k hk, ?_⟩
  rcases h.2 with ⟨rfl, _⟩ | ⟨g, cap, cur, rfl, _, hh, _⟩
  · cases hk
  · simp [Value.ownBlock] at hk
    subst hk
    exact ⟨_, _, _, hh, by decide⟩
theorem HdV.keep {w w' : World} {B : Nat} {a : Option Addr} {n c : Nat} {ls : List (List Nat)} {row : Option Nat} (h : HdV w B a n c ls) (hg : w.grownBy w' row) (hrow : ∀ k, row = some k → B ≤ k ∧ ∃ cs T fr, w.heap[k]? = some (.cells cs T fr) ∧ T ≠ 5) (hne : (Value.slice a n c).ownBlock = none ∨ (Value.slice a n c).ownBlock ≠ row) : HdV w' B a n c ls := by
  obtain ⟨h0, hs, h1, h2, h3⟩ := h
  exact ⟨h0, hs, h1.kept hg hne, h2, fun i x l a b => (h3 i x l a b).keep hg hrow⟩
theorem HdV.below {w w' : World} {B : Nat} {a : Option Addr} {n c : Nat} {ls : List (List Nat)} (h : HdV w B a n c ls) (hb : Below w.heap.size w w') : HdV w' B a n c ls :=
  h.keep (grownBy_of_below hb none) (fun k e => by cases e) (by cases (Value.slice a n c).ownBlock <;> simp)
theorem HdV.rd {w : World} {B : Nat} {a : Option Addr} {n c : Nat} {ls : List (List Nat)} (h : HdV w B a n c ls) : RD w a n ls := by
  obtain ⟨h0, hs, h1, h2, h3⟩ := h
  obtain ⟨_, _, e, _, _, _, k⟩ := ownsRow_parts h1
  cases e
  exact ⟨h0, hs, k, h2, fun i x l a b => (h3 i x l a b).1⟩
theorem HdV.lt {w : World} {B : Nat} {g n c : Nat} {ls : List (List Nat)} (h : HdV w B (some ⟨g, 0, none⟩) n c ls) : B ≤ g ∧ g < w.heap.size := by
  obtain ⟨_, hs, h1, -⟩ := h
  exact h1.lt g rfl
theorem hd_append {wm w' : World} {B n m : Nat} {a : Option Addr} {c : Nat} {hs ks : List HdT} {ls xs : List (List Nat)} {v' : Value} (ho : wm.ownsRow B 22 1 (.slice a n c) n (hs.map SV)) (hl : hs.length = ls.length) (hr : ∀ (i : Nat) x l, hs[i]? = some x → ls[i]? = some l → RowAt wm B x l)
    (kl : ks.length = xs.length) (km : ks.length = m) (kr : ∀ (i : Nat) x l, ks[i]? = some x → xs[i]? = some l → RowAt wm B x l)
    (hE : w'.ownsRow B 22 1 v' (n + m) (hs.map SV ++ ks.map SV)) (g : wm.grownBy w' (Value.slice a n c).ownBlock) : ∃ a' c', v' = .slice a' (n + m) c' ∧ HdV w' B a' (n + m) c' (ls ++ xs) := by
  obtain ⟨a', c', rfl, -⟩ := ownsRow_parts hE
  have hn : hs.length = n := by have := ho.1; simpa using this
  rw [← List.map_append] at hE
  refine ⟨a', c', rfl, by simp; omega, hs ++ ks, hE, by simp; omega, fun i x l h1 h2 => ?_⟩
  by_cases hi : i < hs.length
  · rw [List.getElem?_append_left hi] at h1
    rw [List.getElem?_append_left (by rw [← hl]; exact hi)] at h2
    exact (hr i x l h1 h2).keep g (own_row ho)
  · rw [List.getElem?_append_right (by omega)] at h1
    rw [List.getElem?_append_right (by rw [← hl]; omega), ← hl] at h2
    exact (kr _ x l h1 h2).keep g (own_row ho)
theorem HdV.nil (w : World) (B : Nat) : HdV w B none 0 0 [] := ⟨rfl, [], ⟨rfl, .inl ⟨rfl, rfl⟩⟩, rfl, fun i x l h => by simp at h⟩
/-- the rows of the call's own, and what was there. -/
theorem OwnRs.rows {w : World} {B : Nat} {a : Option Addr} {n c : Nat} {ls : List (List Nat)} (h : OwnRs w B a n c ls) (B' : Nat) : ∃ ks : List HdT, ks.length = ls.length ∧ RowV w a n (ks.map SV) ∧ ∀ (i : Nat) x l, ks[i]? = some x → ls[i]? = some l → RowAt w B' x l := by
  obtain ⟨h0, hs, h1, h2, h3⟩ := h
  obtain ⟨_, _, e, _, _, _, k⟩ := ownsRow_parts h1
  cases e
  exact ⟨hs, h2.1, k, fun i x l a b => ⟨(h2.rowsV h3).2 i x l a b, .inl ⟨B, (h2.2 i x l a b).2⟩⟩⟩
theorem rd_rows {w0 w : World} {B : Nat} {a : Option Addr} {n : Nat} {ls : List (List Nat)} (h : RD w0 a n ls) (hB : w0.heap.size ≤ B) (hb : Below w0.heap.size w0 w) : ∃ ks : List HdT, ks.length = ls.length ∧ RowV w a n (ks.map SV) ∧ ∀ (i : Nat) x l, ks[i]? = some x → ls[i]? = some l → RowAt w B x l := by
  obtain ⟨h0, hs, h1, h2⟩ := h
  refine ⟨hs, h2.1, h1.below hb, fun i x l a b => ⟨(h2.2 i x l a b).below hb, .inr fun ad e hl => ?_⟩⟩
  have := (h2.2 i x l a b).row.lt hl e
  omega
end Go.Proofs.YtfjcbgfgiidogaaDoor
namespace Go.Proofs.YtfjcbgfgiidogaaDoor
open Go.RowKit

def nv (n : Nat) : Value := .int .i64 (n : Nat)
theorem own_cell {w : World} {B q L c : Nat} {l : List Nat} (h : w.ownsRow B 5 1 (.slice (some ⟨q, 0, none⟩) L c) L (l.map bv)) {p : Nat} (hp : p < L) : w.cell? ⟨q, p, none⟩ = some (.int .u8 (l.getD p 0 : Nat)) := by
  obtain ⟨_, _, e, -, -, -, hrow⟩ := ownsRow_parts h
  cases e
  obtain ⟨b, off, e, hc⟩ := hrow.2 (by omega)
  injection e with e
  injection e with e1 e2
  subst e1 e2
  have := hc p hp
  rw [Nat.zero_add] at this
  have hl : l.length = L := by have := h.1; simpa using this
  exact this.trans (bv_getD (by omega))
theorem flp_map (l : List Nat) (p : Nat) : (flp l p).map bv = (l.map bv).set p (.int .u8 ((l.getD p 0 ^^^ 1 : Nat) : Int)) := by
  unfold flp; rw [List.map_set]; rfl
set_option maxRecDepth 100000 in
set_option maxHeartbeats 2000000 in
theorem meet_own (B q L c : Nat) (l : List Nat) (pa : Option Addr) (np pc : Nat) (ps : List Nat) (w : World) (ho : w.ownsRow B 5 1 (.slice (some ⟨q, 0, none⟩) L c) L (l.map bv)) (hl : Bytes l) (hp : RowV w pa np (ps.map nv)) (hne : ∀ a, pa = some a → a.block ≠ q) (hlt : ∀ p ∈ ps, p < L) (hn : np ≤ 1000) :
    Calls Tryd.prog 88 #[.slice (some ⟨q, 0, none⟩) L c, .slice pa np pc] w fun e w' => e = .returned (.tuple #[]) ∧ w'.ownsRow B 5 1 (.slice (some ⟨q, 0, none⟩) L c) L ((meets l ps).map bv) ∧ w.grownBy w' (some q) := by
  have HPL := Lib.hid (show ps.length = np by have := hp.1; simpa using this)
  have HP := Lib.hid hp
  have HO := Lib.hid ho
  have HNE := Lib.hid hne
  have HLT := Lib.hid hlt
  have HB := Lib.hid hl
  clear hp ho hne hlt hl
  go_enter Tryd.func88, Tryd.ntmps88
  go_wp2_with fail
  go_loopw [8] (fun vi wr => ∃ m : Nat, m ≤ np ∧ vi = .int .i64 (m : Nat) ∧ Hid (wr.ownsRow B 5 1 (.slice (some ⟨q, 0, none⟩) L c) L ((meets l (ps.take m)).map bv)) ∧ Hid (w.grownBy wr (some q))) (fun vi _ => (np - intOf vi).toNat)
  case atStart => exact ⟨0, Nat.zero_le _, rfl, HO, Lib.hid (World.grownBy_refl _ _)⟩
  case round =>
    obtain ⟨m, hm, rfl, hO, hG⟩ := hrel
    by_cases hlt : m < np
    · obtain ⟨b, off, rfl, hc⟩ := HP.out.2 (by omega)
      have hc' := hc m hlt
      obtain ⟨p, hpp⟩ : ∃ p, ps[m]? = some p := ⟨_, List.getElem?_eq_getElem (by rw [HPL.out]; exact hlt)⟩
      rw [List.getElem?_map, hpp] at hc'
      have hpL := HLT.out p (List.mem_of_getElem? hpp)
      have hbq := HNE.out _ rfl
      have hcw : wr.cell? ⟨b, off + m, none⟩ = some (.int .i64 (p : Nat)) := (World.cell?_of_block (hG.out.block b (block_lt_of_cell hc') (fun e => hbq (Option.some.inj e)))).trans hc'
      have hST := Lib.hid (show meets l (ps.take (m + 1)) = flp (meets l (ps.take m)) p by rw [meets_take l (by rw [HPL.out]; exact hlt), List.getD_eq_getElem?_getD, hpp]; rfl)
      have hq := own_cell hO.out hpL
      obtain ⟨x, hx⟩ : ∃ x, (meets l (ps.take m)).getD p 0 = x := ⟨_, rfl⟩
      have hx256 : x < 256 := by rw [← hx]; exact (meets_bytes _ HB.out).getD p
      rw [hx] at hq
      have hxx := u8_xor_nat x 1 hx256 (by omega)
      rw [show ((1 : Nat) : Int) = 1 from rfl] at hxx
      have hO2 := own_set' hO.out p (.int .u8 ((x ^^^ 1 : Nat) : Int))
      have hfr : wr.frozen? ⟨q, p, none⟩ = false := hO.out.frozenAt p
      rw [← hx, ← flp_map, ← hST.out, hx] at hO2
      have HO2 := Lib.hid hO2
      have HG2 := Lib.hid (grownBy_trans hG.out (grown_set4 wr q p (.int .u8 ((x ^^^ 1 : Nat) : Int))))
      clear hc' hc hpp hbq hST hx hO2 hO hG
      obtain ⟨y, hy⟩ : ∃ y, y = x ^^^ 1 := ⟨_, rfl⟩
      rw [← hy] at hxx HO2 HG2
      clear hy
      go_wp2
      go_roundw
      case rel => exact ⟨m + 1, by omega, by go_num, HO2, HG2⟩
      case measure => simp [intOf] <;> omega
    · obtain rfl : m = np := by omega
      have hO' := hO.out
      rw [List.take_of_length_le (by rw [HPL.out]; exact Nat.le_refl _)] at hO'
      have HO2 := Lib.hid hO'
      clear hO'
      go_wp2
      exact bodyPost_end (results_none rfl _ _ _) rfl ⟨rfl, HO2.out, hG.out⟩
end Go.Proofs.YtfjcbgfgiidogaaDoor
namespace Go.Proofs.YtfjcbgfgiidogaaDoor
open Go.RowKit

def matCells (k : Nat) (v : Value) : Array Value := #[.int .i64 (k : Nat), .int .i64 (cKp k : Nat), .int .i64 (cS k : Nat), .int .i64 4, .int .i64 (cL k : Nat), .int .i64 (cW k : Nat), .int .i64 (cP k : Nat), .int .i64 (cP1 k : Nat), .int .i64 (cB k : Nat), .int .i64 (cJ k : Nat), v]
/-- block p is a matrix of a code. -/
def MatC (w : World) (p k : Nat) : Prop := ∃ v, w.heap[p]? = some (.cells (matCells k v) 108 (0, 0))
theorem MatC.below {w w' : World} {p k : Nat} (h : MatC w p k) (hb : Below w.heap.size w w') : MatC w' p k := by
  obtain ⟨v, hg⟩ := h
  exact ⟨v, (hb.block p (Array.getElem?_eq_some_iff.1 hg).1).trans hg⟩
theorem MatC.cells {w : World} {p k : Nat} (h : MatC w p k) : w.cell? ⟨p, 0, none⟩ = some (.int .i64 (k : Nat)) ∧ w.cell? ⟨p, 1, none⟩ = some (.int .i64 (cKp k : Nat)) ∧ w.cell? ⟨p, 2, none⟩ = some (.int .i64 (cS k : Nat)) ∧ w.cell? ⟨p, 3, none⟩ = some (.int .i64 4) ∧ w.cell? ⟨p, 4, none⟩ = some (.int .i64 (cL k : Nat)) ∧ w.cell? ⟨p, 5, none⟩ = some (.int .i64 (cW k : Nat)) ∧ w.cell? ⟨p, 6, none⟩ = some (.int .i64 (cP k : Nat)) ∧ w.cell? ⟨p, 7, none⟩ = some (.int .i64 (cP1 k : Nat)) ∧ w.cell? ⟨p, 8, none⟩ = some (.int .i64 (cB k : Nat)) := by
  obtain ⟨v, hg⟩ := h
  refine ⟨?_, ?_, ?_, ?_, ?_, ?_, ?_, ?_, ?_⟩ <;> (rw [cell_of_row _ _ _ _ _ _ hg]; rfl)
theorem MatC.lt {w : World} {p k : Nat} (h : MatC w p k) : p < w.heap.size := by
  obtain ⟨v, hg⟩ := h
  exact (Array.getElem?_eq_some_iff.1 hg).1
theorem bv_zs (n : Nat) : (zs n).map bv = List.replicate n (Value.int .u8 0) := by simp [zs, bv]
theorem rowV_one (w : World) (p : Nat) (T : TypeId) : RowV (w.alloc (.cells #[.int .i64 (p : Nat)] T)) (some ⟨w.heap.size, 0, none⟩) 1 ([p].map nv) := rowV_lit w _ T _ 1 _ rfl rfl rfl

theorem mod_nat {b a W : Nat} (h : b + a < 100000) : (wrap64 ((b : Int) + (a : Int))).tmod (W : Int) = (((b + a) % W : Nat) : Int) := by
  rw [IntWalk.wrap64_in _ (by omega), Int.tmod_eq_emod_of_nonneg (by omega), Int.natCast_emod, Int.natCast_add]
theorem below_drewR {B : Nat} {a w : World} (h : Below B a w) : ∀ n, Below B a (w.drewN n)
  | 0 => h
  | n + 1 => (below_drewR h n).drew
theorem own_drewR {w : World} {B : Nat} {T : TypeId} {v : Value} {n : Nat} {xs : List Value} (h : w.ownsRow B T 1 v n xs) (m : Nat) : (w.drewN m).ownsRow B T 1 v n xs :=
  h.kept (grownBy_of_below (below_drewR (Below.refl _ _) m) none) (by cases v.ownBlock <;> simp)
theorem heap_drewR {w : World} {g : Nat} {o : Obj} (h : w.heap[g]? = some o) (m : Nat) : (w.drewN m).heap[g]? = some o :=
  ((below_drewR (Below.refl _ _) m).block g (Array.getElem?_eq_some_iff.1 h).1).trans h
set_option maxRecDepth 100000 in
set_option maxHeartbeats 4000000 in
theorem row_gen (p k x D A Bb D1 A1 B1 P P1 W L : Nat) (w : World) (KT : Calls Tryd.prog 87 #[.int .i64 (k : Int), .int .i64 (x : Int)] w fun e w' => e = .returned (.tuple #[.agg #[.int .i64 (D : Nat), .int .i64 (A : Nat), .int .i64 (Bb : Nat), .int .i64 (D1 : Nat), .int .i64 (A1 : Nat), .int .i64 (B1 : Nat)], .int .i64 0]) ∧ Below w.heap.size w w')
    (m0 : w.cell? ⟨p, 0, none⟩ = some (.int .i64 (k : Nat))) (m4 : w.cell? ⟨p, 4, none⟩ = some (.int .i64 (L : Nat))) (m5 : w.cell? ⟨p, 5, none⟩ = some (.int .i64 (W : Nat))) (m6 : w.cell? ⟨p, 6, none⟩ = some (.int .i64 (P : Nat))) (m7 : w.cell? ⟨p, 7, none⟩ = some (.int .i64 (P1 : Nat)))
    (t2 : D ≤ 30) (t4 : A < W) (t5 : Bb < W) (t7 : D1 ≤ 3) (t8 : 1 ≤ A1) (t9 : A1 < P1) (t10 : B1 < P1) (hWL : W + P = L) (hL100 : L ≤ 100) (hP1 : P1 ≤ 23)
    (hDN : ∀ b, b < P1 → dn A1 P P1 32 b < P ∧ (P ≤ b → dn A1 P P1 32 b = dn A1 P P1 32 ((b + A1) % P1) ∧ stp A1 P P1 32 b = stp A1 P P1 32 ((b + A1) % P1) + 1)) :
    Calls Tryd.prog 67 #[.pointer (some ⟨p, 0, none⟩), .int .i64 (x : Int)] w (GivesBytes 5 w (placeG D A Bb D1 A1 B1 P P1 W L)) := by
  obtain ⟨j0, hj, hy0, hy1, hy2⟩ := info_parts Tryd.info5
  have hPL := placeG_length D A Bb D1 A1 B1 P P1 W L
  have hPB := placeG_bytes D A Bb D1 A1 B1 P P1 W L
  unfold placeG at hPL hPB ⊢
  obtain ⟨s0, hs0⟩ : ∃ s : List Nat × Nat, s = (zs L, Bb) := ⟨_, rfl⟩
  have hs01 : s0.1 = zs L := by rw [hs0]
  have hs02 : s0.2 = Bb := by rw [hs0]
  rw [← hs0] at hPL hPB ⊢
  have HS1 := Lib.hid hs01
  have HS2 := Lib.hid hs02
  have HDN := Lib.hid hDN
  have HPL := Lib.hid hPL
  have HPB := Lib.hid hPB
  have HLL : Hid (∀ j, (ltR A W s0 j).1.length = L) := Lib.hid (fun j => by rw [ltR_len, hs01, zs_length])
  have HLB : Hid (∀ j, Bytes (ltR A W s0 j).1) := Lib.hid (fun j => ltR_bytes _ _ (by rw [hs01]; exact zs_bytes _) j)
  have HLT : Hid (∀ j, (ltR A W s0 j).2 < W) := Lib.hid (fun j => ltR_lt (by omega) (by rw [hs02]; exact t5) j)
  have HWL := Lib.hid hWL
  have hW100 : W ≤ 100 := by omega
  clear hDN hPL hPB hs0 hs01 hs02 hWL
  go_enter Tryd.func67, Tryd.ntmps67
  go_wp2_with fail
  (with_reducible refine KT.mono ?_)
  rintro e w1 ⟨rfl, hb1⟩
  have hs1 := hb1.size
  clear KT
  have hbA := hb1.alloc hs1 (.cells #[.int .i64 D, .int .i64 A, .int .i64 Bb, .int .i64 D1, .int .i64 A1, .int .i64 B1] 125)
  have q4 := cell_below m4 hbA
  go_wp2_with (first | (at_make; refine Hid.out ?_))
  refine Lib.hid ?_
  refine wpList_make_full _ rfl _ _ 22 rfl w.heap.size 5 j0 (.int .u8 0) 1 Tryd.underlying22 hj hy0 hy1 _ _ _ _ L rfl rfl rfl rfl (by rw [hy2]; omega) (by unfold maxLen; omega) hbA.size ?_
  intro w2 hown2 hgrow2
  have hT : w2.heap[w1.heap.size]? = some (.cells #[.int .i64 D, .int .i64 A, .int .i64 Bb, .int .i64 D1, .int .i64 A1, .int .i64 B1] 125 (0, 0)) := (hgrow2.block _ (by simp) (by simp)).trans (heap_alloc_new _ _)
  have hb2 := below_grown hbA hgrow2 (fun k e => by cases e)
  rw [show (Value.int .u8 0).cells = #[.int .u8 0] from rfl, Nat.mul_one, toList_madeCells_one, ← bv_zs, ← HS1.out] at hown2
  have hq : (w1.alloc (.cells #[.int .i64 D, .int .i64 A, .int .i64 Bb, .int .i64 D1, .int .i64 A1, .int .i64 B1] 125)).heap.size = w1.heap.size + 1 := by simp
  rw [hq] at hown2 ⊢
  obtain ⟨gt, hgt⟩ : ∃ g, g = w1.heap.size := ⟨_, rfl⟩
  obtain ⟨q, hqq⟩ : ∃ q, q = w1.heap.size + 1 := ⟨_, rfl⟩
  rw [← hqq] at hown2 ⊢
  rw [← hgt] at hT ⊢
  have hne : gt ≠ q := by omega
  have hqw : w.heap.size ≤ q := by omega
  have HT := Lib.hid hT
  have HO := Lib.hid hown2
  have HB2 := Lib.hid hb2
  clear hT hown2 hgrow2 hq hgt hqq q4 hbA hb1 hs1 hb2
  have c0 := cell_of_row _ _ 0 _ _ _ HT.out
  have c2 := cell_of_row _ _ 2 _ _ _ HT.out
  simp at c0 c2
  rw [← HS2.out] at c2
  go_wp2_with fail
  go_loopw [8, 29] (fun vb vj wr => ∃ j : Nat, j ≤ D ∧ vb = .int .i64 ((ltR A W s0 j).2 : Nat) ∧ vj = .int .i64 (j : Nat) ∧ Hid (wr.ownsRow w.heap.size 5 1 (.slice (some ⟨q, 0, none⟩) L L) L ((ltR A W s0 j).1.map bv)) ∧ Hid (wr.heap[gt]? = some (.cells #[.int .i64 D, .int .i64 A, .int .i64 Bb, .int .i64 D1, .int .i64 A1, .int .i64 B1] 125 (0, 0))) ∧ Hid (Below w.heap.size w wr)) (fun _ vj _ => (D - intOf vj).toNat)
  case atStart => exact ⟨0, Nat.zero_le _, rfl, rfl, HO, HT, HB2⟩
  case round =>
    obtain ⟨j, hj, rfl, rfl, hO, hT, hB⟩ := hrel
    clear c0 c2
    by_cases hlt : j < D
    · have hltb := HLT.out j
      have HST := Lib.hid (show ltR A W s0 (j + 1) = (flp (ltR A W s0 j).1 (ltR A W s0 j).2, ((ltR A W s0 j).2 + A) % W) from rfl)
      obtain ⟨r, hr⟩ : ∃ r, (ltR A W s0 j).1 = r := ⟨_, rfl⟩
      obtain ⟨b, hb⟩ : ∃ b, (ltR A W s0 j).2 = b := ⟨_, rfl⟩
      have hrb := HLB.out j
      rw [hr] at hO HST hrb
      rw [hb] at hltb HST ⊢
      have HRB := Lib.hid hrb
      clear hr hb hrb
      have KM := meet_own w.heap.size q L L r (some ⟨wr.heap.size, 0, none⟩) 1 1 [b] (wr.alloc (.cells #[.int .i64 (b : Nat)] 3)) (hO.out.alloc _) HRB.out (rowV_one wr b _) (fun a e => by
        injection e with e; rw [← e]; intro e2; have := (hO.out.lt q rfl).2; simp only at e2; omega) (fun p hp => by simp at hp; have := HWL.out; omega) (by omega)
      go_wp2_with fail
      (with_reducible refine KM.mono ?_)
      rintro e w3 ⟨rfl, o3, g3⟩
      have hB3 := below_grown (hB.out.alloc hB.out.size (.cells #[.int .i64 (b : Nat)] 3)) g3 (fun k e => by injection e with e; omega)
      have hT3 := (g3.block gt (by have := (Array.getElem?_eq_some_iff.1 hT.out).1; simp; omega) (fun e => hne (Option.some.inj e))).trans ((heap_alloc_old wr (.cells #[.int .i64 (b : Nat)] 3) (Array.getElem?_eq_some_iff.1 hT.out).1).trans hT.out)
      have o3' : w3.ownsRow w.heap.size 5 1 (.slice (some ⟨q, 0, none⟩) L L) L ((ltR A W s0 (j + 1)).1.map bv) := by rw [HST.out]; exact o3
      have HE2 := Lib.hid (show (ltR A W s0 (j + 1)).2 = (b + A) % W by rw [HST.out])
      have c1 := cell_of_row _ _ 1 _ _ _ hT3
      simp at c1
      have q5 := cell_below m5 hB3
      have HO3 := Lib.hid o3'
      have HT3 := Lib.hid hT3
      have HB3 := Lib.hid hB3
      have hW0 : (W : Int) ≠ 0 := by omega
      clear KM o3 g3 o3' hT3 hB3 hO hT hB HST
      have HAW := Lib.hid (mod_nat (b := b) (a := A) (W := W) (by omega))
      go_wp2
      go_quiet (fail)
      go_wp2
      go_roundw
      case rel => exact ⟨j + 1, by omega, by rw [HE2.out]; first | rw [HAW.out] | rw [Int.natCast_emod, Int.natCast_add], by go_num, Lib.hid (own_drewR HO3.out _), Lib.hid (heap_drewR HT3.out _), Lib.hid (below_drewR HB3.out _)⟩
      case measure => simp [intOf] <;> omega
    · obtain rfl : j = D := by omega
      clear hj hlt
      have c3 := cell_of_row _ _ 3 _ _ _ hT.out
      have c5 := cell_of_row _ _ 5 _ _ _ hT.out
      simp at c3 c5
      obtain ⟨s1, hs1⟩ : ∃ s : List Nat × Nat, s = ((ltR A W s0 j).1, B1) := ⟨_, rfl⟩
      have hs11 : s1.1 = (ltR A W s0 j).1 := by rw [hs1]
      have hs12 : s1.2 = B1 := by rw [hs1]
      rw [← hs1] at HPL HPB
      have HSE := Lib.hid hs1
      rw [← hs11] at hO
      rw [← hs12] at c5
      have HLL1 : Hid (∀ i, (piR A1 P P1 W s1 i).1.length = L) := Lib.hid (fun i => by rw [piR_len, hs11]; exact HLL.out j)
      have HLB1 : Hid (∀ i, Bytes (piR A1 P P1 W s1 i).1) := Lib.hid (fun i => piR_bytes _ _ _ _ (by rw [hs11]; exact HLB.out j) i)
      have HLT1 : Hid (∀ i, (piR A1 P P1 W s1 i).2 < P1) := Lib.hid (fun i => piR_lt (by omega) (by rw [hs12]; exact t10) i)
      clear hs1 hs11 hs12 HLL HLB HLT HS1 HS2
      go_wp2_with fail
      go_loopw [8, 50] (fun vb vj wr => ∃ i : Nat, i ≤ D1 ∧ vb = .int .i64 ((piR A1 P P1 W s1 i).2 : Nat) ∧ vj = .int .i64 (i : Nat) ∧ Hid (wr.ownsRow w.heap.size 5 1 (.slice (some ⟨q, 0, none⟩) L L) L ((piR A1 P P1 W s1 i).1.map bv)) ∧ Hid (wr.heap[gt]? = some (.cells #[.int .i64 j, .int .i64 A, .int .i64 Bb, .int .i64 D1, .int .i64 A1, .int .i64 B1] 125 (0, 0))) ∧ Hid (Below w.heap.size w wr)) (fun _ vj _ => (D1 - intOf vj).toNat)
      case atStart => exact ⟨0, Nat.zero_le _, rfl, rfl, hO, hT, hB⟩
      case round =>
        clear c3 c5 hO hT hB
        obtain ⟨i, hi, rfl, rfl, hO, hT, hB⟩ := hrel
        by_cases hlt : i < D1
        · have hltb := HLT1.out i
          have HST := Lib.hid (show piR A1 P P1 W s1 (i + 1) = (flp (piR A1 P P1 W s1 i).1 (W + dn A1 P P1 32 (piR A1 P P1 W s1 i).2), (dn A1 P P1 32 (piR A1 P P1 W s1 i).2 + A1) % P1) from rfl)
          obtain ⟨r, hr⟩ : ∃ r, (piR A1 P P1 W s1 i).1 = r := ⟨_, rfl⟩
          obtain ⟨b, hb⟩ : ∃ b, (piR A1 P P1 W s1 i).2 = b := ⟨_, rfl⟩
          have hrb := HLB1.out i
          rw [hr] at hO HST hrb
          rw [hb] at hltb HST ⊢
          have HRB := Lib.hid hrb
          clear hr hb hrb
          go_wp2_with fail
          go_loopw [8] (fun vb wj => ∃ b' : Nat, b' < P1 ∧ vb = .int .i64 (b' : Nat) ∧ Hid (dn A1 P P1 32 b' = dn A1 P P1 32 b) ∧ Hid (wj.ownsRow w.heap.size 5 1 (.slice (some ⟨q, 0, none⟩) L L) L (r.map bv)) ∧ Hid (wj.heap[gt]? = some (.cells #[.int .i64 j, .int .i64 A, .int .i64 Bb, .int .i64 D1, .int .i64 A1, .int .i64 B1] 125 (0, 0))) ∧ Hid (Below w.heap.size w wj)) (fun vb _ => stp A1 P P1 32 (intOf vb).toNat)
          case atStart => exact ⟨b, hltb, rfl, Lib.hid rfl, hO, hT, hB⟩
          case round =>
            clear hO hT hB
            obtain ⟨b', hb', rfl, hD, hO, hT, hB⟩ := hrel
            have q6 := cell_below m6 hB.out
            by_cases hge : P ≤ b'
            · have q7 := cell_below m7 hB.out
              have c4 := cell_of_row _ _ 4 _ _ _ hT.out
              simp at c4
              have HAW := Lib.hid (mod_nat (b := b') (a := A1) (W := P1) (by omega))
              have HF := Lib.hid ((HDN.out b' hb').2 hge)
              have hP0 : (P1 : Int) ≠ 0 := by omega
              go_wp2
              go_quiet (fail)
              go_wp2
              go_roundw
              case rel => exact ⟨(b' + A1) % P1, Nat.mod_lt _ (by omega), by first | rw [HAW.out] | rw [Int.natCast_emod, Int.natCast_add], Lib.hid (by rw [← HF.out.1]; exact hD.out), Lib.hid (own_drewR hO.out _), Lib.hid (heap_drewR hT.out _), Lib.hid (below_drewR hB.out _)⟩
              case measure =>
                simp only [intOf]
                rw [← Int.natCast_add, ← Int.natCast_emod, Int.toNat_natCast, Int.toNat_natCast]
                have := HF.out.2
                omega
            · have hdb : dn A1 P P1 32 b = b' := by
                rw [← hD.out]
                show (if b' < P then b' else _) = b'
                rw [if_pos (by omega)]
              rw [hdb] at HST
              have hdb2 : dn A1 P P1 32 b' = b' := by rw [hD.out, hdb]
              have q5 := cell_below m5 hB.out
              have HWLL := HWL.out
              have hlt5 : W + b' < L := by omega
              have KM := meet_own w.heap.size q L L r (some ⟨wr.heap.size, 0, none⟩) 1 1 [W + b'] (wr.alloc (.cells #[.int .i64 ((W + b' : Nat) : Int)] 3)) (hO.out.alloc _) HRB.out (rowV_one wr (W + b') _) (fun a e => by
                injection e with e; rw [← e]; intro e2; have := (hO.out.lt q rfl).2; simp only at e2; omega) (fun p hp => by simp at hp; omega) (by omega)
              rw [Int.natCast_add] at KM
              clear HWLL hlt5 hdb hdb2 hD
              go_wp2_with fail
              (with_reducible refine KM.mono ?_)
              rintro e w3 ⟨rfl, o3, g3⟩
              have hB3 := below_grown (hB.out.alloc hB.out.size (.cells #[.int .i64 ((W : Int) + (b' : Int))] 3)) g3 (fun k e => by injection e with e; omega)
              have hT3 := (g3.block gt (by have := (Array.getElem?_eq_some_iff.1 hT.out).1; simp; omega) (fun e => hne (Option.some.inj e))).trans ((heap_alloc_old wr (.cells #[.int .i64 ((W : Int) + (b' : Int))] 3) (Array.getElem?_eq_some_iff.1 hT.out).1).trans hT.out)
              have o3' : w3.ownsRow w.heap.size 5 1 (.slice (some ⟨q, 0, none⟩) L L) L ((piR A1 P P1 W s1 (i + 1)).1.map bv) := by rw [HST.out]; exact o3
              have HE2 := Lib.hid (show (piR A1 P P1 W s1 (i + 1)).2 = (b' + A1) % P1 by rw [HST.out])
              have c4 := cell_of_row _ _ 4 _ _ _ hT3
              simp at c4
              have q7 := cell_below m7 hB3
              have HO3 := Lib.hid o3'
              have HT3 := Lib.hid hT3
              have HB3 := Lib.hid hB3
              have hP0 : (P1 : Int) ≠ 0 := by omega
              have HAW := Lib.hid (mod_nat (b := b') (a := A1) (W := P1) (by omega))
              clear KM o3 g3 o3' hT3 hB3 hO hT hB HST q5 q6
              go_wp2
              go_quiet (fail)
              go_wp2
              go_roundw
              case rel => exact ⟨i + 1, by omega, by rw [HE2.out]; first | rw [HAW.out] | rw [Int.natCast_emod, Int.natCast_add], by go_num, Lib.hid (own_drewR HO3.out _), Lib.hid (heap_drewR HT3.out _), Lib.hid (below_drewR HB3.out _)⟩
              case measure => simp [intOf] <;> omega
        · obtain rfl : i = D1 := by omega
          have hPL := HPL.out
          go_wp2
          go_ret
          rw [← HSE.out]
          exact ⟨some ⟨q, 0, none⟩, L, by rw [hPL]; rfl, by rw [hPL]; exact hO.out, hB.out⟩
theorem row_own (p k x : Nat) (w : World) (h1 : 1 ≤ k) (hk : k ≤ 32) (hx : x ≤ 16777219) (hM : MatC w p k) (hg : Bnd w) :
    Calls Tryd.prog 67 #[.pointer (some ⟨p, 0, none⟩), .int .i64 (x : Int)] w (GivesBytes 5 w (placeR k x)) := by
  obtain ⟨f1, f2, f3, f4, f5, f6, f7, f8, f9, f10, f11, f12, f13, f14⟩ := code_facts h1 hk
  obtain ⟨t1, t2, t3, t4, t5, t6, t7, t8, t9, t10, -⟩ := tup_facts h1 hk x
  obtain ⟨m0, m1, m2, m3, m4, m5, m6, m7, m8⟩ := hM.cells
  have hL : cL k ≤ 100 := by unfold cL; generalize cKp k = a at *; generalize cS k = b at *; omega
  exact row_gen p k x _ _ _ _ _ _ _ _ _ _ w (tuple_any k x w h1 hk hx hg) m0 m4 m5 m6 m7 t2 t4 t5 t7 t8 t9 t10 ((Nat.add_comm _ _).trans f14) hL f13 (fun b hb => dn_facts h1 hk t8 t9 hb)
end Go.Proofs.YtfjcbgfgiidogaaDoor
