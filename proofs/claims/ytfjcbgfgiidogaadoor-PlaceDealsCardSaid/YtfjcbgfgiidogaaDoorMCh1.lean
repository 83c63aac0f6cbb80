/-
  Ch1: ChA ChB ChC ChD
-/
import Derived.Test.YtfjcbgfgiidogaaDoorMRq1
import Derived.Test.YtfjcbgfgiidogaaDoorMRq6
import Derived.Test.YtfjcbgfgiidogaaDoorMRq7
namespace Go.Proofs.YtfjcbgfgiidogaaDoor
open Go.RowKit

def chN (size t : Nat) : Nat := (size + t - 1) / t
def chZ (n : Nat) : Nat := (n + 31) / 32
def chK (n i : Nat) : Nat := n / chZ n + if i < n % chZ n then 1 else 0
/-- how many symbols the blocks ahead of one have. -/
def chS (n i : Nat) : Nat := i * (n / chZ n) + min i (n % chZ n)
def partsL (n : Nat) : List Nat := (List.range (chZ n)).map (chK n)
theorem partsL_length (n : Nat) : (partsL n).length = chZ n := by simp [partsL]
theorem chN_facts {size t : Nat} (h1 : 1 ≤ size) (h2 : size ≤ 1024) (h3 : 1 ≤ t) : 1 ≤ chN size t ∧ chN size t ≤ 1024 ∧ size ≤ chN size t * t ∧ chN size t * t < size + t := by
  have e : size + t - 1 = (chN size t) * t + (size + t - 1) % t := by
    unfold chN
    rw [Nat.mul_comm]; exact (Nat.div_add_mod _ _).symm
  have hm : (size + t - 1) % t < t := Nat.mod_lt _ (by omega)
  generalize chN size t = n at e ⊢
  generalize (size + t - 1) % t = r at e hm
  have h4 : 1 ≤ n := by
    rcases Nat.eq_zero_or_pos n with h | h
    · subst h; rw [Nat.zero_mul] at e; omega
    · exact h
  have h5 : n * 1 ≤ n * t := Nat.mul_le_mul_left n h3
  refine ⟨h4, ?_, by omega, by omega⟩
  -- n t < size + t, so (n - 1) t < size
  obtain ⟨p, rfl⟩ : ∃ p, n = p + 1 := ⟨n - 1, by omega⟩
  rw [Nat.add_mul, Nat.one_mul] at e
  have h6 : p * 1 ≤ p * t := Nat.mul_le_mul_left p h3
  omega
theorem chZ_facts {n : Nat} (h1 : 1 ≤ n) (h2 : n ≤ 1024) : 1 ≤ chZ n ∧ chZ n ≤ 32 ∧ n ≤ chZ n * 32 ∧ (chZ n - 1) * 32 < n ∧ chZ n ≤ n := by
  unfold chZ; omega
theorem chS_zero (n : Nat) : chS n 0 = 0 := by simp [chS]
theorem chS_succ (n i : Nat) : chS n (i + 1) = chS n i + chK n i := by
  unfold chS chK
  rw [Nat.add_mul, Nat.one_mul]
  split
  · omega
  · omega
theorem chS_end {n : Nat} : chS n (chZ n) = n := by
  unfold chS
  rcases Nat.eq_zero_or_pos (chZ n) with h | h
  · have : n = 0 := by unfold chZ at h; omega
    subst this; simp [h]
  · have hm := Nat.mod_lt n h
    have e := Nat.div_add_mod n (chZ n)
    rw [Nat.min_eq_right (by omega)]
    exact e
theorem chS_mono (n : Nat) {i j : Nat} (h : i ≤ j) : chS n i ≤ chS n j := by
  induction h with
  | refl => exact Nat.le_refl _
  | step _ ih => rw [chS_succ]; omega
theorem chK_facts {n i : Nat} (h1 : 1 ≤ n) (h2 : n ≤ 1024) (_hi : i < chZ n) : 1 ≤ chK n i ∧ chK n i ≤ 32 ∧ chK n i ≤ chK n 0 ∧ chK n 0 ≤ chK n i + 1 := by
  obtain ⟨z1, z2, z3, z4, z5⟩ := chZ_facts h1 h2
  have hq : 1 ≤ n / chZ n := (Nat.le_div_iff_mul_le (by omega)).2 (by omega)
  have e := Nat.div_add_mod n (chZ n)
  have hm := Nat.mod_lt n (show 0 < chZ n by omega)
  have hle : n / chZ n ≤ 32 := Nat.div_le_of_le_mul (by omega)
  have heq : n / chZ n = 32 → n % chZ n = 0 := fun h => by rw [h] at e; omega
  unfold chK
  generalize n / chZ n = q at *
  generalize n % chZ n = r at *
  by_cases h0 : 0 < r
  · rw [if_pos h0]
    have : q ≠ 32 := fun h => by have := heq h; omega
    split <;> omega
  · rw [if_neg h0, if_neg (by omega)]
    omega
/-- one symbol of a value, filled up with noughts. -/
def symOf (v : List Nat) (t s : Nat) : List Nat := (v.drop (s * t)).take t ++ zs (t - ((v.drop (s * t)).take t).length)
theorem symOf_length (v : List Nat) (t s : Nat) : (symOf v t s).length = t := by
  unfold symOf
  rw [List.length_append, zs_length]
  have : ((v.drop (s * t)).take t).length ≤ t := List.length_take_le _ _
  omega
theorem symOf_bytes {v : List Nat} (h : Bytes v) (t s : Nat) : Bytes (symOf v t s) := fun x hx => by
  rcases List.mem_append.1 hx with hx | hx
  · exact h x (List.mem_of_mem_drop (List.mem_of_mem_take hx))
  · exact zs_bytes _ x hx
theorem symOf_getD (v : List Nat) (t s j : Nat) (hj : j < t) : (symOf v t s).getD j 0 = v.getD (s * t + j) 0 := by
  unfold symOf
  rw [List.getD_eq_getElem?_getD, List.getD_eq_getElem?_getD, List.getElem?_append]
  split
  · rename_i h
    rw [List.getElem?_take, if_pos hj, List.getElem?_drop]
  · rename_i h
    rw [List.length_take, List.length_drop] at h
    rw [List.getElem?_eq_none (l := v) (by omega)]
    unfold zs
    rw [List.getElem?_replicate]
    split <;> rfl
def blockL (v : List Nat) (t n i : Nat) : List (List Nat) := (List.range (chK n i)).map fun j => symOf v t (chS n i + j)
def blocksL (v : List Nat) (t n : Nat) : List (List (List Nat)) := (List.range (chZ n)).map (blockL v t n)
theorem blockL_length (v : List Nat) (t n i : Nat) : (blockL v t n i).length = chK n i := by simp [blockL]
theorem blocksL_length (v : List Nat) (t n : Nat) : (blocksL v t n).length = chZ n := by simp [blocksL]
theorem blocksL_at {v : List Nat} {t n i : Nat} (h : i < chZ n) : (blocksL v t n)[i]? = some (blockL v t n i) := by
  unfold blocksL; rw [List.getElem?_map, List.getElem?_range h]; rfl
theorem blockL_all {v : List Nat} (h : Bytes v) (t n i : Nat) : AllL t (blockL v t n i) := fun l hl => by
  obtain ⟨j, -, rfl⟩ := List.mem_map.1 hl
  exact ⟨symOf_bytes h t _, symOf_length v t _⟩
theorem blockL_at {v : List Nat} {t n i j : Nat} (h : j < chK n i) : (blockL v t n i)[j]? = some (symOf v t (chS n i + j)) := by
  unfold blockL; rw [List.getElem?_map, List.getElem?_range h]; rfl
/-! the symbols behind one another -/
def allS (v : List Nat) (t m : Nat) : List Nat := ((List.range m).map (symOf v t)).flatten
theorem allS_succ (v : List Nat) (t m : Nat) : allS v t (m + 1) = allS v t m ++ symOf v t m := by
  unfold allS; rw [List.range_succ, List.map_append, List.flatten_append]; simp
theorem allS_length (v : List Nat) (t : Nat) : ∀ m, (allS v t m).length = m * t
  | 0 => by simp [allS]
  | m + 1 => by rw [allS_succ, List.length_append, allS_length v t m, symOf_length, Nat.add_mul, Nat.one_mul]
theorem allS_getD (v : List Nat) (t : Nat) : ∀ m j, j < m * t → (allS v t m).getD j 0 = v.getD j 0
  | 0, j, h => by omega
  | m + 1, j, h => by
    rw [allS_succ, List.getD_eq_getElem?_getD]
    have hl := allS_length v t m
    by_cases hj : j < m * t
    · rw [List.getElem?_append_left (by omega), ← List.getD_eq_getElem?_getD]
      exact allS_getD v t m j hj
    · rw [Nat.add_mul, Nat.one_mul] at h
      rw [List.getElem?_append_right (by omega), hl, ← List.getD_eq_getElem?_getD, symOf_getD _ _ _ _ (by omega)]
      congr 1; omega
theorem allS_take {v : List Nat} {t m : Nat} (h : v.length ≤ m * t) : (allS v t m).take v.length = v := by
  have hl := allS_length v t m
  refine ext_getD (by rw [List.length_take]; omega) fun i hi => ?_
  rw [List.length_take] at hi
  rw [List.getD_eq_getElem?_getD, List.getElem?_take, if_pos (by omega), ← List.getD_eq_getElem?_getD]
  exact allS_getD v t m i (by omega)
theorem blocks_flat (v : List Nat) (t n : Nat) : ∀ i, (((List.range i).map (blockL v t n)).map List.flatten).flatten = allS v t (chS n i)
  | 0 => by simp [chS_zero, allS]
  | i + 1 => by
    rw [List.range_succ, List.map_append, List.map_append, List.flatten_append, blocks_flat v t n i, chS_succ]
    simp only [List.map_cons, List.map_nil, List.flatten_cons, List.flatten_nil, List.append_nil]
    unfold blockL
    generalize chS n i = s
    generalize chK n i = k
    induction k with
    | zero => simp
    | succ k ih =>
      rw [List.range_succ, List.map_append, List.flatten_append, ← List.append_assoc, ih, ← Nat.add_assoc, allS_succ]
      simp
end Go.Proofs.YtfjcbgfgiidogaaDoor
namespace Go.Proofs.YtfjcbgfgiidogaaDoor
open Go.RowKit

abbrev Sy := Int × Int × List Nat
def okS (s : Int) : Bool := decide (1 ≤ s) && decide (s ≤ 1024)
theorem okS_iff {s : Int} : okS s = true ↔ 1 ≤ s ∧ s ≤ 1024 := by unfold okS; simp only [Bool.and_eq_true, decide_eq_true_iff]
theorem okT_iff {t : Int} : okT t = true ↔ 1 ≤ t ∧ t ≤ 64 := by unfold okT; simp only [Bool.and_eq_true, decide_eq_true_iff]
/-- the sizes' code: 0 where they are right. -/
def sizeC (s t : Int) : Int := if okS s = true then (if okT t = true then 0 else 30) else 50
theorem sizeC_zero {s t : Int} : sizeC s t = 0 ↔ okS s = true ∧ okT t = true := by
  unfold sizeC
  split
  · split <;> simp_all
  · simp_all
def partsR (s t : Int) : List Nat × Int := if sizeC s t = 0 then (partsL (chN s.toNat t.toNat), 0) else ([], sizeC s t)
def splitR (v : List Nat) (t : Int) : List (List (List Nat)) × Int := if sizeC v.length t = 0 then (blocksL v t.toNat (chN v.length t.toNat), 0) else ([], sizeC v.length t)
def symOfPc (b : Int) (p : Pc) : Sy := (b, p.1, p.2)
def symbolsR (v : List Nat) (t b : Int) (es : List Int) : List Sy × Int :=
  if sizeC v.length t = 0 then (if 0 ≤ b ∧ b < (chZ (chN v.length t.toNat) : Nat) then ((encodeR (blockL v t.toNat (chN v.length t.toNat) b.toNat) es).1.map (symOfPc b), (encodeR (blockL v t.toNat (chN v.length t.toNat) b.toNat) es).2) else ([], 51)) else ([], sizeC v.length t)
def inZ (z : Nat) (b : Int) : Bool := decide (0 ≤ b) && decide (b < (z : Nat))
theorem inZ_iff {z : Nat} {b : Int} : inZ z b = true ↔ 0 ≤ b ∧ b < (z : Nat) := by unfold inZ; simp only [Bool.and_eq_true, decide_eq_true_iff]
def ofBlock (ss : List Sy) (b : Nat) : List Pc := (ss.filter fun s => decide (s.1 = (b : Int))).map Prod.snd
theorem ofBlock_append (a b : List Sy) (i : Nat) : ofBlock (a ++ b) i = ofBlock a i ++ ofBlock b i := by unfold ofBlock; rw [List.filter_append, List.map_append]
theorem ofBlock_one (s : Sy) (i : Nat) : ofBlock [s] i = if s.1 = (i : Int) then [s.2] else [] := by
  unfold ofBlock
  by_cases h : s.1 = (i : Int)
  · rw [if_pos h, List.filter_cons_of_pos (by simpa using h)]; rfl
  · rw [if_neg h, List.filter_cons_of_neg (by simpa using h)]; rfl
theorem mem_ofBlock {ss : List Sy} {b : Nat} {p : Pc} : p ∈ ofBlock ss b ↔ ((b : Int), p.1, p.2) ∈ ss := by
  unfold ofBlock
  constructor
  · intro h
    obtain ⟨s, hs, rfl⟩ := List.mem_map.1 h
    obtain ⟨h1, h2⟩ := List.mem_filter.1 hs
    have := of_decide_eq_true h2
    obtain ⟨s1, s2, s3⟩ := s
    simp only at this
    subst this
    exact h1
  · intro h
    exact List.mem_map.2 ⟨_, List.mem_filter.2 ⟨h, by simp⟩, rfl⟩
/-- what is gathered of the first blocks. -/
def gathTo (n : Nat) (t : Int) (ss : List Sy) : Nat → List Nat × Int
  | 0 => ([], 0)
  | i + 1 => if (gathTo n t ss i).2 = 0 then (if (decodeR (chK n i : Nat) t (ofBlock ss i)).2 = 0 then ((gathTo n t ss i).1 ++ (decodeR (chK n i : Nat) t (ofBlock ss i)).1.flatten, 0) else ([], (decodeR (chK n i : Nat) t (ofBlock ss i)).2)) else gathTo n t ss i
def badZ (z : Nat) (ss : List Sy) : Bool := ss.any fun s => !inZ z s.1
theorem badZ_false {z : Nat} {ss : List Sy} : badZ z ss = false ↔ ∀ s ∈ ss, inZ z s.1 = true := by
  unfold badZ
  rw [List.any_eq_false]
  constructor
  · intro h s hs; have := h s hs; simpa using this
  · intro h s hs; simp [h s hs]
def gatherR (s t : Int) (ss : List Sy) : List Nat × Int :=
  if sizeC s t = 0 then
    (if badZ (chZ (chN s.toNat t.toNat)) ss = true then ([], 51)
     else if (gathTo (chN s.toNat t.toNat) t ss (chZ (chN s.toNat t.toNat))).2 = 0 then ((gathTo (chN s.toNat t.toNat) t ss (chZ (chN s.toNat t.toNat))).1.take s.toNat, 0)
     else ([], (gathTo (chN s.toNat t.toNat) t ss (chZ (chN s.toNat t.toNat))).2))
  else ([], sizeC s t)
def enZ (n : Nat) (ss : List Sy) (i : Nat) : Bool := enoughB (chK n i : Nat) ((ofBlock ss i).map Prod.fst)
def readyB (s t : Int) (ss : List Sy) : Bool :=
  decide (sizeC s t = 0) && (!badZ (chZ (chN s.toNat t.toNat)) ss && (List.range (chZ (chN s.toNat t.toNat))).all (enZ (chN s.toNat t.toNat) ss))

/-! symbols of a value -/
theorem block_src {v : List Nat} {t i : Nat} (hv : Bytes v) (h1 : 1 ≤ v.length) (h2 : v.length ≤ 1024) (t1 : 1 ≤ t) (t2 : t ≤ 64) (hi : i < chZ (chN v.length t)) : SrcOK (blockL v t (chN v.length t) i) (chK (chN v.length t) i) t := by
  obtain ⟨n1, n2, -, -⟩ := chN_facts h1 h2 t1
  obtain ⟨k1, k2, -, -⟩ := chK_facts n1 n2 hi
  exact ⟨blockL_length _ _ _ _, k1, k2, t1, t2, fun l hl => blockL_all hv t _ _ l hl⟩
def innerX (v : List Nat) (t i : Nat) : List (List Nat) := (innerR (blockL v t (chN v.length t) i)).1
def gen (v : List Nat) (t i : Nat) (e : Int) : Sy := ((i : Int), pieceOf (chK (chN v.length t) i) (innerX v t i) e)
/-- it is a symbol of the value. -/
def Genuine (v : List Nat) (t : Nat) (s : Sy) : Prop := ∃ (i : Nat) (e : Int), i < chZ (chN v.length t) ∧ okE e = true ∧ s = gen v t i e
theorem symbols_val {v : List Nat} {t : Nat} {b : Int} (hv : Bytes v) (h1 : 1 ≤ v.length) (h2 : v.length ≤ 1024) (t1 : 1 ≤ t) (t2 : t ≤ 64) (es : List Int) :
    symbolsR v t b es = if inZ (chZ (chN v.length t)) b = true then (if es.all okE = true then (es.map (gen v t b.toNat), 0) else ([], 40)) else ([], 51) := by
  unfold symbolsR
  rw [if_pos (sizeC_zero.2 ⟨okS_iff.2 ⟨by omega, by omega⟩, okT_iff.2 ⟨by omega, by omega⟩⟩), Int.toNat_natCast]
  by_cases hb : inZ (chZ (chN v.length t)) b = true
  · rw [if_pos (inZ_iff.1 hb), if_pos hb]
    obtain ⟨b1, b2⟩ := inZ_iff.1 hb
    obtain ⟨i, rfl⟩ : ∃ i : Nat, b = (i : Int) := ⟨b.toNat, by omega⟩
    rw [Int.toNat_natCast]
    have hs := block_src hv h1 h2 t1 t2 (i := i) (by omega)
    obtain ⟨X, hX, -⟩ := inner_val hs
    rw [encode_val hs hX es]
    have hX' : innerX v t i = X := by unfold innerX; rw [hX]
    split
    · simp only [List.map_map]
      congr 1
      apply List.map_congr_left
      intro e _
      show symOfPc i (pieceOf _ X e) = _
      unfold gen
      rw [hX']; rfl
    · rfl
  · rw [if_neg (fun e => hb (inZ_iff.2 e)), if_neg hb]
theorem gen_pieces {v : List Nat} {t i : Nat} {ss : List Sy} (h : ∀ s ∈ ss, Genuine v t s) : ofBlock ss i = ((ofBlock ss i).map Prod.fst).map (pieceOf (chK (chN v.length t) i) (innerX v t i)) ∧ ∀ e ∈ (ofBlock ss i).map Prod.fst, okE e = true := by
  have key : ∀ p ∈ ofBlock ss i, p = pieceOf (chK (chN v.length t) i) (innerX v t i) p.1 ∧ okE p.1 = true := fun p hp => by
    obtain ⟨j, e, hj, he, hs⟩ := h _ (mem_ofBlock.1 hp)
    unfold gen at hs
    injection hs with e1 e2
    have : i = j := by omega
    subst this
    obtain ⟨p1, p2⟩ := p
    simp only [pieceOf] at e2 ⊢
    injection e2 with e2 e3
    subst e2
    exact ⟨by rw [e3], he⟩
  constructor
  · rw [List.map_map]
    conv => lhs; rw [← List.map_id (ofBlock ss i)]
    apply List.map_congr_left
    intro p hp
    exact (key p hp).1
  · intro e he
    obtain ⟨p, hp, rfl⟩ := List.mem_map.1 he
    exact (key p hp).2
theorem gath_gen {v : List Nat} {t : Nat} {ss : List Sy} (hv : Bytes v) (h1 : 1 ≤ v.length) (h2 : v.length ≤ 1024) (t1 : 1 ≤ t) (t2 : t ≤ 64) (h : ∀ s ∈ ss, Genuine v t s) (hc : ∀ i, i < chZ (chN v.length t) → (ofBlock ss i).length ≤ 128) :
    ∀ i, i ≤ chZ (chN v.length t) → gathTo (chN v.length t) t ss i = if (List.range i).all (enZ (chN v.length t) ss) = true then ((((List.range i).map (blockL v t (chN v.length t))).map List.flatten).flatten, 0) else ([], 21)
  | 0, _ => by simp [gathTo]
  | i + 1, hi => by
    have ih := gath_gen hv h1 h2 t1 t2 h hc i (by omega)
    have hs := block_src hv h1 h2 t1 t2 (i := i) (by omega)
    obtain ⟨X, hX, hXl, hXr, hf, hsy⟩ := inner_val hs
    have hX' : innerX v t i = X := by unfold innerX; rw [hX]
    obtain ⟨g1, g2⟩ := gen_pieces (i := i) h
    have hcl := hc i (by omega)
    rw [hX'] at g1
    obtain ⟨d1, d2⟩ := decode_val hs hXl hXr hf hsy (es := (ofBlock ss i).map Prod.fst) (by rw [List.length_map]; exact hcl) g2
    have hen := enough_iff (k := chK (chN v.length t) i) hs.k1 hs.k2 (es := (ofBlock ss i).map Prod.fst) (by rw [List.length_map]; exact hcl) (List.all_eq_true.2 g2)
    rw [← g1] at d1 d2
    rw [List.range_succ, List.all_append, List.map_append, List.map_append, List.flatten_append]
    simp only [gathTo]
    rw [ih]
    by_cases ha : (List.range i).all (enZ (chN v.length t) ss) = true
    · rw [if_pos ha, if_pos rfl, ha, Bool.true_and]
      by_cases he : enZ (chN v.length t) ss i = true
      · rw [d1 (hen.1 he), if_pos rfl]
        simp [he]
      · rw [d2 (fun e => he (hen.2 e)), if_neg (by decide)]
        simp [show enZ (chN v.length t) ss i = false by simpa using he]
    · rw [if_neg ha, if_neg (by decide), if_neg (by simp [show (List.range i).all (enZ (chN v.length t) ss) = false by simpa using ha])]
theorem gather_gen {v : List Nat} {t : Nat} {ss : List Sy} (hv : Bytes v) (h1 : 1 ≤ v.length) (h2 : v.length ≤ 1024) (t1 : 1 ≤ t) (t2 : t ≤ 64) (h : ∀ s ∈ ss, Genuine v t s) (hc : ∀ i, i < chZ (chN v.length t) → (ofBlock ss i).length ≤ 128) :
    gatherR v.length t ss = if readyB v.length t ss = true then (v, 0) else ([], 21) := by
  have hz : sizeC (v.length : Int) (t : Int) = 0 := sizeC_zero.2 ⟨okS_iff.2 ⟨by omega, by omega⟩, okT_iff.2 ⟨by omega, by omega⟩⟩
  obtain ⟨n1, n2, n3, n4⟩ := chN_facts h1 h2 t1
  have hb : badZ (chZ (chN v.length t)) ss = false := badZ_false.2 fun s hs => by
    obtain ⟨i, e, hi, -, rfl⟩ := h s hs
    exact inZ_iff.2 ⟨by unfold gen; simp only; omega, by unfold gen; simp only; omega⟩
  have hr : readyB v.length t ss = (List.range (chZ (chN v.length t))).all (enZ (chN v.length t) ss) := by
    unfold readyB
    simp only [Int.toNat_natCast]
    rw [decide_eq_true hz, hb]
    simp
  rw [hr]
  unfold gatherR
  simp only [Int.toNat_natCast]
  rw [if_pos hz, if_neg (by rw [hb]; decide), gath_gen hv h1 h2 t1 t2 h hc _ (Nat.le_refl _)]
  by_cases ha : (List.range (chZ (chN v.length t))).all (enZ (chN v.length t) ss) = true
  · rw [if_pos ha, if_pos ha, if_pos rfl, blocks_flat, chS_end, allS_take n3]
  · rw [if_neg ha, if_neg ha, if_neg (by decide)]
end Go.Proofs.YtfjcbgfgiidogaaDoor
namespace Go.Proofs.YtfjcbgfgiidogaaDoor
open Go.RowKit

theorem ready_parts {v : List Nat} {t : Nat} {ss : List Sy} (h1 : 1 ≤ v.length) (h2 : v.length ≤ 1024) (t1 : 1 ≤ t) (t2 : t ≤ 64) (h : ∀ s ∈ ss, Genuine v t s) : readyB v.length t ss = true ↔ ∀ i, i < chZ (chN v.length t) → enZ (chN v.length t) ss i = true := by
  have hz : sizeC (v.length : Int) (t : Int) = 0 := sizeC_zero.2 ⟨okS_iff.2 ⟨by omega, by omega⟩, okT_iff.2 ⟨by omega, by omega⟩⟩
  have hb : badZ (chZ (chN v.length t)) ss = false := badZ_false.2 fun s hs => by
    obtain ⟨i, e, hi, -, rfl⟩ := h s hs
    exact inZ_iff.2 ⟨by unfold gen; simp only; omega, by unfold gen; simp only; omega⟩
  have hr : readyB v.length t ss = (List.range (chZ (chN v.length t))).all (enZ (chN v.length t) ss) := by
    unfold readyB
    simp only [Int.toNat_natCast]
    rw [decide_eq_true hz, hb]
    simp
  rw [hr, List.all_eq_true]
  simp only [List.mem_range]
theorem ready_more {v : List Nat} {t : Nat} {ss tt : List Sy} (hv : Bytes v) (h1 : 1 ≤ v.length) (h2 : v.length ≤ 1024) (t1 : 1 ≤ t) (t2 : t ≤ 64) (hs : ∀ s ∈ ss, Genuine v t s) (ht : ∀ s ∈ tt, Genuine v t s) (hsub : ∀ s ∈ ss, s ∈ tt) (hc : ∀ i, i < chZ (chN v.length t) → (ofBlock tt i).length ≤ 128) (h : readyB v.length t ss = true) : readyB v.length t tt = true := by
  rw [ready_parts h1 h2 t1 t2 ht]
  intro i hi
  have h := (ready_parts h1 h2 t1 t2 hs).1 h i hi
  have hsr := block_src hv h1 h2 t1 t2 hi
  unfold enZ at h ⊢
  obtain ⟨m, e, k1, k2, h3, h4, h5⟩ := enoughB_parts h
  have em : chK (chN v.length t) i = m := by omega
  refine (enough_iff hsr.k1 hsr.k2 (by rw [List.length_map]; exact hc i hi) (List.all_eq_true.2 (gen_pieces ht).2)).2 ?_
  rw [em]
  refine enoughP_sub h5 fun e he => ?_
  obtain ⟨p, hp, rfl⟩ := List.mem_map.1 he
  exact List.mem_map.2 ⟨p, mem_ofBlock.2 (hsub _ (mem_ofBlock.1 hp)), rfl⟩
theorem ofBlock_count (ss : List Sy) (i : Nat) : (ofBlock ss i).length ≤ ss.length := by
  unfold ofBlock
  rw [List.length_map]
  exact List.length_filter_le _ _
/-- the symbols below a block's number are the block. -/
theorem gen_src {v : List Nat} {t i j : Nat} (hv : Bytes v) (h1 : 1 ≤ v.length) (h2 : v.length ≤ 1024) (t1 : 1 ≤ t) (t2 : t ≤ 64) (hi : i < chZ (chN v.length t)) (hj : j < chK (chN v.length t) i) : gen v t i (j : Int) = ((i : Int), (j : Int), symOf v t (chS (chN v.length t) i + j)) := by
  have hs := block_src hv h1 h2 t1 t2 hi
  obtain ⟨X, hX, -, -, -, hsy⟩ := inner_val hs
  have hX' : innerX v t i = X := by unfold innerX; rw [hX]
  unfold gen pieceOf symR
  rw [hX', Int.toNat_natCast, if_pos hj, hsy j hj, List.getD_eq_getElem?_getD, blockL_at hj]
  rfl
/-- a block's symbols hang on the block alone. -/
theorem gen_apart {v u : List Nat} {t i : Nat} (hl : u.length = v.length) (h : ∀ j, j < chK (chN v.length t) i → symOf u t (chS (chN v.length t) i + j) = symOf v t (chS (chN v.length t) i + j)) (e : Int) : gen u t i e = gen v t i e := by
  have hb : blockL u t (chN v.length t) i = blockL v t (chN v.length t) i := by
    unfold blockL
    apply List.map_congr_left
    intro j hj
    exact h j (List.mem_range.1 hj)
  unfold gen innerX
  rw [hl, hb]
theorem symOf_set {v : List Nat} {t s a x : Nat} (h : a < s * t ∨ (s + 1) * t ≤ a) : symOf (v.set a x) t s = symOf v t s := by
  rw [Nat.add_mul, Nat.one_mul] at h
  refine ext_getD (by rw [symOf_length, symOf_length]) fun j hj => ?_
  rw [symOf_length] at hj
  rw [symOf_getD _ _ _ _ hj, symOf_getD _ _ _ _ hj, List.getD_eq_getElem?_getD, List.getD_eq_getElem?_getD, List.getElem?_set, if_neg (by omega)]
end Go.Proofs.YtfjcbgfgiidogaaDoor
namespace Go.Proofs.YtfjcbgfgiidogaaDoor
open Go.RowKit

theorem quo_nat (a b : Nat) : (a : Int).tdiv (b : Int) = ((a / b : Nat) : Int) := by rw [Int.ofNat_tdiv]
set_option maxRecDepth 100000 in
set_option maxHeartbeats 2000000 in
theorem up_any (a b : Nat) (bi : Int) (hbi : bi = (b : Nat)) (h2 : a ≤ 2000) (h3 : 1 ≤ b) (h4 : b ≤ 2000) (w : World) :
    Calls Tryd.prog 37 #[.int .i64 (a : Int), .int .i64 bi] w fun e w' => e = .returned (.int .i64 (((a + b - 1) / b : Nat) : Int)) ∧ w = w' := by
  subst hbi
  have hq : ((a : Int) + (b : Int) - 1) / (b : Int) = (((a + b - 1) / b : Nat) : Int) := by
    rw [show (a : Int) + (b : Int) - 1 = ((a + b - 1 : Nat) : Int) by omega, Int.natCast_ediv]
  have hle : (a + b - 1) / b ≤ 4000 := Nat.le_trans (Nat.div_le_self _ _) (by omega)
  obtain ⟨q, hqq⟩ : ∃ q, q = (a + b - 1) / b := ⟨_, rfl⟩
  rw [← hqq] at hq hle ⊢
  have hP0 : (b : Int) ≠ 0 := by omega
  have hPb : ((b : Int) == 0) = false := beq_eq_false_iff_ne.2 hP0
  have hPf : ((b : Int) = 0) = False := eq_false hP0
  have hPf2 : (b = 0) = False := eq_false (by omega)
  have HQ := Lib.hid hq
  clear hqq hq
  go_enter Tryd.func37, Tryd.ntmps37
  go_wp2
  go_ret
  exact ⟨by rw [← HQ.out]; rfl, rfl⟩
def nv' (n : Nat) : Value := .int .i64 (n : Nat)
/-- ints of the call's own. -/
def GivesN (w : World) (o : List Nat × Int) (e : Ending) (w' : World) : Prop := ∃ a c, e = .returned (.tuple #[.slice a o.1.length c, .int .i64 o.2]) ∧ w'.ownsRow w.heap.size 3 1 (.slice a o.1.length c) o.1.length (o.1.map nv') ∧ Below w.heap.size w w'
theorem givesN_nil {w w' : World} {code : Int} (hb : Below w.heap.size w w') : GivesN w ([], code) (.returned (.tuple #[.slice none 0 0, .int .i64 code])) w' := ⟨none, 0, rfl, ⟨rfl, .inl ⟨rfl, rfl⟩⟩, hb⟩
def partsTo (n i : Nat) : List Nat := (List.range i).map (chK n) ++ List.replicate (chZ n - i) 0
theorem partsTo_step {n i : Nat} (h : i < chZ n) : (partsTo n i).set i (chK n i) = partsTo n (i + 1) := by
  unfold partsTo
  rw [List.set_append_right _ _ (by simp), List.length_map, List.length_range, Nat.sub_self, show chZ n - i = (chZ n - (i + 1)) + 1 by omega, List.replicate_succ, List.range_succ, List.map_append, List.append_assoc]
  rfl
theorem partsTo_length {n i : Nat} (h : i ≤ chZ n) : (partsTo n i).length = chZ n := by unfold partsTo; simp; omega
theorem partsTo_end (n : Nat) : partsTo n (chZ n) = partsL n := by unfold partsTo partsL; simp
set_option maxRecDepth 100000 in
set_option maxHeartbeats 4000000 in
theorem parts_any (s t : Int) (w : World) : Calls Tryd.prog 15 #[.int .i64 s, .int .i64 t] w (GivesN w (partsR s t)) := by
  obtain ⟨i0, hi, hz0, hz1, hz2⟩ := info_parts iinfo
  unfold partsR sizeC
  by_cases h1 : okS s = true
  rotate_left 1
  · rw [if_neg h1, if_neg (by decide)]
    have h1' : s < 1 ∨ 1024 < s := by
      rcases Classical.em (s < 1) with h | h
      · exact .inl h
      · refine .inr ?_
        rcases Classical.em (1024 < s) with h' | h'
        · exact h'
        · exact absurd (okS_iff.2 ⟨by omega, by omega⟩) h1
    clear h1
    rcases h1' with h | h
    all_goals
      go_enter Tryd.func15, Tryd.ntmps15
      go_wp2
      go_ret2
      exact givesN_nil (Below.refl _ _)
  rw [if_pos h1]
  obtain ⟨s1, s2⟩ := okS_iff.1 h1
  clear h1
  by_cases h1 : okT t = true
  rotate_left 1
  · rw [if_neg h1, if_neg (by decide)]
    have h1' := okT_bad h1
    clear h1
    rcases h1' with h | h
    all_goals
      go_enter Tryd.func15, Tryd.ntmps15
      go_wp2
      go_ret2
      exact givesN_nil (Below.refl _ _)
  rw [if_pos h1, if_pos rfl]
  obtain ⟨t1, t2⟩ := okT_iff.1 h1
  clear h1
  obtain ⟨S, rfl⟩ : ∃ S : Nat, s = (S : Nat) := ⟨s.toNat, by omega⟩
  obtain ⟨T, rfl⟩ : ∃ T : Nat, t = (T : Nat) := ⟨t.toNat, by omega⟩
  rw [Int.toNat_natCast, Int.toNat_natCast]
  obtain ⟨n1, n2, -, -⟩ := chN_facts (size := S) (t := T) (by omega) (by omega) (by omega)
  have KU := up_any S T _ rfl (by omega) (by omega) (by omega) w
  obtain ⟨n, hn⟩ : ∃ n, n = chN S T := ⟨_, rfl⟩
  rw [show (S + T - 1) / T = n from hn.symm] at KU
  rw [← hn] at n1 n2 ⊢
  clear hn
  obtain ⟨z1, z2, -, -, z3⟩ := chZ_facts n1 n2
  have KV := up_any n 32 32 rfl (by omega) (by omega) (by omega) w
  have HST := Lib.hid (fun i (h : i < chZ n) => partsTo_step h)
  have HE := Lib.hid (partsTo_end n)
  have H0 := Lib.hid (show partsTo n 0 = List.replicate (chZ n) 0 by simp [partsTo])
  have HK := Lib.hid (fun i => show chK n i = n / chZ n + if i < n % chZ n then 1 else 0 from rfl)
  have HLN := Lib.hid (partsL_length n)
  obtain ⟨z, hz⟩ : ∃ z, z = chZ n := ⟨_, rfl⟩
  rw [show (n + 32 - 1) / 32 = z by rw [hz]; rfl] at KV
  rw [← hz] at z1 z2 z3 HST HE H0 HK HLN
  clear hz
  have hq : n / z ≤ 1024 := Nat.le_trans (Nat.div_le_self _ _) n2
  have E1 := Lib.hid (show wrap64 ((n : Int) / (z : Int)) = ((n / z : Nat) : Int) by rw [← Int.natCast_ediv]; generalize n / z = y at hq ⊢; exact IntWalk.wrap64_in _ (by omega))
  have E2 := Lib.hid (show (n : Int) % (z : Int) = ((n % z : Nat) : Int) from (Int.natCast_emod _ _).symm)
  have hP0 : (z : Int) ≠ 0 := by omega
  have hPb : ((z : Int) == 0) = false := beq_eq_false_iff_ne.2 hP0
  have hPf : ((z : Int) = 0) = False := eq_false hP0
  have hPf2 : (z = 0) = False := eq_false (by omega)
  obtain ⟨q, hqd⟩ : ∃ q, q = n / z := ⟨_, rfl⟩
  obtain ⟨r, hrd⟩ : ∃ r, r = n % z := ⟨_, rfl⟩
  rw [← hqd] at hq E1 HK
  rw [← hrd] at E2 HK
  clear hqd hrd
  go_enter Tryd.func15, Tryd.ntmps15
  go_wp2_with fail
  (with_reducible refine KU.mono ?_)
  rintro e w1 ⟨rfl, rfl⟩
  go_wp2_with fail
  (with_reducible refine KV.mono ?_)
  rintro e w1 ⟨rfl, rfl⟩
  clear KU KV
  go_wp2_with (first | (at_make; refine Hid.out ?_))
  refine Lib.hid ?_
  refine wpList_make_full _ rfl _ _ 24 rfl w.heap.size 3 i0 (.int .i64 0) 1 Tryd.underlying24 hi hz0 hz1 _ _ _ _ z rfl rfl rfl rfl (by rw [hz2]; omega) (by unfold maxLen; omega) (Nat.le_refl _) ?_
  intro w2 hown2 hgrow2
  rw [show (Value.int .i64 0).cells = #[.int .i64 0] from rfl, Nat.mul_one, toList_madeCells_one] at hown2
  have hO : w2.ownsRow w.heap.size 3 1 (.slice (some ⟨w.heap.size, 0, none⟩) z z) z ((partsTo n 0).map nv') := by rw [H0.out, List.map_replicate]; exact hown2
  have HO := Lib.hid hO
  have HB2 := Lib.hid (below_grown (Below.refl _ _) hgrow2 (fun k e => by cases e))
  clear hO hown2 hgrow2
  go_wp2_with fail
  go_loopw [29] (fun vi wr => ∃ i : Nat, i ≤ z ∧ vi = .int .i64 (i : Nat) ∧ Hid (wr.ownsRow w.heap.size 3 1 (.slice (some ⟨w.heap.size, 0, none⟩) z z) z ((partsTo n i).map nv')) ∧ Hid (Below w.heap.size w wr)) (fun vi _ => (z - intOf vi).toNat)
  case atStart => exact ⟨0, Nat.zero_le _, rfl, HO, HB2⟩
  case round =>
    clear HO HB2
    obtain ⟨i, hi, rfl, hO, hB⟩ := hrel
    by_cases hlt : i < z
    · obtain ⟨v, c3, f3⟩ : ∃ v, wr.cell? ⟨w.heap.size, i, none⟩ = some v ∧ wr.frozen? ⟨w.heap.size, i, none⟩ = false := by
        have h := hO.out.cellAt i (by omega)
        rw [List.getElem?_eq_getElem (by rw [hO.out.1]; omega)] at h
        exact ⟨_, h, hO.out.frozenAt i⟩
      have o4 := own_set' hO.out i (.int .i64 ((q : Nat) : Int))
      have b4 := hB.out.setCell (p := ⟨w.heap.size, i, none⟩) (Nat.le_refl _) (.int .i64 ((q : Nat) : Int))
      have HO4 := Lib.hid o4
      have HB4 := Lib.hid b4
      clear o4 b4 hO hB
      by_cases hr : i < r
      · have hr' : (i : Int) < (n : Int) % (z : Int) := by rw [E2.out]; omega
        have hk : chK n i = q + 1 := by rw [HK.out, if_pos hr]
        have o5 := own_set' HO4.out i (.int .i64 ((q + 1 : Nat) : Int))
        have b5 := HB4.out.setCell (p := ⟨w.heap.size, i, none⟩) (Nat.le_refl _) (.int .i64 ((q + 1 : Nat) : Int))
        rw [List.set_set] at o5
        have HO5 := Lib.hid o5
        have HB5 := Lib.hid b5
        have HKK := Lib.hid hk
        have E3 := Lib.hid (show wrap64 ((q : Int) + 1) = ((q + 1 : Nat) : Int) by rw [IntWalk.wrap64_in _ (by omega)]; omega)
        clear hk o5 b5
        go_wp2
        go_roundw
        rw [E1.out, E3.out]
        case rel => exact ⟨i + 1, by omega, by go_num, Lib.hid (by rw [← HST.out i hlt, HKK.out, List.map_set]; exact HO5.out), HB5⟩
        case measure => simp [intOf] <;> omega
      · have hr' : (n : Int) % (z : Int) ≤ (i : Int) := by rw [E2.out]; omega
        have hk : chK n i = q := by rw [HK.out, if_neg hr]; rfl
        have HKK := Lib.hid hk
        clear hk
        go_wp2
        go_roundw
        rw [E1.out]
        case rel => exact ⟨i + 1, by omega, by go_num, Lib.hid (by rw [← HST.out i hlt, HKK.out, List.map_set]; exact HO4.out), HB4⟩
        case measure => simp [intOf] <;> omega
    · obtain rfl : i = z := by omega
      have hO' := hO.out
      rw [HE.out] at hO'
      have HO' := Lib.hid hO'
      clear hO hO'
      go_wp2
      go_ret2
      have hp := HO'.out
      have hm := HLN.out
      generalize partsL n = D at hp hm ⊢
      exact ⟨_, _, by simp only [hm]; rfl, by rw [hm]; exact hp, hB.out⟩
end Go.Proofs.YtfjcbgfgiidogaaDoor
