/-
  Rq7: RqT RqU RqX RqV RqW
-/
import Derived.Test.YtfjcbgfgiidogaaDoorMRq6
namespace Go.Proofs.YtfjcbgfgiidogaaDoor
open Go.RowKit

theorem iv_oneQ (l : List Int) : ∀ u ∈ l.map iv, u.oneCell' = true := by
  intro u hu
  obtain ⟨x, _, rfl⟩ := List.mem_map.1 hu
  rfl
theorem iinfo : (Tryd.prog.info? 3).map (fun i => (i.zero, i.size, i.bytes)) = some (some (.int .i64 0), 1, 8) := by kernel_rfl
/-- ints of the call's own. -/
def GivesI (w : World) (l : List Int) (e : Ending) (w' : World) : Prop := ∃ a c, e = .returned (.slice a l.length c) ∧ w'.ownsRow w.heap.size 3 1 (.slice a l.length c) l.length (l.map iv) ∧ Below w.heap.size w w'
theorem intsV_ownQ {w : World} {base : Nat} {ad : Option Addr} {cap n : Nat} {l : List Int} (h : w.ownsRow base 3 1 (.slice ad n cap) n (l.map iv)) (hs : n ≤ 140737488355328) : IntsV w (ad, n, cap) l := by
  obtain ⟨ad', cap', e, hcase, hnc, _, hrow⟩ := ownsRow_parts h
  cases e
  exact ⟨hrow, hs, hnc, fun e => by rcases hcase with ⟨_, _, hc⟩ | ⟨g, hg, _⟩; exact hc; rw [hg] at e; cases e⟩
set_option maxHeartbeats 400000 in
theorem copyInts_rd (ad : Option Addr) (n c : Nat) (l : List Int) (w : World) (h : IntsV w (ad, n, c) l) (hn8 : n ≤ 1000) :
    Calls Tryd.prog 24 #[.slice ad n c] w (GivesI w l) := by
  obtain ⟨i0, hi, hz0, hz1, hz2⟩ := info_parts iinfo
  have hsm : n ≤ 140737488355328 := h.small
  have hl : l.length = n := h.length
  have hr := h.row.below (below_alloc w (.cells #[] 3))
  have hnil := h.nil
  have HL := Lib.hid hl
  have hown0 := World.ownsRow_made (base := w.heap.size) (e := 3) (size := 1) w #[] 0 (Nat.le_refl _) (by simp [maxLen]) rfl
  clear h hl
  go_enter Tryd.func24, Tryd.ntmps24
  go_wp2_with (first | (at_builtin; refine wpList_append_row rfl _ _ 24 rfl w.heap.size 3 i0 (.int .i64 0) 8 Tryd.underlying24 hi hz0 hz1 hz2 rfl _ _ _ rfl hown0 ad n c (l.map iv) rfl hr hnil (iv_oneQ l) (by simp [maxLen]; omega) (by omega) (by simp) ?_; intro v' w1 hown1 hgrow1 hnil1))
  obtain ⟨ad', cap', rfl, _⟩ := ownsRow_parts hown1
  have hb := below_grown (below_alloc w _) hgrow1 (ownBlock_ge hown0)
  simp only [Nat.zero_add, List.nil_append] at hown1 ⊢
  clear hgrow1 hnil1 hr
  go_wp2
  go_ret
  obtain rfl := HL.out
  exact ⟨ad', cap', rfl, hown1, hb⟩

/-- what source answers. -/
def GivesSrc (src : List (List Nat)) (w : World) (e : Ending) (w' : World) : Prop := ∃ b : Bool, e = .returned (.bool b) ∧ Below w.heap.size w w' ∧ (b = true → ∃ k t, SrcOK src k t)

end Go.Proofs.YtfjcbgfgiidogaaDoor
namespace Go.Proofs.YtfjcbgfgiidogaaDoor
open Go.RowKit

theorem enoughB_parts {k : Int} {es : List Int} (h : enoughB k es = true) : ∃ m : Nat, k = (m : Int) ∧ 1 ≤ m ∧ m ≤ 32 ∧ es.length ≤ 128 ∧ es.all okE = true ∧ enoughP m es := by
  have h0 := h
  unfold enoughB at h
  simp only [Bool.and_eq_true, decide_eq_true_iff] at h
  obtain ⟨h1, h2, h3, -⟩ := h
  obtain ⟨m, rfl, -, k1, k2⟩ := okK_nat h1
  exact ⟨m, rfl, k1, k2, h2, h3, (enough_iff k1 k2 h2 h3).1 h0⟩
theorem enoughP_iff {k : Nat} {es : List Int} : enoughP k es ↔ ∀ y : Nat → Nat, (∀ j, y j < 256) → (∀ j, cL k ≤ j → y j = 0) → (∀ a ∈ fixedL k ++ symsL k es, dot y a (cL k) = 0) → ∀ j, j < cL k → y j = 0 := rank_full (all_rws (all_app (fixed_all k) (syms_rws k es)))
theorem enoughP_sub {k : Nat} {es fs : List Int} (h : enoughP k es) (hs : ∀ e ∈ es, e ∈ fs) : enoughP k fs := by
  rw [enoughP_iff] at h ⊢
  refine fun y h1 h2 h3 => h y h1 h2 fun a ha => h3 a ?_
  rcases List.mem_append.1 ha with h4 | h4
  · exact List.mem_append.2 (.inl h4)
  · obtain ⟨e, he, rfl⟩ := List.mem_map.1 h4
    exact List.mem_append.2 (.inr (List.mem_map.2 ⟨e, hs e he, rfl⟩))
theorem enough_more {k : Int} {es more : List Int} (h : enoughB k es = true) (hm : ∀ e ∈ more, okE e = true) (hl : more.length + es.length ≤ 128) : enoughB k (more ++ es) = true := by
  obtain ⟨m, rfl, k1, k2, h2, h3, h4⟩ := enoughB_parts h
  refine (enough_iff k1 k2 (by rw [List.length_append]; exact hl) (List.all_eq_true.2 fun e he => ?_)).2 (enoughP_sub h4 fun e he => List.mem_append.2 (.inr he))
  rcases List.mem_append.1 he with h5 | h5
  · exact hm e h5
  · exact List.all_eq_true.1 h3 e h5
def fstB (es : List Int) (i : Nat) : Nat → Bool
  | 0 => true
  | j + 1 => fstB es i j && (es.getD j 0 != es.getD i 0)
def ddL (es : List Int) : Nat → List Int
  | 0 => []
  | i + 1 => if fstB es i i = true then ddL es i ++ [es.getD i 0] else ddL es i
theorem fstB_false {es : List Int} {i : Nat} : ∀ {j : Nat}, fstB es i j = false → ∃ q, q < j ∧ es.getD q 0 = es.getD i 0
  | 0, h => by cases h
  | j + 1, h => by
    simp only [fstB, Bool.and_eq_false_iff] at h
    rcases h with h | h
    · obtain ⟨q, h1, h2⟩ := fstB_false h
      exact ⟨q, by omega, h2⟩
    · exact ⟨j, by omega, by simpa using h⟩
theorem ddL_mem (es : List Int) : ∀ i j, j < i → es.getD j 0 ∈ ddL es i
  | 0, j, h => absurd h (Nat.not_lt_zero _)
  | i + 1, j, h => by
    simp only [ddL]
    by_cases hf : fstB es i i = true
    · rw [if_pos hf]
      by_cases e : j = i
      · rw [e]; exact List.mem_append.2 (.inr (by simp))
      · exact List.mem_append.2 (.inl (ddL_mem es i j (by omega)))
    · rw [if_neg hf]
      by_cases e : j = i
      · obtain ⟨q, h1, h2⟩ := fstB_false (show fstB es i i = false by simpa using hf)
        rw [e, ← h2]; exact ddL_mem es i q h1
      · exact ddL_mem es i j (by omega)
theorem ddL_len (es : List Int) : ∀ i, (ddL es i).length ≤ i
  | 0 => Nat.le_refl _
  | i + 1 => by
    have := ddL_len es i
    simp only [ddL]
    split
    · rw [List.length_append]; simp; omega
    · omega
theorem enough_count {k : Int} {es : List Int} (h : enoughB k es = true) : k ≤ (((ddL es es.length).length : Nat) : Int) := by
  obtain ⟨m, rfl, k1, k2, h2, h3, h4⟩ := enoughB_parts h
  have h5 : enoughP m (ddL es es.length) := enoughP_sub h4 fun e he => by
    obtain ⟨j, hj, rfl⟩ := List.mem_iff_getElem.1 he
    have := ddL_mem es es.length j hj
    rwa [List.getD_eq_getElem?_getD, List.getElem?_eq_getElem hj] at this
  by_cases hlt : (ddL es es.length).length < m
  · exact absurd h5 (not_enough k1 k2 hlt)
  · omega

end Go.Proofs.YtfjcbgfgiidogaaDoor
namespace Go.Proofs.YtfjcbgfgiidogaaDoor
open Go.RowKit

/-- inner symbols are told by what they give. -/
theorem inner_of {src X : List (List Nat)} {k t : Nat} (h : SrcOK src k t) (hX : X.length = cL k) (hXr : Rws X t) (a3 : ∀ r ∈ fixedL k, mixS X r = zs t) (a4 : ∀ x, x < k → mixS X (placeR k x) = src.getD x []) : innerR src = (X, 0) := by
  obtain ⟨f1, f2, f3, f4, f5, f6, -⟩ := code_facts h.k1 h.k2
  obtain ⟨g1, g2, g3⟩ := cL_facts h.k1 h.k2
  have hfl := fixed_length (k := k) f4
  have hpl := placesL_length k k
  have hR : AllL (cL k) (fixedL k ++ placesL k k) := all_app (fixed_all k) (placesL_all k k)
  have hfull : rankOf (cL k) (fixedL k ++ placesL k k) = cL k := full_sub h.k1 h.k2 (all_rws hR) (fun r hr => mem_rowsA f4 hr)
  have hV := apply_two (d := cL k - k) hfl a3 hpl h.len (fun x hx => by rw [places_getD hx]; exact a4 x hx)
  rw [innerR_right h]
  generalize fixedL k = F at hfl hR hfull hV ⊢
  generalize placesL k k = P at hpl hR hfull hV ⊢
  generalize cL k = L at *
  rw [solve_right hR g1 (by omega) (by rw [List.length_append]; have := h.k2; omega) hX hXr hV, if_pos hfull]
/-! a source that is filled up -/
def padS (src : List (List Nat)) (k t : Nat) : List (List Nat) := src ++ List.replicate (cKp k - k) (zs t)
theorem pad_src {src : List (List Nat)} {k t : Nat} (h : SrcOK src k t) : SrcOK (padS src k t) (cKp k) t := by
  obtain ⟨f1, f2, f3, f4, f5, f6, -⟩ := code_facts h.k1 h.k2
  have := h.k1
  refine ⟨?_, by omega, by omega, h.t1, h.t2, app_rws h.rws (zs_rws _ _)⟩
  unfold padS
  rw [List.length_append, List.length_replicate, h.len]
  omega
theorem fixed_kp (k : Nat) : fixedL (cKp k) = lightP k ++ heavyP k := by
  rw [fixed_split, lightP_kp, heavyP_kp, kp_kp, Nat.sub_self, List.range_zero, List.map_nil, List.append_nil]
theorem inner_pad {src : List (List Nat)} {k t : Nat} (h : SrcOK src k t) : ∃ X, innerR src = (X, 0) ∧ innerR (padS src k t) = (X, 0) ∧ X.length = cL k ∧ Rws X t := by
  obtain ⟨f1, f2, f3, f4, f5, f6, -⟩ := code_facts h.k1 h.k2
  obtain ⟨X, hX, hXr, a1, a2⟩ := inner_x h
  obtain ⟨a3, a4⟩ := inner_f h.len f4 a1 a2
  refine ⟨X, inner_of h hX hXr a3 a4, inner_of (pad_src h) (by rw [cL_kp]; exact hX) hXr (fun r hr => ?_) (fun x hx => ?_), hX, hXr⟩
  · rw [fixed_kp] at hr
    exact a1 r hr
  · rw [placeR_kp]
    exact a2 x hx
theorem sym_pad {k n : Nat} (h : k ≤ cKp k) : symR (cKp k) (cKp k + n) = symR k (k + n) := by
  unfold symR
  rw [placeR_kp, kp_kp, if_neg (by omega), if_neg (by omega)]
  rw [show cKp k + n + cKp k - cKp k = k + n + cKp k - k by omega]
/-! sums -/
def mixP (c : Nat) (x y : List Nat) : List Nat := mixS [x, y] [1, c]
theorem mixP_length {c t : Nat} {x y : List Nat} (hx : x.length = t) (hy : y.length = t) : (mixP c x y).length = t := mixS_length (X := [x, y]) (by simp [hx, hy]) (by simp) _
theorem mixP_getD {c t u : Nat} {x y : List Nat} (hx : x.length = t) (hy : y.length = t) (hbx : Bytes x) (hu : u < t) : (mixP c x y).getD u 0 = x.getD u 0 ^^^ mul c (y.getD u 0) := by
  unfold mixP
  rw [mixS_getD (t := t) (X := [x, y]) (by simp [hx, hy]) (by simp) _ hu]
  have e := one_mul (hbx.getD u)
  rw [List.getD_eq_getElem?_getD] at e
  simp [xsum, e]
theorem mixP_bytes {c : Nat} (hc : c < 256) {x y : List Nat} : Bytes (mixP c x y) := by
  unfold mixP mixS
  exact mixTo_bytes (bytes_of (l := [1, c]) (by simp [hc])) _ _ _
theorem extT {a b : List Nat} {t : Nat} (ha : a.length = t) (hb : b.length = t) (h : ∀ u, u < t → a.getD u 0 = b.getD u 0) : a = b := by
  apply List.ext_getElem?
  intro u
  by_cases hu : u < t
  · have := h u hu
    rw [List.getD_eq_getElem?_getD, List.getD_eq_getElem?_getD, List.getElem?_eq_getElem (by omega), List.getElem?_eq_getElem (by omega)] at this
    rw [List.getElem?_eq_getElem (by omega), List.getElem?_eq_getElem (by omega)]
    exact congrArg some this
  · rw [List.getElem?_eq_none (by omega), List.getElem?_eq_none (by omega)]
theorem zipP_getD {c i : Nat} {X Y : List (List Nat)} (hX : i < X.length) (hY : i < Y.length) : (List.zipWith (mixP c) X Y).getD i [] = mixP c (X.getD i []) (Y.getD i []) := by
  rw [List.getD_eq_getElem?_getD, List.getD_eq_getElem?_getD, List.getD_eq_getElem?_getD, List.getElem?_zipWith, List.getElem?_eq_getElem hX, List.getElem?_eq_getElem hY]
  rfl
theorem zipP_rws {c t : Nat} (hc : c < 256) {X Y : List (List Nat)} (hX : Rws X t) (hY : Rws Y t) : Rws (List.zipWith (mixP c) X Y) t := fun r hr => by
  obtain ⟨i, hi⟩ := List.getElem?_of_mem hr
  rw [List.getElem?_zipWith] at hi
  cases hx : X[i]? with
  | none => simp [hx] at hi
  | some x =>
    cases hy : Y[i]? with
    | none => simp [hx, hy] at hi
    | some y =>
      simp only [hx, hy, Option.some.injEq] at hi
      rw [← hi]
      exact ⟨mixP_bytes hc, mixP_length (hX x (List.mem_of_getElem? hx)).2 (hY y (List.mem_of_getElem? hy)).2⟩
theorem rwsD {X : List (List Nat)} {t i : Nat} (h : Rws X t) (hi : i < X.length) : Bytes (X.getD i []) ∧ (X.getD i []).length = t := h _ (getD_mem hi)
theorem mix_lin {c t L : Nat} (hc : c < 256) {X Y : List (List Nat)} (hX : X.length = L) (hY : Y.length = L) (h0 : 0 < L) (rX : Rws X t) (rY : Rws Y t) {r : List Nat} (hr : Bytes r) : mixS (List.zipWith (mixP c) X Y) r = mixP c (mixS X r) (mixS Y r) := by
  have rZ := zipP_rws hc rX rY
  have hZ : (List.zipWith (mixP c) X Y).length = L := by rw [List.length_zipWith]; omega
  have lX := mixS_length (X := X) (t := t) (fun x hx => (rX x hx).2) (by omega) r
  have lY := mixS_length (X := Y) (t := t) (fun x hx => (rY x hx).2) (by omega) r
  have lZ := mixS_length (X := List.zipWith (mixP c) X Y) (t := t) (fun x hx => (rZ x hx).2) (by omega) r
  refine extT lZ (mixP_length lX lY) fun u hu => ?_
  rw [mixP_getD lX lY (by unfold mixS; exact mixTo_bytes hr _ _ _) hu, mixS_getD (fun x hx => (rZ x hx).2) (by omega) r hu, mixS_getD (fun x hx => (rX x hx).2) (by omega) r hu, mixS_getD (fun x hx => (rY x hx).2) (by omega) r hu, hZ, hX, hY]
  rw [mul_xsum hc (fun j => mul_lt (hr.getD j)), ← xsum_xor]
  apply xsum_congr
  intro j hj
  have bx := rwsD rX (i := j) (by omega)
  have by' := rwsD rY (i := j) (by omega)
  rw [zipP_getD (by omega) (by omega), mixP_getD bx.2 by'.2 bx.1 hu, mul_xor (hr.getD j) (bx.1.getD u) (mul_lt hc), mul_left_comm' (hr.getD j) hc (by'.1.getD u)]
theorem mixP_zs (c t : Nat) : mixP c (zs t) (zs t) = zs t := by
  refine extT (mixP_length (zs_length t) (zs_length t)) (zs_length t) fun u hu => ?_
  rw [mixP_getD (zs_length t) (zs_length t) (zs_bytes t) hu]
  rw [show (zs t).getD u 0 = 0 by unfold zs; rw [List.getD_eq_getElem?_getD, List.getElem?_replicate]; split <;> rfl, mul_zero]
  rfl
theorem sum_src {a b : List (List Nat)} {k t c : Nat} (hc : c < 256) (ha : SrcOK a k t) (hb : SrcOK b k t) : SrcOK (List.zipWith (mixP c) a b) k t :=
  ⟨by rw [List.length_zipWith, ha.len, hb.len, Nat.min_self], ha.k1, ha.k2, ha.t1, ha.t2, zipP_rws hc ha.rws hb.rws⟩
theorem inner_sum {a b : List (List Nat)} {k t c : Nat} (hc : c < 256) (ha : SrcOK a k t) (hb : SrcOK b k t) : ∃ X Y, innerR a = (X, 0) ∧ innerR b = (Y, 0) ∧ innerR (List.zipWith (mixP c) a b) = (List.zipWith (mixP c) X Y, 0) ∧ X.length = cL k ∧ Y.length = cL k ∧ Rws X t ∧ Rws Y t ∧ ∀ e, (pieceOf k (List.zipWith (mixP c) X Y) e).2 = mixP c (pieceOf k X e).2 (pieceOf k Y e).2 := by
  obtain ⟨g1, g2, g3⟩ := cL_facts ha.k1 ha.k2
  obtain ⟨X, hX, hXl, hXr, hXf, hXs⟩ := inner_val ha
  obtain ⟨Y, hY, hYl, hYr, hYf, hYs⟩ := inner_val hb
  refine ⟨X, Y, hX, hY, inner_of (sum_src hc ha hb) (by rw [List.length_zipWith]; omega) (zipP_rws hc hXr hYr) (fun r hr => ?_) (fun x hx => ?_), hXl, hYl, hXr, hYr, fun e => ?_⟩
  · rw [mix_lin hc hXl hYl g1 hXr hYr (fixed_all k r hr).1, hXf r hr, hYf r hr, mixP_zs c t]
  · rw [mix_lin hc hXl hYl g1 hXr hYr (placeR_bytes k x), hXs x hx, hYs x hx, zipP_getD (by rw [ha.len]; exact hx) (by rw [hb.len]; exact hx)]
  · simp only [pieceOf]
    exact mix_lin hc hXl hYl g1 hXr hYr (symR_bytes _ _)
/-! a symbol that was altered -/
theorem solve_clash {L t : Nat} {R V R2 X : List (List Nat)} (hR : AllL L R) (h0 : 0 < L) (hL : L ≤ 128) (hRl : R.length ≤ 256) (hVl : V.length = R.length) (hV : Rws V t) (hX : X.length = L) (hXr : Rws X t)
    (h2 : ∀ r ∈ R2, ∃ i : Nat, R[i]? = some r ∧ V[i]? = some (mixS X r)) (hr2 : rankOf L R2 = L) (hbad : ∃ (i : Nat) (r v : List Nat), R[i]? = some r ∧ V[i]? = some v ∧ v ≠ mixS X r) : solveR ((L : Nat) : Int) R V = ([], 22) := by
  have hR2 : Rws R2 L := fun r hr => by
    obtain ⟨i, hi, -⟩ := h2 r hr
    exact hR r (List.mem_of_getElem? hi)
  have hf : rankOf L R = L := by
    rw [rank_full (all_rws hR)]
    intro y y1 y2 y3
    refine (rank_full hR2).1 hr2 y y1 y2 fun a ha => ?_
    obtain ⟨i, hi, -⟩ := h2 a ha
    exact y3 a (List.mem_of_getElem? hi)
  unfold solveR
  rw [if_pos (solveOK_iff.2 ⟨right_all hR h0 hL hRl, hVl, even_of_rws hV⟩), Int.toNat_natCast]
  have hfa := (full_augs hVl (all_rws hR) hV).2 hf
  by_cases hc : (sysTo L (augs R V) R.length).2 = true
  · rw [solveOut_end]
    unfold solveEnd
    rw [if_neg (fun e => e hfa), if_pos hc]
  · exfalso
    have e0 : solveOut L R V = (solvedBy L (sysTo L (augs R V) R.length).1, 0) := by
      rw [solveOut_end]
      unfold solveEnd
      rw [if_neg (fun e => e hfa), if_neg hc]
    obtain ⟨s1, s2, s3⟩ := solve_told h0 hVl (all_rws hR) hV e0 rfl
    generalize solvedBy L (sysTo L (augs R V) R.length).1 = Y at s1 s2 s3
    have heq : applyOf R2 Y = applyOf R2 X := by
      rw [applyOf_eq, applyOf_eq]
      apply List.map_congr_left
      intro r hr
      obtain ⟨i, hi, hv⟩ := h2 r hr
      rw [← s3, applyOf_eq, List.getElem?_map, hi, Option.map_some, Option.some.injEq] at hv
      exact hv
    have k1 := solve_applied h0 s1 hR2 s2
    have k2 := solve_applied h0 hX hR2 hXr
    rw [heq, k2, if_pos hr2, if_pos hr2] at k1
    injection k1 with k1 _
    subst k1
    obtain ⟨i, r, v, hi, hv, hne⟩ := hbad
    rw [← s3, applyOf_eq, List.getElem?_map, hi, Option.map_some, Option.some.injEq] at hv
    exact hne hv.symm
theorem mem_but {α : Type} {es : List α} {i : Nat} {x : α} (h : x ∈ es.take i ++ es.drop (i + 1)) : ∃ j, j ≠ i ∧ es[j]? = some x := by
  rcases List.mem_append.1 h with h | h
  · obtain ⟨j, hj⟩ := List.getElem?_of_mem h
    rw [List.getElem?_take] at hj
    split at hj
    · exact ⟨j, by omega, hj⟩
    · cases hj
  · obtain ⟨j, hj⟩ := List.getElem?_of_mem h
    rw [List.getElem?_drop] at hj
    exact ⟨i + 1 + j, by omega, hj⟩
theorem set_fst {ps : List Pc} {i : Nat} {e : Int} {d : List Nat} (h : (ps.map Prod.fst)[i]? = some e) : (ps.set i (e, d)).map Prod.fst = ps.map Prod.fst := by
  rw [List.map_set]
  apply List.ext_getElem?
  intro j
  rw [List.getElem?_set]
  by_cases hj : i = j
  · subst hj
    rw [if_pos rfl, if_pos (List.getElem?_eq_some_iff.1 h).1, h]
  · rw [if_neg hj]
/-- what is decoded of pieces one of which was altered. -/
theorem decode_spoilt {src X : List (List Nat)} {k t i : Nat} {e : Int} {d : List Nat} (h : SrcOK src k t) (hX : X.length = cL k) (hXr : Rws X t) (hf : ∀ r ∈ fixedL k, mixS X r = zs t) {es : List Int} (he : es.length ≤ 128) (hok : ∀ e ∈ es, okE e = true) (hat : es[i]? = some e) (hE : enoughP k (es.take i ++ es.drop (i + 1))) (hd : Bytes d ∧ d.length = t) (hne : d ≠ (pieceOf k X e).2) :
    decodeR (k : Int) (t : Int) ((es.map (pieceOf k X)).set i (e, d)) = ([], 22) := by
  obtain ⟨f1, f2, f3, f4, f5, f6, -⟩ := code_facts h.k1 h.k2
  obtain ⟨g1, g2, g3⟩ := cL_facts h.k1 h.k2
  have hfl := fixed_length (k := k) f4
  have hxt : ∀ x ∈ X, x.length = t := fun x hx => (hXr x hx).2
  have hmix : ∀ e : Int, (pieceOf k X e).2.length = t := fun e => mixS_length hxt (by omega) (symR k e.toNat)
  have hR : AllL (cL k) (fixedL k ++ symsL k es) := all_app (fixed_all k) (syms_rws k es)
  have hfs : (es.map (pieceOf k X)).map Prod.fst = es := pieces_fst k X es
  have hmem : ∀ p ∈ (es.map (pieceOf k X)).set i (e, d), okE p.1 = true ∧ p.2.length = t := fun p hp => by
    rcases List.mem_or_eq_of_mem_set hp with hp | rfl
    · obtain ⟨e', he', rfl⟩ := List.mem_map.1 hp
      exact ⟨hok e' he', hmix e'⟩
    · exact ⟨hok e (List.mem_of_getElem? hat), hd.2⟩
  have e1 := decodeR_right h (ps := (es.map (pieceOf k X)).set i (e, d)) (by rw [List.length_set, List.length_map]; exact he) (badB_false.2 fun p hp => (hmem p hp).1) (evenP_iff.2 fun p hp => congrArg Nat.cast (hmem p hp).2)
  have hsl : (symsL k es).length = es.length := by unfold symsL; rw [List.length_map]
  have hsat : ∀ (j : Nat) (e' : Int), es[j]? = some e' → (symsL k es)[j]? = some (symR k e'.toNat) := fun j e' h => by unfold symsL; rw [List.getElem?_map, h]; rfl
  have hR2 : symsL k (es.take i ++ es.drop (i + 1)) = (es.take i ++ es.drop (i + 1)).map fun e => symR k e.toNat := rfl
  have e2 : decodeS k t ((es.map (pieceOf k X)).set i (e, d)) = ([], 22) := by
    unfold decodeS
    rw [set_fst (by rw [hfs]; exact hat), hfs, List.map_set, pieces_snd]
    unfold enoughP at hE
    rw [hR2] at hE
    simp only [pieceOf] at hne hmix
    have hSR := symR_bytes k
    generalize symR k = sy at *
    generalize symsL k es = SY at *
    generalize fixedL k = F at *
    generalize cL k = L at *
    have hi := (List.getElem?_eq_some_iff.1 hat).1
    refine solve_clash hR g1 (by omega) (by rw [List.length_append, hfl, hsl]; omega) (by rw [List.length_append, List.length_append, List.length_replicate, List.length_set, List.length_map, hfl]) (app_rws (zs_rws _ t) (fun r hr => ?_)) hX hXr (R2 := F ++ (es.take i ++ es.drop (i + 1)).map fun e => sy e.toNat) (fun r hr => ?_) hE ⟨L - k + i, sy e.toNat, d, ?_, ?_, hne⟩
    · rcases List.mem_or_eq_of_mem_set hr with hr | rfl
      · obtain ⟨r', hr', rfl⟩ := List.mem_map.1 hr
        have hb := hR r' (List.mem_append.2 (.inr hr'))
        exact ⟨by unfold mixS; exact mixTo_bytes hb.1 _ _ _, mixS_length hxt (by omega) r'⟩
      · exact hd
    · rcases List.mem_append.1 hr with hr | hr
      · obtain ⟨j, hj⟩ := List.getElem?_of_mem hr
        have hjl := (List.getElem?_eq_some_iff.1 hj).1
        refine ⟨j, by rw [List.getElem?_append_left hjl]; exact hj, ?_⟩
        rw [List.getElem?_append_left (by rw [List.length_replicate]; omega), List.getElem?_replicate, if_pos (by omega), hf r (List.mem_of_getElem? hj)]
      · obtain ⟨e', he', rfl⟩ := List.mem_map.1 hr
        obtain ⟨j, hji, hj⟩ := mem_but he'
        refine ⟨L - k + j, ?_, ?_⟩
        · rw [List.getElem?_append_right (by omega), hfl, show L - k + j - (L - k) = j by omega]
          exact hsat j e' hj
        · rw [List.getElem?_append_right (by rw [List.length_replicate]; omega), List.length_replicate, show L - k + j - (L - k) = j by omega, List.getElem?_set_ne (by omega), List.getElem?_map, hsat j e' hj]
          rfl
    · rw [List.getElem?_append_right (by omega), hfl, show L - k + i - (L - k) = i by omega]
      exact hsat i e hat
    · rw [List.getElem?_append_right (by rw [List.length_replicate]; omega), List.length_replicate, show L - k + i - (L - k) = i by omega, List.getElem?_set, if_pos rfl, if_pos (by rw [List.length_map]; omega)]
  rw [e1]
  unfold decodeT
  rw [e2, if_neg (by decide)]
end Go.Proofs.YtfjcbgfgiidogaaDoor
namespace Go.Proofs.YtfjcbgfgiidogaaDoor
open Go.RowKit

theorem fixedR_ok {k : Nat} (h1 : 1 ≤ k) (hk : k ≤ 32) : fixedR (k : Int) = (fixedL k, 0) := by
  unfold fixedR
  rw [if_pos (okK_iff.2 ⟨by omega, by omega⟩), Int.toNat_natCast]
theorem rowR_ok {k : Nat} (h1 : 1 ≤ k) (hk : k ≤ 32) (e : Int) : rowR (k : Int) e = if okE e = true then (symR k e.toNat, 0) else ([], 40) := by
  unfold rowR
  rw [if_pos (okK_iff.2 ⟨by omega, by omega⟩), Int.toNat_natCast]
theorem apply_fixed {k t : Nat} {X : List (List Nat)} (h1 : 1 ≤ k) (hk : k ≤ 32) (hX : X.length = cL k) (hXr : Rws X t) (hf : ∀ r ∈ fixedL k, mixS X r = zs t) : applyR ((cL k : Nat) : Int) (fixedL k) X = (List.replicate (cL k - k) (zs t), 0) := by
  obtain ⟨g1, g2, g3⟩ := cL_facts h1 hk
  have hfl := fixed_length (k := k) (code_facts h1 hk).2.2.2.1
  unfold applyR
  rw [if_pos (applyOK_iff.2 ⟨right_all (fixed_all k) g1 (by omega) (by rw [hfl]; omega), by rw [hX], even_of_rws hXr⟩), applyOf_eq]
  have hall : ∀ b ∈ (fixedL k).map (mixS X), b = zs t := fun b hb => by
    obtain ⟨r, hr, rfl⟩ := List.mem_map.1 hb
    exact hf r hr
  have hlen : ((fixedL k).map (mixS X)).length = cL k - k := by rw [List.length_map, hfl]
  rw [List.eq_replicate_iff.2 ⟨hlen, hall⟩]

end Go.Proofs.YtfjcbgfgiidogaaDoor
namespace Go.Proofs.YtfjcbgfgiidogaaDoor
open Go.RowKit

theorem and_31 (a : Int) : ∃ i : Nat, bits .and .i64 a 31 = (i : Int) ∧ i < 32 := by
  have h : (BitVec.ofInt 64 a &&& BitVec.ofInt 64 31).toNat < 32 := by
    rw [BitVec.toNat_and]
    exact Nat.lt_of_le_of_lt Nat.and_le_right (by decide)
  refine ⟨(BitVec.ofInt 64 a &&& BitVec.ofInt 64 31).toNat, ?_, h⟩
  show IntKind.i64.wrap ((BitVec.ofInt 64 a &&& BitVec.ofInt 64 31).toNat : Int) = _
  generalize (BitVec.ofInt 64 a &&& BitVec.ofInt 64 31).toNat = m at h ⊢
  unfold IntKind.wrap
  simp [IntKind.bits, IntKind.signed]
  omega
/-- the numbers of a source, turned. -/
def turnL (k r m : Nat) : List Int := (List.range m).map fun i => (((i + r) % k : Nat) : Int)
theorem turnL_succ (k r m : Nat) : turnL k r m ++ [(((m + r) % k : Nat) : Int)] = turnL k r (m + 1) := by unfold turnL; rw [List.range_succ, List.map_append]; rfl
theorem turnL_length (k r m : Nat) : (turnL k r m).length = m := by simp [turnL]
theorem turnL_at {k r m i : Nat} (h : i < m) : (turnL k r m)[i]? = some (((i + r) % k : Nat) : Int) := by
  unfold turnL; rw [List.getElem?_map, List.getElem?_range h, Option.map_some]
theorem turnL_mem {k r x : Nat} (hr : r < 32) (hx : x < k) : ((x : Nat) : Int) ∈ turnL k r k := by
  have hk : 0 < k := by omega
  refine List.mem_map.2 ⟨(x + 32 * k - r) % k, List.mem_range.2 (Nat.mod_lt _ hk), ?_⟩
  have h32 : r ≤ 32 * k := by
    have : 32 * 1 ≤ 32 * k := Nat.mul_le_mul_left 32 hk
    omega
  have e : ((x + 32 * k - r) % k + r) % k = x := by
    rw [Nat.mod_add_mod, show x + 32 * k - r + r = x + 32 * k by omega, Nat.add_mul_mod_self_right, Nat.mod_eq_of_lt hx]
  rw [e]
theorem turnL_ok {k r m : Nat} (hk : 0 < k) (hk2 : k ≤ 32) : ∀ e ∈ turnL k r m, okE e = true := fun e he => by
  obtain ⟨i, -, rfl⟩ := List.mem_map.1 he
  have := Nat.mod_lt (i + r) hk
  exact okE_iff.2 ⟨by omega, by omega⟩
theorem sym_src {src X : List (List Nat)} {k : Nat} (hs : ∀ x, x < k → mixS X (placeR k x) = src.getD x []) {x : Nat} (hx : x < k) : pieceOf k X (x : Int) = ((x : Int), src.getD x []) := by
  unfold pieceOf symR
  rw [Int.toNat_natCast, if_pos hx, hs x hx]

end Go.Proofs.YtfjcbgfgiidogaaDoor
