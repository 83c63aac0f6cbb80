/-
  Rq6: RqQ RqR RqS
-/
import Derived.Lib.SlBytesConst
import Derived.Test.YtfjcbgfgiidogaaDoorMRqO
import Derived.Test.YtfjcbgfgiidogaaDoorMRqP
namespace Go.Proofs.YtfjcbgfgiidogaaDoor
open Go.RowKit

theorem axpy_length (k : Nat) : ∀ (v a : List Nat), (axpy k v a).length = a.length
  | [], a => by cases a <;> rfl
  | v :: vs, [] => rfl
  | v :: vs, a :: bs => by simp only [axpy, List.length_cons]; rw [axpy_length k vs bs]
theorem axpy_bytes {k : Nat} (hk : k < 256) : ∀ {v a : List Nat}, Bytes v → Bytes a → Bytes (axpy k v a)
  | [], a, _, h => by cases a <;> exact h
  | v :: vs, [], _, h => h
  | v :: vs, a :: bs, hv, ha => fun x hx => by
    simp only [axpy, List.mem_cons] at hx
    rcases hx with rfl | hx
    · rw [mulQ_mul hk (hv v (by simp))]; exact xor_lt (ha a (by simp)) (mul_lt hk)
    · exact axpy_bytes hk (fun y hy => hv y (by simp [hy])) (fun y hy => ha y (by simp [hy])) x hx
theorem axpy_getD {k : Nat} (hk : k < 256) : ∀ {v a : List Nat}, v.length = a.length → Bytes v → ∀ j, (axpy k v a).getD j 0 = a.getD j 0 ^^^ mul k (v.getD j 0)
  | [], [], _, _, j => by simp [axpy, mul_zero]
  | v :: vs, a :: bs, hl, hv, 0 => by simp only [axpy, List.getD_cons_zero]; rw [mulQ_mul hk (hv v (by simp))]
  | v :: vs, a :: bs, hl, hv, j + 1 => by
    simp only [axpy, List.getD_cons_succ]
    exact axpy_getD hk (by simpa using hl) (fun y hy => hv y (by simp [hy])) j
  | [], a :: bs, hl, _, _ => by simp at hl
  | v :: vs, [], hl, _, _ => by simp at hl
theorem dot_axpy {y : Nat → Nat} {v a : List Nat} {k : Nat} (L : Nat) (hy : ∀ j, y j < 256) (hk : k < 256) (hl : v.length = a.length) (hv : Bytes v) (ha : Bytes a) : dot y (axpy k v a) L = dot y a L ^^^ mul k (dot y v L) := by
  unfold dot
  rw [mul_xsum hk (fun j => mul_lt (hy j)), ← xsum_xor]
  apply xsum_congr
  intro j _
  rw [axpy_getD hk hl hv, mul_xor (hy j) (ha.getD j) (mul_lt hk), mul_left_comm' (hy j) hk (hv.getD j)]
theorem dot_comb {z : Nat → Nat} {L : Nat} (hz : ∀ j, z j < 256) : ∀ (ks : List Nat) (rs : List (List Nat)) (acc : List Nat), Bytes ks → ks.length = rs.length → (∀ r ∈ rs, Bytes r ∧ r.length = L) → Bytes acc → acc.length = L →
    dot z (comb ks rs acc) L = dot z acc L ^^^ xsum (fun j => mul (ks.getD j 0) (dot z (rs.getD j []) L)) ks.length
  | [], [], acc, _, _, _, _, _ => by simp [comb, xsum]
  | k :: ks, r :: rs, acc, hk, hl, hr, ha, hal => by
    have hk0 := hk k (by simp)
    have hr0 := hr r (by simp)
    simp only [comb]
    rw [dot_comb hz ks rs (axpy k r acc) (fun x hx => hk x (by simp [hx])) (by simpa using hl) (fun x hx => hr x (by simp [hx])) (axpy_bytes hk0 hr0.1 ha) (by rw [axpy_length, hal]),
      dot_axpy L hz hk0 (by rw [hr0.2, hal]) hr0.1 ha, List.length_cons, Nat.add_comm ks.length 1, xsum_add _ 1 ks.length]
    have e1 : xsum (fun j => mul ((k :: ks).getD j 0) (dot z ((r :: rs).getD j []) L)) 1 = mul k (dot z r L) := by simp [xsum]
    have e2 : xsum (fun u => mul ((k :: ks).getD (1 + u) 0) (dot z ((r :: rs).getD (1 + u) []) L)) ks.length = xsum (fun j => mul (ks.getD j 0) (dot z (rs.getD j []) L)) ks.length := by
      apply xsum_congr
      intro j _
      rw [Nat.add_comm 1 j, List.getD_cons_succ, List.getD_cons_succ]
    rw [e1, e2, Nat.xor_assoc]
  | [], r :: rs, _, _, hl, _, _, _ => by simp at hl
  | k :: ks, [], _, _, hl, _, _, _ => by simp at hl
theorem dot_unit {y : Nat → Nat} (hy : ∀ j, y j < 256) {L i : Nat} (hi : i < L) : dot y (unitL L i) L = y i := by
  have hg : ∀ j, j < L → (unitL L i).getD j 0 = if i = j then 1 else 0 := fun j hj => by
    unfold unitL
    rw [List.getD_eq_getElem?_getD, List.getElem?_map, List.getElem?_range hj]
    by_cases e : i = j
    · subst e; simp
    · rw [if_neg e]
      show (if Nat.beq i j = true then 1 else 0) = 0
      rw [if_neg (fun h => e (Nat.eq_of_beq_eq_true h))]
  unfold dot
  rw [xsum_one hi (fun j hj hne => by rw [hg j hj, if_neg (fun e => hne e.symm), mul_zero]), hg i hi, if_pos rfl, mul_one (hy i)]
theorem dot_zs (y : Nat → Nat) (L : Nat) : dot y (zs L) L = 0 := xsum_zero fun j _ => by
  rw [show (zs L).getD j 0 = 0 by unfold zs; rw [List.getD_eq_getElem?_getD, List.getElem?_replicate]; split <;> rfl, mul_zero]
theorem shape_of {L : Nat} {N : List (List Nat)} (h : shapeB L N = true) : N.length = L ∧ ∀ r ∈ N, Bytes r ∧ r.length = L := by
  unfold shapeB at h
  simp only [Bool.and_eq_true, List.all_eq_true] at h
  exact ⟨Nat.eq_of_beq_eq_true h.1, fun r hr => ⟨fun x hx => bltI.1 ((h.2 r hr).2 x hx), Nat.eq_of_beq_eq_true (h.2 r hr).1⟩⟩
/-- two matrices that are each other's inverse. -/
structure InvM (L : Nat) (A N : List (List Nat)) : Prop where
  la : A.length = L
  ra : ∀ r ∈ A, Bytes r ∧ r.length = L
  ln : N.length = L
  rn : ∀ r ∈ N, Bytes r ∧ r.length = L
  na : ∀ i, i < L → comb (N.getD i []) A (zs L) = unitL L i
  an : ∀ i, i < L → comb (A.getD i []) N (zs L) = unitL L i
theorem getD_mem {N : List (List Nat)} {i : Nat} (h : i < N.length) : N.getD i [] ∈ N := by rw [List.getD_eq_getElem?_getD, List.getElem?_eq_getElem h]; exact List.getElem_mem h
theorem InvM.ker {L : Nat} {A N : List (List Nat)} (h : InvM L A N) {y : Nat → Nat} (hy : ∀ j, y j < 256) (h0 : ∀ a ∈ A, dot y a L = 0) {j : Nat} (hj : j < L) : y j = 0 := by
  have hn := h.rn _ (getD_mem (by rw [h.ln]; exact hj))
  have k := dot_comb hy (N.getD j []) A (zs L) hn.1 (by rw [hn.2, h.la]) h.ra (zs_bytes L) (zs_length L)
  rw [h.na j hj, dot_unit hy hj, dot_zs, Nat.zero_xor, xsum_zero (fun i hi => by rw [h0 _ (getD_mem (by rw [h.la]; rw [hn.2] at hi; exact hi)), mul_zero])] at k
  exact k
theorem mixS_getD {X : List (List Nat)} {t : Nat} (hX : ∀ x ∈ X, x.length = t) (h0 : 0 < X.length) (r : List Nat) {u : Nat} (hu : u < t) : (mixS X r).getD u 0 = xsum (fun i => mul (r.getD i 0) ((X.getD i []).getD u 0)) X.length := by
  unfold mixS
  rw [longest_even hX h0 (Nat.le_refl _), mixTo_getD _ _ _ _ hu, mixAt_xsum]
theorem mixS_length {X : List (List Nat)} {t : Nat} (hX : ∀ x ∈ X, x.length = t) (h0 : 0 < X.length) (r : List Nat) : (mixS X r).length = t := by
  unfold mixS
  rw [mixTo_length, longest_even hX h0 (Nat.le_refl _)]
/-- the solution for any values. -/
theorem InvM.apply {L t : Nat} {A N Z : List (List Nat)} (h : InvM L A N) (hL : 0 < L) (hZ : Rws Z t) (hzl : Z.length = L) : (N.map (mixS Z)).length = L ∧ Rws (N.map (mixS Z)) t ∧ ∀ i, i < L → mixS (N.map (mixS Z)) (A.getD i []) = Z.getD i [] := by
  have hzt : ∀ z ∈ Z, z.length = t := fun z hz => (hZ z hz).2
  have hX : (N.map (mixS Z)).length = L := by rw [List.length_map, h.ln]
  have hXr : Rws (N.map (mixS Z)) t := fun x hx => by
    obtain ⟨n, hn, rfl⟩ := List.mem_map.1 hx
    exact ⟨by unfold mixS; exact mixTo_bytes (h.rn n hn).1 _ _ _, mixS_length hzt (by omega) n⟩
  refine ⟨hX, hXr, fun i hi => ?_⟩
  have hxt : ∀ x ∈ N.map (mixS Z), x.length = t := fun x hx => (hXr x hx).2
  have hzi : (Z.getD i []).length = t := hzt _ (getD_mem (by omega))
  apply ext_getD
  · rw [mixS_length hxt (by omega), hzi]
  · intro u hu
    rw [mixS_length hxt (by omega)] at hu
    rw [mixS_getD hxt (by omega) _ hu, hX]
    have hz256 : ∀ j, (Z.getD j []).getD u 0 < 256 := fun j => by
      by_cases hj : j < Z.length
      · exact (hZ _ (getD_mem hj)).1.getD u
      · rw [List.getD_eq_getElem?_getD (l := Z), List.getElem?_eq_none (by omega)]; simp
    have ha := h.ra _ (getD_mem (N := A) (i := i) (by rw [h.la]; exact hi))
    have k := dot_comb (z := fun j => (Z.getD j []).getD u 0) hz256 (A.getD i []) N (zs L) ha.1 (by rw [ha.2, h.ln]) h.rn (zs_bytes L) (zs_length L)
    rw [h.an i hi, dot_unit hz256 hi, dot_zs, Nat.zero_xor, ha.2] at k
    rw [k]
    apply xsum_congr
    intro j hj
    have hjN : j < N.length := by rw [h.ln]; exact hj
    congr 1
    rw [List.getD_eq_getElem?_getD (l := N.map (mixS Z)), List.getElem?_map, List.getElem?_eq_getElem (by rw [h.ln]; exact hj)]
    show (mixS Z (N[j]'hjN)).getD u 0 = _
    rw [mixS_getD hzt (by omega) _ hu, hzl]
    have e : N.getD j [] = N[j]'hjN := by rw [List.getD_eq_getElem?_getD, List.getElem?_eq_getElem (by rw [h.ln]; exact hj)]; rfl
    rw [e]
    unfold dot
    apply xsum_congr
    intro q _
    exact mul_comm ((h.rn _ (List.getElem_mem _)).1.getD q) (hz256 q)
theorem inv_of {L : Nat} {R A N : List (List Nat)} (h1 : (R == A) = true) (h2 : (shapeB L A && shapeB L N) = true) (h3 : invB L N A = true) (h4 : invB L A N = true) : InvM L R N := by
  have e := eq_of_beq h1
  subst e
  rw [Bool.and_eq_true] at h2
  obtain ⟨a1, a2⟩ := shape_of h2.1
  obtain ⟨b1, b2⟩ := shape_of h2.2
  exact ⟨a1, a2, b1, b2, fun i hi => eq_of_beq (List.all_eq_true.1 h3 i (by simpa using hi)), fun i hi => eq_of_beq (List.all_eq_true.1 h4 i (by simpa using hi))⟩
/-- all codes' matrices have an inverse. -/
theorem inv_all {K : Nat} (h : K % 4 = 0) (h1 : 4 ≤ K) (h2 : K ≤ 32) : ∃ N, InvM (cL K) (rowsK K) N := by
  have : K = 4 ∨ K = 8 ∨ K = 12 ∨ K = 16 ∨ K = 20 ∨ K = 24 ∨ K = 28 ∨ K = 32 := by omega
  rcases this with rfl | rfl | rfl | rfl | rfl | rfl | rfl | rfl
  · exact ⟨litN4, by rw [show cL 4 = 11 by decide +kernel]; exact inv_of litA_ok4 litS_ok4 litNA_ok4 litAN_ok4⟩
  · exact ⟨litN8, by rw [show cL 8 = 17 by decide +kernel]; exact inv_of litA_ok8 litS_ok8 litNA_ok8 litAN_ok8⟩
  · exact ⟨litN12, by rw [show cL 12 = 21 by decide +kernel]; exact inv_of litA_ok12 litS_ok12 litNA_ok12 litAN_ok12⟩
  · exact ⟨litN16, by rw [show cL 16 = 27 by decide +kernel]; exact inv_of litA_ok16 litS_ok16 litNA_ok16 litAN_ok16⟩
  · exact ⟨litN20, by rw [show cL 20 = 31 by decide +kernel]; exact inv_of litA_ok20 litS_ok20 litNA_ok20 litAN_ok20⟩
  · exact ⟨litN24, by rw [show cL 24 = 39 by decide +kernel]; exact inv_of litA_ok24 litS_ok24 litNA_ok24 litAN_ok24⟩
  · exact ⟨litN28, by rw [show cL 28 = 43 by decide +kernel]; exact inv_of litA_ok28 litS_ok28 litNA_ok28 litAN_ok28⟩
  · exact ⟨litN32, by rw [show cL 32 = 47 by decide +kernel]; exact inv_of litA_ok32 litS_ok32 litNA_ok32 litAN_ok32⟩
/-! what hangs on Kp alone -/
theorem kp_kp (k : Nat) : cKp (cKp k) = cKp k := by unfold cKp; omega
theorem cS_kp (k : Nat) : cS (cKp k) = cS k := by unfold cS; rw [kp_kp]
theorem cL_kp (k : Nat) : cL (cKp k) = cL k := by unfold cL; rw [kp_kp, cS_kp]
theorem cW_kp (k : Nat) : cW (cKp k) = cW k := by unfold cW; rw [kp_kp, cS_kp]
theorem cP_kp (k : Nat) : cP (cKp k) = cP k := by unfold cP; rw [cL_kp, cW_kp]
theorem cP1_kp (k : Nat) : cP1 (cKp k) = cP1 k := by unfold cP1; rw [cP_kp]
theorem cB_kp (k : Nat) : cB (cKp k) = cB k := by unfold cB; rw [cW_kp, cS_kp]
theorem cJ_kp (k : Nat) : cJ (cKp k) = cJ k := by unfold cJ; rw [kp_kp]
theorem tY_kp (k x : Nat) : tY (cKp k) x = tY k x := by unfold tY; rw [cJ_kp]
theorem placeR_kp (k x : Nat) : placeR (cKp k) x = placeR k x := by
  have e1 : tD (cKp k) x = tD k x := by unfold tD; rw [tY_kp, cW_kp]
  have e2 : tA (cKp k) x = tA k x := by unfold tA; rw [tY_kp, cW_kp]
  have e3 : tB (cKp k) x = tB k x := by unfold tB; rw [tY_kp, cW_kp]
  have e4 : tD1 (cKp k) x = tD1 k x := by unfold tD1; rw [tY_kp, cW_kp]
  have e5 : tA1 (cKp k) x = tA1 k x := by unfold tA1; rw [cP1_kp]
  have e6 : tB1 (cKp k) x = tB1 k x := by unfold tB1; rw [cP1_kp]
  unfold placeR
  rw [e1, e2, e3, e4, e5, e6, cP_kp, cP1_kp, cW_kp, cL_kp]
theorem lit0_kp (k i : Nat) : lit0 (cKp k) i = lit0 k i := by unfold lit0; rw [cL_kp, cB_kp, cW_kp, cP_kp]
theorem lit1_kp (k n : Nat) : lit1 (cKp k) n = lit1 k n := by
  unfold lit1
  rw [cS_kp, show lit0 (cKp k) = lit0 k from funext (lit0_kp k)]
theorem lit3_kp (k i : Nat) (m : List (List Nat)) : ∀ s, lit3 (cKp k) i m s = lit3 k i m s
  | 0 => rfl
  | s + 1 => by simp only [lit3]; rw [lit3_kp k i m s]; unfold litI; rw [cS_kp]
theorem lit2_kp (k : Nat) : ∀ i, lit2 (cKp k) i = lit2 k i
  | 0 => by simp only [lit2]; rw [lit1_kp, cS_kp]
  | i + 1 => by simp only [lit2]; rw [lit2_kp k i, lit3_kp]
theorem lightP_kp (k : Nat) : lightP (cKp k) = lightP k := by unfold lightP; rw [lit2_kp, cB_kp]
theorem heavyP_kp (k : Nat) : heavyP (cKp k) = heavyP k := by
  have e : ∀ h, hv0 (cKp k) h = hv0 k h := fun h => by unfold hv0 hvR; rw [kp_kp, cS_kp, cL_kp]
  unfold heavyP hv1
  rw [show hv0 (cKp k) = hv0 k from funext e]
theorem placesL_kp (k m : Nat) : placesL (cKp k) m = placesL k m := by unfold placesL; rw [show placeR (cKp k) = placeR k from funext (placeR_kp k)]
/-- all rows that hold for a code's Kp. -/
def rowsA (k : Nat) : List (List Nat) := lightP k ++ heavyP k ++ placesL k (cKp k)
theorem inv_rows {k : Nat} (h1 : 1 ≤ k) (hk : k ≤ 32) : ∃ N, InvM (cL k) (rowsA k) N := by
  obtain ⟨f1, f2, -⟩ := code_facts h1 hk
  obtain ⟨N, h⟩ := inv_all (K := cKp k) (by unfold cKp; omega) f1 f2
  refine ⟨N, ?_⟩
  have e : rowsK (cKp k) = rowsA k := by unfold rowsK rowsA; rw [lightP_kp, heavyP_kp, placesL_kp]
  rw [e, cL_kp] at h
  exact h
/-- the rank is full just if nothing but 0 is in the kernel. -/
theorem rank_full {cols : Nat} {rows : List (List Nat)} (hr : Rws rows cols) : rankOf cols rows = cols ↔ ∀ y : Nat → Nat, (∀ j, y j < 256) → (∀ j, cols ≤ j → y j = 0) → (∀ a ∈ rows, dot y a cols = 0) → ∀ j, j < cols → y j = 0 := by
  have h := full_ker (says_rows hr)
  rw [show rankOf cols rows = count (sysTo cols rows rows.length).1 cols from rfl, h]
  constructor
  · intro k y h1 h2 h3; exact k y ⟨h1, h2, h3⟩
  · intro k y ⟨h1, h2, h3⟩; exact k y h1 h2 h3
theorem full_sub {k : Nat} (h1 : 1 ≤ k) (hk : k ≤ 32) {R : List (List Nat)} (hR : Rws R (cL k)) (hs : ∀ r ∈ rowsA k, r ∈ R) : rankOf (cL k) R = cL k := by
  obtain ⟨N, h⟩ := inv_rows h1 hk
  exact (rank_full hR).2 fun y hy _ h0 j hj => h.ker hy (fun a ha => h0 a (hs a ha)) hj
theorem all_rws {L : Nat} {ls : List (List Nat)} (h : AllL L ls) : Rws ls L := h
theorem mem_rowsA {k : Nat} (_hk : k ≤ cKp k) {r : List Nat} : r ∈ rowsA k → r ∈ fixedL k ++ placesL k k := by
  intro h
  simp only [rowsA, List.mem_append] at h
  simp only [fixedL, List.mem_append]
  rcases h with (h | h) | h
  · exact .inl (.inl (.inl h))
  · exact .inl (.inl (.inr h))
  · obtain ⟨i, hi, rfl⟩ := List.mem_map.1 h
    rw [List.mem_range] at hi
    by_cases hik : i < k
    · exact .inr (List.mem_map.2 ⟨i, List.mem_range.2 hik, rfl⟩)
    · refine .inl (.inr (List.mem_map.2 ⟨i - k, List.mem_range.2 (by omega), ?_⟩))
      rw [show k + (i - k) = i by omega]
end Go.Proofs.YtfjcbgfgiidogaaDoor
namespace Go.Proofs.YtfjcbgfgiidogaaDoor
open Go.RowKit

/-- are these symbols a source? -/
structure SrcOK (src : List (List Nat)) (k t : Nat) : Prop where
  len : src.length = k
  k1 : 1 ≤ k
  k2 : k ≤ 32
  t1 : 1 ≤ t
  t2 : t ≤ 64
  rws : Rws src t
theorem SrcOK.wid {src : List (List Nat)} {k t : Nat} (h : SrcOK src k t) : widthB src = t := width_rws h.rws (by have := h.len; have := h.k1; omega)
theorem zs_rws (n t : Nat) : Rws (List.replicate n (zs t)) t := fun r hr => by rw [List.eq_of_mem_replicate hr]; exact ⟨zs_bytes t, zs_length t⟩
theorem app_rws {a b : List (List Nat)} {t : Nat} (ha : Rws a t) (hb : Rws b t) : Rws (a ++ b) t := fun r hr => by
  rcases List.mem_append.1 hr with h | h
  · exact ha r h
  · exact hb r h
theorem getD_left {a b : List (List Nat)} {i : Nat} (h : i < a.length) : (a ++ b).getD i [] = a.getD i [] := by
  rw [List.getD_eq_getElem?_getD, List.getElem?_append_left h, ← List.getD_eq_getElem?_getD]
theorem getD_right {a b : List (List Nat)} (i : Nat) : (a ++ b).getD (a.length + i) [] = b.getD i [] := by
  rw [List.getD_eq_getElem?_getD, List.getElem?_append_right (by omega), show a.length + i - a.length = i by omega, ← List.getD_eq_getElem?_getD]
theorem getD_rep {n i : Nat} {x : List Nat} (h : i < n) : (List.replicate n x).getD i [] = x := by
  rw [List.getD_eq_getElem?_getD, List.getElem?_replicate, if_pos h]; rfl
theorem applyOf_eq (rows X : List (List Nat)) : applyOf rows X = rows.map (mixS X) := rfl
theorem places_getD {k m x : Nat} (h : x < m) : (placesL k m).getD x [] = placeR k x := by
  unfold placesL
  rw [List.getD_eq_getElem?_getD, List.getElem?_map, List.getElem?_range h, Option.map_some, Option.getD_some]
/-- rows behind one another, and their values. -/
theorem part_left {A B Z W X : List (List Nat)} {L n : Nat} (hA : A.length = n) (hZ : Z.length = n) (hn : n ≤ L) (h : ∀ i, i < L → mixS X ((A ++ B).getD i []) = (Z ++ W).getD i []) {i : Nat} (hi : i < n) : mixS X (A.getD i []) = Z.getD i [] := by
  have := h i (by omega)
  rwa [getD_left (by omega), getD_left (by omega)] at this
theorem part_right {A B Z W X : List (List Nat)} {L n : Nat} (hA : A.length = n) (hZ : Z.length = n) (h : ∀ i, i < L → mixS X ((A ++ B).getD i []) = (Z ++ W).getD i []) {x : Nat} (hx : n + x < L) : mixS X (B.getD x []) = W.getD x [] := by
  have k := h (n + x) hx
  have e1 := getD_right (a := A) (b := B) x
  have e2 := getD_right (a := Z) (b := W) x
  rw [hA] at e1
  rw [hZ] at e2
  rw [e1, e2] at k
  exact k
theorem rows_split (k : Nat) : rowsA k = (lightP k ++ heavyP k) ++ placesL k (cKp k) := rfl
theorem fixed_split (k : Nat) : fixedL k = (lightP k ++ heavyP k) ++ (List.range (cKp k - k)).map (fun i => placeR k (k + i)) := rfl
theorem inner_x {src : List (List Nat)} {k t : Nat} (h : SrcOK src k t) : ∃ X, X.length = cL k ∧ Rws X t ∧ (∀ r ∈ lightP k ++ heavyP k, mixS X r = zs t) ∧ ∀ x, x < cKp k → mixS X (placeR k x) = (src ++ List.replicate (cKp k - k) (zs t)).getD x [] := by
  obtain ⟨f1, f2, f3, f4, f5, f6, -⟩ := code_facts h.k1 h.k2
  obtain ⟨g1, g2, g3⟩ := cL_facts h.k1 h.k2
  obtain ⟨N, hI⟩ := inv_rows h.k1 h.k2
  have hL : cL k = cKp k + cS k + 4 := rfl
  have hsl := h.len
  have hrw := h.rws
  have hlh : (lightP k ++ heavyP k).length = cS k + 4 := by rw [List.length_append, light_length, heavy_length]
  have hpl := placesL_length k (cKp k)
  have hpg : ∀ x, x < cKp k → (placesL k (cKp k)).getD x [] = placeR k x := fun x hx => places_getD hx
  rw [rows_split] at hI
  generalize placeR k = pl at hpg ⊢
  generalize placesL k (cKp k) = PL at hI hpl hpg
  generalize lightP k ++ heavyP k = LH at hI hlh ⊢
  generalize cL k = L at hL g1 g2 g3 hI ⊢
  generalize cKp k = K at f1 f2 f3 f4 hL hpl hpg ⊢
  generalize cS k = S at f5 f6 hL hlh
  obtain ⟨hX, hXr, hXa⟩ := hI.apply (t := t) (Z := List.replicate (S + 4) (zs t) ++ (src ++ List.replicate (K - k) (zs t))) g1 (app_rws (zs_rws _ _) (app_rws hrw (zs_rws _ _))) (by simp only [List.length_append, List.length_replicate]; omega)
  generalize List.map (mixS (List.replicate (S + 4) (zs t) ++ (src ++ List.replicate (K - k) (zs t)))) N = X at hX hXr hXa
  refine ⟨X, hX, hXr, fun r hr => ?_, fun x hx => ?_⟩
  · obtain ⟨i, hi, rfl⟩ := mem_getD.1 hr
    rw [hlh] at hi
    rw [part_left hlh (by rw [List.length_replicate]) (by omega) hXa hi, getD_rep hi]
  · rw [← hpg x hx]
    exact part_right hlh (by rw [List.length_replicate]) hXa (by omega)
theorem inner_f {src X : List (List Nat)} {k t : Nat} (hsl : src.length = k) (hk : k ≤ cKp k) (a1 : ∀ r ∈ lightP k ++ heavyP k, mixS X r = zs t) (a2 : ∀ x, x < cKp k → mixS X (placeR k x) = (src ++ List.replicate (cKp k - k) (zs t)).getD x []) :
    (∀ r ∈ fixedL k, mixS X r = zs t) ∧ ∀ x, x < k → mixS X (placeR k x) = src.getD x [] := by
  rw [fixed_split]
  generalize lightP k ++ heavyP k = LH at a1 ⊢
  generalize placeR k = pl at a2 ⊢
  generalize cKp k = K at hk a2 ⊢
  refine ⟨fun r hr => ?_, fun x hx => ?_⟩
  · rcases List.mem_append.1 hr with h' | h'
    · exact a1 r h'
    · obtain ⟨i, hi, rfl⟩ := List.mem_map.1 h'
      rw [List.mem_range] at hi
      rw [a2 _ (by omega)]
      have := getD_right (a := src) (b := List.replicate (K - k) (zs t)) i
      rw [hsl] at this
      rw [this, getD_rep hi]
  · rw [a2 x (by omega), getD_left (by omega)]
/-- values of rows that are applied. -/
theorem apply_two {F P X src : List (List Nat)} {t d k : Nat} (hF : F.length = d) (hf : ∀ r ∈ F, mixS X r = zs t) (hP : P.length = k) (hs : src.length = k) (hp : ∀ x, x < k → mixS X (P.getD x []) = src.getD x []) : List.replicate d (zs t) ++ src = applyOf (F ++ P) X := by
  rw [applyOf_eq, List.map_append]
  congr 1
  · symm
    rw [List.eq_replicate_iff]
    refine ⟨by rw [List.length_map, hF], fun b hb => ?_⟩
    obtain ⟨r, hr, rfl⟩ := List.mem_map.1 hb
    exact hf r hr
  · apply List.ext_getElem?
    intro i
    by_cases hi : i < k
    · have := hp i hi
      rw [List.getD_eq_getElem?_getD, List.getD_eq_getElem?_getD, List.getElem?_eq_getElem (by omega), List.getElem?_eq_getElem (by omega)] at this
      rw [List.getElem?_map, List.getElem?_eq_getElem (by omega), List.getElem?_eq_getElem (by omega)]
      exact congrArg some this.symm
    · rw [List.getElem?_eq_none (by omega), List.getElem?_eq_none (by rw [List.length_map]; omega)]
theorem solve_right {L t d : Nat} {R X V : List (List Nat)} (hR : AllL L R) (h0 : 0 < L) (hL : L ≤ 128) (hRl : R.length ≤ 256) (hX : X.length = L) (hXr : Rws X t) (hV : List.replicate d (zs t) ++ V = applyOf R X) : solveR ((L : Nat) : Int) R (List.replicate d (zs t) ++ V) = if rankOf L R = L then (X, 0) else ([], 21) := by
  have hok : solveOK ((L : Nat) : Int) R (List.replicate d (zs t) ++ V) = true := by
    rw [hV]
    exact solveOK_iff.2 ⟨right_all hR h0 hL hRl, by unfold applyOf; rw [List.length_map], even_of_rws (apply_rws h0 hX hR hXr)⟩
  unfold solveR
  rw [if_pos hok, Int.toNat_natCast, hV, solve_applied h0 hX hR hXr]
theorem innerR_right {src : List (List Nat)} {k t : Nat} (h : SrcOK src k t) : innerR src = solveR ((cL k : Nat) : Int) (fixedL k ++ placesL k k) (List.replicate (cL k - k) (zs t) ++ src) := by
  have hev : evenB src ((t : Nat) : Int) = true := evenB_iff.2 fun l hl => by rw [(h.rws l hl).2]
  unfold innerR
  rw [h.len, if_pos (okK_iff.2 ⟨by have := h.k1; omega, by have := h.k2; omega⟩), h.wid, if_pos ⟨h.t1, h.t2⟩, if_pos hev]
  unfold innerS
  rw [h.len, h.wid]
/-- the inner symbols. -/
theorem inner_val {src : List (List Nat)} {k t : Nat} (h : SrcOK src k t) : ∃ X, innerR src = (X, 0) ∧ X.length = cL k ∧ Rws X t ∧ (∀ r ∈ fixedL k, mixS X r = zs t) ∧ ∀ x, x < k → mixS X (placeR k x) = src.getD x [] := by
  obtain ⟨f1, f2, f3, f4, f5, f6, -⟩ := code_facts h.k1 h.k2
  obtain ⟨g1, g2, g3⟩ := cL_facts h.k1 h.k2
  obtain ⟨X, hX, hXr, a1, a2⟩ := inner_x h
  obtain ⟨a3, a4⟩ := inner_f h.len f4 a1 a2
  refine ⟨X, ?_, hX, hXr, a3, a4⟩
  have hfl := fixed_length (k := k) f4
  have hpl := placesL_length k k
  have hR : AllL (cL k) (fixedL k ++ placesL k k) := all_app (fixed_all k) (placesL_all k k)
  have hfull : rankOf (cL k) (fixedL k ++ placesL k k) = cL k := full_sub h.k1 h.k2 (all_rws hR) (fun r hr => mem_rowsA f4 hr)
  have hV := apply_two (d := cL k - k) hfl a3 hpl h.len (fun x hx => by rw [places_getD hx]; exact a4 x hx)
  rw [innerR_right h]
  generalize fixedL k = F at hfl hR hfull hV ⊢
  generalize placesL k k = P at hpl hR hfull hV ⊢
  generalize cL k = L at *
  rw [solve_right hR g1 (by omega) (by rw [List.length_append]; have := h.k2; omega) hX hXr hV, if_pos hfull]
/-- are these numbers enough? -/
def enoughP (k : Nat) (es : List Int) : Prop := rankOf (cL k) (fixedL k ++ symsL k es) = cL k
theorem decodeR_right {src : List (List Nat)} {k t : Nat} (h : SrcOK src k t) {ps : List Pc} (he : ps.length ≤ 128) (hbad : badB ps = false) (hev : evenP ((t : Nat) : Int) ps = true) : decodeR (k : Int) (t : Int) ps = decodeT k t ps := by
  unfold decodeR
  rw [if_pos (okK_iff.2 ⟨by have := h.k1; omega, by have := h.k2; omega⟩), if_pos (by unfold okT; rw [decide_eq_true (by have := h.t1; omega), decide_eq_true (by have := h.t2; omega)]; rfl), if_pos he, if_neg (by rw [hbad]; simp), if_pos hev, Int.toNat_natCast, Int.toNat_natCast]
theorem pieces_fst (k : Nat) (X : List (List Nat)) (es : List Int) : (es.map (pieceOf k X)).map Prod.fst = es := by
  rw [List.map_map]
  show es.map (fun e => e) = es
  simp
theorem pieces_snd (k : Nat) (X : List (List Nat)) (es : List Int) : (es.map (pieceOf k X)).map Prod.snd = (symsL k es).map (mixS X) := by
  unfold symsL
  rw [List.map_map, List.map_map]
  apply List.map_congr_left
  intro e _
  simp only [Function.comp, pieceOf]
theorem apply_syms {F P X : List (List Nat)} {t d : Nat} (hF : F.length = d) (hf : ∀ r ∈ F, mixS X r = zs t) : List.replicate d (zs t) ++ P.map (mixS X) = applyOf (F ++ P) X := by
  rw [applyOf_eq, List.map_append]
  congr 1
  symm
  rw [List.eq_replicate_iff]
  refine ⟨by rw [List.length_map, hF], fun b hb => ?_⟩
  obtain ⟨r, hr, rfl⟩ := List.mem_map.1 hb
  exact hf r hr
theorem apply_src {P X src : List (List Nat)} {L t k : Nat} (hP : AllL L P) (h0 : 0 < L) (hL : L ≤ 128) (hX : X.length = L) (hXr : Rws X t) (hk : k ≤ 256) (hPl : P.length = k) (hs : src.length = k) (hp : ∀ x, x < k → mixS X (P.getD x []) = src.getD x []) : applyR ((L : Nat) : Int) P X = (src, 0) := by
  have e := apply_two (F := []) (d := 0) (t := 0) rfl (fun r hr => by simp at hr) hPl hs hp
  unfold applyR
  rw [if_pos (applyOK_iff.2 ⟨right_all hP h0 hL (by omega), by rw [hX], even_of_rws hXr⟩)]
  simp only [List.replicate_zero, List.nil_append] at e
  rw [← e]
/-- what the pieces of a source are decoded to. -/
theorem decode_val {src X : List (List Nat)} {k t : Nat} (h : SrcOK src k t) (hX : X.length = cL k) (hXr : Rws X t) (hf : ∀ r ∈ fixedL k, mixS X r = zs t) (hs : ∀ x, x < k → mixS X (placeR k x) = src.getD x []) {es : List Int} (he : es.length ≤ 128) (hok : ∀ e ∈ es, okE e = true) :
    (enoughP k es → decodeR (k : Int) (t : Int) (es.map (pieceOf k X)) = (src, 0)) ∧ (¬ enoughP k es → decodeR (k : Int) (t : Int) (es.map (pieceOf k X)) = ([], 21)) := by
  obtain ⟨f1, f2, f3, f4, f5, f6, -⟩ := code_facts h.k1 h.k2
  obtain ⟨g1, g2, g3⟩ := cL_facts h.k1 h.k2
  have hfl := fixed_length (k := k) f4
  have hxt : ∀ x ∈ X, x.length = t := fun x hx => (hXr x hx).2
  have hR : AllL (cL k) (fixedL k ++ symsL k es) := all_app (fixed_all k) (syms_rws k es)
  have hbad : badB (es.map (pieceOf k X)) = false := badB_false.2 fun p hp => by
    obtain ⟨e, he, rfl⟩ := List.mem_map.1 hp
    exact hok e he
  have hev : evenP ((t : Nat) : Int) (es.map (pieceOf k X)) = true := evenP_iff.2 fun p hp => by
    obtain ⟨e, he, rfl⟩ := List.mem_map.1 hp
    have := mixS_length hxt (by omega) (symR k e.toNat)
    exact congrArg Nat.cast this
  have e1 := decodeR_right h (ps := es.map (pieceOf k X)) (by rw [List.length_map]; exact he) hbad hev
  have hsl : (symsL k es).length = es.length := by unfold symsL; rw [List.length_map]
  have hV := apply_syms (P := symsL k es) (d := cL k - k) hfl hf
  have e2 : decodeS k t (es.map (pieceOf k X)) = if rankOf (cL k) (fixedL k ++ symsL k es) = cL k then (X, 0) else ([], 21) := by
    unfold decodeS
    rw [pieces_fst, pieces_snd]
    exact solve_right hR g1 (by omega) (by rw [List.length_append, hfl, hsl]; omega) hX hXr hV
  have hap := apply_src (placesL_all k k) g1 (by omega) hX hXr (by have := h.k2; omega) (placesL_length k k) h.len (fun x hx => by rw [places_getD hx]; exact hs x hx)
  unfold enoughP
  refine ⟨fun hE => ?_, fun hE => ?_⟩
  · rw [e1]; unfold decodeT; rw [e2, if_pos hE, if_pos rfl, hap]
  · rw [e1]; unfold decodeT; rw [e2, if_neg hE, if_neg (by decide)]
theorem encode_val {src X : List (List Nat)} {k t : Nat} (h : SrcOK src k t) (hX : innerR src = (X, 0)) (es : List Int) : encodeR src es = if es.all okE = true then (es.map (pieceOf k X), 0) else ([], 40) := by
  unfold encodeR
  rw [hX, if_pos rfl, h.len]
theorem enough_iff {k : Nat} (h1 : 1 ≤ k) (hk : k ≤ 32) {es : List Int} (he : es.length ≤ 128) (hok : es.all okE = true) : enoughB (k : Int) es = true ↔ enoughP k es := by
  unfold enoughB
  rw [okK_iff.2 ⟨by omega, by omega⟩, Bool.true_and, decide_eq_true he, Bool.true_and, hok, Bool.true_and, decide_eq_true_iff, Int.toNat_natCast]
  rfl
/-- the source's own numbers are enough. -/
theorem enough_src {k : Nat} (h1 : 1 ≤ k) (hk : k ≤ 32) {es : List Int} (hs : ∀ x : Nat, x < k → (x : Int) ∈ es) : enoughP k es := by
  refine full_sub h1 hk (all_rws (all_app (fixed_all k) (syms_rws k es))) fun r hr => ?_
  have := mem_rowsA (code_facts h1 hk).2.2.2.1 hr
  rcases List.mem_append.1 this with h | h
  · exact List.mem_append.2 (.inl h)
  · obtain ⟨x, hx, rfl⟩ := List.mem_map.1 h
    rw [List.mem_range] at hx
    refine List.mem_append.2 (.inr (List.mem_map.2 ⟨(x : Int), hs x hx, ?_⟩))
    unfold symR
    rw [Int.toNat_natCast, if_pos hx]
theorem not_enough {k : Nat} (h1 : 1 ≤ k) (hk : k ≤ 32) {es : List Int} (he : es.length < k) : ¬ enoughP k es := fun h => by
  have k1 := (rank_le (all_rws (all_app (fixed_all k) (syms_rws k es)))).2
  unfold enoughP at h
  rw [h, List.length_append, fixed_length (code_facts h1 hk).2.2.2.1, symsL, List.length_map] at k1
  have := (cL_facts h1 hk).2.2
  omega
end Go.Proofs.YtfjcbgfgiidogaaDoor
namespace Go.Proofs.YtfjcbgfgiidogaaDoor
open Go.RowKit

theorem bytesV_litG (w : World) (cs : Array Value) (T : TypeId) (fr : Nat × Nat) (n : Nat) (l : List Nat) (hcs : cs.toList = l.map bv) (hn : l.length = n) (hl : Bytes l) (hs : n ≤ 140737488355328) :
    BytesV (w.alloc (.cells cs T fr)) (some ⟨w.heap.size, 0, none⟩, n, n) l := by
  refine ⟨⟨by simpa using hn, fun _ => ⟨w.heap.size, 0, rfl, fun i hi => ?_⟩⟩, hl, hs, Nat.le_refl _, fun h => by cases h⟩
  rw [cell_of_row _ _ _ _ _ _ (heap_alloc_new w _), ← hcs]
  simp
theorem intsV_litG (w : World) (cs : Array Value) (b n : Nat) (l : List Int) (hb : b = w.heap.size) (hcs : cs.toList = l.map iv) (hn : l.length = n) (hs : n ≤ 140737488355328) : IntsV (w.alloc (.cells cs 3)) (some ⟨b, 0, none⟩, n, n) l :=
  ⟨rowV_lit w cs 3 b n _ hb hcs (by simpa using hn), hs, Nat.le_refl _, fun h => by cases h⟩
theorem ab_bytes : Bytes [97, 98] := bytes_of (by decide)
theorem conv_ab (w : World) (a : Option Addr) (c : Nat) (h : BytesV w (a, 2, c) [97, 98]) : (convert 22 9 (.slice a 2 c)).run Tryd.prog w = .ok (.string { data := #[97, 98] }) w := by
  obtain ⟨b, o, e, hc⟩ := h.row.2 (by simp)
  simp only at e hc
  subst e
  have := run_convert_bytes_back (P := Tryd.prog) w 22 9 5 ⟨b, o, none⟩ c [97, 98] Tryd.underlying22 Tryd.underlying5 Tryd.underlying9 (fun j hj => by
    have hj2 : j < 2 := by simpa using hj
    have := hc j hj2
    rcases (by omega : j = 0 ∨ j = 1) with rfl | rfl
    · simpa [bv, Addr.add] using this
    · simpa [bv, Addr.add] using this)
  exact this
theorem rd_one {w : World} {a : Option Addr} {n c : Nat} {l : List Nat} (h : BytesV w (a, n, c) l) : RD (w.alloc (.cells #[.slice a n c] 22)) (some ⟨w.heap.size, 0, none⟩) 1 [l] :=
  ⟨rfl, [(a, n, c)], rowV_lit w _ _ _ 1 _ rfl rfl rfl, ⟨rfl, fun i x m h1 h2 => by
    cases i with
    | zero => simp at h1 h2; subst h1 h2; exact h.below (below_alloc _ _)
    | succ i => simp at h1⟩⟩
theorem pi_one {w : World} {e : Int} {a : Option Addr} {n c : Nat} {l : List Nat} (h : BytesV w (a, n, c) l) : PiV (w.alloc (.cells #[.int .i64 e, .slice a n c] PT)) (some ⟨w.heap.size, 0, none⟩) 1 [(e, l)] := by
  have hn := heap_alloc_new w (.cells #[.int .i64 e, .slice a n c] PT)
  refine ⟨rfl, [(e, (a, n, c))], rfl, fun _ => ⟨w.heap.size, 0, rfl, fun i x hx => ?_⟩, fun i x p h1 h2 => ?_⟩
  · cases i with
    | zero =>
      simp at hx
      subst hx
      exact ⟨by rw [cell_of_row _ _ _ _ _ _ hn]; rfl, by rw [cell_of_row _ _ _ _ _ _ hn]; rfl⟩
    | succ i => simp at hx
  · cases i with
    | zero => simp at h1 h2; subst h1 h2; exact ⟨rfl, h.below (below_alloc _ _)⟩
    | succ i => simp at h1
theorem src_ab : SrcOK [[97, 98]] 1 2 := ⟨rfl, by omega, by omega, by omega, by omega, fun r hr => by simp at hr; subst hr; exact ⟨ab_bytes, rfl⟩⟩
theorem alive_enc : ∃ l, encodeR [[97, 98]] [0, 7] = ([(0, [97, 98]), (7, l)], 0) := by
  obtain ⟨X, hX, hXl, hXr, hf, hs⟩ := inner_val src_ab
  have e1 := encode_val src_ab hX [0, 7]
  rw [if_pos (by decide)] at e1
  have h0 : mixS X (symR 1 ((0 : Int).toNat)) = [97, 98] := by
    unfold symR
    rw [show ((0 : Int).toNat) = 0 from rfl, if_pos (by omega), hs 0 (by omega)]
    rfl
  refine ⟨mixS X (symR 1 ((7 : Int).toNat)), ?_⟩
  rw [e1]
  simp only [List.map_cons, List.map_nil, pieceOf]
  rw [h0]
theorem alive_dec : decodeR (1 : Int) (2 : Int) [(0, [97, 98])] = ([[97, 98]], 0) := by
  obtain ⟨X, hX, hXl, hXr, hf, hs⟩ := inner_val src_ab
  have h0 : mixS X (symR 1 ((0 : Int).toNat)) = [97, 98] := by
    unfold symR
    rw [show ((0 : Int).toNat) = 0 from rfl, if_pos (by omega), hs 0 (by omega)]
    rfl
  have := (decode_val src_ab hXl hXr hf hs (es := [0]) (by simp) (fun e he => by simp at he; subst he; decide)).1 (enough_src (by omega) (by omega) fun x hx => by
    obtain rfl : x = 0 := by omega
    simp)
  simp only [List.map_cons, List.map_nil, pieceOf] at this
  rw [h0] at this
  exact this
theorem alive_en2 : enoughB (3 : Int) [0, 1] = false := by
  cases h : enoughB (3 : Int) [0, 1] with
  | false => rfl
  | true => exact absurd ((enough_iff (k := 3) (by omega) (by omega) (by simp) (by decide)).1 h) (not_enough (by omega) (by omega) (by simp))
theorem alive_en3 : enoughB (3 : Int) [0, 1, 2] = true := (enough_iff (k := 3) (by omega) (by omega) (by simp) (by decide)).2 (enough_src (by omega) (by omega) fun x hx => by
  rcases (by omega : x = 0 ∨ x = 1 ∨ x = 2) with rfl | rfl | rfl <;> simp)

end Go.Proofs.YtfjcbgfgiidogaaDoor
