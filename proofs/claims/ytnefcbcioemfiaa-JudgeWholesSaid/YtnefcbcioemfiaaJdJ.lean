/-
  judge: order.
-/
import Derived.Test.YtnefcbcioemfiaaJdI
namespace Go.Proofs.Ytnefcbcioemfiaa
open Go.RowKit Go.ChangeMaps Go.MapKept Go.WideShapes
open Go.Maps (Keyed IsMap)

/-- an order of places, by the search over the acts at these places. -/
def ordP (xs : List ActR) (P : List Nat) : Option (List Nat) := (srch (P.map fun p => xs.getD p dAct) 0 (-1)).map fun r => r.map fun i => P.getD i 0
theorem ordP_places (xs : List ActR) (k : ByteArray) : ordP xs (placesOf xs k) = ordR xs k := by
  unfold ordP ordR
  rw [placesOf_row]
def GivesOrd (w : World) (o : Option (List Nat)) (e : Ending) (w' : World) : Prop :=
  Below w.heap.size w w' ∧ ((∃ (r : List Nat) (ra : Option Addr) (rc : Nat), o = some r ∧ e = .returned (.tuple #[.slice ra r.length rc, .bool true]) ∧ w'.ownsRow w.heap.size 3 1 (.slice ra r.length rc) r.length ((cnL r).map iv)) ∨
    (o = none ∧ e = .returned (.tuple #[.slice none 0 0, .bool false])))
def mixO (L r : List Nat) (k : Nat) : List Nat := L.take k ++ r.drop k
theorem mixO_zero (L r : List Nat) : mixO L r 0 = r := by simp [mixO]
theorem mixO_full {L r : List Nat} (h : L.length = r.length) : mixO L r r.length = L := by simp [mixO, List.take_of_length_le (Nat.le_of_eq h)]
theorem mixO_len {L r : List Nat} (h : L.length = r.length) (k : Nat) (hk : k ≤ r.length) : (mixO L r k).length = r.length := by simp [mixO, h]; omega
theorem mixO_set {L r : List Nat} (h : L.length = r.length) (k : Nat) (hk : k < r.length) : (mixO L r k).set k (L.getD k 0) = mixO L r (k + 1) := by
  apply List.ext_getElem
  · rw [List.length_set, mixO_len h k (by omega), mixO_len h (k + 1) (by omega)]
  · intro i h1 h2
    rw [List.getElem_set]
    split
    · rename_i e
      subst e
      simp [mixO, List.getElem_append, List.getD_eq_getElem?_getD, h, hk]
      intro h3; omega
    · rename_i e
      simp only [mixO, List.getElem_append, List.length_take, List.getElem_take, List.getElem_drop]
      by_cases h3 : i < k
      · rw [dif_pos (by omega), dif_pos (by omega)]
      · rw [dif_neg (by omega), dif_neg (by omega)]
        congr 1
        omega
theorem mixO_get {L r : List Nat} (h : L.length = r.length) (k : Nat) (hk : k < r.length) : (mixO L r k)[k]? = some (r.getD k 0) := by
  unfold mixO
  rw [List.getElem?_append_right (by simp; omega)]
  simp [h, List.getElem?_drop, List.getD_eq_getElem?_getD]
  rw [show k + (k - min k r.length) = k by omega, List.getElem?_eq_getElem hk]
  rfl
theorem cnL_get {l : List Nat} {i x : Nat} (h : l[i]? = some x) : ((cnL l).map iv)[i]? = some (.int .i64 (x : Int)) := by simp [iv, h]
set_option maxRecDepth 100000 in
set_option maxHeartbeats 8000000 in
theorem order_any (aa : Option Addr) (an ac : Nat) (xs : List ActR) (pa : Option Addr) (pn pc : Nat) (P : List Nat) (w : World) (h : ActsV w aa an xs) (hP : IntsV w (pa, pn, pc) (cnL P)) (hp : ∀ p ∈ P, p < an) (h12 : P.length ≤ 12) :
    Calls Try.prog 37 #[.slice aa an ac, .slice pa pn pc] w (GivesOrd w (ordP xs P)) := by
  have KN := newSearch_any aa an ac xs pa pn pc P w h hP hp h12
  have hpl : P.length = pn := by have := hP.length; simpa using this
  have hpc : pn ≤ pc := hP.cap
  have HP := Lib.hid hP
  have HPL := Lib.hid hpl
  have HL12 := Lib.hid h12
  obtain ⟨O, hO⟩ : ∃ O, O = ordP xs P := ⟨_, rfl⟩
  rw [← hO]
  have HO := Lib.hid hO
  clear h hP hp h12 hpl hO
  go_enter Try.func37, Try.ntmps37
  go_wp2_with fail
  (with_reducible refine KN.mono ?_)
  rintro e w1 ⟨sb, mb, a, c, rfl, hS, hD, b1, hmb⟩
  have KF : Calls Try.prog 53 #[PTR sb, .agg #[.int .u64 0, .int .i64 (-1)]] w1 (GivesFrom w1 mb (P.map fun p => xs.getD p dAct) 0 (-1) (0 + 13 ^ (12 + 1))) :=
    from_any sb a P.length c mb _ 12 0 (-1) 0 w1 hS hD (by have := leftN_le (P.map fun p => xs.getD p dAct) 0; have := HL12.out; simp at *; omega) (by decide) (.inl rfl) (by decide)
  have HB1 := Lib.hid b1
  have HMB := Lib.hid hmb
  clear hS hD b1 KN hmb
  go_wp2_with fail
  (with_reducible refine KF.mono ?_)
  rintro e w2 ⟨-, hg2, ⟨r, ra, rc, hr, rfl, hro⟩ | ⟨hr, rfl⟩⟩
  · have HB2 := Lib.hid (HB1.out.grown hg2 HB1.out.size (fun q hq => by injection hq with hq; rw [← hq]; exact HMB.out))
    have hok := srch_some hr
    have hrl : ∀ i ∈ r, i < pn := fun i hi => by have := okPath_lt hok i hi; have h2 := HPL.out; simp at this; omega
    have hr12 : r.length ≤ 12 := by
      have h1 := okPath_len hok
      have h2 := leftN_le (P.map fun p => xs.getD p dAct) 0
      have := HL12.out
      rw [List.length_map] at h2
      omega
    obtain ⟨L, hL⟩ : ∃ L, L = r.map fun i => P.getD i 0 := ⟨_, rfl⟩
    have hOL : O = some L := by rw [HO.out, ordP, hr, hL]; rfl
    have hLr : L.length = r.length := by rw [hL]; simp
    obtain ⟨rn, hrn⟩ : ∃ n, n = r.length := ⟨_, rfl⟩
    rw [← hrn] at hro hr12 ⊢
    have HRO := Lib.hid (ownsRow_baseJ hro HB1.out.size)
    have HRL := Lib.hid hrl
    have HL := Lib.hid hL
    have HOL := Lib.hid hOL
    have HLR := Lib.hid hLr
    have HRN := Lib.hid hrn
    have hrn0 : (0 : Int) ≤ (rn : Int) := by omega
    have hrcap : rn ≤ rc := by
      obtain ⟨ad', cap', e, -, hc, -⟩ := ownsRow_parts hro
      injection e with e1 e2 e3; omega
    clear hro hrl hL hOL hLr hr hok KF hg2 hrn
    go_wp2
    go_loopw [20] (fun v wr => ∃ k : Nat, k ≤ rn ∧ v = .int .i64 (k : Nat) ∧ Hid (wr.ownsRow w.heap.size 3 1 (.slice ra rn rc) rn ((cnL (mixO L r k)).map iv)) ∧ Hid (Below w.heap.size w wr)) (fun v _ => rn - (intOf v).toNat)
    case atStart => exact ⟨0, Nat.zero_le _, rfl, Lib.hid (by rw [mixO_zero]; exact HRO.out), HB2⟩
    case round =>
      clear HRO HB2
      obtain ⟨k, hk, rfl, HW, HB⟩ := hrel
      by_cases hlt : k < rn
      · obtain ⟨ad', cap', e1, hcs, -, -, hrow⟩ := ownsRow_parts HW.out
        injection e1 with e2 e3 e4
        subst e2 e4
        obtain ⟨g, rfl, hgb, hgs⟩ : ∃ g, ra = some ⟨g, 0, none⟩ ∧ w.heap.size ≤ g ∧ g < wr.heap.size := by
          rcases hcs with ⟨-, h0, -⟩ | ⟨g, h1, h2, h3⟩
          · omega
          · exact ⟨g, h1, h2, h3⟩
        have hkr : k < r.length := by rw [← HRN.out]; exact hlt
        obtain ⟨x, hx⟩ : ∃ x, x = r.getD k 0 := ⟨_, rfl⟩
        obtain ⟨y, hy⟩ : ∃ y, y = L.getD k 0 := ⟨_, rfl⟩
        have c1 : wr.cell? ⟨g, k, none⟩ = some (.int .i64 (x : Int)) := by
          have := HW.out.cellAt k (by omega)
          rw [this, hx]
          exact cnL_get (mixO_get HLR.out k hkr)
        have hf := HW.out.frozenAt k
        have hxp : x < pn := HRL.out x (by rw [hx, List.getD_eq_getElem?_getD, List.getElem?_eq_getElem hkr]; exact List.getElem_mem hkr)
        obtain ⟨pb, po, epa, hpc2⟩ := (HP.out.below HB.out).row.2 (by simp only; omega)
        simp only at epa
        subst epa
        have c2 := hpc2 x (by simp only; omega)
        have hPx : ((cnL P).map iv)[x]? = some (.int .i64 (y : Int)) := by
          have hxl : x < P.length := by rw [HPL.out]; exact hxp
          refine cnL_get ?_
          rw [hy, HL.out, List.getD_eq_getElem?_getD, List.getElem?_map, List.getElem?_eq_getElem hkr]
          simp only [Option.map_some, Option.getD_some]
          have e5 : r[k] = x := by rw [hx, List.getD_eq_getElem?_getD, List.getElem?_eq_getElem hkr]; rfl
          rw [e5, List.getD_eq_getElem?_getD, List.getElem?_eq_getElem hxl]; rfl
        rw [hPx] at c2
        have hx0 : (0 : Int) ≤ (x : Int) := by omega
        have hx1 : (x : Int) < (pn : Int) := by omega
        have HY := Lib.hid hy
        have HG := Lib.hid hgb
        clear hcs hrow hx hy hpc2 hPx hgb
        go_wp2
        go_roundw
        case rel =>
          refine ⟨k + 1, by omega, by go_num, Lib.hid ?_, Lib.hid (HB.out.setCell (p := ⟨g, k, none⟩) HG.out _)⟩
          have h1 := (HW.out.stored k (.int .i64 (y : Int))).1
          have e5 : (cnL (mixO L r (k + 1))).map iv = ((cnL (mixO L r k)).map iv).set k (.int .i64 (y : Int)) := by
            rw [← mixO_set HLR.out k hkr, ← HY.out]
            simp [List.map_set, iv]
          rw [e5]
          exact h1
        case measure => simp [intOf]; omega
      · obtain rfl : k = rn := by omega
        go_wp2
        go_ret2
        refine ⟨HB.out, .inl ⟨L, ra, rc, HOL.out, ?_, ?_⟩⟩
        · rw [HLR.out, ← HRN.out]; rfl
        · have h1 := HW.out
          rw [HLR.out, ← HRN.out]
          rw [HRN.out, mixO_full HLR.out, ← HRN.out] at h1
          exact h1
  · have HB2 := Lib.hid (HB1.out.grown hg2 HB1.out.size (fun q hq => by injection hq with hq; rw [← hq]; exact HMB.out))
    have hON : O = none := by rw [HO.out, ordP, hr]; rfl
    have HON := Lib.hid hON
    clear hON hr KF hg2
    go_wp2
    go_loopw [20] (fun v wr => v = .int .i64 0 ∧ Hid (Below w.heap.size w wr)) (fun v _ => 0)
    case atStart => exact ⟨rfl, HB2⟩
    case round =>
      obtain ⟨rfl, HB⟩ := hrel
      go_wp2
      go_ret2
      exact ⟨HB.out, .inr ⟨HON.out, rfl⟩⟩
end Go.Proofs.Ytnefcbcioemfiaa
