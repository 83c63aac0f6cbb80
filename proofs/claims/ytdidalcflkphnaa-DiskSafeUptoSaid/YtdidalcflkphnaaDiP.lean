/-
  disk: Rot.
-/
import Derived.Test.YtdidalcflkphnaaDiO
import Derived.StillTailTactics
namespace Go.Proofs.Ytdidalcflkphnaa
open Go.RowKit

/-- a bit turned, if the bytes have it. -/
def flip (l : List Nat) (j r : Nat) : List Nat := if j < l.length then l.set j (l.getD j 0 ^^^ 2 ^ r) else l
theorem flip_bytes {l : List Nat} (h : Bytes l) (j r : Nat) (hr : r < 8) : Bytes (flip l j r) := by
  unfold flip
  split
  · intro x hx
    rcases List.mem_or_eq_of_mem_set hx with q | q
    · exact h x q
    · rw [q]
      exact Nat.xor_lt_two_pow (n := 8) (h.getD j) (Nat.pow_lt_pow_right (by omega) hr)
  · exact h
theorem flip_length (l : List Nat) (j r : Nat) : (flip l j r).length = l.length := by unfold flip; split <;> simp
theorem xor_one (y r : Nat) (hy : y < 256) (hr : r < 8) : bits .xor .u8 (y : Int) ((2 : Int) ^ r % 256) = ((y ^^^ 2 ^ r : Nat) : Int) := by
  have e : (2 : Int) ^ r % 256 = ((2 ^ r : Nat) : Int) := by
    have : r = 0 ∨ r = 1 ∨ r = 2 ∨ r = 3 ∨ r = 4 ∨ r = 5 ∨ r = 6 ∨ r = 7 := by omega
    rcases this with rfl | rfl | rfl | rfl | rfl | rfl | rfl | rfl <;> decide
  rw [e]
  exact u8_xor_nat y (2 ^ r) hy (Nat.pow_lt_pow_right (a := 2) (m := r) (n := 8) (by decide) hr)
theorem SlM.mono {w : World} {F F' : Nat → Prop} {sh : HdT} {hs : List SlH} {sl : List Slot} (h : SlM w F sh hs sl) (hF : ∀ b, F b → F' b) : SlM w F' sh hs sl :=
  ⟨h.own, h.len, h.hl, fun b hb => hF b (h.inF b hb), fun i x s a b => by
    obtain ⟨q1, q2, q3⟩ := h.each i x s a b
    exact ⟨q1, q2.mono hF, q3.mono hF⟩, h.apart⟩
theorem SlM.drew {w : World} {F : Nat → Prop} {sh : HdT} {hs : List SlH} {sl : List Slot} (h : SlM w F sh hs sl) : SlM w.drew F sh hs sl := h.keep (G := fun _ => False) (ChF.drew (.refl _ _)) (fun _ _ e => e)
def rotV (d : DV) (i bit : Int) : DV × Int :=
  if 0 ≤ i ∧ i < (d.sl.length : Int) then
    let s := d.sl.getD i.toNat ([], [], false)
    if bit < 0 ∨ 8 * (s.2.1.length : Int) ≤ bit then (d, 41)
    else ({ d with sl := d.sl.set i.toNat (flip s.1 (bit.toNat / 8) (bit.toNat % 8), flip s.2.1 (bit.toNat / 8) (bit.toNat % 8), s.2.2) }, 0)
  else (d, 80)
theorem ByF.poke {w : World} {F : Nat → Prop} {a : Option Addr} {n c yb j : Nat} {l : List Nat} (h : ByF w F (a, n, c) l) (ha : a = some ⟨yb, 0, none⟩) {v : Nat} (hv : v < 256) : ByF (w.setCell ⟨yb, j, none⟩ (bv v)) F (a, n, c) (l.set j v) := by
  subst ha
  have hl := h.len
  simp only at hl
  subst hl
  refine ⟨?_, by simp, fun x hx => ?_, by simpa using h.small, h.inF⟩
  · rw [List.length_set, List.map_set]
    exact own_setS h.own j _
  · rcases List.mem_or_eq_of_mem_set hx with q | q
    · exact h.bytes x q
    · rw [q]; exact hv
theorem ByF.cell {w : World} {F : Nat → Prop} {x : HdT} {l : List Nat} (h : ByF w F x l) {j : Nat} (hj : j < l.length) : ∃ yb, x.1 = some ⟨yb, 0, none⟩ ∧ l.length ≤ x.2.2 ∧ x.2.2 ≤ maxLen ∧ w.cell? ⟨yb, j, none⟩ = some (.int .u8 (l.getD j 0 : Nat)) ∧ (∀ i, w.frozen? ⟨yb, i, none⟩ = false) ∧ yb < w.heap.size ∧ F yb := by
  obtain ⟨x1, x2, x3⟩ := x
  have hl := h.len
  simp only at hl
  subst hl
  rcases h.own.2 with ⟨-, e⟩ | ⟨g, cap, cur, e, -, hh, hnc, hcm, hcs, ht⟩
  · omega
  · simp only [SV, Value.slice.injEq] at e
    obtain ⟨e1, -, e3⟩ := e
    subst e1 e3
    refine ⟨g, rfl, hnc, hcm, ?_, fun i => frozen_of_row _ _ _ _ _ hh, (Array.getElem?_eq_some_iff.1 hh).1, h.inF g rfl⟩
    rw [h.own.cellAt j (by show j < l.length * 1; omega)]
    exact bv_getD hj
/-- the bytes that are read, one of them another. -/
theorem SlM.pokeR {w : World} {F : Nat → Prop} {sh : HdT} {hs : List SlH} {sl : List Slot} (h : SlM w F sh hs sl) {k : Nat} {x : SlH} (hx : hs[k]? = some x) {s : Slot} (hs' : sl[k]? = some s) {yb j v : Nat} (hy : x.2.1.1 = some ⟨yb, 0, none⟩) (hv : v < 256) :
    SlM (w.setCell ⟨yb, j, none⟩ (bv v)) F sh hs (sl.set k (s.1, s.2.1.set j v, s.2.2)) ∧ F yb := by
  have hc : ChF (fun q => q = yb) w (w.setCell ⟨yb, j, none⟩ (bv v)) := (ChF.refl (fun q => q = yb) w).set (g := yb) (.inl (show yb = yb from rfl))
  obtain ⟨-, b1, b2⟩ := h.each k x s hx hs'
  have hk : k < hs.length := (List.getElem?_eq_some_iff.1 hx).1
  have hob : (SV x.2.1).ownBlock = some yb := by simp [SV, Value.ownBlock, hy]
  have hR : hdr hs (2 * k + 1) = some x.2.1 := by unfold hdr; rw [show (2 * k + 1) / 2 = k by omega, hx]; simp [show (2 * k + 1) % 2 = 1 by omega]
  have hoth : ∀ m u, hdr hs m = some u → m ≠ 2 * k + 1 → ∀ q, (SV u).ownBlock = some q → q ≠ yb := fun m u hu hm q hq e => by
    subst e
    rcases h.apart m (2 * k + 1) u _ hu hR hm with z | z
    · rw [hq] at z; cases z
    · exact z (by rw [hq, hob])
  refine ⟨⟨?_, by simpa using h.len, by simpa using h.hl, h.inF, fun i u t hu ht => ?_, h.apart⟩, b2.inF yb hob⟩
  · rw [List.length_set]
    refine own_ChF h.own hc (fun q hq e => ?_)
    subst e
    rcases own_ne h.own b2.own (by decide) with z | z
    · rw [hq] at z; cases z
    · exact z (by rw [hq, hob])
  · have hi : i < hs.length := (List.getElem?_eq_some_iff.1 hu).1
    have hS : hdr hs (2 * i) = some u.1 := by unfold hdr; rw [show (2 * i) / 2 = i by omega, hu]; simp [show (2 * i) % 2 = 0 by omega]
    have hR' : hdr hs (2 * i + 1) = some u.2.1 := by unfold hdr; rw [show (2 * i + 1) / 2 = i by omega, hu]; simp [show (2 * i + 1) % 2 = 1 by omega]
    by_cases e : i = k
    · subst e
      rw [List.getElem?_set_self (List.getElem?_eq_some_iff.1 hs').1] at ht
      injection ht with ht
      rw [hx] at hu
      injection hu with hu
      subst hu ht
      obtain ⟨q0, q1, q2⟩ := h.each i x s hx hs'
      obtain ⟨xs, ⟨r1, r2, r3⟩, xw⟩ := x
      exact ⟨q0, q1.keep hc (fun q hq e => hoth (2 * i) _ hS (by omega) q hq e), q2.poke hy hv⟩
    · rw [List.getElem?_set_ne (fun q => e q.symm)] at ht
      obtain ⟨q0, q1, q2⟩ := h.each i u t hu ht
      exact ⟨q0, q1.keep hc (fun q hq e => hoth (2 * i) _ hS (by omega) q hq e), q2.keep hc (fun q hq e => hoth (2 * i + 1) _ hR' (by omega) q hq e)⟩
/-- the bytes that are safe, one of them another. -/
theorem SlM.pokeS {w : World} {F : Nat → Prop} {sh : HdT} {hs : List SlH} {sl : List Slot} (h : SlM w F sh hs sl) {k : Nat} {x : SlH} (hx : hs[k]? = some x) {s : Slot} (hs' : sl[k]? = some s) {yb j v : Nat} (hy : x.1.1 = some ⟨yb, 0, none⟩) (hv : v < 256) :
    SlM (w.setCell ⟨yb, j, none⟩ (bv v)) F sh hs (sl.set k (s.1.set j v, s.2.1, s.2.2)) ∧ F yb := by
  have hc : ChF (fun q => q = yb) w (w.setCell ⟨yb, j, none⟩ (bv v)) := (ChF.refl (fun q => q = yb) w).set (g := yb) (.inl (show yb = yb from rfl))
  obtain ⟨-, b2, b1⟩ := h.each k x s hx hs'
  have hk : k < hs.length := (List.getElem?_eq_some_iff.1 hx).1
  have hob : (SV x.1).ownBlock = some yb := by simp [SV, Value.ownBlock, hy]
  have hR : hdr hs (2 * k) = some x.1 := by unfold hdr; rw [show (2 * k) / 2 = k by omega, hx]; simp [show (2 * k) % 2 = 0 by omega]
  have hoth : ∀ m u, hdr hs m = some u → m ≠ 2 * k → ∀ q, (SV u).ownBlock = some q → q ≠ yb := fun m u hu hm q hq e => by
    subst e
    rcases h.apart m (2 * k) u _ hu hR hm with z | z
    · rw [hq] at z; cases z
    · exact z (by rw [hq, hob])
  refine ⟨⟨?_, by simpa using h.len, by simpa using h.hl, h.inF, fun i u t hu ht => ?_, h.apart⟩, b2.inF yb hob⟩
  · rw [List.length_set]
    refine own_ChF h.own hc (fun q hq e => ?_)
    subst e
    rcases own_ne h.own b2.own (by decide) with z | z
    · rw [hq] at z; cases z
    · exact z (by rw [hq, hob])
  · have hi : i < hs.length := (List.getElem?_eq_some_iff.1 hu).1
    have hS : hdr hs (2 * i) = some u.1 := by unfold hdr; rw [show (2 * i) / 2 = i by omega, hu]; simp [show (2 * i) % 2 = 0 by omega]
    have hR' : hdr hs (2 * i + 1) = some u.2.1 := by unfold hdr; rw [show (2 * i + 1) / 2 = i by omega, hu]; simp [show (2 * i + 1) % 2 = 1 by omega]
    by_cases e : i = k
    · subst e
      rw [List.getElem?_set_self (List.getElem?_eq_some_iff.1 hs').1] at ht
      injection ht with ht
      rw [hx] at hu
      injection hu with hu
      subst hu ht
      obtain ⟨q0, q1, q2⟩ := h.each i x s hx hs'
      obtain ⟨⟨r1, r2, r3⟩, xs, xw⟩ := x
      exact ⟨q0, q1.poke hy hv, q2.keep hc (fun q hq e => hoth (2 * i + 1) _ hR' (by omega) q hq e)⟩
    · rw [List.getElem?_set_ne (fun q => e q.symm)] at ht
      obtain ⟨q0, q1, q2⟩ := h.each i u t hu ht
      exact ⟨q0, q1.keep hc (fun q hq e => hoth (2 * i) _ hS (by omega) q hq e), q2.keep hc (fun q hq e => hoth (2 * i + 1) _ hR' (by omega) q hq e)⟩
end Go.Proofs.Ytdidalcflkphnaa
