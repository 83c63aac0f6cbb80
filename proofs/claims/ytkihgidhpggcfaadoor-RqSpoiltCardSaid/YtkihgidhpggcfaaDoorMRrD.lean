/-
  rilllaw04: RqSpoilt.
-/
import Derived.Test.YtkihgidhpggcfaaDoorMRrC
import Derived.Test.YtkihgidhpggcfaaDoorMRqW
namespace Go.Proofs.YtkihgidhpggcfaaDoor
open Go.RowKit

theorem and_1023 (a : Int) : ∃ i : Nat, bits .and .i64 a 1023 = (i : Int) ∧ i < 1024 := by
  have h : (BitVec.ofInt 64 a &&& BitVec.ofInt 64 1023).toNat < 1024 := by
    rw [BitVec.toNat_and]
    exact Nat.lt_of_le_of_lt Nat.and_le_right (by decide)
  refine ⟨(BitVec.ofInt 64 a &&& BitVec.ofInt 64 1023).toNat, ?_, h⟩
  show IntKind.i64.wrap ((BitVec.ofInt 64 a &&& BitVec.ofInt 64 1023).toNat : Int) = _
  generalize (BitVec.ofInt 64 a &&& BitVec.ofInt 64 1023).toNat = m at h ⊢
  unfold IntKind.wrap
  simp [IntKind.bits, IntKind.signed]
  omega
theorem intsV_take {w : World} {a : Option Addr} {n c i : Nat} {l : List Int} (h : IntsV w (a, n, c) l) (hi : i ≤ n) : IntsV w (a, i, c) (l.take i) := by
  obtain ⟨⟨h1, h2⟩, h3, h4, h5⟩ := h
  simp only at h1 h2 h3 h4 h5
  refine ⟨⟨by rw [List.length_map] at h1; simp; omega, fun h0 => ?_⟩, by simp only; omega, by simp only; omega, h5⟩
  obtain ⟨b, off, e, hc⟩ := h2 (by simp only at h0; omega)
  refine ⟨b, off, e, fun j hj => ?_⟩
  simp only at hj
  rw [hc j (by omega), List.map_take, List.getElem?_take, if_pos hj]
theorem rowV_drop {w : World} {b off n i : Nat} {vs : List Value} (h : RowV w (some ⟨b, off, none⟩) n vs) (hi : i ≤ n) : RowV w (some ⟨b, off + i, none⟩) (n - i) (vs.drop i) := by
  obtain ⟨h1, h2⟩ := h
  refine ⟨by simp; omega, fun h0 => ?_⟩
  obtain ⟨b', off', e, hc⟩ := h2 (by omega)
  injection e with e
  injection e with e1 e2
  subst e1 e2
  refine ⟨b, off + i, rfl, fun j hj => ?_⟩
  rw [List.getElem?_drop, ← hc (i + j) (by omega), Nat.add_assoc]
theorem rowV_drop0 {w : World} {a : Option Addr} {n i : Nat} {vs : List Value} (h : vs.length = n) (hi : n ≤ i) : RowV w a 0 (vs.drop i) := ⟨by simp; omega, fun h0 => absurd h0 (Nat.lt_irrefl _)⟩
theorem set_ne {l : List Nat} {j z : Nat} (hj : j < l.length) (h : z ≠ l.getD j 0) : l.set j z ≠ l := fun e => by
  have := congrArg (fun x => x.getD j 0) e
  simp only [List.getD_eq_getElem?_getD, List.getElem?_set, if_pos hj] at this
  exact h (by rw [List.getD_eq_getElem?_getD]; simpa using this)
theorem xor_ne {a b : Nat} (h : b ≠ 0) : a ^^^ b ≠ a := fun e => by
  have := congrArg (· ^^^ a) e
  simp only [Nat.xor_self] at this
  rw [Nat.xor_comm, ← Nat.xor_assoc, Nat.xor_self, Nat.zero_xor] at this
  exact h this
theorem OwnU.grown {w w' : World} {B U : Nat} {a : Option Addr} {n c : Nat} {ps : List Pc} (h : OwnU w B U a n c ps) {b n' : Nat} {v' : Value} {xs' : List Value} (o : w.ownsRow b 3 1 v' n' xs') (hg : w.grownBy w' v'.ownBlock) : OwnU w' B U a n c ps := by
  obtain ⟨h1, xs, h2, h3, h4, h5⟩ := h
  refine ⟨h1, xs, h2, h3.kept hg (own_ne h3 o (by decide)), fun i x p a b => ?_, h5⟩
  obtain ⟨k1, k2, k3, k4, k5⟩ := h4 i x p a b
  exact ⟨k1, k2, k3.kept hg (own_ne k3 o (by decide)), k4, k5⟩

set_option maxRecDepth 100000 in
set_option maxHeartbeats 8000000 in
theorem rqSpoilt_walk (a1 : Option Addr) (n1 c1 : Nat) (s1 : List HdT) (l1 : List (List Nat)) (a2 : Option Addr) (n2 c2 : Nat) (l2 : List Int) (at_ : Int) (by_ : Int) (tn : Int) (w : World) (hg : Bnd w)
    (v1 : RowV w a1 n1 (s1.map SV)) (r1 : RowsV w s1 l1) (t1 : n1 * 24 ≤ 140737488351232) (v2 : IntsV w (a2, n2, c2) l2) (_t2 : n2 * 8 ≤ 140737488351232) (_z2 : ∀ z ∈ l2, (Lit.int .i64 z).wf = true) (_w2 : (Lit.int .i64 at_).wf = true) (_w3 : (Lit.int .i64 by_).wf = true) (w4 : (Lit.int .u8 tn).wf = true) :
    Calls Tryd.prog 11 #[.slice a1 n1 c1, .slice a2 n2 c2, .int .i64 at_, .int .i64 by_, .int .u8 tn] w fun e w' => e = .returned (.bool true) ∧ Below w.heap.size w w' := by
  obtain ⟨i0, hi0, hz0, hz1, hz2⟩ := info_parts iinfo
  have h1 : RD w a1 n1 l1 := ⟨by rw [← r1.1]; have := v1.1; simpa using this, s1, v1, r1⟩
  have HE1 := Lib.hid h1.1
  have HE2 := Lib.hid (show l2.length = n2 from v2.length)
  have H1 := Lib.hid h1
  have H2 := Lib.hid v2
  have h2s := v2.small
  have h2c := v2.cap
  simp only at h2s h2c
  have HG := Lib.hid hg
  obtain ⟨r, hand, hr⟩ := and_1023 by_
  obtain ⟨k, rfl, hk⟩ : ∃ k : Nat, tn = (k : Int) ∧ k < 256 := by
    have := wf_u8 w4
    exact ⟨tn.toNat, by omega, by omega⟩
  clear h1 v1 r1 v2 hg w4
  go_enter Tryd.func11, Tryd.ntmps11
  go_wp2_with fail
  (with_reducible refine (alive_any _ HG.out).mono ?_)
  rintro e w1 ⟨rfl, hb1⟩
  go_wp2_with fail
  (with_reducible refine (source_rd _ _ _ l1 _ (H1.out.below hb1) (by omega)).mono ?_)
  rintro e w2 ⟨b, rfl, b2, hsrc⟩
  have hb2 := hb1.trans (b2.mono hb1.size)
  clear b2 hb1
  cases b with
  | false =>
    clear hsrc
    go_wp2
    go_ret
    exact ⟨rfl, hb2⟩
  | true =>
    obtain ⟨kk, t, hS⟩ := hsrc rfl
    clear hsrc
    by_cases hn : n2 ≤ 60
    rotate_left 1
    · go_wp2
      go_ret
      exact ⟨rfl, hb2⟩
    by_cases ht0 : 0 ≤ at_
    rotate_left 1
    · go_wp2
      go_ret
      exact ⟨rfl, hb2⟩
    by_cases ht1 : at_ < (n2 : Int)
    rotate_left 1
    · go_wp2
      go_ret
      exact ⟨rfl, hb2⟩
    by_cases hk0 : k = 0
    · subst hk0
      go_wp2
      go_ret
      exact ⟨rfl, hb2⟩
    obtain ⟨i, rfl⟩ : ∃ i : Nat, at_ = (i : Int) := ⟨at_.toNat, by omega⟩
    have hin : i < n2 := by omega
    have hk0' : ((k : Int) == 0) = false := beq_eq_false_iff_ne.2 (by omega)
    clear ht0 ht1
    obtain ⟨X, hX, hXl, hXr, hf, hs⟩ := inner_val hS
    obtain rfl : n1 = kk := by rw [← HE1.out]; exact hS.len
    have hENC := encode_val hS hX l2
    have hk2 := hS.k2
    have hk1 := hS.k1
    have ht1 := hS.t1
    have ht2 := hS.t2
    have HDS := Lib.hid (fun (hok : ∀ e ∈ l2, okE e = true) {e : Int} {d : List Nat} (hat : l2[i]? = some e) (hE : enoughP n1 (l2.take i ++ l2.drop (i + 1))) (hd : Bytes d ∧ d.length = t) (hne : d ≠ (pieceOf n1 X e).2) => decode_spoilt hS hXl hXr hf (es := l2) (by rw [HE2.out]; omega) hok hat hE hd hne)
    have HENC := Lib.hid hENC
    have hwid := hS.wid
    obtain ⟨b0, off0, xa, t0, xc, r0, rfl, hc0, hr0, hB0⟩ := H1.out.at (i := 0) (by omega)
    have ht0 : t0 = t := by
      rw [← hwid]
      unfold widthB
      rw [List.getD_eq_getElem?_getD, hr0]
      exact hB0.length.symm
    subst ht0
    rw [Nat.add_zero] at hc0
    have HXT : Hid (∀ e, (pieceOf n1 X e).2.length = t0) := Lib.hid fun e => by
      obtain ⟨g1, g2, g3⟩ := cL_facts hk1 hk2
      exact mixS_length (fun x hx => (hXr x hx).2) (by omega) _
    have i0' : (0 : Int) < (n1 : Int) := by omega
    clear hS hENC hX hXl hXr hf hs hwid hr0 hB0
    go_wp2_with fail
    (with_reducible refine (copyRows_rd _ _ _ l1 _ (H1.out.below hb2) (by omega)).mono ?_)
    rintro e w3 ⟨a3, c3, rfl, h3, b3⟩
    have hb3 := hb2.trans (b3.mono hb2.size)
    clear b3 hb2
    go_wp2_with fail
    (with_reducible refine (copyInts_rd _ _ _ l2 _ (H2.out.below hb3) (by omega)).mono ?_)
    rintro e w4 ⟨a4, c4, rfl, o4, b4⟩
    have hb4 := hb3.trans (b4.mono hb3.size)
    have h34 := h3.below b4
    have KE := encode_pu a3 n1 c3 l1 a4 l2.length c4 l2 w4 h34 (intsV_ownQ o4 (by rw [HE2.out]; omega)) (by rw [HE2.out]; omega) (HG.out.below hb4)
    rw [HENC.out] at KE
    clear b4 hb3 h3 o4 h34
    by_cases hall : l2.all okE = true
    rotate_left 1
    · rw [if_neg hall] at KE
      clear hall
      go_wp2_with fail
      (with_reducible refine KE.mono ?_)
      rintro e w5 ⟨a5, c5, rfl, -, b5⟩
      have hb5 := hb4.trans (b5.mono hb4.size)
      go_wp2
      go_ret
      exact ⟨rfl, hb5⟩
    rw [if_pos hall] at KE
    have HOK : Hid (∀ e ∈ l2, okE e = true) := Lib.hid fun e he => List.all_eq_true.1 hall e he
    obtain ⟨PS, hPS⟩ : ∃ PS, PS = l2.map (pieceOf n1 X) := ⟨_, rfl⟩
    have hPl : PS.length = n2 := by rw [hPS, List.length_map]; exact HE2.out
    rw [← hPS] at KE
    have HPS := Lib.hid hPS
    have HPL := Lib.hid hPl
    have hs4 := hb4.size
    clear hPS hPl HENC hall
    go_wp2_with fail
    (with_reducible refine KE.mono ?_)
    rintro e w5 ⟨a5, c5, rfl, hP, b5⟩
    simp only at hP ⊢
    rw [HPL.out] at hP ⊢
    have hb5 := hb4.trans (b5.mono hs4)
    have hPB := hP.rebase hs4
    have hs5 := hb5.size
    clear KE hb4 b5 hP
    go_wp2_with fail
    (with_reducible refine (copyInts_rd _ _ _ (l2.take i) _ (intsV_take (H2.out.below hb5) (by omega)) (by omega)).mono ?_)
    rintro e w6 ⟨a6, c6, rfl, o6, b6⟩
    have hb6 := hb5.trans (b6.mono hb5.size)
    have hP6 := hPB.below b6
    have HTL := Lib.hid (show (l2.take i).length = i by rw [List.length_take, HE2.out]; omega)
    have o6' := ownsRow_base (base' := w.heap.size) o6 hs5
    rw [HTL.out] at o6' ⊢
    have hs6 := hb6.size
    obtain ⟨b2, off2, e2, hc2⟩ := H2.out.row.2 (by show 0 < n2; omega)
    simp only at e2
    subst e2
    have hr6 := H2.out.row.below hb6
    simp only at hr6
    have FA := rowV_drop hr6 (i := i + 1) (by omega)
    have FB := fun (h : n2 ≤ i + 1) => rowV_drop0 (w := w6) (a := some ⟨b2, off2, none⟩) (vs := l2.map iv) (n := n2) (by rw [List.length_map]; exact HE2.out) h
    have HFA := Lib.hid FA
    have HFB := Lib.hid FB
    clear o6 b6 hb5 hPB hs4 FA FB hr6 hc2
    go_wp2_with (first | (at_builtin; refine Hid.out ?_))
    all_goals refine Lib.hid ?_
    all_goals first
      | refine wpList_append_row rfl _ _ 33 rfl w.heap.size 3 i0 (.int .i64 0) 8 Tryd.underlying33 hi0 hz0 hz1 hz2 rfl _ _ _ rfl o6' (some ⟨b2, off2, none⟩) _ _ ((l2.map iv).drop (i + 1)) rfl (by rw [show n2 - (i + 1) = 0 by omega]; exact HFB.out (by omega)) (fun h => by cases h) (fun u hu => iv_oneQ l2 u (List.mem_of_mem_drop hu)) (by unfold maxLen; omega) (by omega) hs6 ?_
      | refine wpList_append_row rfl _ _ 33 rfl w.heap.size 3 i0 (.int .i64 0) 8 Tryd.underlying33 hi0 hz0 hz1 hz2 rfl _ _ _ rfl o6' (some ⟨b2, off2 + (i + 1), none⟩) _ _ ((l2.map iv).drop (i + 1)) rfl HFA.out (fun h => by cases h) (fun u hu => iv_oneQ l2 u (List.mem_of_mem_drop hu)) (by unfold maxLen; omega) (by omega) hs6 ?_
    all_goals
      intro v' w7 hE7 g7 _
      have hb7 := below_grown hb6 g7 (ownBlock_ge o6')
      have hP7 := hP6.grown o6' g7
      obtain ⟨a7, c7, rfl, -⟩ := ownsRow_parts hE7
      rw [← List.map_drop, ← List.map_append] at hE7
      have KN := enough_rd (n1 : Int) a7 (i + (n2 - (i + 1))) c7 (l2.take i ++ l2.drop (i + 1)) w7 (intsV_ownQ hE7 (by omega)) (HG.out.below hb7)
      have HEN := Lib.hid (fun h => (enoughB_parts h : _) : enoughB (n1 : Int) (l2.take i ++ l2.drop (i + 1)) = true → _)
      obtain ⟨f, hf⟩ : ∃ f, f = enoughB (n1 : Int) (l2.take i ++ l2.drop (i + 1)) := ⟨_, rfl⟩
      rw [← hf] at KN HEN
      have hs7 := hb7.size
      clear hf hE7 g7 hb6 hP6 o6' hs6
      cases f with
      | false =>
        clear hP7
        go_wp2_with fail
        (with_reducible refine KN.mono ?_)
        rintro e w8 ⟨rfl, b8⟩
        go_wp2
        go_ret
        exact ⟨rfl, hb7.trans (b8.mono hs7)⟩
      | true =>
        have hE : enoughP n1 (l2.take i ++ l2.drop (i + 1)) := by
          obtain ⟨m, e1, -, -, -, -, h⟩ := HEN.out rfl
          obtain rfl : n1 = m := by omega
          exact h
        have HE := Lib.hid hE
        clear hE HEN
        go_wp2_with fail
        (with_reducible refine KN.mono ?_)
        rintro e w8 ⟨rfl, b8⟩
        have hb8 := hb7.trans (b8.mono hs7)
        have hP8 := hP7.below b8
        clear KN b8 hb7 hP7 hs7
        obtain ⟨z, hz⟩ : ∃ z, l2[i]? = some z := ⟨_, List.getElem?_eq_getElem (by rw [HE2.out]; exact hin)⟩
        obtain ⟨d, hd⟩ : ∃ d, d = (pieceOf n1 X z).2 := ⟨_, rfl⟩
        have hpi : PS[i]? = some (z, d) := by rw [HPS.out, List.getElem?_map, hz, hd]; rfl
        have hdl : d.length = t0 := by rw [hd]; exact HXT.out z
        obtain ⟨m, hm⟩ : ∃ m, m = r % t0 := ⟨_, rfl⟩
        have hmt : m < t0 := by rw [hm]; exact Nat.mod_lt _ (by omega)
        have HRM : ((r : Int)).tmod (t0 : Int) = (m : Int) := by rw [hm]; exact rem_nat (by omega)
        obtain ⟨g, q, cx, rfl, q1, q2, q3, hq4, hq5, hdb, hdL, hT⟩ := hP8.turn hpi (by rw [hdl]; exact hmt)
        obtain ⟨y, hy⟩ : ∃ y, y = d.getD m 0 := ⟨_, rfl⟩
        have hyb : y < 256 := by rw [hy]; exact hdb.getD m
        rw [hdl] at q1
        rw [← hy] at q2
        have hx : bits .xor .u8 ((y : Nat) : Int) (k : Int) = ((y ^^^ k : Nat) : Int) := u8_xor_nat y k hyb hk
        have hPi := hT (y ^^^ k) (xor_lt hyb hk)
        have hdc := HDS.out HOK.out hz HE.out (d := d.set m (y ^^^ k)) ⟨fun x hx => (by
          rcases List.mem_or_eq_of_mem_set hx with h | h
          · exact hdb x h
          · rw [h]; exact xor_lt hyb hk), by rw [List.length_set]; exact hdl⟩ (by rw [← hd]; exact set_ne (by rw [hdl]; exact hmt) (by rw [hy]; exact xor_ne hk0))
        rw [← HPS.out] at hdc
        have HDC := Lib.hid hdc
        have HPI := Lib.hid hPi
        have HBP := below_grown hb8 (grown_set4 w8 q m (.int .u8 (y ^^^ k : Nat))) (fun k hk => by injection hk with hk; omega)
        have p0 := cell_below hc0 hb8
        have m0' : (0 : Int) ≤ (m : Int) := by omega
        have m1' : (m : Int) < (t0 : Int) := by omega
        have t0n : (t0 : Int) ≠ 0 := by omega
        have t0b : ((t0 : Int) == 0) = false := beq_eq_false_iff_ne.2 t0n
        have n10 : 0 < n1 := hk1
        have t0z : (t0 = 0) = False := eq_false (by omega)
        have t0w : t0 ≠ 0 := by omega
        have j0' : (0 : Int) ≤ (i : Int) := by omega
        have j1' : (i : Int) < (n2 : Int) := by omega
        have HBP' := Lib.hid HBP
        clear hz hd hpi hdl hm hT hy hPi hdc HBP hdb hdL HXT HDS hyb hP8 HPS HE HOK
        go_wp2_with fail
        go_region_law (fail)
        all_goals
          have hb9 := HBP'.out
          have hPi9 := HPI.out
          clear HBP' HPI q1 q2 q3 hq4 hq5 p0
          generalize w8.setCell ⟨q, m, none⟩ (.int .u8 (y ^^^ k : Nat)) = w9 at hb9 hPi9 ⊢
          have hb10 := hb9.drew
          have hPi10 := hPi9.below (Below.drew (Below.refl _ _))
          have p10 := cell_below hc0 hb10
          have KD := decode_rd (n1 : Int) (t0 : Int) (some ⟨g, 0, none⟩) n2 c5 (PS.set i (z, d.set m (y ^^^ k))) w9.drew hPi10 (by omega) (HG.out.below hb10)
          rw [HDC.out] at KD
          have hs10 := hb10.size
          clear hb9 hPi9 hPi10
          go_wp2_with fail
          (with_reducible refine KD.mono ?_)
          rintro e w11 ⟨a11, c11, rfl, h11, b11⟩
          simp only [List.length_nil] at h11 ⊢
          have HB11 := Lib.hid (hb10.trans (b11.mono hs10))
          clear KD b11 hb10 h11
          go_wp2
          go_ret
          exact ⟨rfl, HB11.out⟩
end Go.Proofs.YtkihgidhpggcfaaDoor
