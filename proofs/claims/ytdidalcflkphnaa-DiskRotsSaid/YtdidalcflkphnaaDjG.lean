/-
  rilllaw08: DiskRots.
-/
import Derived.Test.YtdidalcflkphnaaDjF
import Derived.Test.YtdidalcflkphnaaLawI
namespace Go.Proofs.Ytdidalcflkphnaa
open Go.RowKit

theorem flip_flip (l : List Nat) (j r : Nat) : flip (flip l j r) j r = l := by
  by_cases h : j < l.length
  · have h2 : flip l j r = l.set j (l.getD j 0 ^^^ 2 ^ r) := by unfold flip; rw [if_pos h]
    rw [h2]
    unfold flip
    rw [if_pos (by simpa using h)]
    rw [List.set_set]
    have h3 : (l.set j (l.getD j 0 ^^^ 2 ^ r)).getD j 0 = l.getD j 0 ^^^ 2 ^ r := by rw [List.getD_eq_getElem?_getD, List.getElem?_set_self h]; rfl
    rw [h3, Nat.xor_assoc, Nat.xor_self, Nat.xor_zero]
    apply set_sameD
    rw [List.getD_eq_getElem?_getD, List.getElem?_eq_getElem h]; rfl
  · have h2 : flip l j r = l := by unfold flip; rw [if_neg h]
    rw [h2, h2]
theorem flip_ne (l : List Nat) (j r : Nat) (h : j < l.length) : flip l j r ≠ l := fun e => by
  have h2 : flip l j r = l.set j (l.getD j 0 ^^^ 2 ^ r) := by unfold flip; rw [if_pos h]
  have h3 : (flip l j r).getD j 0 = l.getD j 0 ^^^ 2 ^ r := by rw [h2, List.getD_eq_getElem?_getD, List.getElem?_set_self h]; rfl
  rw [e] at h3
  have h4 : (l.getD j 0) ^^^ (l.getD j 0 ^^^ 2 ^ r) = 0 := by rw [← h3, Nat.xor_self]
  rw [← Nat.xor_assoc, Nat.xor_self, Nat.zero_xor] at h4
  have : 0 < 2 ^ r := Nat.pow_pos (by omega)
  omega
/-- a slot that was written and made safe. -/
structure AtK (d : DV) (n k : Nat) (l : List Nat) : Prop where
  pow : d.pow = -1
  len : d.sl.length = n
  at_ : d.sl[k]? = some (l, l, false)
  safe : d.safe.length ≤ 1000000000
theorem atK_made (n k : Nat) (l : List Nat) (hk : k < n) (hl : l.length ≤ 64) : (writeV (newV n (-1)) (k : Int) l).2 = 0 ∧ AtK (slotsV (writeV (newV n (-1)) (k : Int) l).1).1 n k l := by
  have h1 : (writeV (newV n (-1)) (k : Int) l) = ({ newV n (-1) with sl := (noSl n).set k (((noSl n).getD k ([], [], false)).1, l, true) }, 0) := by
    unfold writeV
    rw [if_pos ⟨by omega, by simp [newV, noSl]; omega⟩, if_neg (by omega), if_neg (by simp [newV])]
    rfl
  rw [h1]
  refine ⟨rfl, ?_⟩
  unfold slotsV
  rw [if_neg (by simp [newV])]
  refine ⟨rfl, by simp [noSl], ?_, by simp [newV]⟩
  show (((noSl n).set k (((noSl n).getD k ([], [], false)).1, l, true)).map syncS)[k]? = _
  rw [List.getElem?_map, List.getElem?_set_self (by simp [noSl]; exact hk)]
  rfl
theorem AtK.rot {d : DV} {n k : Nat} {l : List Nat} (h : AtK d n k l) (bit : Int) : (bit < 0 ∨ 8 * (l.length : Int) ≤ bit → rotV d (k : Int) bit = (d, 41)) ∧
    (¬ (bit < 0 ∨ 8 * (l.length : Int) ≤ bit) → (rotV d (k : Int) bit).2 = 0 ∧ AtK (rotV d (k : Int) bit).1 n k (flip l (bit.toNat / 8) (bit.toNat % 8))) := by
  have hk : k < d.sl.length := (List.getElem?_eq_some_iff.1 h.at_).1
  have hg : d.sl.getD k ([], [], false) = (l, l, false) := by rw [List.getD_eq_getElem?_getD, h.at_]; rfl
  unfold rotV
  rw [if_pos ⟨by omega, by omega⟩, Int.toNat_natCast, hg]
  refine ⟨fun hb => ?_, fun hb => ?_⟩
  · dsimp only
    rw [if_pos hb]
  · dsimp only
    rw [if_neg hb]
    exact ⟨rfl, h.pow, by simpa using h.len, by simp [List.getElem?_set_self hk], h.safe⟩
theorem AtK.read {d : DV} {n k : Nat} {l : List Nat} (h : AtK d n k l) : readV d (k : Int) = (l, 0) := by
  have hk : k < d.sl.length := (List.getElem?_eq_some_iff.1 h.at_).1
  unfold readV
  rw [if_pos ⟨by omega, by omega⟩, Int.toNat_natCast, List.getD_eq_getElem?_getD, h.at_]
  rfl
theorem AtK.left {d : DV} {n k : Nat} {l : List Nat} (h : AtK d n k l) (keep : Int) (reset : Bool) (p : Int) : readV (leftV d keep reset [] p) (k : Int) = (l, 0) := by
  have hk : k < d.sl.length := (List.getElem?_eq_some_iff.1 h.at_).1
  unfold readV
  have h1 : (leftV d keep reset [] p).sl = leftTo d.sl [] d.sl.length := rfl
  rw [h1, if_pos ⟨by omega, by rw [leftTo_length]; omega⟩, Int.toNat_natCast, List.getD_eq_getElem?_getD, leftTo_at d.sl [] _ k hk hk]
  rw [List.getD_eq_getElem?_getD, h.at_]
  rfl
set_option maxRecDepth 100000 in
set_option maxHeartbeats 8000000 in
theorem diskRots_walk (a0 : Option Addr) (n0 c0 : Nat) (l0 : List Nat) (slot bit : Int) (w : World) (h0 : BytesV w (a0, n0, c0) l0) (_s0 : n0 ≤ 140737488351232) (_w1 : (Lit.int .i64 slot).wf = true) (w2 : (Lit.int .i64 bit).wf = true) :
    Calls Try.prog 7 #[.slice a0 n0 c0, .int .i64 slot, .int .i64 bit] w fun e W' => e = .returned (.bool true) ∧ Below w.heap.size w W' := by
  have KA := alive8_any w
  obtain rfl : l0.length = n0 := h0.length
  have hbit := (wf_i64 w2).2
  have H0 := Lib.hid h0
  clear h0
  go_enter Try.func7, Try.ntmps7
  go_wp2_with fail
  (with_reducible refine KA.mono ?_)
  rintro e w1 ⟨rfl, b1⟩
  clear KA
  have KN : Calls Try.prog 11 #[.int .i64 4, .int .i64 (-1)] w1 (NewL w.heap.size (newV 4 (-1)) w1 (fun g => .tuple #[.pointer (some ⟨g, 0, none⟩), .int .i64 0])) := new_l w.heap.size 4 (-1) w1 b1.size (by omega) (by omega) (by omega)
  go_wp2_with fail
  (with_reducible refine KN.mono ?_)
  rintro e w2 ⟨g, F2, rfl, D2, -, b2⟩
  clear KN
  have HB2 := Lib.hid (b1.trans (b2.mono b1.size))
  have HD2 := Lib.hid D2
  clear b1 b2 D2
  by_cases hs0 : slot < 0
  · go_wp2
    go_ret
    exact ⟨rfl, HB2.out⟩
  by_cases hs1 : 3 < slot
  · go_wp2
    go_ret
    exact ⟨rfl, HB2.out⟩
  by_cases hn : 64 < l0.length
  · have hnI : (64 : Int) < (l0.length : Int) := by omega
    go_wp2
    go_ret
    exact ⟨rfl, HB2.out⟩
  have hnI : ¬ (64 : Int) < (l0.length : Int) := by omega
  obtain ⟨k, rfl⟩ : ∃ k : Nat, slot = k := ⟨slot.toNat, by omega⟩
  have hk4 : k < 4 := by omega
  have KC := copyBytes_any a0 l0.length c0 l0 w2 (H0.out.below HB2.out)
  go_wp2_with fail
  (with_reducible refine KC.mono ?_)
  rintro e w3 ⟨a3, c3, rfl, o3, b3⟩
  clear KC
  obtain ⟨hw0, hat⟩ := atK_made 4 k l0 hk4 (by omega)
  have KW := write_l w.heap.size F2 g _ (k : Int) a3 l0.length c3 l0 w3 (HD2.out.below b3) (bytesV_of_owns o3 H0.out.bytes (by omega)) (HD2.out.apartN (x := (a3, l0.length, c3)) o3)
  have HB3 := Lib.hid (HB2.out.trans (b3.mono HB2.out.size))
  have HL2 := Lib.hid HD2.out.lo
  have HAT := Lib.hid hat
  clear HB2 HD2 o3 b3 hat hw0
  go_wp2_with fail
  (with_reducible refine KW.mono ?_)
  rintro e w4 ⟨rfl, F4, D4, -, hc4⟩
  have HB4 := Lib.hid (chF_lo HB3.out hc4 HL2.out HB3.out.size)
  clear KW HB3 HL2 hc4
  have KS := slots_l w.heap.size F4 g _ w4 D4
  have HL4 := Lib.hid D4.lo
  clear D4
  go_wp2_with fail
  (with_reducible refine KS.mono ?_)
  rintro e w5 ⟨rfl, F5, D5, -, hc5⟩
  have HB5 := Lib.hid (chF_lo HB4.out hc5 HL4.out HB4.out.size)
  clear KS HB4 HL4 hc5
  obtain ⟨d2, hd2⟩ : ∃ d, d = (slotsV (writeV (newV 4 (-1)) (k : Int) l0).1).1 := ⟨_, rfl⟩
  rw [← hd2] at D5 HAT
  clear hd2
  have KR := rot_l w.heap.size F5 g d2 (k : Int) bit w5 D5 hbit
  have HL5 := Lib.hid D5.lo
  obtain ⟨hr1, hr2⟩ := HAT.out.rot bit
  clear D5
  by_cases hb : bit < 0 ∨ 8 * (l0.length : Int) ≤ bit
  · rw [hr1 hb] at KR
    clear hr1 hr2
    go_wp2_with fail
    (with_reducible refine KR.mono ?_)
    rintro e w6 ⟨rfl, F6, D6, -, hc6⟩
    have HB6 := Lib.hid (chF_lo HB5.out hc6 HL5.out HB5.out.size)
    clear KR HB5 HL5 hc6
    have KL := left_l w.heap.size F6 g d2 0 false none 0 0 [] (-1) w6 D6 (intsV_nil _) (by omega) (by rw [HAT.out.len]; omega) HAT.out.safe (fun z hz => by cases hz)
    have HD6 := Lib.hid D6
    clear D6
    go_wp2_with fail
    (with_reducible refine KL.mono ?_)
    rintro e w7 ⟨gl, F7, rfl, D7, -, b7⟩
    have HB7 := Lib.hid (HB6.out.trans (b7.mono HB6.out.size))
    have HD7 := Lib.hid (HD6.out.below b7)
    have KR1 := read_l w.heap.size F6 g d2 (k : Int) w7 HD7.out
    rw [HAT.out.read] at KR1
    have HE7 := Lib.hid D7
    clear KL HB6 b7 D7 HD6
    go_wp2_with fail
    (with_reducible refine KR1.mono ?_)
    rintro e w8 ⟨a8, c8, rfl, o8, b8⟩
    have HB8 := Lib.hid (HB7.out.trans (b8.mono HB7.out.size))
    have KR2 := read_l w.heap.size F7 gl _ (k : Int) w8 (HE7.out.below b8)
    rw [HAT.out.left] at KR2
    have HX := Lib.hid (bytesV_of_owns o8 H0.out.bytes (by omega))
    clear KR1 HB7 o8 b8 HD7 HE7
    go_wp2_with fail
    (with_reducible refine KR2.mono ?_)
    rintro e w9 ⟨a9, c9, rfl, o9, b9⟩
    have HB9 := Lib.hid (HB8.out.trans (b9.mono HB8.out.size))
    have KE := sameBytes_any a8 l0.length c8 l0 a0 l0.length c0 l0 w9 (HX.out.below b9) (H0.out.below HB9.out)
    rw [decide_eq_true rfl] at KE
    clear KR2 HB8 o9 b9 HX
    by_cases hb0 : bit < 0
    · go_wp2_with fail
      (with_reducible refine KE.mono ?_)
      rintro e w10 ⟨rfl, b10⟩
      have HB10 := Lib.hid (HB9.out.trans (b10.mono HB9.out.size))
      clear KE HB9 b10
      go_wp2
      go_ret
      exact ⟨rfl, HB10.out⟩
    · have hb1 : 8 * (l0.length : Int) ≤ bit := by omega
      go_wp2_with fail
      (with_reducible refine KE.mono ?_)
      rintro e w10 ⟨rfl, b10⟩
      have HB10 := Lib.hid (HB9.out.trans (b10.mono HB9.out.size))
      clear KE HB9 b10
      go_wp2
      go_ret
      exact ⟨rfl, HB10.out⟩
  · obtain ⟨he3, hat3⟩ := hr2 hb
    rw [he3] at KR
    clear hr1 hr2 he3
    obtain ⟨d3, hd3⟩ : ∃ d, d = (rotV d2 (k : Int) bit).1 := ⟨_, rfl⟩
    rw [← hd3] at KR hat3
    clear hd3
    obtain ⟨B, rfl⟩ : ∃ B : Nat, bit = B := ⟨bit.toNat, by omega⟩
    rw [Int.toNat_natCast] at hat3
    obtain ⟨j, hj⟩ : ∃ j, j = B / 8 := ⟨_, rfl⟩
    obtain ⟨r, hr⟩ : ∃ r, r = B % 8 := ⟨_, rfl⟩
    rw [← hj, ← hr] at hat3
    obtain ⟨X, hX⟩ : ∃ X, X = flip l0 j r := ⟨_, rfl⟩
    rw [← hX] at hat3
    have hXl : X.length = l0.length := by rw [hX, flip_length]
    have hr8 : r < 8 := by omega
    have hjl : j < l0.length := by omega
    have hXb : Bytes X := by rw [hX]; exact flip_bytes H0.out.bytes j r hr8
    have hXn : X ≠ l0 := by rw [hX]; exact flip_ne l0 j r hjl
    have HX := Lib.hid hX
    have HJ := Lib.hid hj
    have HR := Lib.hid hr
    have HAT3 := Lib.hid hat3
    have hB0 : (0 : Int) ≤ (B : Int) := by omega
    have hBl : (B : Int) < 8 * (l0.length : Int) := by omega
    clear hX hj hr hat3 hb
    go_wp2_with fail
    (with_reducible refine KR.mono ?_)
    rintro e w6 ⟨rfl, F6, D6, -, hc6⟩
    have HB6 := Lib.hid (chF_lo HB5.out hc6 HL5.out HB5.out.size)
    clear KR HB5 HL5 hc6
    have KL := left_l w.heap.size F6 g d3 0 false none 0 0 [] (-1) w6 D6 (intsV_nil _) (by omega) (by rw [HAT3.out.len]; omega) HAT3.out.safe (fun z hz => by cases hz)
    have HD6 := Lib.hid D6
    clear D6
    go_wp2_with fail
    (with_reducible refine KL.mono ?_)
    rintro e w7 ⟨gl, F7, rfl, D7, -, b7⟩
    have HB7 := Lib.hid (HB6.out.trans (b7.mono HB6.out.size))
    have HD7 := Lib.hid (HD6.out.below b7)
    have KR1 := read_l w.heap.size F6 g d3 (k : Int) w7 HD7.out
    rw [HAT3.out.read] at KR1
    have HE7 := Lib.hid D7
    clear KL HB6 b7 D7 HD6
    dsimp only at KR1
    rw [hXl] at KR1
    go_wp2_with fail
    (with_reducible refine KR1.mono ?_)
    rintro e w8 ⟨a8, c8, rfl, o8, b8⟩
    have HB8 := Lib.hid (HB7.out.trans (b8.mono HB7.out.size))
    have KR2 := read_l w.heap.size F7 gl _ (k : Int) w8 (HE7.out.below b8)
    rw [HAT3.out.left] at KR2
    dsimp only at KR2
    rw [hXl] at KR2
    have HD8 := Lib.hid (HD7.out.below b8)
    have HO8 := Lib.hid o8
    have h7s : ∀ b, F6 b → b < w7.heap.size := HD7.out.hi
    have H7S := Lib.hid h7s
    clear KR1 HB7 o8 b8 HD7 HE7 h7s
    go_wp2_with fail
    (with_reducible refine KR2.mono ?_)
    rintro e w9 ⟨a9, c9, rfl, o9, b9⟩
    have HB9 := Lib.hid (HB8.out.trans (b9.mono HB8.out.size))
    have HO9 := Lib.hid (own_ChF HO8.out (ChF.of_below (F := fun _ => False) b9) (fun _ _ e => e))
    have hx8 : BytesV w9 (a8, l0.length, c8) X := bytesV_of_owns HO9.out hXb (by omega)
    have hx9 : BytesV w9 (a9, l0.length, c9) X := bytesV_of_owns o9 hXb (by omega)
    have KE := sameBytes_any a8 l0.length c8 X a9 l0.length c9 X w9 hx8 hx9
    rw [decide_eq_true rfl] at KE
    have HD9 := Lib.hid (HD8.out.below b9)
    clear KR2 HB8 o9 b9 HO8 HD8 hx9
    go_wp2_with fail
    (with_reducible refine KE.mono ?_)
    rintro e w10 ⟨rfl, b10⟩
    have HB10 := Lib.hid (HB9.out.trans (b10.mono HB9.out.size))
    have KE2 := sameBytes_any a8 l0.length c8 X a0 l0.length c0 l0 w10 (hx8.below b10) (H0.out.below HB10.out)
    rw [decide_eq_false hXn] at KE2
    have HO10 := Lib.hid (own_ChF HO9.out (ChF.of_below (F := fun _ => False) b10) (fun _ _ e => e))
    have HD10 := Lib.hid (HD9.out.below b10)
    clear KE HB9 HO9 HD9 hx8 b10
    go_wp2_with fail
    (with_reducible refine KE2.mono ?_)
    rintro e w11 ⟨rfl, b11⟩
    have HB11 := Lib.hid (HB10.out.trans (b11.mono HB10.out.size))
    have HO11 := Lib.hid (own_ChF HO10.out (ChF.of_below (F := fun _ => False) b11) (fun _ _ e => e))
    have HD11 := Lib.hid (HD10.out.below b11)
    clear KE2 HB10 HO10 HD10 b11
    have hxb : ByF w11 (fun _ => True) (a8, l0.length, c8) X := ⟨by rw [hXl]; exact own_zero HO11.out, hXl.symm, hXb, by omega, fun _ _ => trivial⟩
    obtain ⟨xb, e8, q1, q2, q3, q4, q5, -⟩ := hxb.cell (j := j) (by rw [hXl]; exact hjl)
    simp only at e8 q1 q2
    subst e8
    rw [hXl] at q1
    have hx7 : w7.heap.size ≤ xb := (HO11.out.lt xb rfl).1
    have f3 := q4 j
    obtain ⟨y, hy⟩ : ∃ y, y = X.getD j 0 := ⟨_, rfl⟩
    rw [← hy] at q3
    have hy8 : y < 256 := by rw [hy]; exact hXb.getD j
    obtain ⟨z, hz⟩ : ∃ z, z = y ^^^ 2 ^ r := ⟨_, rfl⟩
    have HXR := Lib.hid (show bits .xor .u8 (y : Int) ((2 : Int) ^ r % 256) = (z : Nat) by rw [hz]; exact xor_one y r hy8 hr8)
    have hz8 : z < 256 := by rw [hz]; exact Nat.xor_lt_two_pow (n := 8) hy8 (Nat.pow_lt_pow_right (by omega) hr8)
    have HXF := Lib.hid (show X.set j z = l0 from by
      have h1 : flip X j r = X.set j z := by unfold flip; rw [if_pos (by rw [hXl]; exact hjl), ← hy, ← hz]
      rw [← h1, HX.out, flip_flip])
    have HBX := Lib.hid (ByF.poke (yb := xb) (j := j) hxb rfl hz8)
    have HY := Lib.hid hy
    have HZ := Lib.hid hz
    clear hy hz hxb q4
    have hqB : (B : Int) / 8 = (j : Nat) := by rw [HJ.out]; omega
    have hrB : (B : Int).tmod 8 = (r : Nat) := by rw [HR.out, Int.tmod_eq_emod_of_nonneg hB0]; exact (Int.natCast_emod B 8).symm
    have hrB2 : (B : Int) % 8 = (r : Nat) := by rw [HR.out]; exact (Int.natCast_emod B 8).symm
    have hjI : ((j : Nat) : Int) < (l0.length : Nat) := by omega
    go_wp2_with fail
    rw [HXR.out]
    have hxc : ChF (fun q => q = xb) w11 (w11.setCell ⟨xb, j, none⟩ (.int .u8 (z : Nat))) := (ChF.refl (fun q => q = xb) w11).set (g := xb) (.inl rfl)
    obtain ⟨w12, hw12⟩ : ∃ x, x = w11.setCell ⟨xb, j, none⟩ (.int .u8 (z : Nat)) := ⟨_, rfl⟩
    have hbx : ByF w12 (fun _ => True) (some ⟨xb, 0, none⟩, l0.length, c8) l0 := by rw [hw12]; have q := HBX.out; rw [HXF.out] at q; exact q
    rw [← hw12] at hxc ⊢
    clear hw12
    have D12 : DL w.heap.size w12 F6 g d3 := HD11.out.chF hxc (fun q hq e => by have := H7S.out q hq; omega)
    have hB12 : Below w.heap.size w w12 := HB11.out.trans (hxc.below (B := w.heap.size) (fun q e => by rw [e]; have := HD11.out.base; have := HD11.out.lo g HD11.out.m.lt.2; have := H7S.out g HD11.out.m.lt.2; omega) HB11.out.size)
    have hnot : ¬ ((B : Int) < 0 ∨ 8 * (X.length : Int) ≤ (B : Int)) := by rw [hXl]; omega
    obtain ⟨he5, hat5⟩ := (HAT3.out.rot (B : Int)).2 hnot
    rw [Int.toNat_natCast, ← HJ.out, ← HR.out, HX.out, flip_flip] at hat5
    have KR5 := rot_l w.heap.size F6 g d3 (k : Int) (B : Int) w12 D12 (by omega)
    rw [he5] at KR5
    obtain ⟨d5, hd5⟩ : ∃ d, d = (rotV d3 (k : Int) (B : Int)).1 := ⟨_, rfl⟩
    rw [← hd5] at KR5 hat5
    have HAT5 := Lib.hid hat5
    have HB12 := Lib.hid hB12
    have HL12 := Lib.hid D12.lo
    have HBY := Lib.hid hbx
    have hx12 := H7S.out
    clear hd5 hat5 he5 hnot hB12 D12 hxc hbx hx12 q3 f3 hqB hrB hrB2 HB11 HO11 HD11 HXR HBX
    (with_reducible refine KR5.mono ?_)
    rintro e w13 ⟨rfl, F13, D13, hF13, hc13⟩
    have HB13 := Lib.hid (chF_lo HB12.out hc13 HL12.out HB12.out.size)
    have hby13 := HBY.out.keep hc13 (fun q hq e => by
      have h1 := H7S.out q e
      have : xb = q := by simpa [SV, Value.ownBlock] using hq
      omega)
    have KR6 := read_l w.heap.size F13 g d5 (k : Int) w13 D13
    rw [HAT5.out.read] at KR6
    have HBZ := Lib.hid hby13
    clear KR5 HB12 HL12 hc13 D13 HBY hby13
    go_wp2_with fail
    (with_reducible refine KR6.mono ?_)
    rintro e w14 ⟨a14, c14, rfl, o14, b14⟩
    have HB14 := Lib.hid (HB13.out.trans (b14.mono HB13.out.size))
    have KE4 := sameBytes_any (some ⟨xb, 0, none⟩) l0.length c8 l0 a0 l0.length c0 l0 w14 (HBZ.out.bytesV.below b14) (H0.out.below HB14.out)
    rw [decide_eq_true rfl] at KE4
    have HY14 := Lib.hid (bytesV_of_owns o14 H0.out.bytes (by omega))
    clear KR6 HB13 HBZ o14 b14
    go_wp2_with fail
    (with_reducible refine KE4.mono ?_)
    rintro e w15 ⟨rfl, b15⟩
    have HB15 := Lib.hid (HB14.out.trans (b15.mono HB14.out.size))
    have KE5 := sameBytes_any a14 l0.length c14 l0 a0 l0.length c0 l0 w15 (HY14.out.below b15) (H0.out.below HB15.out)
    rw [decide_eq_true rfl] at KE5
    clear KE4 HB14 HY14 b15
    go_wp2_with fail
    (with_reducible refine KE5.mono ?_)
    rintro e w16 ⟨rfl, b16⟩
    have HB16 := Lib.hid (HB15.out.trans (b16.mono HB15.out.size))
    clear KE5 HB15 b16
    go_wp2
    go_ret
    exact ⟨rfl, HB16.out⟩
end Go.Proofs.Ytdidalcflkphnaa
