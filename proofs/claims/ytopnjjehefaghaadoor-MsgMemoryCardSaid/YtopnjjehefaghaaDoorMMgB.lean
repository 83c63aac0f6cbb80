/-
  msg: the writer's meta; symbols, items and messages as values.
-/
import Derived.Test.YtopnjjehefaghaaDoorMMgA
namespace Go.Proofs.YtopnjjehefaghaaDoor
open Go.RowKit

/-- a meta as a value: its numbers and its digest's bytes. -/
structure MeR where
  N : Int
  c : Int
  s : Int
  t : Int
  d : Bool
  l : List Nat
deriving DecidableEq
def metaOk (m : MeR) : Bool := metaB m.N m.c m.s m.t m.d m.l.length
def metaLE (m : MeR) : List Nat := numLE m.N.toNat 4 ++ numLE m.s.toNat 4 ++ numLE m.c.toNat 1 ++ numLE m.t.toNat 1 ++ numLE (if m.d = true then 1 else 0) 1 ++ (numLE m.l.length 1 ++ m.l)
/-- the numbers of a meta can be written. -/
structure MeFits (m : MeR) : Prop where
  N0 : 0 ≤ m.N
  N1 : m.N ≤ 2147483647
  c0 : 0 ≤ m.c
  c1 : m.c < 4
  s0 : 0 ≤ m.s
  s1 : m.s ≤ 1024
  t0 : 0 ≤ m.t
  t1 : m.t ≤ 64
  l32 : m.l.length ≤ 32
abbrev MC (m : MeR) (x : Option Addr × Nat × Nat) : Array Value := #[.int .i64 m.N, .int .i64 m.c, .int .i64 m.s, .int .i64 m.t, .bool m.d, .slice x.1 x.2.1 x.2.2]
theorem metaLE_len (m : MeR) : (metaLE m).length = 12 + m.l.length := by simp only [metaLE, List.length_append, numLE_len]; omega
structure Box1 (w W : World) (g : Nat) (cs : Array Value) (T : TypeId) : Prop where
  hh : W.heap[g]? = some (.cells cs T (0, 0))
theorem KU.box {w w' : World} {b g : Nat} {cs : Array Value} {T : TypeId} (h : KU w w' b) (hg : w.heap[g]? = some (.cells cs T (0, 0))) (hne : g ≠ b) (hT : T ≠ 5) : w'.heap[g]? = some (.cells cs T (0, 0)) := h.typ g cs T (0, 0) hne hT hg
theorem bytes_low {w w' : World} {b : Nat} {x : Option Addr × Nat × Nat} {l : List Nat} (h : BytesV w x l) (k : KU w w' b) (hlow : 0 < x.2.1 → ∀ a, x.1 = some a → a.block < b) : BytesV w' x l :=
  ⟨h.row.kept' fun h0 a ha => k.low a.block (hlow h0 a ha) (h.row.lt h0 ha), h.bytes, h.small, h.cap, h.nil⟩
set_option maxRecDepth 10000 in
set_option maxHeartbeats 8000000 in
theorem gmeta_any (b : Nat) (l : List Nat) (m : MeR) (xa : Option Addr) (xn xc : Nat) (w : World) (hV : Gr w b l) (hl : l.length ≤ 90000000) (hf : MeFits m) (hx : BytesV w (xa, xn, xc) m.l) (hlow : 0 < xn → ∀ a, xa = some a → a.block < b) :
    Calls Tryd.prog 50 #[.pointer (some ⟨b, 0, none⟩), .agg (MC m (xa, xn, xc))] w fun e w' => e = .returned (.tuple #[]) ∧ Gr w' b (l ++ metaLE m) ∧ KU w w' b := by
  obtain ⟨N, c, s, t, d, ml⟩ := m
  obtain ⟨N0, N1, e0, e1, s0, s1, t0, t1, l32⟩ := hf
  simp only at N0 N1 e0 e1 s0 s1 t0 t1 l32 hx
  have hmn : ml.length = xn := hx.length
  obtain ⟨w0, hw0⟩ : ∃ w0, w0 = w.alloc (.cells #[.int .i64 N, .int .i64 c, .int .i64 s, .int .i64 t, .bool d, .slice xa xn xc] MT6) := ⟨_, rfl⟩
  have b0 : Below w.heap.size w w0 := by rw [hw0]; exact below_alloc w _
  have h0 : w0.heap[w.heap.size]? = some (.cells #[.int .i64 N, .int .i64 c, .int .i64 s, .int .i64 t, .bool d, .slice xa xn xc] MT6 (0, 0)) := by rw [hw0]; exact heap_alloc_new w _
  have hgb : w.heap.size ≠ b := by have := hV.lt; omega
  have HV0 := Lib.hid (hV.below b0)
  have HX0 := Lib.hid (hx.below b0)
  have HW := Lib.hid hw0
  have HK0 := Lib.hid (KU.of_below (b := b) b0)
  have HLOW := Lib.hid hlow
  obtain ⟨dv, hdv⟩ : ∃ dv : Nat, dv = if d = true then 1 else 0 := ⟨_, rfl⟩
  have HDV := Lib.hid hdv
  obtain ⟨L0, hL0⟩ : ∃ L, L = l := ⟨_, rfl⟩
  rw [← hL0] at HV0 hl
  have HL0 := Lib.hid hL0
  clear hw0 b0 hV hx hdv hL0 hlow
  go_enter Tryd.func50, Tryd.ntmps50
  go_upto_region 1 with fail
  rw [← HW.out]
  obtain ⟨c0, c1, c2, c3, c4, c5, cF⟩ := cells6M h0
  have KN := gnum_any b N.toNat 4 L0 w0 HV0.out (by omega) (by omega) (by omega) 4 rfl N (Int.toNat_of_nonneg (by omega))
  go_wp2_with fail
  (with_reducible refine KN.mono ?_)
  rintro e w1 ⟨rfl, hV, hK⟩
  have h1 := hK.box h0 hgb (by decide)
  have HK1 := Lib.hid (HK0.out.trans hK)
  have HX1 := Lib.hid (bytes_low HX0.out hK HLOW.out)
  obtain ⟨L1, hL1⟩ : ∃ L, L = L0 ++ numLE N.toNat 4 := ⟨_, rfl⟩
  have hl1 : L1.length ≤ 90000010 := by rw [hL1]; simp only [List.length_append, numLE_len]; omega
  rw [← hL1] at hV
  have HV1 := Lib.hid hV
  have HL1 := Lib.hid hL1
  clear c0 c1 c2 c3 c4 c5 cF KN hV hK h0 hL1
  obtain ⟨c0, c1, c2, c3, c4, c5, cF⟩ := cells6M h1
  have KN := gnum_any b s.toNat 4 L1 w1 HV1.out (by omega) (by omega) (by omega) 4 rfl s (Int.toNat_of_nonneg (by omega))
  go_wp2_with fail
  (with_reducible refine KN.mono ?_)
  rintro e w2 ⟨rfl, hV, hK⟩
  have h2 := hK.box h1 hgb (by decide)
  have HK2 := Lib.hid (HK1.out.trans hK)
  have HX2 := Lib.hid (bytes_low HX1.out hK HLOW.out)
  obtain ⟨L2, hL2⟩ : ∃ L, L = L1 ++ numLE s.toNat 4 := ⟨_, rfl⟩
  have hl2 : L2.length ≤ 90000020 := by rw [hL2]; simp only [List.length_append, numLE_len]; omega
  rw [← hL2] at hV
  have HV2 := Lib.hid hV
  have HL2 := Lib.hid hL2
  clear c0 c1 c2 c3 c4 c5 cF KN hV hK h1 hL2
  obtain ⟨c0, c1, c2, c3, c4, c5, cF⟩ := cells6M h2
  have KN := gnum_any b c.toNat 1 L2 w2 HV2.out (by omega) (by omega) (by omega) 1 rfl c (Int.toNat_of_nonneg (by omega))
  go_wp2_with fail
  (with_reducible refine KN.mono ?_)
  rintro e w3 ⟨rfl, hV, hK⟩
  have h3 := hK.box h2 hgb (by decide)
  have HK3 := Lib.hid (HK2.out.trans hK)
  have HX3 := Lib.hid (bytes_low HX2.out hK HLOW.out)
  obtain ⟨L3, hL3⟩ : ∃ L, L = L2 ++ numLE c.toNat 1 := ⟨_, rfl⟩
  have hl3 : L3.length ≤ 90000030 := by rw [hL3]; simp only [List.length_append, numLE_len]; omega
  rw [← hL3] at hV
  have HV3 := Lib.hid hV
  have HL3 := Lib.hid hL3
  clear c0 c1 c2 c3 c4 c5 cF KN hV hK h2 hL3
  obtain ⟨c0, c1, c2, c3, c4, c5, cF⟩ := cells6M h3
  have KN := gnum_any b t.toNat 1 L3 w3 HV3.out (by omega) (by omega) (by omega) 1 rfl t (Int.toNat_of_nonneg (by omega))
  go_wp2_with fail
  (with_reducible refine KN.mono ?_)
  rintro e w4 ⟨rfl, hV, hK⟩
  have h4 := hK.box h3 hgb (by decide)
  have HK4 := Lib.hid (HK3.out.trans hK)
  have HX4 := Lib.hid (bytes_low HX3.out hK HLOW.out)
  obtain ⟨L4, hL4⟩ : ∃ L, L = L3 ++ numLE t.toNat 1 := ⟨_, rfl⟩
  have hl4 : L4.length ≤ 90000040 := by rw [hL4]; simp only [List.length_append, numLE_len]; omega
  rw [← hL4] at hV
  have HV4 := Lib.hid hV
  have HL4 := Lib.hid hL4
  clear c0 c1 c2 c3 c4 c5 cF KN hV hK h3 hL4
  obtain ⟨c0, c1, c2, c3, c4, c5, cF⟩ := cells6M h4
  go_upto_if 24 with fail
  go_cut [4] (fun v wx => v = .int .i64 (dv : Nat) ∧ w4 = wx)
  case first =>
    cases d with
    | true =>
      go_wp2_with fail
      go_meet
      exact ⟨by rw [HDV.out]; rfl, rfl⟩
    | false =>
      go_wp2_with fail
      go_meet
      exact ⟨by rw [HDV.out]; rfl, rfl⟩
  case rest =>
  obtain ⟨rfl, hw⟩ := hcut
  subst hw
  have hdv2 : dv ≤ 1 := by rw [HDV.out]; split <;> omega
  clear c0 c1 c2 c3 c4 c5 cF
  obtain ⟨c0, c1, c2, c3, c4, c5, cF⟩ := cells6M h4
  have KN := gnum_any b dv 1 L4 w4 HV4.out (by omega) (by omega) (by omega) 1 rfl _ rfl
  go_wp2_with fail
  (with_reducible refine KN.mono ?_)
  rintro e w5 ⟨rfl, hV, hK⟩
  have h5 := hK.box h4 hgb (by decide)
  have HK5 := Lib.hid (HK4.out.trans hK)
  have HX5 := Lib.hid (bytes_low HX4.out hK HLOW.out)
  obtain ⟨L5, hL5⟩ : ∃ L, L = L4 ++ numLE dv 1 := ⟨_, rfl⟩
  have hl5 : L5.length ≤ 90000050 := by rw [hL5]; simp only [List.length_append, numLE_len]; omega
  rw [← hL5] at hV
  have HV5 := Lib.hid hV
  have HL5 := Lib.hid hL5
  clear c0 c1 c2 c3 c4 c5 cF KN hV hK h4 hL5
  obtain ⟨c0, c1, c2, c3, c4, c5, cF⟩ := cells6M h5
  have KN := gtext_any b L5 w5 w5 HV5.out (Below.refl _ _) (by omega) xa xn xc ml HX5.out (by omega) (fun h0 a ha => .inl (HLOW.out h0 a ha))
  go_wp2_with fail
  (with_reducible refine KN.mono ?_)
  rintro e w6 ⟨rfl, hV, hK⟩
  have HV6 := Lib.hid hV
  have HK6 := Lib.hid (HK5.out.trans hK)
  clear c0 c1 c2 c3 c4 c5 cF KN hV hK h5
  go_wp2
  go_end0
  refine ⟨rfl, ?_, HK6.out⟩
  have := HV6.out
  rw [HL5.out, HL4.out, HL3.out, HL2.out, HL1.out, HL0.out, HDV.out] at this
  simp only [metaLE, hmn, List.append_assoc] at this ⊢
  exact this
end Go.Proofs.YtopnjjehefaghaaDoor
