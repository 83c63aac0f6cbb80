/-
  rilllaw09: MetaDecodes.
-/
import Derived.Test.YtikjcmijmhmilaaMfJ
namespace Go.Proofs.Ytikjcmijmhmilaa
open Go.RowKit

/-- whoever decodes these bytes answers the same. -/
theorem givesDec_uni (l : List Nat) (hl : Bytes l) : ∃ (k : Int) (key : ByteArray) (N c s t : Int) (d : Bool) (sum : List Nat) (pn : Nat) (code : Int) (PP : Nat → PlR), pn ≤ 100000 ∧ (decOk l = true → code = 0) ∧ (decOk l = false → code = 90) ∧ ∀ (w : World) (e : Ending) (w' : World), GivesDec w l e w' → Below w.heap.size w w' ∧ ∃ sa sc pa pc P, e = .returned (.tuple #[.agg #[.int .i64 k, .string key, .int .i64 N, .int .i64 c, .int .i64 s, .int .i64 t, .bool d, .slice sa sum.length sc, .slice pa pn pc], .int .i64 code]) ∧ BytesV w' (sa, sum.length, sc) sum ∧ PlacesV w' pa pn pc P ∧ ∀ i, i < pn → SameP (P i) (PP i) := by
  cases hk : decOk l with
  | true =>
    refine ⟨(Sc.mk false l).k, (Sc.mk false l).key, (Sc.mk false l).N, (Sc.mk false l).c, (Sc.mk false l).s, (Sc.mk false l).t, (Sc.mk false l).d, (Sc.mk false l).sum, (Sc.mk false l).pn, 0, (Sc.mk false l).P, Sc.pn_lt (s := Sc.mk false l) hl, fun _ => rfl, nofun, ?_⟩
    rintro w e w' ⟨hb, ⟨h, -⟩ | ⟨-, sa, sc, pa, pc, P, rfl, h1, h2, h3⟩⟩
    · rw [hk] at h; cases h
    · exact ⟨hb, sa, sc, pa, pc, P, rfl, h1, h2, h3⟩
  | false =>
    refine ⟨0, ⟨#[]⟩, 0, 0, 0, 0, false, [], 0, 90, fun _ => ⟨0, 0, 0, (none, 0, 0), []⟩, by decide, (fun h => by cases h), fun _ => rfl, ?_⟩
    rintro w e w' ⟨hb, ⟨-, rfl⟩ | ⟨h, -⟩⟩
    · exact ⟨hb, none, 0, none, 0, fun _ => ⟨0, 0, 0, (none, 0, 0), []⟩, rfl, bytesV_none rfl (fun _ => rfl), ⟨by simp [maxLen], Nat.le_refl _, fun _ => rfl, fun h => absurd h (Nat.lt_irrefl _)⟩, fun i hi => absurd hi (Nat.not_lt_zero _)⟩
    · rw [hk] at h; cases h
theorem spareB_takeM (l : List Nat) : (spareB l).take l.length = l := by simp [spareB]
set_option maxRecDepth 100000 in
set_option maxHeartbeats 8000000 in
theorem metaDecodes_walk (ad : Option Addr) (n c : Nat) (l : List Nat) (w : World) (h : BytesV w (ad, n, c) l) (_s : n ≤ 140737488351232) :
    Calls Try.prog 6 #[.slice ad n c] w fun e w' => e = .returned (.bool true) ∧ Below w.heap.size w w' := by
  have KA := alive_any
  have hln : l.length = n := h.length
  have HL := Lib.hid hln
  have HH := Lib.hid h
  clear h hln
  go_enter Try.func6, Try.ntmps6
  go_wp2_with fail
  (with_reducible refine (KA _).mono ?_)
  rintro e w2 ⟨rfl, b2⟩
  have B2 := Lib.hid b2
  clear KA b2
  by_cases hp7 : (40000 : Int) < (n : Int)
  · go_wp2
    go_ret
    exact ⟨rfl, B2.out⟩
  have KS := spare_any ad n c l w2 (HH.out.below B2.out) (by omega)
  go_wp2_with fail
  (with_reducible refine KS.mono ?_)
  rintro e w3 ⟨a3, c3, rfl, o3, b3⟩
  have hsl : (spareB l).length = n + 8 := by rw [spareB_length, HL.out]
  have hS := bytesV_of_owns o3 (spareB_bytes HH.out.bytes) (by omega)
  have hT : BytesV w3 (a3, n, c3) l := by
    have := bytesV_takeB (m := n) hS (by omega)
    have e : (spareB l).take n = l := by have := spareB_takeM l; rwa [HL.out] at this
    rwa [e] at this
  have hnc : n ≤ c3 := hT.cap
  have hnc2 : (n : Int) ≤ (c3 : Int) := by omega
  obtain ⟨Sp, hSp⟩ : ∃ S, S = spareB l := ⟨_, rfl⟩
  rw [← hSp] at hS hsl ⊢
  obtain ⟨sn, hsn⟩ : ∃ n, n = Sp.length := ⟨_, rfl⟩
  rw [← hsn] at hS ⊢
  have HSP := Lib.hid hSp
  have HSN := Lib.hid hsn
  have HS := Lib.hid hS
  have B3 := Lib.hid (B2.out.trans (b3.mono B2.out.size))
  have KD := decode_is a3 n c3 l w3 hT.r
  obtain ⟨k, key, N, cc, s, t, d, sum, pn, code, PP, hpn, -, -, hU⟩ := givesDec_uni l HH.out.bytes
  have HU := Lib.hid hU
  have HPN := Lib.hid hpn
  clear KS o3 b3 hS hT hsl hsn hSp hU hpn
  go_wp2_with fail
  (with_reducible refine KD.mono ?_)
  intro e w4 hD
  obtain ⟨b4, sa, sc, pa, pc, P, rfl, s4, p4, m4⟩ := HU.out _ _ _ hD
  clear hD KD
  obtain ⟨q, hq⟩ : ∃ q, q = w4.heap.size := ⟨_, rfl⟩
  obtain ⟨w5, hw5⟩ : ∃ x, x = w4.alloc (.cells #[.int .i64 k, .string key, .int .i64 N, .int .i64 cc, .int .i64 s, .int .i64 t, .bool d, .slice sa sum.length sc, .slice pa pn pc] RT9) := ⟨_, rfl⟩
  have b5 : Below w4.heap.size w4 w5 := by rw [hw5]; exact below_alloc w4 _
  have k5 : w5.heap[q]? = some (.cells #[.int .i64 k, .string key, .int .i64 N, .int .i64 cc, .int .i64 s, .int .i64 t, .bool d, .slice sa sum.length sc, .slice pa pn pc] RT9 (0, 0)) := by rw [hw5, hq]; exact heap_alloc_new w4 _
  have B4 := B3.out.trans (b4.mono B3.out.size)
  have B5 := Lib.hid (B4.trans (b5.mono B4.size))
  have S5 := Lib.hid (s4.below b5)
  have P5 := Lib.hid (p4.below b5)
  have HS5 := Lib.hid ((HS.out.below b4).below b5)
  have M5 := Lib.hid m4
  have K5 := Lib.hid k5
  have HW5 := Lib.hid hw5
  have HQ := Lib.hid hq
  clear b4 s4 p4 m4 B4 b5 k5 hq hw5
  go_upto_region 7 with fail
  rw [← HQ.out, ← HW5.out]
  have KR := refDecode_is ad n c l w5 (HH.out.below B5.out)
  go_wp2_with fail
  (with_reducible refine KR.mono ?_)
  intro e w6 hD
  obtain ⟨b6, ta, tc, qa, qc, Q, rfl, s6, p6, m6⟩ := HU.out _ _ _ hD
  clear hD KR
  obtain ⟨r, hr⟩ : ∃ q, q = w6.heap.size := ⟨_, rfl⟩
  obtain ⟨w7, hw7⟩ : ∃ x, x = w6.alloc (.cells #[.int .i64 k, .string key, .int .i64 N, .int .i64 cc, .int .i64 s, .int .i64 t, .bool d, .slice ta sum.length tc, .slice qa pn qc] RT9) := ⟨_, rfl⟩
  have b7 : Below w6.heap.size w6 w7 := by rw [hw7]; exact below_alloc w6 _
  have k7 : w7.heap[r]? = some (.cells #[.int .i64 k, .string key, .int .i64 N, .int .i64 cc, .int .i64 s, .int .i64 t, .bool d, .slice ta sum.length tc, .slice qa pn qc] RT9 (0, 0)) := by rw [hw7, hr]; exact heap_alloc_new w6 _
  have b57 := b6.trans (b7.mono b6.size)
  have K7 := Lib.hid k7
  have J7 := Lib.hid ((b57.block q (Array.getElem?_eq_some_iff.1 K5.out).1).trans K5.out)
  have B7 := Lib.hid (B5.out.trans (b57.mono B5.out.size))
  have HS7 := Lib.hid (HS5.out.below b57)
  have hcc : (code == code) = true := by simp
  have KX := sameRecord_self k key N cc s t d sa sc ta sum.length tc sum pa pn pc P qa qc Q w7 (S5.out.below b57) (s6.below b7) (P5.out.below b57) (p6.below b7) (fun i hi => by
    have h1 := M5.out i hi
    have h2 := m6 i hi
    exact ⟨h1.b.trans h2.b.symm, h1.e.trans h2.e.symm, h1.s.trans h2.s.symm, h1.l.trans h2.l.symm, h1.n.trans h2.n.symm⟩) HPN.out
  have HW7 := Lib.hid hw7
  have HR := Lib.hid hr
  clear b6 s6 p6 m6 b57 b7 k7 hr hw7
  go_upto_region 8 with fail
  rw [← HR.out, ← HW7.out]
  obtain ⟨c0, c1, c2, c3', c4, c5, c6, c7, c8⟩ := cells9M J7.out
  obtain ⟨d0, d1, d2, d3, d4, d5, d6, d7, d8⟩ := cells9M K7.out
  go_wp2_with fail
  (with_reducible refine KX.mono ?_)
  rintro e w8 ⟨rfl, b8⟩
  have B8 := Lib.hid (B7.out.trans (b8.mono B7.out.size))
  have HS8 := Lib.hid (HS7.out.below b8)
  have KS := spare_any ad n c l w8 (HH.out.below B8.out) (by omega)
  clear c0 c1 c2 c3' c4 c5 c6 c7 c8 d0 d1 d2 d3 d4 d5 d6 d7 d8 b8 KX
  go_wp2_with fail
  (with_reducible refine KS.mono ?_)
  rintro e w9 ⟨a9, c9, rfl, o9, b9⟩
  have hS := bytesV_of_owns o9 (spareB_bytes HH.out.bytes) (by rw [spareB_length, HL.out]; omega)
  rw [← HSP.out, ← HSN.out] at hS ⊢
  have KQ := sameBytes_any a3 sn c3 Sp a9 sn c9 Sp w9 (HS8.out.below b9) hS
  rw [decide_eq_true rfl] at KQ
  have B9 := Lib.hid (B8.out.trans (b9.mono B8.out.size))
  clear KS o9 b9 hS
  go_wp2_with fail
  (with_reducible refine KQ.mono ?_)
  rintro e w10 ⟨rfl, b10⟩
  have B10 := Lib.hid (B9.out.trans (b10.mono B9.out.size))
  clear b10 KQ
  go_wp2
  go_ret
  exact ⟨rfl, B10.out⟩
end Go.Proofs.Ytikjcmijmhmilaa
