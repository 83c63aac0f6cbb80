/-
  msg's reference: a meta's bytes.
-/
import Derived.Test.YtopnjjehefaghaaDoorMMgJ
namespace Go.Proofs.YtopnjjehefaghaaDoor
open Go.RowKit

theorem BytesV.keptM {w w' : World} {x : Option Addr × Nat × Nat} {l : List Nat} (h : BytesV w x l) (hk : 0 < x.2.1 → ∀ a, x.1 = some a → w'.heap[a.block]? = w.heap[a.block]?) : BytesV w' x l := ⟨h.row.kept' hk, h.bytes, h.small, h.cap, h.nil⟩
set_option maxRecDepth 100000 in
set_option maxHeartbeats 8000000 in
theorem rmeta_any (B : Nat) (l : List Nat) (a0 : Option Addr) (c0 : Nat) (m : MeR) (xa : Option Addr) (xn xc : Nat) (w : World) (hO : OwB w B a0 c0 l) (hB : B ≤ w.heap.size) (hl : l.length ≤ 90000000) (hf : MeFits m) (hx : BytesV w (xa, xn, xc) m.l) (hap : 0 < xn → ∀ a, xa = some a → some a.block ≠ ob a0) :
    Calls Tryd.prog 53 #[.slice a0 l.length c0, .agg (MC m (xa, xn, xc))] w fun e w' => ∃ ad cap, e = .returned (.slice ad (l ++ metaLE m).length cap) ∧ OwB w' B ad cap (l ++ metaLE m) ∧ KA w w' (ob a0) := by
  obtain ⟨i0, hi, hz0, hz1, hz2⟩ := info_partsM Tryd.infoU8
  obtain ⟨N, c, s, t, d, ml⟩ := m
  obtain ⟨N0, N1, e0, e1, s0, s1, t0, t1, l32⟩ := hf
  simp only at N0 N1 e0 e1 s0 s1 t0 t1 l32 hx
  obtain ⟨N, rfl⟩ := Int.eq_ofNat_of_zero_le N0
  obtain ⟨c, rfl⟩ := Int.eq_ofNat_of_zero_le e0
  obtain ⟨s, rfl⟩ := Int.eq_ofNat_of_zero_le s0
  obtain ⟨t, rfl⟩ := Int.eq_ofNat_of_zero_le t0
  have hmn : ml.length = xn := hx.length
  obtain ⟨w0, hw0⟩ : ∃ w0, w0 = w.alloc (.cells #[.int .i64 N, .int .i64 c, .int .i64 s, .int .i64 t, .bool d, .slice xa xn xc] MT6) := ⟨_, rfl⟩
  have b0 : Below w.heap.size w w0 := by rw [hw0]; exact below_alloc w _
  have h0 : w0.heap[w.heap.size]? = some (.cells #[.int .i64 N, .int .i64 c, .int .i64 s, .int .i64 t, .bool d, .slice xa xn xc] MT6 (0, 0)) := by rw [hw0]; exact heap_alloc_new w _
  have hO0 : OwB w0 B a0 c0 l := by rw [hw0]; exact World.ownsRow.alloc hO _
  have k0 : KA w w0 (ob a0) := KA.of_below b0
  have HX := Lib.hid hx
  have HAP := Lib.hid hap
  have HW := Lib.hid hw0
  obtain ⟨dv, hdv⟩ : ∃ dv : Nat, dv = if d = true then 1 else 0 := ⟨_, rfl⟩
  have HDV := Lib.hid hdv
  have hsz0 := b0.size
  clear hw0 b0 hO hx hdv hap
  go_enter Tryd.func53, Tryd.ntmps53
  go_upto_region 1 with fail
  rw [← HW.out]
  obtain ⟨L, hL⟩ : ∃ L, L = l ++ numLE N 4 ++ numLE s 4 := ⟨_, rfl⟩
  have HL := Lib.hid hL
  clear hL
  go_cut [0] (fun v wx => ∃ ad cap, v = .slice ad L.length cap ∧ OwB wx B ad cap L ∧ KA w wx (ob a0) ∧ (ob ad = ob a0 ∨ ∀ q, ob ad = some q → w.heap.size ≤ q) ∧ wx.heap[w.heap.size]? = some (.cells #[.int .i64 N, .int .i64 c, .int .i64 s, .int .i64 t, .bool d, .slice xa xn xc] MT6 (0, 0)))
  case first =>
    have S0 : w0.drew.heap[w.heap.size]? = some (.cells #[.int .i64 N, .int .i64 c, .int .i64 s, .int .i64 t, .bool d, .slice xa xn xc] MT6 (0, 0)) := h0
    have SA : w0.drew.cell? ⟨w.heap.size, 0, none⟩ = some (.int .i64 N) ∧ w0.drew.cell? ⟨w.heap.size, 2, none⟩ = some (.int .i64 s) := ⟨cell_of_row _ _ 0 _ _ _ S0, cell_of_row _ _ 2 _ _ _ S0⟩
    refine GoX.start 8 (fun w' => w'.cell? ⟨w.heap.size, 0, none⟩ = some (.int .i64 N) ∧ w'.cell? ⟨w.heap.size, 2, none⟩ = some (.int .i64 s)) (by kernel_rfl) ?_
    refine GoX.take 0 rfl (by kernel_rfl) (by kernel_rfl) (by rfl) (fun _ _ _ h => h) (v := ?tv0) SA ?ty0 ?tr0
    case ty0 => (intro w hSw; (try dsimp only at hSw); go_simp; first | done | with_reducible rfl)
    simp only [Act.put, List.setIfInBounds_toArray, List.set_cons_zero, List.set_cons_succ]
    refine GoX.take 1 rfl (by kernel_rfl) (by kernel_rfl) (by rfl) (fun _ _ _ h => h) (v := ?tv1) SA ?ty1 ?tr1
    case ty1 => (intro w hSw; (try dsimp only at hSw); go_simp; first | done | with_reducible rfl)
    simp only [Act.put, List.setIfInBounds_toArray, List.set_cons_zero, List.set_cons_succ]
    refine GoX.take 2 rfl (by kernel_rfl) (by kernel_rfl) (by rfl) (fun _ _ _ h => h) (v := ?tv2) SA ?ty2 ?tr2
    case ty2 => (intro w hSw; (try dsimp only at hSw); go_simp; first | done | with_reducible rfl)
    simp only [Act.put, List.setIfInBounds_toArray, List.set_cons_zero, List.set_cons_succ]
    refine GoX.take 3 rfl (by kernel_rfl) (by kernel_rfl) (by rfl) (fun _ _ _ h => h) (v := ?tv3) SA ?ty3 ?tr3
    case ty3 => (intro w hSw; (try dsimp only at hSw); go_simp; first | done | with_reducible rfl)
    simp only [Act.put, List.setIfInBounds_toArray, List.set_cons_zero, List.set_cons_succ]
    refine GoX.take 5 rfl (by kernel_rfl) (by kernel_rfl) (by rfl) (fun _ _ _ h => h) (v := ?tv5) SA ?ty5 ?tr5
    case ty5 => (intro w hSw; (try dsimp only at hSw); go_simp; first | done | with_reducible rfl)
    simp only [Act.put, List.setIfInBounds_toArray, List.set_cons_zero, List.set_cons_succ]
    refine GoX.take 6 rfl (by kernel_rfl) (by kernel_rfl) (by rfl) (fun _ _ _ h => h) (v := ?tv6) SA ?ty6 ?tr6
    case ty6 => (intro w hSw; (try dsimp only at hSw); go_simp; first | done | with_reducible rfl)
    simp only [Act.put, List.setIfInBounds_toArray, List.set_cons_zero, List.set_cons_succ]
    refine GoX.one 4 rfl (by kernel_rfl) (by decide) (fun K hK => ?_)
    rw [if_pos (by rfl)]
    go_simp
    have K1 := rput_is B N 4 l a0 c0 w0.drew hO0 (by show B ≤ w0.heap.size; omega) (by omega) (by omega) (by omega) 4 rfl _ rfl
    obtain ⟨L1, hL1⟩ : ∃ X, X = l ++ numLE N 4 := ⟨_, rfl⟩
    rw [← hL1] at K1
    have hl1 : L1.length ≤ 90000004 := by rw [hL1]; simp only [List.length_append, numLE_len]; omega
    have hLL : L1 ++ numLE s 4 = L := by rw [hL1, HL.out]
    have HLL := Lib.hid hLL
    clear hL1 hLL
    (with_reducible refine K1.mono ?_)
    rintro e w1 ⟨ad1, cap1, rfl, hO1, hK1, hob1⟩
    have hbx := hK1.box (w := w0.drew) hO0 S0 (by decide)
    have k1 : KA w w1 (ob a0) := k0.trans (⟨hK1.os, hK1.tape, hK1.output, hK1.size, hK1.block⟩ : KA w0 w1 (ob a0)) (.inl rfl)
    have hob1' : ob ad1 = ob a0 ∨ ∀ q, ob ad1 = some q → w.heap.size ≤ q := by
      rcases hob1 with h | h
      · exact .inl h
      · exact .inr fun q hq => Nat.le_trans hsz0 (h q hq)
    have hs1 := k1.size
    clear K1 hK1 hob1 S0 h0
    have S1 : w1.cell? ⟨w.heap.size, 0, none⟩ = some (.int .i64 N) ∧ w1.cell? ⟨w.heap.size, 2, none⟩ = some (.int .i64 s) := ⟨cell_of_row _ _ 0 _ _ _ hbx, cell_of_row _ _ 2 _ _ _ hbx⟩
    refine hK.out _ _ S1 (fun _ => ?_)
    clear hK K SA
    refine GoX.one 7 rfl (by kernel_rfl) (by decide) (fun K hK => ?_)
    rw [if_pos (by rfl)]
    go_simp
    have K2 := rput_is B s 4 L1 ad1 cap1 w1 hO1 (by omega) (by omega) (by omega) (by omega) 4 rfl _ rfl
    rw [HLL.out] at K2
    (with_reducible refine K2.mono ?_)
    rintro e w2 ⟨ad2, cap2, rfl, hO2, hK2, hob2⟩
    have hbx2 := hK2.box hO1 hbx (by decide)
    have k2 : KA w w2 (ob a0) := k1.trans hK2 hob1'
    have hob2' : ob ad2 = ob a0 ∨ ∀ q, ob ad2 = some q → w.heap.size ≤ q := by
      rcases hob2 with h | h
      · rw [h]; exact hob1'
      · exact .inr fun q hq => Nat.le_trans hs1 (h q hq)
    have S2 : w2.cell? ⟨w.heap.size, 0, none⟩ = some (.int .i64 N) ∧ w2.cell? ⟨w.heap.size, 2, none⟩ = some (.int .i64 s) := ⟨cell_of_row _ _ 0 _ _ _ hbx2, cell_of_row _ _ 2 _ _ _ hbx2⟩
    refine hK.out _ _ S2 (fun _ => ?_)
    clear hK K K2 S1
    refine GoX.last 8 rfl (by kernel_rfl) (by kernel_rfl) (by decide) ?_
    go_wp2
    go_meet
    exact ⟨ad2, cap2, rfl, hO2, k2, hob2', hbx2⟩
  case rest =>
    clear h0 k0 hO0
    rename World => w2
    obtain ⟨ad2, cap2, rfl, hO2, k2, hob2, h2⟩ := hcut
    have hLl : L.length ≤ 90000008 := by rw [HL.out]; simp only [List.length_append, numLE_len]; omega
    have HO2 := Lib.hid hO2
    have HK2 := Lib.hid k2
    have HOB2 := Lib.hid hob2
    clear hO2 k2 hob2
    obtain ⟨c0', c1, c2, c3, c4, c5, cF⟩ := cells6M h2
    go_upto_if 15 with fail
    go_cut [5] (fun v wx => v = .int .u8 (dv : Nat) ∧ w2 = wx)
    case first =>
      cases d with
      | true =>
        go_wp2_with fail
        go_meet
        exact ⟨by rw [HDV.out]; rfl, rfl⟩
      | false =>
        go_wp2_with fail
        go_meet
        exact ⟨by rw [HDV.out]; rfl, rfl⟩
    case rest =>
    obtain ⟨rfl, hw⟩ := hcut
    subst hw
    have hdv2 : dv ≤ 1 := by rw [HDV.out]; split <;> omega
    have hwc : IntKind.u8.wrap (c : Int) = (c : Int) := by simp [IntKind.wrap, IntKind.bits, IntKind.signed]; omega
    have hwt : IntKind.u8.wrap (t : Int) = (t : Int) := by simp [IntKind.wrap, IntKind.bits, IntKind.signed]; omega
    have hs2 := HK2.out.size
    go_wp2_with (first | (at_builtin; refine Hid.out ?_))
    refine Lib.hid ?_
    refine wpList_append_lies _ rfl (.tmp 16) (.tmp 25) 24 rfl B 5 i0 (.int .u8 0) 1 1 Tryd.underlying24 hi hz0 hz1 hz2 rfl (by decide) (.slice ad2 L.length cap2) L.length (L.map bv) rfl (show (w2.alloc (.cells #[.int .u8 (c : Nat), .int .u8 (t : Nat), .int .u8 (dv : Nat)] 5)).ownsRow B 5 1 (.slice ad2 L.length cap2) L.length (L.map bv) from World.ownsRow.alloc HO2.out _) ⟨w2.heap.size, 0, none⟩ 3 3 [bv c, bv t, bv dv] rfl rfl (World.news_of_block (heap_alloc_new w2 _)) (bv_one [c, t, dv]) (by decide) (by simp [maxLen]; omega) (by omega) (by simp; omega) _ rfl ?_
    intro g4 cap4 w4 hown4 hgrow4 hat _
    have hk4 : KA w2 w4 (ob ad2) := (KA.of_below (below_alloc w2 (.cells #[.int .u8 (c : Nat), .int .u8 (t : Nat), .int .u8 (dv : Nat)] 5))).trans (KA.of_grown (by rw [← ob_eq ad2 L.length cap2]; exact hgrow4)) (.inl rfl)
    have hob4 : ob (some ⟨g4, 0, none⟩) = ob a0 ∨ ∀ q, ob (some ⟨g4, 0, none⟩) = some q → w.heap.size ≤ q := by
      rcases hat with h | h
      · rw [ob_eq] at h
        rw [show ob (some ⟨g4, 0, none⟩) = ob ad2 from h.symm]
        exact HOB2.out
      · refine .inr fun q hq => ?_
        have e : g4 = q := by simpa [ob, Value.ownBlock] using hq
        simp at h
        omega
    obtain ⟨L4, hL4⟩ : ∃ X, X = L ++ [c, t, dv] := ⟨_, rfl⟩
    have hl4 : L4.length = L.length + 3 := by rw [hL4]; simp
    have hO4 : OwB w4 B (some ⟨g4, 0, none⟩) cap4 L4 := by
      unfold OwB
      rw [hl4, hL4, List.map_append]
      exact hown4
    have h4 := hk4.box HO2.out h2 (by decide)
    have hkw4 := HK2.out.trans hk4 HOB2.out
    have hx4 : BytesV w4 (xa, xn, xc) ml := HX.out.keptM fun h0 a ha => hkw4.block a.block (HX.out.row.lt h0 ha) (HAP.out h0 a ha)
    have KT := rtext_any B L4 (some ⟨g4, 0, none⟩) cap4 xa xn xc ml w4 hO4 (by have := hk4.size; omega) (by omega) hx4 (by omega) (fun h0 a ha e => by
      rcases hob4 with h | h
      · exact HAP.out h0 a ha (by rw [e, h])
      · have := h _ e.symm
        have := HX.out.row.lt h0 ha
        omega)
    have HKW := Lib.hid hkw4
    have HOB4 := Lib.hid hob4
    have HL4 := Lib.hid hL4
    rw [hl4] at KT
    clear hown4 hgrow4 hat hk4 hob4 hO4 hx4 hL4 c0' c1 c2 c3 c4 c5 cF h2 hkw4
    obtain ⟨c0', c1, c2, c3, c4, c5, cF⟩ := cells6M h4
    go_wp2_with fail
    (with_reducible refine KT.mono ?_)
    rintro e w5 ⟨ad5, cap5, rfl, hO5, hK5⟩
    have he : L4 ++ (numLE xn 1 ++ ml) = l ++ metaLE ⟨N, c, s, t, d, ml⟩ := by
      rw [HL4.out, HL.out]
      simp only [metaLE, numLE_one, Int.toNat_natCast, hmn, List.append_assoc, ← HDV.out]
      rw [Nat.mod_eq_of_lt (show c < 256 by omega), Nat.mod_eq_of_lt (show t < 256 by omega), Nat.mod_eq_of_lt (show dv < 256 by omega)]
      simp
    have HEE := Lib.hid he
    obtain ⟨Z, hZ⟩ : ∃ z, z = (L4 ++ (numLE xn 1 ++ ml)).length := ⟨_, rfl⟩
    rw [← hZ]
    have HZ := Lib.hid hZ
    have HO5 := Lib.hid hO5
    have HK5 := Lib.hid (HKW.out.trans hK5 HOB4.out)
    clear KT hO5 hK5 he hZ c0' c1 c2 c3 c4 c5 cF h4
    go_wp2
    go_ret
    rw [← HEE.out]
    exact ⟨ad5, cap5, by rw [← HZ.out]; rfl, HO5.out, HK5.out⟩
end Go.Proofs.YtopnjjehefaghaaDoor
