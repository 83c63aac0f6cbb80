/-
  rilllaw05: ChunkParts.
-/
import Derived.Deep.RegionHeld3
import Derived.Test.YtfjcbgfgiidogaaDoorMBase
import Derived.Test.YtfjcbgfgiidogaaDoorMChO
import Derived.Test.YtfjcbgfgiidogaaDoorMCh5
namespace Go.Proofs.YtfjcbgfgiidogaaDoor
open Go.RowKit

theorem partsR_len (s t : Int) : (partsR s t).1.length ≤ 1000 := by
  unfold partsR
  split
  · rename_i h
    obtain ⟨g1, g2⟩ := sizeC_zero.1 h
    obtain ⟨s1, s2⟩ := okS_iff.1 g1
    obtain ⟨t1, t2⟩ := okT_iff.1 g2
    obtain ⟨n1, n2, -, -⟩ := chN_facts (size := s.toNat) (t := t.toNat) (by omega) (by omega) (by omega)
    obtain ⟨z1, z2, -⟩ := chZ_facts n1 n2
    simp only [partsL_length]
    omega
  · simp
theorem splitR_len (v : List Nat) (t : Int) : (splitR v t).1.length ≤ 1000 ∧ ∀ i, ((splitR v t).1.getD i []).length ≤ 1000 := by
  unfold splitR
  split
  · rename_i h
    obtain ⟨g1, g2⟩ := sizeC_zero.1 h
    obtain ⟨s1, s2⟩ := okS_iff.1 g1
    obtain ⟨t1, t2⟩ := okT_iff.1 g2
    obtain ⟨n1, n2, -, -⟩ := chN_facts (size := v.length) (t := t.toNat) (by omega) (by omega) (by omega)
    obtain ⟨z1, z2, -⟩ := chZ_facts n1 n2
    refine ⟨by simp only [blocksL_length]; omega, fun i => ?_⟩
    by_cases hi : i < chZ (chN v.length t.toNat)
    · simp only
      rw [blocks_getD hi, blockL_length]
      have := (chK_facts n1 n2 hi).2.1
      omega
    · rw [List.getD_eq_getElem?_getD, List.getElem?_eq_none (by rw [blocksL_length]; omega)]; simp
  · simp
theorem intsV_nv {w : World} {B : Nat} {a : Option Addr} {c : Nat} {l : List Nat} (h : w.ownsRow B 3 1 (.slice a l.length c) l.length (l.map nv')) (hs : l.length ≤ 100000) : IntsV w (a, l.length, c) (l.map fun x => ((x : Nat) : Int)) := by
  refine intsV_ownsC (l := l.map fun x => ((x : Nat) : Int)) (base := B) (T := 3) ?_ (by omega)
  rw [List.map_map]
  exact h
set_option maxRecDepth 100000 in
set_option maxHeartbeats 8000000 in
theorem chunkParts_walk (s t : Int) (va : Option Addr) (vn vc : Nat) (v : List Nat) (w : World) (hg : Bnd w) (_w0 : (Lit.int .i64 s).wf = true) (_w1 : (Lit.int .i64 t).wf = true) (hv : BytesV w (va, vn, vc) v) (_s2 : vn ≤ 140737488351232) :
    Calls Tryd.prog 3 #[.int .i64 s, .int .i64 t, .slice va vn vc] w fun e w' => e = .returned (.bool true) ∧ Below w.heap.size w w' := by
  have HG := Lib.hid hg
  have HVL := Lib.hid (show v.length = vn from hv.length)
  have HVB := Lib.hid hv.bytes
  have HV := Lib.hid hv
  have KP := fun w => parts_any s t w
  have KQ := fun w => refParts_any s t w
  have KS := fun a n c w h => split_any a n c v t w h
  have KR := fun a n c w h k => refSplit_any a n c v t w h k
  have hpl := partsR_len s t
  obtain ⟨hbl, hbk⟩ := splitR_len v t
  obtain ⟨P, hP⟩ : ∃ P, P = partsR s t := ⟨_, rfl⟩
  obtain ⟨S, hS⟩ : ∃ S, S = splitR v t := ⟨_, rfl⟩
  simp only [← hP] at KP KQ hpl
  simp only [← hS] at KS KR hbl hbk
  obtain ⟨PL, pc⟩ := P
  obtain ⟨BL, bc⟩ := S
  simp only at hpl hbl hbk
  clear hg hv hP hS _w0 _w1
  go_enter Tryd.func3, Tryd.ntmps3
  go_wp2_with fail
  (with_reducible refine (alive5_any _ HG.out).mono ?_)
  rintro e w1 ⟨rfl, hb1⟩
  by_cases hn1 : vn ≤ 5000
  rotate_left 1
  · go_wp2
    go_ret
    exact ⟨rfl, hb1⟩
  go_wp2_with fail
  (with_reducible refine (KP _).mono ?_)
  rintro e w2 ⟨a2, c2, rfl, o2, b2⟩
  simp only at o2 ⊢
  have hb2 := hb1.trans (b2.mono hb1.size)
  have H2 := Lib.hid (intsV_nv o2 (by omega))
  clear b2 hb1 o2 KP
  go_wp2_with fail
  (with_reducible refine (KQ _).mono ?_)
  rintro e w3 ⟨a3, c3, rfl, o3, b3⟩
  simp only at o3 ⊢
  have hb3 := hb2.trans (b3.mono hb2.size)
  have KI := sameInts_any a2 _ c2 _ a3 _ c3 _ _ (H2.out.below b3) (intsV_nv o3 (by omega))
  rw [decide_eq_true rfl] at KI
  clear b3 hb2 o3 KQ
  go_wp2_with fail
  (with_reducible refine KI.mono ?_)
  rintro e w4 ⟨rfl, b4⟩
  have hb4 := hb3.trans (b4.mono hb3.size)
  have hpc : (pc != pc) = false := by simp
  clear b4 hb3 KI
  go_wp2_with fail
  (with_reducible refine (spare_any va vn vc v _ (HV.out.below hb4) (by omega)).mono ?_)
  rintro e w5 ⟨a5, c5, rfl, o5, b5⟩
  have hsl : (spareB v).length = vn + 8 := by rw [spareB_length, HVL.out]
  rw [hsl] at o5 ⊢
  have h5 := bytesV_of_owns o5 (spareB_bytes HVB.out) (by omega)
  have h5t := h5.takeC (show vn ≤ vn + 8 by omega)
  have hst : (spareB v).take vn = v := by have : (spareB v).take v.length = v := by simp [spareB]
                                          rw [HVL.out] at this; exact this
  rw [hst] at h5t
  have hcap := h5.cap
  simp only at hcap
  have hb5 := hb4.trans (b5.mono hb4.size)
  have H5 := Lib.hid h5
  have H5T := Lib.hid h5t
  clear b5 hb4 o5 h5 h5t hst hsl
  go_wp2_with fail
  (with_reducible refine (KS _ _ _ _ H5T.out).mono ?_)
  rintro e w6 ⟨a6, c6, rfl, o6, b6⟩
  simp only at o6 ⊢
  have hb6 := hb5.trans (b6.mono hb5.size)
  have H5 := Lib.hid (H5.out.below b6)
  have H6 := Lib.hid o6
  clear b6 hb5 o6 KS H5T
  go_wp2_with fail
  (with_reducible refine (KR _ _ _ _ (HV.out.below hb6) (by omega)).mono ?_)
  rintro e w7 ⟨a7, c7, rfl, o7, b7⟩
  simp only at o7 ⊢
  have hb7 := hb6.trans (b7.mono hb6.size)
  have H5 := Lib.hid (H5.out.below b7)
  have H6 := Lib.hid (H6.out.below b7)
  have H7 := Lib.hid o7
  have hbc : (bc != bc) = false := by simp
  have hll : ((BL.length : Int) != (BL.length : Int)) = false := by simp
  clear b7 hb6 o7 KR
  go_wp2_with fail
  (with_reducible refine (spare_any va vn vc v _ (HV.out.below hb7) (by omega)).mono ?_)
  rintro e w8 ⟨a8, c8, rfl, o8, b8⟩
  have hsl : (spareB v).length = vn + 8 := by rw [spareB_length, HVL.out]
  rw [hsl] at o8 ⊢
  have hb8 := hb7.trans (b8.mono hb7.size)
  have H6 := Lib.hid (H6.out.below b8)
  have H7 := Lib.hid (H7.out.below b8)
  have KB := sameBytes_any a5 (vn + 8) c5 (spareB v) a8 (vn + 8) c8 (spareB v) _ (H5.out.below b8) (bytesV_of_owns o8 (spareB_bytes HVB.out) (by omega))
  rw [decide_eq_true rfl] at KB
  clear b8 hb7 o8 H5
  go_wp2_with fail
  (with_reducible refine KB.mono ?_)
  rintro e w9 ⟨rfl, b9⟩
  have hb9 := hb8.trans (b9.mono hb8.size)
  have H6 := Lib.hid (H6.out.below b9)
  have H7 := Lib.hid (H7.out.below b9)
  have HB9 := Lib.hid hb9
  obtain ⟨z, hz⟩ : ∃ z, z = BL.length := ⟨_, rfl⟩
  rw [← hz] at H6 H7 hbl ⊢
  clear b9 hb8 KB hb9 hll hz
  go_wp2_with fail
  go_loopw [14] (fun vi wr => ∃ i : Nat, i ≤ z ∧ vi = .int .i64 (i : Nat) ∧ Hid (Below w9.heap.size w9 wr)) (fun vi _ => (z - intOf vi).toNat)
  case atStart => exact ⟨0, Nat.zero_le _, rfl, Lib.hid (Below.refl _ _)⟩
  case round =>
    obtain ⟨i, hi, rfl, HB⟩ := hrel
    have hsr := HB.out.size
    by_cases hlt : i < z
    · obtain ⟨g6, ⟨x6, m6, d6⟩, rfl, k6, r6⟩ := (H6.out.below HB.out).at hlt
      obtain ⟨g7, ⟨x7, m7, d7⟩, rfl, k7, r7⟩ := (H7.out.below HB.out).at hlt
      have hm6 : m6 ≤ 1000 := by have h1 := r6.1; have h2 := hbk i; simp only at h1; omega
      have K0 : wr.cell? ⟨g6, i, none⟩ = some (.slice x6 m6 d6) ∧ wr.cell? ⟨g7, i, none⟩ = some (.slice x7 m7 d7) := ⟨k6, k7⟩
      have R6 := Lib.hid r6.rd
      have R7 := Lib.hid r7.rd
      have hi0 : (0 : Int) ≤ (i : Int) := by omega
      have hi1 : (i : Int) < (z : Int) := by omega
      clear k6 k7 r6 r7
      go_wp2_with fail
      go_region_held3 (fun w' => w'.cell? ⟨g6, i, none⟩ = some (.slice x6 m6 d6) ∧ w'.cell? ⟨g7, i, none⟩ = some (.slice x7 m7 d7)) (first | exact K0 | exact K2 | go_keep)
        (first
          | (go_at_call 22; (with_reducible refine (sameRows_rd _ _ _ (BL.getD i []) _ _ _ (BL.getD i []) _ ?h1 ?h2 hm6).mono ?_); (case h1 => exact R6.out.below ⟨rfl, rfl, rfl, Nat.le_refl _, fun _ _ => rfl⟩); (case h2 => exact R7.out.below ⟨rfl, rfl, rfl, Nat.le_refl _, fun _ _ => rfl⟩); rintro e w5 ⟨rfl, d5⟩; have b5 : Below wr.heap.size wr w5 := ⟨d5.os, d5.tape, d5.output, d5.size, d5.block⟩; have K2 : w5.cell? ⟨g6, i, none⟩ = some (.slice x6 m6 d6) ∧ w5.cell? ⟨g7, i, none⟩ = some (.slice x7 m7 d7) := ⟨cell_below K0.1 b5, cell_below K0.2 b5⟩; rw [decide_eq_true rfl]))
      have HB2 := Lib.hid (HB.out.trans (b5.mono hsr))
      clear b5 d5 K2 K0
      go_wp2
      go_roundw
      case rel => exact ⟨i + 1, by omega, by go_num, HB2⟩
      case measure => simp [intOf]; omega
    · obtain rfl : i = z := by omega
      go_wp2
      go_ret
      exact ⟨rfl, HB9.out.trans (HB.out.mono HB9.out.size)⟩
end Go.Proofs.YtfjcbgfgiidogaaDoor
