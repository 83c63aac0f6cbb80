/-
  rilllaw05: ChunkSymbols.
-/
import Derived.Test.YtfjcbgfgiidogaaDoorMChU
import Derived.Test.YtfjcbgfgiidogaaDoorMCh6
namespace Go.Proofs.YtfjcbgfgiidogaaDoor
open Go.RowKit

theorem encodeR_len5 (src : List (List Nat)) (es : List Int) : (encodeR src es).1.length ≤ es.length := by
  unfold encodeR
  split
  · split
    · simp
    · simp
  · simp
theorem symbolsR_len (v : List Nat) (t b : Int) (es : List Int) : (symbolsR v t b es).1.length ≤ es.length := by
  unfold symbolsR
  split
  · split
    · simp only [List.length_map]
      exact encodeR_len5 _ _
    · simp
  · simp
set_option maxRecDepth 100000 in
set_option maxHeartbeats 8000000 in
theorem chunkSymbols_walk (va : Option Addr) (vn vc : Nat) (v : List Nat) (t b : Int) (ea : Option Addr) (en ec : Nat) (es : List Int) (w : World) (hg : Bnd w) (hv : BytesV w (va, vn, vc) v) (_s2 : vn ≤ 140737488351232) (_w0 : (Lit.int .i64 t).wf = true) (_w1 : (Lit.int .i64 b).wf = true) (he : IntsV w (ea, en, ec) es) (_t2 : en * 8 ≤ 140737488351232) (_z2 : ∀ z ∈ es, (Lit.int .i64 z).wf = true) :
    Calls Tryd.prog 4 #[.slice va vn vc, .int .i64 t, .int .i64 b, .slice ea en ec] w fun e w' => e = .returned (.bool true) ∧ Below w.heap.size w w' := by
  have HG := Lib.hid hg
  have HVL := Lib.hid (show v.length = vn from hv.length)
  have HEL := Lib.hid (show es.length = en from he.length)
  have HVB := Lib.hid hv.bytes
  have HV := Lib.hid hv
  have HE := Lib.hid he
  have KS := fun a n c a2 n2 c2 W h k (hk : n2 ≤ 1000) g => syms_any a n c v t b a2 n2 c2 es W h k hk g
  have KR := fun a n c a2 n2 c2 W h (hn : n ≤ 100000) k (hk : n2 ≤ 1000) => refSyms_any a n c v t b a2 n2 c2 es W h hn k hk
  have hbl := symbolsR_len v t b es
  rw [HEL.out] at hbl
  obtain ⟨S, hS⟩ : ∃ S, S = symbolsR v t b es := ⟨_, rfl⟩
  simp only [← hS] at KS KR hbl
  obtain ⟨SL, sc⟩ := S
  simp only at hbl
  clear hg hv he hS _w0 _w1 _z2
  go_enter Tryd.func4, Tryd.ntmps4
  go_wp2_with fail
  (with_reducible refine (alive5_any _ HG.out).mono ?_)
  rintro e w1 ⟨rfl, hb1⟩
  by_cases hn1 : vn ≤ 5000
  rotate_left 1
  · go_wp2
    go_ret
    exact ⟨rfl, hb1⟩
  by_cases hn2 : en ≤ 50
  rotate_left 1
  · go_wp2
    go_ret
    exact ⟨rfl, hb1⟩
  go_wp2_with fail
  (with_reducible refine (spare_any va vn vc v _ (HV.out.below hb1) (by omega)).mono ?_)
  rintro e w5 ⟨a5, c5, rfl, o5, b5⟩
  have hsl : (spareB v).length = vn + 8 := by rw [spareB_length, HVL.out]
  rw [hsl] at o5 ⊢
  have h5 := bytesV_of_owns o5 (spareB_bytes HVB.out) (by omega)
  have h5t := h5.takeC (show vn ≤ vn + 8 by omega)
  have hst : (spareB v).take vn = v := by have : (spareB v).take v.length = v := by simp [spareB]
                                          rw [HVL.out] at this; exact this
  rw [hst] at h5t
  have hcap := h5.cap
  simp only at hcap
  have hb5 := hb1.trans (b5.mono hb1.size)
  have H5 := Lib.hid h5
  have H5T := Lib.hid h5t
  have HE5 := Lib.hid (HE.out.below hb5)
  have HG5 := Lib.hid (HG.out.below hb5)
  have HB5 := Lib.hid hb5
  have hc1 : vn ≤ c5 := by omega
  have hc2 : (vn : Int) ≤ (c5 : Int) := by omega
  have hc3 : (0 : Int) ≤ (vn : Int) := by omega
  clear b5 hb1 o5 h5 h5t hst hsl hb5
  go_wp2_with fail
  go_region_held3 (fun w' => True) (exact trivial)
    (first
      | (go_at_call 24; (with_reducible refine (copyInts_rd _ _ _ es _ ?hh (by omega)).mono ?_); (case hh => exact HE5.out.below ⟨rfl, rfl, rfl, Nat.le_refl _, fun _ _ => rfl⟩); rintro e w20 ⟨a20, c20, rfl, o20, d20⟩; have b20 : Below w5.heap.size w5 w20 := ⟨d20.os, d20.tape, d20.output, d20.size, d20.block⟩; have I20 := Lib.hid (intsV_ownQ o20 (by rw [HEL.out]; omega)); rw [HEL.out] at I20 ⊢)
      | (go_at_call 23; (with_reducible refine (KS _ vn c5 a20 en c20 _ ?hv ?he ?hk ?hg).mono ?_); (case hv => exact (H5T.out.below b20).below ⟨rfl, rfl, rfl, Nat.le_refl _, fun _ _ => rfl⟩); (case he => exact I20.out.below ⟨rfl, rfl, rfl, Nat.le_refl _, fun _ _ => rfl⟩); (case hk => omega); (case hg => exact (HG5.out.below b20).below ⟨rfl, rfl, rfl, Nat.le_refl _, fun _ _ => rfl⟩); rintro e w21 ⟨a21, c21, rfl, o21, d21⟩; have b21 : Below w20.heap.size w20 w21 := ⟨d21.os, d21.tape, d21.output, d21.size, d21.block⟩; simp only at o21 ⊢))
  have hb6 := HB5.out.trans ((b20.trans (b21.mono b20.size)).mono HB5.out.size)
  have H6 := Lib.hid o21.sy
  have H5 := Lib.hid (H5.out.below (b20.trans (b21.mono b20.size)))
  clear b20 b21 d20 d21 o20 o21 I20 KS H5T HE5 HG5
  go_wp2_with fail
  (with_reducible refine (KR _ _ _ _ _ _ _ (HV.out.below hb6) (by omega) (HE.out.below hb6) (by omega)).mono ?_)
  rintro e w7 ⟨a7, c7, rfl, o7, b7⟩
  simp only at o7 ⊢
  have hb7 := hb6.trans (b7.mono hb6.size)
  have H5 := Lib.hid (H5.out.below b7)
  have KQ := sameSyms_rd a21 SL.length c21 SL a7 SL.length c7 SL w7 (H6.out.below b7) o7.sy (by omega)
  rw [decide_eq_true rfl] at KQ
  clear b7 hb6 o7 KR H6
  go_wp2_with fail
  (with_reducible refine KQ.mono ?_)
  rintro e w8 ⟨rfl, b8⟩
  have hb8 := hb7.trans (b8.mono hb7.size)
  have H5 := Lib.hid (H5.out.below b8)
  have hbc : (sc == sc) = true := by simp
  clear b8 hb7 KQ
  go_wp2_with fail
  (with_reducible refine (spare_any va vn vc v _ (HV.out.below hb8) (by omega)).mono ?_)
  rintro e w9 ⟨a9, c9, rfl, o9, b9⟩
  have hsl : (spareB v).length = vn + 8 := by rw [spareB_length, HVL.out]
  rw [hsl] at o9 ⊢
  have hb9 := hb8.trans (b9.mono hb8.size)
  have KB := sameBytes_any a5 (vn + 8) c5 (spareB v) a9 (vn + 8) c9 (spareB v) _ (H5.out.below b9) (bytesV_of_owns o9 (spareB_bytes HVB.out) (by omega))
  rw [decide_eq_true rfl] at KB
  clear b9 hb8 o9 H5
  go_wp2_with fail
  (with_reducible refine KB.mono ?_)
  rintro e w10 ⟨rfl, b10⟩
  have hb10 := hb9.trans (b10.mono hb9.size)
  clear b10 hb9 KB
  go_wp2
  go_ret
  exact ⟨rfl, hb10⟩
end Go.Proofs.YtfjcbgfgiidogaaDoor
