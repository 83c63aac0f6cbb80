/-
  pieces copied; RqDecodes.
-/
import Derived.Test.YtkihgidhpggcfaaDoorMRrP
import Derived.Test.YtkihgidhpggcfaaDoorMRrR
namespace Go.Proofs.YtkihgidhpggcfaaDoor
open Go.RowKit

set_option maxRecDepth 100000 in
set_option maxHeartbeats 8000000 in
theorem copyPieces_own (pa : Option Addr) (pn pc : Nat) (ps : List Pc) (w : World) (h : PiV w pa pn ps) (hpn : pn ≤ 1000) :
    Calls Tryd.prog 29 #[.slice pa pn pc] w fun e w' => ∃ a c, e = .returned (.slice a pn c) ∧ OwnP w' w.heap.size a pn c ps ∧ Below w.heap.size w w' := by
  obtain ⟨i0, hpi, hz0, hz1, hz2⟩ := info_parts pinfo
  have HS := Lib.hid h
  have HL := Lib.hid h.len
  have HP : Hid (OwnP (w.alloc (.cells #[] PT)) w.heap.size (some ⟨w.heap.size, 0, none⟩) 0 0 (ps.take 0)) := Lib.hid (OwnP.made (Nat.le_refl _))
  have HB := Lib.hid (below_alloc w (.cells #[] PT))
  clear h
  go_enter Tryd.func29, Tryd.ntmps29
  go_upto_block 0 with fail
  generalize w.alloc (.cells #[] PT) = w2 at HP HB ⊢
  go_wp2_with fail
  go_loopw [3, 4] (fun vp vi wr => ∃ (i : Nat) (av : Option Addr) (cv : Nat), i ≤ pn ∧ vi = .int .i64 (i : Nat) ∧ vp = .slice av i cv ∧ Hid (OwnP wr w.heap.size av i cv (ps.take i)) ∧ Hid (Below w.heap.size w wr)) (fun _ vi _ => (pn - intOf vi).toNat)
  case atStart => exact ⟨0, _, _, Nat.zero_le _, rfl, rfl, HP, HB⟩
  case round =>
    clear HP HB
    obtain ⟨i, av, cv, hi, rfl, rfl, hP, hB⟩ := hrel
    by_cases hlt : i < pn
    · obtain ⟨b, off, z, xa, xn, xc, l, rfl, q0, q1, hpi', hby⟩ := HS.out.at hlt
      have K0 : wr.cell? ⟨b, off + i * 2, none⟩ = some (.int .i64 z) ∧ wr.cell? ⟨b, off + i * 2 + 1, none⟩ = some (.slice xa xn xc) := ⟨cell_below q0 hB.out, cell_below q1 hB.out⟩
      have HQ := Lib.hid (And.intro q0 q1)
      have HBY := Lib.hid hby
      have HLX := Lib.hid (show l.length = xn from hby.length)
      have hxs := hby.small
      simp only at hxs
      have HT := Lib.hid (take_step ps i _ hpi')
      have hs6 := hB.out.size
      have j0' : (0 : Int) ≤ (i : Int) := by omega
      have j1' : (i : Int) < (pn : Int) := by omega
      clear q0 q1 hpi' hby
      go_wp2_with fail
      go_region_held3 (fun w' => w'.cell? ⟨b, off + i * 2, none⟩ = some (.int .i64 z) ∧ w'.cell? ⟨b, off + i * 2 + 1, none⟩ = some (.slice xa xn xc)) (first | exact K0 | exact K7 | exact K8 | exact K9)
        (first
          | (go_at_call 36; (with_reducible refine (copyBytes_any xa xn xc l _ ?hh).mono ?_); (case hh => exact (HBY.out.below hB.out).below ⟨rfl, rfl, rfl, Nat.le_refl _, fun _ _ => rfl⟩); rintro e w7 ⟨a7, c7, rfl, o7, d7⟩; have b7 : Below wr.heap.size wr w7 := ⟨d7.os, d7.tape, d7.output, d7.size, d7.block⟩; have K7 : w7.cell? ⟨b, off + i * 2, none⟩ = some (.int .i64 z) ∧ w7.cell? ⟨b, off + i * 2 + 1, none⟩ = some (.slice xa xn xc) := ⟨cell_below K0.1 b7, cell_below K0.2 b7⟩; have hb8 := (hB.out.trans (b7.mono hs6)).alloc (hB.out.trans (b7.mono hs6)).size (.cells #[.int .i64 z, .slice a7 l.length c7] PT); have K8 := And.intro (cell_below HQ.out.1 hb8) (cell_below HQ.out.2 hb8); have o8 := (ownsRow_base (base' := w.heap.size) o7 hs6).alloc (.cells #[.int .i64 z, .slice a7 l.length c7] PT); obtain ⟨hpl, xs, hxl, hxo, hxs'⟩ := (hP.out.below b7).below (below_alloc w7 (.cells #[.int .i64 z, .slice a7 l.length c7] PT)); have hbs8 := hb8.size; have HXS := Lib.hid hxs'; have HXL := Lib.hid hxl; have HPL := Lib.hid hpl; clear hxs' hxl hpl)
          | (refine step_append_lies _ rfl (.tmp 12) (.tmp 25) 38 rfl w.heap.size PT i0 (.agg #[.int .i64 0, .slice none 0 0]) 2 32 Tryd.underlying38 hpi hz0 hz1 hz2 rfl (by decide) (.slice av i cv) i (pcells xs) (by rfl) hxo ⟨w7.heap.size, 0, none⟩ 1 1 [.int .i64 z, SV (a7, l.length, c7)] (by rfl) (by rfl) (World.news_of_block (heap_alloc_new w7 _)) (by intro u hu; simp at hu; rcases hu with rfl | rfl <;> rfl) (by decide) (by simp [maxLen]; omega) (by omega) hbs8 _ rfl ?_; intro g9 c9 w9 hE9 g9' _ _; have hb9 := below_grown hb8 g9' (fun k e => ownBlock_ge hxo k e); have K9 := And.intro (cell_below HQ.out.1 hb9) (cell_below HQ.out.2 hb9)))
      all_goals
        have hP9 := pc_append (y := (a7, l.length, c7)) (l := l) (e := z) HXL.out HPL.out hxo HXS.out o8 rfl ⟨HBY.out.bytes, by rw [HLX.out]; exact hxs⟩ hE9 g9'
        rw [← HT.out] at hP9
        have HP9 := Lib.hid hP9
        have HB9 := Lib.hid hb9
        clear hxo hE9 g9' hb8 hP9 hb9 d7 b7 o7 o8 K0 K7 K8 K9 hbs8
        go_wp2
        go_roundw
        case rel => exact ⟨i + 1, _, c9, by omega, by go_num, rfl, HP9, HB9⟩
        case measure => simp [intOf] <;> omega
    · obtain rfl : i = pn := by omega
      have hP' := hP.out
      rw [List.take_of_length_le (by rw [HL.out]; exact Nat.le_refl _)] at hP'
      have HP' := Lib.hid hP'
      clear hP' hP
      go_wp2
      go_ret
      exact ⟨av, cv, rfl, HP'.out, hB.out⟩
theorem decodeR_len (k t : Int) (ps : List Pc) : (decodeR k t ps).1.length ≤ 1000 := by
  unfold decodeR
  split
  · rename_i h
    obtain ⟨m, rfl, e, h1, hk⟩ := okK_nat h
    split
    · split
      · split
        · simp
        · split
          · unfold decodeT
            split
            · unfold applyR
              split
              · unfold applyOf
                rw [List.length_map, placesL_length, e]; omega
              · simp
            · simp
          · simp
      · simp
    · simp
  · simp

set_option maxRecDepth 100000 in
set_option maxHeartbeats 8000000 in
theorem rqDecodes_walk (k t : Int) (pa : Option Addr) (pn pc : Nat) (ps : List Pc) (w : World) (hg : Bnd w) (_w0 : (Lit.int .i64 k).wf = true) (_w1 : (Lit.int .i64 t).wf = true) (v2 : PiV w pa pn ps) (_s2 : pn ≤ maxLen) :
    Calls Tryd.prog 5 #[.int .i64 k, .int .i64 t, .slice pa pn pc] w fun e w' => e = .returned (.bool true) ∧ Below w.heap.size w w' := by
  have HG := Lib.hid hg
  have HP := Lib.hid v2
  have HL := Lib.hid v2.len
  clear v2 hg
  go_enter Tryd.func5, Tryd.ntmps5
  go_wp2_with fail
  (with_reducible refine (alive_any _ HG.out).mono ?_)
  rintro e w1 ⟨rfl, hb1⟩
  by_cases hn : pn ≤ 200
  rotate_left 1
  · have hn60 : ¬ pn ≤ 60 := by omega
    have hn129 : ¬ pn < 129 := by omega
    go_wp2
    go_ret
    exact ⟨rfl, hb1⟩
  by_cases hm : 60 < pn ∧ pn < 129
  · obtain ⟨hm1, hm2⟩ := hm
    go_wp2
    go_ret
    exact ⟨rfl, hb1⟩
  have HM := Lib.hid hm
  have KD := fun a n c W h hn g => decode_rd k t a n c ps W h hn g
  have KD2 := fun W h hn => refDecode_rd k t pa pn pc ps W h hn
  have hDl := decodeR_len k t ps
  obtain ⟨D, hD⟩ : ∃ D, D = decodeR k t ps := ⟨_, rfl⟩
  rw [← hD] at hDl
  simp only [← hD] at KD KD2
  obtain ⟨DL, dc⟩ := D
  simp only at hDl
  have HB1 := Lib.hid hb1
  clear hb1 hm hD
  by_cases h60 : pn ≤ 60
  all_goals
    have hn129 : pn < 129 ∨ 129 ≤ pn := by omega
    rcases hn129 with h129 | h129
    all_goals first
      | (exfalso; have := HM.out; omega)
      | skip
    all_goals
      go_wp2_with fail
      (with_reducible refine (copyPieces_own _ _ _ ps _ (HP.out.below HB1.out) (by omega)).mono ?_)
      rintro e w3 ⟨a3, c3, rfl, o3, b3⟩
      have hb3 := HB1.out.trans (b3.mono HB1.out.size)
      have H3 := Lib.hid o3.pi
      clear b3 o3
      go_wp2_with fail
      (with_reducible refine (KD _ _ _ _ H3.out (by omega) (HG.out.below hb3)).mono ?_)
      rintro e w4 ⟨a4, c4, rfl, h4, b4⟩
      simp only at h4 ⊢
      have hb4 := hb3.trans (b4.mono hb3.size)
      have H3 := Lib.hid (H3.out.below b4)
      have H4 := Lib.hid h4
      clear b4 hb3 h4 KD
      go_wp2_with fail
      (with_reducible refine (KD2 _ (HP.out.below hb4) (by omega)).mono ?_)
      rintro e w5 ⟨a5, c5, rfl, h5, b5⟩
      simp only at h5 ⊢
      have hb5 := hb4.trans (b5.mono hb4.size)
      have H3 := Lib.hid (H3.out.below b5)
      have KQ := sameRows_rd a4 DL.length c4 DL a5 DL.length c5 DL w5 (H4.out.below b5) h5 hDl
      rw [decide_eq_true rfl] at KQ
      clear b5 hb4 h5 KD2
      go_wp2_with fail
      (with_reducible refine KQ.mono ?_)
      rintro e w6 ⟨rfl, b6⟩
      have hb6 := hb5.trans (b6.mono hb5.size)
      have KP := samePieces_rd a3 pn c3 ps pa pn pc ps w6 (H3.out.below b6) (HP.out.below hb6) (by omega)
      rw [decide_eq_true rfl] at KP
      clear b6 hb5 KQ
      go_wp2_with fail
      (with_reducible refine KP.mono ?_)
      rintro e w7 ⟨rfl, b7⟩
      have hb7 := hb6.trans (b7.mono hb6.size)
      clear KP b7 hb6
      go_wp2
      go_ret
      exact ⟨rfl, hb7⟩
end Go.Proofs.YtkihgidhpggcfaaDoor
