/-
  rillref02: reduce: Gauss and Jordan over rows of its own: its walk.
-/
import Derived.StillTailTactics
import Derived.Deep.DeepCutAuto
import Derived.Deep.CutBlock
import Derived.Test.YtfjcbgfgiidogaaDoorMLj2
namespace Go.Proofs.YtfjcbgfgiidogaaDoor
open Go.RowKit

set_option maxRecDepth 100000 in
set_option maxHeartbeats 8000000 in
theorem reduce_own (cols L : Nat) (a : Option Addr) (n c0 : Nat) (ls : List (List Nat)) (w : World) (h : RD w a n ls) (hn : n ≤ 1000) (hR : Rws ls L) (hc : cols ≤ L) (hC : cols ≤ 1000) :
    Calls Tryd.prog 99 #[.int .i64 (cols : Int), .slice a n c0] w fun e w' => ∃ a' c' m ρ p, e = .returned (.tuple #[.slice a' n c', .int .i64 ((ρ : Nat) : Int)]) ∧ OwnRs w' w.heap.size a' n c' m ∧ Red L ls m ρ cols p ∧ Below w.heap.size w w' := by
  have HLS := Lib.hid h.1
  have H := Lib.hid h
  have HR := Lib.hid hR
  clear h hR
  go_enter Tryd.func99, Tryd.ntmps99
  go_wp2_with fail
  (with_reducible refine (copyRows_own _ _ _ ls _ H.out (by omega)).mono ?_)
  rintro e w1 ⟨a1, c1, rfl, hO1, hb1⟩
  have HO1 := Lib.hid hO1
  clear hO1
  go_wp2_with fail
  go_loopw [7, 8] (fun vr vc wr => ∃ (ρ c : Nat) (m : List (List Nat)) (p : Nat → Nat), c ≤ cols ∧ vr = .int .i64 (ρ : Nat) ∧ vc = .int .i64 (c : Nat) ∧ OwnRs wr w.heap.size a1 n c1 m ∧ Hid (Red L ls m ρ c p) ∧ Below w.heap.size w wr) (fun _ vc _ => (cols - intOf vc).toNat)
  case atStart => exact ⟨0, 0, ls, fun _ => 0, Nat.zero_le _, rfl, rfl, HO1.out, Lib.hid (red_start HR.out), hb1⟩
  case round =>
    obtain ⟨wo, rfl⟩ : ∃ wo : World, wo = wr := ⟨_, rfl⟩
    obtain ⟨ρ, c, m, p, hcc, rfl, rfl, hO, HRed, hb⟩ := hrel
    have hρn : ρ ≤ n := by have := HRed.out.le; rw [hO.1] at this; exact this
    have HO := Lib.hid hO
    clear hO
    by_cases hlt : c < cols
    · go_wp2_with fail
      go_loop [9] (fun vk => ∃ k : Nat, ρ ≤ k ∧ k ≤ n ∧ vk = .int .i64 (k : Nat) ∧ Hid (∀ i, ρ ≤ i → i < k → (m.getD i []).getD c 0 = 0)) (fun vk => (n - intOf vk).toNat)
      case atStart => exact ⟨ρ, Nat.le_refl _, hρn, rfl, Lib.hid (fun i h1 h2 => absurd h1 (by omega))⟩
      case round =>
        obtain ⟨k, hk, hkn, rfl, HZ⟩ := hrel
        by_cases hk2 : k < n
        · obtain ⟨g, rfl⟩ := HO.out.addr (by omega)
          have HML := Lib.hid (show m.length = n from HO.out.1)
          obtain ⟨l, hl⟩ : ∃ l, m.getD k [] = l := ⟨_, rfl⟩
          have hr1 := rws_at HRed.out.rws (i := k) (by rw [HML.out]; exact hk2)
          rw [hl] at hr1
          obtain ⟨ya, yc, qk, ok, Bk, fk⟩ := HO.out.row hk2 hl hr1.2
          have HL := Lib.hid hl
          have HR1 := Lib.hid hr1
          have HOK := Lib.hid ok
          have HBK := Lib.hid Bk
          obtain ⟨b, off, rfl, qx⟩ := Bk.cellAt c (by omega)
          obtain ⟨x, hx⟩ : ∃ x, l.getD c 0 = x := ⟨_, rfl⟩
          have hx256 : x < 256 := by rw [← hx]; exact hr1.1.getD c
          rw [hx] at qx
          have HX := Lib.hid hx
          have hcL : c < L := by omega
          clear hl hr1 ok Bk hx
          by_cases hx0 : x = 0
          · subst hx0
            go_wp2
            go_round
            case rel => exact ⟨k + 1, by omega, by omega, by go_num, Lib.hid (fun i h1 h2 => (by
              by_cases e : i = k
              · rw [e, HL.out, HX.out]
              · exact HZ.out i h1 (by omega)))⟩
            case measure => simp [intOf] <;> omega
          · have hx0' : ((x : Int) == 0) = false := by rw [beq_eq_false_iff_ne]; omega
            have hkb : ((k : Int) == (n : Int)) = false := by rw [beq_eq_false_iff_ne]; omega
            have hρ2 : ρ < n := by omega
            obtain ⟨l2, hl2⟩ : ∃ l2, m.getD ρ [] = l2 := ⟨_, rfl⟩
            have hr2 := rws_at HRed.out.rws (i := ρ) (by rw [HML.out]; exact hρ2)
            rw [hl2] at hr2
            obtain ⟨za, zc, qρ, oρ, Bρ, fρ⟩ := HO.out.row hρ2 hl2 hr2.2
            have HL2 := Lib.hid hl2
            have HR2 := Lib.hid hr2
            have HOρ := Lib.hid oρ
            clear hl2 hr2 oρ Bρ
            go_wp2_with fail
            have hOs := HO.out.set k (x := (za, L, zc)) (l := l2) (by rw [HR2.out.2]; exact HOρ.out) HR2.out.2.symm ⟨HR2.out.1, (HO.out.rd.mem l2 (by rw [← HL2.out]; exact mem_getD.2 ⟨ρ, by rw [HML.out]; exact hρ2, rfl⟩)).2⟩
            obtain ⟨sa, sc, qs, -, -, fs⟩ := hOs.row hρ2 (l := l2) (by rw [set_getD _ _ _ _ (by rw [HML.out]; exact hk2)]; split; rfl; exact HL2.out) HR2.out.2
            have qs' : (wo.setCell ⟨g, k, none⟩ (.slice za L zc)).cell? ⟨g, ρ, none⟩ = some (.slice sa L sc) := qs
            have fs' : (wo.setCell ⟨g, k, none⟩ (.slice za L zc)).frozen? ⟨g, ρ, none⟩ = false := fs
            clear hOs qs fs
            have hgB := HO.out.ltg'
            have hO2 : OwnRs ((wo.setCell ⟨g, k, none⟩ (.slice za L zc)).setCell ⟨g, ρ, none⟩ (.slice (some ⟨b, off, none⟩) L yc)).drew w.heap.size (some ⟨g, 0, none⟩) n c1 (swapR m k ρ) := (HO.out.swap (k := k) (ρ := ρ) (x := (za, L, zc)) (y := (some ⟨b, off, none⟩, L, yc)) (by rw [HL2.out]; exact HOρ.out) (by rw [HL.out]; exact HOK.out) rfl rfl hk2 hρ2 (by rw [HL2.out]; exact HR2.out.2) (by rw [HL.out]; exact HR1.out.2)).below (Below.drew (Below.refl _ _))
            have hb2 : Below w.heap.size w ((wo.setCell ⟨g, k, none⟩ (.slice za L zc)).setCell ⟨g, ρ, none⟩ (.slice (some ⟨b, off, none⟩) L yc)).drew := ((hb.setCell (p := ⟨g, k, none⟩) hgB _).setCell (p := ⟨g, ρ, none⟩) hgB _).drew
            have HO2 := Lib.hid hO2
            have HB2 := Lib.hid hb2
            clear hO2 hb2
            go_cut [] (fun wx => OwnRs wx w.heap.size (some ⟨g, 0, none⟩) n c1 (swapR m k ρ) ∧ Below w.heap.size w wx)
            case first =>
              go_region_law (fail)
              all_goals
                go_wp2_with fail
                go_meet
                exact ⟨HO2.out, HB2.out⟩
            case rest =>
              obtain ⟨hO2, hb2⟩ := hcut
              clear HO2 HB2 qs' fs' qk fk qx qρ fρ HOρ HOK HBK HO hb HR2
              obtain ⟨m2, hm2⟩ : ∃ m2, m2 = swapR m k ρ := ⟨_, rfl⟩
              rw [← hm2] at hO2
              have hl3 : m2.getD ρ [] = l := by rw [hm2, swapR_getD (by rw [HML.out]; exact hk2) (by rw [HML.out]; exact hρ2), if_pos rfl, HL.out]
              have HM2 := Lib.hid hm2
              have HRW2 : Hid (Rws m2 L) := Lib.hid (by rw [hm2]; exact rws_swap HRed.out.rws (by rw [HML.out]; exact hk2) (by rw [HML.out]; exact hρ2))
              have hsz2 := hb2.size
              obtain ⟨a3, c3, q3, o3, B3, f3⟩ := hO2.row hρ2 hl3 HR1.out.2
              have HL3 := Lib.hid hl3
              have HB3 := Lib.hid B3
              obtain ⟨b3, off3, rfl, qx3⟩ := B3.cellAt c (by omega)
              rw [HX.out] at qx3
              clear hm2 hl3 o3 B3 f3
              go_wp2_with fail
              (with_reducible refine (refInv_pos x _ (by omega) hx256).mono ?_)
              rintro e w3 ⟨rfl, rfl⟩
              go_wp2_with fail
              (with_reducible refine (refScale_any (inv x) _ _ _ l _ (inv_lt x) HB3.out).mono ?_)
              rintro e w4 ⟨a4, c4, rfl, o4, b4⟩
              have hO4 := hO2.below b4
              have hb4 := hb2.trans (b4.mono hsz2)
              have o4' := ownsRow_base (base' := w.heap.size) o4 hsz2
              obtain ⟨a5, c5, q4, -, -, f4⟩ := hO4.row hρ2 HL3.out HR1.out.2
              clear q3 qx3 HB3 o4 b4 hO2 hb2 hsz2
              go_wp2_with fail
              have hO5 := hO4.set ρ (x := (a4, (scaleB (inv x) l).length, c4)) o4' rfl ⟨scaleB_bytes (inv_lt x), by rw [scaleB_length]; exact (hO4.rd.mem l (by rw [← HL3.out]; exact mem_getD.2 ⟨ρ, by rw [hO4.1]; exact hρ2, rfl⟩)).2⟩
              have hO5' : OwnRs (w4.setCell ⟨g, ρ, none⟩ (.slice a4 (scaleB (inv x) l).length c4)) w.heap.size (some ⟨g, 0, none⟩) n c1 (normR m2 ρ c) := by
                unfold normR
                rw [HL3.out, HX.out]
                exact hO5
              have hb5 : Below w.heap.size w (w4.setCell ⟨g, ρ, none⟩ (.slice a4 (scaleB (inv x) l).length c4)) := hb4.setCell (p := ⟨g, ρ, none⟩) hgB _
              generalize w4.setCell ⟨g, ρ, none⟩ (.slice a4 (scaleB (inv x) l).length c4) = w5 at hO5' hb5 ⊢
              clear hO5 hO4 hb4 o4' q4 f4
              obtain ⟨m3, hm3⟩ : ∃ m3, m3 = normR m2 ρ c := ⟨_, rfl⟩
              rw [← hm3] at hO5'
              have HM3 := Lib.hid hm3
              have HL4 : Hid (m3.length = n) := Lib.hid hO5'.1
              have HRW3 : Hid (Rws m3 L) := Lib.hid (by rw [hm3]; exact rws_norm HRW2.out (by rw [HM2.out, swapR_length, HML.out]; exact hρ2))
              have HO5 := Lib.hid hO5'
              clear hO5' hm3
              go_loopw [12] (fun vi wr => ∃ t : Nat, t ≤ n ∧ vi = .int .i64 (t : Nat) ∧ OwnRs wr w.heap.size (some ⟨g, 0, none⟩) n c1 (elimTo ρ c m3 t) ∧ Below w.heap.size w wr) (fun vi _ => (n - intOf vi).toNat)
              case atStart => exact ⟨0, Nat.zero_le _, rfl, HO5.out, hb5⟩
              case round =>
                obtain ⟨t, htn, rfl, hOt, hbt⟩ := hrel
                have HOt := Lib.hid hOt
                clear hOt
                by_cases ht2 : t < n
                · have hgt := HOt.out.ltg'
                  go_upto_block 5 with fail
                  go_cut [] (fun wx => OwnRs wx w.heap.size (some ⟨g, 0, none⟩) n c1 (elimTo ρ c m3 (t + 1)) ∧ Below w.heap.size w wx)
                  case first =>
                    by_cases htρ : t = ρ
                    · have hneq : ((t : Int) != (ρ : Int)) = false := by rw [htρ]; simp
                      have HST : Hid (elimTo ρ c m3 (t + 1) = elimTo ρ c m3 t) := Lib.hid (by simp only [elimTo]; rw [if_pos (.inl htρ)])
                      clear htρ
                      go_wp2_with fail
                      go_meet
                      exact ⟨by rw [HST.out]; exact HOt.out, hbt⟩
                    · have hneq : ((t : Int) != (ρ : Int)) = true := by rw [bne_iff_ne]; omega
                      obtain ⟨lt, hlt'⟩ : ∃ lt, m3.getD t [] = lt := ⟨_, rfl⟩
                      obtain ⟨lρ, hlρ⟩ : ∃ lρ, m3.getD ρ [] = lρ := ⟨_, rfl⟩
                      have e1 : (elimTo ρ c m3 t).getD t [] = lt := by rw [elimTo_getD (by rw [HL4.out]; exact htn), if_neg (by omega), hlt']
                      have e2 : (elimTo ρ c m3 t).getD ρ [] = lρ := by rw [elimTo_getD (by rw [HL4.out]; exact htn), if_neg (fun h => h.2 rfl), hlρ]
                      have r1 := rws_at HRW3.out (i := t) (by rw [HL4.out]; exact ht2)
                      have r2 := rws_at HRW3.out (i := ρ) (by rw [HL4.out]; exact hρ2)
                      rw [hlt'] at r1
                      rw [hlρ] at r2
                      obtain ⟨at1, ct1, qt, ot, Bt, ft⟩ := HOt.out.row ht2 e1 r1.2
                      obtain ⟨aρ, cρ, qq, oq, Bq, fq⟩ := HOt.out.row hρ2 e2 r2.2
                      have HE1 := Lib.hid e1
                      have HE2 := Lib.hid e2
                      have HR3 := Lib.hid r1
                      have HR4 := Lib.hid r2
                      have HBt := Lib.hid Bt
                      have HBq := Lib.hid Bq
                      have HLt := Lib.hid hlt'
                      have HLρ := Lib.hid hlρ
                      obtain ⟨bt, offt, rfl, qxt⟩ := Bt.cellAt c (by omega)
                      obtain ⟨y, hy⟩ : ∃ y, lt.getD c 0 = y := ⟨_, rfl⟩
                      have hy256 : y < 256 := by rw [← hy]; exact r1.1.getD c
                      rw [hy] at qxt
                      have HY := Lib.hid hy
                      clear e1 e2 r1 r2 ot Bt oq Bq fq hlt' hlρ hy
                      by_cases hy0 : y = 0
                      · subst hy0
                        have HST : Hid (elimTo ρ c m3 (t + 1) = elimTo ρ c m3 t) := Lib.hid (by simp only [elimTo]; rw [if_pos (.inr (by rw [HLt.out, HY.out]))])
                        clear htρ
                        go_wp2_with fail
                        go_meet
                        exact ⟨by rw [HST.out]; exact HOt.out, hbt⟩
                      · have hy0' : ((y : Int) != 0) = true := by rw [bne_iff_ne]; omega
                        have HST : Hid (elimTo ρ c m3 (t + 1) = (elimTo ρ c m3 t).set t (addB lt (scaleB y lρ))) := Lib.hid (by
                          simp only [elimTo]
                          rw [if_neg (by rw [HLt.out, HY.out]; exact fun h => h.elim htρ hy0), HLt.out, HLρ.out]
                          unfold elimRow
                          rw [HY.out])
                        clear htρ
                        have hbts := hbt.size
                        have HSM : Hid ((scaleB y lρ).length ≤ 140737488355328) := Lib.hid (by rw [scaleB_length]; exact (HOt.out.rd.mem lρ (by rw [← HE2.out]; exact mem_getD.2 ⟨ρ, by rw [HOt.out.1]; exact hρ2, rfl⟩)).2)
                        go_wp2_with fail
                        go_region_law
                          (first
                            | ((rw [if_pos (by rfl)]); go_simp; (with_reducible refine (refScale_any y _ _ _ lρ _ hy256 ?h1).mono ?_); (case h1 => exact HBq.out.below ⟨rfl, rfl, rfl, Nat.le_refl _, fun _ _ => rfl⟩); rintro e w20 ⟨a20, c20, rfl, o20, d20⟩; have b20 : Below wr.heap.size wr w20 := ⟨d20.os, d20.tape, d20.output, d20.size, d20.block⟩; obtain ⟨a21, c21, -, -, -, f21⟩ := (OwnRs.below HOt.out b20).row ht2 HE1.out HR3.out.2; have q21 := cell_below qt b20; have HX20 := Lib.hid (bytesV_of_owns o20 (scaleB_bytes hy256) HSM.out); have HB20 := Lib.hid (HBt.out.below b20); dsimp only)
                            | ((rw [if_pos (by rfl)]); go_simp; (with_reducible refine (refAdd_any _ _ _ lt _ _ _ (scaleB y lρ) _ ?h1 ?h2).mono ?_); (case h1 => exact HB20.out.below ⟨rfl, rfl, rfl, Nat.le_refl _, fun _ _ => rfl⟩); (case h2 => exact HX20.out.below ⟨rfl, rfl, rfl, Nat.le_refl _, fun _ _ => rfl⟩); rintro e w22 ⟨a22, c22, rfl, o22, d22⟩; have b22 : Below w20.heap.size w20 w22 := ⟨d22.os, d22.tape, d22.output, d22.size, d22.block⟩; obtain ⟨a23, c23, q23, -, -, f23⟩ := (OwnRs.below (OwnRs.below HOt.out b20) b22).row ht2 HE1.out HR3.out.2; dsimp only))
                        all_goals
                          have b02 := b20.trans (b22.mono b20.size)
                          have hO6 := (HOt.out.below b02).set t (x := (a22, (addB lt (scaleB y lρ)).length, c22)) (ownsRow_base (base' := w.heap.size) o22 (by have := b20.size; omega)) rfl ⟨addB_bytes HR3.out.1 (scaleB_bytes hy256), by rw [addB_length]; have := HSM.out; have := (HOt.out.rd.mem lt (by rw [← HE1.out]; exact mem_getD.2 ⟨t, by rw [HOt.out.1]; exact ht2, rfl⟩)).2; omega⟩
                          rw [← HST.out] at hO6
                          have hO7 : OwnRs (w22.setCell ⟨g, t, none⟩ (.slice a22 (addB lt (scaleB y lρ)).length c22)) w.heap.size (some ⟨g, 0, none⟩) n c1 (elimTo ρ c m3 (t + 1)) := hO6
                          have hb7 : Below w.heap.size w (w22.setCell ⟨g, t, none⟩ (.slice a22 (addB lt (scaleB y lρ)).length c22)) := (hbt.trans (b02.mono hbts)).setCell (p := ⟨g, t, none⟩) hgt _
                          have hO8 := hO7.below (Below.drew (Below.refl _ _))
                          have HO7 := Lib.hid hO7
                          have HO8 := Lib.hid hO8
                          have HB7 := Lib.hid hb7
                          clear hO6 hO7 hb7 hO8 b02 b20 b22 d20 d22 o20 o22 HX20 HB20
                          go_wp2_with fail
                          go_meet
                          first
                            | exact ⟨HO7.out, HB7.out⟩
                            | exact ⟨HO8.out, HB7.out.drew⟩
                  case rest =>
                    obtain ⟨hO9, hb9⟩ := hcut
                    go_wp2
                    go_roundw
                    case rel => first | exact ⟨t + 1, by omega, by go_num, hO9, hb9⟩ | ((repeat apply Exists.intro); exact ⟨⟨t + 1, by omega, by go_num, hO9, hb9⟩, rfl⟩)
                    case measure => simp [intOf] <;> omega
                · obtain rfl : t = n := by omega
                  have HPV : Hid (elimTo ρ c m3 t = pivTo m k ρ c) := Lib.hid (by rw [HM3.out, HM2.out]; unfold pivTo; rw [HML.out])
                  go_wp2
                  go_roundw
                  case rel => exact ⟨ρ + 1, c + 1, pivTo m k ρ c, _, by omega, by go_num, by go_num, by rw [← HPV.out]; exact HOt.out, Lib.hid (HRed.out.pivot hk (by rw [HML.out]; exact hk2) (by rw [HL.out, HX.out]; exact hx0) hcL), hbt⟩
                  case measure => simp [intOf] <;> omega
        · obtain rfl : k = n := by omega
          go_wp2
          go_roundw
          case rel => exact ⟨ρ, c + 1, m, p, by omega, rfl, by go_num, HO.out, Lib.hid (HRed.out.skip (fun i h1 h2 => HZ.out i h1 (by rw [← HO.out.1]; exact h2))), hb⟩
          case measure => simp [intOf] <;> omega
    · obtain rfl : c = cols := by omega
      go_wp2
      go_ret2
      exact ⟨a1, c1, m, ρ, p, rfl, HO.out, HRed.out, hb⟩
end Go.Proofs.YtfjcbgfgiidogaaDoor
