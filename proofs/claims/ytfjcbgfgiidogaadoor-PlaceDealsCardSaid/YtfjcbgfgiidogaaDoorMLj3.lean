/-
  Lj3: LjI LjJ
-/
import Derived.StillTailTactics
import Derived.Deep.DeepCutAuto
import Derived.Deep.CutBlock
import Derived.Test.YtfjcbgfgiidogaaDoorMLj2
namespace Go.Proofs.YtfjcbgfgiidogaaDoor
open Go.RowKit

set_option maxRecDepth 100000 in
set_option maxHeartbeats 8000000 in
theorem reduce_own (cols L : Nat) (a : Option Addr) (n c0 : Nat) (ls : List (List Nat)) (w : World) (h : RD w a n ls) (hn : n ≤ 1000) (hR : Rws ls L) (hc : cols ≤ L) (hC : cols ≤ 1000) :
    Calls Tryd.prog 99 #[.int .i64 (cols : Int), .slice a n c0] w fun e w' => ∃ a' c' m ρ p, e = .returned (.tuple #[.slice a' n c', .int .i64 ((ρ : Nat) : Int)]) ∧ OwnRs w' w.heap.size a' n c' m ∧ Red L ls m ρ cols p ∧ Below w.heap.size w w' := by
  have HLS := Lib.hid h.1
  have H := Lib.hid h
  have HR := Lib.hid hR
  clear h hR
  go_enter Tryd.func99, Tryd.ntmps99
  go_wp2_with fail
  (with_reducible refine (copyRows_own _ _ _ ls _ H.out (by omega)).mono ?_)
  rintro e w1 ⟨a1, c1, rfl, hO1, hb1⟩
  have HO1 := Lib.hid hO1
  clear hO1
  go_wp2_with fail
  go_loopw [7, 8] (fun vr vc wr => ∃ (ρ c : Nat) (m : List (List Nat)) (p : Nat → Nat), c ≤ cols ∧ vr = .int .i64 (ρ : Nat) ∧ vc = .int .i64 (c : Nat) ∧ OwnRs wr w.heap.size a1 n c1 m ∧ Hid (Red L ls m ρ c p) ∧ Below w.heap.size w wr) (fun _ vc _ => (cols - intOf vc).toNat)
  case atStart => exact ⟨0, 0, ls, fun _ => 0, Nat.zero_le _, rfl, rfl, HO1.out, Lib.hid (red_start HR.out), hb1⟩
  case round =>
    obtain ⟨wo, rfl⟩ : ∃ wo : World, wo = wr := ⟨_, rfl⟩
    obtain ⟨ρ, c, m, p, hcc, rfl, rfl, hO, HRed, hb⟩ := hrel
    have hρn : ρ ≤ n := by have := HRed.out.le; rw [hO.1] at this; exact this
    have HO := Lib.hid hO
    clear hO
    by_cases hlt : c < cols
    · go_wp2_with fail
      go_loop [9] (fun vk => ∃ k : Nat, ρ ≤ k ∧ k ≤ n ∧ vk = .int .i64 (k : Nat) ∧ Hid (∀ i, ρ ≤ i → i < k → (m.getD i []).getD c 0 = 0)) (fun vk => (n - intOf vk).toNat)
      case atStart => exact ⟨ρ, Nat.le_refl _, hρn, rfl, Lib.hid (fun i h1 h2 => absurd h1 (by omega))⟩
      case round =>
        obtain ⟨k, hk, hkn, rfl, HZ⟩ := hrel
        by_cases hk2 : k < n
        · obtain ⟨g, rfl⟩ := HO.out.addr (by omega)
          have HML := Lib.hid (show m.length = n from HO.out.1)
          obtain ⟨l, hl⟩ : ∃ l, m.getD k [] = l := ⟨_, rfl⟩
          have hr1 := rws_at HRed.out.rws (i := k) (by rw [HML.out]; exact hk2)
          rw [hl] at hr1
          obtain ⟨ya, yc, qk, ok, Bk, fk⟩ := HO.out.row hk2 hl hr1.2
          have HL := Lib.hid hl
          have HR1 := Lib.hid hr1
          have HOK := Lib.hid ok
          have HBK := Lib.hid Bk
          obtain ⟨b, off, rfl, qx⟩ := Bk.cellAt c (by omega)
          obtain ⟨x, hx⟩ : ∃ x, l.getD c 0 = x := ⟨_, rfl⟩
          have hx256 : x < 256 := by rw [← hx]; exact hr1.1.getD c
          rw [hx] at qx
          have HX := Lib.hid hx
          have hcL : c < L := by omega
          clear hl hr1 ok Bk hx
          by_cases hx0 : x = 0
          · subst hx0
            go_wp2
            go_round
            case rel => exact ⟨k + 1, by omega, by omega, by go_num, Lib.hid (fun i h1 h2 => (by
              by_cases e : i = k
              · rw [e, HL.out, HX.out]
              · exact HZ.out i h1 (by omega)))⟩
            case measure => simp [intOf] <;> omega
          · have hx0' : ((x : Int) == 0) = false := by rw [beq_eq_false_iff_ne]; omega
            have hkb : ((k : Int) == (n : Int)) = false := by rw [beq_eq_false_iff_ne]; omega
            have hρ2 : ρ < n := by omega
            obtain ⟨l2, hl2⟩ : ∃ l2, m.getD ρ [] = l2 := ⟨_, rfl⟩
            have hr2 := rws_at HRed.out.rws (i := ρ) (by rw [HML.out]; exact hρ2)
            rw [hl2] at hr2
            obtain ⟨za, zc, qρ, oρ, Bρ, fρ⟩ := HO.out.row hρ2 hl2 hr2.2
            have HL2 := Lib.hid hl2
            have HR2 := Lib.hid hr2
            have HOρ := Lib.hid oρ
            clear hl2 hr2 oρ Bρ
            go_wp2_with fail
            have hOs := HO.out.set k (x := (za, L, zc)) (l := l2) (by rw [HR2.out.2]; exact HOρ.out) HR2.out.2.symm ⟨HR2.out.1, (HO.out.rd.mem l2 (by rw [← HL2.out]; exact mem_getD.2 ⟨ρ, by rw [HML.out]; exact hρ2, rfl⟩)).2⟩
            obtain ⟨sa, sc, qs, -, -, fs⟩ := hOs.row hρ2 (l := l2) (by rw [set_getD _ _ _ _ (by rw [HML.out]; exact hk2)]; split; rfl; exact HL2.out) HR2.out.2
            have qs' : (wo.setCell ⟨g, k, none⟩ (.slice za L zc)).cell? ⟨g, ρ, none⟩ = some (.slice sa L sc) := qs
            have fs' : (wo.setCell ⟨g, k, none⟩ (.slice za L zc)).frozen? ⟨g, ρ, none⟩ = false := fs
            clear hOs qs fs
            have hgB := HO.out.ltg'
            have hO2 : OwnRs ((wo.setCell ⟨g, k, none⟩ (.slice za L zc)).setCell ⟨g, ρ, none⟩ (.slice (some ⟨b, off, none⟩) L yc)).drew w.heap.size (some ⟨g, 0, none⟩) n c1 (swapR m k ρ) := (HO.out.swap (k := k) (ρ := ρ) (x := (za, L, zc)) (y := (some ⟨b, off, none⟩, L, yc)) (by rw [HL2.out]; exact HOρ.out) (by rw [HL.out]; exact HOK.out) rfl rfl hk2 hρ2 (by rw [HL2.out]; exact HR2.out.2) (by rw [HL.out]; exact HR1.out.2)).below (Below.drew (Below.refl _ _))
            have hb2 : Below w.heap.size w ((wo.setCell ⟨g, k, none⟩ (.slice za L zc)).setCell ⟨g, ρ, none⟩ (.slice (some ⟨b, off, none⟩) L yc)).drew := ((hb.setCell (p := ⟨g, k, none⟩) hgB _).setCell (p := ⟨g, ρ, none⟩) hgB _).drew
            have HO2 := Lib.hid hO2
            have HB2 := Lib.hid hb2
            clear hO2 hb2
            go_cut [] (fun wx => OwnRs wx w.heap.size (some ⟨g, 0, none⟩) n c1 (swapR m k ρ) ∧ Below w.heap.size w wx)
            case first =>
              go_region_law (fail)
              all_goals
                go_wp2_with fail
                go_meet
                exact ⟨HO2.out, HB2.out⟩
            case rest =>
              obtain ⟨hO2, hb2⟩ := hcut
              clear HO2 HB2 qs' fs' qk fk qx qρ fρ HOρ HOK HBK HO hb HR2
              obtain ⟨m2, hm2⟩ : ∃ m2, m2 = swapR m k ρ := ⟨_, rfl⟩
              rw [← hm2] at hO2
              have hl3 : m2.getD ρ [] = l := by rw [hm2, swapR_getD (by rw [HML.out]; exact hk2) (by rw [HML.out]; exact hρ2), if_pos rfl, HL.out]
              have HM2 := Lib.hid hm2
              have HRW2 : Hid (Rws m2 L) := Lib.hid (by rw [hm2]; exact rws_swap HRed.out.rws (by rw [HML.out]; exact hk2) (by rw [HML.out]; exact hρ2))
              have hsz2 := hb2.size
              obtain ⟨a3, c3, q3, o3, B3, f3⟩ := hO2.row hρ2 hl3 HR1.out.2
              have HL3 := Lib.hid hl3
              have HB3 := Lib.hid B3
              obtain ⟨b3, off3, rfl, qx3⟩ := B3.cellAt c (by omega)
              rw [HX.out] at qx3
              clear hm2 hl3 o3 B3 f3
              go_wp2_with fail
              (with_reducible refine (refInv_pos x _ (by omega) hx256).mono ?_)
              rintro e w3 ⟨rfl, rfl⟩
              go_wp2_with fail
              (with_reducible refine (refScale_any (inv x) _ _ _ l _ (inv_lt x) HB3.out).mono ?_)
              rintro e w4 ⟨a4, c4, rfl, o4, b4⟩
              have hO4 := hO2.below b4
              have hb4 := hb2.trans (b4.mono hsz2)
              have o4' := ownsRow_base (base' := w.heap.size) o4 hsz2
              obtain ⟨a5, c5, q4, -, -, f4⟩ := hO4.row hρ2 HL3.out HR1.out.2
              clear q3 qx3 HB3 o4 b4 hO2 hb2 hsz2
              go_wp2_with fail
              have hO5 := hO4.set ρ (x := (a4, (scaleB (inv x) l).length, c4)) o4' rfl ⟨scaleB_bytes (inv_lt x), by rw [scaleB_length]; exact (hO4.rd.mem l (by rw [← HL3.out]; exact mem_getD.2 ⟨ρ, by rw [hO4.1]; exact hρ2, rfl⟩)).2⟩
              have hO5' : OwnRs (w4.setCell ⟨g, ρ, none⟩ (.slice a4 (scaleB (inv x) l).length c4)) w.heap.size (some ⟨g, 0, none⟩) n c1 (normR m2 ρ c) := by
                unfold normR
                rw [HL3.out, HX.out]
                exact hO5
              have hb5 : Below w.heap.size w (w4.setCell ⟨g, ρ, none⟩ (.slice a4 (scaleB (inv x) l).length c4)) := hb4.setCell (p := ⟨g, ρ, none⟩) hgB _
              generalize w4.setCell ⟨g, ρ, none⟩ (.slice a4 (scaleB (inv x) l).length c4) = w5 at hO5' hb5 ⊢
              clear hO5 hO4 hb4 o4' q4 f4
              obtain ⟨m3, hm3⟩ : ∃ m3, m3 = normR m2 ρ c := ⟨_, rfl⟩
              rw [← hm3] at hO5'
              have HM3 := Lib.hid hm3
              have HL4 : Hid (m3.length = n) := Lib.hid hO5'.1
              have HRW3 : Hid (Rws m3 L) := Lib.hid (by rw [hm3]; exact rws_norm HRW2.out (by rw [HM2.out, swapR_length, HML.out]; exact hρ2))
              have HO5 := Lib.hid hO5'
              clear hO5' hm3
              go_loopw [12] (fun vi wr => ∃ t : Nat, t ≤ n ∧ vi = .int .i64 (t : Nat) ∧ OwnRs wr w.heap.size (some ⟨g, 0, none⟩) n c1 (elimTo ρ c m3 t) ∧ Below w.heap.size w wr) (fun vi _ => (n - intOf vi).toNat)
              case atStart => exact ⟨0, Nat.zero_le _, rfl, HO5.out, hb5⟩
              case round =>
                obtain ⟨t, htn, rfl, hOt, hbt⟩ := hrel
                have HOt := Lib.hid hOt
                clear hOt
                by_cases ht2 : t < n
                · have hgt := HOt.out.ltg'
                  go_upto_block 5 with fail
                  go_cut [] (fun wx => OwnRs wx w.heap.size (some ⟨g, 0, none⟩) n c1 (elimTo ρ c m3 (t + 1)) ∧ Below w.heap.size w wx)
                  case first =>
                    by_cases htρ : t = ρ
                    · have hneq : ((t : Int) != (ρ : Int)) = false := by rw [htρ]; simp
                      have HST : Hid (elimTo ρ c m3 (t + 1) = elimTo ρ c m3 t) := Lib.hid (by simp only [elimTo]; rw [if_pos (.inl htρ)])
                      clear htρ
                      go_wp2_with fail
                      go_meet
                      exact ⟨by rw [HST.out]; exact HOt.out, hbt⟩
                    · have hneq : ((t : Int) != (ρ : Int)) = true := by rw [bne_iff_ne]; omega
                      obtain ⟨lt, hlt'⟩ : ∃ lt, m3.getD t [] = lt := ⟨_, rfl⟩
                      obtain ⟨lρ, hlρ⟩ : ∃ lρ, m3.getD ρ [] = lρ := ⟨_, rfl⟩
                      have e1 : (elimTo ρ c m3 t).getD t [] = lt := by rw [elimTo_getD (by rw [HL4.out]; exact htn), if_neg (by omega), hlt']
                      have e2 : (elimTo ρ c m3 t).getD ρ [] = lρ := by rw [elimTo_getD (by rw [HL4.out]; exact htn), if_neg (fun h => h.2 rfl), hlρ]
                      have r1 := rws_at HRW3.out (i := t) (by rw [HL4.out]; exact ht2)
                      have r2 := rws_at HRW3.out (i := ρ) (by rw [HL4.out]; exact hρ2)
                      rw [hlt'] at r1
                      rw [hlρ] at r2
                      obtain ⟨at1, ct1, qt, ot, Bt, ft⟩ := HOt.out.row ht2 e1 r1.2
                      obtain ⟨aρ, cρ, qq, oq, Bq, fq⟩ := HOt.out.row hρ2 e2 r2.2
                      have HE1 := Lib.hid e1
                      have HE2 := Lib.hid e2
                      have HR3 := Lib.hid r1
                      have HR4 := Lib.hid r2
                      have HBt := Lib.hid Bt
                      have HBq := Lib.hid Bq
                      have HLt := Lib.hid hlt'
                      have HLρ := Lib.hid hlρ
                      obtain ⟨bt, offt, rfl, qxt⟩ := Bt.cellAt c (by omega)
                      obtain ⟨y, hy⟩ : ∃ y, lt.getD c 0 = y := ⟨_, rfl⟩
                      have hy256 : y < 256 := by rw [← hy]; exact r1.1.getD c
                      rw [hy] at qxt
                      have HY := Lib.hid hy
                      clear e1 e2 r1 r2 ot Bt oq Bq fq hlt' hlρ hy
                      by_cases hy0 : y = 0
                      · subst hy0
                        have HST : Hid (elimTo ρ c m3 (t + 1) = elimTo ρ c m3 t) := Lib.hid (by simp only [elimTo]; rw [if_pos (.inr (by rw [HLt.out, HY.out]))])
                        clear htρ
                        go_wp2_with fail
                        go_meet
                        exact ⟨by rw [HST.out]; exact HOt.out, hbt⟩
                      · have hy0' : ((y : Int) != 0) = true := by rw [bne_iff_ne]; omega
                        have HST : Hid (elimTo ρ c m3 (t + 1) = (elimTo ρ c m3 t).set t (addB lt (scaleB y lρ))) := Lib.hid (by
                          simp only [elimTo]
                          rw [if_neg (by rw [HLt.out, HY.out]; exact fun h => h.elim htρ hy0), HLt.out, HLρ.out]
                          unfold elimRow
                          rw [HY.out])
                        clear htρ
                        have hbts := hbt.size
                        have HSM : Hid ((scaleB y lρ).length ≤ 140737488355328) := Lib.hid (by rw [scaleB_length]; exact (HOt.out.rd.mem lρ (by rw [← HE2.out]; exact mem_getD.2 ⟨ρ, by rw [HOt.out.1]; exact hρ2, rfl⟩)).2)
                        go_wp2_with fail
                        go_region_law
                          (first
                            | ((rw [if_pos (by rfl)]); go_simp; (with_reducible refine (refScale_any y _ _ _ lρ _ hy256 ?h1).mono ?_); (case h1 => exact HBq.out.below ⟨rfl, rfl, rfl, Nat.le_refl _, fun _ _ => rfl⟩); rintro e w20 ⟨a20, c20, rfl, o20, d20⟩; have b20 : Below wr.heap.size wr w20 := ⟨d20.os, d20.tape, d20.output, d20.size, d20.block⟩; obtain ⟨a21, c21, -, -, -, f21⟩ := (OwnRs.below HOt.out b20).row ht2 HE1.out HR3.out.2; have q21 := cell_below qt b20; have HX20 := Lib.hid (bytesV_of_owns o20 (scaleB_bytes hy256) HSM.out); have HB20 := Lib.hid (HBt.out.below b20); dsimp only)
                            | ((rw [if_pos (by rfl)]); go_simp; (with_reducible refine (refAdd_any _ _ _ lt _ _ _ (scaleB y lρ) _ ?h1 ?h2).mono ?_); (case h1 => exact HB20.out.below ⟨rfl, rfl, rfl, Nat.le_refl _, fun _ _ => rfl⟩); (case h2 => exact HX20.out.below ⟨rfl, rfl, rfl, Nat.le_refl _, fun _ _ => rfl⟩); rintro e w22 ⟨a22, c22, rfl, o22, d22⟩; have b22 : Below w20.heap.size w20 w22 := ⟨d22.os, d22.tape, d22.output, d22.size, d22.block⟩; obtain ⟨a23, c23, q23, -, -, f23⟩ := (OwnRs.below (OwnRs.below HOt.out b20) b22).row ht2 HE1.out HR3.out.2; dsimp only))
                        all_goals
                          have b02 := b20.trans (b22.mono b20.size)
                          have hO6 := (HOt.out.below b02).set t (x := (a22, (addB lt (scaleB y lρ)).length, c22)) (ownsRow_base (base' := w.heap.size) o22 (by have := b20.size; omega)) rfl ⟨addB_bytes HR3.out.1 (scaleB_bytes hy256), by rw [addB_length]; have := HSM.out; have := (HOt.out.rd.mem lt (by rw [← HE1.out]; exact mem_getD.2 ⟨t, by rw [HOt.out.1]; exact ht2, rfl⟩)).2; omega⟩
                          rw [← HST.out] at hO6
                          have hO7 : OwnRs (w22.setCell ⟨g, t, none⟩ (.slice a22 (addB lt (scaleB y lρ)).length c22)) w.heap.size (some ⟨g, 0, none⟩) n c1 (elimTo ρ c m3 (t + 1)) := hO6
                          have hb7 : Below w.heap.size w (w22.setCell ⟨g, t, none⟩ (.slice a22 (addB lt (scaleB y lρ)).length c22)) := (hbt.trans (b02.mono hbts)).setCell (p := ⟨g, t, none⟩) hgt _
                          have hO8 := hO7.below (Below.drew (Below.refl _ _))
                          have HO7 := Lib.hid hO7
                          have HO8 := Lib.hid hO8
                          have HB7 := Lib.hid hb7
                          clear hO6 hO7 hb7 hO8 b02 b20 b22 d20 d22 o20 o22 HX20 HB20
                          go_wp2_with fail
                          go_meet
                          first
                            | exact ⟨HO7.out, HB7.out⟩
                            | exact ⟨HO8.out, HB7.out.drew⟩
                  case rest =>
                    obtain ⟨hO9, hb9⟩ := hcut
                    go_wp2
                    go_roundw
                    case rel => first | exact ⟨t + 1, by omega, by go_num, hO9, hb9⟩ | ((repeat apply Exists.intro); exact ⟨⟨t + 1, by omega, by go_num, hO9, hb9⟩, rfl⟩)
                    case measure => simp [intOf] <;> omega
                · obtain rfl : t = n := by omega
                  have HPV : Hid (elimTo ρ c m3 t = pivTo m k ρ c) := Lib.hid (by rw [HM3.out, HM2.out]; unfold pivTo; rw [HML.out])
                  go_wp2
                  go_roundw
                  case rel => exact ⟨ρ + 1, c + 1, pivTo m k ρ c, _, by omega, by go_num, by go_num, by rw [← HPV.out]; exact HOt.out, Lib.hid (HRed.out.pivot hk (by rw [HML.out]; exact hk2) (by rw [HL.out, HX.out]; exact hx0) hcL), hbt⟩
                  case measure => simp [intOf] <;> omega
        · obtain rfl : k = n := by omega
          go_wp2
          go_roundw
          case rel => exact ⟨ρ, c + 1, m, p, by omega, rfl, by go_num, HO.out, Lib.hid (HRed.out.skip (fun i h1 h2 => HZ.out i h1 (by rw [← HO.out.1]; exact h2))), hb⟩
          case measure => simp [intOf] <;> omega
    · obtain rfl : c = cols := by omega
      go_wp2
      go_ret2
      exact ⟨a1, c1, m, ρ, p, rfl, HO.out, HRed.out, hb⟩
end Go.Proofs.YtfjcbgfgiidogaaDoor
namespace Go.Proofs.YtfjcbgfgiidogaaDoor
open Go.RowKit

set_option maxRecDepth 100000 in
set_option maxHeartbeats 2000000 in
theorem refRank_rd (cols : Int) (a : Option Addr) (n c : Nat) (rows : List (List Nat)) (w : World) (h : RD w a n rows) (hn : n ≤ 1000) :
    Calls Tryd.prog 74 #[.int .i64 cols, .slice a n c] w fun e w' => e = .returned (.tuple #[.int .i64 ((rankR cols rows).1 : Int), .int .i64 (rankR cols rows).2]) ∧ Below w.heap.size w w' := by
  have KR := refRight_rd cols a n c rows w h hn
  unfold rankR
  by_cases hB : rightB cols rows = true
  · rw [if_pos hB]
    obtain ⟨k1, k2, k3, -, -⟩ := right_rws hB h.mem
    have hc := right_pos hB
    rw [hB] at KR
    generalize cols.toNat = k at hc k1 k2 k3 ⊢
    subst hc
    have KD := reduce_own k k a n c rows w h hn k1 (Nat.le_refl _) (by omega)
    have HRW := Lib.hid k1
    clear k1 hB h
    go_enter Tryd.func74, Tryd.ntmps74
    go_wp2_with fail
    (with_reducible refine KR.mono ?_)
    rintro x w1 ⟨rfl, rfl⟩
    go_wp2_with fail
    (with_reducible refine KD.mono ?_)
    rintro x w2 ⟨a', c', m, ρ, p, rfl, -, hRed, b2⟩
    have hr := Lib.hid (hRed.rank HRW.out)
    clear hRed
    go_wp2
    go_ret2
    rw [hr.out]
    exact ⟨rfl, b2⟩
  · rw [if_neg hB]
    have hB' : rightB cols rows = false := by simpa using hB
    rw [hB'] at KR
    clear h hB hB'
    go_enter Tryd.func74, Tryd.ntmps74
    go_wp2_with fail
    (with_reducible refine KR.mono ?_)
    rintro x w1 ⟨rfl, rfl⟩
    go_wp2
    go_ret2
    exact ⟨rfl, Below.refl _ _⟩

theorem augs_length (rows vs : List (List Nat)) (h : vs.length = rows.length) : (augs rows vs).length = rows.length := by
  unfold augs; rw [List.length_zipWith, h, Nat.min_self]
theorem augs_step {rows vs : List (List Nat)} {k : Nat} {r v : List Nat} (h : rows[k]? = some r) (h2 : vs[k]? = some v) : (augs rows vs).take (k + 1) = (augs rows vs).take k ++ [r ++ v] := by
  apply take_step
  unfold augs
  rw [List.getElem?_zipWith, h, h2]
theorem augs_rws {cols wid : Nat} {rows vs : List (List Nat)} (hr : Rws rows cols) (hv : Rws vs wid) : Rws (augs rows vs) (cols + wid) := fun a ha => by
  obtain ⟨i, r, v, h1, h2, rfl⟩ := mem_augs.1 ha
  have a1 := hr _ (List.mem_of_getElem? h1)
  have a2 := hv _ (List.mem_of_getElem? h2)
  exact ⟨bytes_app a1.1 a2.1, by rw [List.length_append, a1.2, a2.2]⟩
theorem bytesV_nil0 (w : World) (a : Option Addr) (ha : a ≠ none) : BytesV w (a, 0, 0) [] := ⟨⟨rfl, fun h => absurd h (Nat.lt_irrefl _)⟩, fun x h => by simp at h, Nat.zero_le _, Nat.le_refl _, fun e => absurd e ha⟩
theorem BytesV.dropped {w : World} {b off n c k : Nat} {l : List Nat} (h : BytesV w (some ⟨b, off, none⟩, n, c) l) (hk : k ≤ n) : BytesV w (some ⟨b, off + k, none⟩, n - k, c - k) (l.drop k) := by
  have hl := h.length
  have hc := h.cap
  have hs := h.small
  simp only at hl hc hs
  refine ⟨⟨by simp [hl], fun h0 => ⟨b, off + k, rfl, fun i hi => ?_⟩⟩, fun x hx => h.bytes x (List.mem_of_mem_drop hx), by show n - k ≤ _; omega, by show n - k ≤ c - k; omega, fun e => by cases e⟩
  have h0' : 0 < n - k := h0
  have hi' : i < n - k := hi
  obtain ⟨b', off', e, q⟩ := h.row.2 (show 0 < n by omega)
  injection e with e
  injection e with e1 e2
  subst e1 e2
  have q2 := q (k + i) (show k + i < n by omega)
  rw [← Nat.add_assoc] at q2
  rw [q2, List.getElem?_map, List.getElem?_map, List.getElem?_drop]
theorem drops_step {m : List (List Nat)} {k i : Nat} (hi : i < k) (hm : i < m.length) : ((m.take k).map (List.drop k)).take (i + 1) = ((m.take k).map (List.drop k)).take i ++ [(m.getD i []).drop k] := by
  apply take_step
  rw [List.getElem?_map, List.getElem?_take, if_pos hi, List.getD_eq_getElem?_getD, List.getElem?_eq_getElem hm]
  rfl
theorem restB_false {m : List (List Nat)} {k : Nat} (h : ∀ i j, k ≤ i → i < m.length → (m.getD i []).getD j 0 = 0) : restB m k = false := by
  cases e : restB m k with
  | false => rfl
  | true =>
    obtain ⟨i, j, h1, h2, h3, h4⟩ := restB_true e
    exact absurd (h i j h1 h2) h4

set_option maxRecDepth 100000 in
set_option maxHeartbeats 8000000 in
theorem refSolve_rd (cols : Int) (ar : Option Addr) (nr cr : Nat) (rows : List (List Nat)) (ax : Option Addr) (nx cx : Nat) (vs : List (List Nat)) (w : World) (h : RD w ar nr rows) (k : RD w ax nx vs) (hn : nr ≤ 1000) (hx : nx ≤ 1000) (hw : rightB cols rows = true → widthB vs ≤ 100000) :
    Calls Tryd.prog 92 #[.int .i64 cols, .slice ar nr cr, .slice ax nx cx] w (GivesR w (solveR cols rows vs)) := by
  obtain ⟨i0, hi, hz0, hz1, hz2⟩ := info_parts Tryd.info22
  obtain ⟨j0, hj, hy0, hy1, hy2⟩ := info_parts Tryd.info5
  have HR := Lib.hid h
  have HX := Lib.hid k
  have HER := Lib.hid h.1
  have HEX := Lib.hid k.1
  have HMX := Lib.hid k.mem
  have HMR := Lib.hid h.mem
  have KR := refRight_rd cols ar nr cr rows w h hn
  have KE := refEven_rd ax nx cx vs w k hx
  clear h k
  by_cases hB : solveOK cols rows vs = true
  rotate_left 1
  · have e0 : solveR cols rows vs = ([], 20) := by unfold solveR; rw [if_neg hB]
    rw [e0]
    clear e0 hw
    by_cases h1 : rightB cols rows = true
    rotate_left 1
    · have h1' : rightB cols rows = false := by simpa using h1
      rw [h1'] at KR
      clear h1 h1' hB KE
      go_enter Tryd.func92, Tryd.ntmps92
      go_wp2_with fail
      (with_reducible refine KR.mono ?_)
      rintro x w1 ⟨rfl, rfl⟩
      go_wp2
      go_ret2
      exact givesR_nil (Below.refl _ _)
    rw [h1] at KR
    by_cases h2 : nx = nr
    rotate_left 1
    · have h2' : ((nx : Int) != (nr : Int)) = true := by rw [bne_iff_ne]; omega
      clear h1 h2 hB KE
      go_enter Tryd.func92, Tryd.ntmps92
      go_wp2_with fail
      (with_reducible refine KR.mono ?_)
      rintro x w1 ⟨rfl, rfl⟩
      go_wp2
      go_ret2
      exact givesR_nil (Below.refl _ _)
    have h3 : evenB vs (widthB vs : Nat) = false := by
      cases e : evenB vs (widthB vs : Nat) with
      | false => rfl
      | true => exact absurd (solveOK_iff.2 ⟨h1, by rw [HEX.out, HER.out]; exact h2, e⟩) hB
    rw [h3] at KE
    have h2' : ((nx : Int) != (nr : Int)) = false := by simp [h2]
    clear h1 h2 h3 hB
    go_enter Tryd.func92, Tryd.ntmps92
    go_wp2_with fail
    (with_reducible refine KR.mono ?_)
    rintro x w1 ⟨rfl, rfl⟩
    go_wp2_with fail
    (with_reducible refine KE.mono ?_)
    rintro x w1 ⟨rfl, b1⟩
    go_wp2
    go_ret2
    exact givesR_nil b1
  obtain ⟨h1, h2, h3⟩ := solveOK_iff.1 hB
  have hW := hw h1
  obtain ⟨k1, k2, k3, -, -⟩ := right_rws h1 HMR.out
  have k4 := even_rws h3 HMX.out
  rw [h1] at KR
  rw [h3] at KE
  have e0 : solveR cols rows vs = solveOut cols.toNat rows vs := by unfold solveR; rw [if_pos hB]
  rw [e0]
  have hc := right_pos h1
  have HAL := Lib.hid (augs_length rows vs h2)
  have HL2 := Lib.hid h2
  rw [HEX.out, HER.out] at h2
  clear e0 h1 h3 hB hw
  generalize cols.toNat = k at hc k1 k2 k3 ⊢
  generalize widthB vs = wid at hW k4
  subst hc h2
  have h2' : ((nx : Int) != (nx : Int)) = false := by simp
  have HRW := Lib.hid (augs_rws k1 k4)
  have HSO := Lib.hid (fun m ρ p (hr : Red (k + wid) (augs rows vs) m ρ k p) => hr.solve HL2.out k1 k4)
  have HK1 := Lib.hid k1
  have HK4 := Lib.hid k4
  clear k1 k4
  go_enter Tryd.func92, Tryd.ntmps92
  go_wp2_with fail
  (with_reducible refine KR.mono ?_)
  rintro x w1 ⟨rfl, rfl⟩
  go_wp2_with fail
  (with_reducible refine KE.mono ?_)
  rintro x w1 ⟨rfl, b1⟩
  clear KR KE
  have hs1 := b1.size
  have hown0 := World.ownsRow_made (base := w1.heap.size) (e := 22) (size := 1) w1 #[] 0 (Nat.le_refl _) (by simp [maxLen]) rfl
  have HO0 := Lib.hid hown0
  clear hown0
  go_wp2_with fail
  go_loopw [8, 9] (fun v i wr => ∃ m ad cap, m ≤ nx ∧ i = .int .i64 (m : Nat) ∧ v = .slice ad m cap ∧ OwnRs wr w1.heap.size ad m cap ((augs rows vs).take m) ∧ Below w1.heap.size w1 wr) (fun _ i _ => (nx - intOf i).toNat)
  case atStart => exact ⟨0, _, _, Nat.zero_le _, rfl, rfl, ⟨by simp, [], HO0.out, ⟨rfl, fun i x l h => by simp at h⟩, fun l hl => by simp at hl⟩, below_alloc _ _⟩
  case round =>
    obtain ⟨m, ad, cap, hm, rfl, rfl, hO, hb⟩ := hrel
    have hHB := b1.trans (hb.mono hs1)
    have hbs := hb.size
    by_cases hlt : m < nx
    · obtain ⟨b, off, xa, xn, xc, r, rfl, hc0, hr, hB⟩ := HR.out.at hlt
      obtain ⟨b2, off2, ya, yn, yc, v, rfl, hd0, hv, hD⟩ := HX.out.at hlt
      have hc := cell_below hc0 hHB
      have HST := Lib.hid (augs_step hr hv)
      have HBB := Lib.hid hB
      have HDD := Lib.hid hD
      have HDC := Lib.hid hd0
      have hxn : xn = k := hB.length.symm.trans (HK1.out _ (List.mem_of_getElem? hr)).2
      have hyn : yn = wid := hD.length.symm.trans (HK4.out _ (List.mem_of_getElem? hv)).2
      subst hxn hyn
      have KM := copyBytes_any xa xn xc r wr (hB.below hHB)
      have HLR := Lib.hid (show r.length = xn from hB.length)
      have HLV := Lib.hid (show v.length = yn from hD.length)
      have HBA := Lib.hid (bytes_app hB.bytes hD.bytes)
      clear hr hB hc0 hv hD hd0
      go_wp2_with fail
      (with_reducible refine KM.mono ?_)
      rintro e w7 ⟨a8, c8, rfl, o8, b7⟩
      rw [HLR.out] at o8
      have hd := cell_below HDC.out (hHB.trans (b7.mono (by omega)))
      have hrow := HDD.out.row.below (hHB.trans (b7.mono (by omega)))
      have hnil := HDD.out.nil
      simp only at hrow hnil
      rw [HLR.out]
      clear KM hc
      go_wp2_with (first | (at_builtin; refine Hid.out ?_))
      refine Lib.hid ?_
      refine wpList_append_row rfl _ _ 22 rfl wr.heap.size 5 j0 (.int .u8 0) 1 Tryd.underlying22 hj hy0 hy1 hy2 rfl _ _ _ rfl o8 ya yn yc (v.map bv) rfl hrow hnil (bv_one _) (by simp [maxLen]; omega) (by omega) b7.size ?_
      intro v8 w8 hE8 g8 _
      have b8 := below_grown b7 g8 (ownBlock_ge o8)
      obtain ⟨a9, c9, rfl, -⟩ := ownsRow_parts hE8
      rw [← List.map_append] at hE8
      have hb8 := hb.trans (b8.mono hbs)
      have hs8 := hb8.size
      obtain ⟨-, hs, ho7, hO7, hm7⟩ := hO.below b8
      have o8' := ownsRow_base (base' := w1.heap.size) hE8 hbs
      have HLA := Lib.hid (show (r ++ v).length = xn + yn by rw [List.length_append, HLR.out, HLV.out])
      clear o8 hE8 g8 hrow hnil hd b7
      go_wp2_with (first | (at_builtin; refine Hid.out ?_))
      refine Lib.hid ?_
      refine wpList_append_row rfl _ _ 35 rfl w1.heap.size 22 i0 (.slice none 0 0) 24 Tryd.underlying35 hi hz0 hz1 hz2 rfl _ _ _ rfl (ho7.alloc _) (some ⟨w8.heap.size, 0, none⟩) 1 1 [SV (a9, xn + yn, c9)] rfl (rowV_lit w8 _ _ _ 1 _ rfl rfl rfl) (fun h => by cases h) (SV_one [(a9, xn + yn, c9)]) (by simp [maxLen]; omega) (by omega) (by simp; omega) ?_
      intro v' w9 hE9 g9 _
      have hb9 := below_grown (hb8.alloc hb8.size (.cells #[.slice a9 (xn + yn) c9] 22)) g9 (fun k hk => (ho7.lt k hk).1)
      have o8'' : w8.ownsRow w1.heap.size 5 1 (SV (a9, xn + yn, c9)) (r ++ v).length ((r ++ v).map bv) := by rw [HLA.out]; exact o8'
      obtain ⟨aA, cA, eA, h9⟩ := append_own (x := (a9, xn + yn, c9)) (ho7.alloc (.cells #[.slice a9 (xn + yn) c9] 22)) (hO7.below (below_alloc _ _)) hm7 hE9 g9 (o8''.alloc _) HLA.out.symm ⟨HBA.out, by rw [HLA.out]; omega⟩
      cases eA
      rw [← HST.out] at h9
      clear ho7 hO7 hm7 o8' o8'' hE9 g9 hb8 hs8 hHB hb hO
      go_wp2
      go_roundw
      case rel => exact ⟨m + 1, _, _, by omega, by go_num, rfl, h9, hb9⟩
      case measure => simp [intOf] <;> omega
    · obtain rfl : m = nx := by omega
      rw [List.take_of_length_le (by rw [HAL.out, HER.out]; exact Nat.le_refl _)] at hO
      have KD := reduce_own k (k + wid) ad m cap (augs rows vs) wr hO.rd hx HRW.out (Nat.le_add_right _ _) (by omega)
      clear hO HO0
      go_wp2_with fail
      (with_reducible refine KD.mono ?_)
      rintro x w3 ⟨a3, c3, M, ρ, p, rfl, hM, hRed, b3⟩
      have hb3 := hHB.trans (b3.mono hHB.size)
      have hle := hRed.le_cols
      have hso := HSO.out M ρ p hRed
      clear KD hb hHB
      by_cases hρ : ρ < k
      · rw [if_pos hρ] at hso
        have HS := Lib.hid hso
        clear hM hRed hso
        go_wp2
        go_ret2
        rw [HS.out]
        exact givesR_nil hb3
      · obtain rfl : ρ = k := by omega
        rw [if_neg hρ] at hso
        have HRD := Lib.hid hRed
        have HS := Lib.hid hso
        have HML := Lib.hid (show M.length = m from hM.1)
        have hkm : ρ ≤ m := by have := hRed.le; rw [HML.out] at this; exact this
        have hs3 := b3.size
        have hown0 := World.ownsRow_made (base := w3.heap.size) (e := 22) (size := 1) w3 #[] 0 (Nat.le_refl _) (by simp [maxLen]) rfl
        have HO0 := Lib.hid hown0
        have HM := Lib.hid hM.rd
        clear hown0 hRed hso hM hle
        go_wp2_with fail
        go_loopw [13, 14] (fun v i wr => ∃ t q ad cap, t ≤ m ∧ q ≤ ρ ∧ ((t ≤ ρ ∧ q = t) ∨ (ρ ≤ t ∧ q = ρ)) ∧ i = .int .i64 (t : Nat) ∧ v = .slice ad q cap ∧ OwnRs wr w3.heap.size ad q cap (((M.take ρ).map (List.drop ρ)).take q) ∧ Hid (∀ u j, ρ ≤ u → u < t → (M.getD u []).getD j 0 = 0) ∧ Below w3.heap.size w3 wr) (fun _ i _ => (m - intOf i).toNat)
        case atStart => exact ⟨0, 0, _, _, Nat.zero_le _, Nat.zero_le _, .inl ⟨Nat.zero_le _, rfl⟩, rfl, rfl, ⟨by simp, [], HO0.out, ⟨rfl, fun i x l h => by simp at h⟩, fun l hl => by simp at hl⟩, Lib.hid (fun u j _ h => absurd h (Nat.not_lt_zero _)), below_alloc _ _⟩
        case round =>
          obtain ⟨t, q, ad2, cap2, htm, hqρ, hq, rfl, rfl, hO, HZ, hb⟩ := hrel
          have hHB := hb3.trans (hb.mono hb3.size)
          have hbs := hb.size
          by_cases hlt2 : t < m
          · obtain ⟨b, off, xa, xn, xc, r, rfl, hc0, hr, hB⟩ := HM.out.at hlt2
            have hrg : M.getD t [] = r := by rw [List.getD_eq_getElem?_getD, hr]; rfl
            have hxn : xn = ρ + wid := hB.length.symm.trans (by rw [← hrg]; exact (rws_at HRD.out.rws (by rw [HML.out]; exact hlt2)).2)
            subst hxn
            have hc := cell_below hc0 hb
            obtain ⟨b2, off2, rfl, -⟩ := hB.cellAt 0 (by omega)
            have hBr := hB.below hb
            have HRG := Lib.hid hrg
            clear hB hr hc0 hrg
            by_cases htρ : t < ρ
            · obtain rfl : q = t := by omega
              have hcx := hBr.cap
              simp only at hcx
              have HBr := Lib.hid hBr
              clear hBr
              have HLD := Lib.hid (show (r.drop ρ).length = wid by rw [List.length_drop, HBr.out.length]; show ρ + wid - ρ = wid; omega)
              have HBD := Lib.hid (show Bytes (r.drop ρ) from fun x hx => HBr.out.bytes x (List.mem_of_mem_drop hx))
              have HST := Lib.hid (drops_step (m := M) htρ (by rw [HML.out]; exact hlt2))
              rw [HRG.out] at HST
              by_cases hcap : xc = ρ
              · obtain rfl : wid = 0 := by omega
                have e0 : r.drop ρ = [] := List.eq_nil_of_length_eq_zero HLD.out
                subst hcap
                have KM := copyBytes_any (some ⟨b2, off2, none⟩) 0 0 [] wr (bytesV_nil0 _ _ (by simp))
                rw [← e0] at KM
                have E0 := Lib.hid e0
                clear e0
                go_wp2_with fail
                (with_reducible refine KM.mono ?_)
                rintro e w7 ⟨a8, c8, rfl, o8, b7⟩
                have hb7 := hb.trans (b7.mono hbs)
                obtain ⟨-, hs, ho7, hO7, hm7⟩ := hO.below b7
                have o8' := ownsRow_base (base' := w3.heap.size) o8 hbs
                clear KM hc hO hb hHB o8
                have hs7 := hb7.size
                rw [HLD.out]
                go_wp2_with (first | (at_builtin; refine Hid.out ?_))
                refine Lib.hid ?_
                refine wpList_append_row rfl _ _ 35 rfl w3.heap.size 22 i0 (.slice none 0 0) 24 Tryd.underlying35 hi hz0 hz1 hz2 rfl _ _ _ rfl (ho7.alloc _) (some ⟨w7.heap.size, 0, none⟩) 1 1 [SV (a8, 0, c8)] rfl (rowV_lit w7 _ _ _ 1 _ rfl rfl rfl) (fun h => by cases h) (SV_one [(a8, 0, c8)]) (by simp [maxLen]; omega) (by omega) (by simp; omega) ?_
                intro v' w9 hE9 g9 _
                have hb9 := below_grown (hb7.alloc hb7.size (.cells #[.slice a8 0 c8] 22)) g9 (fun k hk => (ho7.lt k hk).1)
                rw [HLD.out] at o8'
                have o8'' : w7.ownsRow w3.heap.size 5 1 (SV (a8, 0, c8)) (r.drop xc).length ((r.drop xc).map bv) := by rw [HLD.out]; exact o8'
                obtain ⟨aA, cA, eA, h9⟩ := append_own (x := (a8, 0, c8)) (ho7.alloc (.cells #[.slice a8 0 c8] 22)) (hO7.below (below_alloc _ _)) hm7 hE9 g9 (o8''.alloc _) HLD.out.symm ⟨HBD.out, by rw [HLD.out]; omega⟩
                cases eA
                rw [← HST.out] at h9
                clear ho7 hO7 hm7 o8' o8'' hE9 g9 hb7 hs7
                go_wp2
                go_roundw
                case rel => exact ⟨q + 1, q + 1, _, _, by omega, by omega, .inl ⟨by omega, rfl⟩, by go_num, rfl, h9, Lib.hid (fun u j h1 h2 => absurd h1 (by omega)), hb9⟩
                case measure => simp [intOf] <;> omega
              · have KM := copyBytes_any (some ⟨b2, off2 + ρ, none⟩) (ρ + wid - ρ) (xc - ρ) (r.drop ρ) wr (HBr.out.dropped (by omega))
                rw [show ρ + wid - ρ = wid by omega] at KM
                go_wp2_with fail
                (with_reducible refine KM.mono ?_)
                rintro e w7 ⟨a8, c8, rfl, o8, b7⟩
                have hb7 := hb.trans (b7.mono hbs)
                obtain ⟨-, hs, ho7, hO7, hm7⟩ := hO.below b7
                have o8' := ownsRow_base (base' := w3.heap.size) o8 hbs
                clear KM hc hO hb hHB o8
                have hs7 := hb7.size
                rw [HLD.out]
                go_wp2_with (first | (at_builtin; refine Hid.out ?_))
                refine Lib.hid ?_
                refine wpList_append_row rfl _ _ 35 rfl w3.heap.size 22 i0 (.slice none 0 0) 24 Tryd.underlying35 hi hz0 hz1 hz2 rfl _ _ _ rfl (ho7.alloc _) (some ⟨w7.heap.size, 0, none⟩) 1 1 [SV (a8, wid, c8)] rfl (rowV_lit w7 _ _ _ 1 _ rfl rfl rfl) (fun h => by cases h) (SV_one [(a8, wid, c8)]) (by simp [maxLen]; omega) (by omega) (by simp; omega) ?_
                intro v' w9 hE9 g9 _
                have hb9 := below_grown (hb7.alloc hb7.size (.cells #[.slice a8 wid c8] 22)) g9 (fun k hk => (ho7.lt k hk).1)
                rw [HLD.out] at o8'
                have o8'' : w7.ownsRow w3.heap.size 5 1 (SV (a8, wid, c8)) (r.drop ρ).length ((r.drop ρ).map bv) := by rw [HLD.out]; exact o8'
                obtain ⟨aA, cA, eA, h9⟩ := append_own (x := (a8, wid, c8)) (ho7.alloc (.cells #[.slice a8 wid c8] 22)) (hO7.below (below_alloc _ _)) hm7 hE9 g9 (o8''.alloc _) HLD.out.symm ⟨HBD.out, by rw [HLD.out]; omega⟩
                cases eA
                rw [← HST.out] at h9
                clear ho7 hO7 hm7 o8' o8'' hE9 g9 hb7 hs7
                go_wp2
                go_roundw
                case rel => exact ⟨q + 1, q + 1, _, _, by omega, by omega, .inl ⟨by omega, rfl⟩, by go_num, rfl, h9, Lib.hid (fun u j h1 h2 => absurd h1 (by omega)), hb9⟩
                case measure => simp [intOf] <;> omega
            · obtain rfl : q = ρ := by omega
              have HBr := Lib.hid hBr
              clear hBr
              go_wp2_with fail
              go_loopw [15] (fun vj wj => ∃ j, q ≤ j ∧ j ≤ q + wid ∧ vj = .int .i64 (j : Nat) ∧ Hid (∀ i, q ≤ i → i < j → r.getD i 0 = 0) ∧ wj = wr) (fun vj _ => (q + wid - intOf vj).toNat)
              case atStart => exact ⟨q, Nat.le_refl _, by omega, rfl, Lib.hid (fun i h1 h2 => absurd h1 (by omega)), rfl⟩
              case round =>
                obtain ⟨j, hj1, hj2, rfl, HJ, rfl⟩ := hrel
                by_cases hlt3 : j < q + wid
                · obtain ⟨b3', off3, e3, hcj⟩ := HBr.out.cellAt j hlt3
                  injection e3 with e3
                  injection e3 with e31 e32
                  subst e31 e32
                  obtain ⟨x, hx'⟩ : ∃ x, r.getD j 0 = x := ⟨_, rfl⟩
                  rw [hx'] at hcj
                  have hx256 : x < 256 := by rw [← hx']; exact HBr.out.bytes.getD j
                  have HXJ := Lib.hid hx'
                  clear hx'
                  by_cases hx0 : x = 0
                  · subst hx0
                    go_wp2
                    go_roundw
                    case rel => exact ⟨j + 1, by omega, by omega, by go_num, Lib.hid (fun i h1 h2 => (by
                      by_cases e : i = j
                      · rw [e, HXJ.out]
                      · exact HJ.out i h1 (by omega))), by first | exact rfl | exact trivial⟩
                    case measure => simp [intOf] <;> omega
                  · have hx0' : ((x : Int) != 0) = true := by rw [bne_iff_ne]; omega
                    go_wp2
                    go_ret2
                    have hB : restB M q = true := restB_of (i := t) (j := j) (by omega) (by rw [HML.out]; exact hlt2) (by rw [HRG.out, HXJ.out]; exact hx0)
                    rw [HS.out, if_pos hB]
                    exact givesR_nil hHB
                · obtain rfl : j = q + wid := by omega
                  go_wp2
                  go_roundw
                  case rel => exact ⟨t + 1, q, ad2, cap2, by omega, Nat.le_refl _, .inr ⟨by omega, rfl⟩, by go_num, rfl, hO, Lib.hid (fun u i h1 h2 => (by
                    by_cases e : u = t
                    · subst e
                      by_cases e2 : i < q
                      · exact HRD.out.low u i h1 (by rw [HML.out]; exact hlt2) e2
                      · by_cases e3 : i < q + wid
                        · rw [HRG.out]; exact HJ.out i (by omega) e3
                        · rw [HRG.out]; exact HBr.out.low i e3
                    · exact HZ.out u i h1 (by omega))), hb⟩
                  case measure => simp [intOf] <;> omega
          · obtain rfl : t = m := by omega
            obtain rfl : q = ρ := by omega
            go_wp2
            go_ret2
            have hB : restB M q = false := restB_false fun u i h1 h2 => HZ.out u i h1 (by rw [← HML.out]; exact h2)
            have hl : (List.map (List.drop q) (List.take q M)).length = q := by rw [List.length_map, List.length_take, HML.out]; omega
            rw [List.take_of_length_le (by rw [hl]; exact Nat.le_refl _)] at hO
            rw [HS.out, hB, if_neg (by simp)]
            generalize List.map (List.drop q) (List.take q M) = D at hO hl ⊢
            exact ⟨ad2, cap2, by simp only [hl]; rfl, by show RD wr ad2 D.length D; rw [hl]; exact hO.rd, hHB⟩


theorem solve_len (cols : Int) (rows vs : List (List Nat)) : (solveR cols rows vs).1.length ≤ 1000 := by
  rcases solve_kinds cols rows vs with h | h
  · unfold solveR at h ⊢
    split
    · rename_i hB
      obtain ⟨h1, -, -⟩ := solveOK_iff.1 hB
      obtain ⟨b1, b2, -, -⟩ := rightB_iff.1 h1
      rw [solveOut_end]
      unfold solveEnd
      split
      · simp
      · split
        · simp
        · simp only [solved_len]; omega
    · simp
  · rw [h.1]; simp
end Go.Proofs.YtfjcbgfgiidogaaDoor
