/-
  The reference of the judge: Fits.
-/
import Derived.Test.YtnefcbcioemfiaaJeE
namespace Go.Proofs.Ytnefcbcioemfiaa
open Go Go.RowKit

theorem drop_atF {os : List Int} {i : Nat} (h : i < os.length) : os.drop i = os.getD i 0 :: os.drop (i + 1) := by
  rw [List.drop_eq_getElem_cons h, List.getD_eq_getElem?_getD, List.getElem?_eq_getElem h]
  rfl
theorem all_drop {os : List Int} {i : Nat} {P : Int → Prop} (h : ∀ m, i < m → m < os.length → P (os.getD m 0)) : ∀ q ∈ os.drop (i + 1), P q := by
  intro q hq
  obtain ⟨m, hm, e⟩ := List.getElem_of_mem hq
  rw [List.length_drop] at hm
  have := h (i + 1 + m) (by omega) (by omega)
  rw [List.getD_eq_getElem?_getD, List.getElem?_eq_getElem (by omega)] at this
  rw [List.getElem_drop] at e
  rw [← e]
  exact this
theorem take_mem_succ {os : List Int} {j : Nat} (h : j < os.length) (z : Int) : z ∈ os.take (j + 1) ↔ (z ∈ os.take j ∨ os.getD j 0 = z) := by
  rw [List.take_succ_eq_append_getElem h, List.mem_append, List.mem_singleton, List.getD_eq_getElem?_getD, List.getElem?_eq_getElem h]
  exact ⟨fun h => h.imp_right Eq.symm, fun h => h.imp_right Eq.symm⟩

set_option maxRecDepth 100000 in
set_option maxHeartbeats 16000000 in
theorem refFits_any (aa : Option Addr) (an ac : Nat) (xs : List ActR) (key : ByteArray) (oa : Option Addr) (on oc : Nat) (os : List Int) (w : World) (h : ActsV w aa an xs) (hac : an ≤ ac) (hn : an ≤ 1000000) (ho : IntsV w (oa, on, oc) os) (hon : on ≤ 1000000) :
    Calls Try.prog 24 #[.slice aa an ac, .string key, .slice oa on oc] w fun e w' => e = .returned (.bool (fitsOf xs key os)) ∧ Below w.heap.size w w' := by
  have H := Lib.hid h
  have HO := Lib.hid ho
  have hxl : xs.length = an := h.len
  have hol : os.length = on := ho.length
  have hoc : on ≤ oc := ho.cap
  have HXL := Lib.hid hxl
  have HOL := Lib.hid hol
  obtain ⟨res, hres⟩ : ∃ r, r = fitsOf xs key os := ⟨_, rfl⟩
  rw [← hres]
  have HRES : Hid (res = true ↔ checkR xs = 0 ∧ refGo xs key os (-1) ∧ refEnd xs key os) := Lib.hid (by rw [hres]; exact fitsOf_ref xs key os)
  have KC := refCheck_any aa an ac xs w h hac hn
  obtain ⟨cz, hcz⟩ : ∃ c, c = checkR xs := ⟨_, rfl⟩
  rw [← hcz] at KC
  have HCZ := Lib.hid hcz
  clear h ho hxl hol hres hcz
  go_enter Try.func24, Try.ntmps24
  go_wp2_with fail
  (with_reducible refine KC.mono ?_)
  rintro e w1 ⟨rfl, b1⟩
  have B1 := Lib.hid b1
  clear KC b1
  by_cases hc0 : cz = 0
  case neg =>
    have hr : res = false := by
      cases res with
      | false => rfl
      | true => exact absurd (HCZ.out.trans (HRES.out.1 rfl).1) hc0
    subst hr
    go_wp2
    go_ret
    exact ⟨rfl, B1.out⟩
  have HR1 : Hid (res = true ↔ refGo xs key (os.drop 0) (-1) ∧ refEnd xs key os) := Lib.hid (by
    rw [HRES.out, List.drop_zero]
    exact ⟨fun h => h.2, fun h => ⟨HCZ.out.symm.trans hc0, h⟩⟩)
  subst hc0
  have hneg : (-1 : Int) < (an : Int) := by omega
  have HNEG := Lib.hid hneg
  clear hneg
  go_wp2_with fail
  go_loopw [7, 8] (fun vl vi wr => ∃ (i : Nat) (last : Int), i ≤ on ∧ vi = .int .i64 (i : Nat) ∧ vl = .int .i64 last ∧ Hid (res = true ↔ refGo xs key (os.drop i) last ∧ refEnd xs key os) ∧ Hid (last < (an : Int)) ∧ Hid (Below w.heap.size w wr)) (fun _ vi _ => on - (intOf vi).toNat)
  case atStart => exact ⟨0, -1, Nat.zero_le _, rfl, rfl, HR1, HNEG, B1⟩
  case round =>
    clear HRES HR1 HNEG B1
    obtain ⟨i, last, hin, rfl, rfl, HR, HLA, HB⟩ := hrel
    by_cases hlt : i < on
    · have hi0 : (0 : Int) ≤ (i : Int) := by omega
      have hi1 : (i : Int) < (on : Int) := by omega
      obtain ⟨ob, oo, eo, hocl⟩ := HO.out.row.2 (by simp only; omega)
      simp only at eo
      subst eo
      have HOC : Hid (∀ m, m < on → ∀ W, Below w.heap.size w W → W.cell? ⟨ob, oo + m, none⟩ = some (.int .i64 (os.getD m 0))) := Lib.hid fun m hm W hW => by
        have h1 := hocl m (by simp only; omega)
        rw [iv_getD (by rw [HOL.out]; exact hm)] at h1
        exact cellBelow h1 hW
      clear hocl
      have HDR : Hid (os.drop i = os.getD i 0 :: os.drop (i + 1)) := Lib.hid (drop_atF (by rw [HOL.out]; exact hlt))
      obtain ⟨p, hp⟩ : ∃ p, p = os.getD i 0 := ⟨_, rfl⟩
      have o1 := HOC.out i hlt wr HB.out
      rw [← hp] at o1
      have HR2 : Hid (res = true ↔ (okP xs key p ∧ (∀ q ∈ os.drop (i + 1), q ≠ p ∧ ¬ befP xs q p) ∧ tellP xs last p ∧ refGo xs key (os.drop (i + 1)) (nextP xs last p)) ∧ refEnd xs key os) := Lib.hid (by
        rw [HR.out, HDR.out, ← hp]; rfl)
      have HP := Lib.hid hp
      clear hp HR HDR
      by_cases hp0 : p < 0
      · have hr : res = false := by
          cases res with
          | false => rfl
          | true =>
            obtain ⟨m, hm, e⟩ := (HR2.out.1 rfl).1.1
            omega
        subst hr
        clear HR2
        go_wp2
        go_ret
        exact ⟨rfl, HB.out⟩
      obtain ⟨pn, rfl⟩ : ∃ pn : Nat, p = pn := ⟨p.toNat, by omega⟩
      by_cases hp1 : an ≤ pn
      · have hp1' : (an : Int) ≤ (pn : Int) := by omega
        have hr : res = false := by
          cases res with
          | false => rfl
          | true =>
            obtain ⟨m, hm, e⟩ := (HR2.out.1 rfl).1.1
            have := (mem_placesOf.1 hm).1
            have := HXL.out
            omega
        subst hr
        clear HR2
        go_wp2
        go_ret
        exact ⟨rfl, HB.out⟩
      have hpl : pn < an := by omega
      have hp1' : ¬ (an : Int) ≤ (pn : Int) := by omega
      have hp2' : (pn : Int) < (an : Int) := by omega
      have hp3' : (0 : Int) ≤ (pn : Int) := by omega
      obtain ⟨b, o, A, x, y, z, eaa, hA1, hA, at0⟩ := H.out.at hpl
      subst eaa
      have HA := Lib.hid hA
      have HAT := Lib.hid at0
      clear hA1 hA at0
      have KC := refCounts_any A x y z key wr
      unfold ActC at KC
      obtain ⟨cq, hcq⟩ : ∃ q, q = (decide (A.key = key) && countsB A) := ⟨_, rfl⟩
      rw [← hcq] at KC
      have HCQ := Lib.hid hcq
      obtain ⟨c0, c1, c2, c3, c4, c5, c6, c7, c8, c9, ca, cb, cc, cd, ce, -⟩ := HAT.out.below HB.out
      clear hcq
      go_wp2_with fail
      (with_reducible refine KC.mono ?_)
      rintro e w3 ⟨rfl, b3⟩
      have B3 := Lib.hid (HB.out.trans (b3.mono HB.out.size))
      clear KC b3 c0 c1 c2 c3 c4 c5 c6 c7 c8 c9 ca cb cc cd ce o1
      cases cq with
      | false =>
        have hr : res = false := by
          cases res with
          | false => rfl
          | true =>
            obtain ⟨m, hm, e⟩ := (HR2.out.1 rfl).1.1
            obtain ⟨h1, h2, h3⟩ := mem_placesOf.1 hm
            obtain rfl : pn = m := by omega
            rw [HA.out] at h2 h3
            have := HCQ.out
            rw [decide_eq_true h2, h3] at this
            cases this
        subst hr
        clear HR2
        go_wp2
        go_ret
        exact ⟨rfl, B3.out⟩
      | true =>
      have HOK : Hid (okP xs key (pn : Int)) := Lib.hid ⟨pn, mem_placesOf.2 (by
        rw [HA.out, HXL.out]
        have := HCQ.out
        simp only [Bool.true_eq, Bool.and_eq_true, decide_eq_true_eq] at this
        exact ⟨hpl, this⟩), rfl⟩
      have HAP : Hid (aP xs (pn : Int) = A) := Lib.hid (by rw [aP_cast]; exact HA.out)
      obtain ⟨c0, c1, c2, c3, c4, c5, c6, c7, c8, c9, ca, cb, cc, cd, ce, -⟩ := HAT.out.below B3.out
      have o1 := HOC.out i hlt w3 B3.out
      rw [← HP.out] at o1
      go_upto_region 10 with fail
      refine (?_ : ∀ W : World, Hid (W.heap[w3.heap.size]? = some (.cells #[.int .i64 A.cl, .int .i64 A.d, .int .i64 A.st, .int .i64 A.en, .string A.key, .slice x.1 x.2.1 x.2.2, .int .i64 A.rop, .int .i64 A.rdo, .string A.rkey, .slice y.1 y.2.1 y.2.2, .int .i64 A.tn, .int .i64 A.tc, .int .i64 A.code, .bool A.found, .slice z.1 z.2.1 z.2.2] ActT (0, 0))) → Hid (Below w3.heap.size w3 W) → Code.wp Try.prog _ _ _ W) _ (Lib.hid (heap_alloc_new w3 _)) (Lib.hid (below_alloc w3 _))
      clear c0 c1 c2 c3 c4 c5 c6 c7 c8 c9 ca cb cc cd ce o1
      intro W XB BW
      have B4 := Lib.hid (B3.out.trans (BW.out.mono B3.out.size))
      go_wp2_with fail
      go_loopw [10] (fun vj wi => ∃ (j : Nat), i + 1 ≤ j ∧ j ≤ on ∧ vj = .int .i64 (j : Nat) ∧ Hid (∀ m, i < m → m < j → os.getD m 0 ≠ (pn : Int) ∧ ¬ befP xs (os.getD m 0) (pn : Int)) ∧ Hid (Below W.heap.size W wi)) (fun vj _ => on - (intOf vj).toNat)
      case atStart => exact ⟨i + 1, Nat.le_refl _, hlt, by go_num, Lib.hid (fun m h1 h2 => absurd h2 (by omega)), Lib.hid (Below.refl _ _)⟩
      case round =>
        rename World => wi
        obtain ⟨j, hij, hjn, rfl, HAL, HY⟩ := hrel
        have B5 := Lib.hid (B4.out.trans (HY.out.mono B4.out.size))
        have XB5 : Hid (wi.heap[w3.heap.size]? = some (.cells #[.int .i64 A.cl, .int .i64 A.d, .int .i64 A.st, .int .i64 A.en, .string A.key, .slice x.1 x.2.1 x.2.2, .int .i64 A.rop, .int .i64 A.rdo, .string A.rkey, .slice y.1 y.2.1 y.2.2, .int .i64 A.tn, .int .i64 A.tc, .int .i64 A.code, .bool A.found, .slice z.1 z.2.1 z.2.2] ActT (0, 0))) := Lib.hid ((HY.out.block _ (Array.getElem?_eq_some_iff.1 XB.out).1).trans XB.out)
        by_cases hlj : j < on
        · have hj0 : (0 : Int) ≤ (j : Int) := by omega
          have hj1 : (j : Int) < (on : Int) := by omega
          obtain ⟨q, hq⟩ : ∃ q, q = os.getD j 0 := ⟨_, rfl⟩
          have P0 : wi.drew.cell? ⟨ob, oo + j, none⟩ = some (.int .i64 q) ∧ wi.drew.cell? ⟨ob, oo + i, none⟩ = some (.int .i64 (pn : Int)) := ⟨by rw [hq]; exact HOC.out j hlj wi.drew B5.out.drew, by rw [HP.out]; exact HOC.out i hlt wi.drew B5.out.drew⟩
          have HQ := Lib.hid hq
          clear hq
          go_upto_region 13 with fail
          go_cut [72] (fun v wx => ∃ eq, v = .bool eq ∧ Hid (eq = true ↔ q = (pn : Int)) ∧ Hid (Below wi.heap.size wi wx))
          case first =>
            refine GoX.start 8 (fun w' => w'.cell? ⟨ob, oo + j, none⟩ = some (.int .i64 q) ∧ w'.cell? ⟨ob, oo + i, none⟩ = some (.int .i64 (pn : Int))) (by kernel_rfl) ?_
            refine GoX.take 0 rfl (by kernel_rfl) (by kernel_rfl) (by rfl) (fun _ _ _ h => h) (v := ?tv0g34) P0 ?ty0g34 ?tr0g34
            case ty0g34 => (intro w hSw; (try dsimp only at hSw); go_simp; first | done | with_reducible rfl)
            simp only [Act.put, List.setIfInBounds_toArray, List.set_cons_zero, List.set_cons_succ]
            refine GoX.take 1 rfl (by kernel_rfl) (by kernel_rfl) (by rfl) (fun _ _ _ h => h) (v := ?tv1g35) P0 ?ty1g35 ?tr1g35
            case ty1g35 => (intro w hSw; (try dsimp only at hSw); go_simp; first | done | with_reducible rfl)
            simp only [Act.put, List.setIfInBounds_toArray, List.set_cons_zero, List.set_cons_succ]
            refine GoX.take 2 rfl (by kernel_rfl) (by kernel_rfl) (by rfl) (fun _ _ _ h => h) (v := ?tv2g36) P0 ?ty2g36 ?tr2g36
            case ty2g36 => (intro w hSw; (try dsimp only at hSw); go_simp; first | done | with_reducible rfl)
            simp only [Act.put, List.setIfInBounds_toArray, List.set_cons_zero, List.set_cons_succ]
            refine GoX.take 3 rfl (by kernel_rfl) (by kernel_rfl) (by rfl) (fun _ _ _ h => h) (v := ?tv3g37) P0 ?ty3g37 ?tr3g37
            case ty3g37 => (intro w hSw; (try dsimp only at hSw); go_simp; first | done | with_reducible rfl)
            simp only [Act.put, List.setIfInBounds_toArray, List.set_cons_zero, List.set_cons_succ]
            refine GoX.take 4 rfl (by kernel_rfl) (by kernel_rfl) (by rfl) (fun _ _ _ h => h) (v := ?tv4g38) P0 ?ty4g38 ?tr4g38
            case ty4g38 => (intro w hSw; (try dsimp only at hSw); go_simp; first | done | with_reducible rfl)
            simp only [Act.put, List.setIfInBounds_toArray, List.set_cons_zero, List.set_cons_succ]
            refine GoX.take 5 rfl (by kernel_rfl) (by kernel_rfl) (by rfl) (fun _ _ _ h => h) (v := ?tv5g39) P0 ?ty5g39 ?tr5g39
            case ty5g39 => (intro w hSw; (try dsimp only at hSw); go_simp; first | done | with_reducible rfl)
            simp only [Act.put, List.setIfInBounds_toArray, List.set_cons_zero, List.set_cons_succ]
            refine GoX.take 6 rfl (by kernel_rfl) (by kernel_rfl) (by rfl) (fun _ _ _ h => h) (v := ?tv6g40) P0 ?ty6g40 ?tr6g40
            case ty6g40 => (intro w hSw; (try dsimp only at hSw); go_simp; first | done | with_reducible rfl)
            simp only [Act.put, List.setIfInBounds_toArray, List.set_cons_zero, List.set_cons_succ]
            refine GoX.take 7 rfl (by kernel_rfl) (by kernel_rfl) (by rfl) (fun _ _ _ h => h) (v := ?tv7g41) P0 ?ty7g41 ?tr7g41
            case ty7g41 => (intro w hSw; (try dsimp only at hSw); go_simp; first | done | with_reducible rfl)
            simp only [Act.put, List.setIfInBounds_toArray, List.set_cons_zero, List.set_cons_succ]
            refine GoX.last 8 rfl (by kernel_rfl) (by kernel_rfl) (by decide) ?_
            clear P0
            go_wp2_with fail
            go_meet
            exact ⟨_, rfl, Lib.hid (by simp), Lib.hid (Below.refl _ _).drew⟩
          case rest =>
          obtain ⟨eq, rfl, HEQ, BX⟩ := hcut
          rename World => wA
          have B6 := Lib.hid (B5.out.trans (BX.out.mono B5.out.size))
          have Y6 := Lib.hid (HY.out.trans (BX.out.mono HY.out.size))
          have X6 : Hid (wA.heap[w3.heap.size]? = some (.cells #[.int .i64 A.cl, .int .i64 A.d, .int .i64 A.st, .int .i64 A.en, .string A.key, .slice x.1 x.2.1 x.2.2, .int .i64 A.rop, .int .i64 A.rdo, .string A.rkey, .slice y.1 y.2.1 y.2.2, .int .i64 A.tn, .int .i64 A.tc, .int .i64 A.code, .bool A.found, .slice z.1 z.2.1 z.2.2] ActT (0, 0))) := Lib.hid ((BX.out.block _ (Array.getElem?_eq_some_iff.1 XB5.out).1).trans XB5.out)
          clear P0 BX XB5 B5 HY
          cases eq with
          | true =>
            have hr : res = false := by
              cases res with
              | false => rfl
              | true =>
                have h1 := (HR2.out.1 rfl).1.2.1 q (by
                  rw [HQ.out]
                  have hjl : j < os.length := by rw [HOL.out]; exact hlj
                  rw [List.getD_eq_getElem?_getD, List.getElem?_eq_getElem hjl, Option.getD_some]
                  rw [List.mem_iff_getElem]
                  exact ⟨j - (i + 1), by rw [List.length_drop]; omega, by rw [List.getElem_drop]; congr 1; omega⟩)
                exact absurd (HEQ.out.1 rfl) h1.1
            subst hr
            clear HR2
            go_wp2
            go_ret
            exact ⟨rfl, B6.out⟩
          | false =>
          have hst := cell_of_row _ _ 2 _ _ _ X6.out
          simp at hst
          go_upto_region 15 with fail
          go_cut [110] (fun v wx => ∃ bf, v = .bool bf ∧ Hid (bf = true ↔ befP xs q (pn : Int)) ∧ Hid (Below wA.heap.size wA wx))
          case first =>
            by_cases hq0 : q < 0
            · have P0 : wA.drew.cell? ⟨ob, oo + j, none⟩ = some (.int .i64 q) := by rw [HQ.out]; exact HOC.out j hlj wA.drew B6.out.drew
              have HF : Hid (false = true ↔ befP xs q (pn : Int)) := Lib.hid ⟨fun h => (nomatch h), fun h => absurd h.1 (by omega)⟩
              have hq0n : ¬ (0 : Int) ≤ q := by omega
              clear hst
              refine GoX.start 37 (fun w' => w'.cell? ⟨ob, oo + j, none⟩ = some (.int .i64 q)) (by kernel_rfl) ?_
              refine GoX.take 0 rfl (by kernel_rfl) (by kernel_rfl) (by rfl) (fun _ _ _ h => h) (v := ?tv0g42) P0 ?ty0g42 ?tr0g42
              case ty0g42 => (intro w hSw; (try dsimp only at hSw); go_simp; first | done | with_reducible rfl)
              simp only [Act.put, List.setIfInBounds_toArray, List.set_cons_zero, List.set_cons_succ]
              refine GoX.take 1 rfl (by kernel_rfl) (by kernel_rfl) (by rfl) (fun _ _ _ h => h) (v := ?tv1g43) P0 ?ty1g43 ?tr1g43
              case ty1g43 => (intro w hSw; (try dsimp only at hSw); go_simp; first | done | with_reducible rfl)
              simp only [Act.put, List.setIfInBounds_toArray, List.set_cons_zero, List.set_cons_succ]
              refine GoX.take 2 rfl (by kernel_rfl) (by kernel_rfl) (by rfl) (fun _ _ _ h => h) (v := ?tv2g44) P0 ?ty2g44 ?tr2g44
              case ty2g44 => (intro w hSw; (try dsimp only at hSw); go_simp; first | done | with_reducible rfl)
              simp only [Act.put, List.setIfInBounds_toArray, List.set_cons_zero, List.set_cons_succ]
              refine GoX.take 3 rfl (by kernel_rfl) (by kernel_rfl) (by rfl) (fun _ _ _ h => h) (v := ?tv3g45) P0 ?ty3g45 ?tr3g45
              case ty3g45 => (intro w hSw; (try dsimp only at hSw); go_simp; first | done | with_reducible rfl)
              simp only [Act.put, List.setIfInBounds_toArray, List.set_cons_zero, List.set_cons_succ]
              refine GoX.take 4 rfl (by kernel_rfl) (by kernel_rfl) (by rfl) (fun _ _ _ h => h) (v := ?tv4g46) P0 ?ty4g46 ?tr4g46
              case ty4g46 => (intro w hSw; (try dsimp only at hSw); go_simp; first | done | with_reducible rfl)
              simp only [Act.put, List.setIfInBounds_toArray, List.set_cons_zero, List.set_cons_succ]
              refine GoX.take 5 rfl (by kernel_rfl) (by kernel_rfl) (by rfl) (fun _ _ _ h => h) (v := ?tv5g47) P0 ?ty5g47 ?tr5g47
              case ty5g47 => (intro w hSw; (try dsimp only at hSw); go_simp; first | done | with_reducible rfl)
              simp only [Act.put, List.setIfInBounds_toArray, List.set_cons_zero, List.set_cons_succ]
              refine GoX.skip 6 rfl (by kernel_rfl) (by kernel_rfl) (by rfl) (fun _ _ _ h => h) P0 ?_
              simp only [Act.put, List.setIfInBounds_toArray, List.set_cons_zero, List.set_cons_succ]
              refine GoX.skip 7 rfl (by kernel_rfl) (by kernel_rfl) (by rfl) (fun _ _ _ h => h) P0 ?_
              simp only [Act.put, List.setIfInBounds_toArray, List.set_cons_zero, List.set_cons_succ]
              refine GoX.skip 8 rfl (by kernel_rfl) (by kernel_rfl) (by rfl) (fun _ _ _ h => h) P0 ?_
              simp only [Act.put, List.setIfInBounds_toArray, List.set_cons_zero, List.set_cons_succ]
              refine GoX.skip 9 rfl (by kernel_rfl) (by kernel_rfl) (by rfl) (fun _ _ _ h => h) P0 ?_
              simp only [Act.put, List.setIfInBounds_toArray, List.set_cons_zero, List.set_cons_succ]
              refine GoX.skip 10 rfl (by kernel_rfl) (by kernel_rfl) (by rfl) (fun _ _ _ h => h) P0 ?_
              simp only [Act.put, List.setIfInBounds_toArray, List.set_cons_zero, List.set_cons_succ]
              refine GoX.skip 11 rfl (by kernel_rfl) (by kernel_rfl) (by rfl) (fun _ _ _ h => h) P0 ?_
              simp only [Act.put, List.setIfInBounds_toArray, List.set_cons_zero, List.set_cons_succ]
              refine GoX.skip 12 rfl (by kernel_rfl) (by kernel_rfl) (by rfl) (fun _ _ _ h => h) P0 ?_
              simp only [Act.put, List.setIfInBounds_toArray, List.set_cons_zero, List.set_cons_succ]
              refine GoX.take 13 rfl (by kernel_rfl) (by kernel_rfl) (by rfl) (fun _ _ _ h => h) (v := ?tv13g48) P0 ?ty13g48 ?tr13g48
              case ty13g48 => (intro w hSw; (try dsimp only at hSw); go_simp; first | done | with_reducible rfl)
              simp only [Act.put, List.setIfInBounds_toArray, List.set_cons_zero, List.set_cons_succ]
              refine GoX.take 14 rfl (by kernel_rfl) (by kernel_rfl) (by rfl) (fun _ _ _ h => h) (v := ?tv14g49) P0 ?ty14g49 ?tr14g49
              case ty14g49 => (intro w hSw; (try dsimp only at hSw); go_simp; first | done | with_reducible rfl)
              simp only [Act.put, List.setIfInBounds_toArray, List.set_cons_zero, List.set_cons_succ]
              refine GoX.skip 15 rfl (by kernel_rfl) (by kernel_rfl) (by rfl) (fun _ _ _ h => h) P0 ?_
              simp only [Act.put, List.setIfInBounds_toArray, List.set_cons_zero, List.set_cons_succ]
              refine GoX.skip 16 rfl (by kernel_rfl) (by kernel_rfl) (by rfl) (fun _ _ _ h => h) P0 ?_
              simp only [Act.put, List.setIfInBounds_toArray, List.set_cons_zero, List.set_cons_succ]
              refine GoX.skip 17 rfl (by kernel_rfl) (by kernel_rfl) (by rfl) (fun _ _ _ h => h) P0 ?_
              simp only [Act.put, List.setIfInBounds_toArray, List.set_cons_zero, List.set_cons_succ]
              refine GoX.skip 18 rfl (by kernel_rfl) (by kernel_rfl) (by rfl) (fun _ _ _ h => h) P0 ?_
              simp only [Act.put, List.setIfInBounds_toArray, List.set_cons_zero, List.set_cons_succ]
              refine GoX.skip 19 rfl (by kernel_rfl) (by kernel_rfl) (by rfl) (fun _ _ _ h => h) P0 ?_
              simp only [Act.put, List.setIfInBounds_toArray, List.set_cons_zero, List.set_cons_succ]
              refine GoX.skip 20 rfl (by kernel_rfl) (by kernel_rfl) (by rfl) (fun _ _ _ h => h) P0 ?_
              simp only [Act.put, List.setIfInBounds_toArray, List.set_cons_zero, List.set_cons_succ]
              refine GoX.skip 21 rfl (by kernel_rfl) (by kernel_rfl) (by rfl) (fun _ _ _ h => h) P0 ?_
              simp only [Act.put, List.setIfInBounds_toArray, List.set_cons_zero, List.set_cons_succ]
              refine GoX.skip 22 rfl (by kernel_rfl) (by kernel_rfl) (by rfl) (fun _ _ _ h => h) P0 ?_
              simp only [Act.put, List.setIfInBounds_toArray, List.set_cons_zero, List.set_cons_succ]
              refine GoX.skip 23 rfl (by kernel_rfl) (by kernel_rfl) (by rfl) (fun _ _ _ h => h) P0 ?_
              simp only [Act.put, List.setIfInBounds_toArray, List.set_cons_zero, List.set_cons_succ]
              refine GoX.take 24 rfl (by kernel_rfl) (by kernel_rfl) (by rfl) (fun _ _ _ h => h) (v := ?tv24g50) P0 ?ty24g50 ?tr24g50
              case ty24g50 => (intro w hSw; (try dsimp only at hSw); go_simp; first | done | with_reducible rfl)
              simp only [Act.put, List.setIfInBounds_toArray, List.set_cons_zero, List.set_cons_succ]
              refine GoX.take 25 rfl (by kernel_rfl) (by kernel_rfl) (by rfl) (fun _ _ _ h => h) (v := ?tv25g51) P0 ?ty25g51 ?tr25g51
              case ty25g51 => (intro w hSw; (try dsimp only at hSw); go_simp; first | done | with_reducible rfl)
              simp only [Act.put, List.setIfInBounds_toArray, List.set_cons_zero, List.set_cons_succ]
              refine GoX.skip 26 rfl (by kernel_rfl) (by kernel_rfl) (by rfl) (fun _ _ _ h => h) P0 ?_
              simp only [Act.put, List.setIfInBounds_toArray, List.set_cons_zero, List.set_cons_succ]
              refine GoX.skip 27 rfl (by kernel_rfl) (by kernel_rfl) (by rfl) (fun _ _ _ h => h) P0 ?_
              simp only [Act.put, List.setIfInBounds_toArray, List.set_cons_zero, List.set_cons_succ]
              refine GoX.skip 28 rfl (by kernel_rfl) (by kernel_rfl) (by rfl) (fun _ _ _ h => h) P0 ?_
              simp only [Act.put, List.setIfInBounds_toArray, List.set_cons_zero, List.set_cons_succ]
              refine GoX.skip 29 rfl (by kernel_rfl) (by kernel_rfl) (by rfl) (fun _ _ _ h => h) P0 ?_
              simp only [Act.put, List.setIfInBounds_toArray, List.set_cons_zero, List.set_cons_succ]
              refine GoX.skip 30 rfl (by kernel_rfl) (by kernel_rfl) (by rfl) (fun _ _ _ h => h) P0 ?_
              simp only [Act.put, List.setIfInBounds_toArray, List.set_cons_zero, List.set_cons_succ]
              refine GoX.skip 31 rfl (by kernel_rfl) (by kernel_rfl) (by rfl) (fun _ _ _ h => h) P0 ?_
              simp only [Act.put, List.setIfInBounds_toArray, List.set_cons_zero, List.set_cons_succ]
              refine GoX.skip 32 rfl (by kernel_rfl) (by kernel_rfl) (by rfl) (fun _ _ _ h => h) P0 ?_
              simp only [Act.put, List.setIfInBounds_toArray, List.set_cons_zero, List.set_cons_succ]
              refine GoX.skip 33 rfl (by kernel_rfl) (by kernel_rfl) (by rfl) (fun _ _ _ h => h) P0 ?_
              simp only [Act.put, List.setIfInBounds_toArray, List.set_cons_zero, List.set_cons_succ]
              refine GoX.skip 34 rfl (by kernel_rfl) (by kernel_rfl) (by rfl) (fun _ _ _ h => h) P0 ?_
              simp only [Act.put, List.setIfInBounds_toArray, List.set_cons_zero, List.set_cons_succ]
              refine GoX.skip 35 rfl (by kernel_rfl) (by kernel_rfl) (by rfl) (fun _ _ _ h => h) P0 ?_
              simp only [Act.put, List.setIfInBounds_toArray, List.set_cons_zero, List.set_cons_succ]
              refine GoX.skip 36 rfl (by kernel_rfl) (by kernel_rfl) (by rfl) (fun _ _ _ h => h) P0 ?_
              simp only [Act.put, List.setIfInBounds_toArray, List.set_cons_zero, List.set_cons_succ]
              refine GoX.last 37 rfl (by kernel_rfl) (by kernel_rfl) (by decide) ?_
              clear P0
              go_wp2_with fail
              go_meet
              exact ⟨_, rfl, HF, Lib.hid (Below.refl _ _).drew⟩
            · obtain ⟨qn, rfl⟩ : ∃ qn : Nat, q = qn := ⟨q.toNat, by omega⟩
              have hq0' : (0 : Int) ≤ (qn : Int) := by omega
              by_cases hq1 : (qn : Int) < (an : Int)
              · obtain ⟨b2, o2, C, xc, yc, zc, e2, hC1, hC, at2⟩ := H.out.at (i := qn) (by omega)
                injection e2 with e2
                injection e2 with e3 e4 e5
                subst e3 e4
                have P0 : wA.drew.cell? ⟨ob, oo + j, none⟩ = some (.int .i64 (qn : Int)) ∧ wA.drew.cell? ⟨b, o + qn * 15 + 3, none⟩ = some (.int .i64 C.en) ∧ wA.drew.cell? ⟨w3.heap.size, 2, none⟩ = some (.int .i64 A.st) := ⟨by rw [HQ.out]; exact HOC.out j hlj wA.drew B6.out.drew, (at2.below B6.out.drew).c3, hst⟩
                have HC := Lib.hid hC
                clear hst hC1 hC at2
                have hbf : befP xs (qn : Int) (pn : Int) ↔ 0 ≤ C.en ∧ C.en < A.st := by
                  unfold befP
                  rw [HAP.out, aP_cast, HC.out, HXL.out]
                  exact ⟨fun h => ⟨h.2.2.1, h.2.2.2⟩, fun h => ⟨hq0', hq1, h.1, h.2⟩⟩
                have HBF := Lib.hid hbf
                clear hbf
                by_cases hen : 0 ≤ C.en
                · have HF : Hid (decide (C.en < A.st) = true ↔ befP xs (qn : Int) (pn : Int)) := Lib.hid (by rw [HBF.out, decide_eq_true_eq]; exact ⟨fun h => ⟨hen, h⟩, fun h => h.2⟩)
                  refine GoX.start 37 (fun w' => w'.cell? ⟨ob, oo + j, none⟩ = some (.int .i64 (qn : Int)) ∧ w'.cell? ⟨b, o + qn * 15 + 3, none⟩ = some (.int .i64 C.en) ∧ w'.cell? ⟨w3.heap.size, 2, none⟩ = some (.int .i64 A.st)) (by kernel_rfl) ?_
                  refine GoX.take 0 rfl (by kernel_rfl) (by kernel_rfl) (by rfl) (fun _ _ _ h => h) (v := ?tv0g95) P0 ?ty0g95 ?tr0g95
                  case ty0g95 => (intro w hSw; (try dsimp only at hSw); go_simp; first | done | with_reducible rfl)
                  simp only [Act.put, List.setIfInBounds_toArray, List.set_cons_zero, List.set_cons_succ]
                  refine GoX.take 1 rfl (by kernel_rfl) (by kernel_rfl) (by rfl) (fun _ _ _ h => h) (v := ?tv1g96) P0 ?ty1g96 ?tr1g96
                  case ty1g96 => (intro w hSw; (try dsimp only at hSw); go_simp; first | done | with_reducible rfl)
                  simp only [Act.put, List.setIfInBounds_toArray, List.set_cons_zero, List.set_cons_succ]
                  refine GoX.take 2 rfl (by kernel_rfl) (by kernel_rfl) (by rfl) (fun _ _ _ h => h) (v := ?tv2g97) P0 ?ty2g97 ?tr2g97
                  case ty2g97 => (intro w hSw; (try dsimp only at hSw); go_simp; first | done | with_reducible rfl)
                  simp only [Act.put, List.setIfInBounds_toArray, List.set_cons_zero, List.set_cons_succ]
                  refine GoX.take 3 rfl (by kernel_rfl) (by kernel_rfl) (by rfl) (fun _ _ _ h => h) (v := ?tv3g98) P0 ?ty3g98 ?tr3g98
                  case ty3g98 => (intro w hSw; (try dsimp only at hSw); go_simp; first | done | with_reducible rfl)
                  simp only [Act.put, List.setIfInBounds_toArray, List.set_cons_zero, List.set_cons_succ]
                  refine GoX.take 4 rfl (by kernel_rfl) (by kernel_rfl) (by rfl) (fun _ _ _ h => h) (v := ?tv4g99) P0 ?ty4g99 ?tr4g99
                  case ty4g99 => (intro w hSw; (try dsimp only at hSw); go_simp; first | done | with_reducible rfl)
                  simp only [Act.put, List.setIfInBounds_toArray, List.set_cons_zero, List.set_cons_succ]
                  refine GoX.take 5 rfl (by kernel_rfl) (by kernel_rfl) (by rfl) (fun _ _ _ h => h) (v := ?tv5g100) P0 ?ty5g100 ?tr5g100
                  case ty5g100 => (intro w hSw; (try dsimp only at hSw); go_simp; first | done | with_reducible rfl)
                  simp only [Act.put, List.setIfInBounds_toArray, List.set_cons_zero, List.set_cons_succ]
                  refine GoX.take 6 rfl (by kernel_rfl) (by kernel_rfl) (by rfl) (fun _ _ _ h => h) (v := ?tv6g101) P0 ?ty6g101 ?tr6g101
                  case ty6g101 => (intro w hSw; (try dsimp only at hSw); go_simp; first | done | with_reducible rfl)
                  simp only [Act.put, List.setIfInBounds_toArray, List.set_cons_zero, List.set_cons_succ]
                  refine GoX.take 7 rfl (by kernel_rfl) (by kernel_rfl) (by rfl) (fun _ _ _ h => h) (v := ?tv7g102) P0 ?ty7g102 ?tr7g102
                  case ty7g102 => (intro w hSw; (try dsimp only at hSw); go_simp; first | done | with_reducible rfl)
                  simp only [Act.put, List.setIfInBounds_toArray, List.set_cons_zero, List.set_cons_succ]
                  refine GoX.take 8 rfl (by kernel_rfl) (by kernel_rfl) (by rfl) (fun _ _ _ h => h) (v := ?tv8g103) P0 ?ty8g103 ?tr8g103
                  case ty8g103 => (intro w hSw; (try dsimp only at hSw); go_simp; first | done | with_reducible rfl)
                  simp only [Act.put, List.setIfInBounds_toArray, List.set_cons_zero, List.set_cons_succ]
                  refine GoX.take 9 rfl (by kernel_rfl) (by kernel_rfl) (by rfl) (fun _ _ _ h => h) (v := ?tv9g104) P0 ?ty9g104 ?tr9g104
                  case ty9g104 => (intro w hSw; (try dsimp only at hSw); go_simp; first | done | with_reducible rfl)
                  simp only [Act.put, List.setIfInBounds_toArray, List.set_cons_zero, List.set_cons_succ]
                  refine GoX.take 10 rfl (by kernel_rfl) (by kernel_rfl) (by rfl) (fun _ _ _ h => h) (v := ?tv10g105) P0 ?ty10g105 ?tr10g105
                  case ty10g105 => (intro w hSw; (try dsimp only at hSw); go_simp; first | done | with_reducible rfl)
                  simp only [Act.put, List.setIfInBounds_toArray, List.set_cons_zero, List.set_cons_succ]
                  refine GoX.take 11 rfl (by kernel_rfl) (by kernel_rfl) (by rfl) (fun _ _ _ h => h) (v := ?tv11g106) P0 ?ty11g106 ?tr11g106
                  case ty11g106 => (intro w hSw; (try dsimp only at hSw); go_simp; first | done | with_reducible rfl)
                  simp only [Act.put, List.setIfInBounds_toArray, List.set_cons_zero, List.set_cons_succ]
                  refine GoX.take 12 rfl (by kernel_rfl) (by kernel_rfl) (by rfl) (fun _ _ _ h => h) (v := ?tv12g107) P0 ?ty12g107 ?tr12g107
                  case ty12g107 => (intro w hSw; (try dsimp only at hSw); go_simp; first | done | with_reducible rfl)
                  simp only [Act.put, List.setIfInBounds_toArray, List.set_cons_zero, List.set_cons_succ]
                  refine GoX.take 13 rfl (by kernel_rfl) (by kernel_rfl) (by rfl) (fun _ _ _ h => h) (v := ?tv13g108) P0 ?ty13g108 ?tr13g108
                  case ty13g108 => (intro w hSw; (try dsimp only at hSw); go_simp; first | done | with_reducible rfl)
                  simp only [Act.put, List.setIfInBounds_toArray, List.set_cons_zero, List.set_cons_succ]
                  refine GoX.take 14 rfl (by kernel_rfl) (by kernel_rfl) (by rfl) (fun _ _ _ h => h) (v := ?tv14g109) P0 ?ty14g109 ?tr14g109
                  case ty14g109 => (intro w hSw; (try dsimp only at hSw); go_simp; first | done | with_reducible rfl)
                  simp only [Act.put, List.setIfInBounds_toArray, List.set_cons_zero, List.set_cons_succ]
                  refine GoX.take 15 rfl (by kernel_rfl) (by kernel_rfl) (by rfl) (fun _ _ _ h => h) (v := ?tv15g110) P0 ?ty15g110 ?tr15g110
                  case ty15g110 => (intro w hSw; (try dsimp only at hSw); go_simp; first | done | with_reducible rfl)
                  simp only [Act.put, List.setIfInBounds_toArray, List.set_cons_zero, List.set_cons_succ]
                  refine GoX.take 16 rfl (by kernel_rfl) (by kernel_rfl) (by rfl) (fun _ _ _ h => h) (v := ?tv16g111) P0 ?ty16g111 ?tr16g111
                  case ty16g111 => (intro w hSw; (try dsimp only at hSw); go_simp; first | done | with_reducible rfl)
                  simp only [Act.put, List.setIfInBounds_toArray, List.set_cons_zero, List.set_cons_succ]
                  refine GoX.take 17 rfl (by kernel_rfl) (by kernel_rfl) (by rfl) (fun _ _ _ h => h) (v := ?tv17g112) P0 ?ty17g112 ?tr17g112
                  case ty17g112 => (intro w hSw; (try dsimp only at hSw); go_simp; first | done | with_reducible rfl)
                  simp only [Act.put, List.setIfInBounds_toArray, List.set_cons_zero, List.set_cons_succ]
                  refine GoX.take 18 rfl (by kernel_rfl) (by kernel_rfl) (by rfl) (fun _ _ _ h => h) (v := ?tv18g113) P0 ?ty18g113 ?tr18g113
                  case ty18g113 => (intro w hSw; (try dsimp only at hSw); go_simp; first | done | with_reducible rfl)
                  simp only [Act.put, List.setIfInBounds_toArray, List.set_cons_zero, List.set_cons_succ]
                  refine GoX.take 19 rfl (by kernel_rfl) (by kernel_rfl) (by rfl) (fun _ _ _ h => h) (v := ?tv19g114) P0 ?ty19g114 ?tr19g114
                  case ty19g114 => (intro w hSw; (try dsimp only at hSw); go_simp; first | done | with_reducible rfl)
                  simp only [Act.put, List.setIfInBounds_toArray, List.set_cons_zero, List.set_cons_succ]
                  refine GoX.take 20 rfl (by kernel_rfl) (by kernel_rfl) (by rfl) (fun _ _ _ h => h) (v := ?tv20g115) P0 ?ty20g115 ?tr20g115
                  case ty20g115 => (intro w hSw; (try dsimp only at hSw); go_simp; first | done | with_reducible rfl)
                  simp only [Act.put, List.setIfInBounds_toArray, List.set_cons_zero, List.set_cons_succ]
                  refine GoX.take 21 rfl (by kernel_rfl) (by kernel_rfl) (by rfl) (fun _ _ _ h => h) (v := ?tv21g116) P0 ?ty21g116 ?tr21g116
                  case ty21g116 => (intro w hSw; (try dsimp only at hSw); go_simp; first | done | with_reducible rfl)
                  simp only [Act.put, List.setIfInBounds_toArray, List.set_cons_zero, List.set_cons_succ]
                  refine GoX.take 22 rfl (by kernel_rfl) (by kernel_rfl) (by rfl) (fun _ _ _ h => h) (v := ?tv22g117) P0 ?ty22g117 ?tr22g117
                  case ty22g117 => (intro w hSw; (try dsimp only at hSw); go_simp; first | done | with_reducible rfl)
                  simp only [Act.put, List.setIfInBounds_toArray, List.set_cons_zero, List.set_cons_succ]
                  refine GoX.take 23 rfl (by kernel_rfl) (by kernel_rfl) (by rfl) (fun _ _ _ h => h) (v := ?tv23g118) P0 ?ty23g118 ?tr23g118
                  case ty23g118 => (intro w hSw; (try dsimp only at hSw); go_simp; first | done | with_reducible rfl)
                  simp only [Act.put, List.setIfInBounds_toArray, List.set_cons_zero, List.set_cons_succ]
                  refine GoX.take 24 rfl (by kernel_rfl) (by kernel_rfl) (by rfl) (fun _ _ _ h => h) (v := ?tv24g119) P0 ?ty24g119 ?tr24g119
                  case ty24g119 => (intro w hSw; (try dsimp only at hSw); go_simp; first | done | with_reducible rfl)
                  simp only [Act.put, List.setIfInBounds_toArray, List.set_cons_zero, List.set_cons_succ]
                  refine GoX.take 25 rfl (by kernel_rfl) (by kernel_rfl) (by rfl) (fun _ _ _ h => h) (v := ?tv25g120) P0 ?ty25g120 ?tr25g120
                  case ty25g120 => (intro w hSw; (try dsimp only at hSw); go_simp; first | done | with_reducible rfl)
                  simp only [Act.put, List.setIfInBounds_toArray, List.set_cons_zero, List.set_cons_succ]
                  refine GoX.take 26 rfl (by kernel_rfl) (by kernel_rfl) (by rfl) (fun _ _ _ h => h) (v := ?tv26g121) P0 ?ty26g121 ?tr26g121
                  case ty26g121 => (intro w hSw; (try dsimp only at hSw); go_simp; first | done | with_reducible rfl)
                  simp only [Act.put, List.setIfInBounds_toArray, List.set_cons_zero, List.set_cons_succ]
                  refine GoX.take 27 rfl (by kernel_rfl) (by kernel_rfl) (by rfl) (fun _ _ _ h => h) (v := ?tv27g122) P0 ?ty27g122 ?tr27g122
                  case ty27g122 => (intro w hSw; (try dsimp only at hSw); go_simp; first | done | with_reducible rfl)
                  simp only [Act.put, List.setIfInBounds_toArray, List.set_cons_zero, List.set_cons_succ]
                  refine GoX.take 28 rfl (by kernel_rfl) (by kernel_rfl) (by rfl) (fun _ _ _ h => h) (v := ?tv28g123) P0 ?ty28g123 ?tr28g123
                  case ty28g123 => (intro w hSw; (try dsimp only at hSw); go_simp; first | done | with_reducible rfl)
                  simp only [Act.put, List.setIfInBounds_toArray, List.set_cons_zero, List.set_cons_succ]
                  refine GoX.take 29 rfl (by kernel_rfl) (by kernel_rfl) (by rfl) (fun _ _ _ h => h) (v := ?tv29g124) P0 ?ty29g124 ?tr29g124
                  case ty29g124 => (intro w hSw; (try dsimp only at hSw); go_simp; first | done | with_reducible rfl)
                  simp only [Act.put, List.setIfInBounds_toArray, List.set_cons_zero, List.set_cons_succ]
                  refine GoX.take 30 rfl (by kernel_rfl) (by kernel_rfl) (by rfl) (fun _ _ _ h => h) (v := ?tv30g125) P0 ?ty30g125 ?tr30g125
                  case ty30g125 => (intro w hSw; (try dsimp only at hSw); go_simp; first | done | with_reducible rfl)
                  simp only [Act.put, List.setIfInBounds_toArray, List.set_cons_zero, List.set_cons_succ]
                  refine GoX.take 31 rfl (by kernel_rfl) (by kernel_rfl) (by rfl) (fun _ _ _ h => h) (v := ?tv31g126) P0 ?ty31g126 ?tr31g126
                  case ty31g126 => (intro w hSw; (try dsimp only at hSw); go_simp; first | done | with_reducible rfl)
                  simp only [Act.put, List.setIfInBounds_toArray, List.set_cons_zero, List.set_cons_succ]
                  refine GoX.take 32 rfl (by kernel_rfl) (by kernel_rfl) (by rfl) (fun _ _ _ h => h) (v := ?tv32g127) P0 ?ty32g127 ?tr32g127
                  case ty32g127 => (intro w hSw; (try dsimp only at hSw); go_simp; first | done | with_reducible rfl)
                  simp only [Act.put, List.setIfInBounds_toArray, List.set_cons_zero, List.set_cons_succ]
                  refine GoX.take 33 rfl (by kernel_rfl) (by kernel_rfl) (by rfl) (fun _ _ _ h => h) (v := ?tv33g128) P0 ?ty33g128 ?tr33g128
                  case ty33g128 => (intro w hSw; (try dsimp only at hSw); go_simp; first | done | with_reducible rfl)
                  simp only [Act.put, List.setIfInBounds_toArray, List.set_cons_zero, List.set_cons_succ]
                  refine GoX.take 34 rfl (by kernel_rfl) (by kernel_rfl) (by rfl) (fun _ _ _ h => h) (v := ?tv34g129) P0 ?ty34g129 ?tr34g129
                  case ty34g129 => (intro w hSw; (try dsimp only at hSw); go_simp; first | done | with_reducible rfl)
                  simp only [Act.put, List.setIfInBounds_toArray, List.set_cons_zero, List.set_cons_succ]
                  refine GoX.take 35 rfl (by kernel_rfl) (by kernel_rfl) (by rfl) (fun _ _ _ h => h) (v := ?tv35g130) P0 ?ty35g130 ?tr35g130
                  case ty35g130 => (intro w hSw; (try dsimp only at hSw); go_simp; first | done | with_reducible rfl)
                  simp only [Act.put, List.setIfInBounds_toArray, List.set_cons_zero, List.set_cons_succ]
                  refine GoX.take 36 rfl (by kernel_rfl) (by kernel_rfl) (by rfl) (fun _ _ _ h => h) (v := ?tv36g131) P0 ?ty36g131 ?tr36g131
                  case ty36g131 => (intro w hSw; (try dsimp only at hSw); go_simp; first | done | with_reducible rfl)
                  simp only [Act.put, List.setIfInBounds_toArray, List.set_cons_zero, List.set_cons_succ]
                  refine GoX.last 37 rfl (by kernel_rfl) (by kernel_rfl) (by decide) ?_
                  clear P0
                  go_wp2_with fail
                  go_meet
                  exact ⟨_, rfl, HF, Lib.hid (Below.refl _ _).drew⟩
                · have HF : Hid (false = true ↔ befP xs (qn : Int) (pn : Int)) := Lib.hid (by rw [HBF.out]; exact ⟨fun h => (nomatch h), fun h => absurd h.1 hen⟩)
                  refine GoX.start 37 (fun w' => w'.cell? ⟨ob, oo + j, none⟩ = some (.int .i64 (qn : Int)) ∧ w'.cell? ⟨b, o + qn * 15 + 3, none⟩ = some (.int .i64 C.en) ∧ w'.cell? ⟨w3.heap.size, 2, none⟩ = some (.int .i64 A.st)) (by kernel_rfl) ?_
                  refine GoX.take 0 rfl (by kernel_rfl) (by kernel_rfl) (by rfl) (fun _ _ _ h => h) (v := ?tv0g69) P0 ?ty0g69 ?tr0g69
                  case ty0g69 => (intro w hSw; (try dsimp only at hSw); go_simp; first | done | with_reducible rfl)
                  simp only [Act.put, List.setIfInBounds_toArray, List.set_cons_zero, List.set_cons_succ]
                  refine GoX.take 1 rfl (by kernel_rfl) (by kernel_rfl) (by rfl) (fun _ _ _ h => h) (v := ?tv1g70) P0 ?ty1g70 ?tr1g70
                  case ty1g70 => (intro w hSw; (try dsimp only at hSw); go_simp; first | done | with_reducible rfl)
                  simp only [Act.put, List.setIfInBounds_toArray, List.set_cons_zero, List.set_cons_succ]
                  refine GoX.take 2 rfl (by kernel_rfl) (by kernel_rfl) (by rfl) (fun _ _ _ h => h) (v := ?tv2g71) P0 ?ty2g71 ?tr2g71
                  case ty2g71 => (intro w hSw; (try dsimp only at hSw); go_simp; first | done | with_reducible rfl)
                  simp only [Act.put, List.setIfInBounds_toArray, List.set_cons_zero, List.set_cons_succ]
                  refine GoX.take 3 rfl (by kernel_rfl) (by kernel_rfl) (by rfl) (fun _ _ _ h => h) (v := ?tv3g72) P0 ?ty3g72 ?tr3g72
                  case ty3g72 => (intro w hSw; (try dsimp only at hSw); go_simp; first | done | with_reducible rfl)
                  simp only [Act.put, List.setIfInBounds_toArray, List.set_cons_zero, List.set_cons_succ]
                  refine GoX.take 4 rfl (by kernel_rfl) (by kernel_rfl) (by rfl) (fun _ _ _ h => h) (v := ?tv4g73) P0 ?ty4g73 ?tr4g73
                  case ty4g73 => (intro w hSw; (try dsimp only at hSw); go_simp; first | done | with_reducible rfl)
                  simp only [Act.put, List.setIfInBounds_toArray, List.set_cons_zero, List.set_cons_succ]
                  refine GoX.take 5 rfl (by kernel_rfl) (by kernel_rfl) (by rfl) (fun _ _ _ h => h) (v := ?tv5g74) P0 ?ty5g74 ?tr5g74
                  case ty5g74 => (intro w hSw; (try dsimp only at hSw); go_simp; first | done | with_reducible rfl)
                  simp only [Act.put, List.setIfInBounds_toArray, List.set_cons_zero, List.set_cons_succ]
                  refine GoX.take 6 rfl (by kernel_rfl) (by kernel_rfl) (by rfl) (fun _ _ _ h => h) (v := ?tv6g75) P0 ?ty6g75 ?tr6g75
                  case ty6g75 => (intro w hSw; (try dsimp only at hSw); go_simp; first | done | with_reducible rfl)
                  simp only [Act.put, List.setIfInBounds_toArray, List.set_cons_zero, List.set_cons_succ]
                  refine GoX.take 7 rfl (by kernel_rfl) (by kernel_rfl) (by rfl) (fun _ _ _ h => h) (v := ?tv7g76) P0 ?ty7g76 ?tr7g76
                  case ty7g76 => (intro w hSw; (try dsimp only at hSw); go_simp; first | done | with_reducible rfl)
                  simp only [Act.put, List.setIfInBounds_toArray, List.set_cons_zero, List.set_cons_succ]
                  refine GoX.take 8 rfl (by kernel_rfl) (by kernel_rfl) (by rfl) (fun _ _ _ h => h) (v := ?tv8g77) P0 ?ty8g77 ?tr8g77
                  case ty8g77 => (intro w hSw; (try dsimp only at hSw); go_simp; first | done | with_reducible rfl)
                  simp only [Act.put, List.setIfInBounds_toArray, List.set_cons_zero, List.set_cons_succ]
                  refine GoX.take 9 rfl (by kernel_rfl) (by kernel_rfl) (by rfl) (fun _ _ _ h => h) (v := ?tv9g78) P0 ?ty9g78 ?tr9g78
                  case ty9g78 => (intro w hSw; (try dsimp only at hSw); go_simp; first | done | with_reducible rfl)
                  simp only [Act.put, List.setIfInBounds_toArray, List.set_cons_zero, List.set_cons_succ]
                  refine GoX.take 10 rfl (by kernel_rfl) (by kernel_rfl) (by rfl) (fun _ _ _ h => h) (v := ?tv10g79) P0 ?ty10g79 ?tr10g79
                  case ty10g79 => (intro w hSw; (try dsimp only at hSw); go_simp; first | done | with_reducible rfl)
                  simp only [Act.put, List.setIfInBounds_toArray, List.set_cons_zero, List.set_cons_succ]
                  refine GoX.take 11 rfl (by kernel_rfl) (by kernel_rfl) (by rfl) (fun _ _ _ h => h) (v := ?tv11g80) P0 ?ty11g80 ?tr11g80
                  case ty11g80 => (intro w hSw; (try dsimp only at hSw); go_simp; first | done | with_reducible rfl)
                  simp only [Act.put, List.setIfInBounds_toArray, List.set_cons_zero, List.set_cons_succ]
                  refine GoX.take 12 rfl (by kernel_rfl) (by kernel_rfl) (by rfl) (fun _ _ _ h => h) (v := ?tv12g81) P0 ?ty12g81 ?tr12g81
                  case ty12g81 => (intro w hSw; (try dsimp only at hSw); go_simp; first | done | with_reducible rfl)
                  simp only [Act.put, List.setIfInBounds_toArray, List.set_cons_zero, List.set_cons_succ]
                  refine GoX.take 13 rfl (by kernel_rfl) (by kernel_rfl) (by rfl) (fun _ _ _ h => h) (v := ?tv13g82) P0 ?ty13g82 ?tr13g82
                  case ty13g82 => (intro w hSw; (try dsimp only at hSw); go_simp; first | done | with_reducible rfl)
                  simp only [Act.put, List.setIfInBounds_toArray, List.set_cons_zero, List.set_cons_succ]
                  refine GoX.take 14 rfl (by kernel_rfl) (by kernel_rfl) (by rfl) (fun _ _ _ h => h) (v := ?tv14g83) P0 ?ty14g83 ?tr14g83
                  case ty14g83 => (intro w hSw; (try dsimp only at hSw); go_simp; first | done | with_reducible rfl)
                  simp only [Act.put, List.setIfInBounds_toArray, List.set_cons_zero, List.set_cons_succ]
                  refine GoX.take 15 rfl (by kernel_rfl) (by kernel_rfl) (by rfl) (fun _ _ _ h => h) (v := ?tv15g84) P0 ?ty15g84 ?tr15g84
                  case ty15g84 => (intro w hSw; (try dsimp only at hSw); go_simp; first | done | with_reducible rfl)
                  simp only [Act.put, List.setIfInBounds_toArray, List.set_cons_zero, List.set_cons_succ]
                  refine GoX.take 16 rfl (by kernel_rfl) (by kernel_rfl) (by rfl) (fun _ _ _ h => h) (v := ?tv16g85) P0 ?ty16g85 ?tr16g85
                  case ty16g85 => (intro w hSw; (try dsimp only at hSw); go_simp; first | done | with_reducible rfl)
                  simp only [Act.put, List.setIfInBounds_toArray, List.set_cons_zero, List.set_cons_succ]
                  refine GoX.take 17 rfl (by kernel_rfl) (by kernel_rfl) (by rfl) (fun _ _ _ h => h) (v := ?tv17g86) P0 ?ty17g86 ?tr17g86
                  case ty17g86 => (intro w hSw; (try dsimp only at hSw); go_simp; first | done | with_reducible rfl)
                  simp only [Act.put, List.setIfInBounds_toArray, List.set_cons_zero, List.set_cons_succ]
                  refine GoX.take 18 rfl (by kernel_rfl) (by kernel_rfl) (by rfl) (fun _ _ _ h => h) (v := ?tv18g87) P0 ?ty18g87 ?tr18g87
                  case ty18g87 => (intro w hSw; (try dsimp only at hSw); go_simp; first | done | with_reducible rfl)
                  simp only [Act.put, List.setIfInBounds_toArray, List.set_cons_zero, List.set_cons_succ]
                  refine GoX.take 19 rfl (by kernel_rfl) (by kernel_rfl) (by rfl) (fun _ _ _ h => h) (v := ?tv19g88) P0 ?ty19g88 ?tr19g88
                  case ty19g88 => (intro w hSw; (try dsimp only at hSw); go_simp; first | done | with_reducible rfl)
                  simp only [Act.put, List.setIfInBounds_toArray, List.set_cons_zero, List.set_cons_succ]
                  refine GoX.take 20 rfl (by kernel_rfl) (by kernel_rfl) (by rfl) (fun _ _ _ h => h) (v := ?tv20g89) P0 ?ty20g89 ?tr20g89
                  case ty20g89 => (intro w hSw; (try dsimp only at hSw); go_simp; first | done | with_reducible rfl)
                  simp only [Act.put, List.setIfInBounds_toArray, List.set_cons_zero, List.set_cons_succ]
                  refine GoX.take 21 rfl (by kernel_rfl) (by kernel_rfl) (by rfl) (fun _ _ _ h => h) (v := ?tv21g90) P0 ?ty21g90 ?tr21g90
                  case ty21g90 => (intro w hSw; (try dsimp only at hSw); go_simp; first | done | with_reducible rfl)
                  simp only [Act.put, List.setIfInBounds_toArray, List.set_cons_zero, List.set_cons_succ]
                  refine GoX.take 22 rfl (by kernel_rfl) (by kernel_rfl) (by rfl) (fun _ _ _ h => h) (v := ?tv22g91) P0 ?ty22g91 ?tr22g91
                  case ty22g91 => (intro w hSw; (try dsimp only at hSw); go_simp; first | done | with_reducible rfl)
                  simp only [Act.put, List.setIfInBounds_toArray, List.set_cons_zero, List.set_cons_succ]
                  refine GoX.take 23 rfl (by kernel_rfl) (by kernel_rfl) (by rfl) (fun _ _ _ h => h) (v := ?tv23g92) P0 ?ty23g92 ?tr23g92
                  case ty23g92 => (intro w hSw; (try dsimp only at hSw); go_simp; first | done | with_reducible rfl)
                  simp only [Act.put, List.setIfInBounds_toArray, List.set_cons_zero, List.set_cons_succ]
                  refine GoX.take 24 rfl (by kernel_rfl) (by kernel_rfl) (by rfl) (fun _ _ _ h => h) (v := ?tv24g93) P0 ?ty24g93 ?tr24g93
                  case ty24g93 => (intro w hSw; (try dsimp only at hSw); go_simp; first | done | with_reducible rfl)
                  simp only [Act.put, List.setIfInBounds_toArray, List.set_cons_zero, List.set_cons_succ]
                  refine GoX.take 25 rfl (by kernel_rfl) (by kernel_rfl) (by rfl) (fun _ _ _ h => h) (v := ?tv25g94) P0 ?ty25g94 ?tr25g94
                  case ty25g94 => (intro w hSw; (try dsimp only at hSw); go_simp; first | done | with_reducible rfl)
                  simp only [Act.put, List.setIfInBounds_toArray, List.set_cons_zero, List.set_cons_succ]
                  refine GoX.skip 26 rfl (by kernel_rfl) (by kernel_rfl) (by rfl) (fun _ _ _ h => h) P0 ?_
                  simp only [Act.put, List.setIfInBounds_toArray, List.set_cons_zero, List.set_cons_succ]
                  refine GoX.skip 27 rfl (by kernel_rfl) (by kernel_rfl) (by rfl) (fun _ _ _ h => h) P0 ?_
                  simp only [Act.put, List.setIfInBounds_toArray, List.set_cons_zero, List.set_cons_succ]
                  refine GoX.skip 28 rfl (by kernel_rfl) (by kernel_rfl) (by rfl) (fun _ _ _ h => h) P0 ?_
                  simp only [Act.put, List.setIfInBounds_toArray, List.set_cons_zero, List.set_cons_succ]
                  refine GoX.skip 29 rfl (by kernel_rfl) (by kernel_rfl) (by rfl) (fun _ _ _ h => h) P0 ?_
                  simp only [Act.put, List.setIfInBounds_toArray, List.set_cons_zero, List.set_cons_succ]
                  refine GoX.skip 30 rfl (by kernel_rfl) (by kernel_rfl) (by rfl) (fun _ _ _ h => h) P0 ?_
                  simp only [Act.put, List.setIfInBounds_toArray, List.set_cons_zero, List.set_cons_succ]
                  refine GoX.skip 31 rfl (by kernel_rfl) (by kernel_rfl) (by rfl) (fun _ _ _ h => h) P0 ?_
                  simp only [Act.put, List.setIfInBounds_toArray, List.set_cons_zero, List.set_cons_succ]
                  refine GoX.skip 32 rfl (by kernel_rfl) (by kernel_rfl) (by rfl) (fun _ _ _ h => h) P0 ?_
                  simp only [Act.put, List.setIfInBounds_toArray, List.set_cons_zero, List.set_cons_succ]
                  refine GoX.skip 33 rfl (by kernel_rfl) (by kernel_rfl) (by rfl) (fun _ _ _ h => h) P0 ?_
                  simp only [Act.put, List.setIfInBounds_toArray, List.set_cons_zero, List.set_cons_succ]
                  refine GoX.skip 34 rfl (by kernel_rfl) (by kernel_rfl) (by rfl) (fun _ _ _ h => h) P0 ?_
                  simp only [Act.put, List.setIfInBounds_toArray, List.set_cons_zero, List.set_cons_succ]
                  refine GoX.skip 35 rfl (by kernel_rfl) (by kernel_rfl) (by rfl) (fun _ _ _ h => h) P0 ?_
                  simp only [Act.put, List.setIfInBounds_toArray, List.set_cons_zero, List.set_cons_succ]
                  refine GoX.skip 36 rfl (by kernel_rfl) (by kernel_rfl) (by rfl) (fun _ _ _ h => h) P0 ?_
                  simp only [Act.put, List.setIfInBounds_toArray, List.set_cons_zero, List.set_cons_succ]
                  refine GoX.last 37 rfl (by kernel_rfl) (by kernel_rfl) (by decide) ?_
                  clear P0
                  go_wp2_with fail
                  go_meet
                  exact ⟨_, rfl, HF, Lib.hid (Below.refl _ _).drew⟩
              · have P0 : wA.drew.cell? ⟨ob, oo + j, none⟩ = some (.int .i64 (qn : Int)) := by rw [HQ.out]; exact HOC.out j hlj wA.drew B6.out.drew
                have HF : Hid (false = true ↔ befP xs (qn : Int) (pn : Int)) := Lib.hid ⟨fun h => (nomatch h), fun h => absurd h.2.1 (by have := HXL.out; omega)⟩
                clear hst
                refine GoX.start 37 (fun w' => w'.cell? ⟨ob, oo + j, none⟩ = some (.int .i64 (qn : Int))) (by kernel_rfl) ?_
                refine GoX.take 0 rfl (by kernel_rfl) (by kernel_rfl) (by rfl) (fun _ _ _ h => h) (v := ?tv0g52) P0 ?ty0g52 ?tr0g52
                case ty0g52 => (intro w hSw; (try dsimp only at hSw); go_simp; first | done | with_reducible rfl)
                simp only [Act.put, List.setIfInBounds_toArray, List.set_cons_zero, List.set_cons_succ]
                refine GoX.take 1 rfl (by kernel_rfl) (by kernel_rfl) (by rfl) (fun _ _ _ h => h) (v := ?tv1g53) P0 ?ty1g53 ?tr1g53
                case ty1g53 => (intro w hSw; (try dsimp only at hSw); go_simp; first | done | with_reducible rfl)
                simp only [Act.put, List.setIfInBounds_toArray, List.set_cons_zero, List.set_cons_succ]
                refine GoX.take 2 rfl (by kernel_rfl) (by kernel_rfl) (by rfl) (fun _ _ _ h => h) (v := ?tv2g54) P0 ?ty2g54 ?tr2g54
                case ty2g54 => (intro w hSw; (try dsimp only at hSw); go_simp; first | done | with_reducible rfl)
                simp only [Act.put, List.setIfInBounds_toArray, List.set_cons_zero, List.set_cons_succ]
                refine GoX.take 3 rfl (by kernel_rfl) (by kernel_rfl) (by rfl) (fun _ _ _ h => h) (v := ?tv3g55) P0 ?ty3g55 ?tr3g55
                case ty3g55 => (intro w hSw; (try dsimp only at hSw); go_simp; first | done | with_reducible rfl)
                simp only [Act.put, List.setIfInBounds_toArray, List.set_cons_zero, List.set_cons_succ]
                refine GoX.take 4 rfl (by kernel_rfl) (by kernel_rfl) (by rfl) (fun _ _ _ h => h) (v := ?tv4g56) P0 ?ty4g56 ?tr4g56
                case ty4g56 => (intro w hSw; (try dsimp only at hSw); go_simp; first | done | with_reducible rfl)
                simp only [Act.put, List.setIfInBounds_toArray, List.set_cons_zero, List.set_cons_succ]
                refine GoX.take 5 rfl (by kernel_rfl) (by kernel_rfl) (by rfl) (fun _ _ _ h => h) (v := ?tv5g57) P0 ?ty5g57 ?tr5g57
                case ty5g57 => (intro w hSw; (try dsimp only at hSw); go_simp; first | done | with_reducible rfl)
                simp only [Act.put, List.setIfInBounds_toArray, List.set_cons_zero, List.set_cons_succ]
                refine GoX.take 6 rfl (by kernel_rfl) (by kernel_rfl) (by rfl) (fun _ _ _ h => h) (v := ?tv6g58) P0 ?ty6g58 ?tr6g58
                case ty6g58 => (intro w hSw; (try dsimp only at hSw); go_simp; first | done | with_reducible rfl)
                simp only [Act.put, List.setIfInBounds_toArray, List.set_cons_zero, List.set_cons_succ]
                refine GoX.take 7 rfl (by kernel_rfl) (by kernel_rfl) (by rfl) (fun _ _ _ h => h) (v := ?tv7g59) P0 ?ty7g59 ?tr7g59
                case ty7g59 => (intro w hSw; (try dsimp only at hSw); go_simp; first | done | with_reducible rfl)
                simp only [Act.put, List.setIfInBounds_toArray, List.set_cons_zero, List.set_cons_succ]
                refine GoX.take 8 rfl (by kernel_rfl) (by kernel_rfl) (by rfl) (fun _ _ _ h => h) (v := ?tv8g60) P0 ?ty8g60 ?tr8g60
                case ty8g60 => (intro w hSw; (try dsimp only at hSw); go_simp; first | done | with_reducible rfl)
                simp only [Act.put, List.setIfInBounds_toArray, List.set_cons_zero, List.set_cons_succ]
                refine GoX.take 9 rfl (by kernel_rfl) (by kernel_rfl) (by rfl) (fun _ _ _ h => h) (v := ?tv9g61) P0 ?ty9g61 ?tr9g61
                case ty9g61 => (intro w hSw; (try dsimp only at hSw); go_simp; first | done | with_reducible rfl)
                simp only [Act.put, List.setIfInBounds_toArray, List.set_cons_zero, List.set_cons_succ]
                refine GoX.take 10 rfl (by kernel_rfl) (by kernel_rfl) (by rfl) (fun _ _ _ h => h) (v := ?tv10g62) P0 ?ty10g62 ?tr10g62
                case ty10g62 => (intro w hSw; (try dsimp only at hSw); go_simp; first | done | with_reducible rfl)
                simp only [Act.put, List.setIfInBounds_toArray, List.set_cons_zero, List.set_cons_succ]
                refine GoX.take 11 rfl (by kernel_rfl) (by kernel_rfl) (by rfl) (fun _ _ _ h => h) (v := ?tv11g63) P0 ?ty11g63 ?tr11g63
                case ty11g63 => (intro w hSw; (try dsimp only at hSw); go_simp; first | done | with_reducible rfl)
                simp only [Act.put, List.setIfInBounds_toArray, List.set_cons_zero, List.set_cons_succ]
                refine GoX.take 12 rfl (by kernel_rfl) (by kernel_rfl) (by rfl) (fun _ _ _ h => h) (v := ?tv12g64) P0 ?ty12g64 ?tr12g64
                case ty12g64 => (intro w hSw; (try dsimp only at hSw); go_simp; first | done | with_reducible rfl)
                simp only [Act.put, List.setIfInBounds_toArray, List.set_cons_zero, List.set_cons_succ]
                refine GoX.take 13 rfl (by kernel_rfl) (by kernel_rfl) (by rfl) (fun _ _ _ h => h) (v := ?tv13g65) P0 ?ty13g65 ?tr13g65
                case ty13g65 => (intro w hSw; (try dsimp only at hSw); go_simp; first | done | with_reducible rfl)
                simp only [Act.put, List.setIfInBounds_toArray, List.set_cons_zero, List.set_cons_succ]
                refine GoX.take 14 rfl (by kernel_rfl) (by kernel_rfl) (by rfl) (fun _ _ _ h => h) (v := ?tv14g66) P0 ?ty14g66 ?tr14g66
                case ty14g66 => (intro w hSw; (try dsimp only at hSw); go_simp; first | done | with_reducible rfl)
                simp only [Act.put, List.setIfInBounds_toArray, List.set_cons_zero, List.set_cons_succ]
                refine GoX.skip 15 rfl (by kernel_rfl) (by kernel_rfl) (by rfl) (fun _ _ _ h => h) P0 ?_
                simp only [Act.put, List.setIfInBounds_toArray, List.set_cons_zero, List.set_cons_succ]
                refine GoX.skip 16 rfl (by kernel_rfl) (by kernel_rfl) (by rfl) (fun _ _ _ h => h) P0 ?_
                simp only [Act.put, List.setIfInBounds_toArray, List.set_cons_zero, List.set_cons_succ]
                refine GoX.skip 17 rfl (by kernel_rfl) (by kernel_rfl) (by rfl) (fun _ _ _ h => h) P0 ?_
                simp only [Act.put, List.setIfInBounds_toArray, List.set_cons_zero, List.set_cons_succ]
                refine GoX.skip 18 rfl (by kernel_rfl) (by kernel_rfl) (by rfl) (fun _ _ _ h => h) P0 ?_
                simp only [Act.put, List.setIfInBounds_toArray, List.set_cons_zero, List.set_cons_succ]
                refine GoX.skip 19 rfl (by kernel_rfl) (by kernel_rfl) (by rfl) (fun _ _ _ h => h) P0 ?_
                simp only [Act.put, List.setIfInBounds_toArray, List.set_cons_zero, List.set_cons_succ]
                refine GoX.skip 20 rfl (by kernel_rfl) (by kernel_rfl) (by rfl) (fun _ _ _ h => h) P0 ?_
                simp only [Act.put, List.setIfInBounds_toArray, List.set_cons_zero, List.set_cons_succ]
                refine GoX.skip 21 rfl (by kernel_rfl) (by kernel_rfl) (by rfl) (fun _ _ _ h => h) P0 ?_
                simp only [Act.put, List.setIfInBounds_toArray, List.set_cons_zero, List.set_cons_succ]
                refine GoX.skip 22 rfl (by kernel_rfl) (by kernel_rfl) (by rfl) (fun _ _ _ h => h) P0 ?_
                simp only [Act.put, List.setIfInBounds_toArray, List.set_cons_zero, List.set_cons_succ]
                refine GoX.skip 23 rfl (by kernel_rfl) (by kernel_rfl) (by rfl) (fun _ _ _ h => h) P0 ?_
                simp only [Act.put, List.setIfInBounds_toArray, List.set_cons_zero, List.set_cons_succ]
                refine GoX.take 24 rfl (by kernel_rfl) (by kernel_rfl) (by rfl) (fun _ _ _ h => h) (v := ?tv24g67) P0 ?ty24g67 ?tr24g67
                case ty24g67 => (intro w hSw; (try dsimp only at hSw); go_simp; first | done | with_reducible rfl)
                simp only [Act.put, List.setIfInBounds_toArray, List.set_cons_zero, List.set_cons_succ]
                refine GoX.take 25 rfl (by kernel_rfl) (by kernel_rfl) (by rfl) (fun _ _ _ h => h) (v := ?tv25g68) P0 ?ty25g68 ?tr25g68
                case ty25g68 => (intro w hSw; (try dsimp only at hSw); go_simp; first | done | with_reducible rfl)
                simp only [Act.put, List.setIfInBounds_toArray, List.set_cons_zero, List.set_cons_succ]
                refine GoX.skip 26 rfl (by kernel_rfl) (by kernel_rfl) (by rfl) (fun _ _ _ h => h) P0 ?_
                simp only [Act.put, List.setIfInBounds_toArray, List.set_cons_zero, List.set_cons_succ]
                refine GoX.skip 27 rfl (by kernel_rfl) (by kernel_rfl) (by rfl) (fun _ _ _ h => h) P0 ?_
                simp only [Act.put, List.setIfInBounds_toArray, List.set_cons_zero, List.set_cons_succ]
                refine GoX.skip 28 rfl (by kernel_rfl) (by kernel_rfl) (by rfl) (fun _ _ _ h => h) P0 ?_
                simp only [Act.put, List.setIfInBounds_toArray, List.set_cons_zero, List.set_cons_succ]
                refine GoX.skip 29 rfl (by kernel_rfl) (by kernel_rfl) (by rfl) (fun _ _ _ h => h) P0 ?_
                simp only [Act.put, List.setIfInBounds_toArray, List.set_cons_zero, List.set_cons_succ]
                refine GoX.skip 30 rfl (by kernel_rfl) (by kernel_rfl) (by rfl) (fun _ _ _ h => h) P0 ?_
                simp only [Act.put, List.setIfInBounds_toArray, List.set_cons_zero, List.set_cons_succ]
                refine GoX.skip 31 rfl (by kernel_rfl) (by kernel_rfl) (by rfl) (fun _ _ _ h => h) P0 ?_
                simp only [Act.put, List.setIfInBounds_toArray, List.set_cons_zero, List.set_cons_succ]
                refine GoX.skip 32 rfl (by kernel_rfl) (by kernel_rfl) (by rfl) (fun _ _ _ h => h) P0 ?_
                simp only [Act.put, List.setIfInBounds_toArray, List.set_cons_zero, List.set_cons_succ]
                refine GoX.skip 33 rfl (by kernel_rfl) (by kernel_rfl) (by rfl) (fun _ _ _ h => h) P0 ?_
                simp only [Act.put, List.setIfInBounds_toArray, List.set_cons_zero, List.set_cons_succ]
                refine GoX.skip 34 rfl (by kernel_rfl) (by kernel_rfl) (by rfl) (fun _ _ _ h => h) P0 ?_
                simp only [Act.put, List.setIfInBounds_toArray, List.set_cons_zero, List.set_cons_succ]
                refine GoX.skip 35 rfl (by kernel_rfl) (by kernel_rfl) (by rfl) (fun _ _ _ h => h) P0 ?_
                simp only [Act.put, List.setIfInBounds_toArray, List.set_cons_zero, List.set_cons_succ]
                refine GoX.skip 36 rfl (by kernel_rfl) (by kernel_rfl) (by rfl) (fun _ _ _ h => h) P0 ?_
                simp only [Act.put, List.setIfInBounds_toArray, List.set_cons_zero, List.set_cons_succ]
                refine GoX.last 37 rfl (by kernel_rfl) (by kernel_rfl) (by decide) ?_
                clear P0
                go_wp2_with fail
                go_meet
                exact ⟨_, rfl, HF, Lib.hid (Below.refl _ _).drew⟩
          case rest =>
          obtain ⟨bf, rfl, HBF, BX⟩ := hcut
          have B7 := Lib.hid (B6.out.trans (BX.out.mono B6.out.size))
          have Y7 := Lib.hid (Y6.out.trans (BX.out.mono Y6.out.size))
          clear BX hst X6 B6 Y6
          cases bf with
          | true =>
            have hr : res = false := by
              cases res with
              | false => rfl
              | true =>
                have h1 := (HR2.out.1 rfl).1.2.1 q (by
                  rw [HQ.out]
                  have hjl : j < os.length := by rw [HOL.out]; exact hlj
                  rw [List.getD_eq_getElem?_getD, List.getElem?_eq_getElem hjl, Option.getD_some]
                  rw [List.mem_iff_getElem]
                  exact ⟨j - (i + 1), by rw [List.length_drop]; omega, by rw [List.getElem_drop]; congr 1; omega⟩)
                exact absurd (HBF.out.1 rfl) h1.2
            subst hr
            clear HR2
            go_wp2
            go_ret
            exact ⟨rfl, B7.out⟩
          | false =>
            have HN : Hid (∀ m, i < m → m < j + 1 → os.getD m 0 ≠ (pn : Int) ∧ ¬ befP xs (os.getD m 0) (pn : Int)) := Lib.hid fun m h1 h2 => by
              by_cases e : m = j
              · rw [e, ← HQ.out]
                exact ⟨fun h => (nomatch HEQ.out.2 h), fun h => (nomatch HBF.out.2 h)⟩
              · exact HAL.out m h1 (by omega)
            go_wp2
            go_roundw
            case rel => exact ⟨j + 1, by omega, by omega, by go_num, HN, Y7⟩
            case measure => simp [intOf]; omega
        · obtain rfl : j = on := by omega
          have HR3 : Hid (res = true ↔ (tellP xs last (pn : Int) ∧ refGo xs key (os.drop (i + 1)) (nextP xs last (pn : Int))) ∧ refEnd xs key os) := Lib.hid (by
            rw [HR2.out]
            have h1 : ∀ q ∈ os.drop (i + 1), q ≠ (pn : Int) ∧ ¬ befP xs q (pn : Int) := all_drop (P := fun q => q ≠ (pn : Int) ∧ ¬ befP xs q (pn : Int)) fun m h1 h2 => HAL.out m h1 (by rw [HOL.out] at h2; exact h2)
            exact ⟨fun h => ⟨⟨h.1.2.2.1, h.1.2.2.2⟩, h.2⟩, fun h => ⟨⟨HOK.out, h1, h.1.1, h.1.2⟩, h.2⟩⟩)
          obtain ⟨c0, c1, c2, c3, c4, c5, c6, c7, c8, c9, ca, cb, cc, cd, ce, -⟩ := cells15 XB5.out
          clear HR2 HAL
          by_cases hd2 : A.d = 2
          · have KT := refTells_any (some ⟨b, o, none⟩) an ac xs A x y z last wi (H.out.below B5.out) (HAT.out.s.below B5.out) HLA.out
            unfold ActC at KT
            obtain ⟨tb, htb⟩ : ∃ q, q = tellsB xs last A := ⟨_, rfl⟩
            rw [← htb] at KT
            have HTB := Lib.hid htb
            have HD2 := Lib.hid hd2
            rw [hd2] at c1 KT
            clear htb hd2
            go_wp2_with fail
            (with_reducible refine KT.mono ?_)
            rintro e w5 ⟨rfl, b5⟩
            have B6 := Lib.hid (B5.out.trans (b5.mono B5.out.size))
            clear KT b5 c0 c1 c2 c3 c4 c5 c6 c7 c8 c9 ca cb cc cd ce
            cases tb with
            | false =>
              have hr : res = false := by
                cases res with
                | false => rfl
                | true =>
                  have h1 := (HR3.out.1 rfl).1.1
                  unfold tellP at h1
                  rw [HAP.out, ← HTB.out] at h1
                  exact nomatch h1 HD2.out
              subst hr
              clear HR3
              go_wp2
              go_ret
              exact ⟨rfl, B6.out⟩
            | true =>
              have HN : Hid (res = true ↔ refGo xs key (os.drop (i + 1)) last ∧ refEnd xs key os) := Lib.hid (by
                have h1 : tellP xs last (pn : Int) := fun _ => by rw [HAP.out]; exact HTB.out.symm
                have h2 : nextP xs last (pn : Int) = last := by unfold nextP; rw [HAP.out, if_pos HD2.out]
                rw [HR3.out, h2]
                exact ⟨fun h => ⟨h.1.2, h.2⟩, fun h => ⟨⟨h1, h.1⟩, h.2⟩⟩)
              go_wp2
              go_roundw
              case rel => exact ⟨i + 1, last, by omega, by go_num, rfl, HN, HLA, B6⟩
              case measure => simp [intOf]; omega
          · have HN : Hid (res = true ↔ refGo xs key (os.drop (i + 1)) (pn : Int) ∧ refEnd xs key os) := Lib.hid (by
              have h1 : tellP xs last (pn : Int) := fun h => by rw [HAP.out] at h; exact absurd h hd2
              have h2 : nextP xs last (pn : Int) = (pn : Int) := by unfold nextP; rw [HAP.out, if_neg hd2]
              rw [HR3.out, h2]
              exact ⟨fun h => ⟨h.1.2, h.2⟩, fun h => ⟨⟨h1, h.1⟩, h.2⟩⟩)
            have e2 : (A.d == 2) = false := by simpa using hd2
            have o1 := HOC.out i hlt wi B5.out
            rw [← HP.out] at o1
            have HLA2 := Lib.hid hp2'
            clear hd2 HR3
            go_wp2
            go_roundw
            case rel => exact ⟨i + 1, (pn : Int), by omega, by go_num, rfl, HN, HLA2, B5⟩
            case measure => simp [intOf]; omega
    · obtain rfl : i = on := by omega
      have HR4 : Hid (res = true ↔ ∀ m : Nat, 0 ≤ m → m ∈ placesOf xs key → sureB (xs.getD m dAct) = true → (m : Int) ∈ os) := Lib.hid (by
        rw [HR.out, List.drop_eq_nil_of_le (by rw [HOL.out]; exact Nat.le_refl _)]
        exact ⟨fun h m _ => h.2 m, fun h => ⟨trivial, fun m => h m (Nat.zero_le _)⟩⟩)
      clear HR
      as_aux_lemma =>
        go_wp2_with fail
        go_loopw [11] (fun vt wr => ∃ (t : Nat), t ≤ an ∧ vt = .int .i64 (t : Nat) ∧ Hid (res = true ↔ ∀ m : Nat, t ≤ m → m ∈ placesOf xs key → sureB (xs.getD m dAct) = true → (m : Int) ∈ os) ∧ Hid (Below w.heap.size w wr)) (fun vt _ => an - (intOf vt).toNat)
        case atStart => exact ⟨0, Nat.zero_le _, rfl, HR4, HB⟩
        case round =>
          clear HR4
          rename World => wi
          obtain ⟨t, htn, rfl, HR5, HY⟩ := hrel
          by_cases hlt2 : t < an
          · have ht0 : (0 : Int) ≤ (t : Int) := by omega
            have ht1 : (t : Int) < (an : Int) := by omega
            obtain ⟨b, o, A, x, y, z, eaa, hA1, hA, at0⟩ := H.out.at hlt2
            subst eaa
            have HA := Lib.hid hA
            have HAT := Lib.hid at0
            clear hA1 hA at0
            have KC := refCounts_any A x y z key wi
            unfold ActC at KC
            obtain ⟨cq, hcq⟩ : ∃ q, q = (decide (A.key = key) && countsB A) := ⟨_, rfl⟩
            rw [← hcq] at KC
            have HCQ := Lib.hid hcq
            obtain ⟨c0, c1, c2, c3, c4, c5, c6, c7, c8, c9, ca, cb, cc, cd, ce, -⟩ := HAT.out.below HY.out
            clear hcq
            go_wp2_with fail
            (with_reducible refine KC.mono ?_)
            rintro e w3 ⟨rfl, b3⟩
            have B3 := Lib.hid (HY.out.trans (b3.mono HY.out.size))
            clear KC b3 c0 c1 c2 c3 c4 c5 c6 c7 c8 c9 ca cb cc cd ce
            cases cq with
            | false =>
              have HN : Hid (res = true ↔ ∀ m : Nat, t + 1 ≤ m → m ∈ placesOf xs key → sureB (xs.getD m dAct) = true → (m : Int) ∈ os) := Lib.hid (by
                rw [HR5.out]
                refine ⟨fun h m h1 => h m (by omega), fun h m h1 h2 h3 => ?_⟩
                by_cases e : m = t
                · obtain ⟨-, h4, h5⟩ := mem_placesOf.1 h2
                  rw [e, HA.out] at h4 h5
                  have := HCQ.out
                  rw [decide_eq_true h4, h5] at this
                  cases this
                · exact h m (by omega) h2 h3)
              clear HR5
              go_wp2
              go_roundw
              case rel => exact ⟨t + 1, by omega, by go_num, HN, B3⟩
              case measure => simp [intOf]; omega
            | true =>
              have KM := refMust_any A x y z w3
              unfold ActC at KM
              obtain ⟨s, hs⟩ : ∃ q, q = sureB A := ⟨_, rfl⟩
              rw [← hs] at KM
              have HS := Lib.hid hs
              obtain ⟨c0, c1, c2, c3, c4, c5, c6, c7, c8, c9, ca, cb, cc, cd, ce, -⟩ := HAT.out.below B3.out
              clear hs
              go_wp2_with fail
              (with_reducible refine KM.mono ?_)
              rintro e w4 ⟨rfl, b4⟩
              have B4 := Lib.hid (B3.out.trans (b4.mono B3.out.size))
              clear KM b4 c0 c1 c2 c3 c4 c5 c6 c7 c8 c9 ca cb cc cd ce
              cases s with
              | false =>
                have HN : Hid (res = true ↔ ∀ m : Nat, t + 1 ≤ m → m ∈ placesOf xs key → sureB (xs.getD m dAct) = true → (m : Int) ∈ os) := Lib.hid (by
                  rw [HR5.out]
                  refine ⟨fun h m h1 => h m (by omega), fun h m h1 h2 h3 => ?_⟩
                  by_cases e : m = t
                  · rw [e, HA.out, ← HS.out] at h3
                    cases h3
                  · exact h m (by omega) h2 h3)
                clear HR5
                go_wp2
                go_roundw
                case rel => exact ⟨t + 1, by omega, by go_num, HN, B4⟩
                case measure => simp [intOf]; omega
              | true =>
                go_wp2_with fail
                go_loopw [12, 13] (fun vb vj wq => ∃ (j : Nat) (th : Bool), j ≤ i ∧ vj = .int .i64 (j : Nat) ∧ vb = .bool th ∧ Hid (th = true ↔ (t : Int) ∈ os.take j) ∧ Hid (Below w.heap.size w wq)) (fun _ vj _ => i - (intOf vj).toNat)
                case atStart => exact ⟨0, false, Nat.zero_le _, rfl, rfl, Lib.hid (by simp), B4⟩
                case round =>
                  rename World => wq
                  obtain ⟨j, th, hjn, rfl, rfl, HTH, HZ⟩ := hrel
                  by_cases hlj : j < i
                  · have hj0 : (0 : Int) ≤ (j : Int) := by omega
                    have hj1 : (j : Int) < (i : Int) := by omega
                    obtain ⟨ob, oo, eo, hocl⟩ := (HO.out.below HZ.out).row.2 (by simp only; omega)
                    simp only at eo
                    subst eo
                    obtain ⟨p, hp⟩ : ∃ p, p = os.getD j 0 := ⟨_, rfl⟩
                    have o1 := hocl j (by simp only; omega)
                    rw [iv_getD (by rw [HOL.out]; exact hlj), ← hp] at o1
                    have HMS : Hid ((t : Int) ∈ os.take (j + 1) ↔ ((t : Int) ∈ os.take j ∨ p = (t : Int))) := Lib.hid (by rw [hp]; exact take_mem_succ (by rw [HOL.out]; exact hlj) _)
                    clear hocl hp
                    cases th with
                    | true =>
                      have HN : Hid (true = true ↔ (t : Int) ∈ os.take (j + 1)) := Lib.hid (by rw [HMS.out, ← HTH.out]; simp)
                      clear HTH
                      go_wp2
                      go_roundw
                      case rel => exact ⟨j + 1, true, by omega, by go_num, rfl, HN, HZ⟩
                      case measure => simp [intOf]; omega
                    | false =>
                      by_cases hpt : p = (t : Int)
                      · have HN : Hid (true = true ↔ (t : Int) ∈ os.take (j + 1)) := Lib.hid (by rw [HMS.out]; simp [hpt])
                        subst hpt
                        clear HTH
                        go_wp2
                        go_roundw
                        case rel => exact ⟨j + 1, true, by omega, by go_num, (by first | rfl | simp), HN, HZ⟩
                        case measure => simp [intOf]; omega
                      · have HN : Hid (false = true ↔ (t : Int) ∈ os.take (j + 1)) := Lib.hid (by rw [HMS.out, ← HTH.out]; simp [hpt])
                        have e3 : (p == (t : Int)) = false := by simpa using hpt
                        clear HTH hpt
                        go_wp2
                        go_roundw
                        case rel => exact ⟨j + 1, false, by omega, by go_num, (by first | rfl | simp), HN, HZ⟩
                        case measure => simp [intOf]; omega
                  · obtain rfl : j = i := by omega
                    have HIN : Hid (th = true ↔ (t : Int) ∈ os) := Lib.hid (by have h1 := HTH.out; rwa [List.take_of_length_le (by rw [HOL.out]; exact Nat.le_refl _)] at h1)
                    clear HTH
                    cases th with
                    | true =>
                      have HN : Hid (res = true ↔ ∀ m : Nat, t + 1 ≤ m → m ∈ placesOf xs key → sureB (xs.getD m dAct) = true → (m : Int) ∈ os) := Lib.hid (by
                        rw [HR5.out]
                        refine ⟨fun h m h1 => h m (by omega), fun h m h1 h2 h3 => ?_⟩
                        by_cases e : m = t
                        · rw [e]; exact HIN.out.1 rfl
                        · exact h m (by omega) h2 h3)
                      clear HR5
                      go_wp2
                      go_roundw
                      case rel => exact ⟨t + 1, by omega, by go_num, HN, HZ⟩
                      case measure => simp [intOf]; omega
                    | false =>
                      have hr : res = false := by
                        cases res with
                        | false => rfl
                        | true =>
                          have h1 := HR5.out.1 rfl t (Nat.le_refl _) (mem_placesOf.2 (by
                            rw [HA.out, HXL.out]
                            have := HCQ.out
                            simp only [Bool.true_eq, Bool.and_eq_true, decide_eq_true_eq] at this
                            exact ⟨hlt2, this⟩)) (by rw [HA.out]; exact HS.out.symm)
                          exact nomatch HIN.out.2 h1
                      subst hr
                      clear HR5
                      go_wp2
                      go_ret
                      exact ⟨rfl, HZ.out⟩
          · obtain rfl : t = an := by omega
            have hr : res = true := HR5.out.2 fun m h1 h2 _ => by
              have := (mem_placesOf.1 h2).1
              have := HXL.out
              omega
            subst hr
            clear HR5
            go_wp2
            go_ret
            exact ⟨rfl, HY.out⟩
end Go.Proofs.Ytnefcbcioemfiaa
