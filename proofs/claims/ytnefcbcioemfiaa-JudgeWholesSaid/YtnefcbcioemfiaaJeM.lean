/-
  The judge's laws: the same texts, the same acts; too many acts.
-/
import Derived.Test.YtnefcbcioemfiaaJdR
import Derived.Test.YtnefcbcioemfiaaJdZ
namespace Go.Proofs.Ytnefcbcioemfiaa
open Go Go.RowKit

theorem take_one {α : Type} {l : List α} {i : Nat} {a : α} (h : l[i]? = some a) : l.take (i + 1) = l.take i ++ [a] := by
  obtain ⟨hl, e⟩ := List.getElem?_eq_some_iff.1 h
  rw [List.take_succ_eq_append_getElem hl, e]
set_option maxRecDepth 100000 in
set_option maxHeartbeats 4000000 in
theorem sameTexts_any (a1 : Option Addr) (n1 c1 : Nat) (l1 : List ByteArray) (a2 : Option Addr) (n2 c2 : Nat) (l2 : List ByteArray) (w : World) (h1 : RowV w a1 n1 (l1.map Value.string)) (h2 : RowV w a2 n2 (l2.map Value.string)) (hn1 : n1 ≤ 140737488355328) :
    Calls Try.prog 13 #[.slice a1 n1 c1, .slice a2 n2 c2] w fun e w' => e = .returned (.bool (decide (l1 = l2))) ∧ Below w.heap.size w w' := by
  have hl1 : l1.length = n1 := by have := h1.1; simpa using this
  have hl2 : l2.length = n2 := by have := h2.1; simpa using this
  have H1 := Lib.hid h1
  have H2 := Lib.hid h2
  have HL1 := Lib.hid hl1
  have HL2 := Lib.hid hl2
  obtain ⟨res, hres⟩ : ∃ r, r = decide (l1 = l2) := ⟨_, rfl⟩
  rw [← hres]
  have HRES := Lib.hid hres
  clear h1 h2 hl1 hl2 hres
  by_cases hn : n1 = n2
  case neg =>
    have hr : res = false := by
      rw [HRES.out]
      exact decide_eq_false fun e => hn (by rw [← HL1.out, ← HL2.out, e])
    subst hr
    have hn' : ¬ (n1 : Int) = (n2 : Int) := by omega
    have e1 : ((n1 : Int) == (n2 : Int)) = false := by simp; omega
    have e2 : ((n1 : Int) != (n2 : Int)) = true := by simp; omega
    clear HRES
    go_enter Try.func13, Try.ntmps13
    go_wp2
    go_ret
    exact ⟨rfl, Below.refl _ _⟩
  subst hn
  go_enter Try.func13, Try.ntmps13
  go_wp2_with fail
  go_loopw [5] (fun vi wr => ∃ (i : Nat), i ≤ n1 ∧ vi = .int .i64 (i : Nat) ∧ Hid (l1.take i = l2.take i) ∧ Hid (Below w.heap.size w wr)) (fun vi _ => n1 - (intOf vi).toNat)
  case atStart => exact ⟨0, Nat.zero_le _, rfl, Lib.hid (by simp), Lib.hid (Below.refl _ _)⟩
  case round =>
    obtain ⟨i, hin, rfl, HT, HB⟩ := hrel
    by_cases hlt : i < n1
    · have hi0 : (0 : Int) ≤ (i : Int) := by omega
      have hi1 : (i : Int) < (n1 : Int) := by omega
      obtain ⟨k1, o1, e1, hc1⟩ := H1.out.2 (by omega)
      obtain ⟨k2, o2, e2, hc2⟩ := H2.out.2 (by omega)
      subst e1
      subst e2
      obtain ⟨p, hp⟩ : ∃ q, l1[i]? = some q := ⟨_, List.getElem?_eq_getElem (by rw [HL1.out]; exact hlt)⟩
      obtain ⟨q, hq⟩ : ∃ q, l2[i]? = some q := ⟨_, List.getElem?_eq_getElem (by rw [HL2.out]; exact hlt)⟩
      have P0 : wr.drew.cell? ⟨k1, o1 + i, none⟩ = some (.string p) ∧ wr.drew.cell? ⟨k2, o2 + i, none⟩ = some (.string q) := ⟨by
        have h := hc1 i hlt
        rw [List.getElem?_map, hp, Option.map_some] at h
        exact cellBelow h HB.out.drew, by
        have h := hc2 i hlt
        rw [List.getElem?_map, hq, Option.map_some] at h
        exact cellBelow h HB.out.drew⟩
      have HP := Lib.hid hp
      have HQ := Lib.hid hq
      clear hc1 hc2 hp hq
      go_upto_region 6 with fail
      go_cut [25] (fun v wx => ∃ ne, v = .bool ne ∧ Hid (ne = true ↔ p ≠ q) ∧ Hid (Below wr.heap.size wr wx))
      case first =>
        refine GoX.start 8 (fun w' => w'.cell? ⟨k1, o1 + i, none⟩ = some (.string p) ∧ w'.cell? ⟨k2, o2 + i, none⟩ = some (.string q)) (by kernel_rfl) ?_
        refine GoX.take 0 rfl (by kernel_rfl) (by kernel_rfl) (by rfl) (fun _ _ _ h => h) (v := ?tv0g34) P0 ?ty0g34 ?tr0g34
        case ty0g34 => (intro w hSw; (try dsimp only at hSw); go_simp; first | done | with_reducible rfl)
        simp only [Act.put, List.setIfInBounds_toArray, List.set_cons_zero, List.set_cons_succ]
        refine GoX.take 1 rfl (by kernel_rfl) (by kernel_rfl) (by rfl) (fun _ _ _ h => h) (v := ?tv1g35) P0 ?ty1g35 ?tr1g35
        case ty1g35 => (intro w hSw; (try dsimp only at hSw); go_simp; first | done | with_reducible rfl)
        simp only [Act.put, List.setIfInBounds_toArray, List.set_cons_zero, List.set_cons_succ]
        refine GoX.take 2 rfl (by kernel_rfl) (by kernel_rfl) (by rfl) (fun _ _ _ h => h) (v := ?tv2g36) P0 ?ty2g36 ?tr2g36
        case ty2g36 => (intro w hSw; (try dsimp only at hSw); go_simp; first | done | with_reducible rfl)
        simp only [Act.put, List.setIfInBounds_toArray, List.set_cons_zero, List.set_cons_succ]
        refine GoX.take 3 rfl (by kernel_rfl) (by kernel_rfl) (by rfl) (fun _ _ _ h => h) (v := ?tv3g37) P0 ?ty3g37 ?tr3g37
        case ty3g37 => (intro w hSw; (try dsimp only at hSw); go_simp; first | done | with_reducible rfl)
        simp only [Act.put, List.setIfInBounds_toArray, List.set_cons_zero, List.set_cons_succ]
        refine GoX.take 4 rfl (by kernel_rfl) (by kernel_rfl) (by rfl) (fun _ _ _ h => h) (v := ?tv4g38) P0 ?ty4g38 ?tr4g38
        case ty4g38 => (intro w hSw; (try dsimp only at hSw); go_simp; first | done | with_reducible rfl)
        simp only [Act.put, List.setIfInBounds_toArray, List.set_cons_zero, List.set_cons_succ]
        refine GoX.take 5 rfl (by kernel_rfl) (by kernel_rfl) (by rfl) (fun _ _ _ h => h) (v := ?tv5g39) P0 ?ty5g39 ?tr5g39
        case ty5g39 => (intro w hSw; (try dsimp only at hSw); go_simp; first | done | with_reducible rfl)
        simp only [Act.put, List.setIfInBounds_toArray, List.set_cons_zero, List.set_cons_succ]
        refine GoX.take 6 rfl (by kernel_rfl) (by kernel_rfl) (by rfl) (fun _ _ _ h => h) (v := ?tv6g40) P0 ?ty6g40 ?tr6g40
        case ty6g40 => (intro w hSw; (try dsimp only at hSw); go_simp; first | done | with_reducible rfl)
        simp only [Act.put, List.setIfInBounds_toArray, List.set_cons_zero, List.set_cons_succ]
        refine GoX.take 7 rfl (by kernel_rfl) (by kernel_rfl) (by rfl) (fun _ _ _ h => h) (v := ?tv7g41) P0 ?ty7g41 ?tr7g41
        case ty7g41 => (intro w hSw; (try dsimp only at hSw); go_simp; first | done | with_reducible rfl)
        simp only [Act.put, List.setIfInBounds_toArray, List.set_cons_zero, List.set_cons_succ]
        refine GoX.last 8 rfl (by kernel_rfl) (by kernel_rfl) (by decide) ?_
        clear P0
        go_wp2_with fail
        go_meet
        exact ⟨_, rfl, Lib.hid (by rw [Bool.not_eq_true', str_beqJ]; simp), Lib.hid (Below.refl _ _).drew⟩
      case rest =>
      obtain ⟨ne, rfl, HNE, BX⟩ := hcut
      rename World => wA
      have B2 := Lib.hid (HB.out.trans (BX.out.mono HB.out.size))
      clear P0 BX HB
      cases ne with
      | true =>
        have hr : res = false := by
          rw [HRES.out]
          refine decide_eq_false fun e => HNE.out.1 rfl ?_
          have := HP.out
          rw [e, HQ.out] at this
          exact (Option.some.inj this).symm
        subst hr
        clear HRES
        go_wp2
        go_ret
        exact ⟨rfl, B2.out⟩
      | false =>
        have HN : Hid (l1.take (i + 1) = l2.take (i + 1)) := Lib.hid (by
          have e : p = q := by
            apply Decidable.byContradiction
            intro h
            exact nomatch HNE.out.2 h
          rw [take_one HP.out, take_one HQ.out, HT.out, e])
        go_wp2
        go_roundw
        case rel => exact ⟨i + 1, by omega, by go_num, HN, B2⟩
        case measure => simp [intOf]; omega
    · obtain rfl : i = n1 := by omega
      have hr : res = true := by
        rw [HRES.out]
        have := HT.out
        rw [List.take_of_length_le (by rw [HL1.out]; exact Nat.le_refl _), List.take_of_length_le (by rw [HL2.out]; exact Nat.le_refl _)] at this
        exact decide_eq_true this
      subst hr
      clear HRES
      go_wp2
      go_ret
      exact ⟨rfl, HB.out⟩

set_option maxRecDepth 100000 in
set_option maxHeartbeats 4000000 in
theorem many_any (aa : Option Addr) (an ac : Nat) (xs : List ActR) (w : World) (h : ActsV w aa an xs) (hac : an ≤ ac) (hn : an ≤ 1000000) :
    Calls Try.prog 18 #[.slice aa an ac] w fun e w' => ∃ q, e = .returned (.bool q) ∧ Below w.heap.size w w' := by
  have H := Lib.hid h
  clear h
  go_enter Try.func18, Try.ntmps18
  go_wp2_with fail
  go_loopw [3] (fun vi wr => ∃ (i : Nat), i ≤ an ∧ vi = .int .i64 (i : Nat) ∧ Hid (Below w.heap.size w wr)) (fun vi _ => an - (intOf vi).toNat)
  case atStart => exact ⟨0, Nat.zero_le _, rfl, Lib.hid (Below.refl _ _)⟩
  case round =>
    obtain ⟨i, hin, rfl, HB⟩ := hrel
    by_cases hlt : i < an
    · have hi0 : (0 : Int) ≤ (i : Int) := by omega
      have hi1 : (i : Int) < (an : Int) := by omega
      obtain ⟨b, o, A, x, y, z, eaa, hA1, hA, at0⟩ := H.out.at hlt
      subst eaa
      have HAT := Lib.hid at0
      clear hA1 hA at0
      go_wp2_with fail
      go_loopw [4, 5] (fun vn vj wi => ∃ (j n : Nat), j ≤ an ∧ n ≤ j ∧ vj = .int .i64 (j : Nat) ∧ vn = .int .i64 (n : Nat) ∧ Hid (Below w.heap.size w wi)) (fun _ vj _ => an - (intOf vj).toNat)
      case atStart => exact ⟨0, 0, Nat.zero_le _, Nat.zero_le _, rfl, rfl, HB⟩
      case round =>
        rename World => wi
        obtain ⟨j, n, hjn, hnj, rfl, rfl, HY⟩ := hrel
        by_cases hlj : j < an
        · have hj0 : (0 : Int) ≤ (j : Int) := by omega
          have hj1 : (j : Int) < (an : Int) := by omega
          obtain ⟨b2, o2, C, xc, yc, zc, e2, hC1, hC, at2⟩ := H.out.at hlj
          injection e2 with e2
          injection e2 with e3 e4 e5
          subst e3 e4
          have P0 : wi.drew.cell? ⟨b, o + j * 15 + 4, none⟩ = some (.string C.key) ∧ wi.drew.cell? ⟨b, o + i * 15 + 4, none⟩ = some (.string A.key) := ⟨(at2.below HY.out.drew).c4, (HAT.out.below HY.out.drew).c4⟩
          clear hC1 hC at2
          go_upto_region 8 with fail
          go_cut [28] (fun v wx => ∃ q, v = .bool q ∧ Hid (Below wi.heap.size wi wx))
          case first =>
            refine GoX.start 10 (fun w' => w'.cell? ⟨b, o + j * 15 + 4, none⟩ = some (.string C.key) ∧ w'.cell? ⟨b, o + i * 15 + 4, none⟩ = some (.string A.key)) (by kernel_rfl) ?_
            refine GoX.take 0 rfl (by kernel_rfl) (by kernel_rfl) (by rfl) (fun _ _ _ h => h) (v := ?tv0g42) P0 ?ty0g42 ?tr0g42
            case ty0g42 => (intro w hSw; (try dsimp only at hSw); go_simp; first | done | with_reducible rfl)
            simp only [Act.put, List.setIfInBounds_toArray, List.set_cons_zero, List.set_cons_succ]
            refine GoX.take 1 rfl (by kernel_rfl) (by kernel_rfl) (by rfl) (fun _ _ _ h => h) (v := ?tv1g43) P0 ?ty1g43 ?tr1g43
            case ty1g43 => (intro w hSw; (try dsimp only at hSw); go_simp; first | done | with_reducible rfl)
            simp only [Act.put, List.setIfInBounds_toArray, List.set_cons_zero, List.set_cons_succ]
            refine GoX.take 2 rfl (by kernel_rfl) (by kernel_rfl) (by rfl) (fun _ _ _ h => h) (v := ?tv2g44) P0 ?ty2g44 ?tr2g44
            case ty2g44 => (intro w hSw; (try dsimp only at hSw); go_simp; first | done | with_reducible rfl)
            simp only [Act.put, List.setIfInBounds_toArray, List.set_cons_zero, List.set_cons_succ]
            refine GoX.take 3 rfl (by kernel_rfl) (by kernel_rfl) (by rfl) (fun _ _ _ h => h) (v := ?tv3g45) P0 ?ty3g45 ?tr3g45
            case ty3g45 => (intro w hSw; (try dsimp only at hSw); go_simp; first | done | with_reducible rfl)
            simp only [Act.put, List.setIfInBounds_toArray, List.set_cons_zero, List.set_cons_succ]
            refine GoX.take 4 rfl (by kernel_rfl) (by kernel_rfl) (by rfl) (fun _ _ _ h => h) (v := ?tv4g46) P0 ?ty4g46 ?tr4g46
            case ty4g46 => (intro w hSw; (try dsimp only at hSw); go_simp; first | done | with_reducible rfl)
            simp only [Act.put, List.setIfInBounds_toArray, List.set_cons_zero, List.set_cons_succ]
            refine GoX.take 5 rfl (by kernel_rfl) (by kernel_rfl) (by rfl) (fun _ _ _ h => h) (v := ?tv5g47) P0 ?ty5g47 ?tr5g47
            case ty5g47 => (intro w hSw; (try dsimp only at hSw); go_simp; first | done | with_reducible rfl)
            simp only [Act.put, List.setIfInBounds_toArray, List.set_cons_zero, List.set_cons_succ]
            refine GoX.take 6 rfl (by kernel_rfl) (by kernel_rfl) (by rfl) (fun _ _ _ h => h) (v := ?tv6g48) P0 ?ty6g48 ?tr6g48
            case ty6g48 => (intro w hSw; (try dsimp only at hSw); go_simp; first | done | with_reducible rfl)
            simp only [Act.put, List.setIfInBounds_toArray, List.set_cons_zero, List.set_cons_succ]
            refine GoX.take 7 rfl (by kernel_rfl) (by kernel_rfl) (by rfl) (fun _ _ _ h => h) (v := ?tv7g49) P0 ?ty7g49 ?tr7g49
            case ty7g49 => (intro w hSw; (try dsimp only at hSw); go_simp; first | done | with_reducible rfl)
            simp only [Act.put, List.setIfInBounds_toArray, List.set_cons_zero, List.set_cons_succ]
            refine GoX.take 8 rfl (by kernel_rfl) (by kernel_rfl) (by rfl) (fun _ _ _ h => h) (v := ?tv8g50) P0 ?ty8g50 ?tr8g50
            case ty8g50 => (intro w hSw; (try dsimp only at hSw); go_simp; first | done | with_reducible rfl)
            simp only [Act.put, List.setIfInBounds_toArray, List.set_cons_zero, List.set_cons_succ]
            refine GoX.take 9 rfl (by kernel_rfl) (by kernel_rfl) (by rfl) (fun _ _ _ h => h) (v := ?tv9g51) P0 ?ty9g51 ?tr9g51
            case ty9g51 => (intro w hSw; (try dsimp only at hSw); go_simp; first | done | with_reducible rfl)
            simp only [Act.put, List.setIfInBounds_toArray, List.set_cons_zero, List.set_cons_succ]
            refine GoX.last 10 rfl (by kernel_rfl) (by kernel_rfl) (by decide) ?_
            clear P0
            go_wp2_with fail
            go_meet
            exact ⟨_, rfl, Lib.hid (Below.refl _ _).drew⟩
          case rest =>
          obtain ⟨q, rfl, BX⟩ := hcut
          rename World => wA
          have B2 := Lib.hid (HY.out.trans (BX.out.mono HY.out.size))
          clear P0 BX HY
          cases q with
          | true =>
            go_wp2
            go_roundw
            case rel => exact ⟨j + 1, n + 1, by omega, by omega, by go_num, by go_num, B2⟩
            case measure => simp [intOf]; omega
          | false =>
            go_wp2
            go_roundw
            case rel => exact ⟨j + 1, n, by omega, by omega, by go_num, rfl, B2⟩
            case measure => simp [intOf]; omega
        · obtain rfl : j = an := by omega
          by_cases h7 : 7 < n
          · have h7' : (7 : Int) < (n : Int) := by omega
            go_wp2
            go_ret
            exact ⟨true, rfl, HY.out⟩
          · have h7' : ¬ (7 : Int) < (n : Int) := by omega
            go_wp2
            go_roundw
            case rel => exact ⟨i + 1, by omega, by go_num, HY⟩
            case measure => simp [intOf]; omega
    · obtain rfl : i = an := by omega
      go_wp2
      go_ret
      exact ⟨false, rfl, HB.out⟩

theorem cells9 {w : World} {b : Nat} {v0 v1 v2 v3 v4 v5 v6 v7 v8 : Value} {T : TypeId} (h : w.heap[b]? = some (.cells #[v0, v1, v2, v3, v4, v5, v6, v7, v8] T (0, 0))) :
    w.cell? ⟨b, 0, none⟩ = some v0 ∧ w.cell? ⟨b, 1, none⟩ = some v1 ∧ w.cell? ⟨b, 2, none⟩ = some v2 ∧ w.cell? ⟨b, 3, none⟩ = some v3 ∧ w.cell? ⟨b, 4, none⟩ = some v4 ∧ w.cell? ⟨b, 5, none⟩ = some v5 ∧ w.cell? ⟨b, 6, none⟩ = some v6 ∧ w.cell? ⟨b, 7, none⟩ = some v7 ∧ w.cell? ⟨b, 8, none⟩ = some v8 ∧ ∀ j, w.frozen? ⟨b, j, none⟩ = false :=
  ⟨cell_of_row _ _ 0 _ _ _ h, cell_of_row _ _ 1 _ _ _ h, cell_of_row _ _ 2 _ _ _ h, cell_of_row _ _ 3 _ _ _ h, cell_of_row _ _ 4 _ _ _ h, cell_of_row _ _ 5 _ _ _ h, cell_of_row _ _ 6 _ _ _ h, cell_of_row _ _ 7 _ _ _ h, cell_of_row _ _ 8 _ _ _ h, fun _ => frozen_of_row _ _ _ _ _ h⟩
set_option maxRecDepth 100000 in
set_option maxHeartbeats 4000000 in
theorem sameResult_same (A : ActR) (x y z x2 y2 z2 : SH3) (w : World) (h1 : ActS w A x y z) (h2 : ActS w A x2 y2 z2) :
    Calls Try.prog 39 #[.agg #[.int .i64 A.rop, .int .i64 A.rdo, .string A.rkey, .slice y.1 y.2.1 y.2.2, .int .i64 A.tn, .int .i64 A.tc, .int .i64 A.code, .bool A.found, .slice z.1 z.2.1 z.2.2], .agg #[.int .i64 A.rop, .int .i64 A.rdo, .string A.rkey, .slice y2.1 y2.2.1 y2.2.2, .int .i64 A.tn, .int .i64 A.tc, .int .i64 A.code, .bool A.found, .slice z2.1 z2.2.1 z2.2.2]] w fun e w' => e = .returned (.bool true) ∧ Below w.heap.size w w' := by
  have S1 := Lib.hid h1
  have S2 := Lib.hid h2
  obtain ⟨q1, q2, hb⟩ := two_boxes w (.cells #[.int .i64 A.rop, .int .i64 A.rdo, .string A.rkey, .slice y.1 y.2.1 y.2.2, .int .i64 A.tn, .int .i64 A.tc, .int .i64 A.code, .bool A.found, .slice z.1 z.2.1 z.2.2] 43) (.cells #[.int .i64 A.rop, .int .i64 A.rdo, .string A.rkey, .slice y2.1 y2.2.1 y2.2.2, .int .i64 A.tn, .int .i64 A.tc, .int .i64 A.code, .bool A.found, .slice z2.1 z2.2.1 z2.2.2] 43)
  have HB := Lib.hid hb
  have Q1 := Lib.hid q1
  have Q2 := Lib.hid q2
  clear h1 h2 hb q1 q2
  have KB := sameBytes_any y.1 y.2.1 y.2.2 A.rval y2.1 y2.2.1 y2.2.2 A.rval ((w.alloc (.cells #[.int .i64 A.rop, .int .i64 A.rdo, .string A.rkey, .slice y.1 y.2.1 y.2.2, .int .i64 A.tn, .int .i64 A.tc, .int .i64 A.code, .bool A.found, .slice z.1 z.2.1 z.2.2] 43)).alloc (.cells #[.int .i64 A.rop, .int .i64 A.rdo, .string A.rkey, .slice y2.1 y2.2.1 y2.2.2, .int .i64 A.tn, .int .i64 A.tc, .int .i64 A.code, .bool A.found, .slice z2.1 z2.2.1 z2.2.2] 43)) (S1.out.r.below HB.out) (S2.out.r.below HB.out)
  rw [decide_eq_true rfl] at KB
  go_enter Try.func39, Try.ntmps39
  go_wp2_with fail
  (with_reducible refine KB.mono ?_)
  rintro e w3 ⟨rfl, b3⟩
  have B3 := Lib.hid (HB.out.trans (b3.mono HB.out.size))
  have KT := sameTexts_any z.1 z.2.1 z.2.2 A.keys z2.1 z2.2.1 z2.2.2 A.keys w3 (S1.out.k.below B3.out).row (S2.out.k.below B3.out).row (by have := S1.out.k.small; omega)
  rw [decide_eq_true rfl] at KT
  obtain ⟨-, -, -, -, p4, p5, p6, p7, p8, pf⟩ := cells9 ((b3.block w.heap.size (by simp; omega)).trans Q1.out)
  obtain ⟨-, -, -, -, r4, r5, r6, r7, r8, rf⟩ := cells9 ((b3.block (w.heap.size + 1) (by simp)).trans Q2.out)
  clear KB b3
  go_wp2_with fail
  (with_reducible refine KT.mono ?_)
  rintro e w4 ⟨rfl, b4⟩
  have B4 := Lib.hid (B3.out.trans (b4.mono B3.out.size))
  clear KT b4 p4 p5 p6 p7 p8 pf r4 r5 r6 r7 r8 rf
  go_wp2
  go_ret
  exact ⟨rfl, B4.out⟩
set_option maxRecDepth 100000 in
set_option maxHeartbeats 8000000 in
theorem sameActs_same (a1 : Option Addr) (an c1 : Nat) (xs : List ActR) (a2 : Option Addr) (c2 : Nat) (w : World) (h1 : ActsV w a1 an xs) (h2 : ActsV w a2 an xs) (hc1 : an ≤ c1) (hc2 : an ≤ c2) (hn : an ≤ 1000000) :
    Calls Try.prog 23 #[.slice a1 an c1, .slice a2 an c2] w fun e w' => e = .returned (.bool true) ∧ Below w.heap.size w w' := by
  have H1 := Lib.hid h1
  have H2 := Lib.hid h2
  clear h1 h2
  go_enter Try.func23, Try.ntmps23
  go_wp2_with fail
  go_loopw [5] (fun vi wr => ∃ (i : Nat), i ≤ an ∧ vi = .int .i64 (i : Nat) ∧ Hid (Below w.heap.size w wr)) (fun vi _ => an - (intOf vi).toNat)
  case atStart => exact ⟨0, Nat.zero_le _, rfl, Lib.hid (Below.refl _ _)⟩
  case round =>
    obtain ⟨i, hin, rfl, HB⟩ := hrel
    by_cases hlt : i < an
    · have hi0 : (0 : Int) ≤ (i : Int) := by omega
      have hi1 : (i : Int) < (an : Int) := by omega
      obtain ⟨b, o, A, x, y, z, eaa, hA1, -, at0⟩ := H1.out.at hlt
      obtain ⟨b2, o2, C, x2, y2, z2, eaa2, hC1, -, at2⟩ := H2.out.at hlt
      subst eaa
      subst eaa2
      obtain rfl : A = C := by rw [hA1] at hC1; exact Option.some.inj hC1
      have AT1 := Lib.hid at0
      have AT2 := Lib.hid at2
      clear hA1 hC1 at0 at2
      obtain ⟨c0, c1, c2, c3, c4, c5, c6, c7, c8, c9, ca, cb, cc, cd, ce, -⟩ := AT1.out.below HB.out
      go_upto_region 7 with fail
      refine (?_ : ∀ W : World, Hid (W.heap[wr.heap.size]? = some (.cells #[.int .i64 A.cl, .int .i64 A.d, .int .i64 A.st, .int .i64 A.en, .string A.key, .slice x.1 x.2.1 x.2.2, .int .i64 A.rop, .int .i64 A.rdo, .string A.rkey, .slice y.1 y.2.1 y.2.2, .int .i64 A.tn, .int .i64 A.tc, .int .i64 A.code, .bool A.found, .slice z.1 z.2.1 z.2.2] ActT (0, 0))) → Hid (Below wr.heap.size wr W) → Hid (W.heap.size = wr.heap.size + 1) → Code.wp Try.prog _ _ _ W) _ (Lib.hid (heap_alloc_new wr _)) (Lib.hid (below_alloc wr _)) (Lib.hid (by simp))
      clear c0 c1 c2 c3 c4 c5 c6 c7 c8 c9 ca cb cc cd ce
      intro W XB BW WS
      have B2 := Lib.hid (HB.out.trans (BW.out.mono HB.out.size))
      obtain ⟨c0, c1, c2, c3, c4, c5, c6, c7, c8, c9, ca, cb, cc, cd, ce, -⟩ := AT2.out.below B2.out
      go_upto_region 8 with fail
      refine (?_ : ∀ W' : World, Hid (W'.heap[W.heap.size]? = some (.cells #[.int .i64 A.cl, .int .i64 A.d, .int .i64 A.st, .int .i64 A.en, .string A.key, .slice x2.1 x2.2.1 x2.2.2, .int .i64 A.rop, .int .i64 A.rdo, .string A.rkey, .slice y2.1 y2.2.1 y2.2.2, .int .i64 A.tn, .int .i64 A.tc, .int .i64 A.code, .bool A.found, .slice z2.1 z2.2.1 z2.2.2] ActT (0, 0))) → Hid (Below W.heap.size W W') → Code.wp Try.prog _ _ _ W') _ (Lib.hid (heap_alloc_new W _)) (Lib.hid (below_alloc W _))
      clear c0 c1 c2 c3 c4 c5 c6 c7 c8 c9 ca cb cc cd ce
      intro W2 YB BY
      have B3 := Lib.hid (B2.out.trans (BY.out.mono B2.out.size))
      have XB2 : Hid (W2.heap[wr.heap.size]? = some (.cells #[.int .i64 A.cl, .int .i64 A.d, .int .i64 A.st, .int .i64 A.en, .string A.key, .slice x.1 x.2.1 x.2.2, .int .i64 A.rop, .int .i64 A.rdo, .string A.rkey, .slice y.1 y.2.1 y.2.2, .int .i64 A.tn, .int .i64 A.tc, .int .i64 A.code, .bool A.found, .slice z.1 z.2.1 z.2.2] ActT (0, 0))) := Lib.hid ((BY.out.block _ (by rw [WS.out]; omega)).trans XB.out)
      obtain ⟨c0, c1', c2', c3, c4, c5, c6, c7, c8, c9, ca, cb, cc, cd, ce, cf⟩ := cells15 XB2.out
      obtain ⟨d0, d1, d2, d3, d4, d5, d6, d7, d8, d9, da, db, dc, dd, de, df⟩ := cells15 YB.out
      have KB := sameBytes_any x.1 x.2.1 x.2.2 A.val x2.1 x2.2.1 x2.2.2 A.val W2 (AT1.out.s.v.below B3.out) (AT2.out.s.v.below B3.out)
      rw [decide_eq_true rfl] at KB
      clear BW BY XB B2 HB WS
      go_wp2_with fail
      (with_reducible refine KB.mono ?_)
      rintro e w3 ⟨rfl, b3⟩
      have B4 := Lib.hid (B3.out.trans (b3.mono B3.out.size))
      have X3 : Hid (w3.heap[wr.heap.size]? = some (.cells #[.int .i64 A.cl, .int .i64 A.d, .int .i64 A.st, .int .i64 A.en, .string A.key, .slice x.1 x.2.1 x.2.2, .int .i64 A.rop, .int .i64 A.rdo, .string A.rkey, .slice y.1 y.2.1 y.2.2, .int .i64 A.tn, .int .i64 A.tc, .int .i64 A.code, .bool A.found, .slice z.1 z.2.1 z.2.2] ActT (0, 0))) := Lib.hid ((b3.block _ (Array.getElem?_eq_some_iff.1 XB2.out).1).trans XB2.out)
      have Y3 : Hid (w3.heap[W.heap.size]? = some (.cells #[.int .i64 A.cl, .int .i64 A.d, .int .i64 A.st, .int .i64 A.en, .string A.key, .slice x2.1 x2.2.1 x2.2.2, .int .i64 A.rop, .int .i64 A.rdo, .string A.rkey, .slice y2.1 y2.2.1 y2.2.2, .int .i64 A.tn, .int .i64 A.tc, .int .i64 A.code, .bool A.found, .slice z2.1 z2.2.1 z2.2.2] ActT (0, 0))) := Lib.hid ((b3.block _ (Array.getElem?_eq_some_iff.1 YB.out).1).trans YB.out)
      clear c0 c1' c2' c3 c4 c5 c6 c7 c8 c9 ca cb cc cd ce cf d0 d1 d2 d3 d4 d5 d6 d7 d8 d9 da db dc dd de df KB b3
      obtain ⟨-, -, -, -, -, -, c6, c7, c8, c9, ca, cb, cc, cd, ce, cf⟩ := cells15 X3.out
      obtain ⟨-, -, -, -, -, -, d6, d7, d8, d9, da, db, dc, dd, de, df⟩ := cells15 Y3.out
      have KR := sameResult_same A x y z x2 y2 z2 w3 (AT1.out.s.below B4.out) (AT2.out.s.below B4.out)
      go_wp2_with fail
      (with_reducible refine KR.mono ?_)
      rintro e w4 ⟨rfl, b4⟩
      have B5 := Lib.hid (B4.out.trans (b4.mono B4.out.size))
      clear c6 c7 c8 c9 ca cb cc cd ce cf d6 d7 d8 d9 da db dc dd de df KR b4
      go_wp2
      go_roundw
      case rel => exact ⟨i + 1, by omega, by go_num, B5⟩
      case measure => simp [intOf]; omega
    · obtain rfl : i = an := by omega
      go_wp2
      go_ret
      exact ⟨rfl, HB.out⟩
end Go.Proofs.Ytnefcbcioemfiaa
