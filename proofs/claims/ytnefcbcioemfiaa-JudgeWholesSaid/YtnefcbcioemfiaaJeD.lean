/-
  The reference of the judge: Check.
-/
import Derived.Test.YtnefcbcioemfiaaJeC
namespace Go.Proofs.Ytnefcbcioemfiaa
open Go Go.RowKit

theorem any_take {α : Type} {f : α → Bool} {l : List α} {k : Nat} {q : α} (hq : l[k]? = some q) : (l.take (k + 1)).any f = ((l.take k).any f || f q) := by
  obtain ⟨hl, e⟩ := List.getElem?_eq_some_iff.1 hq
  rw [List.take_succ_eq_append_getElem hl, List.any_append, e]
  simp
theorem any_mem_eq {α : Type} {f : α → Bool} {l m : List α} (h : ∀ k, k ∈ l ↔ k ∈ m) : l.any f = m.any f := by
  rw [Bool.eq_iff_iff, List.any_eq_true, List.any_eq_true]
  exact ⟨fun ⟨a, ha, r⟩ => ⟨a, (h a).1 ha, r⟩, fun ⟨a, ha, r⟩ => ⟨a, (h a).2 ha, r⟩⟩
def longK (xs : List ActR) (k : ByteArray) : Bool := decide (12 < (placesOf xs k).length)
theorem check_bad {xs : List ActR} (h : xs.any stepBad = true) : checkR xs = 180 := by unfold checkR; rw [if_pos h]
theorem check_long {xs : List ActR} (h : xs.any stepBad = false) {ks : List ByteArray} (hk : ∀ k, k ∈ ks ↔ k ∈ keyList xs) : checkR xs = if ks.any (longK xs) then 201 else 0 := by
  unfold checkR
  rw [if_neg (by rw [h]; decide), any_mem_eq hk]
  rfl

set_option maxRecDepth 100000 in
set_option maxHeartbeats 16000000 in
theorem refCheck_any (aa : Option Addr) (an ac : Nat) (xs : List ActR) (w : World) (h : ActsV w aa an xs) (hac : an ≤ ac) (hn : an ≤ 1000000) :
    Calls Try.prog 17 #[.slice aa an ac] w fun e w' => e = .returned (.int .i64 (checkR xs)) ∧ Below w.heap.size w w' := by
  have H := Lib.hid h
  have hxl : xs.length = an := h.len
  have HXL := Lib.hid hxl
  obtain ⟨res, hres⟩ : ∃ r, r = checkR xs := ⟨_, rfl⟩
  rw [← hres]
  have HRES := Lib.hid hres
  clear h hxl hres
  go_enter Try.func17, Try.ntmps17
  go_wp2_with fail
  go_loopw [3] (fun vi wr => ∃ (i : Nat), i ≤ an ∧ vi = .int .i64 (i : Nat) ∧ Hid ((xs.take i).any stepBad = false) ∧ Hid (Below w.heap.size w wr)) (fun vi _ => an - (intOf vi).toNat)
  case atStart => exact ⟨0, Nat.zero_le _, rfl, Lib.hid rfl, Lib.hid (Below.refl _ _)⟩
  case round =>
    obtain ⟨i, hin, rfl, HB0, HB⟩ := hrel
    by_cases hlt : i < an
    · have hi0 : (0 : Int) ≤ (i : Int) := by omega
      have hi1 : (i : Int) < (an : Int) := by omega
      obtain ⟨b, o, A, x, y, z, eaa, hA1, hA, at0⟩ := H.out.at hlt
      have at1 := at0.below HB.out.drew
      have P0 : wr.drew.cell? ⟨b, o + i * 15 + 2, none⟩ = some (.int .i64 A.st) ∧ wr.drew.cell? ⟨b, o + i * 15 + 3, none⟩ = some (.int .i64 A.en) := ⟨at1.c2, at1.c3⟩
      have HA := Lib.hid hA1
      subst eaa
      clear hA1 hA at0 at1
      go_upto_region 4 with fail
      go_cut [40] (fun v wx => ∃ q, v = .bool q ∧ Hid (q = stepBad A) ∧ Hid (Below wr.heap.size wr wx))
      case first =>
        by_cases h0 : A.st < 0
        · have hs : true = stepBad A := by unfold stepBad; rw [decide_eq_true h0]; rfl
          have HS := Lib.hid hs
          clear hs
          refine GoX.start 26 (fun w' => w'.cell? ⟨b, o + i * 15 + 2, none⟩ = some (.int .i64 A.st) ∧ w'.cell? ⟨b, o + i * 15 + 3, none⟩ = some (.int .i64 A.en)) (by kernel_rfl) ?_
          refine GoX.take 0 rfl (by kernel_rfl) (by kernel_rfl) (by rfl) (fun _ _ _ h => h) (v := ?tv0g23) P0 ?ty0g23 ?tr0g23
          case ty0g23 => (intro w hSw; (try dsimp only at hSw); go_simp; first | done | with_reducible rfl)
          simp only [Act.put, List.setIfInBounds_toArray, List.set_cons_zero, List.set_cons_succ]
          refine GoX.take 1 rfl (by kernel_rfl) (by kernel_rfl) (by rfl) (fun _ _ _ h => h) (v := ?tv1g24) P0 ?ty1g24 ?tr1g24
          case ty1g24 => (intro w hSw; (try dsimp only at hSw); go_simp; first | done | with_reducible rfl)
          simp only [Act.put, List.setIfInBounds_toArray, List.set_cons_zero, List.set_cons_succ]
          refine GoX.take 2 rfl (by kernel_rfl) (by kernel_rfl) (by rfl) (fun _ _ _ h => h) (v := ?tv2g25) P0 ?ty2g25 ?tr2g25
          case ty2g25 => (intro w hSw; (try dsimp only at hSw); go_simp; first | done | with_reducible rfl)
          simp only [Act.put, List.setIfInBounds_toArray, List.set_cons_zero, List.set_cons_succ]
          refine GoX.take 3 rfl (by kernel_rfl) (by kernel_rfl) (by rfl) (fun _ _ _ h => h) (v := ?tv3g26) P0 ?ty3g26 ?tr3g26
          case ty3g26 => (intro w hSw; (try dsimp only at hSw); go_simp; first | done | with_reducible rfl)
          simp only [Act.put, List.setIfInBounds_toArray, List.set_cons_zero, List.set_cons_succ]
          refine GoX.take 4 rfl (by kernel_rfl) (by kernel_rfl) (by rfl) (fun _ _ _ h => h) (v := ?tv4g27) P0 ?ty4g27 ?tr4g27
          case ty4g27 => (intro w hSw; (try dsimp only at hSw); go_simp; first | done | with_reducible rfl)
          simp only [Act.put, List.setIfInBounds_toArray, List.set_cons_zero, List.set_cons_succ]
          refine GoX.take 5 rfl (by kernel_rfl) (by kernel_rfl) (by rfl) (fun _ _ _ h => h) (v := ?tv5g28) P0 ?ty5g28 ?tr5g28
          case ty5g28 => (intro w hSw; (try dsimp only at hSw); go_simp; first | done | with_reducible rfl)
          simp only [Act.put, List.setIfInBounds_toArray, List.set_cons_zero, List.set_cons_succ]
          refine GoX.take 6 rfl (by kernel_rfl) (by kernel_rfl) (by rfl) (fun _ _ _ h => h) (v := ?tv6g29) P0 ?ty6g29 ?tr6g29
          case ty6g29 => (intro w hSw; (try dsimp only at hSw); go_simp; first | done | with_reducible rfl)
          simp only [Act.put, List.setIfInBounds_toArray, List.set_cons_zero, List.set_cons_succ]
          refine GoX.skip 7 rfl (by kernel_rfl) (by kernel_rfl) (by rfl) (fun _ _ _ h => h) P0 ?_
          simp only [Act.put, List.setIfInBounds_toArray, List.set_cons_zero, List.set_cons_succ]
          refine GoX.skip 8 rfl (by kernel_rfl) (by kernel_rfl) (by rfl) (fun _ _ _ h => h) P0 ?_
          simp only [Act.put, List.setIfInBounds_toArray, List.set_cons_zero, List.set_cons_succ]
          refine GoX.skip 9 rfl (by kernel_rfl) (by kernel_rfl) (by rfl) (fun _ _ _ h => h) P0 ?_
          simp only [Act.put, List.setIfInBounds_toArray, List.set_cons_zero, List.set_cons_succ]
          refine GoX.skip 10 rfl (by kernel_rfl) (by kernel_rfl) (by rfl) (fun _ _ _ h => h) P0 ?_
          simp only [Act.put, List.setIfInBounds_toArray, List.set_cons_zero, List.set_cons_succ]
          refine GoX.skip 11 rfl (by kernel_rfl) (by kernel_rfl) (by rfl) (fun _ _ _ h => h) P0 ?_
          simp only [Act.put, List.setIfInBounds_toArray, List.set_cons_zero, List.set_cons_succ]
          refine GoX.skip 12 rfl (by kernel_rfl) (by kernel_rfl) (by rfl) (fun _ _ _ h => h) P0 ?_
          simp only [Act.put, List.setIfInBounds_toArray, List.set_cons_zero, List.set_cons_succ]
          refine GoX.skip 13 rfl (by kernel_rfl) (by kernel_rfl) (by rfl) (fun _ _ _ h => h) P0 ?_
          simp only [Act.put, List.setIfInBounds_toArray, List.set_cons_zero, List.set_cons_succ]
          refine GoX.skip 14 rfl (by kernel_rfl) (by kernel_rfl) (by rfl) (fun _ _ _ h => h) P0 ?_
          simp only [Act.put, List.setIfInBounds_toArray, List.set_cons_zero, List.set_cons_succ]
          refine GoX.skip 15 rfl (by kernel_rfl) (by kernel_rfl) (by rfl) (fun _ _ _ h => h) P0 ?_
          simp only [Act.put, List.setIfInBounds_toArray, List.set_cons_zero, List.set_cons_succ]
          refine GoX.skip 16 rfl (by kernel_rfl) (by kernel_rfl) (by rfl) (fun _ _ _ h => h) P0 ?_
          simp only [Act.put, List.setIfInBounds_toArray, List.set_cons_zero, List.set_cons_succ]
          refine GoX.skip 17 rfl (by kernel_rfl) (by kernel_rfl) (by rfl) (fun _ _ _ h => h) P0 ?_
          simp only [Act.put, List.setIfInBounds_toArray, List.set_cons_zero, List.set_cons_succ]
          refine GoX.skip 18 rfl (by kernel_rfl) (by kernel_rfl) (by rfl) (fun _ _ _ h => h) P0 ?_
          simp only [Act.put, List.setIfInBounds_toArray, List.set_cons_zero, List.set_cons_succ]
          refine GoX.skip 19 rfl (by kernel_rfl) (by kernel_rfl) (by rfl) (fun _ _ _ h => h) P0 ?_
          simp only [Act.put, List.setIfInBounds_toArray, List.set_cons_zero, List.set_cons_succ]
          refine GoX.skip 20 rfl (by kernel_rfl) (by kernel_rfl) (by rfl) (fun _ _ _ h => h) P0 ?_
          simp only [Act.put, List.setIfInBounds_toArray, List.set_cons_zero, List.set_cons_succ]
          refine GoX.skip 21 rfl (by kernel_rfl) (by kernel_rfl) (by rfl) (fun _ _ _ h => h) P0 ?_
          simp only [Act.put, List.setIfInBounds_toArray, List.set_cons_zero, List.set_cons_succ]
          refine GoX.skip 22 rfl (by kernel_rfl) (by kernel_rfl) (by rfl) (fun _ _ _ h => h) P0 ?_
          simp only [Act.put, List.setIfInBounds_toArray, List.set_cons_zero, List.set_cons_succ]
          refine GoX.skip 23 rfl (by kernel_rfl) (by kernel_rfl) (by rfl) (fun _ _ _ h => h) P0 ?_
          simp only [Act.put, List.setIfInBounds_toArray, List.set_cons_zero, List.set_cons_succ]
          refine GoX.skip 24 rfl (by kernel_rfl) (by kernel_rfl) (by rfl) (fun _ _ _ h => h) P0 ?_
          simp only [Act.put, List.setIfInBounds_toArray, List.set_cons_zero, List.set_cons_succ]
          refine GoX.skip 25 rfl (by kernel_rfl) (by kernel_rfl) (by rfl) (fun _ _ _ h => h) P0 ?_
          simp only [Act.put, List.setIfInBounds_toArray, List.set_cons_zero, List.set_cons_succ]
          refine GoX.last 26 rfl (by kernel_rfl) (by kernel_rfl) (by decide) ?_
          clear P0
          go_wp2_with fail
          go_meet
          exact ⟨_, rfl, HS, Lib.hid (Below.refl _ _).drew⟩
        · by_cases h1 : 0 ≤ A.en
          · have hs : decide (A.en < A.st) = stepBad A := by unfold stepBad; rw [decide_eq_false h0, decide_eq_true h1]; rfl
            have HS := Lib.hid hs
            clear hs
            refine GoX.start 26 (fun w' => w'.cell? ⟨b, o + i * 15 + 2, none⟩ = some (.int .i64 A.st) ∧ w'.cell? ⟨b, o + i * 15 + 3, none⟩ = some (.int .i64 A.en)) (by kernel_rfl) ?_
            refine GoX.take 0 rfl (by kernel_rfl) (by kernel_rfl) (by rfl) (fun _ _ _ h => h) (v := ?tv0g45) P0 ?ty0g45 ?tr0g45
            case ty0g45 => (intro w hSw; (try dsimp only at hSw); go_simp; first | done | with_reducible rfl)
            simp only [Act.put, List.setIfInBounds_toArray, List.set_cons_zero, List.set_cons_succ]
            refine GoX.take 1 rfl (by kernel_rfl) (by kernel_rfl) (by rfl) (fun _ _ _ h => h) (v := ?tv1g46) P0 ?ty1g46 ?tr1g46
            case ty1g46 => (intro w hSw; (try dsimp only at hSw); go_simp; first | done | with_reducible rfl)
            simp only [Act.put, List.setIfInBounds_toArray, List.set_cons_zero, List.set_cons_succ]
            refine GoX.take 2 rfl (by kernel_rfl) (by kernel_rfl) (by rfl) (fun _ _ _ h => h) (v := ?tv2g47) P0 ?ty2g47 ?tr2g47
            case ty2g47 => (intro w hSw; (try dsimp only at hSw); go_simp; first | done | with_reducible rfl)
            simp only [Act.put, List.setIfInBounds_toArray, List.set_cons_zero, List.set_cons_succ]
            refine GoX.take 3 rfl (by kernel_rfl) (by kernel_rfl) (by rfl) (fun _ _ _ h => h) (v := ?tv3g48) P0 ?ty3g48 ?tr3g48
            case ty3g48 => (intro w hSw; (try dsimp only at hSw); go_simp; first | done | with_reducible rfl)
            simp only [Act.put, List.setIfInBounds_toArray, List.set_cons_zero, List.set_cons_succ]
            refine GoX.take 4 rfl (by kernel_rfl) (by kernel_rfl) (by rfl) (fun _ _ _ h => h) (v := ?tv4g49) P0 ?ty4g49 ?tr4g49
            case ty4g49 => (intro w hSw; (try dsimp only at hSw); go_simp; first | done | with_reducible rfl)
            simp only [Act.put, List.setIfInBounds_toArray, List.set_cons_zero, List.set_cons_succ]
            refine GoX.take 5 rfl (by kernel_rfl) (by kernel_rfl) (by rfl) (fun _ _ _ h => h) (v := ?tv5g50) P0 ?ty5g50 ?tr5g50
            case ty5g50 => (intro w hSw; (try dsimp only at hSw); go_simp; first | done | with_reducible rfl)
            simp only [Act.put, List.setIfInBounds_toArray, List.set_cons_zero, List.set_cons_succ]
            refine GoX.take 6 rfl (by kernel_rfl) (by kernel_rfl) (by rfl) (fun _ _ _ h => h) (v := ?tv6g51) P0 ?ty6g51 ?tr6g51
            case ty6g51 => (intro w hSw; (try dsimp only at hSw); go_simp; first | done | with_reducible rfl)
            simp only [Act.put, List.setIfInBounds_toArray, List.set_cons_zero, List.set_cons_succ]
            refine GoX.take 7 rfl (by kernel_rfl) (by kernel_rfl) (by rfl) (fun _ _ _ h => h) (v := ?tv7g52) P0 ?ty7g52 ?tr7g52
            case ty7g52 => (intro w hSw; (try dsimp only at hSw); go_simp; first | done | with_reducible rfl)
            simp only [Act.put, List.setIfInBounds_toArray, List.set_cons_zero, List.set_cons_succ]
            refine GoX.take 8 rfl (by kernel_rfl) (by kernel_rfl) (by rfl) (fun _ _ _ h => h) (v := ?tv8g53) P0 ?ty8g53 ?tr8g53
            case ty8g53 => (intro w hSw; (try dsimp only at hSw); go_simp; first | done | with_reducible rfl)
            simp only [Act.put, List.setIfInBounds_toArray, List.set_cons_zero, List.set_cons_succ]
            refine GoX.take 9 rfl (by kernel_rfl) (by kernel_rfl) (by rfl) (fun _ _ _ h => h) (v := ?tv9g54) P0 ?ty9g54 ?tr9g54
            case ty9g54 => (intro w hSw; (try dsimp only at hSw); go_simp; first | done | with_reducible rfl)
            simp only [Act.put, List.setIfInBounds_toArray, List.set_cons_zero, List.set_cons_succ]
            refine GoX.take 10 rfl (by kernel_rfl) (by kernel_rfl) (by rfl) (fun _ _ _ h => h) (v := ?tv10g55) P0 ?ty10g55 ?tr10g55
            case ty10g55 => (intro w hSw; (try dsimp only at hSw); go_simp; first | done | with_reducible rfl)
            simp only [Act.put, List.setIfInBounds_toArray, List.set_cons_zero, List.set_cons_succ]
            refine GoX.take 11 rfl (by kernel_rfl) (by kernel_rfl) (by rfl) (fun _ _ _ h => h) (v := ?tv11g56) P0 ?ty11g56 ?tr11g56
            case ty11g56 => (intro w hSw; (try dsimp only at hSw); go_simp; first | done | with_reducible rfl)
            simp only [Act.put, List.setIfInBounds_toArray, List.set_cons_zero, List.set_cons_succ]
            refine GoX.take 12 rfl (by kernel_rfl) (by kernel_rfl) (by rfl) (fun _ _ _ h => h) (v := ?tv12g57) P0 ?ty12g57 ?tr12g57
            case ty12g57 => (intro w hSw; (try dsimp only at hSw); go_simp; first | done | with_reducible rfl)
            simp only [Act.put, List.setIfInBounds_toArray, List.set_cons_zero, List.set_cons_succ]
            refine GoX.take 13 rfl (by kernel_rfl) (by kernel_rfl) (by rfl) (fun _ _ _ h => h) (v := ?tv13g58) P0 ?ty13g58 ?tr13g58
            case ty13g58 => (intro w hSw; (try dsimp only at hSw); go_simp; first | done | with_reducible rfl)
            simp only [Act.put, List.setIfInBounds_toArray, List.set_cons_zero, List.set_cons_succ]
            refine GoX.take 14 rfl (by kernel_rfl) (by kernel_rfl) (by rfl) (fun _ _ _ h => h) (v := ?tv14g59) P0 ?ty14g59 ?tr14g59
            case ty14g59 => (intro w hSw; (try dsimp only at hSw); go_simp; first | done | with_reducible rfl)
            simp only [Act.put, List.setIfInBounds_toArray, List.set_cons_zero, List.set_cons_succ]
            refine GoX.take 15 rfl (by kernel_rfl) (by kernel_rfl) (by rfl) (fun _ _ _ h => h) (v := ?tv15g60) P0 ?ty15g60 ?tr15g60
            case ty15g60 => (intro w hSw; (try dsimp only at hSw); go_simp; first | done | with_reducible rfl)
            simp only [Act.put, List.setIfInBounds_toArray, List.set_cons_zero, List.set_cons_succ]
            refine GoX.take 16 rfl (by kernel_rfl) (by kernel_rfl) (by rfl) (fun _ _ _ h => h) (v := ?tv16g61) P0 ?ty16g61 ?tr16g61
            case ty16g61 => (intro w hSw; (try dsimp only at hSw); go_simp; first | done | with_reducible rfl)
            simp only [Act.put, List.setIfInBounds_toArray, List.set_cons_zero, List.set_cons_succ]
            refine GoX.take 17 rfl (by kernel_rfl) (by kernel_rfl) (by rfl) (fun _ _ _ h => h) (v := ?tv17g62) P0 ?ty17g62 ?tr17g62
            case ty17g62 => (intro w hSw; (try dsimp only at hSw); go_simp; first | done | with_reducible rfl)
            simp only [Act.put, List.setIfInBounds_toArray, List.set_cons_zero, List.set_cons_succ]
            refine GoX.take 18 rfl (by kernel_rfl) (by kernel_rfl) (by rfl) (fun _ _ _ h => h) (v := ?tv18g63) P0 ?ty18g63 ?tr18g63
            case ty18g63 => (intro w hSw; (try dsimp only at hSw); go_simp; first | done | with_reducible rfl)
            simp only [Act.put, List.setIfInBounds_toArray, List.set_cons_zero, List.set_cons_succ]
            refine GoX.take 19 rfl (by kernel_rfl) (by kernel_rfl) (by rfl) (fun _ _ _ h => h) (v := ?tv19g64) P0 ?ty19g64 ?tr19g64
            case ty19g64 => (intro w hSw; (try dsimp only at hSw); go_simp; first | done | with_reducible rfl)
            simp only [Act.put, List.setIfInBounds_toArray, List.set_cons_zero, List.set_cons_succ]
            refine GoX.take 20 rfl (by kernel_rfl) (by kernel_rfl) (by rfl) (fun _ _ _ h => h) (v := ?tv20g65) P0 ?ty20g65 ?tr20g65
            case ty20g65 => (intro w hSw; (try dsimp only at hSw); go_simp; first | done | with_reducible rfl)
            simp only [Act.put, List.setIfInBounds_toArray, List.set_cons_zero, List.set_cons_succ]
            refine GoX.take 21 rfl (by kernel_rfl) (by kernel_rfl) (by rfl) (fun _ _ _ h => h) (v := ?tv21g66) P0 ?ty21g66 ?tr21g66
            case ty21g66 => (intro w hSw; (try dsimp only at hSw); go_simp; first | done | with_reducible rfl)
            simp only [Act.put, List.setIfInBounds_toArray, List.set_cons_zero, List.set_cons_succ]
            refine GoX.take 22 rfl (by kernel_rfl) (by kernel_rfl) (by rfl) (fun _ _ _ h => h) (v := ?tv22g67) P0 ?ty22g67 ?tr22g67
            case ty22g67 => (intro w hSw; (try dsimp only at hSw); go_simp; first | done | with_reducible rfl)
            simp only [Act.put, List.setIfInBounds_toArray, List.set_cons_zero, List.set_cons_succ]
            refine GoX.take 23 rfl (by kernel_rfl) (by kernel_rfl) (by rfl) (fun _ _ _ h => h) (v := ?tv23g68) P0 ?ty23g68 ?tr23g68
            case ty23g68 => (intro w hSw; (try dsimp only at hSw); go_simp; first | done | with_reducible rfl)
            simp only [Act.put, List.setIfInBounds_toArray, List.set_cons_zero, List.set_cons_succ]
            refine GoX.take 24 rfl (by kernel_rfl) (by kernel_rfl) (by rfl) (fun _ _ _ h => h) (v := ?tv24g69) P0 ?ty24g69 ?tr24g69
            case ty24g69 => (intro w hSw; (try dsimp only at hSw); go_simp; first | done | with_reducible rfl)
            simp only [Act.put, List.setIfInBounds_toArray, List.set_cons_zero, List.set_cons_succ]
            refine GoX.take 25 rfl (by kernel_rfl) (by kernel_rfl) (by rfl) (fun _ _ _ h => h) (v := ?tv25g70) P0 ?ty25g70 ?tr25g70
            case ty25g70 => (intro w hSw; (try dsimp only at hSw); go_simp; first | done | with_reducible rfl)
            simp only [Act.put, List.setIfInBounds_toArray, List.set_cons_zero, List.set_cons_succ]
            refine GoX.last 26 rfl (by kernel_rfl) (by kernel_rfl) (by decide) ?_
            clear P0
            go_wp2_with fail
            go_meet
            exact ⟨_, rfl, HS, Lib.hid (Below.refl _ _).drew⟩
          · have hs : false = stepBad A := by unfold stepBad; rw [decide_eq_false h0, decide_eq_false h1]; rfl
            have HS := Lib.hid hs
            clear hs
            refine GoX.start 26 (fun w' => w'.cell? ⟨b, o + i * 15 + 2, none⟩ = some (.int .i64 A.st) ∧ w'.cell? ⟨b, o + i * 15 + 3, none⟩ = some (.int .i64 A.en)) (by kernel_rfl) ?_
            refine GoX.take 0 rfl (by kernel_rfl) (by kernel_rfl) (by rfl) (fun _ _ _ h => h) (v := ?tv0g30) P0 ?ty0g30 ?tr0g30
            case ty0g30 => (intro w hSw; (try dsimp only at hSw); go_simp; first | done | with_reducible rfl)
            simp only [Act.put, List.setIfInBounds_toArray, List.set_cons_zero, List.set_cons_succ]
            refine GoX.take 1 rfl (by kernel_rfl) (by kernel_rfl) (by rfl) (fun _ _ _ h => h) (v := ?tv1g31) P0 ?ty1g31 ?tr1g31
            case ty1g31 => (intro w hSw; (try dsimp only at hSw); go_simp; first | done | with_reducible rfl)
            simp only [Act.put, List.setIfInBounds_toArray, List.set_cons_zero, List.set_cons_succ]
            refine GoX.take 2 rfl (by kernel_rfl) (by kernel_rfl) (by rfl) (fun _ _ _ h => h) (v := ?tv2g32) P0 ?ty2g32 ?tr2g32
            case ty2g32 => (intro w hSw; (try dsimp only at hSw); go_simp; first | done | with_reducible rfl)
            simp only [Act.put, List.setIfInBounds_toArray, List.set_cons_zero, List.set_cons_succ]
            refine GoX.take 3 rfl (by kernel_rfl) (by kernel_rfl) (by rfl) (fun _ _ _ h => h) (v := ?tv3g33) P0 ?ty3g33 ?tr3g33
            case ty3g33 => (intro w hSw; (try dsimp only at hSw); go_simp; first | done | with_reducible rfl)
            simp only [Act.put, List.setIfInBounds_toArray, List.set_cons_zero, List.set_cons_succ]
            refine GoX.take 4 rfl (by kernel_rfl) (by kernel_rfl) (by rfl) (fun _ _ _ h => h) (v := ?tv4g34) P0 ?ty4g34 ?tr4g34
            case ty4g34 => (intro w hSw; (try dsimp only at hSw); go_simp; first | done | with_reducible rfl)
            simp only [Act.put, List.setIfInBounds_toArray, List.set_cons_zero, List.set_cons_succ]
            refine GoX.take 5 rfl (by kernel_rfl) (by kernel_rfl) (by rfl) (fun _ _ _ h => h) (v := ?tv5g35) P0 ?ty5g35 ?tr5g35
            case ty5g35 => (intro w hSw; (try dsimp only at hSw); go_simp; first | done | with_reducible rfl)
            simp only [Act.put, List.setIfInBounds_toArray, List.set_cons_zero, List.set_cons_succ]
            refine GoX.take 6 rfl (by kernel_rfl) (by kernel_rfl) (by rfl) (fun _ _ _ h => h) (v := ?tv6g36) P0 ?ty6g36 ?tr6g36
            case ty6g36 => (intro w hSw; (try dsimp only at hSw); go_simp; first | done | with_reducible rfl)
            simp only [Act.put, List.setIfInBounds_toArray, List.set_cons_zero, List.set_cons_succ]
            refine GoX.take 7 rfl (by kernel_rfl) (by kernel_rfl) (by rfl) (fun _ _ _ h => h) (v := ?tv7g37) P0 ?ty7g37 ?tr7g37
            case ty7g37 => (intro w hSw; (try dsimp only at hSw); go_simp; first | done | with_reducible rfl)
            simp only [Act.put, List.setIfInBounds_toArray, List.set_cons_zero, List.set_cons_succ]
            refine GoX.take 8 rfl (by kernel_rfl) (by kernel_rfl) (by rfl) (fun _ _ _ h => h) (v := ?tv8g38) P0 ?ty8g38 ?tr8g38
            case ty8g38 => (intro w hSw; (try dsimp only at hSw); go_simp; first | done | with_reducible rfl)
            simp only [Act.put, List.setIfInBounds_toArray, List.set_cons_zero, List.set_cons_succ]
            refine GoX.take 9 rfl (by kernel_rfl) (by kernel_rfl) (by rfl) (fun _ _ _ h => h) (v := ?tv9g39) P0 ?ty9g39 ?tr9g39
            case ty9g39 => (intro w hSw; (try dsimp only at hSw); go_simp; first | done | with_reducible rfl)
            simp only [Act.put, List.setIfInBounds_toArray, List.set_cons_zero, List.set_cons_succ]
            refine GoX.take 10 rfl (by kernel_rfl) (by kernel_rfl) (by rfl) (fun _ _ _ h => h) (v := ?tv10g40) P0 ?ty10g40 ?tr10g40
            case ty10g40 => (intro w hSw; (try dsimp only at hSw); go_simp; first | done | with_reducible rfl)
            simp only [Act.put, List.setIfInBounds_toArray, List.set_cons_zero, List.set_cons_succ]
            refine GoX.take 11 rfl (by kernel_rfl) (by kernel_rfl) (by rfl) (fun _ _ _ h => h) (v := ?tv11g41) P0 ?ty11g41 ?tr11g41
            case ty11g41 => (intro w hSw; (try dsimp only at hSw); go_simp; first | done | with_reducible rfl)
            simp only [Act.put, List.setIfInBounds_toArray, List.set_cons_zero, List.set_cons_succ]
            refine GoX.take 12 rfl (by kernel_rfl) (by kernel_rfl) (by rfl) (fun _ _ _ h => h) (v := ?tv12g42) P0 ?ty12g42 ?tr12g42
            case ty12g42 => (intro w hSw; (try dsimp only at hSw); go_simp; first | done | with_reducible rfl)
            simp only [Act.put, List.setIfInBounds_toArray, List.set_cons_zero, List.set_cons_succ]
            refine GoX.take 13 rfl (by kernel_rfl) (by kernel_rfl) (by rfl) (fun _ _ _ h => h) (v := ?tv13g43) P0 ?ty13g43 ?tr13g43
            case ty13g43 => (intro w hSw; (try dsimp only at hSw); go_simp; first | done | with_reducible rfl)
            simp only [Act.put, List.setIfInBounds_toArray, List.set_cons_zero, List.set_cons_succ]
            refine GoX.skip 14 rfl (by kernel_rfl) (by kernel_rfl) (by rfl) (fun _ _ _ h => h) P0 ?_
            simp only [Act.put, List.setIfInBounds_toArray, List.set_cons_zero, List.set_cons_succ]
            refine GoX.skip 15 rfl (by kernel_rfl) (by kernel_rfl) (by rfl) (fun _ _ _ h => h) P0 ?_
            simp only [Act.put, List.setIfInBounds_toArray, List.set_cons_zero, List.set_cons_succ]
            refine GoX.skip 16 rfl (by kernel_rfl) (by kernel_rfl) (by rfl) (fun _ _ _ h => h) P0 ?_
            simp only [Act.put, List.setIfInBounds_toArray, List.set_cons_zero, List.set_cons_succ]
            refine GoX.skip 17 rfl (by kernel_rfl) (by kernel_rfl) (by rfl) (fun _ _ _ h => h) P0 ?_
            simp only [Act.put, List.setIfInBounds_toArray, List.set_cons_zero, List.set_cons_succ]
            refine GoX.skip 18 rfl (by kernel_rfl) (by kernel_rfl) (by rfl) (fun _ _ _ h => h) P0 ?_
            simp only [Act.put, List.setIfInBounds_toArray, List.set_cons_zero, List.set_cons_succ]
            refine GoX.skip 19 rfl (by kernel_rfl) (by kernel_rfl) (by rfl) (fun _ _ _ h => h) P0 ?_
            simp only [Act.put, List.setIfInBounds_toArray, List.set_cons_zero, List.set_cons_succ]
            refine GoX.skip 20 rfl (by kernel_rfl) (by kernel_rfl) (by rfl) (fun _ _ _ h => h) P0 ?_
            simp only [Act.put, List.setIfInBounds_toArray, List.set_cons_zero, List.set_cons_succ]
            refine GoX.skip 21 rfl (by kernel_rfl) (by kernel_rfl) (by rfl) (fun _ _ _ h => h) P0 ?_
            simp only [Act.put, List.setIfInBounds_toArray, List.set_cons_zero, List.set_cons_succ]
            refine GoX.skip 22 rfl (by kernel_rfl) (by kernel_rfl) (by rfl) (fun _ _ _ h => h) P0 ?_
            simp only [Act.put, List.setIfInBounds_toArray, List.set_cons_zero, List.set_cons_succ]
            refine GoX.skip 23 rfl (by kernel_rfl) (by kernel_rfl) (by rfl) (fun _ _ _ h => h) P0 ?_
            simp only [Act.put, List.setIfInBounds_toArray, List.set_cons_zero, List.set_cons_succ]
            refine GoX.skip 24 rfl (by kernel_rfl) (by kernel_rfl) (by rfl) (fun _ _ _ h => h) P0 ?_
            simp only [Act.put, List.setIfInBounds_toArray, List.set_cons_zero, List.set_cons_succ]
            refine GoX.take 25 rfl (by kernel_rfl) (by kernel_rfl) (by rfl) (fun _ _ _ h => h) (v := ?tv25g44) P0 ?ty25g44 ?tr25g44
            case ty25g44 => (intro w hSw; (try dsimp only at hSw); go_simp; first | done | with_reducible rfl)
            simp only [Act.put, List.setIfInBounds_toArray, List.set_cons_zero, List.set_cons_succ]
            refine GoX.last 26 rfl (by kernel_rfl) (by kernel_rfl) (by decide) ?_
            clear P0
            go_wp2_with fail
            go_meet
            exact ⟨_, rfl, HS, Lib.hid (Below.refl _ _).drew⟩
      case rest =>
      obtain ⟨q, rfl, HQ, BX⟩ := hcut
      have BY := Lib.hid (HB.out.trans (BX.out.mono HB.out.size))
      clear P0 BX
      have HNX : Hid ((xs.take (i + 1)).any stepBad = q) := Lib.hid (by rw [any_take HA.out, HB0.out, ← HQ.out]; rfl)
      cases q with
      | true =>
        have hr : res = 180 := by
          rw [HRES.out]
          refine check_bad ?_
          have h1 := HNX.out
          rw [List.any_eq_true] at h1 ⊢
          obtain ⟨a, ha, h2⟩ := h1
          exact ⟨a, List.mem_of_mem_take ha, h2⟩
        subst hr
        go_wp2
        go_ret
        exact ⟨rfl, BY.out⟩
      | false =>
        go_wp2
        go_roundw
        case rel => exact ⟨i + 1, by omega, by go_num, HNX, BY⟩
        case measure => simp [intOf]; omega
    · obtain rfl : i = an := by omega
      have hnb : xs.any stepBad = false := by have := HB0.out; rwa [List.take_of_length_le (by rw [HXL.out]; exact Nat.le_refl _)] at this
      have HNB := Lib.hid hnb
      have KK := refKeys_any aa i ac xs wr (H.out.below HB.out) hac hn
      unfold GivesKeys at KK
      clear hnb HB0
      go_wp2_with fail
      (with_reducible refine KK.mono ?_)
      rintro e wK ⟨ka, kn, kc, ks, rfl, hrow, hmem, hkn, b11⟩
      have X := Lib.hid (HB.out.trans (b11.mono HB.out.size))
      have HKR := Lib.hid hrow
      have hkl : ks.length = kn := by have := hrow.1; simpa using this
      have HKL := Lib.hid hkl
      have HR2 : Hid (res = if ks.any (longK xs) then 201 else 0) := Lib.hid (by rw [HRES.out]; exact check_long HNB.out hmem)
      clear KK b11 hrow hmem hkl
      go_wp2_with fail
      go_loopw [5] (fun vk wr => ∃ (k : Nat), k ≤ kn ∧ vk = .int .i64 (k : Nat) ∧ Hid ((ks.take k).any (longK xs) = false) ∧ Hid (Below wK.heap.size wK wr)) (fun vk _ => kn - (intOf vk).toNat)
      case atStart => exact ⟨0, Nat.zero_le _, rfl, Lib.hid rfl, Lib.hid (Below.refl _ _)⟩
      case round =>
        obtain ⟨k, hk, rfl, HAL, HY⟩ := hrel
        by_cases hltk : k < kn
        · obtain ⟨kb, ko, ekk, hkc⟩ := HKR.out.2 (by omega)
          subst ekk
          obtain ⟨key, hkey⟩ : ∃ q, ks[k]? = some q := ⟨_, List.getElem?_eq_getElem (by rw [HKL.out]; exact hltk)⟩
          have HC : Hid (∀ W, Below wK.heap.size wK W → W.cell? ⟨kb, ko + k, none⟩ = some (.string key)) := Lib.hid fun W hW => by
            have h1 := hkc k hltk
            rw [List.getElem?_map, hkey, Option.map_some] at h1
            exact cellBelow h1 hW
          have HKEY := Lib.hid hkey
          have hk0 : (0 : Int) ≤ (k : Int) := by omega
          have hk1 : (k : Int) < (kn : Int) := by omega
          clear hkc hkey
          go_wp2_with fail
          go_loopw [6, 7] (fun vn vj wi => ∃ (j : Nat) (n : Nat), j ≤ i ∧ vj = .int .i64 (j : Nat) ∧ vn = .int .i64 (n : Nat) ∧ n ≤ j ∧ Hid (n = (placesTo xs key j).length) ∧ Hid (Below wK.heap.size wK wi)) (fun _ vj _ => i - (intOf vj).toNat)
          case atStart => exact ⟨0, 0, Nat.zero_le _, rfl, rfl, Nat.le_refl _, Lib.hid rfl, HY⟩
          case round =>
            rename World => wi
            obtain ⟨j, n, hji, rfl, rfl, hnj, HN, HZ⟩ := hrel
            by_cases hlj : j < i
            · have hj0 : (0 : Int) ≤ (j : Int) := by omega
              have hj1 : (j : Int) < (i : Int) := by omega
              obtain ⟨b, o, A, x, y, z, eaa, hA1, hA, at0⟩ := H.out.at hlj
              obtain ⟨c0, c1, c2, c3, c4, c5, c6, c7, c8, c9, ca, cb, cc, cd, ce, -⟩ := at0.below (X.out.trans ((HZ.out.mono X.out.size).drew))
              have ck := HC.out wi.drew HZ.out.drew
              have HA := Lib.hid hA
              subst eaa
              have P0 : wi.drew.cell? ⟨b, o + j * 15, none⟩ = some (.int .i64 A.cl) ∧ wi.drew.cell? ⟨b, o + j * 15 + 1, none⟩ = some (.int .i64 A.d) ∧ wi.drew.cell? ⟨b, o + j * 15 + 2, none⟩ = some (.int .i64 A.st) ∧ wi.drew.cell? ⟨b, o + j * 15 + 3, none⟩ = some (.int .i64 A.en) ∧ wi.drew.cell? ⟨b, o + j * 15 + 4, none⟩ = some (.string A.key) ∧ wi.drew.cell? ⟨b, o + j * 15 + 5, none⟩ = some (.slice x.1 x.2.1 x.2.2) ∧ wi.drew.cell? ⟨b, o + j * 15 + 6, none⟩ = some (.int .i64 A.rop) ∧ wi.drew.cell? ⟨b, o + j * 15 + 7, none⟩ = some (.int .i64 A.rdo) ∧ wi.drew.cell? ⟨b, o + j * 15 + 8, none⟩ = some (.string A.rkey) ∧ wi.drew.cell? ⟨b, o + j * 15 + 9, none⟩ = some (.slice y.1 y.2.1 y.2.2) ∧ wi.drew.cell? ⟨b, o + j * 15 + 10, none⟩ = some (.int .i64 A.tn) ∧ wi.drew.cell? ⟨b, o + j * 15 + 11, none⟩ = some (.int .i64 A.tc) ∧ wi.drew.cell? ⟨b, o + j * 15 + 12, none⟩ = some (.int .i64 A.code) ∧ wi.drew.cell? ⟨b, o + j * 15 + 13, none⟩ = some (.bool A.found) ∧ wi.drew.cell? ⟨b, o + j * 15 + 14, none⟩ = some (.slice z.1 z.2.1 z.2.2) ∧ wi.drew.cell? ⟨kb, ko + k, none⟩ = some (.string key) := ⟨c0, c1, c2, c3, c4, c5, c6, c7, c8, c9, ca, cb, cc, cd, ce, ck⟩
              clear hA1 hA at0 c0 c1 c2 c3 c4 c5 c6 c7 c8 c9 ca cb cc cd ce ck
              have KC := refCounts_any A x y z key wi.drew
              unfold ActC at KC
              obtain ⟨q, hq⟩ : ∃ q, q = (decide (A.key = key) && countsB A) := ⟨_, rfl⟩
              rw [← hq] at KC
              have HQ := Lib.hid hq
              clear hq
              go_upto_region 14 with fail
              go_cut [63] (fun v wx => v = .bool q ∧ Hid (Below wi.heap.size wi wx))
              case first =>
                refine GoX.start 8 (fun w' => w'.cell? ⟨b, o + j * 15, none⟩ = some (.int .i64 A.cl) ∧ w'.cell? ⟨b, o + j * 15 + 1, none⟩ = some (.int .i64 A.d) ∧ w'.cell? ⟨b, o + j * 15 + 2, none⟩ = some (.int .i64 A.st) ∧ w'.cell? ⟨b, o + j * 15 + 3, none⟩ = some (.int .i64 A.en) ∧ w'.cell? ⟨b, o + j * 15 + 4, none⟩ = some (.string A.key) ∧ w'.cell? ⟨b, o + j * 15 + 5, none⟩ = some (.slice x.1 x.2.1 x.2.2) ∧ w'.cell? ⟨b, o + j * 15 + 6, none⟩ = some (.int .i64 A.rop) ∧ w'.cell? ⟨b, o + j * 15 + 7, none⟩ = some (.int .i64 A.rdo) ∧ w'.cell? ⟨b, o + j * 15 + 8, none⟩ = some (.string A.rkey) ∧ w'.cell? ⟨b, o + j * 15 + 9, none⟩ = some (.slice y.1 y.2.1 y.2.2) ∧ w'.cell? ⟨b, o + j * 15 + 10, none⟩ = some (.int .i64 A.tn) ∧ w'.cell? ⟨b, o + j * 15 + 11, none⟩ = some (.int .i64 A.tc) ∧ w'.cell? ⟨b, o + j * 15 + 12, none⟩ = some (.int .i64 A.code) ∧ w'.cell? ⟨b, o + j * 15 + 13, none⟩ = some (.bool A.found) ∧ w'.cell? ⟨b, o + j * 15 + 14, none⟩ = some (.slice z.1 z.2.1 z.2.2) ∧ w'.cell? ⟨kb, ko + k, none⟩ = some (.string key)) (by kernel_rfl) ?_
                refine GoX.take 0 rfl (by kernel_rfl) (by kernel_rfl) (by rfl) (fun _ _ _ h => h) (v := ?tv0g71) P0 ?ty0g71 ?tr0g71
                case ty0g71 => (intro w hSw; (try dsimp only at hSw); go_simp; first | done | with_reducible rfl)
                simp only [Act.put, List.setIfInBounds_toArray, List.set_cons_zero, List.set_cons_succ]
                refine GoX.take 1 rfl (by kernel_rfl) (by kernel_rfl) (by rfl) (fun _ _ _ h => h) (v := ?tv1g72) P0 ?ty1g72 ?tr1g72
                case ty1g72 => (intro w hSw; (try dsimp only at hSw); go_simp; first | done | with_reducible rfl)
                simp only [Act.put, List.setIfInBounds_toArray, List.set_cons_zero, List.set_cons_succ]
                refine GoX.take 2 rfl (by kernel_rfl) (by kernel_rfl) (by rfl) (fun _ _ _ h => h) (v := ?tv2g73) P0 ?ty2g73 ?tr2g73
                case ty2g73 => (intro w hSw; (try dsimp only at hSw); go_simp; first | done | with_reducible rfl)
                simp only [Act.put, List.setIfInBounds_toArray, List.set_cons_zero, List.set_cons_succ]
                refine GoX.take 3 rfl (by kernel_rfl) (by kernel_rfl) (by rfl) (fun _ _ _ h => h) (v := ?tv3g74) P0 ?ty3g74 ?tr3g74
                case ty3g74 => (intro w hSw; (try dsimp only at hSw); go_simp; first | done | with_reducible rfl)
                simp only [Act.put, List.setIfInBounds_toArray, List.set_cons_zero, List.set_cons_succ]
                refine GoX.take 4 rfl (by kernel_rfl) (by kernel_rfl) (by rfl) (fun _ _ _ h => h) (v := ?tv4g75) P0 ?ty4g75 ?tr4g75
                case ty4g75 => (intro w hSw; (try dsimp only at hSw); go_simp; first | done | with_reducible rfl)
                simp only [Act.put, List.setIfInBounds_toArray, List.set_cons_zero, List.set_cons_succ]
                refine GoX.take 5 rfl (by kernel_rfl) (by kernel_rfl) (by rfl) (fun _ _ _ h => h) (v := ?tv5g76) P0 ?ty5g76 ?tr5g76
                case ty5g76 => (intro w hSw; (try dsimp only at hSw); go_simp; first | done | with_reducible rfl)
                simp only [Act.put, List.setIfInBounds_toArray, List.set_cons_zero, List.set_cons_succ]
                refine GoX.take 6 rfl (by kernel_rfl) (by kernel_rfl) (by rfl) (fun _ _ _ h => h) (v := ?tv6g77) P0 ?ty6g77 ?tr6g77
                case ty6g77 => (intro w hSw; (try dsimp only at hSw); go_simp; first | done | with_reducible rfl)
                simp only [Act.put, List.setIfInBounds_toArray, List.set_cons_zero, List.set_cons_succ]
                refine GoX.take 7 rfl (by kernel_rfl) (by kernel_rfl) (by rfl) (fun _ _ _ h => h) (v := ?tv7g78) P0 ?ty7g78 ?tr7g78
                case ty7g78 => (intro w hSw; (try dsimp only at hSw); go_simp; first | done | with_reducible rfl)
                simp only [Act.put, List.setIfInBounds_toArray, List.set_cons_zero, List.set_cons_succ]
                refine GoX.last 8 rfl (by kernel_rfl) (by kernel_rfl) (by decide) ?_
                clear P0
                go_wp2_with fail
                (with_reducible refine KC.mono ?_)
                rintro e w9 ⟨rfl, b9⟩
                have B9 : Hid (Below wi.heap.size wi w9) := Lib.hid ((show Below wi.heap.size wi wi.drew from (Below.refl _ _).drew).trans b9)
                clear b9 KC
                go_wp2_with fail
                go_meet
                exact ⟨rfl, B9⟩
              case rest =>
              obtain ⟨rfl, BX⟩ := hcut
              have BY := Lib.hid (HZ.out.trans (BX.out.mono HZ.out.size))
              have HNX : Hid ((placesTo xs key (j + 1)).length = n + q.toNat) := Lib.hid (by
                rw [placesTo_succ, HA.out, List.length_append, ← HN.out, ← HQ.out]
                cases q <;> rfl)
              clear P0 BX KC HN
              cases q with
              | true =>
                go_wp2
                go_roundw
                case rel => exact ⟨j + 1, n + 1, by omega, by go_num, by go_num, by omega, Lib.hid (by rw [HNX.out]; rfl), BY⟩
                case measure => simp [intOf]; omega
              | false =>
                go_wp2
                go_roundw
                case rel => exact ⟨j + 1, n, by omega, by go_num, rfl, by omega, Lib.hid (by rw [HNX.out]; rfl), BY⟩
                case measure => simp [intOf]; omega
            · obtain rfl : j = i := by omega
              have HLN : Hid (longK xs key = decide (12 < n)) := Lib.hid (by unfold longK placesOf; rw [HXL.out, ← HN.out])
              clear HN HC
              by_cases h12 : 12 < n
              · have h12' : (12 : Int) < (n : Int) := by omega
                have hr : res = 201 := by
                  rw [HR2.out, if_pos]
                  rw [List.any_eq_true]
                  exact ⟨key, List.mem_of_getElem? HKEY.out, by rw [HLN.out]; exact decide_eq_true h12⟩
                have BZ := Lib.hid (X.out.trans (HZ.out.mono X.out.size))
                subst hr
                go_wp2
                go_ret
                exact ⟨rfl, BZ.out⟩
              · have h12' : ¬ (12 : Int) < (n : Int) := by omega
                go_wp2
                go_roundw
                case rel => exact ⟨k + 1, by omega, by go_num, Lib.hid (by rw [any_take HKEY.out, HAL.out, HLN.out]; simp; omega), HZ⟩
                case measure => simp [intOf]; omega
        · obtain rfl : k = kn := by omega
          have hr : res = 0 := by
            rw [HR2.out, if_neg]
            have := HAL.out
            rw [List.take_of_length_le (by rw [HKL.out]; exact Nat.le_refl _)] at this
            rw [this]; decide
          have BZ := Lib.hid (X.out.trans (HY.out.mono X.out.size))
          subst hr
          go_wp2
          go_ret
          exact ⟨rfl, BZ.out⟩
end Go.Proofs.Ytnefcbcioemfiaa
