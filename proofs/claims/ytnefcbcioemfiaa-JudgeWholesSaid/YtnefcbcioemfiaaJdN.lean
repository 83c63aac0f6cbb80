/-
  judge: Fits.
-/
import Derived.Test.YtnefcbcioemfiaaJdM
namespace Go.Proofs.Ytnefcbcioemfiaa
open Go Go.RowKit Go.ChangeMaps Go.MapKept Go.WideShapes
open Go.Maps (Keyed)

def idxR (P : List Nat) (p : Int) : Int := match P.findIdx? (fun (q : Nat) => decide ((q : Int) = p)) with
  | none => -1
  | some i => i
theorem idxR_some {P : List Nat} {p : Int} {k : Nat} (hk : k < P.length) (h : ((P[k] : Nat) : Int) = p) (h0 : ∀ (j : Nat) (q : Nat), j < k → P[j]? = some q → ¬ (q : Int) = p) : P.findIdx? (fun (q : Nat) => decide ((q : Int) = p)) = some k := by
  rw [List.findIdx?_eq_some_iff_getElem]
  refine ⟨hk, by simpa using h, fun j hj => ?_⟩
  have hjl : j < P.length := by omega
  have := h0 j _ hj (List.getElem?_eq_getElem hjl)
  simpa using this
theorem idxR_none {P : List Nat} {p : Int} (h0 : ∀ (j : Nat) (q : Nat), j < P.length → P[j]? = some q → ¬ (q : Int) = p) : P.findIdx? (fun (q : Nat) => decide ((q : Int) = p)) = none := by
  rw [List.findIdx?_eq_none_iff]
  intro q hq
  obtain ⟨j, hj⟩ := List.getElem?_of_mem hq
  have := h0 j q (List.getElem?_eq_some_iff.1 hj).1 hj
  simpa using this
set_option maxRecDepth 100000 in
theorem placeIs_any (q p : Int) (bx : Nat) (w : World) (hb : w.cell? ⟨bx, 0, none⟩ = some (.int .i64 p)) : Calls Try.prog 44 #[.int .i64 q, PTR bx] w fun e w' => e = .returned (.bool (q == p)) ∧ w' = w := by
  go_enter Try.func44, Try.ntmps44
  go_wp2
  go_ret
  exact ⟨rfl, rfl⟩
set_option maxRecDepth 100000 in
set_option maxHeartbeats 4000000 in
theorem indexP_any (pa : Option Addr) (pn pc : Nat) (P : List Nat) (p : Int) (bx : Nat) (w : World) (hP : IntsV w (pa, pn, pc) (cnL P)) (hn : pn ≤ 1000000) (hb : w.cell? ⟨bx, 0, none⟩ = some (.int .i64 p)) :
    Calls Try.prog 43 #[.slice pa pn pc, .func (.func 44) #[] #[PTR bx]] w fun e w' => e = .returned (.int .i64 (idxR P p)) ∧ Below w.heap.size w w' := by
  have hpl : P.length = pn := by have := hP.length; simpa using this
  have hpc : pn ≤ pc := hP.cap
  have HP := Lib.hid hP
  have HPL := Lib.hid hpl
  have HBX := Lib.hid hb
  obtain ⟨R, hR⟩ : ∃ R, R = idxR P p := ⟨_, rfl⟩
  rw [← hR]
  have HR := Lib.hid hR
  clear hP hpl hb hR
  go_enter Try.func43, Try.ntmps43
  go_wp2
  go_loopw [8] (fun i wr => ∃ k : Nat, k ≤ pn ∧ i = .int .i64 k ∧ Hid (∀ (j : Nat) (q : Nat), j < k → P[j]? = some q → ¬ (q : Int) = p) ∧ Hid (Below w.heap.size w wr)) (fun i _ => pn - (intOf i).toNat)
  case atStart => exact ⟨0, Nat.zero_le _, rfl, Lib.hid (fun j q hj => absurd hj (Nat.not_lt_zero _)), Lib.hid (Below.refl _ _)⟩
  case round =>
    obtain ⟨k, hk, rfl, HZ, HB⟩ := hrel
    by_cases hlt : k < pn
    · obtain ⟨b, o, e, hc⟩ := (HP.out.below HB.out).row.2 (by simp only; omega)
      simp only at e
      subst e
      have hkP : k < P.length := by rw [HPL.out]; exact hlt
      obtain ⟨q, hq⟩ : ∃ q, q = P[k] := ⟨_, rfl⟩
      have c1 := hc k (by simp only; omega)
      have hcq : ((cnL P).map iv)[k]? = some (.int .i64 (q : Int)) := cnL_get (by rw [hq]; exact List.getElem?_eq_getElem hkP)
      rw [hcq] at c1
      have HQ := Lib.hid hq
      have hk0 : (0 : Int) ≤ (k : Int) := by omega
      have hk1 : (k : Int) < (pn : Int) := by omega
      have KP := placeIs_any (q : Int) p bx wr (cellBelow HBX.out HB.out)
      clear hc hcq hq
      by_cases hqp : (q : Int) = p
      · have e1 : ((q : Int) == p) = true := by simpa using hqp
        rw [e1] at KP
        have hRk : R = (k : Int) := by
          rw [HR.out, idxR, idxR_some hkP (by rw [← HQ.out]; exact hqp) HZ.out]
        have HRK := Lib.hid hRk
        clear e1 hqp hRk
        go_wp2_with fail
        (with_reducible refine KP.mono ?_)
        rintro e w5 ⟨rfl, rfl⟩
        go_wp2
        go_ret
        exact ⟨by rw [HRK.out]; rfl, HB.out⟩
      · have e1 : ((q : Int) == p) = false := by simpa using hqp
        rw [e1] at KP
        have HNQ := Lib.hid hqp
        clear e1 hqp
        go_wp2_with fail
        (with_reducible refine KP.mono ?_)
        rintro e w5 ⟨rfl, rfl⟩
        go_wp2
        go_roundw
        case rel => exact ⟨k + 1, by omega, by go_num, Lib.hid (fun j r hj hr => (by
          by_cases e1 : j = k
          · rw [e1, List.getElem?_eq_getElem hkP, ← HQ.out] at hr
            injection hr with hr
            rw [← hr]; exact HNQ.out
          · exact HZ.out j r (by omega) hr)), HB⟩
        case measure => simp [intOf]; omega
    · obtain rfl : k = pn := by omega
      have hRk : R = -1 := by
        rw [HR.out, idxR, idxR_none (by rw [HPL.out]; exact HZ.out)]
      have HRK := Lib.hid hRk
      clear hRk
      go_wp2
      go_ret
      exact ⟨by rw [HRK.out]; rfl, HB.out⟩
theorem drop_cons {α : Type} {l : List α} {k : Nat} {x : α} (h : l[k]? = some x) : l.drop k = x :: l.drop (k + 1) := by
  obtain ⟨hk, e⟩ := List.getElem?_eq_some_iff.1 h
  rw [List.drop_eq_getElem_cons hk, e]
set_option maxRecDepth 100000 in
set_option maxHeartbeats 8000000 in
theorem fitsK_any (aa : Option Addr) (an ac : Nat) (xs : List ActR) (key : ByteArray) (oa : Option Addr) (on oc : Nat) (os : List Int) (w : World) (h : ActsV w aa an xs) (hac : an ≤ ac) (hn : an ≤ 1000000) (hkk : KOk xs) (hks : key.size ≤ 140737488355328) (ho : IntsV w (oa, on, oc) os) (hon : on ≤ 1000000) :
    Calls Try.prog 25 #[.slice aa an ac, .string key, .slice oa on oc] w fun e w' => e = .returned (.bool (fitsOf xs key os)) ∧ Below w.heap.size w w' := by
  have KC := check_any aa an ac xs w h hac hn hkk
  have HKB := Lib.hid fun W (hW : Below w.heap.size w W) => byKey_any aa an ac xs W (h.below hW) hac hn hkk
  have HKN := Lib.hid fun (pa : Option Addr) (pn pc : Nat) (P : List Nat) (W : World) (hW : Below w.heap.size w W) (hP : IntsV W (pa, pn, pc) (cnL P)) (hp : ∀ p ∈ P, p < an) (h12 : P.length ≤ 12) => newSearch_any aa an ac xs pa pn pc P W (h.below hW) hP hp h12
  have HLEN := Lib.hid h.len
  have HKS := Lib.hid hks
  have HO := Lib.hid ho
  have hol : os.length = on := ho.length
  have hoc : on ≤ oc := ho.cap
  have HOL := Lib.hid hol
  obtain ⟨cv, hcv⟩ : ∃ c, c = checkR xs := ⟨_, rfl⟩
  rw [← hcv] at KC
  have HCV := Lib.hid hcv
  clear h hkk hks hcv ho hol
  by_cases hc : cv = 0
  · subst hc
    obtain ⟨R, hR⟩ : ∃ R, R = fitsOf xs key os := ⟨_, rfl⟩
    rw [← hR]
    have hR2 : R = fitsR (rowOf xs key) (placesOf xs key) os 0 (-1) := by rw [hR, fitsOf, decide_eq_true HCV.out.symm, Bool.true_and]
    have HR := Lib.hid hR2
    clear hR hR2
    go_enter Try.func25, Try.ntmps25
    go_wp2_with fail
    (with_reducible refine KC.mono ?_)
    rintro e w0 ⟨rfl, b0⟩
    have KB := HKB.out w0 b0
    have B0 := Lib.hid b0
    clear b0 KC
    go_wp2_with fail
    (with_reducible refine KB.mono ?_)
    rintro e w2 ⟨mb, f, cnt, rfl, hK, b2, hmb⟩
    have K2 := Lib.hid hK
    have B2 := Lib.hid (B0.out.trans (b2.mono B0.out.size))
    clear hK b2 hmb KB
    obtain ⟨⟨ha, hnn, hcc⟩, hhd⟩ : ∃ hd, (f key).getD (none, 0, 0) = hd := ⟨_, rfl⟩
    have hrow : IntsV w2 (ha, hnn, hcc) (cnL (placesOf xs key)) := by
      cases hf : f key with
      | some x => rw [hf] at hhd; simp only [Option.getD_some] at hhd; subst hhd; exact K2.out.rows key _ hf
      | none =>
        rw [hf] at hhd
        injection hhd with e1 e2
        injection e2 with e2 e3
        subst e1 e2 e3
        have : placesOf xs key = [] := places_none (fun hk => by have := (K2.out.seen key).2 hk; rw [hf] at this; cases this)
        rw [this]
        exact ⟨⟨rfl, fun h => absurd h (Nat.lt_irrefl _)⟩, by simp, by simp, fun _ => rfl⟩
    have hp12 := check_len HCV.out.symm key
    have KN := HKN.out ha hnn hcc (placesOf xs key) w2 B2.out hrow (fun p hp => by have := placesTo_lt hp; have := HLEN.out; omega) hp12
    have hpl : (placesOf xs key).length = hnn := by have := hrow.length; simpa using this
    rw [placesOf_row] at KN
    rw [hpl] at KN hp12
    obtain ⟨P, hP⟩ : ∃ P, P = placesOf xs key := ⟨_, rfl⟩
    obtain ⟨A, hA⟩ : ∃ A, A = rowOf xs key := ⟨_, rfl⟩
    rw [← hP] at hrow HR hpl
    rw [← hA] at KN HR
    have HHD := Lib.hid hhd
    have HROW := Lib.hid hrow
    clear hhd hrow hP hA HKN HKB
    go_wp2_with (first | (at_lookup; refine wpList_lookup_p _ rfl _ _ rfl mb f cnt rfl K2.out.map key (ha, hnn, hcc) rfl HKS.out HHD.out ?_))
    (with_reducible refine KN.mono ?_)
    rintro e w3 ⟨sb, db, sa, sc, rfl, hS, -, b3, -⟩
    have S3 := Lib.hid hS
    have B3 := Lib.hid (B2.out.trans (b3.mono B2.out.size))
    have P3 := Lib.hid (HROW.out.below b3)
    have O3 := Lib.hid (HO.out.below B3.out)
    clear hS b3 KN HROW K2 HHD B2 HO
    go_upto_region 6 with fail
    refine (?_ : ∀ W : World, Hid (Below w3.heap.size w3 W) → Hid (W.heap[w3.heap.size]? = some (.cells #[.int .u64 ((0 : Nat) : Int), .int .i64 (-1)] StT (0, 0))) → Code.wp Try.prog _ _ _ W) _ (Lib.hid (below_alloc w3 _)) (Lib.hid (heap_alloc_new w3 _))
    intro W BW XW
    go_wp2
    go_loopw [26] (fun v wr => ∃ (k T : Nat) (l : Int), k ≤ on ∧ v = .int .i64 (k : Nat) ∧ Hid (R = fitsR A P (os.drop k) T l) ∧ Hid (T < 2 ^ 64) ∧ Hid (l = -1 ∨ ∃ j : Nat, l = j ∧ j < hnn) ∧ Hid (wr.heap[w3.heap.size]? = some (.cells #[.int .u64 (T : Int), .int .i64 l] StT (0, 0))) ∧ Hid (Below w3.heap.size w3 wr)) (fun v _ => on - (intOf v).toNat)
    case atStart => exact ⟨0, 0, -1, Nat.zero_le _, rfl, Lib.hid (by rw [HR.out]; rfl), Lib.hid (by decide), Lib.hid (.inl rfl), XW, BW⟩
    case round =>
      clear BW XW
      obtain ⟨k, T, l, hk, rfl, HF, HT, HL, HX, HB⟩ := hrel
      obtain ⟨n0, n1, nF⟩ : wr.cell? ⟨w3.heap.size, 0, none⟩ = some (.int .u64 (T : Int)) ∧ wr.cell? ⟨w3.heap.size, 1, none⟩ = some (.int .i64 l) ∧ ∀ j, wr.frozen? ⟨w3.heap.size, j, none⟩ = false := ⟨cell_of_row _ _ 0 _ _ _ HX.out, cell_of_row _ _ 1 _ _ _ HX.out, fun _ => frozen_of_row _ _ _ _ _ HX.out⟩
      by_cases hlt : k < on
      · obtain ⟨b, o, e, hcl⟩ := (O3.out.below HB.out).row.2 (by simp only; omega)
        simp only at e
        subst e
        obtain ⟨p, hp⟩ : ∃ p, os[k]? = some p := ⟨_, List.getElem?_eq_getElem (by rw [HOL.out]; exact hlt)⟩
        have c1 := hcl k (by simp only; omega)
        rw [List.getElem?_map, hp, Option.map_some] at c1
        unfold iv at c1
        have hdr : R = fitsR A P (p :: os.drop (k + 1)) T l := by rw [HF.out, drop_cons hp]
        have HDR := Lib.hid hdr
        have hk0 : (0 : Int) ≤ (k : Int) := by omega
        have hk1 : (k : Int) < (on : Int) := by omega
        have HX5 := Lib.hid ((heap_alloc_old wr (.cells #[.int .i64 p] 3) (Array.getElem?_eq_some_iff.1 HX.out).1).trans HX.out)
        have B5 := Lib.hid (HB.out.alloc HB.out.size (.cells #[.int .i64 p] 3))
        have KI := indexP_any ha hnn hcc P p wr.heap.size _ (P3.out.below B5.out) (by omega) (cell_of_row _ _ 0 _ _ _ (heap_alloc_new wr (.cells #[.int .i64 p] 3)))
        obtain ⟨I, hI⟩ : ∃ I, I = idxR P p := ⟨_, rfl⟩
        rw [← hI] at KI
        have HI := Lib.hid hI
        clear hcl hp hdr hI
        cases hfi : P.findIdx? (fun (q : Nat) => decide ((q : Int) = p)) with
        | none =>
          have hRf : R = false := by rw [HDR.out, fitsR, hfi]
          have hIv : I = -1 := by rw [HI.out, idxR, hfi]
          have HRF := Lib.hid hRf
          subst hIv
          clear hRf hfi
          go_wp2_with fail
          (with_reducible refine KI.mono ?_)
          rintro e w6 ⟨rfl, b6⟩
          have B6 := Lib.hid (B5.out.trans (b6.mono B5.out.size))
          clear KI b6
          go_wp2
          go_ret
          exact ⟨by rw [HRF.out]; rfl, B3.out.trans (B6.out.mono B3.out.size)⟩
        | some i =>
          have hIv : I = (i : Int) := by rw [HI.out, idxR, hfi]
          have hil : i < hnn := by rw [← hpl]; exact (List.findIdx?_eq_some_iff_getElem.1 hfi).1
          have hRf : R = (followsB A T l i && fitsR A P (os.drop (k + 1)) (behT T i) (behL A l i)) := by rw [HDR.out, fitsR, hfi]
          have HRF := Lib.hid hRf
          subst hIv
          have hi0 : ¬ (i : Int) < 0 := by omega
          clear hRf hfi
          go_wp2_with fail
          (with_reducible refine KI.mono ?_)
          rintro e w6 ⟨rfl, b6⟩
          have B6 := Lib.hid (B5.out.trans (b6.mono B5.out.size))
          have X6 := Lib.hid ((b6.block _ (Array.getElem?_eq_some_iff.1 HX5.out).1).trans HX5.out)
          have KF := follows_any sb sa hnn sc db A T i l w6 (S3.out.below B6.out) HL.out HT.out hil
          clear KI b6 n0 n1 nF HX5
          obtain ⟨n0, n1, nF⟩ : w6.cell? ⟨w3.heap.size, 0, none⟩ = some (.int .u64 (T : Int)) ∧ w6.cell? ⟨w3.heap.size, 1, none⟩ = some (.int .i64 l) ∧ ∀ j, w6.frozen? ⟨w3.heap.size, j, none⟩ = false := ⟨cell_of_row _ _ 0 _ _ _ X6.out, cell_of_row _ _ 1 _ _ _ X6.out, fun _ => frozen_of_row _ _ _ _ _ X6.out⟩
          obtain ⟨fl, hfl⟩ : ∃ fl, fl = followsB A T l i := ⟨_, rfl⟩
          rw [← hfl] at KF HRF
          have HFL := Lib.hid hfl
          clear hfl
          cases fl
          · have hRf : R = false := by rw [HRF.out]; rfl
            have HRF2 := Lib.hid hRf
            clear hRf
            go_wp2_with fail
            (with_reducible refine KF.mono ?_)
            rintro e w7 ⟨rfl, b7⟩
            have B7 := Lib.hid (B6.out.trans (b7.mono B6.out.size))
            clear KF b7
            go_wp2
            go_ret
            exact ⟨by rw [HRF2.out]; rfl, B3.out.trans (B7.out.mono B3.out.size)⟩
          · have hRf : R = fitsR A P (os.drop (k + 1)) (behT T i) (behL A l i) := by rw [HRF.out, Bool.true_and]
            have HRF2 := Lib.hid hRf
            clear hRf
            go_wp2_with fail
            (with_reducible refine KF.mono ?_)
            rintro e w7 ⟨rfl, b7⟩
            have B7 := Lib.hid (B6.out.trans (b7.mono B6.out.size))
            have X7 := Lib.hid ((b7.block _ (Array.getElem?_eq_some_iff.1 X6.out).1).trans X6.out)
            have KB2 := behind_any sb sa hnn sc db A T i l w7 (S3.out.below B7.out) HT.out hil
            obtain ⟨T2, hT2⟩ : ∃ T2, T2 = behT T i := ⟨_, rfl⟩
            obtain ⟨l2, hl2⟩ : ∃ l2, l2 = behL A l i := ⟨_, rfl⟩
            have HT2 := Lib.hid (show T2 < 2 ^ 64 by rw [hT2]; exact behT_lt HT.out (by omega))
            have HL2 := Lib.hid (show l2 = -1 ∨ ∃ j : Nat, l2 = j ∧ j < hnn by rw [hl2]; exact behL_ok HL.out hil)
            rw [← hT2, ← hl2] at KB2 HRF2
            clear KF b7 n0 n1 nF X6 hT2 hl2
            obtain ⟨n0, n1, nF⟩ : w7.cell? ⟨w3.heap.size, 0, none⟩ = some (.int .u64 (T : Int)) ∧ w7.cell? ⟨w3.heap.size, 1, none⟩ = some (.int .i64 l) ∧ ∀ j, w7.frozen? ⟨w3.heap.size, j, none⟩ = false := ⟨cell_of_row _ _ 0 _ _ _ X7.out, cell_of_row _ _ 1 _ _ _ X7.out, fun _ => frozen_of_row _ _ _ _ _ X7.out⟩
            go_wp2_with fail
            (with_reducible refine KB2.mono ?_)
            rintro e w8 ⟨rfl, b8⟩
            have B8 := Lib.hid (B7.out.trans (b8.mono B7.out.size))
            have X8 := Lib.hid ((b8.block _ (Array.getElem?_eq_some_iff.1 X7.out).1).trans X7.out)
            clear KB2 b8 n0 n1 nF X7
            obtain ⟨n0, n1, nF⟩ : w8.cell? ⟨w3.heap.size, 0, none⟩ = some (.int .u64 (T : Int)) ∧ w8.cell? ⟨w3.heap.size, 1, none⟩ = some (.int .i64 l) ∧ ∀ j, w8.frozen? ⟨w3.heap.size, j, none⟩ = false := ⟨cell_of_row _ _ 0 _ _ _ X8.out, cell_of_row _ _ 1 _ _ _ X8.out, fun _ => frozen_of_row _ _ _ _ _ X8.out⟩
            have f0 := nF 0
            have f1 := nF 1
            clear nF
            go_wp2
            go_roundw
            case rel => exact ⟨k + 1, T2, l2, by omega, by go_num, HRF2, HT2, HL2, Lib.hid (heap_setCell_same _ _ 1 _ _ _ (heap_setCell_same _ _ 0 _ _ _ X8.out)), Lib.hid ((B8.out.setCell (p := ⟨w3.heap.size, 0, none⟩) (Nat.le_refl _) _).setCell (p := ⟨w3.heap.size, 1, none⟩) (Nat.le_refl _) _)⟩
            case measure => simp [intOf]; omega
      · obtain rfl : k = on := by omega
        have hRf : R = completeB A T := by rw [HF.out, List.drop_of_length_le (by rw [HOL.out]; exact Nat.le_refl _)]; rfl
        have HRF := Lib.hid hRf
        have KC2 := complete_any sb sa hnn sc db A T l wr (S3.out.below HB.out) HT.out
        rw [← HRF.out] at KC2
        clear hRf
        go_wp2_with fail
        (with_reducible refine KC2.mono ?_)
        rintro e w6 ⟨rfl, b6⟩
        have B6 := Lib.hid (HB.out.trans (b6.mono HB.out.size))
        clear b6 KC2
        go_wp2
        go_ret
        exact ⟨rfl, B3.out.trans (B6.out.mono B3.out.size)⟩
  · have hO : fitsOf xs key os = false := by rw [fitsOf, decide_eq_false (by rw [← HCV.out]; exact hc)]; rfl
    rw [hO]
    have hc3 : (cv != 0) = true := by simpa using hc
    clear hO hc
    go_enter Try.func25, Try.ntmps25
    go_wp2_with fail
    (with_reducible refine KC.mono ?_)
    rintro e w1 ⟨rfl, b1⟩
    have B1 := Lib.hid b1
    clear b1 KC
    go_wp2
    go_ret
    exact ⟨rfl, B1.out⟩
end Go.Proofs.Ytnefcbcioemfiaa
