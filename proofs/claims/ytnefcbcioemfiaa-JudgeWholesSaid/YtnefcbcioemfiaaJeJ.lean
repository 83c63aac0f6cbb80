/-
  The reference of the judge: its search.
-/
import Derived.Test.YtnefcbcioemfiaaJeI
import Derived.Test.YtnefcbcioemfiaaJdF
namespace Go.Proofs.Ytnefcbcioemfiaa
open Go Go.RowKit

theorem acts_all {w : World} {aa : Option Addr} {n : Nat} {As : List ActR} (h : ActsV w aa n As) (h0 : 0 < n) : ∃ b o, aa = some ⟨b, o, none⟩ ∧ ∀ i, i < n → ∃ A x y z, A = As.getD i dAct ∧ ∀ W, Below w.heap.size w W → ActAt W b (o + i * 15) A x y z := by
  obtain ⟨h1, X, hx⟩ := h
  obtain ⟨b, o, e, hl, hc⟩ := hx h0
  refine ⟨b, o, e, fun i hi => ⟨As.getD i dAct, (X i).1, (X i).2.1, (X i).2.2, rfl, fun W hW => ?_⟩⟩
  have hit : As[i]? = some (As.getD i dAct) := by rw [List.getD_eq_getElem?_getD, List.getElem?_eq_getElem (by omega)]; rfl
  exact (hc i _ hit).below hW
def MoreR (xs : List ActR) (P : List Nat) (last : Int) (w : World) (e : Ending) (w' : World) : Prop := ∃ r : Bool, (r = true ↔ LinC (curL xs last) (actsOf xs P)) ∧ e = .returned (.bool r) ∧ Below w.heap.size w w'
theorem before_sure {C A : ActR} (h : sureB C = true) : beforeB C A = decide (C.en < A.st) := by
  unfold sureB at h
  unfold beforeB
  rw [Bool.and_eq_true] at h
  rw [h.1]; rfl

set_option maxRecDepth 100000 in
set_option maxHeartbeats 16000000 in
theorem more_step (aa : Option Addr) (an ac : Nat) (xs : List ActR) (P : List Nat) (pa : Option Addr) (pn pc : Nat) (last : Int) (w : World) (h : ActsV w aa an xs) (hn : an ≤ 1000000) (hP : IntsV w (pa, pn, pc) (cnL P)) (hpa : ∀ p ∈ P, p < an) (hst : ∀ a ∈ xs, stepBad a = false) (hla : last < (an : Int)) (hpn : pn ≤ 1000000)
    (IH : ∀ (P' : List Nat) (pa' : Option Addr) (pn' pc' : Nat) (last' : Int) (w' : World), P'.length < P.length → ActsV w' aa an xs → IntsV w' (pa', pn', pc') (cnL P') → (∀ p ∈ P', p < an) → last' < (an : Int) → pn' ≤ 1000000 → Calls Try.prog 38 #[.slice aa an ac, .slice pa' pn' pc', .int .i64 last'] w' (MoreR xs P' last' w')) :
    Calls Try.prog 38 #[.slice aa an ac, .slice pa pn pc, .int .i64 last] w (MoreR xs P last w) := by
  obtain ⟨i0, hi, hz0, hz1, hz2⟩ := info_parts infoIntJ
  have H := Lib.hid h
  have HP := Lib.hid hP
  have HLA := Lib.hid hla
  have HIH := Lib.hid IH
  have hpl : P.length = pn := by have := hP.length; simpa using this
  have hpc : pn ≤ pc := hP.cap
  have HPL := Lib.hid hpl
  have HPA : Hid (∀ m, m < pn → P.getD m 0 < an) := Lib.hid fun m hm => hpa _ (by rw [List.getD_eq_getElem?_getD, List.getElem?_eq_getElem (by omega)]; exact List.getElem_mem _)
  have HPM := Lib.hid hpa
  have hsa : ∀ a ∈ actsOf xs P, stepBad a = false := fun a ha => by
    obtain ⟨p, hp, rfl⟩ := List.mem_map.1 ha
    have hlp : p < xs.length := by rw [h.len]; exact hpa p hp
    rw [List.getD_eq_getElem?_getD, List.getElem?_eq_getElem hlp]
    exact hst _ (List.getElem_mem _)
  have HMI := Lib.hid (more_iff (last := last) hsa)
  clear h hP IH hpl hpa hst hsa hla
  go_enter Try.func38, Try.ntmps38
  go_wp2_with fail
  go_loopw [7, 8] (fun vb vi wr => ∃ (i : Nat) (b : Bool), i ≤ pn ∧ vi = .int .i64 (i : Nat) ∧ vb = .bool b ∧ Hid (b = true ↔ ∃ m, m < i ∧ sureB (pAct xs P m) = true) ∧ Hid (Below w.heap.size w wr)) (fun _ vi _ => pn - (intOf vi).toNat)
  case atStart => exact ⟨0, false, Nat.zero_le _, rfl, rfl, Lib.hid ⟨fun h => (nomatch h), fun ⟨m, hm, _⟩ => absurd hm (Nat.not_lt_zero _)⟩, Lib.hid (Below.refl _ _)⟩
  case round =>
    obtain ⟨i, bb, hin, rfl, rfl, HB0, HB⟩ := hrel
    by_cases hlt : i < pn
    · have hi0 : (0 : Int) ≤ (i : Int) := by omega
      have hi1 : (i : Int) < (pn : Int) := by omega
      cases bb with
      | true =>
        have HN : Hid (true = true ↔ ∃ m, m < i + 1 ∧ sureB (pAct xs P m) = true) := Lib.hid ⟨fun _ => by obtain ⟨m, hm, r⟩ := HB0.out.1 rfl; exact ⟨m, by omega, r⟩, fun _ => rfl⟩
        go_wp2
        go_roundw
        case rel => exact ⟨i + 1, true, by omega, by go_num, rfl, HN, HB⟩
        case measure => simp [intOf]; omega
      | false =>
        obtain ⟨lb, lo, el, hlc⟩ := (HP.out.below HB.out).row.2 (by simp only; omega)
        simp only at el
        subst el
        obtain ⟨p, hp⟩ : ∃ p, p = P.getD i 0 := ⟨_, rfl⟩
        have hpl : p < an := by rw [hp]; exact HPA.out i hlt
        have o1 : wr.cell? ⟨lb, lo + i, none⟩ = some (.int .i64 (p : Int)) := by
          have h1 := hlc i (by simp only; omega)
          have hiP : i < P.length := by rw [HPL.out]; exact hlt
          rw [h1, hp, List.getD_eq_getElem?_getD, List.getElem?_eq_getElem hiP]
          simp [iv, hiP]
        obtain ⟨b, o, eaa, hact⟩ := acts_all H.out (by omega)
        subst eaa
        obtain ⟨A, x, y, z, hA, hat⟩ := hact p hpl
        obtain ⟨c0, c1, c2, c3, c4, c5, c6, c7, c8, c9, ca, cb, cc, cd, ce, -⟩ := hat wr HB.out
        have KM := refMust_any A x y z wr
        unfold ActC at KM
        obtain ⟨s, hs⟩ : ∃ q, q = sureB A := ⟨_, rfl⟩
        rw [← hs] at KM
        have HS : Hid (s = sureB (pAct xs P i)) := Lib.hid (by rw [hs, hA, hp]; rfl)
        have hp0 : (0 : Int) ≤ (p : Int) := by omega
        have hp1 : (p : Int) < (an : Int) := by omega
        clear hs hA hp hact hat hlc
        go_wp2_with fail
        (with_reducible refine KM.mono ?_)
        rintro e w3 ⟨rfl, b3⟩
        have B3 := Lib.hid (HB.out.trans (b3.mono HB.out.size))
        clear KM b3 c0 c1 c2 c3 c4 c5 c6 c7 c8 c9 ca cb cc cd ce o1
        have HN : Hid (s = true ↔ ∃ m, m < i + 1 ∧ sureB (pAct xs P m) = true) := Lib.hid ⟨fun hs => ⟨i, by omega, by rw [← HS.out]; exact hs⟩, fun ⟨m, hm, r⟩ => by
          by_cases e : m = i
          · rw [HS.out, ← e]; exact r
          · exact nomatch HB0.out.2 ⟨m, by omega, r⟩⟩
        go_wp2
        go_roundw
        case rel => exact ⟨i + 1, s, by omega, by go_num, rfl, HN, B3⟩
        case measure => simp [intOf]; omega
    · obtain rfl : i = pn := by omega
      cases bb with
      | false =>
        have HE : Hid (MoreR xs P last w (.returned (.bool true)) wr) := Lib.hid ⟨true, ⟨fun _ => HMI.out.2 (.inl fun m hm => by
          cases hs : sureB (pAct xs P m) with
          | false => rfl
          | true => exact nomatch HB0.out.2 ⟨m, by have := HPL.out; omega, hs⟩), fun _ => rfl⟩, rfl, HB.out⟩
        go_wp2
        go_ret
        exact HE.out
      | true =>
        have HNE : Hid (¬ ∀ m, m < P.length → sureB (pAct xs P m) = false) := Lib.hid fun h => by
          obtain ⟨m, hm, r⟩ := HB0.out.1 rfl
          rw [h m (by rw [HPL.out]; exact hm)] at r
          cases r
        clear HB0
        go_wp2_with fail
        go_loopw [9] (fun vi wr => ∃ (k : Nat), k ≤ i ∧ vi = .int .i64 (k : Nat) ∧ Hid (∀ m, m < k → ¬ okM xs P last m) ∧ Hid (Below w.heap.size w wr)) (fun vi _ => i - (intOf vi).toNat)
        case atStart => exact ⟨0, Nat.zero_le _, rfl, Lib.hid (fun m hm => absurd hm (Nat.not_lt_zero _)), HB⟩
        case round =>
          clear HB
          rename World => wB
          obtain ⟨k, hk, rfl, HNO, HB⟩ := hrel
          by_cases hlt : k < i
          · have hk0 : (0 : Int) ≤ (k : Int) := by omega
            have hk1 : (k : Int) < (i : Int) := by omega
            obtain ⟨lb, lo, el, hlc⟩ := HP.out.row.2 (by simp only; omega)
            simp only at el
            subst el
            have HPC : Hid (∀ m, m < i → ∀ W, Below w.heap.size w W → W.cell? ⟨lb, lo + m, none⟩ = some (.int .i64 ((P.getD m 0 : Nat) : Int))) := Lib.hid fun m hm W hW => by
              have h1 := hlc m (by simp only; omega)
              have hiP : m < P.length := by rw [HPL.out]; exact hm
              refine cellBelow ?_ hW
              rw [h1, List.getD_eq_getElem?_getD, List.getElem?_eq_getElem hiP]
              simp [iv, hiP]
            have han : 0 < an := by have := HPA.out k hlt; omega
            obtain ⟨b, o, eaa, hact⟩ := acts_all H.out han
            subst eaa
            have HACT := Lib.hid hact
            obtain ⟨p, hp⟩ : ∃ p, p = P.getD k 0 := ⟨_, rfl⟩
            have hpl : p < an := by rw [hp]; exact HPA.out k hlt
            have hp0 : (0 : Int) ≤ (p : Int) := by omega
            have hp1 : (p : Int) < (an : Int) := by omega
            have o1 := HPC.out k hlt wB HB.out
            rw [← hp] at o1
            obtain ⟨A, x, y, z, hA, hat⟩ := HACT.out p hpl
            obtain ⟨c0, c1, c2, c3, c4, c5, c6, c7, c8, c9, ca, cb, cc, cd, ce, -⟩ := hat wB HB.out
            have HAT := Lib.hid hat
            have HA : Hid (pAct xs P k = A) := Lib.hid (by rw [hA, hp]; rfl)
            have HPP := Lib.hid hp
            clear hlc hact hat hA hp
            go_upto_region 12 with fail
            refine (?_ : ∀ W : World, Hid (W.heap[wB.heap.size]? = some (.cells #[.int .i64 A.cl, .int .i64 A.d, .int .i64 A.st, .int .i64 A.en, .string A.key, .slice x.1 x.2.1 x.2.2, .int .i64 A.rop, .int .i64 A.rdo, .string A.rkey, .slice y.1 y.2.1 y.2.2, .int .i64 A.tn, .int .i64 A.tc, .int .i64 A.code, .bool A.found, .slice z.1 z.2.1 z.2.2] ActT (0, 0))) → Hid (Below wB.heap.size wB W) → Code.wp Try.prog _ _ _ W) _ (Lib.hid (heap_alloc_new wB _)) (Lib.hid (below_alloc wB _))
            clear c0 c1 c2 c3 c4 c5 c6 c7 c8 c9 ca cb cc cd ce o1
            intro W XB BW
            have B1 := Lib.hid (HB.out.trans (BW.out.mono HB.out.size))
            go_wp2_with fail
            go_loopw [11, 12] (fun vf vj wi => ∃ (j : Nat) (f : Bool), j ≤ i ∧ vj = .int .i64 (j : Nat) ∧ vf = .bool f ∧ Hid (f = true ↔ ∀ n, n < j → sureB (pAct xs P n) = true → beforeB (pAct xs P n) A = false) ∧ Hid (Below W.heap.size W wi)) (fun _ vj _ => i - (intOf vj).toNat)
            case atStart => exact ⟨0, true, Nat.zero_le _, rfl, rfl, Lib.hid ⟨fun _ n hn => absurd hn (Nat.not_lt_zero _), fun _ => rfl⟩, Lib.hid (Below.refl _ _)⟩
            case round =>
              rename World => wi
              obtain ⟨j, f, hji, rfl, rfl, HF, HY⟩ := hrel
              have B5 := Lib.hid (B1.out.trans (HY.out.mono B1.out.size))
              have XB5 : Hid (wi.heap[wB.heap.size]? = some (.cells #[.int .i64 A.cl, .int .i64 A.d, .int .i64 A.st, .int .i64 A.en, .string A.key, .slice x.1 x.2.1 x.2.2, .int .i64 A.rop, .int .i64 A.rdo, .string A.rkey, .slice y.1 y.2.1 y.2.2, .int .i64 A.tn, .int .i64 A.tc, .int .i64 A.code, .bool A.found, .slice z.1 z.2.1 z.2.2] ActT (0, 0))) := Lib.hid ((HY.out.block _ (Array.getElem?_eq_some_iff.1 XB.out).1).trans XB.out)
              by_cases hlj : j < i
              · have hj0 : (0 : Int) ≤ (j : Int) := by omega
                have hj1 : (j : Int) < (i : Int) := by omega
                obtain ⟨r, hr⟩ : ∃ r, r = P.getD j 0 := ⟨_, rfl⟩
                have hrl : r < an := by rw [hr]; exact HPA.out j hlj
                have hr0 : (0 : Int) ≤ (r : Int) := by omega
                have hr1 : (r : Int) < (an : Int) := by omega
                have o1 := HPC.out j hlj wi B5.out
                rw [← hr] at o1
                obtain ⟨C, xc, yc, zc, hC, hat⟩ := HACT.out r hrl
                obtain ⟨c0, c1, c2, c3, c4, c5, c6, c7, c8, c9, ca, cb, cc, cd, ce, -⟩ := hat wi B5.out
                have HC : Hid (pAct xs P j = C) := Lib.hid (by rw [hC, hr]; rfl)
                clear hat hC hr
                go_upto_region 17 with fail
                refine (?_ : ∀ W2 : World, Hid (W2.heap[wi.heap.size]? = some (.cells #[.int .i64 C.cl, .int .i64 C.d, .int .i64 C.st, .int .i64 C.en, .string C.key, .slice xc.1 xc.2.1 xc.2.2, .int .i64 C.rop, .int .i64 C.rdo, .string C.rkey, .slice yc.1 yc.2.1 yc.2.2, .int .i64 C.tn, .int .i64 C.tc, .int .i64 C.code, .bool C.found, .slice zc.1 zc.2.1 zc.2.2] ActT (0, 0))) → Hid (Below wi.heap.size wi W2) → Code.wp Try.prog _ _ _ W2) _ (Lib.hid (heap_alloc_new wi _)) (Lib.hid (below_alloc wi _))
                clear c0 c1 c2 c3 c4 c5 c6 c7 c8 c9 ca cb cc cd ce o1
                intro W2 XC BC
                have X2 : Hid (W2.heap[wB.heap.size]? = some (.cells #[.int .i64 A.cl, .int .i64 A.d, .int .i64 A.st, .int .i64 A.en, .string A.key, .slice x.1 x.2.1 x.2.2, .int .i64 A.rop, .int .i64 A.rdo, .string A.rkey, .slice y.1 y.2.1 y.2.2, .int .i64 A.tn, .int .i64 A.tc, .int .i64 A.code, .bool A.found, .slice z.1 z.2.1 z.2.2] ActT (0, 0))) := Lib.hid ((BC.out.block _ (Array.getElem?_eq_some_iff.1 XB5.out).1).trans XB5.out)
                have B2 := Lib.hid (HY.out.trans (BC.out.mono HY.out.size))
                have KM := refMust_any C xc yc zc W2
                unfold ActC at KM
                obtain ⟨s, hs⟩ : ∃ q, q = sureB C := ⟨_, rfl⟩
                rw [← hs] at KM
                have HS := Lib.hid hs
                obtain ⟨c0, c1, c2, c3, c4, c5, c6, c7, c8, c9, ca, cb, cc, cd, ce, -⟩ := cells15 XC.out
                clear hs
                go_wp2_with fail
                (with_reducible refine KM.mono ?_)
                rintro e w5 ⟨rfl, b5⟩
                have B3 := Lib.hid (B2.out.trans (b5.mono B2.out.size))
                have hc3 := cellBelow c3 b5
                have ha2 := cell_of_row _ _ 2 _ _ _ ((b5.block _ (Array.getElem?_eq_some_iff.1 X2.out).1).trans X2.out)
                simp at ha2
                clear KM b5 c0 c1 c2 c3 c4 c5 c6 c7 c8 c9 ca cb cc cd ce X2 B2 XC BC XB5
                cases s with
                | false =>
                  have HN : Hid (f = true ↔ ∀ n, n < j + 1 → sureB (pAct xs P n) = true → beforeB (pAct xs P n) A = false) := Lib.hid (by
                    rw [HF.out]
                    refine ⟨fun h n hn hs => ?_, fun h n hn => h n (by omega)⟩
                    by_cases e : n = j
                    · rw [e, HC.out, ← HS.out] at hs; cases hs
                    · exact h n (by omega) hs)
                  clear HF
                  go_wp2
                  go_roundw
                  case rel => exact ⟨j + 1, f, by omega, by go_num, rfl, HN, B3⟩
                  case measure => simp [intOf]; omega
                | true =>
                  by_cases hbf : C.en < A.st
                  · have HN : Hid (false = true ↔ ∀ n, n < j + 1 → sureB (pAct xs P n) = true → beforeB (pAct xs P n) A = false) := Lib.hid ⟨fun h => (nomatch h), fun h => by
                      have h1 := h j (by omega) (by rw [HC.out]; exact HS.out.symm)
                      rw [HC.out, before_sure HS.out.symm, decide_eq_true hbf] at h1
                      cases h1⟩
                    clear HF
                    go_wp2
                    go_roundw
                    case rel => exact ⟨j + 1, false, by omega, by go_num, rfl, HN, B3⟩
                    case measure => simp [intOf]; omega
                  · have HN : Hid (f = true ↔ ∀ n, n < j + 1 → sureB (pAct xs P n) = true → beforeB (pAct xs P n) A = false) := Lib.hid (by
                      rw [HF.out]
                      refine ⟨fun h n hn hs => ?_, fun h n hn => h n (by omega)⟩
                      by_cases e : n = j
                      · rw [e, HC.out, before_sure HS.out.symm]; exact decide_eq_false hbf
                      · exact h n (by omega) hs)
                    clear HF
                    go_wp2
                    go_roundw
                    case rel => exact ⟨j + 1, f, by omega, by go_num, rfl, HN, B3⟩
                    case measure => simp [intOf]; omega
              · obtain rfl : j = i := by omega
                obtain ⟨d0, d1, d2, d3, d4, d5, d6, d7, d8, d9, da, db, dc, dd, de, -⟩ := cells15 XB5.out
                have HFF : Hid (f = true ↔ ∀ n, n < P.length → sureB (pAct xs P n) = true → beforeB (pAct xs P n) A = false) := Lib.hid (by rw [HPL.out]; exact HF.out)
                clear HF
                go_upto_region 19 with fail
                go_cut [85] (fun v wx => ∃ q, v = .bool q ∧ Hid (q = false ↔ ((∀ n, n < P.length → sureB (pAct xs P n) = true → beforeB (pAct xs P n) A = false) ∧ (A.d = 2 → tellsB xs last A = true))) ∧ Hid (Below wi.heap.size wi wx))
                case first =>
                  cases f with
                  | false =>
                    have HG : Hid (true = false ↔ ((∀ n, n < P.length → sureB (pAct xs P n) = true → beforeB (pAct xs P n) A = false) ∧ (A.d = 2 → tellsB xs last A = true))) := Lib.hid ⟨fun h => (nomatch h), fun h => (nomatch HFF.out.2 h.1)⟩
                    clear d0 d1 d2 d3 d4 d5 d6 d7 d8 d9 da db dc dd de HFF
                    go_wp2_with fail
                    go_meet
                    exact ⟨true, rfl, HG, Lib.hid (Below.refl _ _)⟩
                  | true =>
                    by_cases hd2 : A.d = 2
                    · have KT := refTells_any (some ⟨b, o, none⟩) an ac xs A x y z last wi (H.out.below B5.out) (HAT.out wi B5.out).s HLA.out
                      unfold ActC at KT
                      obtain ⟨tb, htb⟩ : ∃ q, q = tellsB xs last A := ⟨_, rfl⟩
                      rw [← htb] at KT
                      have HG : Hid ((!tb) = false ↔ ((∀ n, n < P.length → sureB (pAct xs P n) = true → beforeB (pAct xs P n) A = false) ∧ (A.d = 2 → tellsB xs last A = true))) := Lib.hid (by
                        rw [← htb]
                        exact ⟨fun h => ⟨HFF.out.1 rfl, fun _ => by simpa using h⟩, fun h => by rw [h.2 hd2]; rfl⟩)
                      rw [hd2] at d1 KT
                      clear htb hd2 HFF
                      go_wp2_with fail
                      (with_reducible refine KT.mono ?_)
                      rintro e w6 ⟨rfl, b6⟩
                      have B6 := Lib.hid b6
                      clear KT b6 d0 d1 d2 d3 d4 d5 d6 d7 d8 d9 da db dc dd de
                      go_wp2_with fail
                      go_meet
                      exact ⟨!tb, rfl, HG, B6⟩
                    · have HG : Hid (false = false ↔ ((∀ n, n < P.length → sureB (pAct xs P n) = true → beforeB (pAct xs P n) A = false) ∧ (A.d = 2 → tellsB xs last A = true))) := Lib.hid ⟨fun _ => ⟨HFF.out.1 rfl, fun h => absurd h hd2⟩, fun _ => rfl⟩
                      have e2 : (A.d == 2) = false := by simpa using hd2
                      clear hd2 HFF
                      go_wp2_with fail
                      go_meet
                      exact ⟨false, rfl, (by first | exact HG | exact Lib.hid ⟨fun _ => HG.out.1 trivial, fun _ => rfl⟩), Lib.hid (Below.refl _ _)⟩
                case rest =>
                obtain ⟨q, rfl, HQ, BX⟩ := hcut
                rename World => wC
                have B6 := Lib.hid (B5.out.trans (BX.out.mono B5.out.size))
                have X6 : Hid (wC.heap[wB.heap.size]? = some (.cells #[.int .i64 A.cl, .int .i64 A.d, .int .i64 A.st, .int .i64 A.en, .string A.key, .slice x.1 x.2.1 x.2.2, .int .i64 A.rop, .int .i64 A.rdo, .string A.rkey, .slice y.1 y.2.1 y.2.2, .int .i64 A.tn, .int .i64 A.tc, .int .i64 A.code, .bool A.found, .slice z.1 z.2.1 z.2.2] ActT (0, 0))) := Lib.hid ((BX.out.block _ (Array.getElem?_eq_some_iff.1 XB5.out).1).trans XB5.out)
                clear d0 d1 d2 d3 d4 d5 d6 d7 d8 d9 da db dc dd de BX XB5 B5 HY HFF
                cases q with
                | true =>
                  have HN : Hid (∀ m, m < k + 1 → ¬ okM xs P last m) := Lib.hid fun m hm hok => by
                    by_cases e : m = k
                    · rw [e] at hok
                      obtain ⟨h1, h2, -⟩ := hok
                      rw [HA.out] at h1 h2
                      exact nomatch HQ.out.2 ⟨h1, h2⟩
                    · exact HNO.out m (by omega) hok
                  go_wp2
                  go_roundw
                  case rel => exact ⟨k + 1, by omega, by go_num, HN, B6⟩
                  case measure => simp [intOf]; omega
                | false =>
                  as_aux_lemma =>
                    have HG := Lib.hid (HQ.out.1 rfl)
                    clear HQ
                    go_wp2_with fail
                    go_loopw [14, 15] (fun vr vj wi => ∃ (j2 : Nat) (ad : Option Addr) (n c : Nat), j2 ≤ j ∧ vj = .int .i64 (j2 : Nat) ∧ vr = .slice ad n c ∧ n ≤ j2 ∧ Hid (n = (restTo xs P k j2).length) ∧ Hid (wi.ownsRow wC.heap.size 3 1 (.slice ad n c) n ((cnL (restTo xs P k j2)).map iv)) ∧ Hid (Below wC.heap.size wC wi)) (fun _ vj _ => j - (intOf vj).toNat)
                    case atStart => exact ⟨0, _, 0, 0, Nat.zero_le _, rfl, rfl, Nat.zero_le _, Lib.hid rfl, Lib.hid (World.ownsRow_made (base := wC.heap.size) (e := 3) (size := 1) wC #[] 0 (Nat.le_refl _) (by simp [maxLen]) rfl), Lib.hid (below_alloc wC _)⟩
                    case round =>
                      rename World => wd
                      obtain ⟨j2, ad, n, c, hj2, rfl, rfl, hnj, HNL, HRO, HD⟩ := hrel
                      have B7 := Lib.hid (B6.out.trans (HD.out.mono B6.out.size))
                      have X7 : Hid (wd.heap[wB.heap.size]? = some (.cells #[.int .i64 A.cl, .int .i64 A.d, .int .i64 A.st, .int .i64 A.en, .string A.key, .slice x.1 x.2.1 x.2.2, .int .i64 A.rop, .int .i64 A.rdo, .string A.rkey, .slice y.1 y.2.1 y.2.2, .int .i64 A.tn, .int .i64 A.tc, .int .i64 A.code, .bool A.found, .slice z.1 z.2.1 z.2.2] ActT (0, 0))) := Lib.hid ((HD.out.block _ (Array.getElem?_eq_some_iff.1 X6.out).1).trans X6.out)
                      by_cases hlj2 : j2 < j
                      · have hj0 : (0 : Int) ≤ (j2 : Int) := by omega
                        have hj1 : (j2 : Int) < (j : Int) := by omega
                        obtain ⟨r, hr⟩ : ∃ r, r = P.getD j2 0 := ⟨_, rfl⟩
                        have hrl : r < an := by rw [hr]; exact HPA.out j2 hlj2
                        have hr0 : (0 : Int) ≤ (r : Int) := by omega
                        have hr1 : (r : Int) < (an : Int) := by omega
                        have o1 := HPC.out j2 hlj2 wd B7.out
                        rw [← hr] at o1
                        obtain ⟨C, xc, yc, zc, hC, hat⟩ := HACT.out r hrl
                        obtain ⟨c0, c1, c2, c3, c4, c5, c6, c7, c8, c9, ca, cb, cc, cd, ce, -⟩ := hat wd B7.out
                        have HSC : Hid (restTo xs P k (j2 + 1) = restTo xs P k j2 ++ (if (decide (j2 ≠ k) && leftB A C) then [r] else [])) := Lib.hid (by
                          have e : pAct xs P j2 = C := by rw [hC, hr]; rfl
                          rw [restTo_succ, HA.out, e, ← hr])
                        have HRR := Lib.hid hr
                        clear hat hC hr
                        go_upto_region 25 with fail
                        refine (?_ : ∀ W2 : World, Hid (W2.heap[wd.heap.size]? = some (.cells #[.int .i64 C.cl, .int .i64 C.d, .int .i64 C.st, .int .i64 C.en, .string C.key, .slice xc.1 xc.2.1 xc.2.2, .int .i64 C.rop, .int .i64 C.rdo, .string C.rkey, .slice yc.1 yc.2.1 yc.2.2, .int .i64 C.tn, .int .i64 C.tc, .int .i64 C.code, .bool C.found, .slice zc.1 zc.2.1 zc.2.2] ActT (0, 0))) → Hid (Below wd.heap.size wd W2) → Code.wp Try.prog _ _ _ W2) _ (Lib.hid (heap_alloc_new wd _)) (Lib.hid (below_alloc wd _))
                        clear c0 c1 c2 c3 c4 c5 c6 c7 c8 c9 ca cb cc cd ce o1
                        intro W2 XC BC
                        have D8 := Lib.hid (HD.out.trans (BC.out.mono HD.out.size))
                        have RO2 := Lib.hid (own_belowJ HRO.out BC.out)
                        have c3 := cell_of_row _ _ 3 _ _ _ XC.out
                        have ha2 := cell_of_row _ _ 2 _ _ _ ((BC.out.block _ (Array.getElem?_eq_some_iff.1 X7.out).1).trans X7.out)
                        simp at ha2 c3
                        have ho := HPC.out j2 hlj2 W2 (B6.out.trans (D8.out.mono B6.out.size))
                        rw [← HRR.out] at ho
                        go_cut [115] (fun v wx => ∃ q, v = .bool q ∧ Hid (q = (decide (j2 ≠ k) && leftB A C)) ∧ W2 = wx)
                        case first =>
                          clear ho
                          by_cases hjk : j2 = k
                          · have HG2 : Hid (false = (decide (j2 ≠ k) && leftB A C)) := Lib.hid (by simp [hjk])
                            have e1 : ((j2 : Int) == (k : Int)) = true := by simp [hjk]
                            have e2 : ((j2 : Int) != (k : Int)) = false := by simp [hjk]
                            clear hjk
                            go_wp2_with fail
                            go_meet
                            exact ⟨false, rfl, HG2, rfl⟩
                          · have e1 : ((j2 : Int) == (k : Int)) = false := by simp; omega
                            have e2 : ((j2 : Int) != (k : Int)) = true := by simp; omega
                            by_cases hen : 0 ≤ C.en
                            · have HG2 : Hid ((!decide (C.en < A.st)) = (decide (j2 ≠ k) && leftB A C)) := Lib.hid (by unfold leftB beforeB; rw [decide_eq_true hen, decide_eq_true hjk]; rfl)
                              clear hjk
                              go_wp2_with fail
                              go_meet
                              exact ⟨_, rfl, HG2, rfl⟩
                            · have HG2 : Hid (true = (decide (j2 ≠ k) && leftB A C)) := Lib.hid (by unfold leftB beforeB; rw [decide_eq_false hen, decide_eq_true hjk]; rfl)
                              clear hjk
                              go_wp2_with fail
                              go_meet
                              exact ⟨true, rfl, HG2, rfl⟩
                        case rest =>
                        obtain ⟨q, rfl, HQ2, rfl⟩ := hcut
                        rw [← HQ2.out] at HSC
                        clear c3 ha2 HRO
                        cases q with
                        | false =>
                          have HE2 : Hid (restTo xs P k (j2 + 1) = restTo xs P k j2) := Lib.hid (by rw [HSC.out]; simp)
                          clear ho
                          go_wp2
                          go_roundw
                          case rel => exact ⟨j2 + 1, ad, n, c, by omega, by go_num, rfl, by omega, Lib.hid (by rw [HE2.out]; exact HNL.out), Lib.hid (by rw [HE2.out]; exact RO2.out), D8⟩
                          case measure => simp [intOf]; omega
                        | true =>
                          have HE2 : Hid (restTo xs P k (j2 + 1) = restTo xs P k j2 ++ [r]) := Lib.hid (by rw [HSC.out]; simp)
                          have o8 := own_belowJ RO2.out (below_alloc W2 (.cells #[.int .i64 (r : Int)] 3))
                          have r8 := rowOne W2 (.int .i64 (r : Int)) 3
                          have hz8 : wC.heap.size ≤ (W2.alloc (.cells #[.int .i64 (r : Int)] 3)).heap.size := Nat.le_trans D8.out.size (below_alloc W2 (.cells #[.int .i64 (r : Int)] 3)).size
                          go_wp2_with (first | (at_builtin; refine wpList_append_row rfl _ _ 31 rfl wC.heap.size 3 i0 (.int .i64 0) 8 Try.underlying31 hi hz0 hz1 hz2 rfl _ _ _ rfl o8 (some ⟨W2.heap.size, 0, none⟩) 1 1 [.int .i64 (r : Int)] rfl r8 (fun h => nomatch h) (by intro u hu; simp at hu; subst hu; rfl) (by simp [maxLen]; omega) (by omega) hz8 ?_; intro v' w1 hown1 hgrow1 hnil1))
                          obtain ⟨ad', cap', rfl, _⟩ := ownsRow_parts hown1
                          have D9 := Lib.hid (below_grown (D8.out.trans ((below_alloc W2 (.cells #[.int .i64 (r : Int)] 3)).mono D8.out.size)) hgrow1 (ownBlock_ge o8))
                          have RO3 : Hid (w1.ownsRow wC.heap.size 3 1 (.slice ad' (n + 1) cap') (n + 1) ((cnL (restTo xs P k (j2 + 1))).map iv)) := Lib.hid (by rw [HE2.out]; unfold cnL; rw [List.map_append, List.map_append]; exact hown1)
                          clear o8 r8 hz8 hown1 hgrow1 hnil1 ho
                          go_wp2
                          go_roundw
                          case rel => exact ⟨j2 + 1, ad', n + 1, cap', by omega, by go_num, rfl, by omega, Lib.hid (by rw [HE2.out, List.length_append, ← HNL.out]; rfl), RO3, D9⟩
                          case measure => simp [intOf]; omega
                      · obtain rfl : j2 = j := by omega
                        obtain ⟨d0, d1, d2, d3, d4, d5, d6, d7, d8, d9, da, db, dc, dd, de, -⟩ := cells15 X7.out
                        have o1 := HPC.out k hlt wd B7.out
                        rw [← HPP.out] at o1
                        obtain ⟨nx, hnx⟩ : ∃ z, z = nextP xs last (p : Int) := ⟨_, rfl⟩
                        have hnl : nx < (an : Int) := by
                          rw [hnx]; unfold nextP
                          split
                          · exact HLA.out
                          · exact hp1
                        have KI := HIH.out (restTo xs P k P.length) ad n c nx wd (restTo_lt xs P (by rw [HPL.out]; exact hlt)) (H.out.below B7.out) (intsV_own (by rw [HPL.out]; exact HRO.out) (by omega)) (fun q hq => HPM.out q (restTo_mem (Nat.le_refl _) hq)) hnl (by omega)
                        have HOK : Hid (LinC (curL xs nx) (actsOf xs (restTo xs P k P.length)) ↔ okM xs P last k) := Lib.hid (by
                          unfold okM
                          rw [HA.out, ← HPP.out, ← hnx]
                          exact ⟨fun h => ⟨HG.out.1, HG.out.2, h⟩, fun h => h.2.2⟩)
                        have haA : aP xs (p : Int) = A := by rw [aP_cast, HPP.out]; exact HA.out
                        unfold MoreR at KI
                        unfold nextP at hnx
                        rw [haA] at hnx
                        clear haA hnl
                        by_cases hd2 : A.d = 2
                        · rw [if_pos hd2] at hnx
                          rw [hd2] at d1
                          rw [hnx] at KI HOK
                          clear hnx hd2
                          go_wp2_with fail
                          (with_reducible refine KI.mono ?_)
                          rintro e w9 ⟨rr, hrr, rfl, b9⟩
                          have B9 := Lib.hid (B7.out.trans (b9.mono B7.out.size))
                          have HRR2 := Lib.hid hrr
                          clear KI b9 hrr
                          cases rr with
                          | true =>
                            have HE : Hid (MoreR xs P last w (.returned (.bool true)) w9) := Lib.hid ⟨true, ⟨fun _ => HMI.out.2 (.inr ⟨k, by rw [HPL.out]; exact hlt, HOK.out.1 (HRR2.out.1 rfl)⟩), fun _ => rfl⟩, rfl, B9.out⟩
                            go_wp2
                            go_ret
                            exact HE.out
                          | false =>
                            have HN : Hid (∀ m, m < k + 1 → ¬ okM xs P last m) := Lib.hid fun m hm hok => by
                              by_cases e : m = k
                              · rw [e] at hok
                                exact nomatch HRR2.out.2 (HOK.out.2 hok)
                              · exact HNO.out m (by omega) hok
                            go_wp2
                            go_roundw
                            case rel => exact ⟨k + 1, by omega, by go_num, HN, B9⟩
                            case measure => simp [intOf]; omega
                        · rw [if_neg hd2] at hnx
                          have e2 : (A.d == 2) = false := by simpa using hd2
                          have e3 : (A.d != 2) = true := by simpa using hd2
                          rw [hnx] at KI HOK
                          clear hnx hd2
                          go_wp2_with fail
                          (with_reducible refine KI.mono ?_)
                          rintro e w9 ⟨rr, hrr, rfl, b9⟩
                          have B9 := Lib.hid (B7.out.trans (b9.mono B7.out.size))
                          have HRR2 := Lib.hid hrr
                          clear KI b9 hrr
                          cases rr with
                          | true =>
                            have HE : Hid (MoreR xs P last w (.returned (.bool true)) w9) := Lib.hid ⟨true, ⟨fun _ => HMI.out.2 (.inr ⟨k, by rw [HPL.out]; exact hlt, HOK.out.1 (HRR2.out.1 rfl)⟩), fun _ => rfl⟩, rfl, B9.out⟩
                            go_wp2
                            go_ret
                            exact HE.out
                          | false =>
                            have HN : Hid (∀ m, m < k + 1 → ¬ okM xs P last m) := Lib.hid fun m hm hok => by
                              by_cases e : m = k
                              · rw [e] at hok
                                exact nomatch HRR2.out.2 (HOK.out.2 hok)
                              · exact HNO.out m (by omega) hok
                            go_wp2
                            go_roundw
                            case rel => exact ⟨k + 1, by omega, by go_num, HN, B9⟩
                            case measure => simp [intOf]; omega
          · obtain rfl : k = i := by omega
            have HE : Hid (MoreR xs P last w (.returned (.bool false)) wB) := Lib.hid ⟨false, ⟨fun h => (nomatch h), fun h => by
              rcases HMI.out.1 h with h1 | ⟨m, hm, h1⟩
              · exact absurd h1 HNE.out
              · exact absurd h1 (HNO.out m (by rw [← HPL.out]; exact hm))⟩, rfl, HB.out⟩
            go_wp2
            go_ret
            exact HE.out
end Go.Proofs.Ytnefcbcioemfiaa
