/-
  rillref04: Decode.
-/
import Derived.Test.YtfjcbgfgiidogaaDoorMRqO
import Derived.Test.YtfjcbgfgiidogaaDoorMRrN
namespace Go.Proofs.YtfjcbgfgiidogaaDoor
open Go.RowKit

theorem solve_apply {L : Nat} {R V P : List (List Nat)} (h0 : 0 < L) (hL : L ≤ 128) (hR : AllL L R) (hV : Mem V) (hP : AllL L P) (hPl : P.length ≤ 256) {X : List (List Nat)} (h : solveR (L : Int) R V = (X, 0)) : X.length = L ∧ (applyR (L : Int) P X).2 = 0 := by
  unfold solveR at h
  split at h
  · rename_i hok
    obtain ⟨b1, b2, b3⟩ := solveOK_iff.1 hok
    rw [Int.toNat_natCast] at h
    obtain ⟨s1, s2, -⟩ := solve_told h0 b2 (all_rws hR) (even_rws b3 hV) h rfl
    refine ⟨s1, ?_⟩
    unfold applyR
    rw [if_pos (applyOK_iff.2 ⟨right_all hP h0 hL hPl, by rw [s1], even_of_rws s2⟩)]
  · cases h
theorem fst_at {ps : List Pc} {i : Nat} {z : Int} {l : List Nat} (h : ps[i]? = some (z, l)) : (ps.map Prod.fst)[i]? = some z := by
  rw [List.getElem?_map, h]; rfl
theorem PiV.mem {w : World} {a : Option Addr} {n : Nat} {ps : List Pc} (h : PiV w a n ps) : Mem (ps.map Prod.snd) := fun l hl => by
  obtain ⟨⟨z, l'⟩, hp, rfl⟩ := List.mem_map.1 hl
  obtain ⟨i, hi⟩ := List.getElem?_of_mem hp
  obtain ⟨b, off, e, a2, n2, c2, l2, -, -, -, hp2, hB⟩ := h.at (i := i) (by rw [← h.len]; exact (List.getElem?_eq_some_iff.1 hi).1)
  rw [hp2] at hi
  injection hi with hi
  injection hi with _ hi
  subst hi
  have := hB.length
  have := hB.small
  simp only at *
  exact ⟨hB.bytes, by omega⟩

set_option maxRecDepth 100000 in
set_option maxHeartbeats 16000000 in
theorem refDecode_ro (k t : Int) (pa : Option Addr) (pn pc : Nat) (ps : List Pc) (w : World) (h : PiV w pa pn ps) (hpn : pn ≤ 140737488355328) :
    Calls Tryd.prog 42 #[.int .i64 k, .int .i64 t, .slice pa pn pc] w (GivesRO w (decodeR k t ps)) := by
  obtain ⟨i0, hi0, hz0, hz1, hz2⟩ := info_parts Tryd.info22
  have HS := Lib.hid h
  have HL := Lib.hid h.len
  have HMM := Lib.hid h.mem
  unfold decodeR
  rw [h.len]
  clear h
  by_cases hk1 : 1 ≤ k
  rotate_left 1
  · rw [if_neg (fun e => hk1 (okK_iff.1 e).1)]
    go_enter Tryd.func42, Tryd.ntmps42
    go_wp2
    go_ret2
    exact givesRO_nil (Below.refl _ _)
  by_cases hk2 : k ≤ 32
  rotate_left 1
  · rw [if_neg (fun e => hk2 (okK_iff.1 e).2)]
    go_enter Tryd.func42, Tryd.ntmps42
    go_wp2
    go_ret2
    exact givesRO_nil (Below.refl _ _)
  have hok : okK k = true := okK_iff.2 ⟨hk1, hk2⟩
  have okT_iff : ∀ {t : Int}, okT t = true ↔ 1 ≤ t ∧ t ≤ 64 := fun {t} => by unfold okT; simp only [Bool.and_eq_true, decide_eq_true_iff]
  rw [if_pos hok]
  by_cases ht1 : 1 ≤ t
  rotate_left 1
  · rw [if_neg (fun e => ht1 (okT_iff.1 e).1)]
    clear hok okT_iff
    go_enter Tryd.func42, Tryd.ntmps42
    go_wp2
    go_ret2
    exact givesRO_nil (Below.refl _ _)
  by_cases ht2 : t ≤ 64
  rotate_left 1
  · rw [if_neg (fun e => ht2 (okT_iff.1 e).2)]
    clear hok okT_iff
    go_enter Tryd.func42, Tryd.ntmps42
    go_wp2
    go_ret2
    exact givesRO_nil (Below.refl _ _)
  rw [if_pos (okT_iff.2 ⟨ht1, ht2⟩)]
  by_cases hp : pn ≤ 128
  rotate_left 1
  · rw [if_neg hp]
    clear hok okT_iff
    go_enter Tryd.func42, Tryd.ntmps42
    go_wp2
    go_ret2
    exact givesRO_nil (Below.refl _ _)
  rw [if_pos hp]
  obtain ⟨m, rfl, e, h1, hk⟩ := okK_nat hok
  obtain ⟨u, rfl⟩ : ∃ u : Nat, t = (u : Int) := ⟨t.toNat, by omega⟩
  rw [e, Int.toNat_natCast]
  have hu1 : 1 ≤ u := by omega
  have hu2 : u ≤ 64 := by omega
  clear hok okT_iff e
  obtain ⟨f1, f2, f3⟩ := cL_facts h1 hk
  have HF1 := Lib.hid f1
  have HF2 := Lib.hid f2
  obtain ⟨OUT, hO⟩ : ∃ O, O = (if badB ps = true then (([], 40) : List (List Nat) × Int) else if evenP (u : Int) ps = true then decodeT m u ps else ([], 41)) := ⟨_, rfl⟩
  rw [← hO]
  have HO := Lib.hid hO
  have KR := Lib.hid (fun z W => refRow_rd (m : Int) z W)
  have HOK := Lib.hid (okK_iff.2 (⟨by omega, by omega⟩ : 1 ≤ (m : Int) ∧ (m : Int) ≤ 32))
  clear hO f1 f2 f3
  have hV0 := HdV.made (B := w.heap.size) (w := w) (Nat.le_refl _)
  have hV1 := HdV.made (B := w.heap.size) (w := w.alloc (.cells #[] 22)) (by simp)
  have HM0 : Hid (HdV ((w.alloc (.cells #[] 22)).alloc (.cells #[] 22)) w.heap.size (some ⟨w.heap.size, 0, none⟩) 0 0 (symsL m ((ps.map Prod.fst).take 0))) := Lib.hid (hV0.below (below_alloc _ _))
  have HM1 : Hid (HdV ((w.alloc (.cells #[] 22)).alloc (.cells #[] 22)) w.heap.size (some ⟨w.heap.size + 1, 0, none⟩) 0 0 ((ps.take 0).map Prod.snd)) := Lib.hid (by simpa using hV1)
  have hbb := (below_alloc w (.cells #[] 22)).trans ((below_alloc (w.alloc (.cells #[] 22)) (.cells #[] 22)).mono (by simp))
  have HB := Lib.hid hbb
  clear hV0 hV1 hbb
  go_enter Tryd.func42, Tryd.ntmps42
  go_upto_block 0 with fail
  generalize (w.alloc (.cells #[] 22)).alloc (.cells #[] 22) = w2 at HM0 HM1 HB ⊢
  have hne : w.heap.size ≠ w.heap.size + 1 := by omega
  go_wp2_with fail
  go_loopw [8, 9, 10] (fun vl vv vi wr => ∃ (i gl cl gv cv : Nat), i ≤ pn ∧ gl ≠ gv ∧ vi = .int .i64 (i : Nat) ∧ vl = .slice (some ⟨gl, 0, none⟩) i cl ∧ vv = .slice (some ⟨gv, 0, none⟩) i cv ∧ Hid (HdV wr w.heap.size (some ⟨gl, 0, none⟩) i cl (symsL m ((ps.map Prod.fst).take i))) ∧ Hid (HdV wr w.heap.size (some ⟨gv, 0, none⟩) i cv ((ps.take i).map Prod.snd)) ∧ Hid (Below w.heap.size w wr) ∧ Hid (∀ (j : Nat) p, j < i → ps[j]? = some p → okE p.1 = true)) (fun _ _ vi _ => (pn - intOf vi).toNat)
  case atStart => exact ⟨0, _, 0, _, 0, Nat.zero_le _, hne, rfl, rfl, rfl, HM0, HM1, HB, Lib.hid (fun j e h => absurd h (Nat.not_lt_zero _))⟩
  case round =>
    clear HM0 HM1 HB hne
    obtain ⟨i, gl, cl, gv, cv, hi, hne, rfl, rfl, rfl, hM, hV, hB, HZ⟩ := hrel
    by_cases hlt : i < pn
    · obtain ⟨b, off, z, xa, xn, xc, l, rfl, q0, q1, hpi, hby⟩ := HS.out.at hlt
      have r0 := cell_below q0 hB.out
      have KZ := KR.out z wr
      unfold rowR at KZ
      rw [if_pos HOK.out, Int.toNat_natCast] at KZ
      have hsz := hB.out.size
      have HPI := Lib.hid hpi
      have HQ1 := Lib.hid q1
      have HBY := Lib.hid hby
      clear q0 q1 hpi hby
      by_cases hz2 : okE z = true
      rotate_left 1
      · rw [if_neg hz2] at KZ
        have HBD := Lib.hid (show OUT = ([], 40) by
          rw [HO.out, if_pos]
          cases hb : badB ps with
          | true => rfl
          | false => exact absurd (badB_false.1 hb _ (List.mem_of_getElem? HPI.out)) hz2)
        clear hz2
        go_wp2_with fail
        (with_reducible refine KZ.mono ?_)
        rintro e w7 ⟨a8, c8, rfl, -, b7⟩
        have hb7 := hB.out.trans (b7.mono hsz)
        clear KZ b7
        go_wp2
        go_ret2
        rw [HBD.out]
        exact givesRO_nil hb7
      rw [if_pos hz2] at KZ
      have HZ2 := Lib.hid hz2
      have HT := Lib.hid (syms_take (k := m) (fst_at HPI.out))
      have HT2 := Lib.hid (snd_take HPI.out)
      obtain ⟨r, hr⟩ : ∃ r, r = symR m z.toNat := ⟨_, rfl⟩
      have hrb : Bytes r ∧ r.length ≤ 47 := by rw [hr]; exact ⟨symR_bytes _ _, by rw [symR_length]; exact HF2.out⟩
      rw [← hr] at KZ HT
      have HRB := Lib.hid hrb
      clear hz2 hr hrb
      go_wp2_with fail
      (with_reducible refine KZ.mono ?_)
      rintro e w7 ⟨a8, c8, rfl, o8, b7⟩
      simp only at o8 ⊢
      have hM7 := (hM.out.below b7).below (below_alloc w7 (.cells #[.slice a8 r.length c8] 22))
      have hV7 := (hV.out.below b7).below (below_alloc w7 (.cells #[.slice a8 r.length c8] 22))
      have hb7 := hB.out.trans (b7.mono hsz)
      have hb8 := hb7.alloc hb7.size (.cells #[.slice a8 r.length c8] 22)
      have hat : RowAt (w7.alloc (.cells #[.slice a8 r.length c8] 22)) w.heap.size (a8, r.length, c8) r := own_at (b := wr.heap.size) (o8.alloc _) rfl HRB.out.1 (by have := HRB.out.2; omega)
      obtain ⟨hl7, hs7, ho7, hq7, hr7⟩ := hM7
      have hbs := hb8.size
      have hvl := hV7.lt.2
      have HB8 := Lib.hid hb8
      have HV7 := Lib.hid hV7
      have HQ7 := Lib.hid hq7
      have HR7 := Lib.hid hr7
      have HAT := Lib.hid hat
      have HVL := Lib.hid hvl
      clear KZ o8 b7 hb7 hM hV hB hat hq7 hr7 hl7 hb8 hV7 hvl
      go_wp2_with (first | (at_builtin; refine Hid.out ?_))
      refine Lib.hid ?_
      refine wpList_append_lies _ rfl _ _ 35 rfl w.heap.size 22 i0 (.slice none 0 0) 1 24 Tryd.underlying35 hi0 hz0 hz1 hz2 rfl (by decide) _ _ _ rfl ho7 ⟨w7.heap.size, 0, none⟩ 1 1 [SV (a8, r.length, c8)] rfl rfl (World.news_of_block (heap_alloc_new w7 _)) (by intro u hu; simp at hu; subst hu; rfl) (by decide) (by unfold maxLen; omega) (by omega) hbs _ rfl ?_
      intro g9 c9 w9 hE9 g9' hat9 _
      have hb9 := below_grown HB8.out g9' (fun k e => ownBlock_ge ho7 k e)
      have hV9 := HV7.out.keep g9' (own_row ho7) (.inr (show (some gv : Option Nat) ≠ some gl from fun e => hne (Option.some.inj e).symm))
      obtain ⟨a9, c9', e9, hM9⟩ := hd_append (ks := [(a8, r.length, c8)]) (xs := [r]) ho7 HQ7.out HR7.out rfl rfl (one_at HAT.out) hE9 g9'
      cases e9
      rw [← HT.out] at hM9
      have hne9 : g9 ≠ gv := by
        rcases hat9 with e | e
        · have e' : some gl = some g9 := e
          intro e2; exact hne ((Option.some.inj e').trans e2)
        · rw [e]; exact Nat.ne_of_gt HVL.out
      have r1 := cell_below HQ1.out hb9
      have hM10 := hM9.below (below_alloc w9 (.cells #[.slice xa xn xc] 22))
      have hV10 := hV9.below (below_alloc w9 (.cells #[.slice xa xn xc] 22))
      have hb10 := hb9.alloc hb9.size (.cells #[.slice xa xn xc] 22)
      have hat2 : RowAt (w9.alloc (.cells #[.slice xa xn xc] 22)) w.heap.size (xa, xn, xc) l := ⟨HBY.out.below hb10, .inr fun a e hl => HBY.out.row.lt hl e⟩
      obtain ⟨hl10, hs10, ho10, hq10, hr10⟩ := hV10
      have hbs10 := hb10.size
      have hml := hM10.lt.2
      have HB10 := Lib.hid hb10
      have HM10 := Lib.hid hM10
      have HQ10 := Lib.hid hq10
      have HR10 := Lib.hid hr10
      have HAT2 := Lib.hid hat2
      have HML := Lib.hid hml
      clear hE9 g9' ho7 hM9 hV9 hb9 hat9 hM10 hb10 hat2 hl10 hq10 hr10 hml
      go_wp2_with (first | (at_builtin; refine Hid.out ?_))
      refine Lib.hid ?_
      refine wpList_append_lies _ rfl _ _ 35 rfl w.heap.size 22 i0 (.slice none 0 0) 1 24 Tryd.underlying35 hi0 hz0 hz1 hz2 rfl (by decide) _ _ _ rfl ho10 ⟨w9.heap.size, 0, none⟩ 1 1 [SV (xa, xn, xc)] rfl rfl (World.news_of_block (heap_alloc_new w9 _)) (by intro u hu; simp at hu; subst hu; rfl) (by decide) (by unfold maxLen; omega) (by omega) hbs10 _ rfl ?_
      intro g11 c11 w11 hE11 g11' hat11 _
      have hb11 := below_grown HB10.out g11' (fun k e => ownBlock_ge ho10 k e)
      have hM11 := HM10.out.keep g11' (own_row ho10) (.inr (show (some g9 : Option Nat) ≠ some gv from fun e => hne9 (Option.some.inj e)))
      obtain ⟨a11, c11', e11, hV11⟩ := hd_append (ks := [(xa, xn, xc)]) (xs := [l]) ho10 HQ10.out HR10.out rfl rfl (one_at HAT2.out) hE11 g11'
      cases e11
      rw [← HT2.out] at hV11
      have hne11 : g9 ≠ g11 := by
        rcases hat11 with e | e
        · have e' : some gv = some g11 := e
          intro e2; exact hne9 (e2.trans (Option.some.inj e').symm)
        · rw [e]; exact Nat.ne_of_lt HML.out
      have HM11 := Lib.hid hM11
      have HV11 := Lib.hid hV11
      have HB11 := Lib.hid hb11
      clear hE11 g11' ho10 hM11 hV11 hb11 hat11 r0 r1
      go_wp2
      go_roundw
      case rel => exact ⟨i + 1, g9, c9, g11, c11, by omega, hne11, by go_num, rfl, rfl, HM11, HV11, HB11, Lib.hid (fun j p hj he => (by
        by_cases e1 : j = i
        · rw [e1, HPI.out] at he
          exact (congrArg (fun p : Pc => okE p.1) (Option.some.inj he)).symm.trans HZ2.out
        · exact HZ.out j p (by omega) he))⟩
      case measure => simp [intOf] <;> omega
    · obtain rfl : i = pn := by omega
      have hbd : badB ps = false := badB_false.2 fun p hp => by
        obtain ⟨j, hj⟩ := List.getElem?_of_mem hp
        exact HZ.out j p (by have := (List.getElem?_eq_some_iff.1 hj).1; rw [HL.out] at this; exact this) hj
      have hO2 := HO.out
      rw [hbd, if_neg (by simp)] at hO2
      have HO2 := Lib.hid hO2
      have hM' := hM.out
      have hV' := hV.out
      rw [List.take_of_length_le (by rw [List.length_map, HL.out]; exact Nat.le_refl _)] at hM'
      rw [List.take_of_length_le (by rw [HL.out]; exact Nat.le_refl _)] at hV'
      have HM := Lib.hid hM'.rd
      have HV := Lib.hid hV'.rd
      have HBK := Lib.hid hB.out
      clear hbd hO2 hM' hV' hM hV HO hne hi hlt KR
      go_wp2_with fail
      go_loop [13] (fun vi => ∃ (j : Nat), j ≤ i ∧ vi = .int .i64 (j : Nat) ∧ Hid (∀ (q : Nat) p, q < j → ps[q]? = some p → p.2.length = u)) (fun vi => (i - intOf vi).toNat)
      case atStart => exact ⟨0, Nat.zero_le _, rfl, Lib.hid (fun q p h => absurd h (Nat.not_lt_zero _))⟩
      case round =>
        obtain ⟨j, hj, rfl, HY⟩ := hrel
        by_cases hlt : j < i
        · obtain ⟨b, off, z, xa, xn, xc, l, rfl, q0, q1, hpi, hby⟩ := HS.out.at hlt
          have r1 := cell_below q1 HBK.out
          have HPI := Lib.hid hpi
          have HLX := Lib.hid (show l.length = xn from hby.length)
          clear q0 q1 hpi hby
          by_cases hx : xn = u
          · have hxf : ((xn : Int) != (u : Int)) = false := by simp [hx]
            have HX := Lib.hid hx
            clear hx
            go_wp2
            go_round
            case rel => exact ⟨j + 1, by omega, by go_num, Lib.hid (fun q p hq he => (by
              by_cases e1 : q = j
              · rw [e1, HPI.out] at he
                rw [← Option.some.inj he]; exact HLX.out.trans HX.out
              · exact HY.out q p (by omega) he))⟩
            case measure => simp [intOf] <;> omega
          · have hxf : ((xn : Int) != (u : Int)) = true := by rw [bne_iff_ne]; omega
            have HBD := Lib.hid (show OUT = ([], 41) by
              rw [HO2.out, if_neg]
              intro e
              have := evenP_iff.1 e _ (List.mem_of_getElem? HPI.out)
              have := HLX.out
              simp only at *
              omega)
            clear hx
            go_wp2
            go_ret2
            rw [HBD.out]
            exact givesRO_nil hB.out
        · obtain rfl : j = i := by omega
          have hev : evenP (u : Int) ps = true := evenP_iff.2 fun p hp => by
            obtain ⟨q, hq⟩ := List.getElem?_of_mem hp
            have := HY.out q p (by have := (List.getElem?_eq_some_iff.1 hq).1; rw [HL.out] at this; exact this) hq
            omega
          have hO3 := HO2.out
          rw [hev, if_pos rfl] at hO3
          have KS := refSolve4_rd m u ⟨gl, 0, none⟩ j cl (symsL m (ps.map Prod.fst)) ⟨gv, 0, none⟩ j cv (ps.map Prod.snd) wr h1 hk hu2 HM.out HV.out (by omega) rfl (syms_rws _ _)
          have hO4 : OUT = if (decodeS m u ps).2 = 0 then applyR ((cL m : Nat) : Int) (placesL m m) (decodeS m u ps).1 else ([], (decodeS m u ps).2) := hO3
          obtain ⟨S, hS⟩ : ∃ S, S = decodeS m u ps := ⟨_, rfl⟩
          have hSe : solveR ((cL m : Nat) : Int) (fixedL m ++ symsL m (ps.map Prod.fst)) (List.replicate (cL m - m) (zs u) ++ ps.map Prod.snd) = S := hS.symm
          have hSl : S.1.length ≤ 1000 := by rw [← hSe]; exact solve_len _ _ _
          have hSA : ∀ X, S = (X, 0) → X.length = cL m ∧ (applyR ((cL m : Nat) : Int) (placesL m m) X).2 = 0 := fun X hX => by
            have hMV : Mem (List.replicate (cL m - m) (zs u) ++ ps.map Prod.snd) := fun l hl => by
              rcases List.mem_append.1 hl with h | h
              · rw [List.eq_of_mem_replicate h]; exact ⟨zs_bytes u, by rw [zs_length]; omega⟩
              · exact HMM.out l h
            exact solve_apply HF1.out (by have := HF2.out; omega) (all_app (fixed_all m) (syms_rws _ _)) hMV (placesL_all m m) (by rw [placesL_length]; omega) (hSe.trans hX)
          rw [hSe] at KS
          rw [← hS] at hO4
          obtain ⟨X, code⟩ := S
          simp only at hO4 hSl
          have HO4 := Lib.hid hO4
          have HSA := Lib.hid hSA
          have hsz := hB.out.size
          clear hev hO3 hO4 hS hSe hSA HO2 HY hj hlt
          go_wp2_with fail
          (with_reducible refine KS.mono ?_)
          rintro e w7 ⟨a7, c7, rfl, h7, b7⟩
          simp only at h7 ⊢
          have hb7 := hB.out.trans (b7.mono hsz)
          clear KS b7
          by_cases hc : code = 0
          · subst hc
            obtain ⟨hXL, hXA⟩ := HSA.out X rfl
            have HO5 := Lib.hid (HO4.out.trans (if_pos rfl))
            obtain ⟨AP, hAP⟩ : ∃ A, A = applyR ((cL m : Nat) : Int) (placesL m m) X := ⟨_, rfl⟩
            have KA := fun g c W hr hx => refApply_ro ((cL m : Nat) : Int) (some ⟨g, 0, none⟩) m c (placesL m m) a7 X.length c7 X W hr hx (by omega) hSl
            rw [← hAP] at HO5 hXA
            simp only [← hAP] at KA
            rw [← hXL] at KA
            obtain ⟨AL, ac⟩ := AP
            simp only at hXA
            subst hXA
            have H7 := Lib.hid h7
            clear hXL h7 hAP HSA HO4
            go_wp2_with fail
            (with_reducible refine (refRows_own m _ h1 hk).mono ?_)
            rintro e w8 ⟨g8, c8, rfl, h8, b8⟩
            have hb8 := hb7.trans (b8.mono hb7.size)
            have H7 := Lib.hid (H7.out.below b8)
            clear b8 hb7
            go_wp2_with fail
            (with_reducible refine (KA _ _ _ h8 H7.out).mono ?_)
            rintro e w9 ⟨a9, c9, rfl, h9, k9, b9⟩
            simp only at h9 ⊢
            have hb9 := hb8.trans (b9.mono hb8.size)
            have K9 := Lib.hid ((k9 rfl).rebase hb8.size)
            clear KA b9 hb8 h8 k9
            go_wp2
            go_ret2
            rw [HO5.out]
            exact ⟨a9, c9, rfl, h9, fun _ => K9.out, hb9⟩
          · have hcb : (code != 0) = true := by rw [bne_iff_ne]; exact hc
            have HO5 := Lib.hid (HO4.out.trans (if_neg hc))
            clear hc h7
            go_wp2
            go_ret2
            rw [HO5.out]
            exact givesRO_nil hb7
theorem refDecode_rd (k t : Int) (pa : Option Addr) (pn pc : Nat) (ps : List Pc) (w : World) (h : PiV w pa pn ps) (hpn : pn ≤ 140737488355328) :
    Calls Tryd.prog 42 #[.int .i64 k, .int .i64 t, .slice pa pn pc] w (GivesR w (decodeR k t ps)) :=
  (refDecode_ro k t pa pn pc ps w h hpn).mono fun _ _ h => h.R
end Go.Proofs.YtfjcbgfgiidogaaDoor
