/-
  place: all answers are the document's.
-/
import Derived.Test.YthkpofopcnapdaaPlP
import Derived.Test.YthkpofopcnapdaaPlH
import Derived.Test.YthkpofopcnapdaaPlM
import Derived.Test.YthkpofopcnapdaaLawI
import Derived.Deep.RegionHeld3
namespace Go.Proofs.Ythkpofopcnapdaa
open Go.RowKit

set_option maxRecDepth 10000 in
set_option maxHeartbeats 4000000 in
theorem shares_walk (n u r c t s node k rd e q z0 zc z1 a b z2 : Int) (m : Nat) (l : List Int) (w : World)
    (HS : ∀ w, Calls Try.prog 8 #[cfg n u r c t s, .int .i64 k] w fun x w' => x = .returned (.tuple #[.int .i64 q, .int .i64 z0]) ∧ Below w.heap.size w w')
    (HT : ∀ w, Calls Try.prog 9 #[cfg n u r c t s, .int .i64 k] w fun x w' => x = .returned (.tuple #[.int .i64 q, .int .i64 z0]) ∧ Below w.heap.size w w')
    (HK : ∀ w, Calls Try.prog 10 #[cfg n u r c t s] w fun x w' => x = .returned (.int .i64 zc) ∧ Below w.heap.size w w')
    (HL : ∀ w, Calls Try.prog 11 #[cfg n u r c t s] w fun x w' => x = .returned (.int .i64 zc) ∧ Below w.heap.size w w')
    (HE : ∀ w, Calls Try.prog 12 #[cfg n u r c t s, .int .i64 node, .int .i64 k, .int .i64 rd] w fun x w' => ∃ ad cap, x = .returned (.tuple #[.slice ad m cap, .int .i64 z1]) ∧ IntsV w' (ad, m, cap) l ∧ Below w.heap.size w w')
    (HF : ∀ w, Calls Try.prog 13 #[cfg n u r c t s, .int .i64 node, .int .i64 k, .int .i64 rd] w fun x w' => ∃ ad cap, x = .returned (.tuple #[.slice ad m cap, .int .i64 z1]) ∧ IntsV w' (ad, m, cap) l ∧ Below w.heap.size w w')
    (HO : ∀ w, Calls Try.prog 15 #[cfg n u r c t s, .int .i64 k, .int .i64 e] w fun x w' => x = .returned (.tuple #[.int .i64 a, .int .i64 b, .int .i64 z2]) ∧ Below w.heap.size w w')
    (HP : ∀ w, Calls Try.prog 16 #[cfg n u r c t s, .int .i64 k, .int .i64 e] w fun x w' => x = .returned (.tuple #[.int .i64 a, .int .i64 b, .int .i64 z2]) ∧ Below w.heap.size w w') :
    Calls Try.prog 3 #[cfg n u r c t s, .int .i64 node, .int .i64 k, .int .i64 rd, .int .i64 e] w fun x w' => x = .returned (.bool true) ∧ Below w.heap.size w w' := by
  have KA := alive_any
  have HI := fun a1 n1 c1 l1 a2 n2 c2 l2 w h1 h2 => sameInts_any a1 n1 c1 l1 a2 n2 c2 l2 w h1 h2
  unfold cfg at HS HT HK HL HE HF HO HP ⊢
  go_enter Try.func3, Try.ntmps3
  go_wp2_with (first
    | (go_at_call 7; (with_reducible refine (KA _).mono ?_); rintro x w1 ⟨rfl, hb1⟩; obtain ⟨hold1, hbw1, hold01, hbw01⟩ := after_call _ _ _ hb1; obtain ⟨c0, c1, c2, c3, c4, c5⟩ := cells6 hold01)
    | (go_at_call 8; (with_reducible refine (HS _).mono ?_); rintro x w2 ⟨rfl, hb2⟩; have hold02 := beyond _ _ hold01 hb2; have hbw02 := trans_below hbw01 hb2 hbw01.size; obtain ⟨d0, d1, d2, d3, d4, d5⟩ := cells6 hold02)
    | (go_at_call 9; (with_reducible refine (HT _).mono ?_); rintro x w3 ⟨rfl, hb3⟩; have hold03 := beyond _ _ hold02 hb3; have hbw03 := trans_below hbw02 hb3 hbw02.size; obtain ⟨e0, e1, e2, e3, e4, e5⟩ := cells6 hold03))
  clear hold1 hbw1 hb1 c0 c1 c2 c3 c4 c5 d0 d1 d2 d3 d4 d5 hold01 hold02 hb2 hb3 HS HT KA HI
  go_region_held3 (fun w' => w'.cell? ⟨w.heap.size, 0, none⟩ = some (.int .i64 n) ∧ w'.cell? ⟨w.heap.size, 1, none⟩ = some (.int .i64 u) ∧ w'.cell? ⟨w.heap.size, 2, none⟩ = some (.int .i64 r) ∧ w'.cell? ⟨w.heap.size, 3, none⟩ = some (.int .i64 c) ∧ w'.cell? ⟨w.heap.size, 4, none⟩ = some (.int .i64 t) ∧ w'.cell? ⟨w.heap.size, 5, none⟩ = some (.int .i64 s)) (first | exact ⟨g0, g1, g2, g3, g4, g5⟩ | exact ⟨f0, f1, f2, f3, f4, f5⟩ | exact ⟨e0, e1, e2, e3, e4, e5⟩)
    (first
    | (go_at_call 10; (with_reducible refine (HK _).mono ?_); (first
        | (rintro x w5 ⟨rfl, hbx⟩
           have hb5 : Below w4.heap.size w4 w5 := ⟨hbx.os, hbx.tape, hbx.output, hbx.size, hbx.block⟩
           have hold05 := beyond _ _ hold04 hb5
           have hbw05 := trans_below hbw04 hb5 hbw04.size
           obtain ⟨g0, g1, g2, g3, g4, g5⟩ := cells6 hold05)
        | (rintro x w4 ⟨rfl, hbx⟩
           have hb4 : Below w3.heap.size w3 w4 := ⟨hbx.os, hbx.tape, hbx.output, hbx.size, hbx.block⟩
           have hold04 := beyond _ _ hold03 hb4
           have hbw04 := trans_below hbw03 hb4 hbw03.size
           obtain ⟨f0, f1, f2, f3, f4, f5⟩ := cells6 hold04)))
    | (go_at_call 11; (with_reducible refine (HL _).mono ?_); (first
        | (rintro x w5 ⟨rfl, hbx⟩
           have hb5 : Below w4.heap.size w4 w5 := ⟨hbx.os, hbx.tape, hbx.output, hbx.size, hbx.block⟩
           have hold05 := beyond _ _ hold04 hb5
           have hbw05 := trans_below hbw04 hb5 hbw04.size
           obtain ⟨g0, g1, g2, g3, g4, g5⟩ := cells6 hold05)
        | (rintro x w4 ⟨rfl, hbx⟩
           have hb4 : Below w3.heap.size w3 w4 := ⟨hbx.os, hbx.tape, hbx.output, hbx.size, hbx.block⟩
           have hold04 := beyond _ _ hold03 hb4
           have hbw04 := trans_below hbw03 hb4 hbw03.size
           obtain ⟨f0, f1, f2, f3, f4, f5⟩ := cells6 hold04))))
  all_goals clear hbx hb4 hb5 hold03 hold04 hbw03 hbw04 e0 e1 e2 e3 e4 e5 f0 f1 f2 f3 f4 f5 HK HL
  all_goals go_wp2_with (first
    | (go_at_call 12; (with_reducible refine (HE _).mono ?_); rintro x w6 ⟨ad1, cap1, rfl, hi1, hb6⟩; have hold06 := beyond _ _ hold05 hb6; have hbw06 := trans_below hbw05 hb6 hbw05.size; obtain ⟨i0, i1, i2, i3, i4, i5⟩ := cells6 hold06)
    | (go_at_call 13; (with_reducible refine (HF _).mono ?_); rintro x w7 ⟨ad2, cap2, rfl, hi2, hb7⟩; have hold07 := beyond _ _ hold06 hb7; have hbw07 := trans_below hbw06 hb7 hbw06.size; obtain ⟨j0, j1, j2, j3, j4, j5⟩ := cells6 hold07)
    | (go_at_call 14; (with_reducible refine (sameInts_any _ _ _ l _ _ _ l _ ?h1 ?h2).mono ?_); (case h1 => exact hi1.below hb7); (case h2 => exact hi2); rintro x w8 ⟨rfl, hb8⟩; have hold08 := beyond _ _ hold07 hb8; have hbw08 := trans_below hbw07 hb8 hbw07.size; obtain ⟨k0, k1, k2, k3, k4, k5⟩ := cells6 hold08; rw [decide_eq_true (rfl : l = l)])
    | (go_at_call 15; (with_reducible refine (HO _).mono ?_); rintro x w9 ⟨rfl, hb9⟩; have hold09 := beyond _ _ hold08 hb9; have hbw09 := trans_below hbw08 hb9 hbw08.size; obtain ⟨l0, l1, l2, l3, l4, l5⟩ := cells6 hold09)
    | (go_at_call 16; (with_reducible refine (HP _).mono ?_); rintro x w10 ⟨rfl, hb10⟩; have hbw10 := trans_below hbw09 hb10 hbw09.size))
  all_goals go_ret
  all_goals exact ⟨rfl, hbw10⟩

def EsisIs (f : FuncId) (n u r c t s node k rd z : Int) (m : Nat) (l : List Int) : Prop :=
  ∀ w, Calls Try.prog f #[cfg n u r c t s, .int .i64 node, .int .i64 k, .int .i64 rd] w fun x w' => ∃ ad cap, x = .returned (.tuple #[.slice ad m cap, .int .i64 z]) ∧ IntsV w' (ad, m, cap) l ∧ Below w.heap.size w w'
theorem esisIs_none {f : FuncId} {n u r c t s node k rd z : Int} (h : ∀ w, Calls Try.prog f #[cfg n u r c t s, .int .i64 node, .int .i64 k, .int .i64 rd] w fun x w' => x = .returned (.tuple #[.slice none 0 0, .int .i64 z]) ∧ Below w.heap.size w w') : EsisIs f n u r c t s node k rd z 0 [] :=
  fun w => (h w).mono fun _ _ ⟨hx, hb⟩ => ⟨none, 0, hx, intsV_nil _, hb⟩

theorem esis_both (n u r c t s node k rd : Int) (hu : -9223372036854775808 ≤ u ∧ u ≤ 9223372036854775807) (hr : -9223372036854775808 ≤ r ∧ r ≤ 9223372036854775807) :
    ∃ z m l, EsisIs 12 n u r c t s node k rd z m l ∧ EsisIs 13 n u r c t s node k rd z m l := by
  by_cases h : Good n u r c t s
  · by_cases hk : 1 ≤ k ∧ k ≤ 32
    · by_cases hn : 0 ≤ node ∧ node < n
      · by_cases hrd : 0 ≤ rd ∧ rd ≤ 100000
        · obtain ⟨s4, _⟩ := shr_range h hk.1 hk.2
          obtain ⟨q, hq⟩ : ∃ q : Nat, (q : Int) = shr n u r k := ⟨(shr n u r k).toNat, by omega⟩
          have hR := fun w => refEsis_in n u r c t s node k rd q w h hq hk hn hrd
          by_cases hf : node + n * ((q : Int) * (rd + 1) - 1) < 16777216
          · refine ⟨0, q, esisL node n q rd q, fun w => ?_, fun w => ?_⟩
            · refine (esis_good n u r c t s node k rd q w h hq hk hn hrd (by rw [← hq]; exact hf)).mono ?_
              rintro x w' ⟨g, rfl, _, ⟨cur, hg, hs, hc⟩, hb⟩
              obtain ⟨_, hq2⟩ := shr_range h hk.1 hk.2
              exact ⟨_, _, rfl, intsV_of_cur _ hg (esisL_length _ _ _ _ _) (fun i hi => by rw [hc i hi, esisL_getD _ _ _ _ hi]) (by omega), hb⟩
            · refine (hR w).mono ?_
              rintro x w' ⟨hb, ⟨hfar, _⟩ | ⟨_, ad, cap, rfl, hi⟩⟩
              · exfalso; omega
              · exact ⟨ad, cap, rfl, hi, hb⟩
          · refine ⟨40, 0, [], esisIs_none fun w => esis_far n u r c t s node k rd w h hk hn hrd (by rw [← hq]; omega), esisIs_none fun w => ?_⟩
            refine (hR w).mono ?_
            rintro x w' ⟨hb, ⟨_, rfl⟩ | ⟨hnear, _⟩⟩
            · exact ⟨rfl, hb⟩
            · exact absurd hnear hf
        · exact ⟨40, 0, [], esisIs_none fun w => esis_late n u r c t s node k rd w h hk hn (by omega), esisIs_none fun w => refEsis_late n u r c t s node k rd w h hk hn (by omega)⟩
      · exact ⟨120, 0, [], esisIs_none fun w => esis_badn n u r c t s node k rd w h hk (by omega), esisIs_none fun w => refEsis_badn n u r c t s node k rd w h hk (by omega)⟩
    · exact ⟨30, 0, [], esisIs_none fun w => esis_badk n u r c t s node k rd w h (by omega), esisIs_none fun w => refEsis_badk n u r c t s node k rd w h (by omega)⟩
  · exact ⟨130, 0, [], esisIs_none fun w => esis_badc n u r c t s node k rd w h hu hr, esisIs_none fun w => refEsis_badc n u r c t s node k rd w h hu hr⟩

theorem placeShares_walk (n u r c t s node k rd e : Int) (w : World) (_w0 : (Lit.int .i64 n).wf = true) (w1 : (Lit.int .i64 u).wf = true) (w2 : (Lit.int .i64 r).wf = true) (_w3 : (Lit.int .i64 c).wf = true) (_w4 : (Lit.int .i64 t).wf = true) (_w5 : (Lit.int .i64 s).wf = true) (_w6 : (Lit.int .i64 node).wf = true) (_w7 : (Lit.int .i64 k).wf = true) (_w8 : (Lit.int .i64 rd).wf = true) (_w9 : (Lit.int .i64 e).wf = true) :
    Calls Try.prog 3 #[.agg #[.int .i64 n, .int .i64 u, .int .i64 r, .int .i64 c, .int .i64 t, .int .i64 s], .int .i64 node, .int .i64 k, .int .i64 rd, .int .i64 e] w fun x w' => x = .returned (.bool true) ∧ Below w.heap.size w w' := by
  change Calls _ _ #[cfg n u r c t s, _, _, _, _] _ _
  have hu := wf_i64 w1
  have hr := wf_i64 w2
  obtain ⟨z, m, l, hE, hF⟩ := esis_both n u r c t s node k rd hu hr
  have HK := fun w => check_any n u r c t s w hu hr
  have HL := fun w => refCheck_any n u r c t s w hu hr
  by_cases h : Good n u r c t s
  · by_cases hk : 1 ≤ k ∧ k ≤ 32
    · have HS := fun w => share_good n u r c t s k w h hk
      have HT := fun w => refShare_good n u r c t s k w h hk
      by_cases he : 0 ≤ e ∧ e ≤ 16777215
      · exact shares_walk n u r c t s node k rd e _ _ _ z _ _ _ m l w HS HT HK HL hE hF (fun w => owner_good n u r c t s k e w h hk he) (fun w => refOwner_good n u r c t s k e w h hk he)
      · exact shares_walk n u r c t s node k rd e _ _ _ z _ _ _ m l w HS HT HK HL hE hF (fun w => owner_bade n u r c t s k e w h hk (by omega)) (fun w => refOwner_bade n u r c t s k e w h hk (by omega))
    · exact shares_walk n u r c t s node k rd e _ _ _ z _ _ _ m l w (fun w => share_badk n u r c t s k w h (by omega)) (fun w => refShare_badk n u r c t s k w h (by omega)) HK HL hE hF (fun w => owner_badk n u r c t s k e w h (by omega)) (fun w => refOwner_badk n u r c t s k e w h (by omega))
  · exact shares_walk n u r c t s node k rd e _ _ _ z _ _ _ m l w (fun w => share_badc n u r c t s k w h hu hr) (fun w => refShare_badc n u r c t s k w h hu hr) HK HL hE hF (fun w => owner_badc n u r c t s k e w h hu hr) (fun w => refOwner_badc n u r c t s k e w h hu hr)
end Go.Proofs.Ythkpofopcnapdaa
