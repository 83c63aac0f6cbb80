/-
  tally: every tally tells what the document says.
-/
import Derived.Test.YtehaijdbmnljnaaTaO
import Derived.StillTailTactics
import Derived.Deep.RegionHeld3
namespace Go.Proofs.Ytehaijdbmnljnaa
open Go.RowKit

theorem cnt_take (sd : List Int) (N : Nat) (x : Int) : cnt (sd.take N) N x = cnt sd N x := by
  unfold cnt; rw [List.take_take, Nat.min_self]
theorem getD_take (sd : List Int) (N k : Nat) (h : k < N) : (sd.take N).getD k 0 = sd.getD k 0 := by
  simp [List.getD_eq_getElem?_getD, h]
theorem silent_take (sd : List Int) (N : Nat) : ∀ k, k ≤ N → silent (sd.take N) k = silent sd k
  | 0, _ => rfl
  | k + 1, h => by simp only [silent]; rw [silent_take sd N k (by omega), getD_take sd N k (by omega)]
theorem step1_take (N : Nat) (x a : Int) (sd : List Int) : step1 N x (sd.take N) a = (step1 N x sd a).take N := by
  unfold step1
  by_cases h : 0 ≤ a ∧ a < N
  · rw [getD_take sd N a.toNat (by omega)]
    split
    · rw [List.take_set]
    · rfl
  · rw [if_neg (fun c => h ⟨c.1, c.2.1⟩), if_neg (fun c => h ⟨c.1, c.2.1⟩)]
theorem steps_take (N : Nat) (x : Int) : ∀ (l sd : List Int), steps N x (sd.take N) l = (steps N x sd l).take N
  | [], _ => rfl
  | a :: l, sd => by
    show steps N x (step1 N x (sd.take N) a) l = (steps N x (step1 N x sd a) l).take N
    rw [step1_take, steps_take N x l]

/-- block bm holds the reference's tally. -/
structure RefV (w : World) (bm b : Nat) (need : Int) (N : Nat) (sR : List Int) (ad : Option Addr) (cap : Nat) : Prop where
  box : w.heap[bm]? = some (.cells #[.slice ad N cap, .int .i64 need] 28 (0, 0))
  ints : IntsV w (ad, N, cap) sR
  off : ∀ a, ad = some a → a.block ≠ b ∧ a.block ≠ bm
theorem RefV.below {w w' : World} {bm b : Nat} {need : Int} {N : Nat} {sR : List Int} {ad : Option Addr} {cap : Nat} (h : RefV w bm b need N sR ad cap) (hb : Below w.heap.size w w') : RefV w' bm b need N sR ad cap :=
  ⟨(hb.block bm (Array.getElem?_eq_some_iff.1 h.box).1).trans h.box, h.ints.below hb, h.off⟩
theorem RefV.grown {w w' : World} {bm b : Nat} {need : Int} {N : Nat} {sR : List Int} {ad : Option Addr} {cap : Nat} (h : RefV w bm b need N sR ad cap) (hg : w.grownBy w' (some b)) (hne : bm ≠ b) : RefV w' bm b need N sR ad cap :=
  ⟨(hg.block bm (Array.getElem?_eq_some_iff.1 h.box).1 (by simpa using hne)).trans h.box, h.ints.grown hg (fun a ha => (h.off a ha).1), h.off⟩
theorem RefV.cells {w : World} {bm b : Nat} {need : Int} {N : Nat} {sR : List Int} {ad : Option Addr} {cap : Nat} (h : RefV w bm b need N sR ad cap) : w.cell? ⟨bm, 0, none⟩ = some (.slice ad N cap) ∧ w.cell? ⟨bm, 1, none⟩ = some (.int .i64 need) ∧ ∀ j, w.frozen? ⟨bm, j, none⟩ = false :=
  ⟨cell_of_row _ _ 0 _ _ _ h.box, cell_of_row _ _ 1 _ _ _ h.box, fun _ => frozen_of_row _ _ _ _ _ h.box⟩

set_option maxRecDepth 10000 in
set_option maxHeartbeats 8000000 in
theorem tallySteps_walk (nodes need : Int) (a0 : Option Addr) (n0 c0 : Nat) (Y : Nat → Bool) (Hd : Nat → Option Addr × Nat × Nat) (LL : Nat → List Int) (w : World) (_w0 : (Lit.int .i64 nodes).wf = true) (_w1 : (Lit.int .i64 need).wf = true) (hS : SaysV w a0 n0 c0 Y Hd LL) :
    Calls Try.prog 3 #[.int .i64 nodes, .int .i64 need, .slice a0 n0 c0] w fun x w' => x = .returned (.bool true) ∧ Below w.heap.size w w' := by
  have KA := alive_any
  obtain ⟨N, hN⟩ : ∃ N, nodesOf nodes = N := ⟨_, rfl⟩
  have HNN := Lib.hid hN
  have hN8 : N ≤ 8 := by rw [← hN]; unfold nodesOf; omega
  clear hN
  go_enter Try.func3, Try.ntmps3
  go_wp2_with (first
    | (go_at_call 8; (with_reducible refine (KA _).mono ?_); rintro e w1 ⟨rfl, hb1⟩)
    | (go_at_call 9; (with_reducible refine (new_any nodes need w1).mono ?_); rw [HNN.out]; rintro e w2 ⟨rfl, hT2, hd2⟩; have hb2 := trans_belowT hb1 hd2 hb1.size)
    | (go_at_call 10; (with_reducible refine (refNew_any nodes need w2).mono ?_); rw [HNN.out]; rintro e w3 ⟨adR, capR, rfl, hR3, hoff3, hd3⟩; have hb3 := trans_belowT hb2 hd3 hb2.size; have hT3 := hT2.below hd3)
    | (go_at_call 11; (with_reducible refine (cut_any _ _ _ Y Hd LL _ ((hS.below hb3).below (below_alloc _ _))).mono ?_); rintro e w5 ⟨m, hm, hmn, rfl, _, rfl⟩))
  have hSm := hS.cut hmn
  have hbs := hb1.size
  have hlt := hT2.v.lt
  have hR4 : RefV (w3.alloc (.cells #[.slice adR N capR, .int .i64 need] 28)) w3.heap.size w1.heap.size need N (List.replicate N 0) adR capR :=
    ⟨heap_alloc_new _ _, hR3.alloc, fun a ha => by have := hoff3 a ha; exact ⟨by omega, by omega⟩⟩
  have hT4 := hT3.alloc (.cells #[.slice adR N capR, .int .i64 need] 28)
  have hb4 := hb3.alloc hb3.size (.cells #[.slice adR N capR, .int .i64 need] 28)
  have hbmb : w1.heap.size < w3.heap.size := Nat.lt_of_lt_of_le hlt hd3.size
  have hz : List.replicate N 0 = zeros.take N := by unfold zeros; rw [List.take_replicate, Nat.min_eq_left hN8]
  rw [hz] at hR4
  have hbm : w.heap.size ≤ w3.heap.size := hb3.size
  generalize hww : w3.alloc (.cells #[.slice adR N capR, .int .i64 need] 28) = w4 at hR4 hT4 hb4 ⊢
  generalize w3.heap.size = bm at hR4 hbmb hbm ⊢
  generalize w1.heap.size = b at hT4 hbs hbmb hR4 ⊢
  clear hww hT2 hd2 hT3 hR3 hoff3 hd3 hb1 hb2 hb3 KA hS hlt hz
  go_loopw [9] (fun i wr => ∃ k : Nat, k ≤ m ∧ i = .int .i64 k ∧ (∃ (sd : List Int) (adR : Option Addr) (capR : Nat), TallyI wr b need sd N ∧ RefV wr bm b need N (sd.take N) adR capR) ∧ Below w.heap.size w wr) (fun i _ => m - (intOf i).toNat)
  case atStart => exact ⟨0, Nat.zero_le _, rfl, ⟨zeros, adR, capR, hT4, hR4⟩, hb4⟩
  case round =>
    clear hT4 hR4 hb4
    obtain ⟨k, hk, rfl, ⟨sd, ad0, cap0, hT, hR⟩, hb⟩ := hrel
    by_cases hkm : k < m
    · obtain ⟨b2, o2, e2, hbb2, hc⟩ := hSm.row (by omega)
      subst e2
      obtain ⟨cy0, cs0, hI0⟩ := hc k hkm
      have hsm := hSm.small
      clear hc
      generalize Hd k = hd at cs0 hI0
      obtain ⟨ad, n, c⟩ := hd
      simp only at cs0 hI0
      have cy := (hb.cell (p := ⟨b2, o2 + k * 2, none⟩) hbb2).trans cy0
      have cs := (hb.cell (p := ⟨b2, o2 + k * 2 + 1, none⟩) hbb2).trans cs0
      by_cases hn : n ≤ 100
      · have hI1 := hI0 hn
        generalize LL k = ls at hI1
        generalize Y k = y at cy cy0
        have hI2 := hI1.below hb
        clear hI0
        obtain ⟨sd', hsd'⟩ : ∃ s, s = steps N (whatOf y) sd ls := ⟨_, rfl⟩
        have HS := Lib.hid hsd'
        clear hsd'
        go_wp2_with (first
          | (go_at_call 12; (with_reducible refine (saylaw_any b need sd N y _ _ _ ls wr hT hI2 hn).mono ?_); rw [← HS.out]; rintro e w20 ⟨rfl, hT20, hg20⟩; have hb20 := grow_more hb hg20 hbs hb.size; have hR20 := hR.grown hg20 (Nat.ne_of_gt hbmb)))
        clear hT hR hg20 hI2
        have hl1 : ls.length = n := hI1.length
        have HL1 := Lib.hid hl1
        clear hl1
        go_loopw [10] (fun j wr => ∃ q : Nat, q ≤ n ∧ j = .int .i64 q ∧ (∃ (adR : Option Addr) (capR : Nat), TallyI wr b need sd' N ∧ RefV wr bm b need N (steps N (whatOf y) (sd.take N) (ls.take q)) adR capR) ∧ Below w.heap.size w wr) (fun j _ => n - (intOf j).toNat)
        case atStart => exact ⟨0, Nat.zero_le _, rfl, ⟨ad0, cap0, hT20, hR20⟩, hb20⟩
        case round =>
          clear hT20 hR20 hb20 hb cy cs
          obtain ⟨q, hq, rfl, ⟨ad1, cap1, hT, hR⟩, hb⟩ := hrel
          have cy := (hb.cell (p := ⟨b2, o2 + k * 2, none⟩) hbb2).trans cy0
          have cs := (hb.cell (p := ⟨b2, o2 + k * 2 + 1, none⟩) hbb2).trans cs0
          obtain ⟨r0, r1, rF⟩ := hR.cells
          by_cases hqn : q < n
          · obtain ⟨b5, o5, e5, hc5⟩ := hI1.row.2 (by simp; omega)
            simp only at e5
            subst e5
            have hlt5 : b5 < w.heap.size := hI1.row.lt (by simp; omega) rfl
            have d0 := (hc5 q hqn).trans (iv_getD (by rw [HL1.out]; exact hqn))
            clear hc5
            have hT1 := take_snoc ls q (by rw [HL1.out]; exact hqn)
            obtain ⟨x, hx⟩ : ∃ x, x = ls.getD q 0 := ⟨_, rfl⟩
            rw [← hx] at d0 hT1
            have hS1 := steps_snoc N (whatOf y) (sd.take N) (ls.take q) x
            rw [← hT1] at hS1
            obtain ⟨sQ, hsQ⟩ : ∃ s, s = steps N (whatOf y) (sd.take N) (ls.take q) := ⟨_, rfl⟩
            rw [← hsQ] at hS1 hR
            have HS1 := Lib.hid hS1
            clear hT1 hx hS1 hsQ
            have d1 := (hb.cell (p := ⟨b5, o5 + q, none⟩) hlt5).trans d0
            have HR := Lib.hid hR
            clear hR
            cases y
            all_goals go_wp2
            all_goals go_still_tail 10, (by kernel_rfl)
            all_goals go_wp2_with (first
              | (go_at_call 13; (with_reducible refine (refSay_any need x _ N ad1 cap1 sQ _ ?hI hN8).mono ?_); (case hI => exact HR.out.ints.below ⟨rfl, rfl, rfl, Nat.le_refl _, fun _ _ => rfl⟩); rintro e w4 ⟨ad4, cap4, rfl, hI4, hoff4, hd⟩; have hd4 : Below wr.heap.size wr w4 := ⟨hd.os, hd.tape, hd.output, hd.size, hd.block⟩; have hb4 := trans_belowT hb hd4 hb.size; have hR4 := HR.out.below hd4; obtain ⟨t0, t1, tF⟩ := hR4.cells))
            all_goals
              have hoff5 : ∀ a, ad4 = some a → a.block ≠ b ∧ a.block ≠ bm := by
                intro a ha
                rcases hoff4 with h | h
                · exact HR.out.off a (h ▸ ha)
                · have h5 : wr.heap.size + 2 ≤ a.block := h a ha
                  have h6 := (Array.getElem?_eq_some_iff.1 HR.out.box).1
                  have h7 := hT.v.lt
                  exact ⟨by omega, by omega⟩
              have hG := grownBy_trans (grownBy_setCell w4 ⟨bm, 0, none⟩ (.slice ad4 N cap4)) (grownBy_setCell _ ⟨bm, 1, none⟩ (.int .i64 need))
              have hR5 := RefV.mk (b := b) (heap_setCell_same _ _ 1 _ _ (.int .i64 need) (heap_setCell_same w4 bm 0 _ _ (.slice ad4 N cap4) hR4.box)) (hI4.grown hG (fun a ha => (hoff5 a ha).2)) hoff5
              have hT5 := (hT.below hd4).other hG (Nat.ne_of_lt hbmb)
              have hb5 := (hb4.setCell (p := ⟨bm, 0, none⟩) hbm (.slice ad4 N cap4)).setCell (p := ⟨bm, 1, none⟩) hbm (.int .i64 need)
              have HR5 := Lib.hid hR5
              clear hR5 hR4 t0 t1 tF hI4 hoff4 hd hd4
              go_roundw
              case rel => exact ⟨q + 1, by omega, by go_num, ⟨ad4, cap4, hT5, by rw [HS1.out]; exact HR5.out⟩, hb5⟩
              case measure => simp [intOf]; omega
          · obtain rfl : q = n := by omega
            have hsame : steps N (whatOf y) (sd.take N) (ls.take q) = sd'.take N := by
              rw [show ls.take q = ls from List.take_of_length_le (by rw [HL1.out]; exact Nat.le_refl _), steps_take, ← HS.out]
            rw [hsame] at hR
            clear hsame hI1 HL1 HS r0 r1 rF cy0
            obtain ⟨sR, hsR⟩ : ∃ s, s = sd'.take N := ⟨_, rfl⟩
            rw [← hsR] at hR
            have hlR : sR.length = N := hR.ints.length
            obtain ⟨vD, hvD⟩ : ∃ v, decide (need ≤ cnt sd' N 1) = v := ⟨_, rfl⟩
            obtain ⟨vL, hvL⟩ : ∃ v, decide ((cnt sd' N 1 : Int) + cnt sd' N 0 < need) = v := ⟨_, rfl⟩
            have HVDR : Hid (decide (need ≤ cnt sR N 1) = vD) := Lib.hid (by rw [hsR, cnt_take]; exact hvD)
            have HVLR : Hid (decide ((cnt sR N 1 : Int) + cnt sR N 0 < need) = vL) := Lib.hid (by rw [hsR, cnt_take, cnt_take]; exact hvL)
            obtain ⟨K0, hk0⟩ : ∃ K, (silent sd' N).length = K := ⟨_, rfl⟩
            obtain ⟨K1, hk1⟩ : ∃ K, cnt sd' N 1 = K := ⟨_, rfl⟩
            obtain ⟨K2, hk2⟩ : ∃ K, cnt sd' N 2 = K := ⟨_, rfl⟩
            have hL0 : those sR 0 N = silent sd' N := by rw [those_silent, hsR, silent_take sd' N N (Nat.le_refl _)]
            have HL0 := Lib.hid hL0
            have HK1 : Hid ((those sR 1 N).length = K1) := Lib.hid (by rw [those_length sR 1 N (by omega), hsR, cnt_take]; exact hk1)
            have HK2 : Hid ((those sR 2 N).length = K2) := Lib.hid (by rw [those_length sR 2 N (by omega), hsR, cnt_take]; exact hk2)
            have HK0 : Hid ((those sR 0 N).length = K0) := Lib.hid (by rw [hL0]; exact hk0)
            have HK0S := Lib.hid hk0
            have hK8 : K0 ≤ 140737488355328 := by rw [← hk0]; have := silent_length sd' N; omega
            have HVD := Lib.hid hvD
            have HVL := Lib.hid hvL
            have HC1 := Lib.hid (congrArg (Nat.cast : Nat → Int) hk1)
            have HC2 := Lib.hid (congrArg (Nat.cast : Nat → Int) hk2)
            have HSR := Lib.hid hsR
            clear hsR hvD hvL hk0 hk1 hk2 hL0 hlR
            go_wp2_with (first
              | (go_at_call 14; (with_reducible refine (count_is hT (K1 : Int) (K2 : Int) HC1.out HC2.out).mono ?_); rintro e w30 ⟨rfl, hd⟩; have hb30 := trans_belowT hb hd hb.size; have hT30 := hT.below hd; have hR30 := hR.below hd; obtain ⟨p30, q30, _⟩ := hR30.cells))
            clear hT hR
            go_region_held3 (fun w' => w'.cell? ⟨bm, 0, none⟩ = some (.slice ad1 N cap1) ∧ w'.cell? ⟨bm, 1, none⟩ = some (.int .i64 need)) (first | exact ⟨p39, q39⟩ | exact ⟨p38, q38⟩ | exact ⟨p37, q37⟩ | exact ⟨p36, q36⟩ | exact ⟨p35, q35⟩ | exact ⟨p34, q34⟩ | exact ⟨p33, q33⟩ | exact ⟨p32, q32⟩ | exact ⟨p31, q31⟩ | exact ⟨p30, q30⟩)
              (first
                | (go_at_call 15; (with_reducible refine (of_is (need := need) (x := 1) (sd := sR) ?hh hN8 K1 HK1.out).mono ?_); (case hh => exact hR30.ints.below ⟨rfl, rfl, rfl, Nat.le_refl _, fun _ _ => rfl⟩); rintro e w31 ⟨ad31, cap31, rfl, hown, hd⟩; have hd31 : Below w30.heap.size w30 w31 := ⟨hd.os, hd.tape, hd.output, hd.size, hd.block⟩; have hb31 := trans_belowT hb30 hd31 hb30.size; have hT31 := hT30.below hd31; have hR31 := hR30.below hd31; obtain ⟨p31, q31, _⟩ := hR31.cells)
                | (go_at_call 15; (with_reducible refine (of_is (need := need) (x := 2) (sd := sR) ?hh hN8 K2 HK2.out).mono ?_); (case hh => exact hR31.ints.below ⟨rfl, rfl, rfl, Nat.le_refl _, fun _ _ => rfl⟩); rintro e w32 ⟨ad32, cap32, rfl, hown, hd⟩; have hd32 : Below w31.heap.size w31 w32 := ⟨hd.os, hd.tape, hd.output, hd.size, hd.block⟩; have hb32 := trans_belowT hb31 hd32 hb31.size; have hT32 := hT31.below hd32; have hR32 := hR31.below hd32; obtain ⟨p32, q32, _⟩ := hR32.cells)
                | (go_at_call 16; (with_reducible refine (done_is (need := need) (said := sd') (N := N) ?hh vD HVD.out).mono ?_); (case hh => exact hT33.of_heap rfl); rintro e w34 ⟨rfl, hd⟩; have hd34 : Below w33.heap.size w33 w34 := ⟨hd.os, hd.tape, hd.output, hd.size, hd.block⟩; have hb34 := trans_belowT hb33 hd34 hb33.size; have hT34 := hT33.below hd34; have hR34 := hR33.below hd34; obtain ⟨p34, q34, _⟩ := hR34.cells)
                | (go_at_call 17; (with_reducible refine (refDone_is (need := need) (sd := sR) ?hh hN8 vD HVDR.out).mono ?_); (case hh => exact hR33.ints.below ⟨rfl, rfl, rfl, Nat.le_refl _, fun _ _ => rfl⟩); rintro e w34 ⟨rfl, hd⟩; have hd34 : Below w33.heap.size w33 w34 := ⟨hd.os, hd.tape, hd.output, hd.size, hd.block⟩; have hb34 := trans_belowT hb33 hd34 hb33.size; have hT34 := hT33.below hd34; have hR34 := hR33.below hd34; obtain ⟨p34, q34, _⟩ := hR34.cells)
                | (go_at_call 16; (with_reducible refine (done_is (need := need) (said := sd') (N := N) ?hh vD HVD.out).mono ?_); (case hh => exact hT32.of_heap rfl); rintro e w33 ⟨rfl, hd⟩; have hd33 : Below w32.heap.size w32 w33 := ⟨hd.os, hd.tape, hd.output, hd.size, hd.block⟩; have hb33 := trans_belowT hb32 hd33 hb32.size; have hT33 := hT32.below hd33; have hR33 := hR32.below hd33; obtain ⟨p33, q33, _⟩ := hR33.cells)
                | (go_at_call 17; (with_reducible refine (refDone_is (need := need) (sd := sR) ?hh hN8 vD HVDR.out).mono ?_); (case hh => exact hR32.ints.below ⟨rfl, rfl, rfl, Nat.le_refl _, fun _ _ => rfl⟩); rintro e w33 ⟨rfl, hd⟩; have hd33 : Below w32.heap.size w32 w33 := ⟨hd.os, hd.tape, hd.output, hd.size, hd.block⟩; have hb33 := trans_belowT hb32 hd33 hb32.size; have hT33 := hT32.below hd33; have hR33 := hR32.below hd33; obtain ⟨p33, q33, _⟩ := hR33.cells)
                | (go_at_call 18; (with_reducible refine (lost_is (need := need) (said := sd') (N := N) ?hh vL HVL.out).mono ?_); (case hh => exact hT35.of_heap rfl); rintro e w36 ⟨rfl, hd⟩; have hd36 : Below w35.heap.size w35 w36 := ⟨hd.os, hd.tape, hd.output, hd.size, hd.block⟩; have hb36 := trans_belowT hb35 hd36 hb35.size; have hT36 := hT35.below hd36; have hR36 := hR35.below hd36; obtain ⟨p36, q36, _⟩ := hR36.cells)
                | (go_at_call 19; (with_reducible refine (refLost_is (need := need) (sd := sR) ?hh hN8 vL HVLR.out).mono ?_); (case hh => exact hR35.ints.below ⟨rfl, rfl, rfl, Nat.le_refl _, fun _ _ => rfl⟩); rintro e w36 ⟨rfl, hd⟩; have hd36 : Below w35.heap.size w35 w36 := ⟨hd.os, hd.tape, hd.output, hd.size, hd.block⟩; have hb36 := trans_belowT hb35 hd36 hb35.size; have hT36 := hT35.below hd36; have hR36 := hR35.below hd36; obtain ⟨p36, q36, _⟩ := hR36.cells)
                | (go_at_call 18; (with_reducible refine (lost_is (need := need) (said := sd') (N := N) ?hh vL HVL.out).mono ?_); (case hh => exact hT34.of_heap rfl); rintro e w35 ⟨rfl, hd⟩; have hd35 : Below w34.heap.size w34 w35 := ⟨hd.os, hd.tape, hd.output, hd.size, hd.block⟩; have hb35 := trans_belowT hb34 hd35 hb34.size; have hT35 := hT34.below hd35; have hR35 := hR34.below hd35; obtain ⟨p35, q35, _⟩ := hR35.cells)
                | (go_at_call 19; (with_reducible refine (refLost_is (need := need) (sd := sR) ?hh hN8 vL HVLR.out).mono ?_); (case hh => exact hR34.ints.below ⟨rfl, rfl, rfl, Nat.le_refl _, fun _ _ => rfl⟩); rintro e w35 ⟨rfl, hd⟩; have hd35 : Below w34.heap.size w34 w35 := ⟨hd.os, hd.tape, hd.output, hd.size, hd.block⟩; have hb35 := trans_belowT hb34 hd35 hb34.size; have hT35 := hT34.below hd35; have hR35 := hR34.below hd35; obtain ⟨p35, q35, _⟩ := hR35.cells)
                | (go_at_call 21; (with_reducible refine (waiting_is (need := need) (said := sd') (N := N) ?hh K0 HK0S.out).mono ?_); (case hh => exact hT37.of_heap rfl); rintro e w38 ⟨ad38, cap38, rfl, hown, hd⟩; have hd38 : Below w37.heap.size w37 w38 := ⟨hd.os, hd.tape, hd.output, hd.size, hd.block⟩; have hb38 := trans_belowT hb37 hd38 hb37.size; have hT38 := hT37.below hd38; have hR38 := hR37.below hd38; obtain ⟨p38, q38, _⟩ := hR38.cells; have hW38 := (intsV_own hown hK8).1; have hO38 := hO37.below hd38)
                | (go_at_call 15; (with_reducible refine (of_is (need := need) (x := 0) (sd := sR) ?hh hN8 K0 HK0.out).mono ?_); (case hh => exact hR37.ints.below ⟨rfl, rfl, rfl, Nat.le_refl _, fun _ _ => rfl⟩); rintro e w38 ⟨ad38, cap38, rfl, hown, hd⟩; have hd38 : Below w37.heap.size w37 w38 := ⟨hd.os, hd.tape, hd.output, hd.size, hd.block⟩; have hb38 := trans_belowT hb37 hd38 hb37.size; have hT38 := hT37.below hd38; have hR38 := hR37.below hd38; obtain ⟨p38, q38, _⟩ := hR38.cells; have hO38 := (intsV_own (HL0.out ▸ hown) hK8).1; have hW38 := hW37.below hd38)
                | (go_at_call 21; (with_reducible refine (waiting_is (need := need) (said := sd') (N := N) ?hh K0 HK0S.out).mono ?_); (case hh => exact hT36.of_heap rfl); rintro e w37 ⟨ad37, cap37, rfl, hown, hd⟩; have hd37 : Below w36.heap.size w36 w37 := ⟨hd.os, hd.tape, hd.output, hd.size, hd.block⟩; have hb37 := trans_belowT hb36 hd37 hb36.size; have hT37 := hT36.below hd37; have hR37 := hR36.below hd37; obtain ⟨p37, q37, _⟩ := hR37.cells; have hW37 := (intsV_own hown hK8).1)
                | (go_at_call 15; (with_reducible refine (of_is (need := need) (x := 0) (sd := sR) ?hh hN8 K0 HK0.out).mono ?_); (case hh => exact hR36.ints.below ⟨rfl, rfl, rfl, Nat.le_refl _, fun _ _ => rfl⟩); rintro e w37 ⟨ad37, cap37, rfl, hown, hd⟩; have hd37 : Below w36.heap.size w36 w37 := ⟨hd.os, hd.tape, hd.output, hd.size, hd.block⟩; have hb37 := trans_belowT hb36 hd37 hb36.size; have hT37 := hT36.below hd37; have hR37 := hR36.below hd37; obtain ⟨p37, q37, _⟩ := hR37.cells; have hO37 := (intsV_own (HL0.out ▸ hown) hK8).1)
                | (go_at_call 20; (with_reducible refine (sameInts_any _ _ _ (silent sd' N) _ _ _ (silent sd' N) _ ?h1 ?h2).mono ?_); (case h1 => exact hW38.below ⟨rfl, rfl, rfl, Nat.le_refl _, fun _ _ => rfl⟩); (case h2 => exact hO38.below ⟨rfl, rfl, rfl, Nat.le_refl _, fun _ _ => rfl⟩); rintro e w39 ⟨rfl, hd⟩; have hd39 : Below w38.heap.size w38 w39 := ⟨hd.os, hd.tape, hd.output, hd.size, hd.block⟩; have hb39 := trans_belowT hb38 hd39 hb38.size; have hT39 := hT38.below hd39; have hR39 := hR38.below hd39; obtain ⟨p39, q39, _⟩ := hR39.cells; rw [decide_eq_true (rfl : silent sd' N = silent sd' N)]))
            all_goals go_wp2
            all_goals (go_roundw; (case rel => exact ⟨k + 1, by omega, by go_num, ⟨sd', ad1, cap1, hT39, by rw [← HSR.out]; exact hR39⟩, hb39⟩); (case measure => (simp [intOf] <;> omega)))
      · have hn2 : 100 < n := by omega
        clear hI0 hn
        go_wp2
        go_ret
        exact ⟨rfl, hb⟩
    · have hkm2 : k = m := by omega
      subst hkm2
      generalize hww : wr = w40 at hT hR hb ⊢
      obtain ⟨sR, hsR⟩ : ∃ s, s = sd.take N := ⟨_, rfl⟩
      rw [← hsR] at hR
      have hlR : sR.length = N := hR.ints.length
      obtain ⟨vD, hvD⟩ : ∃ v, decide (need ≤ cnt sd N 1) = v := ⟨_, rfl⟩
      obtain ⟨vL, hvL⟩ : ∃ v, decide ((cnt sd N 1 : Int) + cnt sd N 0 < need) = v := ⟨_, rfl⟩
      have HVDR : Hid (decide (need ≤ cnt sR N 1) = vD) := Lib.hid (by rw [hsR, cnt_take]; exact hvD)
      have HVLR : Hid (decide ((cnt sR N 1 : Int) + cnt sR N 0 < need) = vL) := Lib.hid (by rw [hsR, cnt_take, cnt_take]; exact hvL)
      obtain ⟨K0, hk0⟩ : ∃ K, (silent sd N).length = K := ⟨_, rfl⟩
      obtain ⟨K1, hk1⟩ : ∃ K, cnt sd N 1 = K := ⟨_, rfl⟩
      obtain ⟨K2, hk2⟩ : ∃ K, cnt sd N 2 = K := ⟨_, rfl⟩
      have hL0 : those sR 0 N = silent sd N := by rw [those_silent, hsR, silent_take sd N N (Nat.le_refl _)]
      have HL0 := Lib.hid hL0
      have HK1 : Hid ((those sR 1 N).length = K1) := Lib.hid (by rw [those_length sR 1 N (by omega), hsR, cnt_take]; exact hk1)
      have HK2 : Hid ((those sR 2 N).length = K2) := Lib.hid (by rw [those_length sR 2 N (by omega), hsR, cnt_take]; exact hk2)
      have HK0 : Hid ((those sR 0 N).length = K0) := Lib.hid (by rw [hL0]; exact hk0)
      have HK0S := Lib.hid hk0
      have hK8 : K0 ≤ 140737488355328 := by rw [← hk0]; have := silent_length sd N; omega
      have HVD := Lib.hid hvD
      have HVL := Lib.hid hvL
      have HC1 := Lib.hid (congrArg (Nat.cast : Nat → Int) hk1)
      have HC2 := Lib.hid (congrArg (Nat.cast : Nat → Int) hk2)
      have HSR := Lib.hid hsR
      clear hsR hvD hvL hk0 hk1 hk2 hL0 hlR
      obtain ⟨p40, q40, _⟩ := hR.cells
      have hT40 := hT
      have hR40 := hR
      have hb40 := hb
      clear hT hR hb hww
      go_wp2
      go_region_held3 (fun w' => w'.cell? ⟨bm, 0, none⟩ = some (.slice ad0 N cap0) ∧ w'.cell? ⟨bm, 1, none⟩ = some (.int .i64 need)) (first | exact ⟨p47, q47⟩ | exact ⟨p46, q46⟩ | exact ⟨p45, q45⟩ | exact ⟨p44, q44⟩ | exact ⟨p43, q43⟩ | exact ⟨p42, q42⟩ | exact ⟨p41, q41⟩ | exact ⟨p40, q40⟩)
        (first
          | (go_at_call 16; (with_reducible refine (done_is (need := need) (said := sd) (N := N) ?hh vD HVD.out).mono ?_); (case hh => exact hT41.of_heap rfl); rintro e w42 ⟨rfl, hd⟩; have hd42 : Below w41.heap.size w41 w42 := ⟨hd.os, hd.tape, hd.output, hd.size, hd.block⟩; have hb42 := trans_belowT hb41 hd42 hb41.size; have hT42 := hT41.below hd42; have hR42 := hR41.below hd42; obtain ⟨p42, q42, _⟩ := hR42.cells)
          | (go_at_call 17; (with_reducible refine (refDone_is (need := need) (sd := sR) ?hh hN8 vD HVDR.out).mono ?_); (case hh => exact hR41.ints.below ⟨rfl, rfl, rfl, Nat.le_refl _, fun _ _ => rfl⟩); rintro e w42 ⟨rfl, hd⟩; have hd42 : Below w41.heap.size w41 w42 := ⟨hd.os, hd.tape, hd.output, hd.size, hd.block⟩; have hb42 := trans_belowT hb41 hd42 hb41.size; have hT42 := hT41.below hd42; have hR42 := hR41.below hd42; obtain ⟨p42, q42, _⟩ := hR42.cells)
          | (go_at_call 16; (with_reducible refine (done_is (need := need) (said := sd) (N := N) ?hh vD HVD.out).mono ?_); (case hh => exact hT40.of_heap rfl); rintro e w41 ⟨rfl, hd⟩; have hd41 : Below w40.heap.size w40 w41 := ⟨hd.os, hd.tape, hd.output, hd.size, hd.block⟩; have hb41 := trans_belowT hb40 hd41 hb40.size; have hT41 := hT40.below hd41; have hR41 := hR40.below hd41; obtain ⟨p41, q41, _⟩ := hR41.cells)
          | (go_at_call 17; (with_reducible refine (refDone_is (need := need) (sd := sR) ?hh hN8 vD HVDR.out).mono ?_); (case hh => exact hR40.ints.below ⟨rfl, rfl, rfl, Nat.le_refl _, fun _ _ => rfl⟩); rintro e w41 ⟨rfl, hd⟩; have hd41 : Below w40.heap.size w40 w41 := ⟨hd.os, hd.tape, hd.output, hd.size, hd.block⟩; have hb41 := trans_belowT hb40 hd41 hb40.size; have hT41 := hT40.below hd41; have hR41 := hR40.below hd41; obtain ⟨p41, q41, _⟩ := hR41.cells)
          | (go_at_call 18; (with_reducible refine (lost_is (need := need) (said := sd) (N := N) ?hh vL HVL.out).mono ?_); (case hh => exact hT43.of_heap rfl); rintro e w44 ⟨rfl, hd⟩; have hd44 : Below w43.heap.size w43 w44 := ⟨hd.os, hd.tape, hd.output, hd.size, hd.block⟩; have hb44 := trans_belowT hb43 hd44 hb43.size; have hT44 := hT43.below hd44; have hR44 := hR43.below hd44; obtain ⟨p44, q44, _⟩ := hR44.cells)
          | (go_at_call 19; (with_reducible refine (refLost_is (need := need) (sd := sR) ?hh hN8 vL HVLR.out).mono ?_); (case hh => exact hR43.ints.below ⟨rfl, rfl, rfl, Nat.le_refl _, fun _ _ => rfl⟩); rintro e w44 ⟨rfl, hd⟩; have hd44 : Below w43.heap.size w43 w44 := ⟨hd.os, hd.tape, hd.output, hd.size, hd.block⟩; have hb44 := trans_belowT hb43 hd44 hb43.size; have hT44 := hT43.below hd44; have hR44 := hR43.below hd44; obtain ⟨p44, q44, _⟩ := hR44.cells)
          | (go_at_call 18; (with_reducible refine (lost_is (need := need) (said := sd) (N := N) ?hh vL HVL.out).mono ?_); (case hh => exact hT42.of_heap rfl); rintro e w43 ⟨rfl, hd⟩; have hd43 : Below w42.heap.size w42 w43 := ⟨hd.os, hd.tape, hd.output, hd.size, hd.block⟩; have hb43 := trans_belowT hb42 hd43 hb42.size; have hT43 := hT42.below hd43; have hR43 := hR42.below hd43; obtain ⟨p43, q43, _⟩ := hR43.cells)
          | (go_at_call 19; (with_reducible refine (refLost_is (need := need) (sd := sR) ?hh hN8 vL HVLR.out).mono ?_); (case hh => exact hR42.ints.below ⟨rfl, rfl, rfl, Nat.le_refl _, fun _ _ => rfl⟩); rintro e w43 ⟨rfl, hd⟩; have hd43 : Below w42.heap.size w42 w43 := ⟨hd.os, hd.tape, hd.output, hd.size, hd.block⟩; have hb43 := trans_belowT hb42 hd43 hb42.size; have hT43 := hT42.below hd43; have hR43 := hR42.below hd43; obtain ⟨p43, q43, _⟩ := hR43.cells)
          | (go_at_call 21; (with_reducible refine (waiting_is (need := need) (said := sd) (N := N) ?hh K0 HK0S.out).mono ?_); (case hh => exact hT45.of_heap rfl); rintro e w46 ⟨ad46, cap46, rfl, hown, hd⟩; have hd46 : Below w45.heap.size w45 w46 := ⟨hd.os, hd.tape, hd.output, hd.size, hd.block⟩; have hb46 := trans_belowT hb45 hd46 hb45.size; have hT46 := hT45.below hd46; have hR46 := hR45.below hd46; obtain ⟨p46, q46, _⟩ := hR46.cells; have hW46 := (intsV_own hown hK8).1; have hO46 := hO45.below hd46)
          | (go_at_call 15; (with_reducible refine (of_is (need := need) (x := 0) (sd := sR) ?hh hN8 K0 HK0.out).mono ?_); (case hh => exact hR45.ints.below ⟨rfl, rfl, rfl, Nat.le_refl _, fun _ _ => rfl⟩); rintro e w46 ⟨ad46, cap46, rfl, hown, hd⟩; have hd46 : Below w45.heap.size w45 w46 := ⟨hd.os, hd.tape, hd.output, hd.size, hd.block⟩; have hb46 := trans_belowT hb45 hd46 hb45.size; have hT46 := hT45.below hd46; have hR46 := hR45.below hd46; obtain ⟨p46, q46, _⟩ := hR46.cells; have hO46 := (intsV_own (HL0.out ▸ hown) hK8).1; have hW46 := hW45.below hd46)
          | (go_at_call 21; (with_reducible refine (waiting_is (need := need) (said := sd) (N := N) ?hh K0 HK0S.out).mono ?_); (case hh => exact hT44.of_heap rfl); rintro e w45 ⟨ad45, cap45, rfl, hown, hd⟩; have hd45 : Below w44.heap.size w44 w45 := ⟨hd.os, hd.tape, hd.output, hd.size, hd.block⟩; have hb45 := trans_belowT hb44 hd45 hb44.size; have hT45 := hT44.below hd45; have hR45 := hR44.below hd45; obtain ⟨p45, q45, _⟩ := hR45.cells; have hW45 := (intsV_own hown hK8).1)
          | (go_at_call 15; (with_reducible refine (of_is (need := need) (x := 0) (sd := sR) ?hh hN8 K0 HK0.out).mono ?_); (case hh => exact hR44.ints.below ⟨rfl, rfl, rfl, Nat.le_refl _, fun _ _ => rfl⟩); rintro e w45 ⟨ad45, cap45, rfl, hown, hd⟩; have hd45 : Below w44.heap.size w44 w45 := ⟨hd.os, hd.tape, hd.output, hd.size, hd.block⟩; have hb45 := trans_belowT hb44 hd45 hb44.size; have hT45 := hT44.below hd45; have hR45 := hR44.below hd45; obtain ⟨p45, q45, _⟩ := hR45.cells; have hO45 := (intsV_own (HL0.out ▸ hown) hK8).1)
          | (go_at_call 20; (with_reducible refine (sameInts_any _ _ _ (silent sd N) _ _ _ (silent sd N) _ ?h1 ?h2).mono ?_); (case h1 => exact hW46.below ⟨rfl, rfl, rfl, Nat.le_refl _, fun _ _ => rfl⟩); (case h2 => exact hO46.below ⟨rfl, rfl, rfl, Nat.le_refl _, fun _ _ => rfl⟩); rintro e w47 ⟨rfl, hd⟩; have hd47 : Below w46.heap.size w46 w47 := ⟨hd.os, hd.tape, hd.output, hd.size, hd.block⟩; have hb47 := trans_belowT hb46 hd47 hb46.size; have hT47 := hT46.below hd47; have hR47 := hR46.below hd47; obtain ⟨p47, q47, _⟩ := hR47.cells; rw [decide_eq_true (rfl : silent sd N = silent sd N)]))
      all_goals go_wp2
      all_goals go_ret
      all_goals exact ⟨rfl, hb47⟩
end Go.Proofs.Ytehaijdbmnljnaa
