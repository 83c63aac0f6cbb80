/-
  net: NetOrder.
-/
import Derived.Test.YtbkbkhinpeoflaaNeL
import Derived.Test.YtbkbkhinpeoflaaLaw
namespace Go.Proofs.Ytbkbkhinpeoflaa
open Go.RowKit

/-- each that is on its way has the bytes that it was sent with. -/
def Match (ts : List Int) (bs ls : List (List Nat)) : Prop := ∀ (j : Nat) t, ts[j]? = some t → ∃ q : Nat, t = (q : Int) ∧ q < ls.length ∧ bs[j]? = ls[q]?
theorem match_start (ls : List (List Nat)) : Match (upTo ls.length) ls ls := by
  intro j t h
  by_cases hj : j < ls.length
  · rw [upTo_at hj] at h
    injection h with h
    exact ⟨j, h.symm, hj, rfl⟩
  · rw [List.getElem?_eq_none (by rw [upTo_len]; omega)] at h
    cases h
theorem Match.erase {ts : List Int} {bs ls : List (List Nat)} (h : Match ts bs ls) (i : Nat) : Match (ts.eraseIdx i) (bs.eraseIdx i) ls := by
  intro j t hj
  rw [eraseIdx_get] at hj
  rw [eraseIdx_get]
  split at hj
  · rename_i hji
    rw [if_pos hji]
    exact h j t hj
  · rename_i hji
    rw [if_neg hji]
    exact h (j + 1) t hj
theorem rowV_drop {w : World} {g m c d : Nat} {B : Nat} {T : TypeId} {l : List Int} (h : w.ownsRow B T 1 (.slice (some ⟨g, 0, none⟩) m c) m (l.map iv)) (hd : d ≤ m) : RowV w (some ⟨g, d, none⟩) (m - d) ((l.drop d).map iv) := by
  have hl : l.length = m := by have := h.1; simpa using this
  refine ⟨by simp [hl], fun h0 => ⟨g, d, rfl, fun i hi => ?_⟩⟩
  rw [h.cellAt (d + i) (by omega), List.getElem?_map, List.getElem?_map, List.getElem?_drop]
theorem intsV_take {w : World} {g m c d : Nat} {B : Nat} {T : TypeId} {l : List Int} (h : w.ownsRow B T 1 (.slice (some ⟨g, 0, none⟩) m c) m (l.map iv)) (hd : d ≤ m) (hs : m ≤ 140737488355328) (hc : d ≤ c) : IntsV w (some ⟨g, 0, none⟩, d, c) (l.take d) := by
  have hl : l.length = m := by have := h.1; simpa using this
  refine ⟨⟨by simp; omega, fun h0 => ⟨g, 0, rfl, fun i hi => ?_⟩⟩, by simp only; omega, hc, fun h => by cases h⟩
  simp only at hi
  rw [Nat.zero_add, h.cellAt i (by omega), List.getElem?_map, List.getElem?_map, List.getElem?_take, if_pos hi]

set_option maxRecDepth 100000 in
set_option maxHeartbeats 8000000 in
theorem netOrder_walk (a0 : Option Addr) (n0 c0 : Nat) (hs : List (Option Addr × Nat × Nat)) (ls : List (List Nat)) (a1 : Option Addr) (n1 c1 : Nat) (l1 : List Int) (w : World)
    (v0 : RowV w a0 n0 (hs.map SV)) (r0 : RowsV w hs ls) (_s0 : n0 * 24 ≤ 140737488351232) (h1 : IntsV w (a1, n1, c1) l1) (_s1 : n1 * 8 ≤ 140737488351232) (z1 : ∀ z ∈ l1, (Lit.int .i64 z).wf = true) :
    Calls Try.prog 5 #[.slice a0 n0 c0, .slice a1 n1 c1] w fun e w' => e = .returned (.bool true) ∧ Below w.heap.size w w' := by
  have KA := alive_any
  obtain ⟨j0, ji, jz0, jz1, jz2⟩ := info_parts Try.info3
  by_cases hn : 100 < n0 ∨ 200 < n1
  · have hn2 : 100 < n0 ∨ (¬ 100 < n0 ∧ 200 < n1) := by omega
    clear hn
    rcases hn2 with hn | ⟨hn, hm⟩
    all_goals
      go_enter Try.func5, Try.ntmps5
      go_wp2_with (go_at_call 8; (with_reducible refine (KA _).mono ?_); rintro e w1 ⟨rfl, hb1⟩)
      go_ret
      exact ⟨rfl, hb1⟩
  · have hn2 : ¬ 100 < n0 := by omega
    have hn3 : ¬ 200 < n1 := by omega
    have hhs : hs.length = n0 := by have := v0.1; simpa using this
    have hls : ls.length = n0 := by rw [← r0.1, hhs]
    have hl1 : l1.length = n1 := h1.length
    have HLS := Lib.hid hls
    have HHS := Lib.hid hhs
    have HL1 := Lib.hid hl1
    have HV := Lib.hid v0
    have HR := Lib.hid r0
    have HI := Lib.hid h1
    have HZ := Lib.hid z1
    clear hls hhs hl1 v0 r0 h1 z1 hn
    go_enter Try.func5, Try.ntmps5
    go_wp2_with (go_at_call 8; (with_reducible refine (KA _).mono ?_); rintro e w1 ⟨rfl, hb1⟩)
    clear KA
    (with_reducible refine (is_new w w1 hb1).mono ?_)
    rintro e w2 ⟨rfl, hI, b2⟩
    have hbase := hI.base.size
    obtain ⟨g, hg⟩ : ∃ g, g = w1.heap.size := ⟨_, rfl⟩
    rw [← hg] at hI ⊢
    clear hg b2 hb1
    have hI2 := hI.below (below_alloc w2 (.cells #[] 3))
    have ho2 := World.ownsRow_made (base := w.heap.size) (e := 3) (size := 1) w2 #[] 0 hbase (by simp [maxLen]) rfl
    clear hI hbase
    go_wp2
    go_loopw [6, 7] (fun u i wr => ∃ (k : Nat) (a : Option Addr) (c : Nat), k ≤ n0 ∧ i = .int .i64 k ∧ u = .slice a k c ∧ wr.ownsRow w.heap.size 3 1 (.slice a k c) k ((upTo k).map iv) ∧ NetIs w wr g k (upTo k) (ls.take k)) (fun _ i _ => n0 - (intOf i).toNat)
    case atStart => exact ⟨0, _, 0, Nat.zero_le _, rfl, rfl, ho2, hI2⟩
    case round =>
      clear ho2 hI2
      obtain ⟨k, a, c, hk, rfl, rfl, ho, hI⟩ := hrel
      have hbr := hI.base
      have hbs := hbr.size
      by_cases hlt : k < n0
      · obtain ⟨⟨a2, n2, c2⟩, hx⟩ : ∃ x, hs[k]? = some x := ⟨_, List.getElem?_eq_getElem (by rw [HHS.out]; exact hlt)⟩
        obtain ⟨l, hl⟩ : ∃ l, ls[k]? = some l := ⟨_, List.getElem?_eq_getElem (by rw [HLS.out]; exact hlt)⟩
        have hB := (HR.out.2 k _ l hx hl).below hbr
        obtain ⟨b, o, rfl, hc⟩ := (HV.out.below hbr).2 (by omega)
        have hc1 := hc k hlt
        rw [List.getElem?_map, hx] at hc1
        unfold SV at hc1
        simp only [Option.map_some] at hc1
        have htk : ls.take k ++ [l] = ls.take (k + 1) := (take_step ls k l hl).symm
        have hln : l.length = n2 := hB.length
        have hby := hB.bytes
        have hsm := hB.small
        simp only at hsm
        have HT := Lib.hid htk
        have HLN := Lib.hid hln
        clear hx hl hc htk hln
        go_wp2_with fail
        (with_reducible refine (copyBytes_any _ _ _ l _ hB).mono ?_)
        rintro e w3 ⟨a3, c3, rfl, o3, b3⟩
        have h3 := bytesV_of_owns o3 hby (by rw [HLN.out]; exact hsm)
        have hI3 := hI.below b3
        have ho3 := (keeps_below b3).own ho (by decide) (by decide)
        clear o3 b3 hB hI ho hc1
        have KS := is_sendK w g k (upTo k) (ls.take k) k a3 l.length c3 l _ hI3 h3 (by rw [upTo_len]; omega) (by omega) (by omega)
        rw [upTo_succ, HT.out] at KS
        go_wp2_with fail
        (with_reducible refine KS.mono ?_)
        rintro e w4 ⟨rfl, hI4, hK⟩
        have ho4 := hK.own ho3 (by decide) (by decide)
        have hb4 := hI4.base
        have hs4 := hb4.size
        clear KS hK ho3 hI3 h3 hbr hbs
        have HU := Lib.hid (upTo_succ k)
        go_wp2_with (first
          | (at_builtin; refine wpList_append_row rfl _ _ 26 rfl w.heap.size 3 j0 (.int .i64 0) 8 Try.underlying26 ji jz0 jz1 jz2 rfl _ _ _ rfl (ho4.alloc _) (some ⟨w4.heap.size, 0, none⟩) 1 1 [iv k] rfl (rowV_lit w4 _ _ _ 1 _ rfl rfl rfl) (fun h => by cases h) (iv_one [_]) (by simp [maxLen]; omega) (by omega) (by simp; omega) ?_; intro v' w5 hE5 g5 _; obtain ⟨a5, c5, rfl, _⟩ := ownsRow_parts hE5))
        have hI5 : NetIs w w5 g (k + 1) (upTo (k + 1)) (ls.take (k + 1)) := (hI4.below (below_alloc w4 _)).grown (T := 3) g5 (fun b e => by
            obtain ⟨cs, hcs⟩ := own_block_type (ho4.alloc (.cells #[iv k] 3)) e
            exact ⟨cs, hcs, ((ho4.alloc (.cells #[iv k] 3)).lt b e).1⟩) (by decide) (by decide) (by decide)
        clear g5 hI4 ho4 hb4 hs4
        go_wp2
        go_roundw
        case rel =>
          refine ⟨k + 1, a5, c5, by omega, by go_num, rfl, ?_, by simpa using hI5⟩
          rw [← HU.out, List.map_append]
          exact hE5
        case measure => simp [intOf]; omega
      · obtain rfl : k = n0 := by omega
        clear hk hlt
        have hM0 : Match (upTo k) (ls.take k) ls := by
          have := match_start ls
          rw [HLS.out] at this
          rw [List.take_of_length_le (by rw [HLS.out]; omega)]
          exact this
        have lU := upTo_len k
        obtain ⟨us, hus⟩ : ∃ us, us = upTo k := ⟨_, rfl⟩
        obtain ⟨bs, hbs'⟩ : ∃ bs, bs = ls.take k := ⟨_, rfl⟩
        rw [← hus] at ho hI hM0 lU
        rw [← hbs'] at hI hM0
        clear hus hbs' hbr hbs
        go_wp2
        go_loopw [6, 8] (fun u i wr => ∃ (p m : Nat) (ts : List Int) (bs : List (List Nat)) (a : Option Addr) (c : Nat), p ≤ n1 ∧ i = .int .i64 p ∧ u = .slice a m c ∧ wr.ownsRow w.heap.size 3 1 (.slice a m c) m (ts.map iv) ∧ ts.length = m ∧ m ≤ k ∧ NetIs w wr g k ts bs ∧ Match ts bs ls) (fun _ i _ => n1 - (intOf i).toNat)
        case atStart => exact ⟨0, k, us, bs, a, c, Nat.zero_le _, rfl, rfl, ho, lU, Nat.le_refl _, hI, hM0⟩
        case round =>
          clear ho hI hM0 lU
          obtain ⟨p, m, ts, bs, a, c, hp, rfl, rfl, ho, hts, hmk, hI, hM⟩ := hrel
          have hbr := hI.base
          have hbs := hbr.size
          by_cases hlt : p < n1
          · obtain ⟨z, hz⟩ : ∃ z, l1[p]? = some z := ⟨_, List.getElem?_eq_getElem (by rw [HL1.out]; exact hlt)⟩
            obtain ⟨hz0, hz1⟩ := wf_i64 (HZ.out z (List.mem_of_getElem? hz))
            obtain ⟨b, o, e1, hc⟩ := (HI.out.below hbr).row.2 (by simp; omega)
            simp only at e1 hc
            subst e1
            have hc1 := hc p hlt
            rw [List.getElem?_map, hz] at hc1
            simp only [Option.map_some, iv] at hc1
            clear hz hc
            by_cases hin : z < 0 ∨ (m : Int) ≤ z
            · have KT := is_take_no w g k ts bs z wr hI (by rw [hts]; exact hin)
              have HMM := Lib.hid hM
              have HTS := Lib.hid hts
              clear hM hts
              have hin2 : z < 0 ∨ (¬ z < 0 ∧ (m : Int) ≤ z) := by omega
              clear hin
              rcases hin2 with hz2 | ⟨hz2, hz3⟩
              all_goals
                go_wp2_with fail
                (with_reducible refine KT.mono ?_)
                rintro e w3 ⟨rfl, hI3, b3⟩
                have ho3 := (keeps_below b3).own ho (by decide) (by decide)
                have hc3 := (World.cell?_of_block (a := ⟨b, o + p, none⟩) (b3.block b (block_lt_of_cell hc1))).trans hc1
                clear KT hI ho hbr hbs hc1 b3
                go_wp2
                go_roundw
                case rel => exact ⟨p + 1, m, ts, bs, a, c, by omega, by go_num, rfl, ho3, HTS.out, hmk, hI3, HMM.out⟩
                case measure => simp [intOf]; omega
            · obtain ⟨j, rfl⟩ := Int.eq_ofNat_of_zero_le (show 0 ≤ z by omega)
              have hj : j < m := by omega
              obtain ⟨t, ht⟩ : ∃ t, ts[j]? = some t := ⟨_, List.getElem?_eq_getElem (by omega)⟩
              obtain ⟨q, rfl, hq, hbq⟩ := hM j t ht
              obtain ⟨l, hl⟩ : ∃ l, ls[q]? = some l := ⟨_, List.getElem?_eq_getElem hq⟩
              rw [HLS.out] at hq
              rw [hl] at hbq
              obtain ⟨⟨a2, n2, c2⟩, hx⟩ : ∃ x, hs[q]? = some x := ⟨_, List.getElem?_eq_getElem (by rw [HHS.out]; exact hq)⟩
              have hB := HR.out.2 q _ l hx hl
              have hln : l.length = n2 := hB.length
              have KT := is_takeK w g k ts bs j q l wr hI (by omega) ht hbq
              have hME := hM.erase j
              have hte : (ts.eraseIdx j).length = m - 1 := by rw [List.length_eraseIdx, if_pos (by omega), hts]
              have hsp := erase_split ts j
              obtain ⟨es, hes⟩ : ∃ es, es = ts.eraseIdx j := ⟨_, rfl⟩
              obtain ⟨fs, hfs⟩ : ∃ fs, fs = bs.eraseIdx j := ⟨_, rfl⟩
              rw [← hes, ← hfs] at KT hME
              rw [← hes] at hte hsp
              clear hes hfs hbq hI hM hl
              obtain ⟨gl, rfl⟩ : ∃ gl, a = some ⟨gl, 0, none⟩ := by
                obtain ⟨_, _, e, hc, _⟩ := ownsRow_parts ho
                cases e
                rcases hc with ⟨_, h, _⟩ | ⟨gl, rfl, h, _⟩
                · omega
                · exact ⟨gl, rfl⟩
              have hmc : m ≤ c := by
                obtain ⟨_, _, e, _, h, _⟩ := ownsRow_parts ho
                cases e
                exact h
              have HTE := Lib.hid hte
              have HSP := Lib.hid hsp
              have HMM := Lib.hid hME
              have HLN := Lib.hid hln
              have HT := Lib.hid ht
              have HTS := Lib.hid hts
              have HX := Lib.hid hx
              have HB := Lib.hid hB
              clear hte hsp hME hln ht hts hx hB hin
              go_wp2_with fail
              (with_reducible refine KT.mono ?_)
              rintro e w3 ⟨a3, c3, rfl, h3, hI3, hK⟩
              have ho3 := hK.own ho (by decide) (by decide)
              have hb3 := hI3.base
              have hs3 := hb3.size
              have hc3 : w3.cell? ⟨b, o + p, none⟩ = some (.int .i64 (j : Nat)) := by
                have := (HI.out.below hb3).row.2 (by simp; omega)
                obtain ⟨b', o', e', hc'⟩ := this
                simp only at e' hc'
                injection e' with e'
                injection e' with e1 e2 _
                subst e1 e2
                have := (HI.out.below hbr).row.2 (by simp; omega)
                obtain ⟨b'', o'', e'', hc''⟩ := this
                simp only at e'' hc''
                injection e'' with e''
                injection e'' with e3 e4 _
                subst e3 e4
                rw [hc' p hlt, ← hc'' p hlt, hc1]
              have hcq : w3.cell? ⟨gl, j, none⟩ = some (.int .i64 (q : Nat)) := by
                rw [ho3.cellAt j (by omega), List.getElem?_map, HT.out]
                rfl
              obtain ⟨b4, o4, rfl, hc4⟩ := (HV.out.below hb3).2 (by omega)
              have hc5 := hc4 q hq
              rw [List.getElem?_map, HX.out] at hc5
              unfold SV at hc5
              simp only [Option.map_some] at hc5
              clear KT hK ho hbr hbs hc1 hc4
              go_wp2_with fail
              (with_reducible refine (sameBytes_any _ _ _ l _ _ _ l _ h3 (HB.out.below hb3)).mono ?_)
              rw [decide_eq_true rfl]
              rintro e w4 ⟨rfl, b4'⟩
              have ho4 := (keeps_below b4').own ho3 (by decide) (by decide)
              have hI4 := hI3.below b4'
              have hb4 := hI4.base
              have hs4 := hb4.size
              have hc6 := (World.cell?_of_block (a := ⟨b, o + p, none⟩) (b4'.block b (block_lt_of_cell hc3))).trans hc3
              clear h3 ho3 hI3 hb3 hs3 hc3 hcq hc5 b4'
              have hT4 := intsV_take (d := j) ho4 (by omega) (by omega) (by omega)
              go_wp2_with fail
              (with_reducible refine (copyInts_any _ _ _ _ _ hT4 (by omega)).mono ?_)
              rintro e w5 ⟨a5, c5, rfl, ho5, b5⟩
              have hlt4 : (ts.take j).length = j := by rw [List.length_take, HTS.out]; omega
              rw [hlt4] at ho5 ⊢
              have ho6 := (keeps_below b5).own ho4 (by decide) (by decide)
              have hI5 := hI4.below b5
              have hb5 := hI5.base
              have hs5 := hb5.size
              have hc7 := (World.cell?_of_block (a := ⟨b, o + p, none⟩) (b5.block b (block_lt_of_cell hc6))).trans hc6
              have ho5' := ownsRow_base ho5 hs4
              have hR := rowV_drop (d := j + 1) ho6 (by omega)
              clear hT4 ho4 hI4 hb4 hs4 hc6 b5 ho5 hlt4
              by_cases hce : c = j + 1
              · obtain rfl : m = j + 1 := by omega
                have hd0 : ts.drop (j + 1) = [] := List.drop_eq_nil_of_le (by rw [HTS.out]; omega)
                have hR0 : ∀ a, RowV w5 a 0 [] := fun a => ⟨rfl, fun h => absurd h (by omega)⟩
                have HD0 := Lib.hid hd0
                clear hd0 hR
                go_wp2_with (at_builtin; refine wpList_append_row rfl _ _ 26 rfl w.heap.size 3 j0 (.int .i64 0) 8 Try.underlying26 ji jz0 jz1 jz2 rfl _ _ _ rfl ho5' (some ⟨gl, 0, none⟩) 0 0 [] rfl (hR0 _) (fun _ => rfl) (fun u h => by cases h) (by simp [maxLen]; omega) (by omega) hs5 ?_; intro v' w6 hE6 g6 _; obtain ⟨a6, c6, rfl, _⟩ := ownsRow_parts hE6)
                have hI6 : NetIs w w6 g k es fs := hI5.grown (T := 3) g6 (fun b e => by
                  obtain ⟨cs, hcs⟩ := own_block_type ho5' e
                  exact ⟨cs, hcs, (ho5'.lt b e).1⟩) (by decide) (by decide) (by decide)
                have hL6 : w6.ownsRow w.heap.size 3 1 (.slice a6 (j + 0) c6) (j + 0) (es.map iv) := by
                  rw [HSP.out, HD0.out, List.append_nil]
                  simp only [List.append_nil] at hE6
                  exact hE6
                clear hE6 g6 hI5 ho5' ho6 hc7 hb5 hs5
                go_wp2
                go_roundw
                case rel => exact ⟨p + 1, j + 0, es, fs, a6, c6, by omega, by go_num, rfl, hL6, by rw [HTE.out]; omega, by omega, hI6, HMM.out⟩
                case measure => simp [intOf]; omega
              · go_wp2_with (at_builtin; refine wpList_append_row rfl _ _ 26 rfl w.heap.size 3 j0 (.int .i64 0) 8 Try.underlying26 ji jz0 jz1 jz2 rfl _ _ _ rfl ho5' _ (m - (j + 1)) _ _ rfl hR (fun h => by cases h) (iv_ones _) (by simp [maxLen]; omega) (by omega) hs5 ?_; intro v' w6 hE6 g6 _; obtain ⟨a6, c6, rfl, _⟩ := ownsRow_parts hE6)
                have hI6 : NetIs w w6 g k es fs := hI5.grown (T := 3) g6 (fun b e => by
                  obtain ⟨cs, hcs⟩ := own_block_type ho5' e
                  exact ⟨cs, hcs, (ho5'.lt b e).1⟩) (by decide) (by decide) (by decide)
                have hL6 : w6.ownsRow w.heap.size 3 1 (.slice a6 (j + (m - (j + 1))) c6) (j + (m - (j + 1))) (es.map iv) := by
                  rw [HSP.out, List.map_append]
                  exact hE6
                clear hE6 g6 hI5 ho5' ho6 hc7 hb5 hs5
                go_wp2
                go_roundw
                case rel => exact ⟨p + 1, j + (m - (j + 1)), es, fs, a6, c6, by omega, by go_num, rfl, hL6, by rw [HTE.out]; omega, by omega, hI6, HMM.out⟩
                case measure => simp [intOf]; omega
          · obtain rfl : p = n1 := by omega
            have h4 := intsV_own ho (by omega)
            have HTS := Lib.hid hts
            have KF := is_flight w g k ts bs wr hI (by omega)
            rw [hts] at KF
            clear hts hM
            go_wp2_with fail
            (with_reducible refine KF.mono ?_)
            rintro e w3 ⟨a3, c3, rfl, h3, -, b3⟩
            have hb3 := hbr.trans (b3.mono hbr.size)
            go_wp2_with fail
            (with_reducible refine (sameInts_any _ _ _ ts _ _ _ ts _ h3 (h4.below b3)).mono ?_)
            rw [decide_eq_true rfl]
            rintro e w4 ⟨rfl, b4⟩
            go_wp2
            go_ret
            exact ⟨rfl, hb3.trans (b4.mono hb3.size)⟩
end Go.Proofs.Ytbkbkhinpeoflaa
