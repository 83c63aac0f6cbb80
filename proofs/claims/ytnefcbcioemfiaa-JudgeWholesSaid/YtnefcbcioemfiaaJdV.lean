/-
  The walk of JudgeLess.
-/
import Derived.Test.YtnefcbcioemfiaaJdT
import Derived.Test.YtnefcbcioemfiaaJdU
namespace Go.Proofs.Ytnefcbcioemfiaa
open Go Go.RowKit

/-- an act with its time made longer. -/
structure Wider (A A' : ActR) : Prop where
  w : Wide A A'
  key : A'.key = A.key
  keys : A'.keys = A.keys
  code : A'.code = A.code
  st : A'.st ≤ A.st ∧ 0 ≤ A'.st
  en : (0 ≤ A.en ∧ A.en ≤ A'.en) ∨ (A.en < 0 ∧ A'.en = A.en)
theorem Wider.mk' {A A' : ActR} (d : A'.d = A.d) (val : A'.val = A.val) (found : A'.found = A.found) (rval : A'.rval = A.rval) (key : A'.key = A.key) (keys : A'.keys = A.keys) (code : A'.code = A.code) (st : A'.st ≤ A.st ∧ 0 ≤ A'.st) (en : (0 ≤ A.en ∧ A.en ≤ A'.en) ∨ (A.en < 0 ∧ A'.en = A.en)) : Wider A A' := by
  refine ⟨⟨d, val, found, rval, ?_, fun b h => ?_, fun b h => ?_⟩, key, keys, code, st, en⟩
  · unfold sureB
    rw [code]
    congr 1
    rw [decide_eq_decide]
    omega
  · simp only [beforeB, Bool.and_eq_false_iff, decide_eq_false_iff_not] at h ⊢
    omega
  · simp only [beforeB, Bool.and_eq_false_iff, decide_eq_false_iff_not] at h ⊢
    omega
theorem Wider.refl {A : ActR} (h : stepBad A = false) : Wider A A :=
  Wider.mk' rfl rfl rfl rfl rfl rfl rfl ⟨Int.le_refl _, by have := (stepBad_split h).1; omega⟩ (by omega)
theorem Wider.setSt {A A' : ActR} (h : Wider A A') {v : Int} (h0 : 0 ≤ v) (h1 : v < A'.st) : Wider A { A' with st := v } :=
  Wider.mk' h.w.d h.w.val h.w.found h.w.rval h.key h.keys h.code ⟨by have := h.st; simp only; omega, h0⟩ h.en
theorem Wider.setEn {A A' : ActR} (h : Wider A A') {v : Int} (h0 : 0 ≤ A'.en) (h1 : A'.en < v) : Wider A { A' with en := v } :=
  Wider.mk' h.w.d h.w.val h.w.found h.w.rval h.key h.keys h.code h.st (by have := h.en; simp only; omega)
theorem Wider.whole {A A' : ActR} (h : Wider A A') (hs : stepBad A = false) {l1 l2 : List ActR} (hw : wholeR (l1 ++ A :: l2) = true) : wholeR (l1 ++ A' :: l2) = true := by
  have hkd : keyedB A' = keyedB A := by unfold keyedB; rw [h.w.d]
  refine whole_wide h.w h.key (by unfold countsB; rw [hkd, h.w.d, h.w.sure]) hkd ?_ hw
  have hst := stepBad_split hs
  have h1 := h.st
  have h2 := h.en
  simp only [stepBad, Bool.or_eq_false_iff, Bool.and_eq_false_iff, decide_eq_false_iff_not]
  by_cases h3 : 0 ≤ A.en
  · have := hst.2 h3; omega
  · omega
theorem split_at {α : Type} {xs : List α} {t : Nat} {A : α} (h : xs[t]? = some A) : xs = xs.take t ++ A :: xs.drop (t + 1) := by
  obtain ⟨hl, rfl⟩ := List.getElem?_eq_some_iff.1 h
  rw [← List.drop_eq_getElem_cons hl, List.take_append_drop]
theorem set_split {α : Type} {xs : List α} {t : Nat} {A A' : α} (h : xs[t]? = some A) : xs.set t A' = xs.take t ++ A' :: xs.drop (t + 1) := by
  obtain ⟨hl, rfl⟩ := List.getElem?_eq_some_iff.1 h
  rw [List.set_eq_take_append_cons_drop, if_pos hl]
theorem whole_step {xs : List ActR} (h : wholeR xs = true) {A : ActR} (hA : A ∈ xs) : stepBad A = false := (check_zero.1 ((whole_iff xs).1 h).1).1 A hA
theorem KOk.sub {xs ys : List ActR} (h : KOk xs) (hs : ∀ a ∈ ys, a ∈ xs) : KOk ys := fun a ha => h a (hs a ha)
theorem mem_take {α : Type} {xs : List α} {t : Nat} {a : α} (h : a ∈ xs.take t) : a ∈ xs := List.mem_of_mem_take h
theorem OwA.lt {w : World} {B : Nat} {a : Option Addr} {c : Nat} {ys : List YA} (h : OwA w B a c ys) : ∀ g, ofB a = some g → g < w.heap.size := fun g hg => (h.own.lt g (by rw [ofB_eq]; exact hg)).2
theorem OwA.ge {w : World} {B : Nat} {a : Option Addr} {c : Nat} {ys : List YA} (h : OwA w B a c ys) : ∀ g, ofB a = some g → B ≤ g := fun g hg => (h.own.lt g (by rw [ofB_eq]; exact hg)).1
/-- a copy with one act made longer. -/
structure MoreI (W : World) (B g c : Nat) (ys : List YA) (t : Nat) (A : ActR) (hd : SH3 × SH3 × SH3) (A1 : ActR) : Prop where
  own : OwA W B (some ⟨g, 0, none⟩) c (ys.set t (A1, hd))
  wid : Wider A A1
theorem MoreI.ge {W : World} {B g c : Nat} {ys : List YA} {t : Nat} {A A1 : ActR} {hd : SH3 × SH3 × SH3} (h : MoreI W B g c ys t A hd A1) : B ≤ g := h.own.ge g rfl
theorem MoreI.at {W : World} {B g c n : Nat} {ys : List YA} {t : Nat} {A A1 : ActR} {hd : SH3 × SH3 × SH3} (_h : MoreI W B g c ys t A hd A1) (hn : ys.length = n) (ht : t < n) : (ys.set t (A1, hd))[t]? = some (A1, hd) := by rw [List.getElem?_set_self (by omega)]
theorem MoreI.cells {W : World} {B g c n : Nat} {ys : List YA} {t : Nat} {A A1 : ActR} {hd : SH3 × SH3 × SH3} (h : MoreI W B g c ys t A hd A1) (hn : ys.length = n) (ht : t < n) :
    W.cell? ⟨g, t * 15, none⟩ = some (.int .i64 A1.cl) ∧ W.cell? ⟨g, t * 15 + 1, none⟩ = some (.int .i64 A1.d) ∧ W.cell? ⟨g, t * 15 + 2, none⟩ = some (.int .i64 A1.st) ∧ W.cell? ⟨g, t * 15 + 3, none⟩ = some (.int .i64 A1.en) ∧ W.frozen? ⟨g, t * 15 + 2, none⟩ = false ∧ W.frozen? ⟨g, t * 15 + 3, none⟩ = false := by
  have k := acells_get _ t _ (h.at hn ht)
  have hl : (ys.set t (A1, hd)).length = n := by rw [List.length_set, hn]
  have q := fun j (hj : j < 15) => h.own.own.cellAt (t * 15 + j) (by rw [hl]; omega)
  have f := fun j => h.own.own.frozenAt j
  exact ⟨(q 0 (by omega)).trans k.1, (q 1 (by omega)).trans k.2.1, (q 2 (by omega)).trans k.2.2.1, (q 3 (by omega)).trans k.2.2.2.1, f _, f _⟩
theorem MoreI.setSt {W : World} {B g c : Nat} {ys : List YA} {t : Nat} {A A1 : ActR} {hd : SH3 × SH3 × SH3} (h : MoreI W B g c ys t A hd A1) (ht : t < ys.length) {v : Int} (h0 : 0 ≤ v) (h1 : v < A1.st) : MoreI (W.setCell ⟨g, t * 15 + 2, none⟩ (.int .i64 v)) B g c ys t A hd { A1 with st := v } := by
  have ha := h.at rfl ht
  refine ⟨?_, h.wid.setSt h0 h1⟩
  have := h.own.setJ (A' := { A1 with st := v }) ha rfl rfl rfl (t * 15 + 2) (.int .i64 v) (acells_set2 _ _ _ _ _ ha)
  rw [List.set_set] at this
  exact this
theorem MoreI.setEn {W : World} {B g c : Nat} {ys : List YA} {t : Nat} {A A1 : ActR} {hd : SH3 × SH3 × SH3} (h : MoreI W B g c ys t A hd A1) (ht : t < ys.length) {v : Int} (h0 : 0 ≤ A1.en) (h1 : A1.en < v) : MoreI (W.setCell ⟨g, t * 15 + 3, none⟩ (.int .i64 v)) B g c ys t A hd { A1 with en := v } := by
  have ha := h.at rfl ht
  refine ⟨?_, h.wid.setEn h0 h1⟩
  have := h.own.setJ (A' := { A1 with en := v }) ha rfl rfl rfl (t * 15 + 3) (.int .i64 v) (acells_set3 _ _ _ _ _ ha)
  rw [List.set_set] at this
  exact this
theorem MoreI.whole {W : World} {B g c n : Nat} {ys : List YA} {t : Nat} {A A1 : ActR} {hd : SH3 × SH3 × SH3} (h : MoreI W B g c ys t A hd A1) (hn : ys.length = n) (_ht : t < n) {xs : List ActR} (hA : xs[t]? = some A) (hy : ys.map Prod.fst = xs) (hs : stepBad A = false) (hw : wholeR xs = true) (hk : KOk xs) (hc : n ≤ c) (hn6 : n ≤ 1000000) :
    Calls Try.prog 21 #[.slice (some ⟨g, 0, none⟩) n c] W fun e w' => e = .returned (.bool true) ∧ Below W.heap.size W w' := by
  have ha := h.own.acts
  rw [List.length_set, hn, List.map_set, hy] at ha
  have hwl : wholeR (xs.set t A1) = true := by
    rw [set_split hA]
    exact h.wid.whole hs (by rw [← split_at hA]; exact hw)
  have := whole_any (some ⟨g, 0, none⟩) n c _ W ha hc hn6 (fun a haa => by
    rcases List.mem_or_eq_of_mem_set haa with h1 | rfl
    · exact hk a h1
    · rw [h.wid.key]; exact hk.at hA)
  rw [hwl] at this
  exact this
set_option maxRecDepth 100000 in
set_option maxHeartbeats 16000000 in
theorem judgeLess_walk (aa : Option Addr) (an ac : Nat) (xs : List ActR) (at_ early late : Int) (w : World) (h : ActsV w aa an xs) (hkk : KOk xs) (hac : an ≤ ac) (hn : an ≤ 140737488355328) (_h1 : (Lit.int .i64 at_).wf = true) (_h2 : (Lit.int .i64 early).wf = true) (_h3 : (Lit.int .i64 late).wf = true) :
    Calls Try.prog 7 #[.slice aa an ac, .int .i64 at_, .int .i64 early, .int .i64 late] w fun e w' => e = .returned (.bool true) ∧ Below w.heap.size w w' := by
  have KA := alive_any w
  have H := Lib.hid h
  have HKK := Lib.hid hkk
  clear h hkk
  go_enter Try.func7, Try.ntmps7
  go_wp2_with fail
  (with_reducible refine KA.mono ?_)
  rintro e w1 ⟨rfl, b1⟩
  have KG := great_any aa an ac xs w1 (H.out.below b1) hac hn
  have B1 := Lib.hid b1
  clear KA b1
  go_wp2_with fail
  (with_reducible refine KG.mono ?_)
  rintro e w2 ⟨b2, ⟨rfl, h60⟩ | rfl⟩
  rotate_left 1
  · have B2 := Lib.hid (B1.out.trans (b2.mono B1.out.size))
    clear KG b2
    go_wp2
    go_ret
    exact ⟨rfl, B2.out⟩
  have B2 := Lib.hid (B1.out.trans (b2.mono B1.out.size))
  clear KG b2
  by_cases ha0 : at_ < 0
  · go_wp2
    go_ret
    exact ⟨rfl, B2.out⟩
  obtain ⟨t, rfl⟩ : ∃ t : Nat, at_ = t := ⟨at_.toNat, by omega⟩
  by_cases ha1 : (an : Int) ≤ (t : Int)
  · go_wp2
    go_ret
    exact ⟨rfl, B2.out⟩
  have KC := copyActs_rd aa an ac xs w2 (H.out.below B2.out) hac (by omega)
  go_wp2_with fail
  (with_reducible refine KC.mono ?_)
  rintro e w3 ⟨a3, c3, rfl, hv3, hc3, b3⟩
  have KW := whole_any a3 an c3 xs w3 hv3 hc3 (by omega) HKK.out
  have B3 := Lib.hid (B2.out.trans (b3.mono B2.out.size))
  obtain ⟨R, hR⟩ : ∃ R, R = wholeR xs := ⟨_, rfl⟩
  rw [← hR] at KW
  have HR := Lib.hid hR
  clear KC hv3 b3 hR
  cases R
  · go_wp2_with fail
    (with_reducible refine KW.mono ?_)
    rintro e w4 ⟨rfl, b4⟩
    have B4 := Lib.hid (B3.out.trans (b4.mono B3.out.size))
    clear KW b4
    go_wp2
    go_ret
    exact ⟨rfl, B4.out⟩
  go_wp2_with fail
  (with_reducible refine KW.mono ?_)
  rintro e w4 ⟨rfl, b4⟩
  have B4 := Lib.hid (B3.out.trans (b4.mono B3.out.size))
  clear KW b4
  have htn : t < an := by omega
  have ht0 : (0 : Int) ≤ (t : Int) := by omega
  have ht1 : (t : Int) < (an : Int) := by omega
  obtain ⟨b, o, A, x, y, z, eaa, hA1, hA, at0⟩ := (H.out.below B4.out).at htn
  subst eaa
  have q1 := at0.c1
  have HA1 := Lib.hid hA1
  have HST := Lib.hid (whole_step HR.out.symm (List.mem_of_getElem? hA1))
  clear hA1 hA at0
  go_upto_if 36 with fail
  go_cut [] (fun wx => Hid (Below w.heap.size w wx))
  case first =>
    by_cases hd : A.d = 2
    · have e2 : (A.d == 2) = true := by simpa using hd
      have HD := Lib.hid hd
      have KC := copyActs_any (some ⟨b, o, none⟩) t ac (xs.take t) w4 ((H.out.below B4.out).take (by omega)) (by omega) (by omega)
      have htl : (xs.take t).length = t := by have := H.out.len; simp; omega
      unfold GivesActs at KC
      rw [htl] at KC
      clear hd htl
      go_wp2_with fail
      (with_reducible refine KC.mono ?_)
      rintro e w5 ⟨a5, c5, ys, rfl, hy, ho5, b5, hc5⟩
      have B5 := Lib.hid (B4.out.trans (b5.mono B4.out.size))
      have O5 := Lib.hid ho5
      have HY := Lib.hid hy
      have HC5 := Lib.hid hc5
      have HS5 := Lib.hid b5.size
      clear KC hy ho5 b5 hc5
      go_upto_region 7 with fail
      by_cases hct : ac = t + 1
      · subst hct
        have hd5 : ActsV w5 (some ⟨b, o, none⟩) 0 (xs.drop (t + 1)) := (H.out.below B5.out).none (by omega)
        have KC := copyActs_any (some ⟨b, o, none⟩) 0 0 (xs.drop (t + 1)) w5 hd5 (by omega) (by omega)
        have hdl : (xs.drop (t + 1)).length = 0 := by have := H.out.len; simp; omega
        unfold GivesActs at KC
        rw [hdl] at KC
        obtain ⟨n2, hn2⟩ : ∃ n2, n2 = 0 := ⟨_, rfl⟩
        obtain ⟨nn, hnn⟩ : ∃ nn, nn = t + n2 := ⟨_, rfl⟩
        have HN2 := Lib.hid hn2
        have HNN := Lib.hid hnn
        have hyl : ys.length = t := by have h1 := congrArg List.length HY.out; have h2 := H.out.len; simp at h1; omega
        have HYL := Lib.hid hyl
        have HDL := Lib.hid hdl
        clear hd5 hdl hnn hyl
        go_wp2_with fail
        (with_reducible refine KC.mono ?_)
        rw [← hn2]
        clear KC hn2
        rintro e w6 ⟨a6, c6, zs, rfl, hz, ho6, b6, hc6⟩
        have B6 := Lib.hid (B5.out.trans (b6.mono B5.out.size))
        have O6 := Lib.hid (O5.out.below b6)
        have Z6 := Lib.hid ho6
        have HZ := Lib.hid hz
        have HS6 := Lib.hid b6.size
        have HC6 := Lib.hid hc6
        have hzl : zs.length = n2 := by have h1 := congrArg List.length hz; simp at h1; have := HN2.out; have := H.out.len; omega
        have HZL := Lib.hid hzl
        clear hz ho6 b6 hc6 hzl
        go_wp2_with (first | (at_builtin; refine Hid.out ?_))
        refine Lib.hid ?_
        refine wpList_append_acts rfl (.tmp 41) (.tmp 46) rfl w6 w4.heap.size w5.heap.size a5 c5 ys a6 c6 zs t n2 nn HNN.out.symm rfl O6.out rfl Z6.out HYL.out HZL.out (by have := HS5.out; omega) HS6.out O5.out.lt (by have := HN2.out; omega) HC5.out ?_
        intro av' cv' w7 hN hg7 hcv7 hlt7
        have ha7 := hN.acts
        have hlen7 : (ys ++ zs).length = nn := by rw [List.length_append, HYL.out, HZL.out, HNN.out]
        have hfst : (ys ++ zs).map Prod.fst = xs.take t ++ xs.drop (t + 1) := by rw [List.map_append, HY.out, HZ.out]
        rw [hlen7, hfst] at ha7
        have hwl : wholeR (xs.take t ++ xs.drop (t + 1)) = true := whole_less HD.out (by rw [← split_at HA1.out]; exact HR.out.symm)
        have KW := whole_any av' nn cv' _ w7 ha7 hcv7 (by have := HN2.out; have := HNN.out; omega) (HKK.out.sub fun a ha => by rcases List.mem_append.1 ha with ha | ha; exact List.mem_of_mem_take ha; exact List.mem_of_mem_drop ha)
        rw [hwl] at KW
        have B7 := Lib.hid (B6.out.grown hg7 B6.out.size (fun q hq => by have := O5.out.ge q hq; have := B4.out.size; omega))
        clear hN hg7 hcv7 hlt7 ha7 hlen7 hfst hwl
        go_wp2_with fail
        (with_reducible refine KW.mono ?_)
        rintro e w8 ⟨rfl, b8⟩
        have B8 := Lib.hid (B7.out.trans (b8.mono B7.out.size))
        clear KW b8
        go_wp2_with fail
        go_meet
        exact B8
      · have hd5 : ActsV w5 (some ⟨b, o + (t + 1) * 15, none⟩) (an - (t + 1)) (xs.drop (t + 1)) := (H.out.below B5.out).drop (by omega)
        have KC := copyActs_any (some ⟨b, o + (t + 1) * 15, none⟩) (an - (t + 1)) (ac - (t + 1)) (xs.drop (t + 1)) w5 hd5 (by omega) (by omega)
        have hdl : (xs.drop (t + 1)).length = an - (t + 1) := by have := H.out.len; simp; omega
        unfold GivesActs at KC
        rw [hdl] at KC
        obtain ⟨n2, hn2⟩ : ∃ n2, n2 = an - (t + 1) := ⟨_, rfl⟩
        obtain ⟨nn, hnn⟩ : ∃ nn, nn = t + n2 := ⟨_, rfl⟩
        have HN2 := Lib.hid hn2
        have HNN := Lib.hid hnn
        have hyl : ys.length = t := by have h1 := congrArg List.length HY.out; have h2 := H.out.len; simp at h1; omega
        have HYL := Lib.hid hyl
        have HDL := Lib.hid hdl
        clear hd5 hdl hnn hyl
        go_wp2_with fail
        (with_reducible refine KC.mono ?_)
        rw [← hn2]
        clear KC hn2
        rintro e w6 ⟨a6, c6, zs, rfl, hz, ho6, b6, hc6⟩
        have B6 := Lib.hid (B5.out.trans (b6.mono B5.out.size))
        have O6 := Lib.hid (O5.out.below b6)
        have Z6 := Lib.hid ho6
        have HZ := Lib.hid hz
        have HS6 := Lib.hid b6.size
        have HC6 := Lib.hid hc6
        have hzl : zs.length = n2 := by have h1 := congrArg List.length hz; simp at h1; have := HN2.out; have := H.out.len; omega
        have HZL := Lib.hid hzl
        clear hz ho6 b6 hc6 hzl
        go_wp2_with (first | (at_builtin; refine Hid.out ?_))
        refine Lib.hid ?_
        refine wpList_append_acts rfl (.tmp 41) (.tmp 46) rfl w6 w4.heap.size w5.heap.size a5 c5 ys a6 c6 zs t n2 nn HNN.out.symm rfl O6.out rfl Z6.out HYL.out HZL.out (by have := HS5.out; omega) HS6.out O5.out.lt (by have := HN2.out; omega) HC5.out ?_
        intro av' cv' w7 hN hg7 hcv7 hlt7
        have ha7 := hN.acts
        have hlen7 : (ys ++ zs).length = nn := by rw [List.length_append, HYL.out, HZL.out, HNN.out]
        have hfst : (ys ++ zs).map Prod.fst = xs.take t ++ xs.drop (t + 1) := by rw [List.map_append, HY.out, HZ.out]
        rw [hlen7, hfst] at ha7
        have hwl : wholeR (xs.take t ++ xs.drop (t + 1)) = true := whole_less HD.out (by rw [← split_at HA1.out]; exact HR.out.symm)
        have KW := whole_any av' nn cv' _ w7 ha7 hcv7 (by have := HN2.out; have := HNN.out; omega) (HKK.out.sub fun a ha => by rcases List.mem_append.1 ha with ha | ha; exact List.mem_of_mem_take ha; exact List.mem_of_mem_drop ha)
        rw [hwl] at KW
        have B7 := Lib.hid (B6.out.grown hg7 B6.out.size (fun q hq => by have := O5.out.ge q hq; have := B4.out.size; omega))
        clear hN hg7 hcv7 hlt7 ha7 hlen7 hfst hwl
        go_wp2_with fail
        (with_reducible refine KW.mono ?_)
        rintro e w8 ⟨rfl, b8⟩
        have B8 := Lib.hid (B7.out.trans (b8.mono B7.out.size))
        clear KW b8
        go_wp2_with fail
        go_meet
        exact B8
    · have e2 : (A.d == 2) = false := by simpa using hd
      clear hd
      go_wp2_with fail
      go_meet
      exact B4
  case rest =>
    have BC := hcut
    clear hcut B4 B3
    have KC := copyActs_any (some ⟨b, o, none⟩) an ac xs wc (H.out.below BC.out) hac (by omega)
    unfold GivesActs at KC
    rw [H.out.len] at KC
    go_wp2_with fail
    (with_reducible refine KC.mono ?_)
    rintro e w5 ⟨a5, c5, ys, rfl, hy, ho5, b5, hc5⟩
    have B5 := Lib.hid (BC.out.trans (b5.mono BC.out.size))
    have HC5 := Lib.hid hc5
    have HBC := Lib.hid BC.out.size
    have hyl : ys.length = an := by have h1 := congrArg List.length hy; have h2 := H.out.len; simp at h1; omega
    have HYL := Lib.hid hyl
    obtain ⟨g, rfl⟩ : ∃ g, a5 = some ⟨g, 0, none⟩ := by
      rcases ho5.own.2 with ⟨_, e⟩ | ⟨g, cap, cur, e, _⟩
      · omega
      · injection e with e1 e2 e3
        exact ⟨g, e1⟩
    obtain ⟨hd, hyt⟩ : ∃ hd, ys[t]? = some (A, hd) := by
      have h1 : (ys.map Prod.fst)[t]? = some A := by rw [hy]; exact HA1.out
      rw [List.getElem?_map] at h1
      obtain ⟨u, hu, hu2⟩ := Option.map_eq_some_iff.1 h1
      exact ⟨u.2, by rw [hu, ← hu2]⟩
    have I5 : Hid (MoreI w5 wc.heap.size g c5 ys t A hd A) := Lib.hid ⟨by
      have : ys.set t (A, hd) = ys := by
        obtain ⟨hl, he⟩ := List.getElem?_eq_some_iff.1 hyt
        rw [← he]; exact List.set_getElem_self hl
      rw [this]; exact ho5, Wider.refl HST.out⟩
    have HYT := Lib.hid hyt
    have HY := Lib.hid hy
    clear KC ho5 b5 hc5 hyl hyt hy BC
    obtain ⟨e0, e1, e2, e3, f2, f3⟩ := I5.out.cells HYL.out htn
    clear e0 e1 e3 f3
    by_cases h0 : 0 ≤ early
    · by_cases h1 : early < A.st
      · go_upto_region 13 with fail
        refine (?_ : ∀ W : World, Hid (MoreI W wc.heap.size g c5 ys t A hd { A with st := early }) → Hid (Below w.heap.size w W) → Code.wp Try.prog _ _ _ W) _ (Lib.hid (I5.out.setSt (by rw [HYL.out]; exact htn) h0 h1)) (Lib.hid (B5.out.setCell (p := ⟨g, _, none⟩) (Nat.le_trans HBC.out I5.out.ge) _))
        clear e2 f2 I5 B5 h1
        intro W7 I7 B7
        obtain ⟨e0, e1, e2, e3, f2, f3⟩ := I7.out.cells HYL.out htn
        clear e0 e1 e2 f2
        by_cases h2 : 0 ≤ A.en
        · by_cases h3 : A.en < late
          · go_upto_region 15 with fail
            refine (?_ : ∀ W : World, Hid (MoreI W wc.heap.size g c5 ys t A hd { { A with st := early } with en := late }) → Hid (Below w.heap.size w W) → Code.wp Try.prog _ _ _ W) _ (Lib.hid (I7.out.setEn (by rw [HYL.out]; exact htn) h2 h3)) (Lib.hid (B7.out.setCell (p := ⟨g, _, none⟩) (Nat.le_trans HBC.out I7.out.ge) _))
            clear e3 f3
            intro W6 I6 B6
            have KW := I6.out.whole HYL.out htn HA1.out HY.out HST.out HR.out.symm HKK.out HC5.out (by omega)
            go_wp2_with fail
            (with_reducible refine KW.mono ?_)
            rintro e w9 ⟨rfl, b9⟩
            have B9 := Lib.hid (B6.out.trans (b9.mono B6.out.size))
            clear KW b9
            go_wp2
            go_ret
            exact ⟨rfl, B9.out⟩
          · clear f3
            have KW := I7.out.whole HYL.out htn HA1.out HY.out HST.out HR.out.symm HKK.out HC5.out (by omega)
            go_wp2_with fail
            (with_reducible refine KW.mono ?_)
            rintro e w9 ⟨rfl, b9⟩
            have B9 := Lib.hid (B7.out.trans (b9.mono B7.out.size))
            clear KW b9
            go_wp2
            go_ret
            exact ⟨rfl, B9.out⟩
        · clear f3
          have KW := I7.out.whole HYL.out htn HA1.out HY.out HST.out HR.out.symm HKK.out HC5.out (by omega)
          go_wp2_with fail
          (with_reducible refine KW.mono ?_)
          rintro e w9 ⟨rfl, b9⟩
          have B9 := Lib.hid (B7.out.trans (b9.mono B7.out.size))
          clear KW b9
          go_wp2
          go_ret
          exact ⟨rfl, B9.out⟩
      · clear f2
        obtain ⟨e0, e1, e2, e3, f2, f3⟩ := I5.out.cells HYL.out htn
        clear e0 e1 e2 f2
        by_cases h2 : 0 ≤ A.en
        · by_cases h3 : A.en < late
          · go_upto_region 15 with fail
            refine (?_ : ∀ W : World, Hid (MoreI W wc.heap.size g c5 ys t A hd { A with en := late }) → Hid (Below w.heap.size w W) → Code.wp Try.prog _ _ _ W) _ (Lib.hid (I5.out.setEn (by rw [HYL.out]; exact htn) h2 h3)) (Lib.hid (B5.out.setCell (p := ⟨g, _, none⟩) (Nat.le_trans HBC.out I5.out.ge) _))
            clear e3 f3
            intro W6 I6 B6
            have KW := I6.out.whole HYL.out htn HA1.out HY.out HST.out HR.out.symm HKK.out HC5.out (by omega)
            go_wp2_with fail
            (with_reducible refine KW.mono ?_)
            rintro e w9 ⟨rfl, b9⟩
            have B9 := Lib.hid (B6.out.trans (b9.mono B6.out.size))
            clear KW b9
            go_wp2
            go_ret
            exact ⟨rfl, B9.out⟩
          · clear f3
            have KW := I5.out.whole HYL.out htn HA1.out HY.out HST.out HR.out.symm HKK.out HC5.out (by omega)
            go_wp2_with fail
            (with_reducible refine KW.mono ?_)
            rintro e w9 ⟨rfl, b9⟩
            have B9 := Lib.hid (B5.out.trans (b9.mono B5.out.size))
            clear KW b9
            go_wp2
            go_ret
            exact ⟨rfl, B9.out⟩
        · clear f3
          have KW := I5.out.whole HYL.out htn HA1.out HY.out HST.out HR.out.symm HKK.out HC5.out (by omega)
          go_wp2_with fail
          (with_reducible refine KW.mono ?_)
          rintro e w9 ⟨rfl, b9⟩
          have B9 := Lib.hid (B5.out.trans (b9.mono B5.out.size))
          clear KW b9
          go_wp2
          go_ret
          exact ⟨rfl, B9.out⟩
    · clear f2
      obtain ⟨e0, e1, e2, e3, f2, f3⟩ := I5.out.cells HYL.out htn
      clear e0 e1 e2 f2
      by_cases h2 : 0 ≤ A.en
      · by_cases h3 : A.en < late
        · go_upto_region 15 with fail
          refine (?_ : ∀ W : World, Hid (MoreI W wc.heap.size g c5 ys t A hd { A with en := late }) → Hid (Below w.heap.size w W) → Code.wp Try.prog _ _ _ W) _ (Lib.hid (I5.out.setEn (by rw [HYL.out]; exact htn) h2 h3)) (Lib.hid (B5.out.setCell (p := ⟨g, _, none⟩) (Nat.le_trans HBC.out I5.out.ge) _))
          clear e3 f3
          intro W6 I6 B6
          have KW := I6.out.whole HYL.out htn HA1.out HY.out HST.out HR.out.symm HKK.out HC5.out (by omega)
          go_wp2_with fail
          (with_reducible refine KW.mono ?_)
          rintro e w9 ⟨rfl, b9⟩
          have B9 := Lib.hid (B6.out.trans (b9.mono B6.out.size))
          clear KW b9
          go_wp2
          go_ret
          exact ⟨rfl, B9.out⟩
        · clear f3
          have KW := I5.out.whole HYL.out htn HA1.out HY.out HST.out HR.out.symm HKK.out HC5.out (by omega)
          go_wp2_with fail
          (with_reducible refine KW.mono ?_)
          rintro e w9 ⟨rfl, b9⟩
          have B9 := Lib.hid (B5.out.trans (b9.mono B5.out.size))
          clear KW b9
          go_wp2
          go_ret
          exact ⟨rfl, B9.out⟩
      · clear f3
        have KW := I5.out.whole HYL.out htn HA1.out HY.out HST.out HR.out.symm HKK.out HC5.out (by omega)
        go_wp2_with fail
        (with_reducible refine KW.mono ?_)
        rintro e w9 ⟨rfl, b9⟩
        have B9 := Lib.hid (B5.out.trans (b9.mono B5.out.size))
        clear KW b9
        go_wp2
        go_ret
        exact ⟨rfl, B9.out⟩
end Go.Proofs.Ytnefcbcioemfiaa
