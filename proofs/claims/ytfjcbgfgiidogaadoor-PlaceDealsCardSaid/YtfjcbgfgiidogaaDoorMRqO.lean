/-
  rq: Decode.
-/
import Derived.Test.YtfjcbgfgiidogaaDoorMRq5
namespace Go.Proofs.YtfjcbgfgiidogaaDoor
open Go.RowKit

theorem Added.block {w w' : World} {B p k n c g' b : Nat} {a : Option Addr} {ls : List (List Nat)} {cs : Array Value} {T : TypeId} (h : Added w w' p a n c g') (hM : MatV w B p k a n c ls) (hb : w.heap[b]? = some (.cells cs T (0, 0))) (h1 : T ≠ 108) (h2 : T ≠ 22) : w'.heap[b]? = some (.cells cs T (0, 0)) := by
  obtain ⟨w1, g1, g2, -, -⟩ := h
  obtain ⟨_, hs, ho, -⟩ := hM.2.1
  have hlt := (Array.getElem?_eq_some_iff.1 hb).1
  have n1 : some b ≠ (Value.slice a n c).ownBlock := fun e => by
    rcases ho.2 with ⟨e2, _⟩ | ⟨g, cap, cur, e2, _, hh, _⟩
    · rw [e2] at e; cases e
    · rw [e2] at e
      simp [Value.ownBlock] at e
      subst e
      rw [hh] at hb
      injection hb with hb
      injection hb with _ ht
      exact h2 ht.symm
  have n2 : some b ≠ some p := fun e => by
    injection e with e
    subst e
    have := hM.1
    rw [this] at hb
    injection hb with hb
    injection hb with _ ht
    exact h1 ht.symm
  exact (g2.block b (Nat.lt_of_lt_of_le hlt g1.size) n2).trans ((g1.block b hlt n1).trans hb)
theorem MatV.keepH {w w' : World} {B p k n c m : Nat} {a : Option Addr} {ls : List (List Nat)} {v : Value} {xs : List Value} (h : MatV w B p k a n c ls) (hv : w.ownsRow B 22 1 v m xs) (hg : w.grownBy w' v.ownBlock) (hne : (Value.slice a n c).ownBlock = none ∨ (Value.slice a n c).ownBlock ≠ v.ownBlock) : MatV w' B p k a n c ls :=
  ⟨(hg.block p (Array.getElem?_eq_some_iff.1 h.1).1 (fun e => own_ne_mat hv h.1 e.symm)).trans h.1, h.2.1.keep hg (own_row hv) hne, h.2.2⟩
theorem places_set {k x : Nat} (h : x < k) : (placesL k x ++ List.replicate (k - x) []).set x (placeR k x) = placesL k (x + 1) ++ List.replicate (k - (x + 1)) [] := by
  rw [placesL_succ, List.set_append_right _ _ (by rw [placesL_length]; exact Nat.le_refl _), placesL_length, Nat.sub_self, show k - x = (k - (x + 1)) + 1 by omega, List.replicate_succ, List.append_assoc]
  rfl
theorem okT_nat {t : Int} (h : okT t = true) : ∃ m : Nat, t = (m : Int) ∧ t.toNat = m ∧ 1 ≤ m ∧ m ≤ 64 := by
  unfold okT at h
  simp only [Bool.and_eq_true, decide_eq_true_iff] at h
  exact ⟨t.toNat, by omega, rfl, by omega, by omega⟩
theorem okT_bad {t : Int} (h : ¬ okT t = true) : t < 1 ∨ 64 < t := by
  unfold okT at h
  simp only [Bool.and_eq_true, decide_eq_true_iff] at h
  omega
theorem fst_take {ps : List Pc} {i : Nat} {e : Int} {l : List Nat} (k : Nat) (h : ps[i]? = some (e, l)) : symsL k ((ps.take (i + 1)).map Prod.fst) = symsL k ((ps.take i).map Prod.fst) ++ [symR k e.toNat] := by
  rw [take_step ps i _ h, List.map_append]; unfold symsL; rw [List.map_append]; rfl
theorem snd_take {ps : List Pc} {i : Nat} {e : Int} {l : List Nat} (h : ps[i]? = some (e, l)) : (ps.take (i + 1)).map Prod.snd = (ps.take i).map Prod.snd ++ [l] := by
  rw [take_step ps i _ h, List.map_append]; rfl

set_option maxRecDepth 100000 in
set_option maxHeartbeats 16000000 in
theorem decode_ro (k t : Int) (pa : Option Addr) (pn pc : Nat) (ps : List Pc) (w : World) (hp : PiV w pa pn ps) (hpn : pn ≤ 1000) (hg : Bnd w) :
    Calls Tryd.prog 41 #[.int .i64 k, .int .i64 t, .slice pa pn pc] w (GivesRO w (decodeR k t ps)) := by
  obtain ⟨i0, hi0, hz0, hz1, hz2⟩ := info_parts Tryd.info22
  have HPL := Lib.hid hp.len
  have HP := Lib.hid hp
  have HG := Lib.hid hg
  unfold decodeR
  rw [hp.len]
  clear hp hg
  by_cases hk0 : okK k = true
  rotate_left 1
  · rw [if_neg hk0]
    have KM := newMatrix_bad k w (okK_bad hk0)
    clear hk0
    go_enter Tryd.func41, Tryd.ntmps41
    go_wp2_with fail
    (with_reducible refine KM.mono ?_)
    rintro e w1 ⟨rfl, hb⟩
    go_wp2
    go_ret2
    exact givesRO_nil hb
  rw [if_pos hk0]
  obtain ⟨m, rfl, e1, h1, hk⟩ := okK_nat hk0
  rw [e1]
  have KM := newMatrix_ok m w h1 hk HG.out
  clear hk0 e1
  by_cases ht0 : okT t = true
  rotate_left 1
  · rw [if_neg ht0]
    rcases okT_bad ht0 with h | h
    all_goals
      clear ht0
      go_enter Tryd.func41, Tryd.ntmps41
      go_wp2_with fail
      (with_reducible refine KM.mono ?_)
      rintro e w1 ⟨p, a, c, rfl, hM, hb⟩
      have HM := Lib.hid hM
      clear hM KM
      go_wp2
      go_ret2
      exact givesRO_nil hb
  rw [if_pos ht0]
  obtain ⟨T, rfl, e1, ht1, ht2⟩ := okT_nat ht0
  rw [e1]
  clear ht0 e1
  by_cases hn : pn ≤ 128
  rotate_left 1
  · rw [if_neg hn]
    go_enter Tryd.func41, Tryd.ntmps41
    go_wp2_with fail
    (with_reducible refine KM.mono ?_)
    rintro e w1 ⟨p, a, c, rfl, hM, hb⟩
    have HM := Lib.hid hM
    clear hM KM
    go_wp2
    go_ret2
    exact givesRO_nil hb
  rw [if_pos hn]
  have KB := fun W (hb : Below w.heap.size w W) => containsBad_any pa pn pc ps W (HP.out.below hb) hpn
  by_cases hbad : badB ps = true
  · rw [if_pos hbad]
    rw [hbad] at KB
    clear hbad
    go_enter Tryd.func41, Tryd.ntmps41
    go_wp2_with fail
    (with_reducible refine KM.mono ?_)
    rintro e w1 ⟨p, a, c, rfl, hM, hb⟩
    have HM := Lib.hid hM
    have KB1 := KB w1 hb
    have hsz := hb.size
    clear hM KM KB
    go_wp2_with fail
    (with_reducible refine KB1.mono ?_)
    rintro e w2 ⟨rfl, b2⟩
    go_wp2
    go_ret2
    exact givesRO_nil (hb.trans (b2.mono hsz))
  rw [if_neg hbad]
  have hbf : badB ps = false := by simpa using hbad
  rw [hbf] at KB
  have HBAD := Lib.hid (badB_false.1 hbf)
  obtain ⟨OUT, hO⟩ : ∃ O, O = (if evenP ((T : Nat) : Int) ps = true then decodeT m T ps else ([], 41)) := ⟨_, rfl⟩
  rw [← hO]
  have HOUT := Lib.hid hO
  obtain ⟨f1, f2, f3⟩ := cL_facts h1 hk
  have HFL := Lib.hid (fixed_length (k := m) (code_facts h1 hk).2.2.2.1)
  clear hO hbad hbf
  go_enter Tryd.func41, Tryd.ntmps41
  go_wp2_with fail
  (with_reducible refine KM.mono ?_)
  rintro e w1 ⟨p, a, c, rfl, hM, hb⟩
  have HM := Lib.hid hM
  have HB1 := Lib.hid hb
  have KB1 := KB w1 hb
  clear hM hb KM KB
  go_wp2_with fail
  (with_reducible refine KB1.mono ?_)
  rintro e w2 ⟨rfl, b2⟩
  have HM2 : Hid (MatV w2 w.heap.size p m a (cL m - m + 0) c (fixedL m ++ symsL m ((ps.take 0).map Prod.fst))) := Lib.hid (by simpa [symsL] using HM.out.below b2)
  have HB2 := Lib.hid (HB1.out.trans (b2.mono HB1.out.size))
  have HV2 : Hid (HdV w2 w.heap.size none 0 0 ((ps.take 0).map Prod.snd)) := Lib.hid (HdV.nil _ _)
  clear HM HB1 KB1 b2
  go_wp2_with fail
  go_loopw [10, 38] (fun vv vi wr => ∃ (i : Nat) (a : Option Addr) (c : Nat) (av : Option Addr) (cv : Nat), i ≤ pn ∧ vi = .int .i64 (i : Nat) ∧ vv = .slice av i cv ∧ Hid (i = 0 → av = none ∧ cv = 0) ∧ Hid (MatV wr w.heap.size p m a (cL m - m + i) c (fixedL m ++ symsL m ((ps.take i).map Prod.fst))) ∧ Hid (HdV wr w.heap.size av i cv ((ps.take i).map Prod.snd)) ∧ Hid ((Value.slice av i cv).ownBlock = none ∨ (Value.slice av i cv).ownBlock ≠ (Value.slice a (cL m - m + i) c).ownBlock) ∧ Hid (Below w.heap.size w wr) ∧ Hid (∀ (j : Nat) q, j < i → ps[j]? = some q → q.2.length = T)) (fun _ vi _ => (pn - intOf vi).toNat)
  case atStart => exact ⟨0, a, c, none, 0, Nat.zero_le _, rfl, rfl, Lib.hid (fun _ => ⟨rfl, rfl⟩), HM2, HV2, Lib.hid (.inl rfl), HB2, Lib.hid (fun j e h => absurd h (Nat.not_lt_zero _))⟩
  case round =>
    clear HM2 HV2 HB2
    obtain ⟨i, a, c, av, cv, hi, rfl, rfl, hZ, hM, hV, hNE, hB, HE⟩ := hrel
    by_cases hlt : i < pn
    · obtain ⟨b, off, e, a2, n2, c2, l, rfl, hc0, hc1, hpi, hby⟩ := HP.out.at hlt
      have q0 := cell_below hc0 hB.out
      have q1 := cell_below hc1 hB.out
      have HPI := Lib.hid hpi
      have hat0 : RowAt w w.heap.size (a2, n2, c2) l := ⟨hby, .inr fun ad ea h0 => hby.row.lt h0 ea⟩
      have HLL := Lib.hid (show l.length = n2 from hby.length)
      have HAT0 := Lib.hid hat0
      have hsz := hB.out.size
      clear hc0 hc1 hpi hby hat0
      by_cases hl : n2 = T
      rotate_left 1
      · have hl' : ((n2 : Int) != (T : Int)) = true := by rw [bne_iff_ne]; omega
        have hev : evenP ((T : Nat) : Int) ps = false := by
          cases h : evenP ((T : Nat) : Int) ps with
          | false => rfl
          | true =>
            have := evenP_iff.1 h _ (List.mem_of_getElem? HPI.out)
            simp only at this
            rw [HLL.out] at this
            omega
        have HEV := Lib.hid hev
        have hbx := Lib.hid (hB.out.alloc hsz (.cells #[.int .i64 e, .slice a2 n2 c2] PT))
        clear hl hev
        go_wp2
        go_ret2
        rw [HOUT.out, HEV.out, if_neg (by simp)]
        exact givesRO_nil hbx.out
      have hl' : ((n2 : Int) != (T : Int)) = false := by simp [hl]
      have HLT := Lib.hid (HLL.out.trans hl)
      obtain ⟨x, ex, ex2, hx⟩ := okE_nat (HBAD.out _ (List.mem_of_getElem? HPI.out))
      simp only at ex ex2
      subst ex
      have HF := Lib.hid (fst_take m HPI.out)
      have HS := Lib.hid (snd_take HPI.out)
      rw [ex2] at HF
      have hb3 := hB.out.alloc hsz (.cells #[.int .i64 (x : Int), .slice a2 n2 c2] PT)
      have hM3 := hM.out.below (below_alloc wr (.cells #[.int .i64 (x : Int), .slice a2 n2 c2] PT))
      have hV3 := hV.out.below (below_alloc wr (.cells #[.int .i64 (x : Int), .slice a2 n2 c2] PT))
      have hP3 : (wr.alloc (.cells #[.int .i64 (x : Int), .slice a2 n2 c2] PT)).heap[wr.heap.size]? = some (.cells #[.int .i64 (x : Int), .slice a2 n2 c2] PT (0, 0)) := heap_alloc_new _ _
      have KS := symbol_own p m x _ h1 hk hx hM3.c (HG.out.below hb3)
      have hs3 := hb3.size
      clear hl ex2 hM hV hB
      go_wp2_with fail
      (with_reducible refine KS.mono ?_)
      rintro e w7 ⟨a8, c8, rfl, o8, b7⟩
      have hb7 := hb3.trans (b7.mono hs3)
      have b78 := b7.trans (below_alloc w7 (.cells #[.slice a8 (symR m x).length c8] 22) |>.mono b7.size)
      have hb8 := hb7.alloc hb7.size (.cells #[.slice a8 (symR m x).length c8] 22)
      have hM8 := hM3.below b78
      have hV8 := hV3.below b78
      have hP8 := (b78.block wr.heap.size (Array.getElem?_eq_some_iff.1 hP3).1).trans hP3
      have hat : RowAt (w7.alloc (.cells #[.slice a8 (symR m x).length c8] 22)) w.heap.size (a8, (symR m x).length, c8) (symR m x) := own_at (b := (wr.alloc (.cells #[.int .i64 (x : Int), .slice a2 n2 c2] PT)).heap.size) (o8.alloc _) rfl (symR_bytes _ _) (by rw [symR_length]; omega)
      have hrow : RowV (w7.alloc (.cells #[.slice a8 (symR m x).length c8] 22)) (some ⟨w7.heap.size, 0, none⟩) 1 ([(a8, (symR m x).length, c8)].map SV) := rowV_lit w7 _ _ _ 1 _ rfl rfl rfl
      have KA := add_mat w.heap.size p m _ _ c _ ⟨w7.heap.size, 0, none⟩ 1 1 [(a8, (symR m x).length, c8)] [symR m x] _ hM8 rfl hrow (one_at hat) (by omega) (by omega) hb8.size
      clear KS o8 b7 hb7 hb3 hM3 hV3 hP3 hat hrow b78 hs3
      go_wp2_with fail
      (with_reducible refine KA.mono ?_)
      rintro e w9 ⟨g9, c9, rfl, hM9, hA⟩
      have hb9 := hA.below hM8 (Nat.le_refl _) hb8
      have hV9 := hA.other hM8 hV8 hNE.out
      have hP9 := hA.block hM8 hP8 (by decide) (by decide)
      have hNE9 : (Value.slice av i cv).ownBlock = none ∨ (Value.slice av i cv).ownBlock ≠ some g9 := by
        obtain ⟨_, _, _, _, hlie⟩ := hA
        rcases hNE.out with h | h
        · exact .inl h
        · rcases hlie with e | e
          · rw [e] at h; exact .inr h
          · right
            intro e2
            obtain ⟨_, hs', ho', -⟩ := hV8
            have := (ho'.lt g9 e2).2
            omega
      rw [List.append_assoc, ← HF.out] at hM9
      have d1 := cell_of_row _ _ 1 _ _ _ hP9
      simp at d1
      have hM10 := hM9.below (below_alloc w9 (.cells #[.slice a2 n2 c2] 22))
      have hV10 := hV9.below (below_alloc w9 (.cells #[.slice a2 n2 c2] 22))
      have hb10 := hb9.alloc hb9.size (.cells #[.slice a2 n2 c2] 22)
      have hat10 := HAT0.out.below hb10
      obtain ⟨hvl, hs, ho, hsl, hrs⟩ := hV10
      have hg9 := hM9.2.1.lt.2
      have HS1 := Lib.hid hsl
      have HS2 := Lib.hid hrs
      have HM10 := Lib.hid hM10
      have HAT := Lib.hid hat10
      have hbs := hb10.size
      clear KA hA hM8 hV8 hP8 hb8 hM9 hV9 hP9 hM10 hat10 hsl hrs hvl
      go_wp2_with (first | (at_builtin; refine Hid.out ?_))
      refine Lib.hid ?_
      refine wpList_append_lies _ rfl _ _ 35 rfl w.heap.size 22 i0 (.slice none 0 0) 1 24 Tryd.underlying35 hi0 hz0 hz1 hz2 rfl (by decide) _ _ _ rfl ho ⟨w9.heap.size, 0, none⟩ 1 1 [SV (a2, n2, c2)] rfl rfl (World.news_of_block (heap_alloc_new w9 _)) (by intro u hu; simp at hu; subst hu; rfl) (by decide) (by unfold maxLen; omega) (by omega) hbs _ rfl ?_
      intro g14 c14 w14 hE14 g14' lie14 _
      have g14' : (w9.alloc (.cells #[.slice a2 n2 c2] 22)).grownBy w14 (Value.slice av i cv).ownBlock := g14'
      have lie14 : (Value.slice av i cv).ownBlock = some g14 ∨ g14 = (w9.alloc (.cells #[.slice a2 n2 c2] 22)).heap.size := lie14
      have hb14 := below_grown hb10 g14' (ownBlock_ge ho)
      obtain ⟨aN, cN, eN, hV14⟩ := hd_append (ks := [(a2, n2, c2)]) (xs := [l]) (m := 1) ho HS1.out HS2.out rfl rfl (one_at HAT.out) hE14 g14'
      cases eN
      rw [← HS.out] at hV14
      have hM14 := HM10.out.keepH ho g14' (by
        rcases hNE9 with h | h
        · right; rw [h]; simp [Value.ownBlock]
        · exact .inr (fun e => h (by rw [← e]; rfl)))
      have hNE14 : (Value.slice (some (⟨g14, 0, none⟩ : Addr)) (i + 1) c14).ownBlock = none ∨ (Value.slice (some (⟨g14, 0, none⟩ : Addr)) (i + 1) c14).ownBlock ≠ (Value.slice (some (⟨g9, 0, none⟩ : Addr)) (cL m - m + (i + 1)) c9).ownBlock := by
        right
        intro e2
        have e3 : g14 = g9 := by simpa [Value.ownBlock] using e2
        rcases lie14 with e | e
        · rcases hNE9 with h | h
          · rw [h] at e; cases e
          · exact h (by rw [e, e3])
        · have : (w9.alloc (.cells #[.slice a2 n2 c2] 22)).heap.size = w9.heap.size + 1 := by simp
          omega
      have HM14 := Lib.hid hM14
      have HV14 := Lib.hid hV14
      have HN14 := Lib.hid hNE14
      have HB14 := Lib.hid hb14
      clear ho hE14 g14' lie14 hb10 hb9 hNE9 hM14 hV14 hNE14 hb14 HM10 d1 hg9
      go_wp2
      go_roundw
      case rel => exact ⟨i + 1, _, c9, _, c14, by omega, by go_num, rfl, Lib.hid (fun h => absurd h (by omega)), HM14, HV14, HN14, HB14, Lib.hid (fun j q hj hq => (by
        by_cases e1 : j = i
        · rw [e1, HPI.out] at hq
          rw [← Option.some.inj hq]; exact HLT.out
        · exact HE.out j q (by omega) hq))⟩
      case measure => simp [intOf] <;> omega
    · obtain rfl : i = pn := by omega
      have hev : evenP ((T : Nat) : Int) ps = true := evenP_iff.2 fun q hq => by
        obtain ⟨j, hj⟩ := List.getElem?_of_mem hq
        rw [HE.out j q (by have := (List.getElem?_eq_some_iff.1 hj).1; rw [HPL.out] at this; exact this) hj]
      have HEV := Lib.hid hev
      have hM' := hM.out
      have hV' := hV.out
      rw [List.take_of_length_le (by rw [HPL.out]; exact Nat.le_refl _)] at hM' hV'
      have hlen : ∀ l ∈ ps.map Prod.snd, l.length ≤ 100000 := fun l hl => by
        obtain ⟨q, hq, rfl⟩ := List.mem_map.1 hl
        have := evenP_iff.1 hev q hq
        omega
      have hnil : (av = none ∧ i = 0 ∧ cv = 0) ∨ 0 < i := by
        by_cases h0 : i = 0
        · obtain ⟨h2, h3⟩ := hZ.out h0
          exact .inl ⟨h2, h0, h3⟩
        · right; omega
      have KS := solve_mat w.heap.size p m T a (cL m - m) c _ av i cv (ps.map Prod.snd) wr hM' hV'.rd hnil ht2 (by omega) hlen
      have HSO := Lib.hid (show decodeS m T ps = solveR ((cL m : Nat) : Int) (fixedL m ++ symsL m (ps.map Prod.fst)) (List.replicate (cL m - m) (zs T) ++ ps.map Prod.snd) from rfl)
      rw [← HSO.out] at KS
      have hlX := solve_len ((cL m : Nat) : Int) (fixedL m ++ symsL m (ps.map Prod.fst)) (List.replicate (cL m - m) (zs T) ++ ps.map Prod.snd)
      rw [← HSO.out] at hlX
      have HDT := Lib.hid (show decodeT m T ps = if (decodeS m T ps).2 = 0 then applyR ((cL m : Nat) : Int) (placesL m m) (decodeS m T ps).1 else ([], (decodeS m T ps).2) from rfl)
      obtain ⟨S, hS⟩ : ∃ S, S = decodeS m T ps := ⟨_, rfl⟩
      rw [← hS] at KS hlX HDT
      have HM := Lib.hid hM'
      have hBs := hB.out.size
      clear hM' hV' hM hV hev hlen hnil hS HSO
      obtain ⟨X, code⟩ := S
      simp only at hlX HDT
      go_wp2_with fail
      (with_reducible refine KS.mono ?_)
      rintro e w5 ⟨a5, c5, rfl, h5, b5⟩
      simp only at h5 ⊢
      have hb5 := hB.out.trans (b5.mono hBs)
      have hM5 := HM.out.below b5
      clear KS
      by_cases hc : code = 0
      rotate_left 1
      · have hcb : (code != 0) = true := by rw [bne_iff_ne]; exact hc
        have HC := Lib.hid hc
        have HB5 := Lib.hid hb5
        clear hc hM5 h5 b5 hb5
        go_wp2
        go_ret2
        rw [HOUT.out, HEV.out, if_pos rfl, HDT.out, if_neg HC.out]
        exact givesRO_nil HB5.out
      subst hc
      have q0 := hM5.c.cells.1
      have hmc := hM5.c
      have HX := Lib.hid h5
      have HMC := Lib.hid hmc
      have HB5 := Lib.hid hb5
      have hs5 := hb5.size
      clear h5 hmc hb5 hM5 b5
      go_wp2_with (first | (at_make; refine Hid.out ?_))
      refine Lib.hid ?_
      refine wpList_make_full _ rfl _ _ 35 rfl w5.heap.size 22 i0 (.slice none 0 0) 1 Tryd.underlying35 hi0 hz0 hz1 _ _ _ _ m rfl rfl rfl rfl (by rw [hz2]; omega) (by unfold maxLen; omega) (Nat.le_refl _) ?_
      intro w6 hown6 hgrow6
      rw [show (Value.slice none 0 0).cells = #[.slice none 0 0] from rfl, Nat.mul_one, toList_madeCells_one] at hown6
      have hD := OwnD.made hown6
      have hD6 : OwnD w6 w5.heap.size w5.heap.size m m (List.replicate m (none, 0, 0)) (placesL m 0 ++ List.replicate (m - 0) []) := by simpa [placesL] using hD
      have hb6 : Below w5.heap.size w5 w6 := below_grown (Below.refl _ _) hgrow6 (fun k e => by cases e)
      have HD6 := Lib.hid hD6
      have HB6 := Lib.hid hb6
      clear hown6 hgrow6 hD hD6 hb6 q0
      go_wp2_with fail
      go_loopw [78] (fun vx wr => ∃ (x : Nat) (hs : List HdT), x ≤ m ∧ vx = .int .i64 (x : Nat) ∧ Hid (OwnD wr w5.heap.size w5.heap.size m m hs (placesL m x ++ List.replicate (m - x) [])) ∧ Hid (Below w5.heap.size w5 wr)) (fun vx _ => (m - intOf vx).toNat)
      case atStart => exact ⟨0, _, Nat.zero_le _, rfl, HD6, HB6⟩
      case round =>
        clear HD6 HB6
        obtain ⟨x, hs, hx, rfl, hD, hBB⟩ := hrel
        by_cases hlt2 : x < m
        · have hbw := HB5.out.trans (hBB.out.mono hs5)
          have KR := row_own p m x _ h1 hk (by omega) (HMC.out.below hBB.out) (HG.out.below hbw)
          have hsr := hBB.out.size
          go_wp2_with fail
          (with_reducible refine KR.mono ?_)
          rintro e w8 ⟨a8, c8, rfl, o8, b8⟩
          have hD8 := hD.out.below b8
          have hb8 := hBB.out.trans (b8.mono hsr)
          have o8' := ownsRow_base (base' := w5.heap.size) o8 hsr
          obtain ⟨c3, hc3, hf3⟩ : ∃ v, w8.cell? ⟨w5.heap.size, x, none⟩ = some v ∧ w8.frozen? ⟨w5.heap.size, x, none⟩ = false := by
            have h := hD8.1.cellAt x (by omega)
            rw [List.getElem?_eq_getElem (by rw [hD8.1.1]; omega)] at h
            exact ⟨_, h, hD8.1.frozenAt x⟩
          have hD9 := hD8.fresh (i := x) (x := (a8, (placeR m x).length, c8)) (l := placeR m x) o8' rfl ⟨placeR_bytes _ _, by rw [placeR_length]; omega⟩ (fun j y hy => by
            by_cases hn0 : y.1 = none
            · exact .inl hn0
            · right
              intro e
              have hjl : j < (placesL m x ++ List.replicate (m - x) []).length := by rw [← hD.out.2.1.1]; exact (List.getElem?_eq_some_iff.1 hy).1
              have hoy := (hD.out.2.1.2 j y _ hy (List.getElem?_eq_getElem hjl)).2
              obtain ⟨_, _, e3, hcase, -⟩ := ownsRow_parts o8
              cases e3
              rcases hcase with ⟨e4, -, -⟩ | ⟨q, e4, hq1, hq2⟩
              · rw [e4] at e; exact hn0 e
              · have hlt3 := (hoy.lt q (by unfold SV; rw [e, e4]; rfl)).2
                omega)
          rw [places_set hlt2] at hD9
          have hb9 : Below w5.heap.size w5 (w8.setCell ⟨w5.heap.size, x, none⟩ (.slice a8 (placeR m x).length c8)) := hb8.setCell (p := ⟨w5.heap.size, x, none⟩) (Nat.le_refl _) _
          have hD9' : OwnD (w8.setCell ⟨w5.heap.size, x, none⟩ (.slice a8 (placeR m x).length c8)) w5.heap.size w5.heap.size m m (hs.set x (a8, (placeR m x).length, c8)) (placesL m (x + 1) ++ List.replicate (m - (x + 1)) []) := hD9
          have HD9 := Lib.hid hD9'
          have HB9 := Lib.hid hb9
          clear KR hD hBB hbw o8 o8' hD8 hb8 hD9 hb9 hD9' b8
          go_wp2
          go_roundw
          case rel => exact ⟨x + 1, _, by omega, by go_num, HD9, HB9⟩
          case measure => simp [intOf] <;> omega
        · obtain rfl : x = m := by omega
          have hD' := hD.out
          rw [Nat.sub_self, List.replicate_zero, List.append_nil] at hD'
          have q4 := (HMC.out.below hBB.out).cells.2.2.2.2.1
          have KAP := apply_ro ((cL x : Nat) : Int) (some ⟨w5.heap.size, 0, none⟩) x x (placesL x x) a5 X.length c5 X wr hD'.own.rd (HX.out.below hBB.out) (by omega) hlX
          have hbw := HB5.out.trans (hBB.out.mono hs5)
          have hbs := hbw.size
          clear hD' hD
          go_wp2_with fail
          (with_reducible refine KAP.mono ?_)
          rintro e w11 ⟨a11, c11, rfl, h11, k11, b11⟩
          have HBW := Lib.hid hbw
          have H11 := Lib.hid h11
          have K11 := Lib.hid k11
          clear KAP hbw h11 k11
          go_wp2
          go_ret2
          rw [HOUT.out, HEV.out, if_pos rfl, HDT.out, if_pos trivial]
          exact ⟨a11, c11, rfl, H11.out, fun h => (K11.out h).rebase hbs, HBW.out.trans (b11.mono hbs)⟩
theorem decode_rd (k t : Int) (pa : Option Addr) (pn pc : Nat) (ps : List Pc) (w : World) (hp : PiV w pa pn ps) (hpn : pn ≤ 1000) (hg : Bnd w) :
    Calls Tryd.prog 41 #[.int .i64 k, .int .i64 t, .slice pa pn pc] w (GivesR w (decodeR k t ps)) :=
  (decode_ro k t pa pn pc ps w hp hpn hg).mono fun _ _ h => h.R
end Go.Proofs.YtfjcbgfgiidogaaDoor
