/-
  rillref04: Enough.
-/
import Derived.Test.YtfjcbgfgiidogaaDoorMRrJ
namespace Go.Proofs.YtfjcbgfgiidogaaDoor
open Go.RowKit

theorem HdV.cell0 {w : World} {B g n c L : Nat} {ls : List (List Nat)} (h : HdV w B (some ⟨g, 0, none⟩) n c ls) (h0 : 0 < n) (hall : AllL L ls) : ∃ a c', w.cell? ⟨g, 0, none⟩ = some (.slice a L c') := by
  obtain ⟨hn, hs, h1, h2, h3⟩ := h
  obtain ⟨l, hl⟩ : ∃ l, ls[0]? = some l := ⟨_, List.getElem?_eq_getElem (by omega)⟩
  obtain ⟨⟨a, m, c'⟩, hx⟩ : ∃ x, hs[0]? = some x := ⟨_, List.getElem?_eq_getElem (by omega)⟩
  have k := (h3 0 _ l hx hl).1.length
  have k2 := (hall l (List.mem_of_getElem? hl)).2
  simp only at k
  have hc := h1.cellAt 0 (by omega)
  rw [List.getElem?_map, hx] at hc
  refine ⟨a, c', hc.trans ?_⟩
  show some (Value.slice a m c') = _
  rw [← k, k2]
theorem own_one {w w1 : World} {B a c : Nat} {o : Option Addr} {l : List Nat} (hw : w1.ownsRow a 5 1 (.slice o l.length c) l.length (l.map bv)) (hl : Bytes l) (hs : l.length ≤ 140737488355328) (x : Obj) (_ : w = w) : RowAt (w1.alloc x) B (o, l.length, c) l := own_at (b := a) (hw.alloc _) rfl hl hs

set_option maxRecDepth 100000 in
set_option maxHeartbeats 8000000 in
theorem refEnough_rd (k : Int) (ea : Option Addr) (en ec : Nat) (es : List Int) (w : World) (he : IntsV w (ea, en, ec) es) :
    Calls Tryd.prog 45 #[.int .i64 k, .slice ea en ec] w fun e w' => e = .returned (.bool (enoughB k es)) ∧ Below w.heap.size w w' := by
  obtain ⟨i0, hi0, hz0, hz1, hz2⟩ := info_parts Tryd.info22
  have hel : es.length = en := he.length
  have HEL := Lib.hid hel
  have HE := Lib.hid he
  unfold enoughB
  rw [hel]
  clear he hel
  by_cases h : okK k = true
  rotate_left 1
  · rw [show okK k = false by simpa using h, Bool.false_and]
    have KM := refFixed_bad k w (okK_bad h)
    clear h
    go_enter Tryd.func45, Tryd.ntmps45
    go_wp2_with fail
    (with_reducible refine KM.mono ?_)
    rintro e w1 ⟨rfl, hb⟩
    go_wp2
    go_ret
    exact ⟨rfl, hb⟩
  rw [h, Bool.true_and]
  obtain ⟨m, rfl, e, h1, hk⟩ := okK_nat h
  rw [e]
  have KM := refFixed_ok m w h1 hk
  clear e
  have HOK := Lib.hid h
  clear h
  by_cases h2 : en ≤ 128
  rotate_left 1
  · rw [decide_eq_false h2, Bool.false_and]
    go_enter Tryd.func45, Tryd.ntmps45
    go_wp2_with fail
    (with_reducible refine KM.mono ?_)
    rintro e w1 ⟨g, c, rfl, hM, hb⟩
    have HM := Lib.hid hM
    clear hM KM
    go_wp2
    go_ret
    exact ⟨rfl, hb⟩
  rw [decide_eq_true h2, Bool.true_and]
  obtain ⟨f1, f2, f3⟩ := cL_facts h1 hk
  have hFA := fixed_all m
  have HFA := Lib.hid hFA
  have HFL := Lib.hid (fixed_length (k := m) (code_facts h1 hk).2.2.2.1)
  obtain ⟨ANS, hA⟩ : ∃ b, b = (es.all okE && decide (rankOf (cL m) (fixedL m ++ symsL m es) = cL m)) := ⟨_, rfl⟩
  rw [← hA]
  have HA := Lib.hid hA
  clear hFA hA
  go_enter Tryd.func45, Tryd.ntmps45
  go_wp2_with fail
  (with_reducible refine KM.mono ?_)
  rintro e w1 ⟨g, c, rfl, hM, hb⟩
  have HM : Hid (HdV w1 w.heap.size (some ⟨g, 0, none⟩) (cL m - m + 0) c (fixedL m ++ symsL m (es.take 0))) := Lib.hid (by simpa [symsL] using hM)
  have HB := Lib.hid hb
  clear KM hM hb
  go_wp2_with fail
  go_loopw [5, 7] (fun vo vi wr => ∃ (i g c : Nat), i ≤ en ∧ vi = .int .i64 (i : Nat) ∧ vo = .slice (some ⟨g, 0, none⟩) (cL m - m + i) c ∧ Hid (HdV wr w.heap.size (some ⟨g, 0, none⟩) (cL m - m + i) c (fixedL m ++ symsL m (es.take i))) ∧ Hid (Below w.heap.size w wr) ∧ Hid (∀ (j : Nat) e, j < i → es[j]? = some e → okE e = true)) (fun _ vi _ => (en - intOf vi).toNat)
  case atStart => exact ⟨0, g, c, Nat.zero_le _, rfl, rfl, HM, HB, Lib.hid (fun j e h => absurd h (Nat.not_lt_zero _))⟩
  case round =>
    clear HM HB
    obtain ⟨i, g, c, hi, rfl, rfl, hM, hB, HZ⟩ := hrel
    by_cases hlt : i < en
    · obtain ⟨b, off, e1, hc1⟩ := (HE.out.row.below hB.out).2 (by show 0 < en; omega)
      simp only at e1
      subst e1
      have hc := hc1 i hlt
      obtain ⟨z, hz⟩ : ∃ z, es[i]? = some z := ⟨_, List.getElem?_eq_getElem (by rw [HEL.out]; exact hlt)⟩
      rw [List.getElem?_map, hz] at hc
      have hc' : wr.cell? ⟨b, off + i, none⟩ = some (.int .i64 z) := hc
      have HZI := Lib.hid hz
      have KR := refRow_rd (m : Int) z wr
      unfold rowR at KR
      rw [if_pos HOK.out, Int.toNat_natCast] at KR
      have hsz := hB.out.size
      clear hc hc1 hz
      by_cases hz2 : okE z = true
      · rw [if_pos hz2] at KR
        have HZ2 := Lib.hid hz2
        have HT := Lib.hid (syms_take (k := m) HZI.out)
        obtain ⟨r, hr⟩ : ∃ r, r = symR m z.toNat := ⟨_, rfl⟩
        have hrb : Bytes r ∧ r.length = cL m := by rw [hr]; exact ⟨symR_bytes _ _, symR_length _ _⟩
        rw [← hr] at KR HT
        have HRB := Lib.hid hrb
        clear hz2 hr hrb
        go_wp2_with fail
        (with_reducible refine KR.mono ?_)
        rintro e w7 ⟨a8, c8, rfl, o8, b7⟩
        simp only at o8 ⊢
        have hM7 := (hM.out.below b7).below (below_alloc w7 (.cells #[.slice a8 r.length c8] 22))
        have hb7 := hB.out.trans (b7.mono hsz)
        have hb8 := hb7.alloc hb7.size (.cells #[.slice a8 r.length c8] 22)
        have hat : RowAt (w7.alloc (.cells #[.slice a8 r.length c8] 22)) w.heap.size (a8, r.length, c8) r := own_at (b := wr.heap.size) (o8.alloc _) rfl HRB.out.1 (by rw [HRB.out.2]; omega)
        obtain ⟨hl7, hs7, ho7, hq7, hr7⟩ := hM7
        have hbs := hb8.size
        have HB8 := Lib.hid hb8
        have HQ7 := Lib.hid hq7
        have HR7 := Lib.hid hr7
        have HAT := Lib.hid hat
        clear KR o8 b7 hb7 hM hB hat hq7 hr7 hl7 hb8
        go_wp2_with (first | (at_builtin; refine Hid.out ?_))
        refine Lib.hid ?_
        refine wpList_append_lies _ rfl _ _ 35 rfl w.heap.size 22 i0 (.slice none 0 0) 1 24 Tryd.underlying35 hi0 hz0 hz1 hz2 rfl (by decide) _ _ _ rfl ho7 ⟨w7.heap.size, 0, none⟩ 1 1 [SV (a8, r.length, c8)] rfl rfl (World.news_of_block (heap_alloc_new w7 _)) (by intro u hu; simp at hu; subst hu; rfl) (by decide) (by unfold maxLen; omega) (by omega) hbs _ rfl ?_
        intro g9 c9 w9 hE9 g9' _ _
        have hb9 := below_grown HB8.out g9' (fun k e => ownBlock_ge ho7 k e)
        obtain ⟨a9, c9', e9, hM9⟩ := hd_append (ks := [(a8, r.length, c8)]) (xs := [r]) ho7 HQ7.out HR7.out rfl rfl (one_at HAT.out) hE9 g9'
        cases e9
        rw [List.append_assoc, ← HT.out] at hM9
        have HM9 := Lib.hid hM9
        have HB9 := Lib.hid hb9
        clear hE9 g9' ho7 hM9 hb9 hc'
        go_wp2
        go_roundw
        case rel => exact ⟨i + 1, g9, c9, by omega, by go_num, rfl, HM9, HB9, Lib.hid (fun j e hj he => (by
          by_cases e1 : j = i
          · rw [e1, HZI.out] at he
            exact (congrArg okE (Option.some.inj he)).symm.trans HZ2.out
          · exact HZ.out j e (by omega) he))⟩
        case measure => simp [intOf] <;> omega
      · rw [if_neg hz2] at KR
        have hall : es.all okE = false := by
          cases h : es.all okE with
          | false => rfl
          | true => exact absurd (List.all_eq_true.1 h z (List.mem_of_getElem? HZI.out)) hz2
        have HHA := Lib.hid hall
        clear hz2 hall
        go_wp2_with fail
        (with_reducible refine KR.mono ?_)
        rintro e w7 ⟨a8, c8, rfl, -, b7⟩
        have hb7 := hB.out.trans (b7.mono hsz)
        clear KR b7
        go_wp2
        go_ret
        rw [HA.out, HHA.out]
        exact ⟨rfl, hb7⟩
    · obtain rfl : i = en := by omega
      have hall : es.all okE = true := List.all_eq_true.2 fun e he => by
        obtain ⟨j, hj⟩ := List.getElem?_of_mem he
        exact HZ.out j e (by have := (List.getElem?_eq_some_iff.1 hj).1; rw [HEL.out] at this; exact this) hj
      have hM' := hM.out
      rw [List.take_of_length_le (by rw [HEL.out]; exact Nat.le_refl _)] at hM'
      obtain ⟨R, hR⟩ : ∃ R, R = fixedL m ++ symsL m es := ⟨_, rfl⟩
      have hRA : AllL (cL m) R := by rw [hR]; exact all_app HFA.out (syms_rws _ _)
      have hrb : rightB ((cL m : Nat) : Int) R = true := by
        refine right_all hRA f1 (by omega) ?_
        rw [hR, List.length_append, HFL.out, symsL, List.length_map, HEL.out]; omega
      have HA2 := HA.out
      rw [← hR, hall, Bool.true_and] at HA2
      rw [← hR] at hM'
      obtain ⟨ax, cx, p0⟩ := hM'.cell0 (by omega) hRA
      have KR := fun W (hb : Below wr.heap.size wr W) => refRank_rd ((cL m : Nat) : Int) (some ⟨g, 0, none⟩) (cL m - m + i) c R W (hM'.below hb).rd (by omega)
      rw [show rankR ((cL m : Nat) : Int) R = (rankOf (cL m) R, 0) by unfold rankR; rw [if_pos hrb, Int.toNat_natCast]] at KR
      have KR0 := KR wr (Below.refl _ _)
      have HHA := Lib.hid hall
      have hpos : 0 < cL m - m + i := by omega
      obtain ⟨rk, hrk⟩ : ∃ r, r = rankOf (cL m) R := ⟨_, rfl⟩
      simp only [← hrk] at KR0
      rw [← hrk] at HA2
      obtain ⟨L, hL⟩ : ∃ L, L = cL m := ⟨_, rfl⟩
      rw [← hL] at KR0 p0 hpos HA2 ⊢
      have HA3 := Lib.hid HA2
      clear hall hM' hrb hRA hR KR hM hrk hL HA2
      have hsz := hB.out.size
      go_wp2_with fail
      (with_reducible refine KR0.mono ?_)
      rintro e w7 ⟨rfl, b7⟩
      have p1 := cell_below p0 b7
      have hb7 := hB.out.trans (b7.mono hsz)
      clear KR0 b7 hB
      by_cases heq : rk = L
      · have HA4 := Lib.hid (HA3.out.trans (decide_eq_true heq))
        subst heq
        go_wp2
        go_ret
        rw [HA4.out]
        exact ⟨rfl, hb7⟩
      · have HA4 := Lib.hid (HA3.out.trans (decide_eq_false heq))
        have hne : ((rk : Int) == (L : Int)) = false := beq_eq_false_iff_ne.2 (by omega)
        go_wp2
        go_ret
        rw [HA4.out]
        exact ⟨rfl, hb7⟩
end Go.Proofs.YtfjcbgfgiidogaaDoor
