/-
  Rr2: RrJ RrK RrM RrN RrO
-/
import Derived.Test.YtfjcbgfgiidogaaDoorMLj3
import Derived.Test.YtfjcbgfgiidogaaDoorMRq5
import Derived.Test.YtfjcbgfgiidogaaDoorMRq7
import Derived.Test.YtfjcbgfgiidogaaDoorMRrH
namespace Go.Proofs.YtfjcbgfgiidogaaDoor
open Go.RowKit

set_option maxRecDepth 100000 in
set_option maxHeartbeats 4000000 in
theorem refFixed_bad (k : Int) (w : World) (h : k < 1 ∨ 32 < k) :
    Calls Tryd.prog 73 #[.int .i64 k] w fun e w' => e = .returned (.tuple #[.slice none 0 0, .int .i64 30]) ∧ Below w.heap.size w w' := by
  have KP := refParams_bad k w h
  unfold codeZ at KP
  clear h
  go_enter Tryd.func73, Tryd.ntmps73
  go_wp2_with fail
  (with_reducible refine KP.mono ?_)
  rintro e w1 ⟨rfl, hb1⟩
  go_wp2
  go_ret2
  exact ⟨rfl, hb1.alloc hb1.size _⟩

set_option maxRecDepth 100000 in
set_option maxHeartbeats 4000000 in
theorem refFixed_rd (k : Int) (w : World) : Calls Tryd.prog 73 #[.int .i64 k] w (GivesR w (fixedR k)) := by
  unfold fixedR
  by_cases h : okK k = true
  · rw [if_pos h]
    obtain ⟨m, rfl, e, h1, hk⟩ := okK_nat h
    rw [e]
    have hl := fixed_length (k := m) (code_facts h1 hk).2.2.2.1
    refine (refFixed_ok m w h1 hk).mono ?_
    rintro e w' ⟨g, c, rfl, hH, hb⟩
    exact ⟨_, c, by rw [hl], by show RD w' _ (fixedL m).length (fixedL m); rw [hl]; exact hH.rd, hb⟩
  · rw [if_neg h]
    refine (refFixed_bad k w (okK_bad h)).mono ?_
    rintro e w' ⟨rfl, hb⟩
    exact givesR_nil hb

theorem code_cells {w : World} {gc k Kp S L W P P1 Bn J : Nat} (hg : w.heap[gc]? = some (.cells #[.int .i64 (k : Nat), .int .i64 (Kp : Nat), .int .i64 (S : Nat), .int .i64 4, .int .i64 (L : Nat), .int .i64 (W : Nat), .int .i64 (P : Nat), .int .i64 (P1 : Nat), .int .i64 (Bn : Nat), .int .i64 (J : Nat)] 106 (0, 0))) :
    w.cell? ⟨gc, 0, none⟩ = some (.int .i64 (k : Nat)) ∧ w.cell? ⟨gc, 1, none⟩ = some (.int .i64 (Kp : Nat)) ∧ w.cell? ⟨gc, 2, none⟩ = some (.int .i64 (S : Nat)) ∧ w.cell? ⟨gc, 3, none⟩ = some (.int .i64 4) ∧ w.cell? ⟨gc, 4, none⟩ = some (.int .i64 (L : Nat)) ∧ w.cell? ⟨gc, 5, none⟩ = some (.int .i64 (W : Nat)) ∧ w.cell? ⟨gc, 6, none⟩ = some (.int .i64 (P : Nat)) ∧ w.cell? ⟨gc, 7, none⟩ = some (.int .i64 (P1 : Nat)) ∧ w.cell? ⟨gc, 8, none⟩ = some (.int .i64 (Bn : Nat)) ∧ w.cell? ⟨gc, 9, none⟩ = some (.int .i64 (J : Nat)) := by
  refine ⟨?_, ?_, ?_, ?_, ?_, ?_, ?_, ?_, ?_, ?_⟩ <;> (rw [cell_of_row _ _ _ _ _ _ hg]; rfl)

set_option maxRecDepth 100000 in
set_option maxHeartbeats 4000000 in
theorem refRow_rd (k esi : Int) (w : World) : Calls Tryd.prog 58 #[.int .i64 k, .int .i64 esi] w (GivesB w (rowR k esi)) := by
  unfold rowR
  by_cases h : okK k = true
  rotate_left 1
  · rw [if_neg h]
    have KP := refParams_bad k w (okK_bad h)
    unfold codeZ at KP
    clear h
    go_enter Tryd.func58, Tryd.ntmps58
    go_wp2_with fail
    (with_reducible refine KP.mono ?_)
    rintro e w1 ⟨rfl, hb1⟩
    go_wp2
    go_ret2
    exact givesB_nil (hb1.alloc hb1.size _)
  rw [if_pos h]
  obtain ⟨m, rfl, e, h1, hk⟩ := okK_nat h
  rw [e]
  have KP := refParams_any m w h1 hk
  unfold codeV at KP
  clear h e
  by_cases hlo : 0 ≤ esi
  rotate_left 1
  · rw [if_neg (fun h => hlo (okE_iff.1 h).1)]
    go_enter Tryd.func58, Tryd.ntmps58
    go_wp2_with fail
    (with_reducible refine KP.mono ?_)
    rintro e w1 ⟨rfl, hb1⟩
    go_wp2
    go_ret2
    exact givesB_nil (hb1.alloc hb1.size _)
  by_cases hhi : esi < 16777216
  rotate_left 1
  · rw [if_neg (fun h => hhi (okE_iff.1 h).2)]
    go_enter Tryd.func58, Tryd.ntmps58
    go_wp2_with fail
    (with_reducible refine KP.mono ?_)
    rintro e w1 ⟨rfl, hb1⟩
    go_wp2
    go_ret2
    exact givesB_nil (hb1.alloc hb1.size _)
  rw [if_pos (okE_iff.2 ⟨hlo, hhi⟩)]
  obtain ⟨x, hxe⟩ : ∃ x : Nat, esi = (x : Int) := ⟨esi.toNat, by omega⟩
  rw [show esi.toNat = x by omega]
  have hx : x < 16777216 := by omega
  have hpl := sym_place (esi := x) h1 hk hx
  have f4 := (code_facts h1 hk).2.2.2.1
  have f2 := (code_facts h1 hk).2.1
  have HXE := Lib.hid hxe
  have HPL := Lib.hid hpl
  obtain ⟨R, hR⟩ : ∃ R, R = symR m x := ⟨_, rfl⟩
  rw [← hR]
  have HR := Lib.hid hR
  clear hxe hx hpl hR
  go_enter Tryd.func58, Tryd.ntmps58
  go_wp2_with fail
  (with_reducible refine KP.mono ?_)
  rintro e w1 ⟨rfl, hb1⟩
  have hb2 := hb1.alloc hb1.size (.cells #[.int .i64 (m : Nat), .int .i64 (cKp m : Nat), .int .i64 (cS m : Nat), .int .i64 4, .int .i64 (cL m : Nat), .int .i64 (cW m : Nat), .int .i64 (cP m : Nat), .int .i64 (cP1 m : Nat), .int .i64 (cB m : Nat), .int .i64 (cJ m : Nat)] 106)
  have HB2 := Lib.hid hb2
  have hC := heap_alloc_new w1 (.cells #[.int .i64 (m : Nat), .int .i64 (cKp m : Nat), .int .i64 (cS m : Nat), .int .i64 4, .int .i64 (cL m : Nat), .int .i64 (cW m : Nat), .int .i64 (cP m : Nat), .int .i64 (cP1 m : Nat), .int .i64 (cB m : Nat), .int .i64 (cJ m : Nat)] 106)
  clear hb1 hb2 KP
  go_upto_region 6 with fail
  obtain ⟨gc, hgc⟩ : ∃ g, g = w1.heap.size := ⟨_, rfl⟩
  rw [← hgc] at hC ⊢
  generalize w1.alloc (.cells #[.int .i64 (m : Nat), .int .i64 (cKp m : Nat), .int .i64 (cS m : Nat), .int .i64 4, .int .i64 (cL m : Nat), .int .i64 (cW m : Nat), .int .i64 (cP m : Nat), .int .i64 (cP1 m : Nat), .int .i64 (cB m : Nat), .int .i64 (cJ m : Nat)] 106) = w2 at hC HB2 ⊢
  obtain ⟨d0, d1, d2, d3, d4, d5, d6, d7, d8, d9⟩ := code_cells hC
  have hxe := HXE.out
  subst hxe
  clear hC hgc hlo hhi HXE
  by_cases hlt : x < m
  · have hpl := HPL.out
    have hR := HR.out
    unfold symR at hR
    rw [if_pos hlt] at hpl hR
    subst hR
    have KL := fun W => refPlace_own m x W h1 hk hpl
    unfold codeV at KL
    clear hpl f2 f4
    go_wp2_with fail
    (with_reducible refine (KL _).mono ?_)
    rintro e w3 ⟨a2, c2, rfl, o2, b2⟩
    have hb3 := HB2.out.trans (b2.mono HB2.out.size)
    have o3 := ownsRow_base o2 HB2.out.size
    clear KL b2 o2
    go_wp2
    go_ret2
    exact ⟨a2, c2, rfl, o3, hb3⟩
  · have hpl := HPL.out
    have hR := HR.out
    unfold symR at hR
    rw [if_neg hlt] at hpl hR
    subst hR
    have KL := fun W => refPlace_own m (x + cKp m - m) W h1 hk hpl
    unfold codeV at KL
    have HE := Lib.hid (show (x : Int) + (((cKp m : Nat) : Int) - (m : Int)) = ((x + cKp m - m : Nat) : Int) by omega)
    have hx2 : (x : Int) ≤ 100000000 := by omega
    clear hpl
    go_wp2_with fail
    rw [HE.out]
    (with_reducible refine (KL _).mono ?_)
    rintro e w3 ⟨a2, c2, rfl, o2, b2⟩
    have hb3 := HB2.out.trans (b2.mono HB2.out.size)
    have o3 := ownsRow_base o2 HB2.out.size
    clear KL b2 o2
    go_wp2
    go_ret2
    exact ⟨a2, c2, rfl, o3, hb3⟩
end Go.Proofs.YtfjcbgfgiidogaaDoor
namespace Go.Proofs.YtfjcbgfgiidogaaDoor
open Go.RowKit

theorem HdV.cell0 {w : World} {B g n c L : Nat} {ls : List (List Nat)} (h : HdV w B (some ⟨g, 0, none⟩) n c ls) (h0 : 0 < n) (hall : AllL L ls) : ∃ a c', w.cell? ⟨g, 0, none⟩ = some (.slice a L c') := by
  obtain ⟨hn, hs, h1, h2, h3⟩ := h
  obtain ⟨l, hl⟩ : ∃ l, ls[0]? = some l := ⟨_, List.getElem?_eq_getElem (by omega)⟩
  obtain ⟨⟨a, m, c'⟩, hx⟩ : ∃ x, hs[0]? = some x := ⟨_, List.getElem?_eq_getElem (by omega)⟩
  have k := (h3 0 _ l hx hl).1.length
  have k2 := (hall l (List.mem_of_getElem? hl)).2
  simp only at k
  have hc := h1.cellAt 0 (by omega)
  rw [List.getElem?_map, hx] at hc
  refine ⟨a, c', hc.trans ?_⟩
  show some (Value.slice a m c') = _
  rw [← k, k2]
theorem own_one {w w1 : World} {B a c : Nat} {o : Option Addr} {l : List Nat} (hw : w1.ownsRow a 5 1 (.slice o l.length c) l.length (l.map bv)) (hl : Bytes l) (hs : l.length ≤ 140737488355328) (x : Obj) (_ : w = w) : RowAt (w1.alloc x) B (o, l.length, c) l := own_at (b := a) (hw.alloc _) rfl hl hs

set_option maxRecDepth 100000 in
set_option maxHeartbeats 8000000 in
theorem refEnough_rd (k : Int) (ea : Option Addr) (en ec : Nat) (es : List Int) (w : World) (he : IntsV w (ea, en, ec) es) :
    Calls Tryd.prog 45 #[.int .i64 k, .slice ea en ec] w fun e w' => e = .returned (.bool (enoughB k es)) ∧ Below w.heap.size w w' := by
  obtain ⟨i0, hi0, hz0, hz1, hz2⟩ := info_parts Tryd.info22
  have hel : es.length = en := he.length
  have HEL := Lib.hid hel
  have HE := Lib.hid he
  unfold enoughB
  rw [hel]
  clear he hel
  by_cases h : okK k = true
  rotate_left 1
  · rw [show okK k = false by simpa using h, Bool.false_and]
    have KM := refFixed_bad k w (okK_bad h)
    clear h
    go_enter Tryd.func45, Tryd.ntmps45
    go_wp2_with fail
    (with_reducible refine KM.mono ?_)
    rintro e w1 ⟨rfl, hb⟩
    go_wp2
    go_ret
    exact ⟨rfl, hb⟩
  rw [h, Bool.true_and]
  obtain ⟨m, rfl, e, h1, hk⟩ := okK_nat h
  rw [e]
  have KM := refFixed_ok m w h1 hk
  clear e
  have HOK := Lib.hid h
  clear h
  by_cases h2 : en ≤ 128
  rotate_left 1
  · rw [decide_eq_false h2, Bool.false_and]
    go_enter Tryd.func45, Tryd.ntmps45
    go_wp2_with fail
    (with_reducible refine KM.mono ?_)
    rintro e w1 ⟨g, c, rfl, hM, hb⟩
    have HM := Lib.hid hM
    clear hM KM
    go_wp2
    go_ret
    exact ⟨rfl, hb⟩
  rw [decide_eq_true h2, Bool.true_and]
  obtain ⟨f1, f2, f3⟩ := cL_facts h1 hk
  have hFA := fixed_all m
  have HFA := Lib.hid hFA
  have HFL := Lib.hid (fixed_length (k := m) (code_facts h1 hk).2.2.2.1)
  obtain ⟨ANS, hA⟩ : ∃ b, b = (es.all okE && decide (rankOf (cL m) (fixedL m ++ symsL m es) = cL m)) := ⟨_, rfl⟩
  rw [← hA]
  have HA := Lib.hid hA
  clear hFA hA
  go_enter Tryd.func45, Tryd.ntmps45
  go_wp2_with fail
  (with_reducible refine KM.mono ?_)
  rintro e w1 ⟨g, c, rfl, hM, hb⟩
  have HM : Hid (HdV w1 w.heap.size (some ⟨g, 0, none⟩) (cL m - m + 0) c (fixedL m ++ symsL m (es.take 0))) := Lib.hid (by simpa [symsL] using hM)
  have HB := Lib.hid hb
  clear KM hM hb
  go_wp2_with fail
  go_loopw [5, 7] (fun vo vi wr => ∃ (i g c : Nat), i ≤ en ∧ vi = .int .i64 (i : Nat) ∧ vo = .slice (some ⟨g, 0, none⟩) (cL m - m + i) c ∧ Hid (HdV wr w.heap.size (some ⟨g, 0, none⟩) (cL m - m + i) c (fixedL m ++ symsL m (es.take i))) ∧ Hid (Below w.heap.size w wr) ∧ Hid (∀ (j : Nat) e, j < i → es[j]? = some e → okE e = true)) (fun _ vi _ => (en - intOf vi).toNat)
  case atStart => exact ⟨0, g, c, Nat.zero_le _, rfl, rfl, HM, HB, Lib.hid (fun j e h => absurd h (Nat.not_lt_zero _))⟩
  case round =>
    clear HM HB
    obtain ⟨i, g, c, hi, rfl, rfl, hM, hB, HZ⟩ := hrel
    by_cases hlt : i < en
    · obtain ⟨b, off, e1, hc1⟩ := (HE.out.row.below hB.out).2 (by show 0 < en; omega)
      simp only at e1
      subst e1
      have hc := hc1 i hlt
      obtain ⟨z, hz⟩ : ∃ z, es[i]? = some z := ⟨_, List.getElem?_eq_getElem (by rw [HEL.out]; exact hlt)⟩
      rw [List.getElem?_map, hz] at hc
      have hc' : wr.cell? ⟨b, off + i, none⟩ = some (.int .i64 z) := hc
      have HZI := Lib.hid hz
      have KR := refRow_rd (m : Int) z wr
      unfold rowR at KR
      rw [if_pos HOK.out, Int.toNat_natCast] at KR
      have hsz := hB.out.size
      clear hc hc1 hz
      by_cases hz2 : okE z = true
      · rw [if_pos hz2] at KR
        have HZ2 := Lib.hid hz2
        have HT := Lib.hid (syms_take (k := m) HZI.out)
        obtain ⟨r, hr⟩ : ∃ r, r = symR m z.toNat := ⟨_, rfl⟩
        have hrb : Bytes r ∧ r.length = cL m := by rw [hr]; exact ⟨symR_bytes _ _, symR_length _ _⟩
        rw [← hr] at KR HT
        have HRB := Lib.hid hrb
        clear hz2 hr hrb
        go_wp2_with fail
        (with_reducible refine KR.mono ?_)
        rintro e w7 ⟨a8, c8, rfl, o8, b7⟩
        simp only at o8 ⊢
        have hM7 := (hM.out.below b7).below (below_alloc w7 (.cells #[.slice a8 r.length c8] 22))
        have hb7 := hB.out.trans (b7.mono hsz)
        have hb8 := hb7.alloc hb7.size (.cells #[.slice a8 r.length c8] 22)
        have hat : RowAt (w7.alloc (.cells #[.slice a8 r.length c8] 22)) w.heap.size (a8, r.length, c8) r := own_at (b := wr.heap.size) (o8.alloc _) rfl HRB.out.1 (by rw [HRB.out.2]; omega)
        obtain ⟨hl7, hs7, ho7, hq7, hr7⟩ := hM7
        have hbs := hb8.size
        have HB8 := Lib.hid hb8
        have HQ7 := Lib.hid hq7
        have HR7 := Lib.hid hr7
        have HAT := Lib.hid hat
        clear KR o8 b7 hb7 hM hB hat hq7 hr7 hl7 hb8
        go_wp2_with (first | (at_builtin; refine Hid.out ?_))
        refine Lib.hid ?_
        refine wpList_append_lies _ rfl _ _ 35 rfl w.heap.size 22 i0 (.slice none 0 0) 1 24 Tryd.underlying35 hi0 hz0 hz1 hz2 rfl (by decide) _ _ _ rfl ho7 ⟨w7.heap.size, 0, none⟩ 1 1 [SV (a8, r.length, c8)] rfl rfl (World.news_of_block (heap_alloc_new w7 _)) (by intro u hu; simp at hu; subst hu; rfl) (by decide) (by unfold maxLen; omega) (by omega) hbs _ rfl ?_
        intro g9 c9 w9 hE9 g9' _ _
        have hb9 := below_grown HB8.out g9' (fun k e => ownBlock_ge ho7 k e)
        obtain ⟨a9, c9', e9, hM9⟩ := hd_append (ks := [(a8, r.length, c8)]) (xs := [r]) ho7 HQ7.out HR7.out rfl rfl (one_at HAT.out) hE9 g9'
        cases e9
        rw [List.append_assoc, ← HT.out] at hM9
        have HM9 := Lib.hid hM9
        have HB9 := Lib.hid hb9
        clear hE9 g9' ho7 hM9 hb9 hc'
        go_wp2
        go_roundw
        case rel => exact ⟨i + 1, g9, c9, by omega, by go_num, rfl, HM9, HB9, Lib.hid (fun j e hj he => (by
          by_cases e1 : j = i
          · rw [e1, HZI.out] at he
            exact (congrArg okE (Option.some.inj he)).symm.trans HZ2.out
          · exact HZ.out j e (by omega) he))⟩
        case measure => simp [intOf] <;> omega
      · rw [if_neg hz2] at KR
        have hall : es.all okE = false := by
          cases h : es.all okE with
          | false => rfl
          | true => exact absurd (List.all_eq_true.1 h z (List.mem_of_getElem? HZI.out)) hz2
        have HHA := Lib.hid hall
        clear hz2 hall
        go_wp2_with fail
        (with_reducible refine KR.mono ?_)
        rintro e w7 ⟨a8, c8, rfl, -, b7⟩
        have hb7 := hB.out.trans (b7.mono hsz)
        clear KR b7
        go_wp2
        go_ret
        rw [HA.out, HHA.out]
        exact ⟨rfl, hb7⟩
    · obtain rfl : i = en := by omega
      have hall : es.all okE = true := List.all_eq_true.2 fun e he => by
        obtain ⟨j, hj⟩ := List.getElem?_of_mem he
        exact HZ.out j e (by have := (List.getElem?_eq_some_iff.1 hj).1; rw [HEL.out] at this; exact this) hj
      have hM' := hM.out
      rw [List.take_of_length_le (by rw [HEL.out]; exact Nat.le_refl _)] at hM'
      obtain ⟨R, hR⟩ : ∃ R, R = fixedL m ++ symsL m es := ⟨_, rfl⟩
      have hRA : AllL (cL m) R := by rw [hR]; exact all_app HFA.out (syms_rws _ _)
      have hrb : rightB ((cL m : Nat) : Int) R = true := by
        refine right_all hRA f1 (by omega) ?_
        rw [hR, List.length_append, HFL.out, symsL, List.length_map, HEL.out]; omega
      have HA2 := HA.out
      rw [← hR, hall, Bool.true_and] at HA2
      rw [← hR] at hM'
      obtain ⟨ax, cx, p0⟩ := hM'.cell0 (by omega) hRA
      have KR := fun W (hb : Below wr.heap.size wr W) => refRank_rd ((cL m : Nat) : Int) (some ⟨g, 0, none⟩) (cL m - m + i) c R W (hM'.below hb).rd (by omega)
      rw [show rankR ((cL m : Nat) : Int) R = (rankOf (cL m) R, 0) by unfold rankR; rw [if_pos hrb, Int.toNat_natCast]] at KR
      have KR0 := KR wr (Below.refl _ _)
      have HHA := Lib.hid hall
      have hpos : 0 < cL m - m + i := by omega
      obtain ⟨rk, hrk⟩ : ∃ r, r = rankOf (cL m) R := ⟨_, rfl⟩
      simp only [← hrk] at KR0
      rw [← hrk] at HA2
      obtain ⟨L, hL⟩ : ∃ L, L = cL m := ⟨_, rfl⟩
      rw [← hL] at KR0 p0 hpos HA2 ⊢
      have HA3 := Lib.hid HA2
      clear hall hM' hrb hRA hR KR hM hrk hL HA2
      have hsz := hB.out.size
      go_wp2_with fail
      (with_reducible refine KR0.mono ?_)
      rintro e w7 ⟨rfl, b7⟩
      have p1 := cell_below p0 b7
      have hb7 := hB.out.trans (b7.mono hsz)
      clear KR0 b7 hB
      by_cases heq : rk = L
      · have HA4 := Lib.hid (HA3.out.trans (decide_eq_true heq))
        subst heq
        go_wp2
        go_ret
        rw [HA4.out]
        exact ⟨rfl, hb7⟩
      · have HA4 := Lib.hid (HA3.out.trans (decide_eq_false heq))
        have hne : ((rk : Int) == (L : Int)) = false := beq_eq_false_iff_ne.2 (by omega)
        go_wp2
        go_ret
        rw [HA4.out]
        exact ⟨rfl, hb7⟩
end Go.Proofs.YtfjcbgfgiidogaaDoor
namespace Go.Proofs.YtfjcbgfgiidogaaDoor
open Go.RowKit

theorem HdV.first {w : World} {B n c : Nat} {a : Option Addr} {ls : List (List Nat)} (h : HdV w B a n c ls) (h0 : 0 < n) : ∃ g, a = some ⟨g, 0, none⟩ := by
  obtain ⟨_, hs, h1, -⟩ := h
  exact own_some h1 h0
theorem HdV.made {w : World} {B : Nat} (hB : B ≤ w.heap.size) : HdV (w.alloc (.cells #[] 22)) B (some ⟨w.heap.size, 0, none⟩) 0 0 [] :=
  ⟨rfl, [], World.ownsRow_made (base := B) (e := 22) (size := 1) w #[] 0 hB (by simp [maxLen]) rfl, rfl, fun i x l h => by simp at h⟩
theorem HdV.rebase {w : World} {B B' n c : Nat} {a : Option Addr} {ls : List (List Nat)} (h : HdV w B a n c ls) (hB : B' ≤ B) (hr : ∀ (x : HdT) l, RowAt w B x l → RowAt w B' x l) : HdV w B' a n c ls := by
  obtain ⟨h0, hs, h1, h2, h3⟩ := h
  exact ⟨h0, hs, ownsRow_base h1 hB, h2, fun i x l a b => hr x l (h3 i x l a b)⟩
set_option maxRecDepth 100000 in
set_option maxHeartbeats 8000000 in
theorem refRows_own (m : Nat) (w : World) (h1 : 1 ≤ m) (hk : m ≤ 32) :
    Calls Tryd.prog 71 #[.int .i64 (m : Int)] w fun e w' => ∃ g c, e = .returned (.slice (some ⟨g, 0, none⟩) m c) ∧ RD w' (some ⟨g, 0, none⟩) m (placesL m m) ∧ Below w.heap.size w w' := by
  obtain ⟨i0, hi0, hz0, hz1, hz2⟩ := info_parts Tryd.info22
  have HPB : Hid (∀ x, Bytes (placeR m x) ∧ (placeR m x).length ≤ 47) := Lib.hid (fun x => ⟨placeR_bytes m x, by rw [placeR_length]; exact (cL_facts h1 hk).2.1⟩)
  have HST := Lib.hid (fun x => placesL_succ m x)
  have KR : Hid (∀ x W, x < m → Calls Tryd.prog 58 #[.int .i64 (m : Int), .int .i64 (x : Int)] W (GivesB W (placeR m x, 0))) := Lib.hid (fun x W hx => by
    have := refRow_rd (m : Int) (x : Int) W
    unfold rowR at this
    rw [if_pos (okK_iff.2 ⟨by omega, by omega⟩), if_pos (okE_iff.2 ⟨by omega, by omega⟩), Int.toNat_natCast, Int.toNat_natCast] at this
    unfold symR at this
    rw [if_pos hx] at this
    exact this)
  have HM0 := Lib.hid (HdV.made (B := w.heap.size) (w := w) (Nat.le_refl _))
  have HB0 := Lib.hid (below_alloc w (.cells #[] 22))
  go_enter Tryd.func71, Tryd.ntmps71
  go_upto_block 0 with fail
  generalize w.alloc (.cells #[] 22) = w1 at HM0 HB0 ⊢
  go_wp2_with fail
  go_loopw [3, 4] (fun vo vi wr => ∃ (i g c : Nat), i ≤ m ∧ vi = .int .i64 (i : Nat) ∧ vo = .slice (some ⟨g, 0, none⟩) i c ∧ Hid (HdV wr w.heap.size (some ⟨g, 0, none⟩) i c (placesL m i)) ∧ Hid (Below w.heap.size w wr)) (fun _ vi _ => (m - intOf vi).toNat)
  case atStart => exact ⟨0, _, 0, Nat.zero_le _, rfl, rfl, HM0, HB0⟩
  case round =>
    clear HM0 HB0
    obtain ⟨i, g, c, hi, rfl, rfl, hM, hB⟩ := hrel
    by_cases hlt : i < m
    · have K := KR.out i wr hlt
      have hsz := hB.out.size
      obtain ⟨r, hr⟩ : ∃ r, r = placeR m i := ⟨_, rfl⟩
      have hrb := HPB.out i
      have hst := HST.out i
      rw [← hr] at K hrb hst
      have HRB := Lib.hid hrb
      have HS := Lib.hid hst
      clear hr hrb hst
      go_wp2_with fail
      (with_reducible refine K.mono ?_)
      rintro e w7 ⟨a8, c8, rfl, o8, b7⟩
      simp only at o8 ⊢
      have hM7 := (hM.out.below b7).below (below_alloc w7 (.cells #[.slice a8 r.length c8] 22))
      have hb7 := hB.out.trans (b7.mono hsz)
      have hb8 := hb7.alloc hb7.size (.cells #[.slice a8 r.length c8] 22)
      have hat : RowAt (w7.alloc (.cells #[.slice a8 r.length c8] 22)) w.heap.size (a8, r.length, c8) r := own_at (b := wr.heap.size) (o8.alloc _) rfl HRB.out.1 (by have := HRB.out.2; omega)
      obtain ⟨hl7, hs7, ho7, hq7, hr7⟩ := hM7
      have hbs := hb8.size
      have HB8 := Lib.hid hb8
      have HQ7 := Lib.hid hq7
      have HR7 := Lib.hid hr7
      have HAT := Lib.hid hat
      clear K o8 b7 hb7 hM hB hat hq7 hr7 hl7 hb8
      go_wp2_with (first | (at_builtin; refine Hid.out ?_))
      refine Lib.hid ?_
      refine wpList_append_lies _ rfl _ _ 35 rfl w.heap.size 22 i0 (.slice none 0 0) 1 24 Tryd.underlying35 hi0 hz0 hz1 hz2 rfl (by decide) _ _ _ rfl ho7 ⟨w7.heap.size, 0, none⟩ 1 1 [SV (a8, r.length, c8)] rfl rfl (World.news_of_block (heap_alloc_new w7 _)) (by intro u hu; simp at hu; subst hu; rfl) (by decide) (by unfold maxLen; omega) (by omega) hbs _ rfl ?_
      intro g9 c9 w9 hE9 g9' _ _
      have hb9 := below_grown HB8.out g9' (fun k e => ownBlock_ge ho7 k e)
      obtain ⟨a9, c9', e9, hM9⟩ := hd_append (ks := [(a8, r.length, c8)]) (xs := [r]) ho7 HQ7.out HR7.out rfl rfl (one_at HAT.out) hE9 g9'
      cases e9
      rw [← HS.out] at hM9
      have HM9 := Lib.hid hM9
      have HB9 := Lib.hid hb9
      clear hE9 g9' ho7 hM9 hb9
      go_wp2
      go_roundw
      case rel => exact ⟨i + 1, g9, c9, by omega, by go_num, rfl, HM9, HB9⟩
      case measure => simp [intOf] <;> omega
    · obtain rfl : i = m := by omega
      clear hi
      go_wp2
      go_ret
      exact ⟨g, c, rfl, hM.out.rd, hB.out⟩

theorem width_rep {n t : Nat} {V : List (List Nat)} (h : 0 < n) : widthB (List.replicate n (zs t) ++ V) = t := by
  unfold widthB
  rw [List.getD_eq_getElem?_getD, List.getElem?_append_left (by simpa using h), List.getElem?_replicate, if_pos h]
  exact zs_length t
set_option maxRecDepth 100000 in
set_option maxHeartbeats 16000000 in
theorem refSolve4_rd (m t : Nat) (ar : Addr) (nr cr : Nat) (R : List (List Nat)) (ax : Addr) (nx cx : Nat) (V : List (List Nat)) (w : World) (h1 : 1 ≤ m) (hk : m ≤ 32) (ht : t ≤ 64) (h : RD w (some ar) nr R) (k : RD w (some ax) nx V) (hn : nr ≤ 500) (hx : nx = nr) (hR : AllL (cL m) R) :
    Calls Tryd.prog 69 #[.int .i64 (m : Int), .int .i64 (t : Int), .slice (some ar) nr cr, .slice (some ax) nx cx] w (GivesR w (solveR ((cL m : Nat) : Int) (fixedL m ++ R) (List.replicate (cL m - m) (zs t) ++ V))) := by
  obtain ⟨i0, hi0, hz0, hz1, hz2⟩ := info_parts Tryd.info22
  obtain ⟨j0, hj0, hy0, hy1, hy2⟩ := info_parts Tryd.info5
  have KM := refFixed_ok m w h1 hk
  obtain ⟨f1, f2, f3⟩ := cL_facts h1 hk
  have HFA : Hid (AllL (cL m) (fixedL m ++ R)) := Lib.hid (all_app (fixed_all m) hR)
  obtain ⟨L, hL⟩ : ∃ L, L = cL m := ⟨_, rfl⟩
  rw [← hL] at KM f1 f2 f3 HFA ⊢
  obtain ⟨F, hF⟩ : ∃ F, F = fixedL m := ⟨_, rfl⟩
  rw [← hF] at KM HFA ⊢
  have HR := Lib.hid h
  have HX := Lib.hid k
  have HRL := Lib.hid h.1
  have HXL := Lib.hid k.1
  obtain ⟨N, hN⟩ : ∃ N, N = L - m := ⟨_, rfl⟩
  rw [← hN] at KM ⊢
  have hN0 : 0 < N := by omega
  have hN47 : N ≤ 47 := by omega
  obtain ⟨OUT, hO⟩ : ∃ O, O = solveR ((L : Nat) : Int) (F ++ R) (List.replicate N (zs t) ++ V) := ⟨_, rfl⟩
  rw [← hO]
  have HO := Lib.hid hO
  clear hO hL hF h k hR hN
  go_enter Tryd.func69, Tryd.ntmps69
  go_wp2_with fail
  (with_reducible refine KM.mono ?_)
  rintro e w1 ⟨g, c, rfl, hM, hb⟩
  have hbs := hb.size
  have hV0 := HdV.made (B := w.heap.size) (w := w1) hbs
  have HM := Lib.hid (hM.below (below_alloc w1 (.cells #[] 22)))
  have HB := Lib.hid (hb.trans ((below_alloc w1 (.cells #[] 22)).mono hbs))
  have HV : Hid (HdV (w1.alloc (.cells #[] 22)) w.heap.size (some ⟨w1.heap.size, 0, none⟩) 0 0 (List.replicate 0 (zs t))) := Lib.hid hV0
  have hgl := hM.lt.2
  have hgne : g ≠ w1.heap.size := by omega
  clear KM hM hb hV0 hgl hbs
  go_upto_block 0 with fail
  generalize w1.alloc (.cells #[] 22) = w2 at HM HB HV ⊢
  obtain ⟨gv, hgv⟩ : ∃ g, g = w1.heap.size := ⟨_, rfl⟩
  rw [← hgv] at HV hgne ⊢
  clear hgv
  go_wp2_with fail
  go_loopw [12, 13] (fun vo vi wr => ∃ (i gv cv : Nat), i ≤ N ∧ g ≠ gv ∧ vi = .int .i64 (i : Nat) ∧ vo = .slice (some ⟨gv, 0, none⟩) i cv ∧ Hid (HdV wr w.heap.size (some ⟨gv, 0, none⟩) i cv (List.replicate i (zs t))) ∧ Hid (HdV wr w.heap.size (some ⟨g, 0, none⟩) N c F) ∧ Hid (Below w.heap.size w wr)) (fun _ vi _ => (N - intOf vi).toNat)
  case atStart => exact ⟨0, gv, 0, Nat.zero_le _, hgne, rfl, rfl, HV, HM, HB⟩
  case round =>
    clear HV HM HB hgne
    obtain ⟨i, gv, cv, hi, hgne, rfl, rfl, hV, hM, hB⟩ := hrel
    by_cases hlt : i < N
    · have hsz := hB.out.size
      go_wp2_with (first | (at_make; refine Hid.out ?_))
      refine Lib.hid ?_
      refine wpList_make_full _ rfl _ _ 22 rfl wr.heap.size 5 j0 (.int .u8 0) 1 Tryd.underlying22 hj0 hy0 hy1 _ _ _ _ t rfl rfl rfl rfl (by rw [hy2]; omega) (by unfold maxLen; omega) (Nat.le_refl _) ?_
      intro w3 hown3 hgrow3
      rw [show (Value.int .u8 0).cells = #[.int .u8 0] from rfl, Nat.mul_one, toList_madeCells_one, ← bv_zs] at hown3
      have b3 : Below wr.heap.size wr w3 := ⟨hgrow3.os, hgrow3.tape, hgrow3.output, hgrow3.size, fun i hi => hgrow3.block i hi (by simp)⟩
      have hM7 := (hM.out.below b3).below (below_alloc w3 (.cells #[.slice (some ⟨wr.heap.size, 0, none⟩) t t] 22))
      have hV7 := (hV.out.below b3).below (below_alloc w3 (.cells #[.slice (some ⟨wr.heap.size, 0, none⟩) t t] 22))
      have hb7 := hB.out.trans (b3.mono hsz)
      have hb8 := hb7.alloc hb7.size (.cells #[.slice (some ⟨wr.heap.size, 0, none⟩) t t] 22)
      have hat : RowAt (w3.alloc (.cells #[.slice (some ⟨wr.heap.size, 0, none⟩) t t] 22)) w.heap.size (some ⟨wr.heap.size, 0, none⟩, t, t) (zs t) := own_at (b := wr.heap.size) (by rw [zs_length]; exact hown3.alloc _) (zs_length t).symm (zs_bytes t) (by rw [zs_length]; omega)
      obtain ⟨hl7, hs7, ho7, hq7, hr7⟩ := hV7
      have hbs := hb8.size
      have hgl := hM7.lt.2
      have HB8 := Lib.hid hb8
      have HM7 := Lib.hid hM7
      have HQ7 := Lib.hid hq7
      have HR7 := Lib.hid hr7
      have HAT := Lib.hid hat
      have HGL := Lib.hid hgl
      clear hown3 hgrow3 b3 hb7 hM hB hV hat hq7 hr7 hl7 hb8 hM7 hgl
      go_wp2_with (first | (at_builtin; refine Hid.out ?_))
      refine Lib.hid ?_
      refine wpList_append_lies _ rfl _ _ 35 rfl w.heap.size 22 i0 (.slice none 0 0) 1 24 Tryd.underlying35 hi0 hz0 hz1 hz2 rfl (by decide) _ _ _ rfl ho7 ⟨w3.heap.size, 0, none⟩ 1 1 [SV (some ⟨wr.heap.size, 0, none⟩, t, t)] rfl rfl (World.news_of_block (heap_alloc_new w3 _)) (by intro u hu; simp at hu; subst hu; rfl) (by decide) (by unfold maxLen; omega) (by omega) hbs _ rfl ?_
      intro g9 c9 w9 hE9 g9' hat9 _
      have hb9 := below_grown HB8.out g9' (fun k e => ownBlock_ge ho7 k e)
      have hM9 := HM7.out.keep g9' (own_row ho7) (.inr (show (some g : Option Nat) ≠ some gv from fun e => hgne (Option.some.inj e)))
      obtain ⟨a9, c9', e9, hV9⟩ := hd_append (ks := [(some ⟨wr.heap.size, 0, none⟩, t, t)]) (xs := [zs t]) ho7 HQ7.out HR7.out rfl rfl (one_at HAT.out) hE9 g9'
      cases e9
      rw [rep_succ] at hV9
      have hne9 : g ≠ g9 := by
        rcases hat9 with e | e
        · have e' : some gv = some g9 := e
          intro e2; exact hgne (e2.trans (Option.some.inj e').symm)
        · rw [e]; exact Nat.ne_of_lt HGL.out
      have HM9 := Lib.hid hM9
      have HV9 := Lib.hid hV9
      have HB9 := Lib.hid hb9
      clear hE9 g9' ho7 hM9 hV9 hb9 hat9
      go_wp2
      go_roundw
      case rel => exact ⟨i + 1, g9, c9, by omega, hne9, by go_num, rfl, HV9, HM9, HB9⟩
      case measure => simp [intOf] <;> omega
    · obtain rfl : i = N := by omega
      subst hx
      by_cases h0 : 0 < nx
      · obtain ⟨ks, k1, k2, k3⟩ := rd_rows HR.out (Nat.le_refl _) hB.out
        obtain ⟨ls, l1, l2, l3⟩ := rd_rows HX.out (Nat.le_refl _) hB.out
        have hkn : ks.length = nx := by rw [k1]; exact HRL.out
        have hln : ls.length = nx := by rw [l1]; exact HXL.out
        obtain ⟨hl7, hs7, ho7, hq7, hr7⟩ := hM.out
        have hsz := hB.out.size
        have HQ7 := Lib.hid hq7
        have HR7 := Lib.hid hr7
        have HK1 := Lib.hid k1
        have HK2 := Lib.hid k2
        have HK3 := Lib.hid k3
        have HL1 := Lib.hid l1
        have HL2 := Lib.hid l2
        have HL3 := Lib.hid l3
        have HKN := Lib.hid hkn
        have HLN := Lib.hid hln
        have hvl := hV.out.lt.2
        have HVL := Lib.hid hvl
        clear hl7 hq7 hr7 hM k1 k2 k3 l1 l2 l3 hkn hln hvl
        go_wp2_with (first | (at_builtin; refine Hid.out ?_))
        refine Lib.hid ?_
        refine wpList_append_lies _ rfl _ _ 35 rfl w.heap.size 22 i0 (.slice none 0 0) 1 24 Tryd.underlying35 hi0 hz0 hz1 hz2 rfl (by decide) _ _ _ rfl ho7 ar nx cr (ks.map SV) rfl (by have := HKN.out; simp; omega) (news_of_row HK2.out) (SV_one ks) h0 (by unfold maxLen; omega) (by omega) hsz _ rfl ?_
        intro gA cA w5 hE5 g5 hat5 _
        obtain ⟨a5, c5', e5, hM5⟩ := hd_append (ks := ks) (xs := R) ho7 HQ7.out HR7.out HK1.out HKN.out HK3.out hE5 g5
        cases e5
        have hV5 := hV.out.keep g5 (own_row ho7) (.inr (show (some gv : Option Nat) ≠ some g from fun e => hgne (Option.some.inj e).symm))
        have hb5 := below_grown hB.out g5 (fun k e => ownBlock_ge ho7 k e)
        have hne5 : gA ≠ gv := by
          rcases hat5 with e | e
          · have e' : some g = some gA := e
            intro e2; exact hgne ((Option.some.inj e').trans e2)
          · rw [e]; exact Nat.ne_of_gt HVL.out
        have hl5 : ∀ (i : Nat) x l, ls[i]? = some x → V[i]? = some l → RowAt w5 w.heap.size x l := fun i x l a b => (HL3.out i x l a b).keep g5 (own_row ho7)
        have hax : ax.block < w.heap.size := by
          obtain ⟨_, hs, q1, -⟩ := HX.out
          exact q1.lt h0 rfl
        have hr5 : RowV w5 (some ax) nx (ls.map SV) := HL2.out.kept' (fun hl a e => g5.block _ (HL2.out.lt hl e) (fun e2 => by
          have := ownBlock_ge ho7 _ e2.symm
          injection e with e
          rw [← e] at this
          omega))
        obtain ⟨hl8, hs8, ho8, hq8, hr8⟩ := hV5
        have hs5 := hb5.size
        have HM5 := Lib.hid hM5
        have HQ8 := Lib.hid hq8
        have HR8 := Lib.hid hr8
        have HB5 := Lib.hid hb5
        have HL5 := Lib.hid hl5
        have HRV := Lib.hid hr5
        clear hE5 g5 hat5 ho7 hM5 hV hB hb5 hl5 hr5 hl8 hq8 hr8 hsz
        go_wp2_with (first | (at_builtin; refine Hid.out ?_))
        refine Lib.hid ?_
        refine wpList_append_lies _ rfl _ _ 35 rfl w.heap.size 22 i0 (.slice none 0 0) 1 24 Tryd.underlying35 hi0 hz0 hz1 hz2 rfl (by decide) _ _ _ rfl ho8 ax nx cx (ls.map SV) rfl (by have := HLN.out; simp; omega) (news_of_row HRV.out) (SV_one ls) h0 (by unfold maxLen; omega) (by omega) hs5 _ rfl ?_
        intro gB cB wF hE6 g6 _ _
        obtain ⟨a6, c6', e6, hV6⟩ := hd_append (ks := ls) (xs := V) ho8 HQ8.out HR8.out HL1.out HLN.out HL5.out hE6 g6
        cases e6
        have HMF := Lib.hid (HM5.out.keep g6 (own_row ho8) (.inr (show (some gA : Option Nat) ≠ some gv from fun e => hne5 (Option.some.inj e))))
        have HVF := Lib.hid hV6
        have HBF := Lib.hid (below_grown HB5.out g6 (fun k e => ownBlock_ge ho8 k e))
        clear hE6 g6 ho8 hV6 HM5 HB5
        obtain ⟨ax', cx', p0⟩ := HMF.out.cell0 (by omega) HFA.out
        have KS := refSolve_rd ((L : Nat) : Int) (some ⟨gA, 0, none⟩) (i + nx) cA (F ++ R) (some ⟨gB, 0, none⟩) (i + nx) cB (List.replicate i (zs t) ++ V) wF HMF.out.rd HVF.out.rd (by omega) (by omega) (fun _ => by rw [width_rep (by omega)]; omega)
        rw [← HO.out] at KS
        have hpos : 0 < i + nx := by omega
        have hsF := HBF.out.size
        go_wp2_with fail
        (with_reducible refine KS.mono ?_)
        rintro e w9 ⟨a9, c9, rfl, h9, b9⟩
        have hb9 := HBF.out.trans (b9.mono hsF)
        clear KS b9
        go_wp2
        go_ret2
        exact ⟨a9, c9, rfl, h9, hb9⟩
      · obtain rfl : nx = 0 := by omega
        have hRn : R = [] := List.eq_nil_of_length_eq_zero HRL.out
        have hVn : V = [] := List.eq_nil_of_length_eq_zero HXL.out
        subst hRn hVn
        have hcap : i ≤ c := by
          obtain ⟨_, hs, q1, -⟩ := hM.out
          obtain ⟨_, _, e, -, q, -⟩ := ownsRow_parts q1
          cases e; exact q
        have hcapv : i ≤ cv := by
          obtain ⟨_, hs, q1, -⟩ := hV.out
          obtain ⟨_, _, e, -, q, -⟩ := ownsRow_parts q1
          cases e; exact q
        have HMF : Hid (HdV wr w.heap.size (some ⟨g, 0, none⟩) i c (F ++ [])) := Lib.hid (by rw [List.append_nil]; exact hM.out)
        have HVF : Hid (HdV wr w.heap.size (some ⟨gv, 0, none⟩) i cv (List.replicate i (zs t) ++ [])) := Lib.hid (by rw [List.append_nil]; exact hV.out)
        obtain ⟨ax', cx', p0⟩ := HMF.out.cell0 (by omega) HFA.out
        have KS := refSolve_rd ((L : Nat) : Int) (some ⟨g, 0, none⟩) i c (F ++ []) (some ⟨gv, 0, none⟩) i cv (List.replicate i (zs t) ++ []) wr HMF.out.rd HVF.out.rd (by omega) (by omega) (fun _ => by rw [width_rep (by omega)]; omega)
        rw [← HO.out] at KS
        have hsF := hB.out.size
        go_wp2_with fail
        (with_reducible refine KS.mono ?_)
        rintro e w9 ⟨a9, c9, rfl, h9, b9⟩
        have hb9 := hB.out.trans (b9.mono hsF)
        clear KS b9
        go_wp2
        go_ret2
        exact ⟨a9, c9, rfl, h9, hb9⟩
end Go.Proofs.YtfjcbgfgiidogaaDoor
namespace Go.Proofs.YtfjcbgfgiidogaaDoor
open Go.RowKit

set_option maxRecDepth 100000 in
set_option maxHeartbeats 8000000 in
theorem refInner_rd (sa : Option Addr) (sn sc : Nat) (src : List (List Nat)) (w : World) (h : RD w sa sn src) : Calls Tryd.prog 57 #[.slice sa sn sc] w (GivesR w (innerR src)) := by
  have hel : src.length = sn := h.1
  have HEL := Lib.hid hel
  have HS := Lib.hid h
  unfold innerR innerS
  rw [hel]
  by_cases h1 : 1 ≤ sn
  rotate_left 1
  · rw [if_neg (fun e => h1 (by have := (okK_iff.1 e).1; omega))]
    clear h hel
    go_enter Tryd.func57, Tryd.ntmps57
    go_wp2
    go_ret2
    exact givesR_nil (Below.refl _ _)
  by_cases hk : sn ≤ 32
  rotate_left 1
  · rw [if_neg (fun e => hk (by have := (okK_iff.1 e).2; omega))]
    clear h hel
    go_enter Tryd.func57, Tryd.ntmps57
    go_wp2
    go_ret2
    exact givesR_nil (Below.refl _ _)
  rw [if_pos (okK_iff.2 ⟨by omega, by omega⟩)]
  obtain ⟨b, off, xa, t, xc, l0, rfl, hc0, hl0, hB0⟩ := h.at (i := 0) (by omega)
  rw [Nat.add_zero] at hc0
  have HL0 := Lib.hid hl0
  have HLL := Lib.hid (show l0.length = t from hB0.length)
  have hwt : widthB src = t := by unfold widthB; rw [List.getD_eq_getElem?_getD, HL0.out]; exact HLL.out
  rw [hwt]
  have i0' : (0 : Int) < (sn : Int) := by omega
  have i00 : 0 < sn := h1
  clear h hel hl0 hB0
  by_cases ht1 : 1 ≤ t
  rotate_left 1
  · rw [if_neg (fun e => ht1 e.1)]
    go_enter Tryd.func57, Tryd.ntmps57
    go_wp2
    go_ret2
    exact givesR_nil (Below.refl _ _)
  by_cases ht2 : t ≤ 64
  rotate_left 1
  · rw [if_neg (fun e => ht2 e.2)]
    go_enter Tryd.func57, Tryd.ntmps57
    go_wp2
    go_ret2
    exact givesR_nil (Below.refl _ _)
  rw [if_pos ⟨ht1, ht2⟩]
  obtain ⟨OUT, hO⟩ : ∃ O, O = (if evenB src ((t : Nat) : Int) = true then solveR ((cL sn : Nat) : Int) (fixedL sn ++ placesL sn sn) (List.replicate (cL sn - sn) (zs t) ++ src) else ([], 41)) := ⟨_, rfl⟩
  rw [← hO]
  have HOUT := Lib.hid hO
  clear hO hwt
  go_enter Tryd.func57, Tryd.ntmps57
  go_wp2_with fail
  go_loopw [5] (fun vi wr => ∃ (i : Nat), i ≤ sn ∧ vi = .int .i64 (i : Nat) ∧ Hid (Below w.heap.size w wr) ∧ Hid (∀ (j : Nat) l, j < i → src[j]? = some l → l.length = t)) (fun vi _ => (sn - intOf vi).toNat)
  case atStart => exact ⟨0, Nat.zero_le _, rfl, Lib.hid (Below.refl _ _), Lib.hid (fun j e h => absurd h (Nat.not_lt_zero _))⟩
  case round =>
    obtain ⟨i, hi, rfl, hB, HZ⟩ := hrel
    have hc1 := cell_below hc0 hB.out
    by_cases hlt : i < sn
    · obtain ⟨b', off', ya, yn, yc, l, e, hcl, hl, hBl⟩ := HS.out.at hlt
      injection e with e
      injection e with e1 e2
      subst e1 e2
      have hc := cell_below hcl hB.out
      have HL := Lib.hid hl
      have HLY := Lib.hid (show l.length = yn from hBl.length)
      clear hcl hl hBl
      by_cases h0 : yn = t
      · have h0' : ((yn : Int) != (t : Int)) = false := by simp [h0]
        have H0 := Lib.hid h0
        clear h0
        go_wp2
        go_quiet (fail)
        go_wp2
        go_roundw
        case rel => exact ⟨i + 1, by omega, by go_num, Lib.hid (below_drewR hB.out _), Lib.hid (fun j l' hj hl' => (by
          by_cases e : j = i
          · rw [e, HL.out] at hl'
            rw [← Option.some.inj hl', HLY.out]; exact H0.out
          · exact HZ.out j l' (by omega) hl'))⟩
        case measure => simp [intOf] <;> omega
      · have h0' : ((yn : Int) != (t : Int)) = true := by simp; omega
        have HO2 := Lib.hid (show OUT = ([], 41) by
          rw [HOUT.out, if_neg]
          intro e
          have := evenB_iff.1 e l (List.mem_of_getElem? HL.out)
          rw [show l.length = yn from HLY.out] at this
          omega)
        clear h0
        go_wp2
        go_quiet (fail)
        go_wp2
        go_ret2
        rw [HO2.out]
        exact givesR_nil (below_drewR hB.out _)
    · obtain rfl : i = sn := by omega
      have HO2 := Lib.hid (show OUT = solveR ((cL i : Nat) : Int) (fixedL i ++ placesL i i) (List.replicate (cL i - i) (zs t) ++ src) by
        rw [HOUT.out, if_pos]
        refine evenB_iff.2 fun x hx => ?_
        obtain ⟨j, hj⟩ := List.getElem?_of_mem hx
        have := HZ.out j x (by have := (List.getElem?_eq_some_iff.1 hj).1; rw [HEL.out] at this; exact this) hj
        omega)
      have K1 := fun W => refRows_own i W h1 hk
      have K2 := fun g c W hr hs => refSolve4_rd i t ⟨g, 0, none⟩ i c (placesL i i) ⟨b, off, none⟩ i sc src W h1 hk ht2 hr hs (by omega) rfl (placesL_all i i)
      rw [← HO2.out] at K2
      have HX := Lib.hid (HS.out.below hB.out)
      have hsz := hB.out.size
      clear hi hlt HZ HOUT
      go_wp2_with fail
      go_region_held3 (fun w' => w'.cell? ⟨b, off, none⟩ = some (.slice xa t xc)) (first | exact hc1 | exact hc5 | exact hc6)
        (first
          | (go_at_call 71; (with_reducible refine (K1 _).mono ?_); rintro e w5 ⟨g5, c5, rfl, h5, d5⟩; have b5 : Below wr.heap.size wr w5 := ⟨d5.os, d5.tape, d5.output, d5.size, d5.block⟩; have hc5 := cell_below hc1 b5)
          | (go_at_call 69; (with_reducible refine (K2 _ _ _ h5 ?hh).mono ?_); (case hh => exact HX.out.below b5); rintro e w6 ⟨a6, c6, rfl, h6, d6⟩; have b6 := b5.trans (d6.mono b5.size); have hc6 := cell_below hc1 b6))
      all_goals
        go_wp2
        go_ret2
        exact ⟨a6, c6, rfl, h6, hB.out.trans (b6.mono hsz)⟩
end Go.Proofs.YtfjcbgfgiidogaaDoor
namespace Go.Proofs.YtfjcbgfgiidogaaDoor
open Go.RowKit

theorem refMixS_rd (adk : Option Addr) (lk ck : Nat) (ks : List Nat) (a : Option Addr) (n c : Nat) (xs : List (List Nat)) (w : World) (hks : BytesV w (adk, lk, ck) ks) (h : RD w a n xs) (hn : n ≤ 1000) :
    Calls Tryd.prog 59 #[.slice adk lk ck, .slice a n c] w (GivesBytes 5 w (mixS xs ks)) := refMix_rd adk lk ck ks a n c xs w hks h hn
theorem OwnP.made {w : World} {B : Nat} (hB : B ≤ w.heap.size) : OwnP (w.alloc (.cells #[] PT)) B (some ⟨w.heap.size, 0, none⟩) 0 0 [] :=
  .start (World.ownsRow_made (base := B) (e := PT) (size := 2) w #[] 0 hB (by simp [maxLen]) rfl)

set_option maxRecDepth 100000 in
set_option maxHeartbeats 8000000 in
theorem refEncode_rd (sa : Option Addr) (sn sc : Nat) (src : List (List Nat)) (ea : Option Addr) (en ec : Nat) (es : List Int) (w : World) (h : RD w sa sn src) (he : IntsV w (ea, en, ec) es) (hen : en ≤ 1000) :
    Calls Tryd.prog 39 #[.slice sa sn sc, .slice ea en ec] w (GivesP w (encodeR src es)) := by
  obtain ⟨i0, hpi, hz0, hz1, hz2⟩ := info_parts pinfo
  have hel : es.length = en := he.length
  have KI := refInner_rd sa sn sc src w h
  have HEL := Lib.hid hel
  have HE := Lib.hid he
  have HSL := Lib.hid h.1
  obtain ⟨OUT, hO⟩ : ∃ O, O = encodeR src es := ⟨_, rfl⟩
  rw [← hO]
  have HOK := Lib.hid (inner_ok (src := src))
  unfold encodeR at hO
  obtain ⟨S, hS⟩ : ∃ S, S = innerR src := ⟨_, rfl⟩
  have hXl := inner_len src
  rw [← hS] at KI hO HOK hXl
  have HOUT := Lib.hid hO
  clear h he hel hO hS
  obtain ⟨X, code⟩ := S
  simp only at HOUT HOK hXl
  go_enter Tryd.func39, Tryd.ntmps39
  go_wp2_with fail
  (with_reducible refine KI.mono ?_)
  rintro e w1 ⟨ax, cx, rfl, hX, b1⟩
  simp only at hX ⊢
  clear KI
  by_cases hc : code = 0
  rotate_left 1
  · have hcb : (code != 0) = true := by rw [bne_iff_ne]; exact hc
    have HC := Lib.hid hc
    clear hc hX
    go_wp2
    go_ret2
    rw [HOUT.out, if_neg HC.out]
    exact givesP_nil b1
  subst hc
  obtain ⟨m, e1, -, h1, hk⟩ := okK_nat (HOK.out rfl)
  rw [HSL.out] at e1
  obtain rfl : sn = m := by omega
  have hs1 := b1.size
  have HX := Lib.hid hX
  have HP : Hid (OwnP (w1.alloc (.cells #[] PT)) w1.heap.size (some ⟨w1.heap.size, 0, none⟩) 0 0 ((es.take 0).map (pieceOf sn X))) := Lib.hid (OwnP.made (Nat.le_refl _))
  have HB1 := Lib.hid (below_alloc w1 (.cells #[] PT))
  have HB0 := Lib.hid b1
  clear e1 hX b1
  go_upto_block 0 with fail
  generalize w1.alloc (.cells #[] PT) = w2 at HP HB1 ⊢
  go_wp2_with fail
  go_loopw [8, 9] (fun vp vi wr => ∃ (i : Nat) (av : Option Addr) (cv : Nat), i ≤ en ∧ vi = .int .i64 (i : Nat) ∧ vp = .slice av i cv ∧ Hid (OwnP wr w1.heap.size av i cv ((es.take i).map (pieceOf sn X))) ∧ Hid (Below w1.heap.size w1 wr) ∧ Hid (∀ (j : Nat) e, j < i → es[j]? = some e → okE e = true)) (fun _ vi _ => (en - intOf vi).toNat)
  case atStart => exact ⟨0, _, _, Nat.zero_le _, rfl, rfl, HP, HB1, Lib.hid (fun j e h => absurd h (Nat.not_lt_zero _))⟩
  case round =>
    clear HP HB1
    obtain ⟨i, av, cv, hi, rfl, rfl, hP, hB1, HZ⟩ := hrel
    have hB := Lib.hid (HB0.out.trans (hB1.out.mono hs1))
    have hX := Lib.hid (HX.out.below hB1.out)
    by_cases hlt : i < en
    · obtain ⟨b, off, e1, hc1⟩ := HE.out.row.2 (by show 0 < en; omega)
      simp only at e1
      subst e1
      have hc := hc1 i hlt
      obtain ⟨z, hz⟩ : ∃ z, es[i]? = some z := ⟨_, List.getElem?_eq_getElem (by rw [HEL.out]; exact hlt)⟩
      rw [List.getElem?_map, hz] at hc
      have hcw : w.cell? ⟨b, off + i, none⟩ = some (.int .i64 z) := hc
      have hc' := cell_below hcw hB.out
      have HCW := Lib.hid hcw
      have HZI := Lib.hid hz
      clear hc hc1 hz hcw
      have KR := refRow_rd (sn : Int) z wr
      unfold rowR at KR
      rw [if_pos (okK_iff.2 ⟨by omega, by omega⟩), Int.toNat_natCast] at KR
      have hsz := hB.out.size
      by_cases hz2 : okE z = true
      rotate_left 1
      · rw [if_neg hz2] at KR
        have hall : es.all okE = false := by
          cases h : es.all okE with
          | false => rfl
          | true => exact absurd (List.all_eq_true.1 h z (List.mem_of_getElem? HZI.out)) hz2
        have HHA := Lib.hid hall
        clear hz2 hall
        go_wp2_with fail
        (with_reducible refine KR.mono ?_)
        rintro e w6 ⟨a6, c6, rfl, -, b6⟩
        clear KR
        go_wp2
        go_ret2
        rw [HOUT.out, if_pos trivial, HHA.out, if_neg (by simp)]
        exact givesP_nil (hB.out.trans (b6.mono hsz))
      rw [if_pos hz2] at KR
      have HT := Lib.hid (pieces_take sn X HZI.out)
      have HZ2 := Lib.hid hz2
      obtain ⟨r, hr⟩ : ∃ r, r = symR sn z.toNat := ⟨_, rfl⟩
      have hrb : Bytes r := by rw [hr]; exact symR_bytes _ _
      have hrl : r.length ≤ 100 := by rw [hr, symR_length]; have := (cL_facts h1 hk).2.1; omega
      have hpc : pieceOf sn X z = (z, mixS X r) := by rw [hr]; rfl
      have HPC := Lib.hid hpc
      rw [← hr] at KR
      have HRB := Lib.hid hrb
      clear hr hz2 hpc hrb
      go_wp2_with fail
      (with_reducible refine KR.mono ?_)
      rintro e w6 ⟨a6, c6, rfl, o6, b6⟩
      simp only at o6 ⊢
      have hsz1 := hB1.out.size
      have hb6 := hB1.out.trans (b6.mono hsz1)
      have hX6 := hX.out.below b6
      have hP6 := hP.out.below b6
      have hmm := mixS_mem hX6.mem HRB.out
      have x6 := bytesV_of_owns o6 HRB.out (by omega)
      obtain ⟨y, hy⟩ : ∃ y, y = mixS X r := ⟨_, rfl⟩
      have KM := fun W h1 h2 => refMixS_rd a6 r.length c6 r ax X.length cx X W h1 h2 hXl
      rw [← hy] at KM hmm HPC
      have HMM := Lib.hid hmm
      have HX6 := Lib.hid hX6
      have HP6 := Lib.hid hP6
      have HB6 := Lib.hid hb6
      have X6 := Lib.hid x6
      have hs6 := hb6.size
      have p6 := cell_below hc' b6
      clear KR hP hB hB1 hX o6 b6 hmm hy hc' hX6 hP6 hb6 x6 hsz1
      go_wp2_with fail
      go_region_held3 (fun w' => w'.cell? ⟨b, off + i, none⟩ = some (.int .i64 z)) (first | exact p6 | exact p7 | exact p7b | exact p9)
        (first
          | (go_at_call 59; (with_reducible refine (KM _ ?hh ?hk).mono ?_); (case hh => exact X6.out.below ⟨rfl, rfl, rfl, Nat.le_refl _, fun _ _ => rfl⟩); (case hk => exact HX6.out.below ⟨rfl, rfl, rfl, Nat.le_refl _, fun _ _ => rfl⟩); rintro e w7 ⟨a7, c7, rfl, o7, d7⟩; have b7 : Below w6.heap.size w6 w7 := ⟨d7.os, d7.tape, d7.output, d7.size, d7.block⟩; have p7 := cell_below p6 b7; have p7b := cell_below p7 (below_alloc w7 (.cells #[.int .i64 z, .slice a7 y.length c7] PT)); have o8 := (ownsRow_base (base' := w1.heap.size) o7 hs6).alloc (.cells #[.int .i64 z, .slice a7 y.length c7] PT); have hb8 := (HB6.out.trans (b7.mono hs6)).alloc (HB6.out.trans (b7.mono hs6)).size (.cells #[.int .i64 z, .slice a7 y.length c7] PT); obtain ⟨hpl, xs, hxl, hxo, hxs⟩ := (HP6.out.below b7).below (below_alloc w7 (.cells #[.int .i64 z, .slice a7 y.length c7] PT)); have hbs8 := hb8.size; have HXS := Lib.hid hxs; have HXL := Lib.hid hxl; have HPL := Lib.hid hpl; clear hxs hxl hpl)
          | (refine step_append_lies _ rfl (.tmp 40) (.tmp 49) 68 rfl w1.heap.size PT i0 (.agg #[.int .i64 0, .slice none 0 0]) 2 32 Tryd.underlying68 hpi hz0 hz1 hz2 rfl (by decide) (.slice av i cv) i (pcells xs) (by rfl) hxo ⟨w7.heap.size, 0, none⟩ 1 1 [.int .i64 z, SV (a7, y.length, c7)] (by rfl) (by rfl) (World.news_of_block (heap_alloc_new w7 _)) (by intro u hu; simp at hu; rcases hu with rfl | rfl <;> rfl) (by decide) (by simp [maxLen]; omega) (by omega) hbs8 _ rfl ?_; intro g9 c9 w9 hE9 g9' _ _; have hb9 := below_grown hb8 g9' (fun k e => ownBlock_ge hxo k e); have p9 := cell_below HCW.out (HB0.out.trans (hb9.mono hs1))))
      all_goals
        have hP9 := pc_append (y := (a7, y.length, c7)) (l := y) (e := z) HXL.out HPL.out hxo HXS.out o8 rfl HMM.out hE9 g9'
        rw [← HPC.out, ← HT.out] at hP9
        have HP9 := Lib.hid hP9
        have HB9 := Lib.hid hb9
        clear hxo hE9 g9' hb8 hP9 hb9 d7 b7 o7 o8 p6 p7 p7b p9 hbs8
        go_wp2
        go_roundw
        case rel => exact ⟨i + 1, _, c9, by omega, by go_num, rfl, HP9, HB9, Lib.hid (fun j e hj he => (by
          by_cases e1 : j = i
          · rw [e1, HZI.out] at he
            exact (congrArg okE (Option.some.inj he)).symm.trans HZ2.out
          · exact HZ.out j e (by omega) he))⟩
        case measure => simp [intOf] <;> omega
    · obtain rfl : i = en := by omega
      have hall : es.all okE = true := List.all_eq_true.2 fun e he => by
        obtain ⟨j, hj⟩ := List.getElem?_of_mem he
        exact HZ.out j e (by have := (List.getElem?_eq_some_iff.1 hj).1; rw [HEL.out] at this; exact this) hj
      have hP' := hP.out
      rw [List.take_of_length_le (by rw [HEL.out]; exact Nat.le_refl _)] at hP'
      have HHA := Lib.hid hall
      have HP' := Lib.hid hP'
      have hml : (es.map (pieceOf sn X)).length = i := by rw [List.length_map]; exact HEL.out
      have HML := Lib.hid hml
      clear hall hP' hP hml
      go_wp2
      go_ret2
      rw [HOUT.out, if_pos trivial, HHA.out, if_pos rfl, HSL.out]
      have hp := HP'.out
      have hm := HML.out
      generalize es.map (pieceOf sn X) = D at hp hm ⊢
      exact ⟨av, cv, by simp only [hm]; rfl, by show OwnP wr w.heap.size av D.length cv D; rw [hm]; exact hp.rebase hs1, hB.out⟩
end Go.Proofs.YtfjcbgfgiidogaaDoor
