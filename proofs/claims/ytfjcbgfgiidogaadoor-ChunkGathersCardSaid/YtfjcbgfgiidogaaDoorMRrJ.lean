/-
  rillref04: Row, Enough; Fixed's other end.
-/
import Derived.Test.YtfjcbgfgiidogaaDoorMRrH
namespace Go.Proofs.YtfjcbgfgiidogaaDoor
open Go.RowKit

set_option maxRecDepth 100000 in
set_option maxHeartbeats 4000000 in
theorem refFixed_bad (k : Int) (w : World) (h : k < 1 ∨ 32 < k) :
    Calls Tryd.prog 73 #[.int .i64 k] w fun e w' => e = .returned (.tuple #[.slice none 0 0, .int .i64 30]) ∧ Below w.heap.size w w' := by
  have KP := refParams_bad k w h
  unfold codeZ at KP
  clear h
  go_enter Tryd.func73, Tryd.ntmps73
  go_wp2_with fail
  (with_reducible refine KP.mono ?_)
  rintro e w1 ⟨rfl, hb1⟩
  go_wp2
  go_ret2
  exact ⟨rfl, hb1.alloc hb1.size _⟩

set_option maxRecDepth 100000 in
set_option maxHeartbeats 4000000 in
theorem refFixed_rd (k : Int) (w : World) : Calls Tryd.prog 73 #[.int .i64 k] w (GivesR w (fixedR k)) := by
  unfold fixedR
  by_cases h : okK k = true
  · rw [if_pos h]
    obtain ⟨m, rfl, e, h1, hk⟩ := okK_nat h
    rw [e]
    have hl := fixed_length (k := m) (code_facts h1 hk).2.2.2.1
    refine (refFixed_ok m w h1 hk).mono ?_
    rintro e w' ⟨g, c, rfl, hH, hb⟩
    exact ⟨_, c, by rw [hl], by show RD w' _ (fixedL m).length (fixedL m); rw [hl]; exact hH.rd, hb⟩
  · rw [if_neg h]
    refine (refFixed_bad k w (okK_bad h)).mono ?_
    rintro e w' ⟨rfl, hb⟩
    exact givesR_nil hb

theorem code_cells {w : World} {gc k Kp S L W P P1 Bn J : Nat} (hg : w.heap[gc]? = some (.cells #[.int .i64 (k : Nat), .int .i64 (Kp : Nat), .int .i64 (S : Nat), .int .i64 4, .int .i64 (L : Nat), .int .i64 (W : Nat), .int .i64 (P : Nat), .int .i64 (P1 : Nat), .int .i64 (Bn : Nat), .int .i64 (J : Nat)] 106 (0, 0))) :
    w.cell? ⟨gc, 0, none⟩ = some (.int .i64 (k : Nat)) ∧ w.cell? ⟨gc, 1, none⟩ = some (.int .i64 (Kp : Nat)) ∧ w.cell? ⟨gc, 2, none⟩ = some (.int .i64 (S : Nat)) ∧ w.cell? ⟨gc, 3, none⟩ = some (.int .i64 4) ∧ w.cell? ⟨gc, 4, none⟩ = some (.int .i64 (L : Nat)) ∧ w.cell? ⟨gc, 5, none⟩ = some (.int .i64 (W : Nat)) ∧ w.cell? ⟨gc, 6, none⟩ = some (.int .i64 (P : Nat)) ∧ w.cell? ⟨gc, 7, none⟩ = some (.int .i64 (P1 : Nat)) ∧ w.cell? ⟨gc, 8, none⟩ = some (.int .i64 (Bn : Nat)) ∧ w.cell? ⟨gc, 9, none⟩ = some (.int .i64 (J : Nat)) := by
  refine ⟨?_, ?_, ?_, ?_, ?_, ?_, ?_, ?_, ?_, ?_⟩ <;> (rw [cell_of_row _ _ _ _ _ _ hg]; rfl)

set_option maxRecDepth 100000 in
set_option maxHeartbeats 4000000 in
theorem refRow_rd (k esi : Int) (w : World) : Calls Tryd.prog 58 #[.int .i64 k, .int .i64 esi] w (GivesB w (rowR k esi)) := by
  unfold rowR
  by_cases h : okK k = true
  rotate_left 1
  · rw [if_neg h]
    have KP := refParams_bad k w (okK_bad h)
    unfold codeZ at KP
    clear h
    go_enter Tryd.func58, Tryd.ntmps58
    go_wp2_with fail
    (with_reducible refine KP.mono ?_)
    rintro e w1 ⟨rfl, hb1⟩
    go_wp2
    go_ret2
    exact givesB_nil (hb1.alloc hb1.size _)
  rw [if_pos h]
  obtain ⟨m, rfl, e, h1, hk⟩ := okK_nat h
  rw [e]
  have KP := refParams_any m w h1 hk
  unfold codeV at KP
  clear h e
  by_cases hlo : 0 ≤ esi
  rotate_left 1
  · rw [if_neg (fun h => hlo (okE_iff.1 h).1)]
    go_enter Tryd.func58, Tryd.ntmps58
    go_wp2_with fail
    (with_reducible refine KP.mono ?_)
    rintro e w1 ⟨rfl, hb1⟩
    go_wp2
    go_ret2
    exact givesB_nil (hb1.alloc hb1.size _)
  by_cases hhi : esi < 16777216
  rotate_left 1
  · rw [if_neg (fun h => hhi (okE_iff.1 h).2)]
    go_enter Tryd.func58, Tryd.ntmps58
    go_wp2_with fail
    (with_reducible refine KP.mono ?_)
    rintro e w1 ⟨rfl, hb1⟩
    go_wp2
    go_ret2
    exact givesB_nil (hb1.alloc hb1.size _)
  rw [if_pos (okE_iff.2 ⟨hlo, hhi⟩)]
  obtain ⟨x, hxe⟩ : ∃ x : Nat, esi = (x : Int) := ⟨esi.toNat, by omega⟩
  rw [show esi.toNat = x by omega]
  have hx : x < 16777216 := by omega
  have hpl := sym_place (esi := x) h1 hk hx
  have f4 := (code_facts h1 hk).2.2.2.1
  have f2 := (code_facts h1 hk).2.1
  have HXE := Lib.hid hxe
  have HPL := Lib.hid hpl
  obtain ⟨R, hR⟩ : ∃ R, R = symR m x := ⟨_, rfl⟩
  rw [← hR]
  have HR := Lib.hid hR
  clear hxe hx hpl hR
  go_enter Tryd.func58, Tryd.ntmps58
  go_wp2_with fail
  (with_reducible refine KP.mono ?_)
  rintro e w1 ⟨rfl, hb1⟩
  have hb2 := hb1.alloc hb1.size (.cells #[.int .i64 (m : Nat), .int .i64 (cKp m : Nat), .int .i64 (cS m : Nat), .int .i64 4, .int .i64 (cL m : Nat), .int .i64 (cW m : Nat), .int .i64 (cP m : Nat), .int .i64 (cP1 m : Nat), .int .i64 (cB m : Nat), .int .i64 (cJ m : Nat)] 106)
  have HB2 := Lib.hid hb2
  have hC := heap_alloc_new w1 (.cells #[.int .i64 (m : Nat), .int .i64 (cKp m : Nat), .int .i64 (cS m : Nat), .int .i64 4, .int .i64 (cL m : Nat), .int .i64 (cW m : Nat), .int .i64 (cP m : Nat), .int .i64 (cP1 m : Nat), .int .i64 (cB m : Nat), .int .i64 (cJ m : Nat)] 106)
  clear hb1 hb2 KP
  go_upto_region 6 with fail
  obtain ⟨gc, hgc⟩ : ∃ g, g = w1.heap.size := ⟨_, rfl⟩
  rw [← hgc] at hC ⊢
  generalize w1.alloc (.cells #[.int .i64 (m : Nat), .int .i64 (cKp m : Nat), .int .i64 (cS m : Nat), .int .i64 4, .int .i64 (cL m : Nat), .int .i64 (cW m : Nat), .int .i64 (cP m : Nat), .int .i64 (cP1 m : Nat), .int .i64 (cB m : Nat), .int .i64 (cJ m : Nat)] 106) = w2 at hC HB2 ⊢
  obtain ⟨d0, d1, d2, d3, d4, d5, d6, d7, d8, d9⟩ := code_cells hC
  have hxe := HXE.out
  subst hxe
  clear hC hgc hlo hhi HXE
  by_cases hlt : x < m
  · have hpl := HPL.out
    have hR := HR.out
    unfold symR at hR
    rw [if_pos hlt] at hpl hR
    subst hR
    have KL := fun W => refPlace_own m x W h1 hk hpl
    unfold codeV at KL
    clear hpl f2 f4
    go_wp2_with fail
    (with_reducible refine (KL _).mono ?_)
    rintro e w3 ⟨a2, c2, rfl, o2, b2⟩
    have hb3 := HB2.out.trans (b2.mono HB2.out.size)
    have o3 := ownsRow_base o2 HB2.out.size
    clear KL b2 o2
    go_wp2
    go_ret2
    exact ⟨a2, c2, rfl, o3, hb3⟩
  · have hpl := HPL.out
    have hR := HR.out
    unfold symR at hR
    rw [if_neg hlt] at hpl hR
    subst hR
    have KL := fun W => refPlace_own m (x + cKp m - m) W h1 hk hpl
    unfold codeV at KL
    have HE := Lib.hid (show (x : Int) + (((cKp m : Nat) : Int) - (m : Int)) = ((x + cKp m - m : Nat) : Int) by omega)
    have hx2 : (x : Int) ≤ 100000000 := by omega
    clear hpl
    go_wp2_with fail
    rw [HE.out]
    (with_reducible refine (KL _).mono ?_)
    rintro e w3 ⟨a2, c2, rfl, o2, b2⟩
    have hb3 := HB2.out.trans (b2.mono HB2.out.size)
    have o3 := ownsRow_base o2 HB2.out.size
    clear KL b2 o2
    go_wp2
    go_ret2
    exact ⟨a2, c2, rfl, o3, hb3⟩
end Go.Proofs.YtfjcbgfgiidogaaDoor
