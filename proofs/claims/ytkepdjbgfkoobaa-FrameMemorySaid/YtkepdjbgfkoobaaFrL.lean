/-
  frame: the reference's Next.
-/
import Derived.Test.YtkepdjbgfkoobaaFrK
import Derived.Test.YtkepdjbgfkoobaaFrN
namespace Go.Proofs.Ytkepdjbgfkoobaa
open Go.RowKit

theorem num3 {l : List Nat} (h : 4 ≤ l.length) : numN ((l.drop 1).take 3) = l.getD 1 0 * 65536 + l.getD 2 0 * 256 + l.getD 3 0 := by
  match l, h with
  | a :: b :: c :: d :: r, _ => simp [numN]; omega

set_option maxRecDepth 100000 in
set_option maxHeartbeats 4000000 in
theorem refNext_any (ad : Option Addr) (n c : Nat) (l : List Nat) (w : World) (h : BytesV w (ad, n, c) l) :
    Calls Try.prog 19 #[.slice ad n c] w (NextGives w (nextN l)) := by
  have hl : l.length = n := h.length
  have hsm : n ≤ 140737488355328 := h.small
  by_cases h0 : n = 0
  · subst h0
    have e : nextN l = ([], 0, 0) := by unfold nextN; rw [if_pos hl]
    rw [e]
    clear e hl
    go_enter Try.func19, Try.ntmps19
    go_wp2
    go_ret3
    exact nextGives_none _ _ (Below.refl _ _)
  have hc : n ≤ c := h.cap
  have hby := h.bytes
  obtain ⟨b, o, e, hcell⟩ := h.row.2 (by simp; omega)
  simp only at e hcell
  subst e
  have hc0 := (hcell 0 (by omega)).trans (bv_getD (by omega))
  rw [Nat.add_zero] at hc0
  have h0' : ((n : Int) == 0) = false := by simpa using h0
  have hlt0 : 0 < n := by omega
  by_cases h1 : l.getD 0 0 = 90
  case neg =>
    have e : nextN l = ([], 0, 70) := by unfold nextN; rw [if_neg (by omega), if_pos h1]
    rw [e]
    obtain ⟨x, hx⟩ : ∃ x, x = l.getD 0 0 := ⟨_, rfl⟩
    rw [← hx] at h1 hc0
    have h1' : ((x : Int) != 90) = true := by rw [bne_iff_ne]; omega
    clear e hl hx hcell
    go_enter Try.func19, Try.ntmps19
    go_wp2
    go_ret3
    exact nextGives_none _ _ (Below.refl _ _)
  rw [h1] at hc0
  by_cases h2 : n < 4
  · have e : nextN l = ([], 0, 0) := by unfold nextN; rw [if_neg (by omega), if_neg (by simpa using h1), if_pos (by omega)]
    rw [e]
    clear e hl h1 hcell
    go_enter Try.func19, Try.ntmps19
    go_wp2
    go_ret3
    exact nextGives_none _ _ (Below.refl _ _)
  have d1 := (hcell 1 (by omega)).trans (bv_getD (by omega))
  have d2 := (hcell 2 (by omega)).trans (bv_getD (by omega))
  have d3 := (hcell 3 (by omega)).trans (bv_getD (by omega))
  have v1 := Bytes.getD hby 1
  have v2 := Bytes.getD hby 2
  have v3 := Bytes.getD hby 3
  have hN := num3 (l := l) (by omega)
  obtain ⟨m, hm⟩ : ∃ m, m = numN ((l.drop 1).take 3) := ⟨_, rfl⟩
  obtain ⟨x1, hx1⟩ : ∃ x, x = l.getD 1 0 := ⟨_, rfl⟩
  obtain ⟨x2, hx2⟩ : ∃ x, x = l.getD 2 0 := ⟨_, rfl⟩
  obtain ⟨x3, hx3⟩ : ∃ x, x = l.getD 3 0 := ⟨_, rfl⟩
  rw [← hm, ← hx1, ← hx2, ← hx3] at hN
  rw [← hx1] at d1 v1
  rw [← hx2] at d2 v2
  rw [← hx3] at d3 v3
  obtain ⟨A, hA⟩ : ∃ A, A = x1 * 65536 := ⟨_, rfl⟩
  obtain ⟨B, hB⟩ : ∃ B, B = x2 * 256 := ⟨_, rfl⟩
  obtain ⟨C, hC⟩ : ∃ C, C = A + B := ⟨_, rfl⟩
  have q1 : IntKind.i64.wrap ((x1 : Int) * 65536) = (A : Int) := by rw [IntKind.wrap_i64]; omega
  have q2 : IntKind.i64.wrap ((x2 : Int) * 256) = (B : Int) := by rw [IntKind.wrap_i64]; omega
  have q3 : IntKind.i64.wrap ((A : Int) + (B : Int)) = (C : Int) := by rw [IntKind.wrap_i64]; omega
  have q4 : IntKind.i64.wrap ((C : Int) + (x3 : Int)) = (m : Int) := by rw [IntKind.wrap_i64]; omega
  have hmlt : m < 4294967296 := by omega
  have hn3 : (3 : Int) < (n : Int) := by omega
  have hn2 : (2 : Int) < (n : Int) := by omega
  have hn1 : (1 : Int) < (n : Int) := by omega
  have hnn : ∀ j : Nat, j < 4 → j < n := fun j hj => by omega
  clear hcell hA hB hC hx1 hx2 hx3 hN
  by_cases h3 : 32768 < m
  · have e : nextN l = ([], 0, 70) := by unfold nextN; rw [← hm, if_neg (by omega), if_neg (by simpa using h1), if_neg (by omega), if_pos h3]
    rw [e]
    clear e hl h1 hm hnn
    go_enter Try.func19, Try.ntmps19
    go_wp2
    go_quiet (fail)
    go_wp2
    go_ret3
    exact nextGives_none _ _ (below_drewN (Below.refl _ _) _)
  by_cases h4 : n < m + 8
  · have e : nextN l = ([], 0, 0) := by unfold nextN; rw [← hm, if_neg (by omega), if_neg (by simpa using h1), if_neg (by omega), if_neg h3, if_pos (by omega)]
    rw [e]
    clear e hl h1 hm hnn
    go_enter Try.func19, Try.ntmps19
    go_wp2
    go_quiet (fail)
    go_wp2
    go_ret3
    exact nextGives_none _ _ (below_drewN (Below.refl _ _) _)
  have e2 := nextN_ref hby hm h1 (by omega) (by omega)
  obtain ⟨E, hE⟩ : ∃ E, E = 4 + m := ⟨_, rfl⟩
  obtain ⟨F, hF⟩ : ∃ F, F = m + 8 := ⟨_, rfl⟩
  have hmE : m = E - 4 := by omega
  rw [← hF, hmE] at e2
  have hs4 := bytesV_sub h 4 (E - 4) (by omega)
  have hsF := bytesV_sub h 0 F (by omega)
  rw [Nat.add_zero, List.drop_zero, Nat.sub_zero] at hsF
  have KP : ∀ w', BytesV w' (some ⟨b, o + 4, none⟩, E - 4, c - 4) ((l.drop 4).take (E - 4)) → Calls Try.prog 14 #[.slice (some ⟨b, o + 4, none⟩) (E - 4) (c - 4)] w' fun e w'' => ∃ ad' cap, e = .returned (.tuple #[.slice ad' F cap, .int .i64 0]) ∧ w''.ownsRow w'.heap.size 5 1 (.slice ad' F cap) F ((frameN ((l.drop 4).take (E - 4))).map bv) ∧ Below w'.heap.size w' w'' := fun w' hh => by
    have := refPack_any _ _ _ _ (by omega) w' hh
    rwa [show E - 4 + 8 = F by omega] at this
  have hpl : ((l.drop 4).take (E - 4)).length = E - 4 := by simp; omega
  obtain ⟨p, hp⟩ : ∃ p, p = (l.drop 4).take (E - 4) := ⟨_, rfl⟩
  rw [← hp] at hs4 KP e2 hpl
  have hpb : Bytes (frameN p) := frameN_bytes hs4.bytes
  have u1 : (4 : Int) + (m : Int) = (E : Int) := by omega
  have u2 : (m : Int) + 8 = (F : Int) := by omega
  have u3 : (4 : Int) ≤ (E : Int) := by omega
  have u4 : (E : Int) ≤ (c : Int) := by omega
  have u5 : (F : Int) ≤ (c : Int) := by omega
  have u6 : (c = 4) = False := eq_false (by omega)
  have u7 : 4 ≤ E := by omega
  have u8 : E ≤ c := by omega
  have u9 : F ≤ c := by omega
  have HPL := Lib.hid hpl
  have HSM : Hid (F ≤ 140737488355328 ∧ E - 4 ≤ 140737488355328) := Lib.hid (by omega)
  have HNF : Hid (¬ n < F) := Lib.hid (by omega)
  by_cases h5 : frameN p = l.take F
  · rw [if_pos h5] at e2
    rw [e2]
    have H5 := Lib.hid h5
    have K2 := copyBytes_any (some ⟨b, o + 4, none⟩) (E - 4) (c - 4) p
    clear e2 hl h1 hm hnn hpl hp hmE hF hE h5
    go_enter Try.func19, Try.ntmps19
    go_wp2
    go_quiet (fail)
    have hb0 : Below w.heap.size w (w.drewN nq) := below_drewN (Below.refl _ _) _
    go_wp2_with fail
    (with_reducible refine (KP _ (hs4.below hb0)).mono ?_)
    rintro e w3 ⟨a3, c3, rfl, o3, b3⟩
    have hb3 := hb0.trans (b3.mono hb0.size)
    have hB3 := bytesV_of_owns o3 hpb HSM.out.1
    clear b3 o3
    go_wp2_with fail
    (with_reducible refine (sameBytes_any _ _ _ _ _ _ _ _ _ hB3 (hsF.below hb3)).mono ?_)
    rintro e w4 ⟨rfl, b4⟩
    have hb4 := hb3.trans (b4.mono hb3.size)
    rw [decide_eq_true H5.out]
    go_wp2_with fail
    (with_reducible refine (K2 _ (hs4.below hb4)).mono ?_)
    rintro e w5 ⟨a5, c5, rfl, o5, b5⟩
    rw [HPL.out] at o5 ⊢
    go_wp2
    go_ret3
    exact nextGives_some _ HPL.out o5 hb4.size (hb4.trans (b5.mono hb4.size))
  · rw [if_neg h5] at e2
    rw [e2]
    have H5 := Lib.hid h5
    clear e2 hl h1 hm hnn hpl hp hmE hF hE h5
    go_enter Try.func19, Try.ntmps19
    go_wp2
    go_quiet (fail)
    have hb0 : Below w.heap.size w (w.drewN nq) := below_drewN (Below.refl _ _) _
    go_wp2_with fail
    (with_reducible refine (KP _ (hs4.below hb0)).mono ?_)
    rintro e w3 ⟨a3, c3, rfl, o3, b3⟩
    have hb3 := hb0.trans (b3.mono hb0.size)
    have hB3 := bytesV_of_owns o3 hpb HSM.out.1
    clear b3 o3
    go_wp2_with fail
    (with_reducible refine (sameBytes_any _ _ _ _ _ _ _ _ _ hB3 (hsF.below hb3)).mono ?_)
    rintro e w4 ⟨rfl, b4⟩
    have hb4 := hb3.trans (b4.mono hb3.size)
    rw [decide_eq_false H5.out]
    go_wp2
    go_ret3
    exact nextGives_none _ _ hb4
end Go.Proofs.Ytkepdjbgfkoobaa
