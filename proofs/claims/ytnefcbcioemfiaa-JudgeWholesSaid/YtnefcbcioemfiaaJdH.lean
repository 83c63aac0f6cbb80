/-
  judge: from.
-/
import Derived.Test.YtnefcbcioemfiaaJdG
namespace Go.Proofs.Ytnefcbcioemfiaa
open Go.RowKit Go.ChangeMaps Go.MapKept Go.WideShapes
open Go.Maps (Keyed IsMap)

abbrev cnL (r : List Nat) : List Int := r.map fun (i : Nat) => (i : Int)
/-- what a search answers. -/
def GivesFrom (w : World) (mb : Nat) (A : List ActR) (T : Nat) (l : Int) (B : Nat) (e : Ending) (w' : World) : Prop :=
  (∃ N', N' ≤ B ∧ DeadM w' mb N' A) ∧ w.grownBy w' (some mb) ∧
  ((∃ (r : List Nat) (ra : Option Addr) (rc : Nat), srch A T l = some r ∧ e = .returned (.tuple #[.slice ra r.length rc, .bool true]) ∧ w'.ownsRow w.heap.size 3 1 (.slice ra r.length rc) r.length ((cnL r).map iv)) ∨
   (srch A T l = none ∧ e = .returned (.tuple #[.slice none 0 0, .bool false])))
theorem behT_lt {T i : Nat} (hT : T < 2 ^ 64) (hi : i < 12) : behT T i < 2 ^ 64 := by
  have : (2 : Nat) ^ i < 2 ^ 64 := Nat.pow_lt_pow_right (by omega) (by omega)
  exact Nat.or_lt_two_pow hT this
theorem behL_ok {A : List ActR} {l : Int} {i n : Nat} (hl : l = -1 ∨ ∃ k : Nat, l = k ∧ k < n) (hi : i < n) : behL A l i = -1 ∨ ∃ k : Nat, behL A l i = k ∧ k < n := by
  unfold behL
  split
  · exact hl
  · exact .inr ⟨i, rfl, hi⟩
theorem pow13 (k : Nat) : 1 ≤ 13 ^ k := Nat.one_le_pow _ _ (by decide)
theorem srch_none_of {A : List ActR} {T : Nat} {l : Int} (hc : completeB A T = false) (h : ∀ i, i < A.length → followsB A T l i = true → srch A (behT T i) (behL A l i) = none) : srch A T l = none := by
  rw [srch_eq, hc]
  simp only [Bool.false_eq_true, if_false]
  rw [List.findSome?_eq_none_iff]
  intro i hi
  split
  · rename_i hf
    rw [h i (by simpa using hi) hf]; rfl
  · rfl
theorem findSome_first {α : Type} (f : Nat → Option α) (x : α) (j n : Nat) (hj : j < n) (h0 : ∀ i, i < j → f i = none) (h1 : f j = some x) : (List.range n).findSome? f = some x := by
  obtain ⟨m, hm⟩ : ∃ m, n = j + (m + 1) := ⟨n - j - 1, by omega⟩
  have e : List.range n = List.range j ++ j :: ((List.range m).map Nat.succ).map (j + ·) := by
    rw [hm, List.range_add, List.range_succ_eq_map, List.map_cons]
    rfl
  rw [e, List.findSome?_append, List.findSome?_cons, h1]
  have : (List.range j).findSome? f = none := by
    rw [List.findSome?_eq_none_iff]
    intro i hi
    exact h0 i (by simpa using hi)
  rw [this]; rfl
theorem srch_some_of {A : List ActR} {T : Nat} {l : Int} {j : Nat} {r : List Nat} (hc : completeB A T = false) (hj : j < A.length) (h : ∀ i, i < j → followsB A T l i = true → srch A (behT T i) (behL A l i) = none) (hf : followsB A T l j = true) (hr : srch A (behT T j) (behL A l j) = some r) : srch A T l = some (j :: r) := by
  rw [srch_eq, hc]
  simp only [Bool.false_eq_true, if_false]
  refine findSome_first _ _ j _ hj (fun i hi => ?_) ?_
  · split
    · rename_i hf
      rw [h i hi hf]; rfl
    · rfl
  · rw [if_pos hf, hr]; rfl
set_option maxRecDepth 100000 in
set_option maxHeartbeats 8000000 in
theorem from_any (sb : Nat) (a : Option Addr) (n c mb : Nat) (A : List ActR) : ∀ (k T : Nat) (l : Int) (N : Nat) (w : World), SrA w sb a n c mb A → DeadM w mb N A → leftN A T ≤ k → T < 2 ^ 64 → (l = -1 ∨ ∃ j : Nat, l = j ∧ j < n) → N + 13 ^ (k + 1) ≤ 10000000000000000 →
    Calls Try.prog 53 #[PTR sb, StV T l] w (GivesFrom w mb A T l (N + 13 ^ (k + 1))) := by
  intro k
  induction k with
  | zero =>
    intro T l N w h hd hk hT hl hN
    have b1 := below_alloc w (.cells #[.int .u64 (T : Int), .int .i64 l] StT)
    have KC := complete_any sb a n c mb A T l _ (h.below b1) hT
    have hcp : completeB A T = true := complete_of_left (by omega)
    rw [hcp] at KC
    have HCP := Lib.hid hcp
    have HD1 := Lib.hid (hd.below b1)
    have HB1 := Lib.hid b1
    clear h hd hk hT hl hN b1 hcp
    go_enter Try.func53, Try.ntmps53
    go_wp2_with fail
    (with_reducible refine KC.mono ?_)
    rintro e w5 ⟨rfl, b5⟩
    have G5 := Lib.hid (grownBy_of_below (HB1.out.trans (b5.mono HB1.out.size)) (some mb))
    have D5 := Lib.hid (HD1.out.below b5)
    clear b5 KC
    go_wp2
    go_ret2
    exact ⟨⟨N, Nat.le_add_right _ _, D5.out⟩, G5.out, .inl ⟨[], none, 0, by rw [srch_eq, HCP.out]; rfl, rfl, World.ownsRow_nil _ _ _ _⟩⟩
  | succ k ih =>
    intro T l N w h hd hk hT hl hN
    have hln := h.acts.len
    have h12 := h.n12
    have hnc := h.nc
    have hn0 : (0 : Int) ≤ (n : Int) := by omega
    obtain ⟨kl, hkey⟩ := st_key T l hT (by rcases hl with rfl | ⟨j, rfl, hj⟩ <;> omega)
    have b1 := below_alloc w (.cells #[.int .u64 (T : Int), .int .i64 l] StT)
    have hbx := heap_alloc_new w (.cells #[.int .u64 (T : Int), .int .i64 l] StT)
    have KC := complete_any sb a n c mb A T l _ (h.below b1) hT
    obtain ⟨cp, hcp⟩ : ∃ cp, cp = completeB A T := ⟨_, rfl⟩
    rw [← hcp] at KC
    have HMAP := Lib.hid hd.map
    have HSB := Lib.hid h.lt
    have HMB := Lib.hid hd.lt
    have HCP := Lib.hid hcp
    have H1 := Lib.hid (h.below b1)
    have HD1 := Lib.hid (hd.below b1)
    have HB1 := Lib.hid b1
    have HX := Lib.hid hbx
    have HT := Lib.hid hT
    have HL := Lib.hid hl
    have HK := Lib.hid hk
    have HN := Lib.hid hN
    have HLN := Lib.hid hln
    have IH := Lib.hid ih
    have HKEY := Lib.hid hkey
    clear h hd hT hl hk hN b1 hbx hcp hln ih hkey
    cases cp
    rotate_left 1
    · go_enter Try.func53, Try.ntmps53
      go_wp2_with fail
      (with_reducible refine KC.mono ?_)
      rintro e w5 ⟨rfl, b5⟩
      have G5 := Lib.hid (grownBy_of_below (HB1.out.trans (b5.mono HB1.out.size)) (some mb))
      have D5 := Lib.hid (HD1.out.below b5)
      clear b5 KC
      go_wp2
      go_ret2
      exact ⟨⟨N, Nat.le_add_right _ _, D5.out⟩, G5.out, .inl ⟨[], none, 0, by rw [srch_eq, ← HCP.out]; rfl, rfl, World.ownsRow_nil _ _ _ _⟩⟩
    · go_enter Try.func53, Try.ntmps53
      go_wp2_with fail
      (with_reducible refine KC.mono ?_)
      rintro e w5 ⟨rfl, b5⟩
      have S5 := Lib.hid (H1.out.below b5)
      have D5 := Lib.hid (HD1.out.below b5)
      have B5 := Lib.hid (HB1.out.trans (b5.mono HB1.out.size))
      have n0 := cellBelow (cell_of_row _ _ 0 _ _ _ HX.out) b5
      have n1 := cellBelow (cell_of_row _ _ 1 _ _ _ HX.out) b5
      clear b5 KC H1 HD1 HB1
      go_upto_region 3 with fail
      obtain ⟨D, hown, hdead⟩ := D5.out
      have q1 := S5.out.c1
      obtain ⟨dd, hdd⟩ : ∃ dd, dd = Maps.has D kl := ⟨_, rfl⟩
      have hlook : ∀ W : World, W.heap[mb]? = w5.heap[mb]? → (Instr.lookup MapT (.map (some mb)) (StV T l) true).run Try.prog W = .ok (.tuple #[.agg #[], .bool dd]) W := fun W hW => by
        obtain ⟨es, ck, hb, r⟩ := hown
        rw [hdd]
        exact look_dead ⟨es, ck, hW.trans hb, r⟩ HKEY.out
      have hmlt : mb < w5.heap.size := by obtain ⟨es, ck, hb, -⟩ := hown; exact (Array.getElem?_eq_some_iff.1 hb).1
      have HDD := Lib.hid hdd
      have HOWN := Lib.hid hown
      have HDEAD := Lib.hid hdead
      clear hown hdead hdd
      have P0 : w5.drew.cell? ⟨w.heap.size, 0, none⟩ = some (.int .u64 (T : Int)) ∧ w5.drew.cell? ⟨w.heap.size, 1, none⟩ = some (.int .i64 l) ∧ w5.drew.cell? ⟨sb, 1, none⟩ = some (.map (some mb)) ∧ (Instr.lookup MapT (.map (some mb)) (StV T l) true).run Try.prog w5.drew = .ok (.tuple #[.agg #[], .bool dd]) w5.drew := ⟨n0, n1, q1, hlook _ rfl⟩
      refine GoX.start 11 (fun w' => w'.cell? ⟨w.heap.size, 0, none⟩ = some (.int .u64 (T : Int)) ∧ w'.cell? ⟨w.heap.size, 1, none⟩ = some (.int .i64 l) ∧ w'.cell? ⟨sb, 1, none⟩ = some (.map (some mb)) ∧ (Instr.lookup MapT (.map (some mb)) (StV T l) true).run Try.prog w' = .ok (.tuple #[.agg #[], .bool dd]) w') (by kernel_rfl) ?_
      refine GoX.take 0 rfl (by kernel_rfl) (by kernel_rfl) (by rfl) (fun _ _ _ h => h) (v := ?tv0g1) P0 ?ty0g1 ?tr0g1
      case ty0g1 => (intro w hSw; (try dsimp only at hSw); go_simp; first | done | with_reducible rfl)
      simp only [Act.put, List.setIfInBounds_toArray, List.set_cons_zero, List.set_cons_succ]
      refine GoX.take 1 rfl (by kernel_rfl) (by kernel_rfl) (by rfl) (fun _ _ _ h => h) (v := ?tv1g2) P0 ?ty1g2 ?tr1g2
      case ty1g2 => (intro w hSw; (try dsimp only at hSw); go_simp; first | done | with_reducible rfl)
      simp only [Act.put, List.setIfInBounds_toArray, List.set_cons_zero, List.set_cons_succ]
      refine GoX.take 2 rfl (by kernel_rfl) (by kernel_rfl) (by rfl) (fun _ _ _ h => h) (v := ?tv2g3) P0 ?ty2g3 ?tr2g3
      case ty2g3 => (intro w hSw; (try dsimp only at hSw); go_simp; first | done | with_reducible rfl)
      simp only [Act.put, List.setIfInBounds_toArray, List.set_cons_zero, List.set_cons_succ]
      refine GoX.take 3 rfl (by kernel_rfl) (by kernel_rfl) (by rfl) (fun _ _ _ h => h) (v := ?tv3g4) P0 ?ty3g4 ?tr3g4
      case ty3g4 => (intro w hSw; (try dsimp only at hSw); go_simp; first | done | with_reducible rfl)
      simp only [Act.put, List.setIfInBounds_toArray, List.set_cons_zero, List.set_cons_succ]
      refine GoX.take 4 rfl (by kernel_rfl) (by kernel_rfl) (by rfl) (fun _ _ _ h => h) (v := ?tv4g5) P0 ?ty4g5 ?tr4g5
      case ty4g5 => (intro w hSw; (try dsimp only at hSw); go_simp; first | done | with_reducible rfl)
      simp only [Act.put, List.setIfInBounds_toArray, List.set_cons_zero, List.set_cons_succ]
      refine GoX.take 5 rfl (by kernel_rfl) (by kernel_rfl) (by rfl) (fun _ _ _ h => h) (v := ?tv5g6) P0 ?ty5g6 ?tr5g6
      case ty5g6 => (intro w hSw; (try dsimp only at hSw); go_simp; first | done | with_reducible rfl)
      simp only [Act.put, List.setIfInBounds_toArray, List.set_cons_zero, List.set_cons_succ]
      refine GoX.take 6 rfl (by kernel_rfl) (by kernel_rfl) (by rfl) (fun _ _ _ h => h) (v := ?tv6g7) P0 ?ty6g7 ?tr6g7
      case ty6g7 => (intro w hSw; (try dsimp only at hSw); go_simp; first | done | with_reducible rfl)
      simp only [Act.put, List.setIfInBounds_toArray, List.set_cons_zero, List.set_cons_succ]
      refine GoX.take 7 rfl (by kernel_rfl) (by kernel_rfl) (by rfl) (fun _ _ _ h => h) (v := ?tv7g8) P0 ?ty7g8 ?tr7g8
      case ty7g8 => (intro w hSw; (try dsimp only at hSw); go_simp; first | done | with_reducible rfl)
      simp only [Act.put, List.setIfInBounds_toArray, List.set_cons_zero, List.set_cons_succ]
      refine GoX.take 8 rfl (by kernel_rfl) (by kernel_rfl) (by rfl) (fun _ _ _ h => h) (v := ?tv8g9) P0 ?ty8g9 ?tr8g9
      case ty8g9 => (intro w hSw; (try dsimp only at hSw); go_simp; first | done | with_reducible rfl)
      simp only [Act.put, List.setIfInBounds_toArray, List.set_cons_zero, List.set_cons_succ]
      refine GoX.one 9 rfl (by kernel_rfl) (by decide) (fun K hK => ?_)
      rw [if_pos (by rfl)]
      go_simp
      have b9 : Below w5.heap.size w5 (w5.drew.alloc (.cells #[] 89)) := (Below.refl _ _).drew.alloc (Nat.le_refl _) _
      have P1 : (w5.drew.alloc (.cells #[] 89)).cell? ⟨w.heap.size, 0, none⟩ = some (.int .u64 (T : Int)) ∧ (w5.drew.alloc (.cells #[] 89)).cell? ⟨w.heap.size, 1, none⟩ = some (.int .i64 l) ∧ (w5.drew.alloc (.cells #[] 89)).cell? ⟨sb, 1, none⟩ = some (.map (some mb)) ∧ (Instr.lookup MapT (.map (some mb)) (StV T l) true).run Try.prog (w5.drew.alloc (.cells #[] 89)) = .ok (.tuple #[.agg #[], .bool dd]) (w5.drew.alloc (.cells #[] 89)) := ⟨cellBelow P0.1 (below_alloc _ _), cellBelow P0.2.1 (below_alloc _ _), cellBelow P0.2.2.1 (below_alloc _ _), hlook _ (b9.block mb hmlt)⟩
      refine hK.out _ _ P1 (fun _ => ?_)
      clear hK K
      refine GoX.one 10 rfl (by kernel_rfl) (by decide) (fun K hK => ?_)
      rw [if_pos (by rfl)]
      go_simp
      skip
      refine hK.out _ _ P1 (fun _ => ?_)
      clear hK K
      refine GoX.last 11 rfl (by kernel_rfl) (by kernel_rfl) (by decide) ?_
      go_upto_region 4 with fail
      refine (?_ : ∀ W : World, Below w5.heap.size w5 W → Code.wp Try.prog _ _ _ W) _ ((Below.refl _ _).drew.alloc (Nat.le_refl _) _)
      clear P0 P1 b9 hlook
      intro W hW
      have n0 := cellBelow n0 hW
      have n1 := cellBelow n1 hW
      have q0 := cellBelow S5.out.c0 hW
      have SW := Lib.hid (S5.out.below hW)
      have OW : Hid (W.ownsMap Try.prog StT unitElem mb N D) := Lib.hid (by obtain ⟨es, ck, hb, r⟩ := HOWN.out; exact ⟨es, ck, (hW.block mb hmlt).trans hb, r⟩)
      have BW := Lib.hid (B5.out.trans (hW.mono B5.out.size))
      clear q1 S5 D5 B5 HOWN hW hmlt
      cases dd
      rotate_left 1
      · have hs : srch A T l = none := HDEAD.out T l kl HKEY.out HDD.out.symm
        have HS := Lib.hid hs
        clear hs
        go_wp2
        go_ret2
        exact ⟨⟨N, Nat.le_add_right _ _, D, OW.out, HDEAD.out⟩, grownBy_of_below BW.out _, .inr ⟨HS.out, rfl⟩⟩
      · clear HDD
        go_wp2
        have HMW : Hid (MapAt W mb) := Lib.hid (by obtain ⟨es, ck, hb, -⟩ := OW.out; exact ⟨es, ck, hb⟩)
        have NC := Lib.hid (And.intro n0 n1)
        have QC := Lib.hid q0
        clear n0 n1 q0
        go_loopw [29] (fun v wr => ∃ j N' : Nat, j ≤ n ∧ v = .int .i64 (j : Nat) ∧ Hid (∀ i, i < j → followsB A T l i = true → srch A (behT T i) (behL A l i) = none) ∧ Hid (N' ≤ N + j * 13 ^ (k + 1)) ∧ Hid (DeadM wr mb N' A) ∧ Hid (W.grownBy wr (some mb))) (fun v _ => n - (intOf v).toNat)
        case atStart => exact ⟨0, N, Nat.zero_le _, rfl, Lib.hid (fun i hi => absurd hi (Nat.not_lt_zero _)), Lib.hid (by omega), Lib.hid ⟨D, OW.out, HDEAD.out⟩, Lib.hid (World.grownBy_refl _ _)⟩
        case round =>
          obtain ⟨j, N', hj, rfl, HZ, HNN, HDM, HG⟩ := hrel
          have n0 := cellKM HMW.out HG.out NC.out.1
          have n1 := cellKM HMW.out HG.out NC.out.2
          have q0 := cellKM HMW.out HG.out QC.out
          have SR := Lib.hid (SW.out.km HMW.out HG.out)
          by_cases hlt : j < n
          · have KF := follows_any sb a n c mb A T j l wr SR.out HL.out HT.out hlt
            obtain ⟨f, hf⟩ : ∃ f, f = followsB A T l j := ⟨_, rfl⟩
            rw [← hf] at KF
            have HF := Lib.hid hf
            clear hf
            cases f
            · go_wp2_with fail
              (with_reducible refine KF.mono ?_)
              rintro e w6 ⟨rfl, b6⟩
              have D6 := Lib.hid (HDM.out.below b6)
              have G6 := Lib.hid (grownBy_trans HG.out (grownBy_of_below b6 (some mb)))
              clear b6 KF
              go_wp2
              go_roundw
              case rel => exact ⟨j + 1, N', by omega, by go_num, Lib.hid (fun i hi hfi => (by
                by_cases e1 : i = j
                · rw [e1, ← HF.out] at hfi; cases hfi
                · exact HZ.out i (by omega) hfi)), Lib.hid (by have := HNN.out; rw [Nat.add_mul]; omega), D6, G6⟩
              case measure => simp [intOf]; omega
            · go_wp2_with fail
              (with_reducible refine KF.mono ?_)
              rintro e w6 ⟨rfl, b6⟩
              have D6 := Lib.hid (HDM.out.below b6)
              have G6 := Lib.hid (grownBy_trans HG.out (grownBy_of_below b6 (some mb)))
              have S6 := Lib.hid (SR.out.below b6)
              have n0 := cellBelow n0 b6
              have n1 := cellBelow n1 b6
              have KB := behind_any sb a n c mb A T j l w6 S6.out HT.out hlt
              obtain ⟨T2, hT2⟩ : ∃ T2, T2 = behT T j := ⟨_, rfl⟩
              obtain ⟨l2, hl2⟩ : ∃ l2, l2 = behL A l j := ⟨_, rfl⟩
              have hT2b : T2 < 2 ^ 64 := by rw [hT2]; exact behT_lt HT.out (by omega)
              have hl2b : l2 = -1 ∨ ∃ i : Nat, l2 = i ∧ i < n := by rw [hl2]; exact behL_ok HL.out hlt
              have hlf : leftN A T2 ≤ k := by
                have h0 := left_beh (A := A) (T := T) (i := j) (by rw [HLN.out]; exact hlt) (follows_free HF.out.symm)
                have := HK.out
                rw [hT2]; omega
              have hN2 : N' + 13 ^ (k + 1) ≤ 10000000000000000 := by
                have h1 := HNN.out
                have h2 := HN.out
                have h3 : (j + 1) * 13 ^ (k + 1) ≤ 13 * 13 ^ (k + 1) := Nat.mul_le_mul_right _ (by omega)
                have h4 : 13 ^ (k + 1 + 1) = 13 * 13 ^ (k + 1) := by rw [Nat.pow_succ, Nat.mul_comm]
                rw [Nat.add_mul] at h3
                omega
              have KFR := fun V (hV : Below w6.heap.size w6 V) => IH.out T2 l2 N' V (S6.out.below hV) (D6.out.below hV) hlf hT2b hl2b hN2
              rw [← hT2, ← hl2] at KB
              have HT2 := Lib.hid (And.intro hT2 hl2)
              have HKFR := Lib.hid KFR
              clear b6 KF hT2 hl2 hT2b hl2b hlf hN2 KFR
              go_wp2_with fail
              (with_reducible refine KB.mono ?_)
              rintro e w7 ⟨rfl, b7⟩
              have K7 := HKFR.out w7 b7
              have n0 := cellBelow n0 b7
              have n1 := cellBelow n1 b7
              have q0 := cellBelow S6.out.c0 b7
              have S7 := Lib.hid (S6.out.below b7)
              have M7 := Lib.hid (D6.out.below b7).map
              have G7 := Lib.hid (grownBy_trans G6.out (grownBy_of_below b7 (some mb)))
              clear KB b7 HKFR
              go_wp2_with fail
              (with_reducible refine K7.mono ?_)
              rintro e w8 ⟨⟨N2, hN2, hD2⟩, hg8, ⟨r, ra, rc, hr, rfl, hro⟩ | ⟨hr, rfl⟩⟩
              · have G8 := Lib.hid (grownBy_trans G7.out hg8)
                have hlen : r.length ≤ 12 := by
                  have h1 := okPath_len (srch_some hr)
                  have h2 := leftN_le A T2
                  have := HLN.out
                  omega
                obtain ⟨rn, hrn⟩ : ∃ rn, rn = r.length := ⟨_, rfl⟩
                rw [← hrn] at hro hlen ⊢
                obtain ⟨e0, e1, e2⟩ := two_boxes w8 (.cells #[.int .i64 (j : Nat)] 3) (.cells #[.slice (some ⟨w8.heap.size, 0, none⟩) 1 1, .slice ra rn rc] 31)
                have hv1 : IntsV ((w8.alloc (.cells #[.int .i64 (j : Nat)] 3)).alloc (.cells #[.slice (some ⟨w8.heap.size, 0, none⟩) 1 1, .slice ra rn rc] 31)) (some ⟨w8.heap.size, 0, none⟩, 1, 1) [(j : Int)] :=
                  ⟨⟨rfl, fun _ => ⟨w8.heap.size, 0, rfl, fun i hi => by obtain rfl : i = 0 := (by simp only at hi; omega); exact cell_of_row _ _ 0 _ _ _ e0⟩⟩, by simp, by simp, fun h => nomatch h⟩
                have hv2 := (intsV_own hro (by omega)).below e2
                have KQ := concatI_two _ (w8.heap.size + 1) _ 1 1 _ ra rn rc _ (cell_of_row _ _ 0 _ _ _ e1) (cell_of_row _ _ 1 _ _ _ e1) hv1 hv2 (by omega)
                obtain ⟨L, hL⟩ : ∃ L, L = [(j : Int)] ++ cnL r := ⟨_, rfl⟩
                rw [← hL] at KQ
                have HRN := Lib.hid hrn
                have HL2 := Lib.hid hL
                have HE2 := Lib.hid e2
                have HR := Lib.hid hr
                have D8 := Lib.hid hD2
                have HN2 := Lib.hid hN2
                have HG8 := Lib.hid hg8
                clear hro hL hv1 hv2 e0 e1 e2 hr hD2 hN2 hg8 hrn HKEY
                go_wp2_with fail
                (with_reducible refine KQ.mono ?_)
                rintro e w9 ⟨ad9, cap9, rfl, o9, b9⟩
                have b89 : Below w8.heap.size w8 w9 := HE2.out.trans (b9.mono HE2.out.size)
                have D9 := Lib.hid (D8.out.below b89)
                have G9 := Lib.hid (grownBy_trans G8.out (grownBy_of_below b89 (some mb)))
                have O9 := Lib.hid o9
                clear b9 b89 o9 KQ
                go_wp2
                go_ret2
                refine ⟨⟨N2, ?_, D9.out⟩, grownBy_trans (grownBy_of_below BW.out (some mb)) G9.out, .inl ⟨j :: r, ad9, cap9, ?_, ?_, ?_⟩⟩
                · have h1 := HNN.out
                  have h2 := HN2.out
                  have h3 : (j + 1) * 13 ^ (k + 1) ≤ 13 * 13 ^ (k + 1) := Nat.mul_le_mul_right _ (by omega)
                  have h4 : 13 ^ (k + 1 + 1) = 13 * 13 ^ (k + 1) := by rw [Nat.pow_succ, Nat.mul_comm]
                  rw [Nat.add_mul] at h3
                  omega
                · refine srch_some_of HCP.out.symm (by rw [HLN.out]; exact hlt) (fun i hi hf => HZ.out i hi hf) HF.out.symm ?_
                  rw [← HT2.out.1, ← HT2.out.2]
                  exact HR.out
                · rw [HL2.out]; simp
                · have := O9.out
                  have hs1 := HE2.out.size
                  have hs2 := G8.out.size
                  have hs3 := BW.out.size
                  rw [HL2.out] at this
                  have e3 : ([(j : Int)] ++ cnL r).length = (j :: r).length := by simp
                  rw [e3] at this
                  exact ownsRow_baseJ this (by omega)
              · have D8 := Lib.hid hD2
                have HN2 := Lib.hid hN2
                have G8 := Lib.hid (grownBy_trans G7.out hg8)
                have HR := Lib.hid hr
                clear hr hD2 hN2 hg8
                go_wp2
                go_roundw
                case rel => exact ⟨j + 1, N2, by omega, by go_num, Lib.hid (fun i hi hfi => (by
                  by_cases e1 : i = j
                  · rw [e1, ← HT2.out.1, ← HT2.out.2]; exact HR.out
                  · exact HZ.out i (by omega) hfi)), Lib.hid (by have h1 := HNN.out; have h2 := HN2.out; rw [Nat.add_mul]; omega), D8, G8⟩
                case measure => simp [intOf]; omega
          · obtain rfl : j = n := by omega
            have hs : srch A T l = none := srch_none_of HCP.out.symm (by rw [HLN.out]; exact HZ.out)
            have HS := Lib.hid hs
            have q1 := SR.out.c1
            have HNE : Hid (N' + 1 ≤ N + 13 ^ (k + 1 + 1)) := Lib.hid (by
              have h1 := HNN.out
              have h3 : j * 13 ^ (k + 1) ≤ 12 * 13 ^ (k + 1) := Nat.mul_le_mul_right _ (by omega)
              have h4 : 13 ^ (k + 1 + 1) = 13 * 13 ^ (k + 1) := by rw [Nat.pow_succ, Nat.mul_comm]
              have h5 := pow13 (k + 1)
              omega)
            obtain ⟨D2, hown2, hdead2⟩ := HDM.out
            have HDE2 := Lib.hid hdead2
            have HO2 := Lib.hid hown2
            have hkey := HKEY.out
            clear hs hown2 hdead2 HDM HDEAD
            go_upto_region 14 with fail
            go_still_tail 6, (by kernel_rfl)
            go_wp2_with (first | (at_mapUpdate; refine wpList_mapUpdate_in _ rfl _ _ _ MapT rfl StT 89 stKeyed Try.underlying80 unitElem mb N' D2 rfl HO2.out.drew (by have h1 := HNE.out; have h2 := HN.out; unfold maxLen; omega) _ _ _ rfl rfl hkey (.agg []) [] unitElem_mk ?_; intro w1 hown1 hturn1))
            go_ret2
            exact ⟨⟨N' + 1, HNE.out, DeadM.put hkey HS.out HDE2.out hown1⟩, grownBy_trans (grownBy_trans (grownBy_of_below BW.out (some mb)) HG.out) (grownBy_trans (grownBy_of_below (Below.refl _ _).drew (some mb)) hturn1.grown), .inr ⟨HS.out, rfl⟩⟩
end Go.Proofs.Ytnefcbcioemfiaa
