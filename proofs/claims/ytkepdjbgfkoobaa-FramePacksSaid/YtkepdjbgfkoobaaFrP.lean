/-
  rilllaw07: FramePacks.
-/
import Derived.Test.YtkepdjbgfkoobaaFrQ
import Derived.Deep.RegionHeld3
namespace Go.Proofs.Ytkepdjbgfkoobaa
open Go.RowKit

theorem check_two (g : Nat) (a1 : Option Addr) (n1 c1 : Nat) (l1 : List Nat) (a2 : Option Addr) (n2 c2 : Nat) (l2 : List Nat) {v : Nat} (hv : v = crcN (l1 ++ l2)) (w : World) (hrv : RowV w (some ⟨g, 0, none⟩) 2 [.slice a1 n1 c1, .slice a2 n2 c2]) (h1 : BytesV w (a1, n1, c1) l1) (h2 : BytesV w (a2, n2, c2) l2) :
    Calls Try.prog 15 #[.slice (some ⟨g, 0, none⟩) 2 2] w fun e w' => e = .returned (.int .u32 (v : Nat)) ∧ w' = w := by
  subst hv
  have := check_any (some ⟨g, 0, none⟩) 2 2 [(a1, n1, c1), (a2, n2, c2)] [l1, l2] (by omega) w hrv (rowsV_cons h1 (rowsV_cons h2 (rowsV_nil _)))
  simpa using this
theorem rowV_two' (w : World) (v0 v1 : Value) (T : TypeId) : RowV (w.alloc (.cells #[v0, v1] T)) (some ⟨w.heap.size, 0, none⟩) 2 [v0, v1] := rowV_lit w _ T w.heap.size 2 _ rfl rfl rfl

theorem rowV_push2 {w w' : World} {v0 v1 : Value} {T : TypeId} (e : w'.heap = w.heap.push (.cells #[v0, v1] T (0, 0))) : RowV w' (some ⟨w.heap.size, 0, none⟩) 2 [v0, v1] := (rowV_two' w v0 v1 T).heap (e.trans rfl)
theorem BytesV.pushBelow {w w1 w' : World} {x : Option Addr × Nat × Nat} {l : List Nat} {o : Obj} (hb : Below w1.heap.size w1 w') (e : w1.heap = w.heap.push o) (h : BytesV w x l) : BytesV w' x l := (h.push e).below hb
theorem below_push {B : Nat} {w0 w w1 w' : World} {o : Obj} (h : Below B w0 w) (hB : B ≤ w.heap.size) (hb : Below w1.heap.size w1 w') (e : w1.heap = w.heap.push o) (e1 : w1.os = w.os) (e2 : w1.tape = w.tape) (e3 : w1.output = w.output) : Below B w0 w' := by
  have h1 := h.alloc hB o
  have h2 : Below B w0 w1 := ⟨e1.trans h1.os, e2.trans h1.tape, e3.trans h1.output, by rw [e]; exact h1.size, fun k hk => by rw [e]; exact h1.block k hk⟩
  exact h2.trans (hb.mono (by rw [e]; simp; omega))
theorem BytesV.belowB {B : Nat} {w w' : World} {x : Option Addr × Nat × Nat} {l : List Nat} (h : BytesV w x l) (hB : ∀ a, x.1 = some a → a.block < B) (hb : Below B w w') : BytesV w' x l := ⟨h.row.belowB hB hb, h.bytes, h.small, h.cap, h.nil⟩

set_option maxRecDepth 100000 in
set_option maxHeartbeats 8000000 in
theorem framePacks_walk (a1 : Option Addr) (n1 c1 : Nat) (la : List Nat) (a2 : Option Addr) (n2 c2 : Nat) (lb : List Nat) (w : World)
    (h1 : BytesV w (a1, n1, c1) la) (_s1 : n1 ≤ 140737488351232) (h2 : BytesV w (a2, n2, c2) lb) (_s2 : n2 ≤ 140737488351232) :
    Calls Try.prog 3 #[.slice a1 n1 c1, .slice a2 n2 c2] w fun e w' => e = .returned (.bool true) ∧ Below w.heap.size w w' := by
  have KA := alive_any
  obtain ⟨i0, hi, hz0, hz1, hz2⟩ := info_parts Try.info5
  by_cases big : 200000 < n1 + n2
  · have big' : (200000 : Int) < (n1 : Int) + (n2 : Int) := by omega
    go_enter Try.func3, Try.ntmps3
    go_wp2_with (go_at_call 10; (with_reducible refine (KA _).mono ?_); rintro e w1 ⟨rfl, hb1⟩)
    go_ret
    exact ⟨rfl, hb1⟩
  have l1 : la.length = n1 := h1.length
  have l2 : lb.length = n2 := h2.length
  have b1 := h1.bytes
  have b2 := h2.bytes
  have bab : Bytes (la ++ lb) := by
    intro x hx
    rcases List.mem_append.1 hx with h | h
    · exact b1 x h
    · exact b2 x h
  have sa : la.length ≤ 140737488355328 := by omega
  have sb : lb.length ≤ 140737488355328 := by omega
  have ssp : (spareB la).length ≤ 140737488355328 := by rw [spareB_length]; omega
  have lsp : n1 ≤ (spareB la).length := by rw [spareB_length]; omega
  have L1 := Lib.hid l1
  have L2 := Lib.hid l2
  have hfl : (frameN la).length = n1 + 8 := by rw [frameN_length, l1]
  have HFL := Lib.hid hfl
  have hfb : Bytes (frameN la) := frameN_bytes b1
  clear l1 l2 hfl
  obtain ⟨v, hv⟩ : ∃ v, v = crcN (la ++ lb) := ⟨_, rfl⟩
  have HV := Lib.hid hv
  have KR : ∀ {a n c} (w : World), BytesV w (a, n, c) (la ++ lb) → Calls Try.prog 16 #[.slice a n c] w fun e w' => e = .returned (.int .u32 (v : Nat)) ∧ w' = w := fun w h => by rw [hv]; exact refCheck_any _ _ _ _ w h
  clear hv
  go_enter Try.func3, Try.ntmps3
  go_wp2_with (go_at_call 10; (with_reducible refine (KA _).mono ?_); rintro e w1 ⟨rfl, hb⟩)
  clear KA
  have h1' := h1.below hb
  go_wp2_with fail
  (with_reducible refine (copyBytes_any _ _ _ la _ h1').mono ?_)
  rintro e w2 ⟨a3, c3, rfl, o3, b3⟩
  rw [L1.out] at o3 ⊢
  clear h1'
  have o3 := ownsRow_base o3 hb.size
  replace hb := hb.trans (b3.mono hb.size)
  have hr2 := (h2.below hb).row
  have hn2 := h2.nil
  simp only at hr2 hn2
  clear b3
  go_wp2_with (first | (at_builtin; refine wpList_append_row rfl (.tmp 21) (.tmp 22) 22 rfl w.heap.size 5 i0 (.int .u8 0) 1 Try.underlying22 hi hz0 hz1 hz2 rfl _ _ _ rfl o3 a2 n2 c2 (lb.map bv) rfl hr2 hn2 (bv_one _) (by simp [maxLen]; omega) (by omega) hb.size ?_; intro v' w3 o4 g4 _; have hb4 := below_grown hb g4 (ownBlock_ge o3); obtain ⟨a4, c4, rfl, _⟩ := ownsRow_parts o4; rw [← List.map_append] at o4; have hall := bytesV_of_owns o4 bab (by omega); clear g4 o4 o3 hr2 hn2 hi hz0 hz1 hz2 hb))
  have hb := hb4
  clear hb4
  replace h1 := h1.below hb
  replace h2 := h2.below hb
  go_wp2_with fail
  (with_reducible refine (spare_any _ _ _ la _ h1 (by omega)).mono ?_)
  rintro e w5 ⟨a5, c5, rfl, o5, b5⟩
  have hp := gives_reads o5 (spareB_bytes b1) ssp
  replace h1 := h1.below b5
  replace h2 := h2.below b5
  replace hall := hall.below b5
  replace hb := hb.trans (b5.mono hb.size)
  clear o5 b5
  have hq := hp.take lsp
  rw [show (spareB la).take n1 = la by have := spareB_take la; rwa [L1.out] at this] at hq
  have hz : (0 : Int) ≤ (n1 : Int) := by omega
  have hzc : n1 ≤ c5 := by have := hp.cap; simp only at this; omega
  have HSM : Hid (n1 + 8 ≤ 140737488355328) := Lib.hid (by omega)
  by_cases hn : 32768 < n1
  · have lx : ([] : List Nat).length ≤ 140737488355328 := by simp
    go_wp2_with fail
    (with_reducible refine (pack_long _ _ _ hn (by omega) _).mono ?_)
    rintro e w6 ⟨rfl, rfl⟩
    go_wp2_with fail
    (with_reducible refine (refPack_long _ _ _ hn (by omega) _).mono ?_)
    rintro e w7 ⟨rfl, rfl⟩
    have hx : BytesV w7 (none, 0, 0) [] := bytesV_empty (fun _ => rfl)
    go_wp2
    go_region_held3 (fun w' => True) (exact trivial)
      (first
        | (go_at_call 11; (with_reducible refine (copyBytes_any _ _ _ lb _ ?h).mono ?_); (case h => exact h2.heap rfl); rintro e wA ⟨aA, cA, rfl, oA, dA⟩; have bA : Below w7.heap.size w7 wA := ⟨dA.os, dA.tape, dA.output, dA.size, dA.block⟩; have hA := bytesV_of_owns oA b2 sb; have h1A := h1.below bA; have hpA := hp.below bA; have hqA := hq.below bA; have hallA := hall.below bA; have hxA := hx.below bA; have hyA := hx.below bA; have hbA := hb.trans (bA.mono hb.size))
        | (go_at_call 16; (with_reducible refine (KR _ ?h).mono ?_); (case h => first | exact hallA.push rfl | exact hallA.heap rfl | exact hall.heap rfl); rintro e w' ⟨rfl, rfl⟩)
        | (go_at_call 15; (with_reducible refine (check_two wA.heap.size a5 n1 c5 la aA lb.length cA lb HV.out _ ?h1 ?h2 ?h3).mono ?_); (case h1 => exact rowV_push2 rfl); (case h2 => exact hqA.push rfl); (case h3 => exact hA.push rfl); rintro e w' ⟨rfl, rfl⟩)
        | (go_at_call 17; (with_reducible refine (sameBytes_any _ _ _ [] _ _ _ [] _ ?h1 ?h2).mono ?_); (case h1 => exact hxA.push rfl); (case h2 => exact hyA.push rfl); rw [decide_eq_true rfl]; rintro e wD ⟨rfl, dD⟩; have hpD := BytesV.pushBelow dD rfl hpA; have h1D := BytesV.pushBelow dD rfl h1A; have hbD := below_push hbA hbA.size dD rfl rfl rfl rfl)
        | (go_at_call 12; (with_reducible refine (spare_any _ _ _ la _ ?h (by omega)).mono ?_); (case h => exact h1D.heap rfl); rintro e wE ⟨aE, cE, rfl, oE, dE⟩; have bE : Below wD.heap.size wD wE := ⟨dE.os, dE.tape, dE.output, dE.size, dE.block⟩; have hE := bytesV_of_owns oE (spareB_bytes b1) ssp; have hpE := hpD.below bE; have hbE := hbD.trans (bE.mono hbD.size))
        | (go_at_call 17; (with_reducible refine (sameBytes_any _ _ _ (spareB la) _ _ _ (spareB la) _ ?h1 ?h2).mono ?_); (case h1 => exact hpE.heap rfl); (case h2 => exact hE.heap rfl); rw [decide_eq_true rfl]; rintro e wF ⟨rfl, dF⟩; have bF : Below wE.heap.size wE wF := ⟨dF.os, dF.tape, dF.output, dF.size, dF.block⟩; have hbF := hbE.trans (bF.mono hbE.size)))
    all_goals go_wp2
    all_goals go_ret
    all_goals exact ⟨rfl, hbF⟩
  · have KP := fun a c w h => pack_any a n1 c la (by omega) w h
    have KQ := fun a c w h => refPack_any a n1 c la (by omega) w h
    go_wp2_with fail
    (with_reducible refine (KP _ _ _ hq).mono ?_)
    rintro e w6 ⟨a6, c6, rfl, o6, b6⟩
    have hx := bytesV_of_owns o6 hfb HSM.out
    replace h1 := h1.below b6
    replace h2 := h2.below b6
    replace hall := hall.below b6
    replace hp := hp.below b6
    replace hq := hq.below b6
    replace hb := hb.trans (b6.mono hb.size)
    clear o6 b6
    go_wp2_with fail
    (with_reducible refine (KQ _ _ _ h1).mono ?_)
    rintro e w7 ⟨a7, c7, rfl, o7, b7⟩
    have hy := bytesV_of_owns o7 hfb HSM.out
    replace h1 := h1.below b7
    replace h2 := h2.below b7
    replace hall := hall.below b7
    replace hp := hp.below b7
    replace hq := hq.below b7
    replace hx := hx.below b7
    replace hb := hb.trans (b7.mono hb.size)
    clear o7 b7
    go_wp2
    go_region_held3 (fun w' => True) (exact trivial)
      (first
        | (go_at_call 11; (with_reducible refine (copyBytes_any _ _ _ lb _ ?h).mono ?_); (case h => exact h2.heap rfl); rintro e wA ⟨aA, cA, rfl, oA, dA⟩; have bA : Below w7.heap.size w7 wA := ⟨dA.os, dA.tape, dA.output, dA.size, dA.block⟩; have hA := bytesV_of_owns oA b2 sb; have h1A := h1.below bA; have hpA := hp.below bA; have hqA := hq.below bA; have hallA := hall.below bA; have hxA := hx.below bA; have hyA := hy.below bA; have hbA := hb.trans (bA.mono hb.size))
        | (go_at_call 16; (with_reducible refine (KR _ ?h).mono ?_); (case h => first | exact hallA.push rfl | exact hallA.heap rfl | exact hall.heap rfl); rintro e w' ⟨rfl, rfl⟩)
        | (go_at_call 15; (with_reducible refine (check_two wA.heap.size a5 n1 c5 la aA lb.length cA lb HV.out _ ?h1 ?h2 ?h3).mono ?_); (case h1 => exact rowV_push2 rfl); (case h2 => exact hqA.push rfl); (case h3 => exact hA.push rfl); rintro e w' ⟨rfl, rfl⟩)
        | (go_at_call 17; (with_reducible refine (sameBytes_any _ _ _ (frameN la) _ _ _ (frameN la) _ ?h1 ?h2).mono ?_); (case h1 => exact hxA.push rfl); (case h2 => exact hyA.push rfl); rw [decide_eq_true rfl]; rintro e wD ⟨rfl, dD⟩; have hpD := BytesV.pushBelow dD rfl hpA; have h1D := BytesV.pushBelow dD rfl h1A; have hbD := below_push hbA hbA.size dD rfl rfl rfl rfl)
        | (go_at_call 12; (with_reducible refine (spare_any _ _ _ la _ ?h (by omega)).mono ?_); (case h => exact h1D.heap rfl); rintro e wE ⟨aE, cE, rfl, oE, dE⟩; have bE : Below wD.heap.size wD wE := ⟨dE.os, dE.tape, dE.output, dE.size, dE.block⟩; have hE := bytesV_of_owns oE (spareB_bytes b1) ssp; have hpE := hpD.below bE; have hbE := hbD.trans (bE.mono hbD.size))
        | (go_at_call 17; (with_reducible refine (sameBytes_any _ _ _ (spareB la) _ _ _ (spareB la) _ ?h1 ?h2).mono ?_); (case h1 => exact hpE.heap rfl); (case h2 => exact hE.heap rfl); rw [decide_eq_true rfl]; rintro e wF ⟨rfl, dF⟩; have bF : Below wE.heap.size wE wF := ⟨dF.os, dF.tape, dF.output, dF.size, dF.block⟩; have hbF := hbE.trans (bF.mono hbE.size)))
    all_goals go_wp2
    all_goals go_ret
    all_goals exact ⟨rfl, hbF⟩
end Go.Proofs.Ytkepdjbgfkoobaa
