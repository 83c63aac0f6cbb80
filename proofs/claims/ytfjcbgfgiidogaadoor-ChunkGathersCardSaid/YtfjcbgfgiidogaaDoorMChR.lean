/-
  symbols copied.
-/
import Derived.Test.YtfjcbgfgiidogaaDoorMCh3
import Derived.Test.YtfjcbgfgiidogaaDoorMChP
namespace Go.Proofs.YtfjcbgfgiidogaaDoor
open Go.RowKit

theorem drewBelow (w : World) : Below w.heap.size w w.drew := ⟨rfl, rfl, rfl, Nat.le_refl _, fun _ _ => rfl⟩
set_option maxRecDepth 100000 in
set_option maxHeartbeats 8000000 in
theorem copySyms_own (pa : Option Addr) (pn pc : Nat) (ss : List Sy) (w : World) (h : SyV w pa pn ss) (hpn : pn ≤ 10000) :
    Calls Tryd.prog 28 #[.slice pa pn pc] w fun e w' => ∃ a c, e = .returned (.slice a pn c) ∧ OwnS w' w.heap.size a pn c ss ∧ Below w.heap.size w w' := by
  obtain ⟨i0, hpi, hz0, hz1, hz2⟩ := info_parts sinfo
  have HS := Lib.hid h
  have HL := Lib.hid h.len
  have HP : Hid (OwnS (w.alloc (.cells #[] ST3)) w.heap.size (some ⟨w.heap.size, 0, none⟩) 0 0 (ss.take 0)) := Lib.hid (OwnS.madeS (Nat.le_refl _))
  have HB := Lib.hid (below_alloc w (.cells #[] ST3))
  clear h
  go_enter Tryd.func28, Tryd.ntmps28
  go_upto_block 0 with fail
  generalize w.alloc (.cells #[] ST3) = w2 at HP HB ⊢
  go_wp2_with fail
  go_loopw [3, 4] (fun vp vi wr => ∃ (i : Nat) (av : Option Addr) (cv : Nat), i ≤ pn ∧ vi = .int .i64 (i : Nat) ∧ vp = .slice av i cv ∧ Hid (OwnS wr w.heap.size av i cv (ss.take i)) ∧ Hid (Below w.heap.size w wr)) (fun _ vi _ => (pn - intOf vi).toNat)
  case atStart => exact ⟨0, _, _, Nat.zero_le _, rfl, rfl, HP, HB⟩
  case round =>
    clear HP HB
    obtain ⟨i, av, cv, hi, rfl, rfl, hP, hB⟩ := hrel
    by_cases hlt : i < pn
    · obtain ⟨b, off, z, e, xa, xn, xc, l, rfl, q0, q1, q2, hpi', hby⟩ := HS.out.at hlt
      have K0 : wr.cell? ⟨b, off + i * 3, none⟩ = some (.int .i64 z) ∧ wr.cell? ⟨b, off + i * 3 + 1, none⟩ = some (.int .i64 e) ∧ wr.cell? ⟨b, off + i * 3 + 2, none⟩ = some (.slice xa xn xc) := ⟨cell_below q0 hB.out, cell_below q1 hB.out, cell_below q2 hB.out⟩
      have HQ := Lib.hid (And.intro q0 (And.intro q1 q2))
      have HBY := Lib.hid hby
      have HLX := Lib.hid (show l.length = xn from hby.length)
      have hxs := hby.small
      simp only at hxs
      have HT := Lib.hid (take_step ss i _ hpi')
      have hs6 := hB.out.size
      have j0' : (0 : Int) ≤ (i : Int) := by omega
      have j1' : (i : Int) < (pn : Int) := by omega
      clear q0 q1 q2 hpi' hby
      go_wp2_with fail
      refine GoX.start 20 (fun w' => w'.cell? ⟨b, off + i * 3, none⟩ = some (.int .i64 z) ∧ w'.cell? ⟨b, off + i * 3 + 1, none⟩ = some (.int .i64 e) ∧ w'.cell? ⟨b, off + i * 3 + 2, none⟩ = some (.slice xa xn xc)) (by kernel_rfl) ?_
      refine GoX.take 0 rfl (by kernel_rfl) (by kernel_rfl) (by rfl) (fun _ _ _ h => h) (v := ?tv0) K0 ?ty0 ?tr0
      case ty0 => (intro w hSw; (try dsimp only at hSw); go_simp; first | done | with_reducible rfl)
      simp only [Act.put, List.setIfInBounds_toArray, List.set_cons_zero, List.set_cons_succ]
      refine GoX.take 1 rfl (by kernel_rfl) (by kernel_rfl) (by rfl) (fun _ _ _ h => h) (v := ?tv1) K0 ?ty1 ?tr1
      case ty1 => (intro w hSw; (try dsimp only at hSw); go_simp; first | done | with_reducible rfl)
      simp only [Act.put, List.setIfInBounds_toArray, List.set_cons_zero, List.set_cons_succ]
      refine GoX.take 2 rfl (by kernel_rfl) (by kernel_rfl) (by rfl) (fun _ _ _ h => h) (v := ?tv2) K0 ?ty2 ?tr2
      case ty2 => (intro w hSw; (try dsimp only at hSw); go_simp; first | done | with_reducible rfl)
      simp only [Act.put, List.setIfInBounds_toArray, List.set_cons_zero, List.set_cons_succ]
      refine GoX.take 3 rfl (by kernel_rfl) (by kernel_rfl) (by rfl) (fun _ _ _ h => h) (v := ?tv3) K0 ?ty3 ?tr3
      case ty3 => (intro w hSw; (try dsimp only at hSw); go_simp; first | done | with_reducible rfl)
      simp only [Act.put, List.setIfInBounds_toArray, List.set_cons_zero, List.set_cons_succ]
      refine GoX.take 4 rfl (by kernel_rfl) (by kernel_rfl) (by rfl) (fun _ _ _ h => h) (v := ?tv4) K0 ?ty4 ?tr4
      case ty4 => (intro w hSw; (try dsimp only at hSw); go_simp; first | done | with_reducible rfl)
      simp only [Act.put, List.setIfInBounds_toArray, List.set_cons_zero, List.set_cons_succ]
      refine GoX.take 5 rfl (by kernel_rfl) (by kernel_rfl) (by rfl) (fun _ _ _ h => h) (v := ?tv5) K0 ?ty5 ?tr5
      case ty5 => (intro w hSw; (try dsimp only at hSw); go_simp; first | done | with_reducible rfl)
      simp only [Act.put, List.setIfInBounds_toArray, List.set_cons_zero, List.set_cons_succ]
      refine GoX.take 6 rfl (by kernel_rfl) (by kernel_rfl) (by rfl) (fun _ _ _ h => h) (v := ?tv6) K0 ?ty6 ?tr6
      case ty6 => (intro w hSw; (try dsimp only at hSw); go_simp; first | done | with_reducible rfl)
      simp only [Act.put, List.setIfInBounds_toArray, List.set_cons_zero, List.set_cons_succ]
      refine GoX.take 7 rfl (by kernel_rfl) (by kernel_rfl) (by rfl) (fun _ _ _ h => h) (v := ?tv7) K0 ?ty7 ?tr7
      case ty7 => (intro w hSw; (try dsimp only at hSw); go_simp; first | done | with_reducible rfl)
      simp only [Act.put, List.setIfInBounds_toArray, List.set_cons_zero, List.set_cons_succ]
      refine GoX.take 8 rfl (by kernel_rfl) (by kernel_rfl) (by rfl) (fun _ _ _ h => h) (v := ?tv8) K0 ?ty8 ?tr8
      case ty8 => (intro w hSw; (try dsimp only at hSw); go_simp; first | done | with_reducible rfl)
      simp only [Act.put, List.setIfInBounds_toArray, List.set_cons_zero, List.set_cons_succ]
      refine GoX.take 9 rfl (by kernel_rfl) (by kernel_rfl) (by rfl) (fun _ _ _ h => h) (v := ?tv9) K0 ?ty9 ?tr9
      case ty9 => (intro w hSw; (try dsimp only at hSw); go_simp; first | done | with_reducible rfl)
      simp only [Act.put, List.setIfInBounds_toArray, List.set_cons_zero, List.set_cons_succ]
      refine GoX.take 10 rfl (by kernel_rfl) (by kernel_rfl) (by rfl) (fun _ _ _ h => h) (v := ?tv10) K0 ?ty10 ?tr10
      case ty10 => (intro w hSw; (try dsimp only at hSw); go_simp; first | done | with_reducible rfl)
      simp only [Act.put, List.setIfInBounds_toArray, List.set_cons_zero, List.set_cons_succ]
      refine GoX.take 11 rfl (by kernel_rfl) (by kernel_rfl) (by rfl) (fun _ _ _ h => h) (v := ?tv11) K0 ?ty11 ?tr11
      case ty11 => (intro w hSw; (try dsimp only at hSw); go_simp; first | done | with_reducible rfl)
      simp only [Act.put, List.setIfInBounds_toArray, List.set_cons_zero, List.set_cons_succ]
      refine GoX.take 12 rfl (by kernel_rfl) (by kernel_rfl) (by rfl) (fun _ _ _ h => h) (v := ?tv12) K0 ?ty12 ?tr12
      case ty12 => (intro w hSw; (try dsimp only at hSw); go_simp; first | done | with_reducible rfl)
      simp only [Act.put, List.setIfInBounds_toArray, List.set_cons_zero, List.set_cons_succ]
      refine GoX.take 13 rfl (by kernel_rfl) (by kernel_rfl) (by rfl) (fun _ _ _ h => h) (v := ?tv13) K0 ?ty13 ?tr13
      case ty13 => (intro w hSw; (try dsimp only at hSw); go_simp; first | done | with_reducible rfl)
      simp only [Act.put, List.setIfInBounds_toArray, List.set_cons_zero, List.set_cons_succ]
      refine GoX.take 14 rfl (by kernel_rfl) (by kernel_rfl) (by rfl) (fun _ _ _ h => h) (v := ?tv14) K0 ?ty14 ?tr14
      case ty14 => (intro w hSw; (try dsimp only at hSw); go_simp; first | done | with_reducible rfl)
      simp only [Act.put, List.setIfInBounds_toArray, List.set_cons_zero, List.set_cons_succ]
      refine GoX.take 15 rfl (by kernel_rfl) (by kernel_rfl) (by rfl) (fun _ _ _ h => h) (v := ?tv15) K0 ?ty15 ?tr15
      case ty15 => (intro w hSw; (try dsimp only at hSw); go_simp; first | done | with_reducible rfl)
      simp only [Act.put, List.setIfInBounds_toArray, List.set_cons_zero, List.set_cons_succ]
      refine GoX.one 16 rfl (by kernel_rfl) (by decide) (fun K hK => ?_)
      rw [if_pos (by rfl)]
      go_simp
      (with_reducible refine (copyBytes_any xa xn xc l _ ?hh).mono ?_)
      case hh => exact (HBY.out.below hB.out).below (drewBelow wr)
      rintro e w5 ⟨a5, c5, rfl, o5, b5⟩
      rw [HLX.out] at o5 ⊢
      have b5' : Below wr.heap.size wr w5 := ⟨b5.os, b5.tape, b5.output, b5.size, b5.block⟩
      have K5 : w5.cell? ⟨b, off + i * 3, none⟩ = some (.int .i64 z) ∧ w5.cell? ⟨b, off + i * 3 + 1, none⟩ = some (.int .i64 e) ∧ w5.cell? ⟨b, off + i * 3 + 2, none⟩ = some (.slice xa xn xc) := ⟨cell_below K0.1 b5', cell_below K0.2.1 b5', cell_below K0.2.2 b5'⟩
      have hP5 := hP.out.below b5'
      have hb5 := hB.out.trans (b5'.mono hs6)
      refine hK.out _ _ K5 (fun _ => ?_)
      clear hK K
      refine GoX.take 17 rfl (by kernel_rfl) (by kernel_rfl) (by rfl) (fun _ _ _ h => h) (v := ?tv17) K5 ?ty17 ?tr17
      case ty17 => (intro w hSw; (try dsimp only at hSw); go_simp; first | done | with_reducible rfl)
      simp only [Act.put, List.setIfInBounds_toArray, List.set_cons_zero, List.set_cons_succ]
      have K6 : (w5.alloc (.cells #[.int .i64 z, .int .i64 e, .slice a5 xn c5] ST3)).cell? ⟨b, off + i * 3, none⟩ = some (.int .i64 z) ∧ (w5.alloc (.cells #[.int .i64 z, .int .i64 e, .slice a5 xn c5] ST3)).cell? ⟨b, off + i * 3 + 1, none⟩ = some (.int .i64 e) ∧ (w5.alloc (.cells #[.int .i64 z, .int .i64 e, .slice a5 xn c5] ST3)).cell? ⟨b, off + i * 3 + 2, none⟩ = some (.slice xa xn xc) := ⟨cell_below K5.1 (below_alloc _ _), cell_below K5.2.1 (below_alloc _ _), cell_below K5.2.2 (below_alloc _ _)⟩
      have hP6 := hP5.below (below_alloc w5 (.cells #[.int .i64 z, .int .i64 e, .slice a5 xn c5] ST3))
      have o6 := ownsRow_base (o5.alloc (.cells #[.int .i64 z, .int .i64 e, .slice a5 xn c5] ST3)) hs6
      have hb6 := hb5.alloc hb5.size (.cells #[.int .i64 z, .int .i64 e, .slice a5 xn c5] ST3)
      have hsb6 := hb6.size
      obtain ⟨h1, xs, h2, h3, h4⟩ := hP6
      refine GoX.one 18 rfl (by kernel_rfl) (by decide) (fun K hK => ?_)
      go_simp
      refine hK.out _ _ K6 (fun _ => ?_)
      clear hK K
      refine GoX.one 19 rfl (by kernel_rfl) (by decide) (fun K hK => ?_)
      refine step_append_lies _ rfl (.tmp 12) (.tmp 30) 37 rfl w.heap.size ST3 i0 (.agg #[.int .i64 0, .int .i64 0, .slice none 0 0]) 3 40 Tryd.underlying37 hpi hz0 hz1 hz2 rfl (by decide) (.slice av i cv) i (scells xs) (by rfl) h3 ⟨w5.heap.size, 0, none⟩ 1 1 [.int .i64 z, .int .i64 e, SV (a5, xn, c5)] (by rfl) (by rfl) (World.news_of_block (heap_alloc_new w5 _)) (by intro u hu; simp at hu; rcases hu with rfl | rfl | rfl <;> rfl) (by decide) (by simp [maxLen]; omega) (by omega) hsb6 _ rfl ?_
      intro g9 c9 w9 hE9 g9' lie9 _
      have gg : (w5.alloc (.cells #[.int .i64 z, .int .i64 e, .slice a5 xn c5] ST3)).grownBy w9 (Value.slice av i cv).ownBlock := ⟨g9'.os, g9'.tape, g9'.output, g9'.size, g9'.block⟩
      have hb9 := below_grown hb6 gg (ownBlock_ge h3)
      have K9 : w9.cell? ⟨b, off + i * 3, none⟩ = some (.int .i64 z) ∧ w9.cell? ⟨b, off + i * 3 + 1, none⟩ = some (.int .i64 e) ∧ w9.cell? ⟨b, off + i * 3 + 2, none⟩ = some (.slice xa xn xc) := ⟨cell_below HQ.out.1 hb9, cell_below HQ.out.2.1 hb9, cell_below HQ.out.2.2 hb9⟩
      have hO := sy_append h2 h1 h3 h4 (y := (a5, xn, c5)) (l := l) (z := z) (e := e) (by rw [HLX.out]; exact o6) HLX.out.symm ⟨HBY.out.bytes, by rw [HLX.out]; exact HBY.out.small⟩ hE9 gg
      rw [← HT.out] at hO
      have HO := Lib.hid hO
      have HB9 := Lib.hid hb9
      refine hK.out _ _ K9 (fun _ => ?_)
      clear hK K gg hb9 hO hE9 g9' lie9 h3 h4 K5 K6 hP5 o6 hb6 hb5 b5 b5' o5
      simp only [Act.put, List.setIfInBounds_toArray, List.set_cons_zero, List.set_cons_succ]
      refine GoX.last 20 rfl (by kernel_rfl) (by kernel_rfl) (by decide) ?_
      go_wp2
      go_roundw
      case rel => exact ⟨i + 1, _, _, by omega, by go_num, rfl, HO, HB9⟩
      case measure => simp [intOf] <;> omega
    · obtain rfl : i = pn := by omega
      have hO := hP.out
      rw [List.take_of_length_le (by rw [HL.out]; exact Nat.le_refl _)] at hO
      go_wp2
      go_ret
      exact ⟨_, _, rfl, hO, hB.out⟩
end Go.Proofs.YtfjcbgfgiidogaaDoor
