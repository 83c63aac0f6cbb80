/-
  slices.Concat of slices of ints; CopyInts.
-/
import Derived.Test.YtnefcbcioemfiaaJdC
import Derived.Lib.AppendZerosOnto
namespace Go.Proofs.Ytnefcbcioemfiaa
open Go.RowKit

theorem infoIntJ : (Try.prog.info? 3).map (fun i => (i.zero, i.size, i.bytes)) = some (some (.int .i64 0), 1, 8) := by kernel_rfl
theorem infoU8J : (Try.prog.info? 5).map (fun i => (i.zero, i.size, i.bytes)) = some (some (.int .u8 0), 1, 1) := by kernel_rfl
theorem iv_onesJ (l : List Int) : ∀ u ∈ l.map iv, u.oneCell' = true := by
  intro u hu
  obtain ⟨x, _, rfl⟩ := List.mem_map.1 hu
  rfl
theorem alloc_sz' (w : World) (o : Obj) : (w.alloc o).heap.size = w.heap.size + 1 := by simp
def GivesInts (T : TypeId) (w0 : World) (l : List Int) (e : Ending) (w' : World) : Prop :=
  ∃ ad cap, e = .returned (.slice ad l.length cap) ∧ w'.ownsRow w0.heap.size T 1 (.slice ad l.length cap) l.length (l.map iv) ∧ Below w0.heap.size w0 w'
set_option maxHeartbeats 400000 in
theorem copyInts_any (ad : Option Addr) (n c : Nat) (l : List Int) (w : World) (h : IntsV w (ad, n, c) l) (hn8 : n * 8 ≤ 140737488355328) :
    Calls Try.prog 26 #[.slice ad n c] w (GivesInts 3 w l) := by
  obtain ⟨i0, hi, hz0, hz1, hz2⟩ := info_parts infoIntJ
  have hsm : n ≤ 140737488355328 := h.small
  have hl : l.length = n := h.length
  have hr := h.row.below (below_alloc w (.cells #[] 3))
  have hnil := h.nil
  have HL := Lib.hid hl
  have hown0 := World.ownsRow_made (base := w.heap.size) (e := 3) (size := 1) w #[] 0 (Nat.le_refl _) (by simp [maxLen]) rfl
  clear h hl
  go_enter Try.func26, Try.ntmps26
  go_wp2_with (first | (at_builtin; refine wpList_append_row rfl _ _ 31 rfl w.heap.size 3 i0 (.int .i64 0) 8 Try.underlying31 hi hz0 hz1 hz2 rfl _ _ _ rfl hown0 ad n c (l.map iv) rfl hr hnil (iv_onesJ l) (by simp [maxLen]; omega) (by omega) (by simp) ?_; intro v' w1 hown1 hgrow1 hnil1))
  obtain ⟨ad', cap', rfl, _⟩ := ownsRow_parts hown1
  have hb := below_grown (below_alloc w _) hgrow1 (ownBlock_ge hown0)
  simp only [Nat.zero_add, List.nil_append] at hown1 ⊢
  clear hgrow1 hnil1 hr
  go_wp2
  go_ret
  obtain rfl := HL.out
  exact ⟨ad', cap', rfl, hown1, hb⟩
/-- slices of ints, one by one. -/
def IntsRV (w : World) (hs : List (Option Addr × Nat × Nat)) (ls : List (List Int)) : Prop :=
  hs.length = ls.length ∧ ∀ (i : Nat) x l, hs[i]? = some x → ls[i]? = some l → IntsV w x l
theorem IntsRV.at {w : World} {hs : List (Option Addr × Nat × Nat)} {ls : List (List Int)} (h : IntsRV w hs ls) (i : Nat) (hi : i < hs.length) : ∃ x, hs[i]? = some x ∧ IntsV w x (ls.getD i []) := by
  refine ⟨hs[i], List.getElem?_eq_getElem hi, ?_⟩
  refine h.2 i _ _ (List.getElem?_eq_getElem hi) ?_
  rw [List.getD_eq_getElem?_getD, List.getElem?_eq_getElem (by rw [← h.1]; exact hi)]; rfl
theorem intsRV_two {w : World} {x y : Option Addr × Nat × Nat} {l m : List Int} (h : IntsV w x l) (k : IntsV w y m) : IntsRV w [x, y] [l, m] := by
  refine ⟨rfl, fun i z r h1 h2 => ?_⟩
  rcases i with _ | _ | i
  · simp at h1 h2; subst h1 h2; exact h
  · simp at h1 h2; subst h1 h2; exact k
  · simp at h1
set_option maxRecDepth 100000 in
set_option maxHeartbeats 1000000 in
theorem growI_nil (n : Nat) (hn : n ≤ 1000000000) (w : World) :
    Calls Try.prog 77 #[.slice none 0 0, .int .i64 n] w fun e w' => ∃ ad cap, e = .returned (.slice ad 0 cap) ∧ w'.ownsRow w.heap.size 3 1 (.slice ad 0 cap) 0 [] ∧ Below w.heap.size w w' := by
  obtain ⟨i0, hi, hz0, hz1, hz2⟩ := info_parts infoIntJ
  rcases Nat.eq_zero_or_pos n with h0 | h0
  · subst h0
    go_enter Try.func77, Try.ntmps77
    go_wp2
    go_ret
    exact ⟨none, 0, rfl, World.ownsRow_nil _ _ _ _, Below.refl _ _⟩
  · have hrz : ∀ ty, (Builtin.append_ #[31, 3] ty #[.slice none 0 0, .int .i64 (n : Int)]).run Try.prog w = _ := fun ty => Lib.run_append_nil_zeros w 31 3 ty 3 i0 (.int .i64 0) .i64 .i64 Try.underlying31 Try.underlying3 hi hz0 n h0 (by omega) (by omega) (by rw [hz2]; omega)
    have hGn : n ≤ grownCap w n 0 3 := grownCap_ge w _ _ _
    have hG63 := grownCap_le_maxLen w n 0 3 (by unfold maxLen; omega)
    obtain ⟨G, hG⟩ : ∃ G, G = grownCap w n 0 3 := ⟨_, rfl⟩
    rw [← hG] at hrz hGn hG63
    obtain ⟨cs, hcs⟩ : ∃ cs, cs = Builtin.zeroCells (Value.int IntKind.i64 0).cells n ++ Builtin.zeroCells (Value.int IntKind.i64 0).cells (G - n) := ⟨_, rfl⟩
    rw [← hcs] at hrz
    have hsz : cs.size = G * 1 := by
      rw [hcs]
      simp [Builtin.zeroCells, Value.cells]
      omega
    have hown : (w.drew.alloc (.cells cs 3)).ownsRow w.heap.size 3 1 (.slice (some ⟨w.heap.size, 0, none⟩) 0 G) 0 [] := World.ownsRow_made (base := w.heap.size) (e := 3) (size := 1) w.drew cs G (Nat.le_refl _) hG63 hsz
    have HG := Lib.hid hG
    unfold maxLen at hG63
    clear hG hcs hsz hi hz0 hz1 hz2
    go_enter Try.func77, Try.ntmps77
    go_wp2_with (at_builtin; refine Lib.wpList_append_run _ rfl _ _ _ _ rfl _ _ rfl rfl _ _ (hrz _) ?_)
    go_ret
    exact ⟨_, G, rfl, hown, (Below.refl _ _).drew.alloc (Nat.le_refl _) _⟩
theorem flatI_step (ls : List (List Int)) (k : Nat) (hk : k < ls.length) : (ls.take (k + 1)).flatten = (ls.take k).flatten ++ ls.getD k [] := by
  rw [List.take_succ_eq_append_getElem hk, List.flatten_append, List.getD_eq_getElem?_getD, List.getElem?_eq_getElem hk]
  simp
theorem flatI_len (ls : List (List Int)) (k : Nat) : (ls.take k).flatten.length ≤ ls.flatten.length := by
  conv => rhs; rw [← List.take_append_drop k ls, List.flatten_append, List.length_append]
  omega

set_option maxRecDepth 100000 in
set_option maxHeartbeats 2000000 in
theorem concatI_any (adv : Option Addr) (n cv : Nat) (hs : List (Option Addr × Nat × Nat)) (ls : List (List Int)) (hn : n ≤ 140737488351232) (w : World) (hv : RowV w adv n (hs.map SV)) (hr : IntsRV w hs ls) (tot : ls.flatten.length ≤ 1000000000) :
    Calls Try.prog 64 #[.slice adv n cv] w (GivesInts 3 w ls.flatten) := by
  obtain ⟨i0, hi, hz0, hz1, hz2⟩ := info_parts infoIntJ
  have hlen : hs.length = n := by have := hv.1; simpa using this
  have hll : ls.length = n := by rw [← hr.1, hlen]
  have HLEN := Lib.hid hlen
  have HLL := Lib.hid hll
  have KG := growI_nil
  clear hlen hll
  go_enter Try.func64, Try.ntmps64
  go_wp2
  go_loop [3, 11] (fun v i => ∃ k : Nat, k ≤ n ∧ i = .int .i64 k ∧ v = .int .i64 ((ls.take k).flatten.length : Nat)) (fun _ i => n - (intOf i).toNat)
  case atStart => exact ⟨0, Nat.zero_le _, rfl, rfl⟩
  case round =>
    obtain ⟨k, hk, rfl, rfl⟩ := hrel
    by_cases hlt : k < n
    · obtain ⟨x, hx, hb⟩ := hr.at k (by rw [HLEN.out]; exact hlt)
      have hS : (ls.take (k + 1)).flatten.length = (ls.take k).flatten.length + (ls.getD k []).length := by
        rw [flatI_step ls k (by rw [HLL.out]; exact hlt), List.length_append]
      have ht := flatI_len ls (k + 1)
      obtain ⟨b, o, e, hc⟩ := hv.2 (by omega)
      subst e
      have hcell := hc k hlt
      rw [List.getElem?_map, hx, Option.map_some] at hcell
      clear hc
      obtain ⟨v, hvv⟩ : ∃ v, v = (ls.take k).flatten.length := ⟨_, rfl⟩
      obtain ⟨ad, m, c⟩ := x
      have hln : (ls.getD k []).length = m := hb.length
      rw [← hvv] at hS ⊢
      rw [hln] at hS
      have hvm : v + m ≤ 1000000000 := by omega
      have HS := Lib.hid hS
      unfold SV at hcell
      simp only at hcell
      clear hS hvv hx hln ht
      go_wp2
      go_round
      case rel => exact ⟨k + 1, by omega, by go_num, by rw [HS.out]; go_num⟩
      case measure => simp [intOf]; omega
    · obtain rfl : k = n := by omega
      have e : (ls.take k).flatten = ls.flatten := by rw [List.take_of_length_le (by rw [HLL.out]; exact Nat.le_refl _)]
      rw [e]
      clear e
      obtain ⟨t, htt⟩ : ∃ t, t = ls.flatten.length := ⟨_, rfl⟩
      rw [← htt] at tot ⊢
      have HT := Lib.hid htt
      clear htt
      go_wp2_with (go_at_call 77; (with_reducible refine (KG t tot _).mono ?_); rintro e w1 ⟨ad1, cap1, rfl, hown1, hb1⟩)
      clear hi
      obtain ⟨i0, hi, hz0, hz1, hz2⟩ := info_parts infoIntJ
      go_loopw [6, 27] (fun v i wr => ∃ q : Nat, q ≤ k ∧ i = .int .i64 q ∧ (∃ ad cap, v = .slice ad (ls.take q).flatten.length cap) ∧ wr.ownsRow w.heap.size 3 1 v (ls.take q).flatten.length ((ls.take q).flatten.map iv) ∧ Below w.heap.size w wr) (fun _ i _ => k - (intOf i).toNat)
      case atStart => exact ⟨0, Nat.zero_le _, rfl, ⟨ad1, cap1, rfl⟩, hown1, hb1⟩
      case round =>
        obtain ⟨q, hq, rfl, ⟨ad, cap, rfl⟩, hown, hb⟩ := hrel
        clear hown1 hb1
        by_cases hqt : q < k
        · obtain ⟨x, hx, hbx⟩ := hr.at q (by rw [HLEN.out]; exact hqt)
          replace hbx := hbx.below hb
          have hS : (ls.take (q + 1)).flatten = (ls.take q).flatten ++ ls.getD q [] := flatI_step ls q (by rw [HLL.out]; exact hqt)
          have ht := flatI_len ls (q + 1)
          rw [← HT.out, hS, List.length_append] at ht
          obtain ⟨b, o, e, hc⟩ := (hv.below hb).2 (by omega)
          subst e
          have hcell := hc q hqt
          rw [List.getElem?_map, hx, Option.map_some] at hcell
          clear hc
          obtain ⟨p, hpp⟩ : ∃ p, p = (ls.take q).flatten := ⟨_, rfl⟩
          obtain ⟨l, hl⟩ : ∃ l, l = ls.getD q [] := ⟨_, rfl⟩
          obtain ⟨ad2, m, c2⟩ := x
          rw [← hpp] at hS ht hown ⊢
          rw [← hl] at hS ht hbx
          have hln : l.length = m := hbx.length
          rw [hln] at ht
          have hnil := hbx.nil
          have hrow := hbx.row
          simp only at hrow hnil
          have HS := Lib.hid hS
          have HLN := Lib.hid hln
          unfold SV at hcell
          simp only at hcell
          clear hS hpp hx hln hl hbx
          obtain ⟨pl, hpl⟩ : ∃ pl, pl = p.length := ⟨_, rfl⟩
          have HPL := Lib.hid hpl
          rw [← hpl] at hown ht ⊢
          clear hpl
          go_wp2_with (first | (at_builtin; refine wpList_append_row rfl _ _ 31 rfl w.heap.size 3 i0 (.int .i64 0) 8 Try.underlying31 hi hz0 hz1 hz2 rfl _ _ _ rfl hown ad2 m c2 (l.map iv) rfl hrow hnil (iv_onesJ l) (by simp [maxLen]; omega) (by omega) hb.size ?_; intro v' w2 hown2 hgrow2 hnil2))
          have hbb := below_grown hb hgrow2 (ownBlock_ge hown)
          obtain ⟨ad', cap', rfl, _⟩ := ownsRow_parts hown2
          have HO := Lib.hid hown2
          clear hown2 hgrow2 hnil2 hown hrow
          go_wp2
          go_roundw
          case rel =>
            have e1 : (ls.take (q + 1)).flatten.length = pl + m := by rw [HS.out, List.length_append, HLN.out, HPL.out]
            refine ⟨q + 1, by omega, by go_num, ⟨ad', cap', by rw [e1]⟩, ?_, hbb⟩
            rw [e1, HS.out, List.map_append]
            exact HO.out
          case measure => simp [intOf]; omega
        · obtain rfl : q = k := by omega
          have e : (ls.take q).flatten = ls.flatten := by rw [List.take_of_length_le (by rw [HLL.out]; exact Nat.le_refl _)]
          rw [e] at hown ⊢
          clear e
          go_wp2
          go_ret
          exact ⟨ad, cap, rfl, hown, hb⟩
theorem ownsRow_baseJ {w : World} {base base' : Nat} {T : TypeId} {v : Value} {n : Nat} {xs : List Value} (h : w.ownsRow base T 1 v n xs) (hb : base' ≤ base) : w.ownsRow base' T 1 v n xs := by
  obtain ⟨h1, h2⟩ := h
  refine ⟨h1, ?_⟩
  rcases h2 with h2 | ⟨g, cap, cur, h3, h4, h5⟩
  · exact .inl h2
  · exact .inr ⟨g, cap, cur, h3, by omega, h5⟩
theorem intsV_own {w : World} {base : Nat} {T : TypeId} {ad : Option Addr} {cap n : Nat} {l : List Int} (h : w.ownsRow base T 1 (.slice ad n cap) n (l.map iv)) (hs : n ≤ 140737488355328) : IntsV w (ad, n, cap) l := by
  obtain ⟨ad', cap', e, hcase, hnc, _, hrow⟩ := ownsRow_parts h
  cases e
  exact ⟨hrow, hs, hnc, fun e => by rcases hcase with ⟨_, _, hc⟩ | ⟨g, hg, _⟩; exact hc; rw [hg] at e; cases e⟩
/-- Concat of two. -/
theorem concatI_two (w : World) (p : Nat) (xa : Option Addr) (n1 c1 : Nat) (x : List Int) (ya : Option Addr) (n2 c2 : Nat) (y : List Int) (h0 : w.cell? ⟨p, 0, none⟩ = some (.slice xa n1 c1)) (h00 : w.cell? ⟨p, 1, none⟩ = some (.slice ya n2 c2)) (h1 : IntsV w (xa, n1, c1) x) (h2 : IntsV w (ya, n2, c2) y) (h3 : n1 + n2 ≤ 1000000000) :
    Calls Try.prog 64 #[.slice (some ⟨p, 0, none⟩) 2 2] w (GivesInts 3 w (x ++ y)) := by
  have hr : RowV w (some ⟨p, 0, none⟩) 2 ([(xa, n1, c1), (ya, n2, c2)].map SV) := ⟨rfl, fun _ => ⟨p, 0, rfl, fun i hi => by
    rcases i with _ | _ | i
    · exact h0
    · exact h00
    · omega⟩⟩
  have l1 : x.length = n1 := h1.length
  have l2 : y.length = n2 := h2.length
  have := concatI_any (some ⟨p, 0, none⟩) 2 2 [(xa, n1, c1), (ya, n2, c2)] [x, y] (by omega) w hr (intsRV_two h1 h2) (by simp; omega)
  rwa [show [x, y].flatten = x ++ y by simp] at this
end Go.Proofs.Ytnefcbcioemfiaa
