/-
  slices: Grow of nil and Concat, of rows of bytes.
-/
import Derived.Test.YthofndobmiamjaaDoorShE
namespace Go.Proofs.YthofndobmiamjaaDoor
open Go.RowKit

abbrev Hd3 := Option Addr × Nat × Nat
theorem takeF {α : Type} (ls : List (List α)) (k : Nat) (y : List α) (h : ls[k]? = some y) : (ls.take (k + 1)).flatten = (ls.take k).flatten ++ y := by
  rw [List.take_add_one, h, List.flatten_append]
  simp
theorem takeF_le {α : Type} (ls : List (List α)) (k : Nat) : (ls.take k).flatten.length ≤ ls.flatten.length := by
  conv => rhs; rw [← List.take_append_drop k ls, List.flatten_append, List.length_append]
  exact Nat.le_add_right _ _
structure RwV (w : World) (x : Hd3) (js : List Hd3) : Prop where
  row : RowV w x.1 x.2.1 (js.map SV)
  nil : x.1 = none → x.2.2 = 0
theorem RwV.below {w w' : World} {x : Hd3} {js : List Hd3} (h : RwV w x js) (hb : Below w.heap.size w w') : RwV w' x js := ⟨h.row.below hb, h.nil⟩
set_option maxRecDepth 100000 in
set_option maxHeartbeats 1000000 in
theorem growRows_nil (n : Nat) (hn : n * 24 ≤ 140737488355328) (w : World) :
    Calls Tryd.prog 43 #[.slice none 0 0, .int .i64 n] w fun e w' => ∃ ad cap, e = .returned (.slice ad 0 cap) ∧ w'.ownsRow w.heap.size 24 1 (.slice ad 0 cap) 0 [] ∧ Below w.heap.size w w' := by
  obtain ⟨i0, hi, hz0, hz1, hz2⟩ := info_parts Tryd.info24
  rcases Nat.eq_zero_or_pos n with h0 | h0
  · subst h0
    go_enter Tryd.func43, Tryd.ntmps43
    go_wp2
    go_ret
    exact ⟨none, 0, rfl, World.ownsRow_nil _ _ _ _, Below.refl _ _⟩
  · have hrz : ∀ ty, (Builtin.append_ #[22, 3] ty #[.slice none 0 0, .int .i64 (n : Int)]).run Tryd.prog w = _ := fun ty => Lib.run_append_nil_zeros w 22 3 ty 24 i0 (.slice none 0 0) .i64 .i64 Tryd.underlying22 Tryd.underlying3 hi hz0 n h0 (by omega) (by omega) (by rw [hz2]; omega)
    have hGn : n ≤ grownCap w n 0 24 := grownCap_ge w _ _ _
    have hG63 := grownCap_le_maxLen w n 0 24 (by unfold maxLen; omega)
    obtain ⟨G, hG⟩ : ∃ G, G = grownCap w n 0 24 := ⟨_, rfl⟩
    rw [← hG] at hrz hGn hG63
    obtain ⟨cs, hcs⟩ : ∃ cs, cs = Builtin.zeroCells (Value.slice none 0 0).cells n ++ Builtin.zeroCells (Value.slice none 0 0).cells (G - n) := ⟨_, rfl⟩
    rw [← hcs] at hrz
    have hsz : cs.size = G * 1 := by
      rw [hcs]
      simp [Builtin.zeroCells, Value.cells]
      omega
    have hown : (w.drew.alloc (.cells cs 24)).ownsRow w.heap.size 24 1 (.slice (some ⟨w.heap.size, 0, none⟩) 0 G) 0 [] := World.ownsRow_made (base := w.heap.size) (e := 24) (size := 1) w.drew cs G (Nat.le_refl _) hG63 hsz
    have HG := Lib.hid hG
    unfold maxLen at hG63
    clear hG hcs hsz hi hz0 hz1 hz2
    go_enter Tryd.func43, Tryd.ntmps43
    go_wp2_with (at_builtin; refine Lib.wpList_append_run _ rfl _ _ _ _ rfl _ _ rfl rfl _ _ (hrz _) ?_)
    go_ret
    exact ⟨_, G, rfl, hown, (Below.refl _ _).drew.alloc (Nat.le_refl _) _⟩
set_option maxRecDepth 100000 in
set_option maxHeartbeats 4000000 in
theorem concat_any (ra : Option Addr) (n rc : Nat) (rs : List Hd3) (Ls : List (List Hd3)) (w : World) (hr : RowV w ra n (rs.map SV)) (hn : n ≤ 1000) (hl : rs.length = Ls.length) (hv : ∀ (i : Nat) x js, rs[i]? = some x → Ls[i]? = some js → RwV w x js) (ht : Ls.flatten.length * 24 ≤ 140737488355328) :
    Calls Tryd.prog 29 #[.slice ra n rc] w fun e w' => ∃ ad cap, e = .returned (.slice ad Ls.flatten.length cap) ∧ w'.ownsRow w.heap.size 24 1 (.slice ad Ls.flatten.length cap) Ls.flatten.length (Ls.flatten.map SV) ∧ Below w.heap.size w w' := by
  obtain ⟨i0, hi, hz0, hz1, hz2⟩ := info_parts Tryd.info24
  have hhs : rs.length = n := by have := hr.1; simpa using this
  have hls : Ls.length = n := by rw [← hl, hhs]
  have HLS := Lib.hid hls
  have HHS := Lib.hid hhs
  have HR := Lib.hid hr
  have HV := Lib.hid hv
  obtain ⟨T, hT⟩ : ∃ T, T = Ls.flatten.length := ⟨_, rfl⟩
  have HT := Lib.hid hT
  rw [← hT] at ht ⊢
  clear hls hhs hr hv hT hl
  go_enter Tryd.func29, Tryd.ntmps29
  go_wp2
  go_loopw [3, 11] (fun v i wr => ∃ k m : Nat, k ≤ n ∧ i = .int .i64 (k : Nat) ∧ v = .int .i64 (m : Nat) ∧ m = (Ls.take k).flatten.length ∧ wr = w) (fun _ i _ => (n - intOf i).toNat)
  case atStart => exact ⟨0, 0, Nat.zero_le _, rfl, rfl, rfl, rfl⟩
  case round =>
    obtain ⟨k, m, hk, rfl, rfl, hm, rfl⟩ := hrel
    have HM := Lib.hid hm
    have hmT : m ≤ T := by rw [hm, HT.out]; exact takeF_le _ _
    clear hm
    by_cases hlt : k < n
    · obtain ⟨b, off, rfl, hc⟩ := HR.out.2 (by omega)
      obtain ⟨x, hxe⟩ : ∃ x, rs[k]? = some x := ⟨_, List.getElem?_eq_getElem (by rw [HHS.out]; exact hlt)⟩
      obtain ⟨y, hye⟩ : ∃ y, Ls[k]? = some y := ⟨_, List.getElem?_eq_getElem (by rw [HLS.out]; exact hlt)⟩
      have hxr := HV.out k x y hxe hye
      obtain ⟨a, l, c⟩ := x
      have hcell : wr.cell? ⟨b, off + k, Option.none⟩ = some (.slice a l c) := by rw [hc k hlt, List.getElem?_map, hxe]; rfl
      have hyl : y.length = l := by have := hxr.row.1; simpa using this
      have hm1 : m + l = (Ls.take (k + 1)).flatten.length := by rw [takeF Ls k _ hye, List.length_append, ← HM.out, hyl]
      have hm1T : m + l ≤ T := by rw [hm1, HT.out]; exact takeF_le _ _
      have HM1 := Lib.hid hm1
      clear hc hxe hxr hye hyl hm1
      go_wp2
      go_roundw
      case rel => exact ⟨k + 1, m + l, by omega, by go_num, by go_num, HM1.out, by trivial⟩
      case measure => simp [intOf]; omega
    · obtain rfl : k = n := by omega
      obtain rfl : m = T := by
        have := HM.out
        rw [List.take_of_length_le (by rw [HLS.out]; omega), ← HT.out] at this
        exact this
      go_wp2_with fail
      (with_reducible refine (growRows_nil m ht wr).mono ?_)
      rintro e w1 ⟨a1, c1, rfl, hown1, hb1⟩
      go_wp2
      go_loopw [6, 27] (fun v i wq => ∃ j : Nat, j ≤ k ∧ i = .int .i64 (j : Nat) ∧ wq.ownsRow wr.heap.size 24 1 v (Ls.take j).flatten.length ((Ls.take j).flatten.map SV) ∧ Below wr.heap.size wr wq) (fun _ i _ => (k - intOf i).toNat)
      case atStart => exact ⟨0, Nat.zero_le _, rfl, hown1, hb1⟩
      case round =>
        clear hown1 hb1
        rename World => wq
        obtain ⟨j, hj, rfl, hown, hb⟩ := hrel
        obtain ⟨ad2, cap, rfl, hcase, _⟩ := ownsRow_parts hown
        have hbs := hb.size
        by_cases hlt2 : j < k
        · obtain ⟨b, off, rfl, hc⟩ := HR.out.2 (by omega)
          obtain ⟨x, hxe⟩ : ∃ x, rs[j]? = some x := ⟨_, List.getElem?_eq_getElem (by rw [HHS.out]; exact hlt2)⟩
          obtain ⟨y, hye⟩ : ∃ y, Ls[j]? = some y := ⟨_, List.getElem?_eq_getElem (by rw [HLS.out]; exact hlt2)⟩
          have hxr := (HV.out j x y hxe hye).below hb
          obtain ⟨a, l, c⟩ := x
          have hbw : b < wr.heap.size := HR.out.lt (by omega) rfl
          have hcell : wq.cell? ⟨b, off + j, Option.none⟩ = some (.slice a l c) := by rw [hb.cell hbw, hc j hlt2, List.getElem?_map, hxe]; rfl
          have hyl : y.length = l := by have := hxr.row.1; simpa using this
          have hfl := takeF Ls j _ hye
          have hq : (Ls.take (j + 1)).flatten.length ≤ m := by rw [HT.out]; exact takeF_le _ _
          rw [hfl, List.length_append, hyl] at hq
          obtain ⟨q, hqe⟩ : ∃ q, q = (Ls.take j).flatten.length := ⟨_, rfl⟩
          have HFL := Lib.hid hfl
          have HQ := Lib.hid hqe
          have HYL := Lib.hid hyl
          have HXR := Lib.hid hxr
          rw [← hqe] at hown hq ⊢
          clear hc hxe hxr hye hyl hfl hqe
          go_wp2_with (first | (at_builtin; refine wpList_append_row rfl (.tmp 31) (.tmp 32) 22 rfl wr.heap.size 24 i0 (.slice Option.none 0 0) 24 Tryd.underlying22 hi hz0 hz1 hz2 rfl _ _ _ rfl hown a l c (y.map SV) rfl HXR.out.row HXR.out.nil (SV_one y) (by simp [maxLen]; omega) (by omega) (by omega) ?_; intro v' w2 hown2 hgrow2 _))
          have hb2 := below_grown hb hgrow2 (ownBlock_ge hown)
          clear hgrow2
          go_wp2
          go_roundw
          case rel =>
            refine ⟨j + 1, by omega, by go_num, ?_, hb2⟩
            rw [HFL.out, List.length_append, HYL.out, List.map_append, ← HQ.out]
            exact hown2
          case measure => simp [intOf]; omega
        · obtain rfl : j = k := by omega
          rw [List.take_of_length_le (by rw [HLS.out]; omega), ← HT.out] at hown
          go_wp2
          go_ret
          rw [List.take_of_length_le (by rw [HLS.out]; omega), ← HT.out]
          exact ⟨_, _, rfl, hown, hb⟩
end Go.Proofs.YthofndobmiamjaaDoor
