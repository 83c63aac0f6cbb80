/-
  sha: what stands behind the parts.
-/
import Derived.Test.YthofndobmiamjaaDoorShD
import Derived.Test.YthofndobmiamjaaDoorUse2
import Derived.Lib.AppendZerosOnto
import Derived.Laws.OwnMore
namespace Go.Proofs.YthofndobmiamjaaDoor
open Go.RowKit

theorem take_flat (ls : List (List Nat)) (k : Nat) (y : List Nat) (h : ls[k]? = some y) : (ls.take (k + 1)).flatten = (ls.take k).flatten ++ y := by
  rw [take_step ls k y h, List.flatten_append]
  simp
theorem flat_take_le (ls : List (List Nat)) (k : Nat) : (ls.take k).flatten.length ≤ ls.flatten.length := by
  conv => rhs; rw [← List.take_append_drop k ls, List.flatten_append, List.length_append]
  exact Nat.le_add_right _ _
theorem byte_at (m j : Nat) (h : j < 8) : 8 * (m : Int) / 2 ^ (56 - 8 * j) % 256 = ((8 * m / 256 ^ (7 - j) % 256 : Nat) : Int) := by
  have e : (256 : Nat) ^ (7 - j) = 2 ^ (56 - 8 * j) := by
    rw [show (256 : Nat) = 2 ^ 8 from rfl, ← Nat.pow_mul]
    congr 1
    omega
  rw [e]
  simp
theorem zeros_is (k : Nat) : Builtin.zeroCells (Value.int IntKind.u8 0).cells k = ((List.replicate k 0).map bv).toArray := by
  apply Array.ext (by simp [Builtin.zeroCells, Value.cells])
  intro i h1 h2
  simp [Builtin.zeroCells, Value.cells, bv, Nat.mod_one]
/-- a hundred and twenty-eight, and noughts. -/
theorem wpList_append_zeros {w : World} {ops : Array Oper} {rest : List Oper} {o : Oper} {a : Act} {Q : Exit → Act → World → Prop} (hgd : o.guard = none) (s x : Operand)
    (ho : o.op = .call { callee := .builtin .append, args := #[s, x], argTypes := #[24, 3] })
    (g k : Nat) (hs : a.eval s = .slice (some ⟨g, 0, none⟩) 1 1) (hx : a.eval x = .int .i64 (k : Nat)) (hg : w.heap[g]? = some (.cells #[.int .u8 128] 5 (0, 0))) (hk : k < 64)
    (base : Nat) (hb : base ≤ g)
    (h : ∀ v' w', w'.ownsRow base 5 1 v' (1 + k) ((128 :: List.replicate k 0).map bv) → Below w.heap.size w w' → wpList Tryd.prog ops Q rest (a.put o.dst v') w') : wpList Tryd.prog ops Q (o :: rest) a w := by
  obtain ⟨i0, hi, hz0, hz1, hz2⟩ := info_parts Tryd.info5
  have hgl := (Array.getElem?_eq_some_iff.1 hg).1
  rcases Nat.eq_zero_or_pos k with h0 | h0
  · subst h0
    refine Lib.wpList_append_run _ hgd s x 24 3 ho (.slice (some ⟨g, 0, none⟩) 1 1) (.int .i64 0) hs hx (.slice (some ⟨g, 0, none⟩) 1 1) w ?_ ?_
    · have hw : IntKind.i64.wrap (0 : Int) = 0 := rfl
      simp [Builtin.append_, run_underlying Tryd.underlying24, run_underlying Tryd.underlying3, sizeOf, typeInfo, zeroValue, hi, hz0, asInt, asIntOf, hw, Question.forced]
      rfl
    · exact h _ _ ⟨rfl, .inr ⟨g, 1, _, rfl, hb, hg, Nat.le_refl _, by simp [maxLen], rfl, rfl⟩⟩ (Below.refl _ _)
  · have hfc : (Builtin.firstCells i0.size 1 (.slice (some ⟨g, 0, none⟩) 1 1)).run Tryd.prog w.drew = .ok (#[Value.int .u8 128] : Array Value).toList.toArray w.drew := by
      rw [hz1]
      show (loadCells ⟨g, 0, none⟩ (1 * 1)).run Tryd.prog w.drew = _
      refine run_loadCells_list _ ⟨g, 0, none⟩ [Value.int .u8 128] (fun j v hj => ?_)
      have hg' : w.drew.heap[g]? = some (.cells #[.int .u8 128] 5 (0, 0)) := hg
      cases j with
      | zero => simp at hj; subst hj; exact cell_of_row _ _ 0 _ _ _ hg'
      | succ j => simp at hj
    have hrun := Lib.run_append_grow_zeros (P := Tryd.prog) w 24 3 o.type 5 i0 (.int .u8 0) .i64 .i64 Tryd.underlying24 Tryd.underlying3 hi hz0 (some ⟨g, 0, none⟩) 1 1 _ hfc k h0 (by omega) (by omega) (by omega) (by rw [hz2]; omega) (by rw [hz2]; unfold Builtin.nextslicecap; split; omega; rw [if_pos (by decide)]; omega)
    have hGn : 1 + k ≤ grownCap w (1 + k) 1 5 := grownCap_ge w _ _ _
    have hG63 := grownCap_le_maxLen w (1 + k) 1 5 (by unfold maxLen; omega)
    refine Lib.wpList_append_run _ hgd s x 24 3 ho (.slice (some ⟨g, 0, none⟩) 1 1) (.int .i64 k) hs hx _ _ hrun ?_
    refine h _ _ ⟨by simp; omega, .inr ⟨w.heap.size, _, _, rfl, by omega, heap_alloc_new w.drew _, hGn, hG63, ?_, ?_⟩⟩ ((Below.refl _ _).drew.alloc (Nat.le_refl _) _)
    · rw [zeros_is, zeros_is]
      simp
      omega
    · rw [zeros_is, zeros_is]
      rw [Nat.mul_one, Array.toList_append, List.take_append_of_le_length (by simp; omega), List.take_of_length_le (by simp; omega)]
      simp [bv]
set_option maxRecDepth 100000 in
set_option maxHeartbeats 4000000 in
theorem ending_any (ad : Option Addr) (n c : Nat) (hs : List (Option Addr × Nat × Nat)) (ls : List (List Nat)) (w : World) (hr : RowV w ad n (hs.map SV)) (hn : n ≤ 140737488355328) (hv : RowsV w hs ls) (ht : ls.flatten.length ≤ 140737488355328) :
    Calls Tryd.prog 30 #[.slice ad n c] w (GivesBytes 5 w (endR ls.flatten.length)) := by
  obtain ⟨i0, hi, hz0, hz1, hz2⟩ := info_parts Tryd.info5
  have hhs : hs.length = n := by have := hr.1; simpa using this
  have hls : ls.length = n := by rw [← hv.1, hhs]
  have HLS := Lib.hid hls
  have HHS := Lib.hid hhs
  have HR := Lib.hid hr
  have HV := Lib.hid hv
  obtain ⟨T, hT⟩ : ∃ T, T = ls.flatten.length := ⟨_, rfl⟩
  have HT := Lib.hid hT
  rw [← hT] at ht ⊢
  clear hls hhs hr hv hT
  go_enter Tryd.func30, Tryd.ntmps30
  go_wp2
  go_loopw [3, 11] (fun v i wr => ∃ k m : Nat, k ≤ n ∧ i = .int .i64 (k : Nat) ∧ v = .int .i64 (m : Nat) ∧ m = (ls.take k).flatten.length ∧ wr = w) (fun _ i _ => (n - intOf i).toNat)
  case atStart => exact ⟨0, 0, Nat.zero_le _, rfl, rfl, rfl, rfl⟩
  case round =>
    obtain ⟨k, m, hk, rfl, rfl, hm, rfl⟩ := hrel
    have HM := Lib.hid hm
    have hmT : m ≤ T := by rw [hm, HT.out]; exact flat_take_le _ _
    clear hm
    by_cases hlt : k < n
    · obtain ⟨b, off, rfl, hc⟩ := HR.out.2 (by omega)
      obtain ⟨x, hxe, hxr⟩ := HV.out.at k (by rw [HHS.out]; exact hlt)
      obtain ⟨a, l, c⟩ := x
      have hcell : wr.cell? ⟨b, off + k, Option.none⟩ = some (.slice a l c) := by rw [hc k hlt, List.getElem?_map, hxe]; rfl
      have hyk : ls[k]? = some (ls.getD k []) := by
        rw [List.getD_eq_getElem?_getD, List.getElem?_eq_getElem (by rw [HLS.out]; exact hlt)]; rfl
      have hyl : (ls.getD k []).length = l := hxr.length
      have hm1 : m + l = (ls.take (k + 1)).flatten.length := by rw [take_flat ls k _ hyk, List.length_append, ← HM.out, hyl]
      have hm1T : m + l ≤ T := by rw [hm1, HT.out]; exact flat_take_le _ _
      have HM1 := Lib.hid hm1
      clear hc hxe hxr hyk hyl hm1
      go_wp2
      go_roundw
      case rel => exact ⟨k + 1, m + l, by omega, by go_num, by go_num, HM1.out, by trivial⟩
      case measure => simp [intOf]; omega
    · obtain rfl : k = n := by omega
      obtain rfl : m = T := by
        have := HM.out
        rw [List.take_of_length_le (by rw [HLS.out]; omega), ← HT.out] at this
        exact this
      have hz : (119 - (m : Int) % 64) % 64 = (((119 - m % 64) % 64 : Nat) : Int) := by omega
      obtain ⟨z, hze⟩ : ∃ z, z = (119 - m % 64) % 64 := ⟨_, rfl⟩
      rw [← hze] at hz
      have hz64 : z < 64 := by omega
      have HZ := Lib.hid hze
      clear hze
      go_upto_region 8 with fail
      rw [hz]
      clear hz
      go_wp2_with (first | (at_builtin; refine wpList_append_zeros rfl (.tmp 24) (.tmp 25) rfl wr.heap.size z rfl rfl (heap_alloc_new wr _) hz64 wr.heap.size (Nat.le_refl _) ?_; intro v7 w1 hown1 hb1))
      have hbel := (below_alloc wr (.cells #[.int .u8 128] 5)).trans (hb1.mono (by simp))
      clear hb1
      go_loopw [7, 8] (fun v i wq => ∃ j : Nat, j ≤ 8 ∧ i = .int .i64 (56 - 8 * (j : Int)) ∧ wq.ownsRow wr.heap.size 5 1 v (1 + z + j) ((128 :: (List.replicate z 0 ++ (List.range j).map fun i => 8 * m / 256 ^ (7 - i) % 256)).map bv) ∧ Below wr.heap.size wr wq) (fun _ i _ => (intOf i + 8).toNat)
      case atStart => exact ⟨0, by omega, rfl, by simpa using hown1, hbel⟩
      case round =>
        clear hown1 hbel
        rename World => wq
        obtain ⟨j, hj, rfl, hown, hb⟩ := hrel
        obtain ⟨ad2, cap, rfl, hcase, _⟩ := ownsRow_parts hown
        have hbs := hb.size
        by_cases hlt2 : j < 8
        · obtain ⟨d, hd⟩ : ∃ d, d = 8 * m / 256 ^ (7 - j) % 256 := ⟨_, rfl⟩
          have HD := Lib.hid hd
          clear hd
          go_upto_region 12 with fail
          go_wp2_with (first | (at_builtin; refine Hid.out ?_))
          refine Lib.hid ?_
          have hval : 8 * (m : Int) / 2 ^ (56 - 8 * j) % 256 = ((d : Nat) : Int) := by rw [HD.out]; exact byte_at m j hlt2
          rw [hval]
          have hd8 : d < 256 := by rw [HD.out]; exact Nat.mod_lt _ (by decide)
          refine wpList_append_row rfl (.tmp 31) (.tmp 37) 24 rfl wr.heap.size 5 i0 (.int .u8 0) 1 Tryd.underlying24 hi hz0 hz1 hz2 rfl _ _ _ rfl (hown.alloc _) (some ⟨wq.heap.size, 0, Option.none⟩) 1 1 [bv d] rfl (rowV_lit _ _ _ _ _ _ rfl rfl rfl) (by intro h; cases h) (bv_one [d]) (by simp [maxLen]; omega) (by omega) (by simp; omega) ?_
          intro v' w2 hown2 hgrow2 _
          have hb2 := grow_step hb _ hown hgrow2
          clear hgrow2 hval
          go_wp2
          go_roundw
          case rel =>
            refine ⟨j + 1, by omega, by go_num, ?_, hb2⟩
            rw [List.range_succ, List.map_append, ← List.append_assoc, List.map_cons, List.map_append, ← List.cons_append, ← List.map_cons, ← Nat.add_assoc]
            simp only [List.map_cons, List.map_nil]
            rw [← HD.out]
            exact hown2
          case measure => simp [intOf]; omega
        · obtain rfl : j = 8 := by omega
          go_wp2
          go_ret
          have hE : endR m = 128 :: (List.replicate z 0 ++ (List.range 8).map fun i => 8 * m / 256 ^ (7 - i) % 256) := by rw [HZ.out]; rfl
          have hl : (endR m).length = 1 + z + 8 := by rw [hE]; simp; omega
          rw [← hl] at hown ⊢
          rw [← hE] at hown
          exact ⟨_, _, rfl, hown, hb⟩
end Go.Proofs.YthofndobmiamjaaDoor
