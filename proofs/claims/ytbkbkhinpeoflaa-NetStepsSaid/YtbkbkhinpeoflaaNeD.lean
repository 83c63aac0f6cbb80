/-
  net: slices.Delete of one datagram.
-/
import Derived.Test.YtbkbkhinpeoflaaNeC
import Derived.Laws.IdiomCopy
import Derived.ArgAppend
namespace Go.Proofs.Ytbkbkhinpeoflaa
open Go.RowKit

theorem setCells_block {b : Nat} {T : TypeId} : ∀ (vs : List Value) (o : Nat) (w : World) (cur : Array Value), w.heap[b]? = some (.cells cur T (0, 0)) → ∃ cur2, (w.setCells b o vs).heap[b]? = some (.cells cur2 T (0, 0)) ∧ cur2.size = cur.size
  | [], _, _, cur, h => ⟨cur, h, rfl⟩
  | v :: r, o, w, cur, h => by
    obtain ⟨c2, h2, hs⟩ := setCells_block r (o + 1) (w.setCell ⟨b, o, none⟩ v) _ (heap_setCell_same _ _ o _ _ _ h)
    exact ⟨c2, h2, by rw [hs]; simp⟩
theorem setCells_grown (b : Nat) : ∀ (vs : List Value) (o : Nat) (w : World), w.grownBy (w.setCells b o vs) (some b)
  | [], _, w => World.grownBy_refl w _
  | v :: r, o, w => grownBy_trans (grown_set w b o v) (setCells_grown b r (o + 1) (w.setCell ⟨b, o, none⟩ v))
theorem own_of_cells {w : World} {b base n cap : Nat} {T : TypeId} {cur : Array Value} {xs : List Value} (hh : w.heap[b]? = some (.cells cur T (0, 0))) (hb : base ≤ b) (hn : n ≤ cap) (hm : cap ≤ maxLen) (hs : cur.size = cap * 2) (hl : xs.length = n * 2) (hc : ∀ j, j < n * 2 → w.cell? ⟨b, j, none⟩ = xs[j]?) :
    w.ownsRow base T 2 (.slice (some ⟨b, 0, none⟩) n cap) n xs := by
  refine ⟨hl, .inr ⟨b, cap, cur, rfl, hb, hh, hn, hm, hs, ?_⟩⟩
  apply List.ext_getElem?
  intro j
  rw [List.getElem?_take]
  by_cases hj : j < n * 2
  · rw [if_pos hj, ← hc j hj, cell_of_row _ _ j _ _ _ hh]
    simp
  · rw [if_neg hj, List.getElem?_eq_none (by omega)]

theorem wp_clear_run {P : Program} (w : World) {o : Oper} {a : Act} {K : Act → World → Prop} {Q : Exit → Act → World → Prop} (x : Operand) (t : TypeId)
    (ho : o.op = .call { callee := .builtin .clear, args := #[x], argTypes := #[t] }) (vx : Value) (hx : a.eval x = vx)
    (v' : Value) (w' : World) (hr : (Builtin.clear_ #[t] o.type #[vx]).run P w = .ok v' w') (h : K (a.put o.dst v') w') : o.wp P a w K Q := by
  unfold Oper.wp execOp
  simp only [ho, resolve, invoke, builtin, Sem.run_bind, Sem.run_pure, Result.andThen_ok, List.map_toArray, List.map_cons, List.map_nil, hx, hr]
  exact h
theorem wpList_clear_run {P : Program} (w : World) {ops : Array Oper} {rest : List Oper} {o : Oper} {a : Act} {Q : Exit → Act → World → Prop} (hgd : o.guard = none) (x : Operand) (t : TypeId)
    (ho : o.op = .call { callee := .builtin .clear, args := #[x], argTypes := #[t] }) (vx : Value) (hx : a.eval x = vx)
    (v' : Value) (w' : World) (hr : (Builtin.clear_ #[t] o.type #[vx]).run P w = .ok v' w') (h : wpList P ops Q rest (a.put o.dst v') w') : wpList P ops Q (o :: rest) a w :=
  wpList_plain hgd fun _ hK => wp_clear_run w x t ho vx hx v' w' hr (hK _ _ h)

theorem run_clear_dat (w : World) (ty : TypeId) (b o c : Nat) (cur : Array Value) (hh : w.heap[b]? = some (.cells cur 59 (0, 0))) (ho : o + 2 ≤ cur.size) :
    (Builtin.clear_ #[52] ty #[.slice (some ⟨b, o, none⟩) 1 c]).run Try.prog w = .ok (.tuple #[]) (w.setCells b o [.int .i64 0, .slice none 0 0]) := by
  have hst := run_storeCells_cells (P := Try.prog) b o [.int .i64 0, .slice none 0 0] 0 w (fun j hj => by
      simp at hj
      rw [cell_of_row _ _ _ _ _ _ hh, Nat.add_zero]
      simp
      omega) (fun j _ => frozen_of_row _ _ _ _ _ hh) (by intro v hv; simp at hv; rcases hv with rfl | rfl <;> rfl)
  simp only [Nat.add_zero] at hst
  have hz : (Builtin.zeroCells (Value.agg #[.int .i64 0, .slice none 0 0]).cells 1).toList = [.int .i64 0, .slice none 0 0] := by simp [Builtin.zeroCells, Value.cells]; rfl
  simp [Builtin.clear_, run_underlying Try.underlying52, hz, hst]

theorem eraseIdx_get {α : Type} (xs : List α) (i j : Nat) : (xs.eraseIdx i)[j]? = if j < i then xs[j]? else xs[j + 1]? := List.getElem?_eraseIdx ..
theorem dcells_drop : ∀ (xs : List (Int × Hd)) (k : Nat), dcells (xs.drop k) = (dcells xs).drop (k * 2)
  | [], k => by simp [dcells]
  | x :: xs, 0 => by simp
  | x :: xs, k + 1 => by
    rw [show (k + 1) * 2 = k * 2 + 2 by omega]
    simpa [dcells] using dcells_drop xs k
theorem dcells_take : ∀ (xs : List (Int × Hd)) (k : Nat), dcells (xs.take k) = (dcells xs).take (k * 2)
  | [], k => by simp [dcells]
  | x :: xs, 0 => by simp [dcells]
  | x :: xs, k + 1 => by
    rw [show (k + 1) * 2 = k * 2 + 2 by omega]
    simpa [dcells] using dcells_take xs k
theorem erase_split {α : Type} (xs : List α) (i : Nat) : xs.eraseIdx i = xs.take i ++ xs.drop (i + 1) := List.eraseIdx_eq_take_drop_succ ..

/-- what the two steps of a deletion leave in the row's block. -/
theorem delete_cells {w : World} {b base cap m i : Nat} {cur : Array Value} {xs : List (Int × Hd)} (hh : w.heap[b]? = some (.cells cur DT (0, 0))) (hb : base ≤ b) (hm : xs.length = m) (hc : m ≤ cap) (hmx : cap ≤ maxLen) (hs : cur.size = cap * 2) (ht : cur.toList.take (m * 2) = dcells xs) (hi : i < m) :
    ((w.setCells b (i * 2) (dcells (xs.drop (i + 1)))).setCells b ((m - 1) * 2) [.int .i64 0, .slice none 0 0]).ownsRow base DT 2 (.slice (some ⟨b, 0, none⟩) (m - 1) cap) (m - 1) (dcells (xs.eraseIdx i)) := by
  obtain ⟨c2, h2, s2⟩ := setCells_block (dcells (xs.drop (i + 1))) (i * 2) w cur hh
  obtain ⟨c3, h3, s3⟩ := setCells_block [.int .i64 0, .slice none 0 0] ((m - 1) * 2) _ c2 h2
  have hle : (xs.eraseIdx i).length = m - 1 := by rw [List.length_eraseIdx, if_pos (by omega)]; omega
  have hld : (dcells (xs.drop (i + 1))).length = (m - (i + 1)) * 2 := by rw [dcells_length, List.length_drop, hm]
  refine own_of_cells h3 hb (by omega) hmx (by rw [s3, s2, hs]) (by rw [dcells_length, hle]) (fun j hj => ?_)
  rw [World.cell?_setCells_out b _ _ _ _ (fun _ _ => Or.inl (by simp only; omega)), erase_split, dcells_append]
  have hlt : (dcells (xs.take i)).length = i * 2 := by rw [dcells_length, List.length_take]; omega
  by_cases hji : j < i * 2
  · rw [World.cell?_setCells_out b _ _ _ _ (fun _ _ => Or.inl (by simp only; omega)), List.getElem?_append_left (by omega), dcells_take, List.getElem?_take, if_pos hji, ← ht, List.getElem?_take, if_pos (by omega), cell_of_row _ _ j _ _ _ hh]
    simp
  · obtain ⟨k, rfl⟩ : ∃ k, j = i * 2 + k := ⟨j - i * 2, by omega⟩
    rw [World.cell?_setCells_in b _ _ _ (fun q hq => by
      rw [cell_of_row _ _ _ _ _ _ hh]
      simp
      omega) k (by omega), List.getElem?_append_right (by omega), hlt, Nat.add_sub_cancel_left, List.getElem?_eq_getElem]

set_option maxRecDepth 100000 in
set_option maxHeartbeats 4000000 in
theorem delete_any (b cap m i base : Nat) (cur : Array Value) (xs : List (Int × Hd)) (w : World) (hh : w.heap[b]? = some (.cells cur DT (0, 0))) (hb : base ≤ b) (hm : xs.length = m) (hc : m ≤ cap) (hmx : cap ≤ maxLen) (hs : cur.size = cap * 2) (ht : cur.toList.take (m * 2) = dcells xs) (hi : i < m) (hm4 : m ≤ 400) :
    Calls Try.prog 29 #[.slice (some ⟨b, 0, none⟩) m cap, .int .i64 (i : Nat), .int .i64 ((i + 1 : Nat) : Int)] w fun e w' => e = .returned (.slice (some ⟨b, 0, none⟩) (m - 1) cap) ∧ w'.ownsRow base DT 2 (.slice (some ⟨b, 0, none⟩) (m - 1) cap) (m - 1) (dcells (xs.eraseIdx i)) ∧ w.grownBy w' (some b) := by
  obtain ⟨i0, hi0, hz0, hz1, hz2⟩ := info_parts Try.info59
  have hfin := delete_cells (w := w.drew) hh hb hm hc hmx hs ht hi
  have hgr := grownBy_trans (setCells_grown b (dcells (xs.drop (i + 1))) (i * 2) w.drew) (setCells_grown b [.int .i64 0, .slice none 0 0] ((m - 1) * 2) (w.drew.setCells b (i * 2) (dcells (xs.drop (i + 1)))))
  have hld : (dcells (xs.drop (i + 1))).length = (m - (i + 1)) * 2 := by rw [dcells_length, List.length_drop, hm]
  obtain ⟨c2, h2, s2⟩ := setCells_block (dcells (xs.drop (i + 1))) (i * 2) w.drew cur hh
  have hclr := fun (c : Nat) (ty : TypeId) => run_clear_dat (w.drew.setCells b (i * 2) (dcells (xs.drop (i + 1)))) ty b ((m - 1) * 2) c c2 h2 (by omega)
  obtain ⟨j, hj⟩ : ∃ j, j = i + 1 := ⟨_, rfl⟩
  have hnews0 : ∀ k u, (dcells (xs.drop j))[k]? = some u → w.cell? ((⟨b, j * 2, none⟩ : Addr).add k) = some u := fun k u hk => by
    have hadd : (⟨b, j * 2, none⟩ : Addr).add k = ⟨b, j * 2 + k, none⟩ := by unfold Addr.add; split <;> simp_all
    have hkl := (List.getElem?_eq_some_iff.1 hk).1
    rw [dcells_length, List.length_drop, hm] at hkl
    rw [dcells_drop, List.getElem?_drop, ← ht, List.getElem?_take, if_pos (by omega)] at hk
    rw [hadd, cell_of_row _ _ _ _ _ _ hh, ← hk]
    simp
  have hspare : ∀ k, k < (m - j) * 2 → (w.drew.cell? ⟨b, 0 + i * 2 + k, none⟩).isSome = true ∧ w.drew.frozen? ⟨b, 0 + i * 2 + k, none⟩ = false := fun k hk => by
    refine ⟨?_, frozen_of_row w.drew _ _ _ _ hh⟩
    rw [cell_of_row w.drew _ _ _ _ _ hh]
    simp
    omega
  unfold maxLen at hmx
  have u1 : (0 : Int) ≤ (i : Int) := by omega
  have u2 : (i : Int) ≤ (j : Int) := by omega
  have u3 : (j : Int) ≤ (m : Int) := by omega
  have u4 : (m : Int) ≤ (cap : Int) := by omega
  have u6 : i ≤ cap := by omega
  have u7 : j ≤ cap := by omega
  have u8 : j ≤ m := by omega
  have u9 : i ≤ j := by omega
  have u5 : ((i : Int) == (j : Int)) = false := by simp; omega
  rw [← hj] at hld hfin hgr hclr ⊢
  go_enter Try.func29, Try.ntmps29
  obtain ⟨r, hr⟩ : ∃ r, r = m - 1 := ⟨_, rfl⟩
  rw [← hr] at hfin hgr hclr ⊢
  have hclr2 : ∀ (c : Nat) (ty : TypeId), (Builtin.clear_ #[52] ty #[.slice (some ⟨b, r * 2, none⟩) (m - r) c]).run Try.prog (w.drew.setCells b (i * 2) (dcells (xs.drop j))) = .ok (.tuple #[]) ((w.drew.setCells b (i * 2) (dcells (xs.drop j))).setCells b (r * 2) [.int .i64 0, .slice none 0 0]) := fun c ty => by
    rw [show m - r = 1 by omega]; exact hclr c ty
  have HE := Lib.hid (show i + (m - j) = r by omega)
  have u10 : (0 : Int) ≤ (r : Int) := by omega
  have u11 : (r : Int) ≤ (m : Int) := by omega
  have u12 : r ≤ m := by omega
  have u13 : r ≤ cap := by omega
  have u14 : (cap = r) = False := eq_false (by omega)
  have HCL := Lib.hid hclr2
  clear hclr hclr2 hr
  have HFIN := Lib.hid hfin
  have HGR := Lib.hid hgr
  have HJ := Lib.hid hj
  have HLD := Lib.hid hld
  clear hfin hgr hj hld h2 s2 ht hs
  have hnews : ∀ k u, (dcells (xs.drop j))[k]? = some u → w.drew.cell? ((⟨b, j * 2, none⟩ : Addr).add k) = some u := hnews0
  have HNW := Lib.hid hnews
  have HSP := Lib.hid hspare
  clear hnews hspare hnews0
  by_cases hcj : cap = j
  · have hmj : m = j := by omega
    subst hcj
    subst hmj
    have hd0 : dcells (xs.drop m) = [] := List.eq_nil_of_length_eq_zero (by rw [HLD.out]; omega)
    go_wp2
    go_region_law (first
      | (refine step_append_room rfl (.tmp 22) (.tmp 25) 52 rfl 59 i0 2 Try.underlying52 hi0 hz1 b 0 i m (by rfl) ⟨b, 0, none⟩ 0 0 (dcells (xs.drop m)) (by rfl) (by rw [HLD.out]; omega) (fun k u hk => by rw [hd0] at hk; cases hk) (dcells_one _) (by omega) (fun k hk => by rw [hd0] at hk; cases hk) ?_))
    all_goals
      have hri : i = r := by have := HE.out; omega
      subst hri
      have hE : i * 2 = i * 2 := rfl
      rw [hd0] at HCL HFIN HGR
      try rw [hd0]
      go_wp2_with (((with_reducible show wpList _ _ _ (⟨_, Op.call _, _, _, _, _⟩ :: _) _ _); (refine wpList_clear_run _ rfl (.tmp 31) 52 rfl (.slice (some ⟨b, i * 2, none⟩) (m - i) (m - i)) rfl _ _ (HCL.out _ _) ?_)))
      go_ret
      exact ⟨rfl, HFIN.out, drop_drew HGR.out⟩
  · have hcj' : (cap = j) = False := eq_false hcj
    go_wp2
    go_region_law (first
      | (refine step_append_room rfl (.tmp 22) (.tmp 25) 52 rfl 59 i0 2 Try.underlying52 hi0 hz1 b 0 i cap (by rfl) ⟨b, j * 2, none⟩ (m - j) (cap - j) (dcells (xs.drop j)) (by rfl) HLD.out HNW.out (dcells_one _) (by have := HJ.out; omega) (fun k hk => by rw [HLD.out] at hk; exact HSP.out k hk) ?_))
    all_goals
      try simp only [Nat.zero_add]
      try rw [HE.out]
      go_wp2_with (((with_reducible show wpList _ _ _ (⟨_, Op.call _, _, _, _, _⟩ :: _) _ _); (refine wpList_clear_run _ rfl (.tmp 31) 52 rfl (.slice (some ⟨b, r * 2, none⟩) (m - r) (cap - r)) rfl _ _ (HCL.out _ _) ?_)))
      go_ret
      exact ⟨rfl, HFIN.out, drop_drew HGR.out⟩
end Go.Proofs.Ytbkbkhinpeoflaa
