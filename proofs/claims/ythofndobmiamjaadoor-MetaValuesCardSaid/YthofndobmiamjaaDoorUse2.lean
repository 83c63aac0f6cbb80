/-
  The plain helpers of the references: bytes with marks behind them; copies and comparisons of lists of bytes.
-/
import Derived.Test.YthofndobmiamjaaDoorUse
namespace Go.Proofs.YthofndobmiamjaaDoor
open Go.RowKit

theorem Tryd.info24 : (Tryd.prog.info? 24).map (fun i => (i.zero, i.size, i.bytes)) = some (some (.slice none 0 0), 1, 24) := by kernel_rfl

theorem grow_step {w wr w1 : World} {e : TypeId} {size : Nat} {v : Value} {n : Nat} {xs : List Value} (hb : Below w.heap.size w wr) (o : Obj) (hown : wr.ownsRow w.heap.size e size v n xs) (hg : (wr.alloc o).grownBy w1 v.ownBlock) : Below w.heap.size w w1 :=
  below_grown (hb.alloc hb.size o) hg (ownBlock_ge hown)

def marks (k : Nat) : List Nat := (List.range k).map (201 + ·)
theorem marks_step (k : Nat) : marks (k + 1) = marks k ++ [201 + k] := by simp [marks, List.range_succ]
theorem marks_length (k : Nat) : (marks k).length = k := by simp [marks]
def spareB (l : List Nat) : List Nat := l ++ marks 8
theorem spareB_length (l : List Nat) : (spareB l).length = l.length + 8 := by simp [spareB, marks_length]
theorem spareB_bytes {l : List Nat} (h : Bytes l) : Bytes (spareB l) := by
  intro x hx
  simp only [spareB, List.mem_append] at hx
  rcases hx with hx | hx
  · exact h x hx
  · simp [marks] at hx; obtain ⟨y, hy, rfl⟩ := hx; omega

set_option maxRecDepth 10000 in
set_option maxHeartbeats 400000 in
theorem spare_any (ad : Option Addr) (n c : Nat) (l : List Nat) (w : World) (h : BytesV w (ad, n, c) l) (hn : n + 8 ≤ 140737488355328) :
    Calls Tryd.prog 17 #[.slice ad n c] w (GivesBytes 5 w (spareB l)) := by
  obtain ⟨i0, hi, hz0, hz1, hz2⟩ := info_parts Tryd.info5
  have hl : l.length = n := h.length
  go_enter Tryd.func17, Tryd.ntmps17
  go_wp2_with fail
  (with_reducible refine (copyBytes_any ad n c l w h).mono ?_)
  rintro e w1 ⟨a1, c1, rfl, hown1, hb1⟩
  rw [hl] at hown1 ⊢
  have HL := Lib.hid hl
  clear hl h
  go_wp2
  go_loopw [3, 4] (fun v i wr => ∃ k : Nat, k ≤ 8 ∧ i = .int .i64 k ∧ wr.ownsRow w.heap.size 5 1 v (n + k) ((l ++ marks k).map bv) ∧ Below w.heap.size w wr) (fun _ i _ => (8 - intOf i).toNat)
  case atStart => exact ⟨0, Nat.zero_le _, rfl, by simpa [marks] using hown1, hb1⟩
  case round =>
    obtain ⟨k, hk, rfl, hown, hb⟩ := hrel
    obtain ⟨ad2, cap, rfl, hcase, _⟩ := ownsRow_parts hown
    have hbs := hb.size
    by_cases hlt : k < 8
    · go_wp2_with (first | (at_builtin; refine wpList_append_row rfl (.tmp 11) (.tmp 15) 24 rfl w.heap.size 5 i0 (.int .u8 0) 1 Tryd.underlying24 hi hz0 hz1 hz2 rfl _ _ _ rfl (hown.alloc _) (some ⟨wr.heap.size, 0, Option.none⟩) 1 1 [bv (201 + k)] rfl (rowV_lit _ _ _ _ _ _ rfl rfl rfl) (by intro h; cases h) (bv_one [201 + k]) (by simp [maxLen]; omega) (by omega) (by simp; omega) ?_; intro v' w1 hown1 hgrow1 _))
      have hb1 := grow_step hb _ hown hgrow1
      clear hgrow1
      go_wp2
      go_roundw
      case rel =>
        refine ⟨k + 1, by omega, by go_num, ?_, hb1⟩
        rw [marks_step, ← List.append_assoc, List.map_append, ← Nat.add_assoc]
        exact hown1
      case measure => simp [intOf]; omega
    · obtain rfl : k = 8 := by omega
      go_wp2
      go_ret
      have hl2 : (spareB l).length = n + 8 := by rw [spareB_length, HL.out]
      rw [← hl2] at hown ⊢
      exact ⟨_, _, rfl, hown, hb⟩

/-- Slices of bytes of the call's own. -/
def OwnsRows (w : World) (base : Nat) (T : TypeId) (hs : List (Option Addr × Nat × Nat)) (ls : List (List Nat)) : Prop :=
  hs.length = ls.length ∧ ∀ (i : Nat) x l, hs[i]? = some x → ls[i]? = some l → x.2.1 = l.length ∧ w.ownsRow base T 1 (SV x) l.length (l.map bv)
theorem own_ne {w : World} {b b' : Nat} {e e' : TypeId} {s s' : Nat} {v v' : Value} {n n' : Nat} {xs xs' : List Value} (h : w.ownsRow b e s v n xs) (h' : w.ownsRow b' e' s' v' n' xs') (hne : e ≠ e') : v.ownBlock = none ∨ v.ownBlock ≠ v'.ownBlock := by
  rcases h.2 with ⟨rfl, _⟩ | ⟨g, cap, cur, rfl, _, hg, _⟩
  · exact .inl rfl
  · right
    rcases h'.2 with ⟨rfl, _⟩ | ⟨g', cap', cur', rfl, _, hg', _⟩
    · simp [Value.ownBlock]
    · intro e
      simp [Value.ownBlock] at e
      subst e
      rw [hg] at hg'
      simp at hg'
      exact hne hg'.2
theorem OwnsRows.kept {w w' : World} {base : Nat} {T : TypeId} {hs : List (Option Addr × Nat × Nat)} {ls : List (List Nat)} {row : Option Nat} (h : OwnsRows w base T hs ls) (hg : w.grownBy w' row)
    (hne : ∀ (i : Nat) x l, hs[i]? = some x → ls[i]? = some l → (SV x).ownBlock = none ∨ (SV x).ownBlock ≠ row) : OwnsRows w' base T hs ls :=
  ⟨h.1, fun i x l h1 h2 => ⟨(h.2 i x l h1 h2).1, (h.2 i x l h1 h2).2.kept hg (hne i x l h1 h2)⟩⟩
theorem OwnsRows.below {w w' : World} {base : Nat} {T : TypeId} {hs : List (Option Addr × Nat × Nat)} {ls : List (List Nat)} (h : OwnsRows w base T hs ls) (hb : Below w.heap.size w w') : OwnsRows w' base T hs ls :=
  h.kept (grownBy_of_below hb none) (fun i x l _ _ => by cases e : (SV x).ownBlock with | none => exact .inl rfl | some g => exact .inr (by simp))
theorem OwnsRows.snoc {w : World} {base : Nat} {T : TypeId} {hs : List (Option Addr × Nat × Nat)} {ls : List (List Nat)} (h : OwnsRows w base T hs ls) {x : Option Addr × Nat × Nat} {l : List Nat} (hx : x.2.1 = l.length) (ho : w.ownsRow base T 1 (SV x) l.length (l.map bv)) : OwnsRows w base T (hs ++ [x]) (ls ++ [l]) := by
  refine ⟨by simp [h.1], fun i y m h1 h2 => ?_⟩
  by_cases hi : i < hs.length
  · rw [List.getElem?_append_left hi] at h1
    rw [List.getElem?_append_left (by rw [← h.1]; exact hi)] at h2
    exact h.2 i y m h1 h2
  · rw [List.getElem?_append_right (by omega)] at h1
    rw [List.getElem?_append_right (by rw [← h.1]; omega)] at h2
    rw [← h.1] at h2
    have hi0 : i - hs.length = 0 := by
      have := (List.getElem?_eq_some_iff.1 h1).1
      simp at this
      omega
    rw [hi0] at h1 h2
    simp at h1 h2
    subst h1 h2
    exact ⟨hx, ho⟩
theorem OwnsRows.rowsV {w : World} {base : Nat} {T : TypeId} {hs : List (Option Addr × Nat × Nat)} {ls : List (List Nat)} (h : OwnsRows w base T hs ls) (hb : ∀ l ∈ ls, Bytes l ∧ l.length ≤ 140737488355328) : RowsV w hs ls := by
  refine ⟨h.1, fun i x l h1 h2 => ?_⟩
  obtain ⟨e, ho⟩ := h.2 i x l h1 h2
  obtain ⟨ad, n, c⟩ := x
  simp only at e
  subst e
  have hm : l ∈ ls := List.mem_of_getElem? h2
  exact bytesV_of_owns ho (hb l hm).1 (hb l hm).2
theorem SV_one (hs : List (Option Addr × Nat × Nat)) : ∀ u ∈ hs.map SV, u.oneCell' = true := by
  intro u hu
  simp only [List.mem_map] at hu
  obtain ⟨x, _, rfl⟩ := hu
  rfl
/-- What a call answers that makes a list of lists of bytes of its own. -/
def GivesRows (T E : TypeId) (w0 : World) (ls : List (List Nat)) (e : Ending) (w' : World) : Prop :=
  ∃ ad cap hs, e = .returned (.slice ad ls.length cap) ∧ w'.ownsRow w0.heap.size T 1 (.slice ad ls.length cap) ls.length (hs.map SV) ∧ OwnsRows w' w0.heap.size E hs ls ∧ Below w0.heap.size w0 w'

theorem RowsV.mem {w : World} {hs : List (Option Addr × Nat × Nat)} {ls : List (List Nat)} (h : RowsV w hs ls) : ∀ l ∈ ls, Bytes l ∧ l.length ≤ 140737488355328 := by
  intro l hl
  obtain ⟨i, hi, rfl⟩ := List.mem_iff_getElem.1 hl
  have hi' : i < hs.length := by rw [h.1]; exact hi
  have := h.2 i hs[i] ls[i] (List.getElem?_eq_getElem hi') (List.getElem?_eq_getElem hi)
  exact ⟨this.bytes, by have := this.length; have := this.symm; have := ‹BytesV w hs[i] ls[i]›.small; omega⟩
theorem take_step {α : Type} (ls : List α) (k : Nat) (x : α) (h : ls[k]? = some x) : ls.take (k + 1) = ls.take k ++ [x] := by
  have hk := (List.getElem?_eq_some_iff.1 h).1
  rw [List.take_succ_eq_append_getElem hk, (List.getElem?_eq_some_iff.1 h).2]

set_option maxRecDepth 10000 in
set_option maxHeartbeats 1000000 in
theorem copyRows_any (adv : Option Addr) (n cv : Nat) (hs : List (Option Addr × Nat × Nat)) (ls : List (List Nat)) (w : World) (hvs : RowV w adv n (hs.map SV)) (hn : n * 24 ≤ 140737488351232) (hrows : RowsV w hs ls) :
    Calls Tryd.prog 9 #[.slice adv n cv] w (GivesRows 24 5 w ls) := by
  obtain ⟨i0, hi, hz0, hz1, hz2⟩ := info_parts Tryd.info24
  have hhs : hs.length = n := by have := hvs.1; simpa using this
  have hls : ls.length = n := by rw [← hrows.1, hhs]
  have HLS := Lib.hid hls
  have HHS := Lib.hid hhs
  clear hls
  have hown0 := World.ownsRow_made (base := w.heap.size) (e := 24) (size := 1) w #[] 0 (Nat.le_refl _) (by simp [maxLen]) rfl
  go_enter Tryd.func9, Tryd.ntmps9
  go_wp2
  go_loopw [3, 4] (fun v i wr => ∃ k js, k ≤ n ∧ i = .int .i64 (k : Nat) ∧ wr.ownsRow w.heap.size 24 1 v k (List.map SV js) ∧ OwnsRows wr w.heap.size 5 js (ls.take k) ∧ Below w.heap.size w wr) (fun _ i _ => (n - intOf i).toNat)
  case atStart => exact ⟨0, [], Nat.zero_le _, rfl, hown0, ⟨rfl, fun i x l h => by simp at h⟩, below_alloc _ _⟩
  case round =>
    obtain ⟨k, js, hk, rfl, hown, hins, hb⟩ := hrel
    obtain ⟨ad, cap, rfl, hcase, _⟩ := ownsRow_parts hown
    have hbs := hb.size
    by_cases hlt : k < n
    · obtain ⟨b, off, rfl, hc⟩ := hvs.2 (by omega)
      obtain ⟨x, hxe, hxr⟩ := hrows.at k (by omega)
      obtain ⟨a, l, c⟩ := x
      have hbw : b < w.heap.size := hvs.lt (by omega) rfl
      have hcell : wr.cell? ⟨b, off + k, Option.none⟩ = some (.slice a l c) := by rw [hb.cell hbw, hc k hlt, List.getElem?_map, hxe]; rfl
      obtain ⟨y, hy⟩ : ∃ y, y = ls.getD k [] := ⟨_, rfl⟩
      have hyk : ls[k]? = some y := by
        rw [hy, List.getD_eq_getElem?_getD, List.getElem?_eq_getElem (by rw [HLS.out]; exact hlt)]; rfl
      rw [← hy] at hxr
      have HT := Lib.hid (take_step ls k y hyk)
      clear hc hy hyk hxe hhs
      go_wp2_with fail
      (with_reducible refine (copyBytes_any a l c y wr (hxr.below hb)).mono ?_)
      rintro e w1 ⟨a1, c1, rfl, hown1, hb1⟩
      have hownw := hown.kept (grownBy_of_below hb1 Option.none) (by cases e : (Value.slice ad k cap).ownBlock with | none => exact .inl rfl | some g => exact .inr (by simp))
      have hinsw := hins.below hb1
      have hbb := hb.trans (hb1.mono hbs)
      have hbbs := hbb.size
      have hownin := ownsRow_base hown1 hbs
      clear hcell hb1 hown hins hb
      go_wp2_with (first | (at_builtin; refine wpList_append_row rfl (.tmp 12) (.tmp 18) 22 rfl w.heap.size 24 i0 (.slice Option.none 0 0) 24 Tryd.underlying22 hi hz0 hz1 hz2 rfl _ _ _ rfl (hownw.alloc _) (some ⟨w1.heap.size, 0, Option.none⟩) 1 1 [SV (a1, y.length, c1)] rfl (rowV_lit _ _ _ _ _ _ rfl rfl rfl) (by intro h; cases h) (SV_one [(a1, y.length, c1)]) (by simp [maxLen]; omega) (by omega) (by simp; omega) ?_; intro v' w2 hown2 hgrow2 _))
      have hb2 := grow_step hbb _ hownw hgrow2
      have hins2 := (hinsw.below (below_alloc w1 (.cells #[SV (a1, y.length, c1)] 24))).kept hgrow2 (fun i x l h1 h2 => own_ne (hinsw.2 i x l h1 h2).2 hownw (by decide))
      have hin2 := (hownin.alloc (.cells #[SV (a1, y.length, c1)] 24)).kept hgrow2 (own_ne hownin hownw (by decide))
      clear hgrow2
      go_wp2
      go_roundw
      case rel =>
        refine ⟨k + 1, js ++ [(a1, y.length, c1)], by omega, by go_num, ?_, ?_, hb2⟩
        · rw [List.map_append]; exact hown2
        · rw [HT.out]; exact hins2.snoc rfl hin2
      case measure => simp [intOf]; omega
    · obtain rfl : k = n := by omega
      rw [List.take_of_length_le (by rw [HLS.out]; omega)] at hins
      go_wp2
      go_ret
      have hl := HLS.out
      subst hl
      exact ⟨_, _, _, rfl, hown, hins, hb⟩

theorem BytesV.drewN {w : World} {x : Option Addr × Nat × Nat} {l : List Nat} (h : BytesV w x l) (m : Nat) : BytesV (w.drewN m) x l := h.below (below_drewN (Below.refl _ _) _)

set_option maxRecDepth 10000 in
set_option maxHeartbeats 1000000 in
theorem sameRows_any (a1 : Option Addr) (n1 c1 : Nat) (s1 : List (Option Addr × Nat × Nat)) (l1 : List (List Nat)) (a2 : Option Addr) (n2 c2 : Nat) (s2 : List (Option Addr × Nat × Nat)) (l2 : List (List Nat)) (w : World)
    (v1 : RowV w a1 n1 (s1.map SV)) (r1 : RowsV w s1 l1) (v2 : RowV w a2 n2 (s2.map SV)) (r2 : RowsV w s2 l2) (hn : n1 ≤ 140737488355328) :
    Calls Tryd.prog 13 #[.slice a1 n1 c1, .slice a2 n2 c2] w fun e w' => e = .returned (.bool (decide (l1 = l2))) ∧ Below w.heap.size w w' := by
  have hs1 : s1.length = n1 := by have := v1.1; simpa using this
  have hs2 : s2.length = n2 := by have := v2.1; simpa using this
  have hl1 : l1.length = n1 := by rw [← r1.1, hs1]
  have hl2 : l2.length = n2 := by rw [← r2.1, hs2]
  by_cases hne : n1 = n2
  · subst hne
    have HL1 := Lib.hid hl1
    have HL2 := Lib.hid hl2
    clear hl1 hl2
    go_enter Tryd.func13, Tryd.ntmps13
    go_wp2
    go_loopw [5] (fun i wr => ∃ k : Nat, k ≤ n1 ∧ i = .int .i64 k ∧ (∀ j, j < k → l1.getD j [] = l2.getD j []) ∧ Below w.heap.size w wr) (fun i _ => n1 - (intOf i).toNat)
    case atStart => exact ⟨0, Nat.zero_le _, rfl, fun j hj => absurd hj (by omega), Below.refl _ _⟩
    case round =>
      obtain ⟨k, hk, rfl, heq, hb⟩ := hrel
      have HEQ := Lib.hid heq
      clear heq
      by_cases hlt : k < n1
      · obtain ⟨b1, o1, rfl, d1⟩ := v1.2 (by omega)
        obtain ⟨b2, o2, rfl, d2⟩ := v2.2 (by omega)
        obtain ⟨⟨p1, m1, q1⟩, hx1, hr1⟩ := r1.at k (by omega)
        obtain ⟨⟨p2, m2, q2⟩, hx2, hr2⟩ := r2.at k (by omega)
        have hb1 : b1 < w.heap.size := v1.lt (by omega) rfl
        have hb2 : b2 < w.heap.size := v2.lt (by omega) rfl
        have e1 : wr.cell? ⟨b1, o1 + k, Option.none⟩ = some (.slice p1 m1 q1) := by rw [hb.cell hb1, d1 k hlt, List.getElem?_map, hx1]; rfl
        have e2 : wr.cell? ⟨b2, o2 + k, Option.none⟩ = some (.slice p2 m2 q2) := by rw [hb.cell hb2, d2 k hlt, List.getElem?_map, hx2]; rfl
        obtain ⟨x, hx⟩ : ∃ x, x = l1.getD k [] := ⟨_, rfl⟩
        obtain ⟨y, hy⟩ : ∃ y, y = l2.getD k [] := ⟨_, rfl⟩
        rw [← hx] at hr1
        rw [← hy] at hr2
        have HX := Lib.hid hx
        have HY := Lib.hid hy
        clear d1 d2 hx1 hx2 hx hy hs1 hs2
        obtain ⟨t, ht⟩ : ∃ t, t = decide (x = y) := ⟨_, rfl⟩
        have hcall : ∀ m, Calls Tryd.prog 10 #[.slice p1 m1 q1, .slice p2 m2 q2] (wr.drewN m) fun e w' => e = .returned (.bool t) ∧ ∃ m', w' = (wr.drewN m).drewN m' := fun m => by
          rw [ht]; exact sameBytes_quiet p1 m1 q1 x p2 m2 q2 y _ ((hr1.below hb).drewN m) ((hr2.below hb).drewN m)
        have HC := Lib.hid hcall
        have HT := Lib.hid ht
        clear hcall ht
        go_wp2
        go_quiet ((go_at_call 10; exact Calls.quiet_of (HC.out _)))
        cases t
        · go_wp2
          go_ret
          refine ⟨?_, below_drewN hb _⟩
          have : ¬ l1 = l2 := by
            intro e
            have := of_decide_eq_false HT.out.symm
            exact this (by rw [HX.out, HY.out, e])
          rw [decide_eq_false this]
          rfl
        · have hxy := of_decide_eq_true HT.out.symm
          have HXY := Lib.hid hxy
          clear hxy
          go_wp2
          go_roundw
          case rel =>
            refine ⟨k + 1, by omega, by go_num, ?_, below_drewN hb _⟩
            intro j hj
            by_cases e : j = k
            · subst e; rw [← HX.out, ← HY.out, HXY.out]
            · exact HEQ.out j (by omega)
          case measure => simp [intOf]; omega
      · obtain rfl : k = n1 := by omega
        go_wp2
        go_ret
        refine ⟨?_, hb⟩
        have : l1 = l2 := by
          apply List.ext_getElem (by rw [HL1.out, HL2.out])
          intro i h1 h2
          have := HEQ.out i (by rw [HL1.out] at h1; exact h1)
          simpa [List.getD_eq_getElem?_getD, h1, h2] using this
        rw [decide_eq_true this]
        rfl
  · have hb : ((n1 : Int) != (n2 : Int)) = true := by rw [bne_iff_ne]; omega
    have hf : ¬ l1 = l2 := by intro e; subst e; omega
    clear hl1 hl2 hs1 hs2
    go_enter Tryd.func13, Tryd.ntmps13
    go_wp2
    go_ret
    refine ⟨?_, Below.refl _ _⟩
    rw [decide_eq_false hf]
    rfl

end Go.Proofs.YthofndobmiamjaaDoor
