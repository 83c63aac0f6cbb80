/-
  rillref08: New.
-/
import Derived.Test.YtdidalcflkphnaaMDjZ
namespace Go.Proofs.Ytdidalcflkphnaa
open Go.RowKit

theorem Boxes.cellB {w0 w : World} {h q q' : RefH} (k : Boxes w0 w h q) (i : Nat) (v : Value) (e : q'.cells = q.cells.setIfInBounds i v) : Boxes w0 (w.setCell ⟨w0.heap.size + 1, i, none⟩ v) h q' :=
  ⟨(heap_setCell_other _ ⟨w0.heap.size + 1, i, none⟩ _ _ (by show w0.heap.size ≠ w0.heap.size + 1; omega)).trans k.a, by rw [e]; exact heap_setCell_same _ _ i _ _ _ k.b, k.bel.setCell (p := ⟨w0.heap.size + 1, i, none⟩) (by show w0.heap.size ≤ w0.heap.size + 1; omega) v⟩
/-- what an append does: in place, or apart. -/
def TwoW (w w' : World) (v v' : Value) : Prop := (v'.ownBlock = v.ownBlock ∧ w.grownBy w' v.ownBlock) ∨ (v'.ownBlock = some w.heap.size ∧ Below w.heap.size w w')
theorem TwoW.ch {w w' : World} {v v' : Value} (hc : TwoW w w' v v') : ChF (fun b => v.ownBlock = some b) w w' := by
  rcases hc with ⟨-, h⟩ | ⟨-, h⟩
  · exact .of_grown h (fun _ e => e)
  · exact .of_below h
theorem TwoW.apart {w w' : World} {v v' u : Value} {B n s : Nat} {T : TypeId} {xs : List Value} (hc : TwoW w w' v v') (o : w.ownsRow B T s u n xs) (ha : ∀ b, v.ownBlock = some b → u.ownBlock = some b → False) :
    w'.ownsRow B T s u n xs ∧ ∀ b, v'.ownBlock = some b → u.ownBlock = some b → False := by
  refine ⟨own_ChF o hc.ch (fun b h1 h2 => ha b h2 h1), fun b h1 h2 => ?_⟩
  rcases hc with ⟨e, -⟩ | ⟨e, -⟩
  · exact ha b (e ▸ h1) h2
  · rw [e] at h1
    injection h1 with h1
    have := (o.lt b h2).2
    omega
theorem TwoW.box {w0 w w' : World} {v v' : Value} {h q : RefH} (hc : TwoW w w' v v') (k : Boxes w0 w h q) (hl : ∀ b, v.ownBlock = some b → w0.heap.size + 2 ≤ b) : Boxes w0 w' h q ∧ ∀ b, v'.ownBlock = some b → w0.heap.size + 2 ≤ b := by
  have hs := k.sz
  refine ⟨⟨(hc.ch.block _ (by omega) (fun e => by have := hl _ e; omega)).trans k.a, (hc.ch.block _ (by omega) (fun e => by have := hl _ e; omega)).trans k.b, k.bel.trans (hc.ch.below (B := w0.heap.size) (fun b e => by have := hl b e; omega) (by omega))⟩, fun b h1 => ?_⟩
  rcases hc with ⟨e, -⟩ | ⟨e, -⟩
  · exact hl b (e ▸ h1)
  · rw [e] at h1
    injection h1 with h1
    omega
abbrev nS : Value := .slice none 0 0
abbrev nH : HdT := (none, 0, 0)
/-- the disk that New makes, its slots under way. -/
structure NInv (w0 w : World) (p : Int) (x5 x6 x7 : HdT) : Prop where
  bx : Boxes w0 w zH ⟨p, nH, false, nH, nH, x5, x6, x7, true⟩
  o5 : w.ownsRow 0 28 1 (SV x5) x5.2.1 (List.replicate x5.2.1 nS)
  o6 : w.ownsRow 0 28 1 (SV x6) x6.2.1 (List.replicate x6.2.1 nS)
  o7 : w.ownsRow 0 4 1 (SV x7) x7.2.1 (List.replicate x7.2.1 (.bool false))
  l5 : ∀ b, (SV x5).ownBlock = some b → w0.heap.size + 2 ≤ b
  l6 : ∀ b, (SV x6).ownBlock = some b → w0.heap.size + 2 ≤ b
  l7 : ∀ b, (SV x7).ownBlock = some b → w0.heap.size + 2 ≤ b
  ap : ∀ b, (SV x5).ownBlock = some b → (SV x6).ownBlock = some b → False
theorem NInv.below {w0 w w' : World} {p : Int} {x5 x6 x7 : HdT} (k : NInv w0 w p x5 x6 x7) (hb : Below w.heap.size w w') : NInv w0 w' p x5 x6 x7 :=
  have c := ChF.of_below (F := fun _ => False) hb
  ⟨k.bx.below hb, own_ChF k.o5 c (fun _ _ e => e), own_ChF k.o6 c (fun _ _ e => e), own_ChF k.o7 c (fun _ _ e => e), k.l5, k.l6, k.l7, k.ap⟩
theorem own_boxset {w0 w : World} {B n s i : Nat} {T : TypeId} {u v : Value} {xs : List Value} (o : w.ownsRow B T s u n xs) (hl : ∀ b, u.ownBlock = some b → w0.heap.size + 2 ≤ b) : (w.setCell ⟨w0.heap.size + 1, i, none⟩ v).ownsRow B T s u n xs :=
  own_ChF o ((ChF.refl (fun b => b = w0.heap.size + 1) w).set (g := w0.heap.size + 1) (.inl rfl)) (fun b h1 h2 => by have := hl b h1; omega)
theorem ne_of {w : World} {b b' : Nat} {e e' : TypeId} {s s' : Nat} {v v' : Value} {n n' : Nat} {xs xs' : List Value} (h : w.ownsRow b e s v n xs) (h' : w.ownsRow b' e' s' v' n' xs') (hne : e ≠ e') : ∀ c, v.ownBlock = some c → v'.ownBlock = some c → False := fun c h1 h2 => by
  rcases own_ne h h' hne with q | q
  · rw [q] at h1; cases h1
  · exact q (h1.trans h2.symm)
theorem NInv.step5 {w0 w w' : World} {p : Int} {x5 x6 x7 : HdT} {v' : Value} (k : NInv w0 w p x5 x6 x7) (o : w'.ownsRow 0 28 1 v' (x5.2.1 + 1) (List.replicate x5.2.1 nS ++ [nS])) (hc : TwoW w w' (SV x5) v') :
    ∃ a c, v' = .slice a (x5.2.1 + 1) c ∧ Boxes w0 w' zH ⟨p, nH, false, nH, nH, x5, x6, x7, true⟩ ∧ NInv w0 (w'.setCell ⟨w0.heap.size + 1, 5, none⟩ v') p (a, x5.2.1 + 1, c) x6 x7 := by
  obtain ⟨a, c, rfl, -⟩ := ownsRow_parts o
  have hb := hc.box k.bx k.l5
  have h6 := hc.apart k.o6 k.ap
  have h7 := hc.apart k.o7 (ne_of k.o5 k.o7 (by decide))
  rw [show List.replicate x5.2.1 nS ++ [nS] = List.replicate (x5.2.1 + 1) nS from (List.replicate_succ' ..).symm] at o
  exact ⟨a, c, rfl, hb.1, hb.1.cellB 5 _ rfl, own_boxset o hb.2, own_boxset h6.1 k.l6, own_boxset h7.1 k.l7, hb.2, k.l6, k.l7, h6.2⟩
theorem NInv.step6 {w0 w w' : World} {p : Int} {x5 x6 x7 : HdT} {v' : Value} (k : NInv w0 w p x5 x6 x7) (o : w'.ownsRow 0 28 1 v' (x6.2.1 + 1) (List.replicate x6.2.1 nS ++ [nS])) (hc : TwoW w w' (SV x6) v') :
    ∃ a c, v' = .slice a (x6.2.1 + 1) c ∧ Boxes w0 w' zH ⟨p, nH, false, nH, nH, x5, x6, x7, true⟩ ∧ NInv w0 (w'.setCell ⟨w0.heap.size + 1, 6, none⟩ v') p x5 (a, x6.2.1 + 1, c) x7 := by
  obtain ⟨a, c, rfl, -⟩ := ownsRow_parts o
  have hb := hc.box k.bx k.l6
  have h5 := hc.apart k.o5 (fun b h1 h2 => k.ap b h2 h1)
  have h7 := hc.apart k.o7 (ne_of k.o6 k.o7 (by decide))
  rw [show List.replicate x6.2.1 nS ++ [nS] = List.replicate (x6.2.1 + 1) nS from (List.replicate_succ' ..).symm] at o
  exact ⟨a, c, rfl, hb.1, hb.1.cellB 6 _ rfl, own_boxset h5.1 k.l5, own_boxset o hb.2, own_boxset h7.1 k.l7, k.l5, hb.2, k.l7, fun b h1 h2 => h5.2 b h2 h1⟩
theorem NInv.step7 {w0 w w' : World} {p : Int} {x5 x6 x7 : HdT} {v' : Value} (k : NInv w0 w p x5 x6 x7) (o : w'.ownsRow 0 4 1 v' (x7.2.1 + 1) (List.replicate x7.2.1 (.bool false) ++ [.bool false])) (hc : TwoW w w' (SV x7) v') :
    ∃ a c, v' = .slice a (x7.2.1 + 1) c ∧ Boxes w0 w' zH ⟨p, nH, false, nH, nH, x5, x6, x7, true⟩ ∧ NInv w0 (w'.setCell ⟨w0.heap.size + 1, 7, none⟩ v') p x5 x6 (a, x7.2.1 + 1, c) := by
  obtain ⟨a, c, rfl, -⟩ := ownsRow_parts o
  have hb := hc.box k.bx k.l7
  have h5 := hc.apart k.o5 (fun b h1 h2 => ne_of k.o5 k.o7 (by decide) b h2 h1)
  have h6 := hc.apart k.o6 (fun b h1 h2 => ne_of k.o6 k.o7 (by decide) b h2 h1)
  rw [show List.replicate x7.2.1 (Value.bool false) ++ [Value.bool false] = List.replicate (x7.2.1 + 1) (Value.bool false) from (List.replicate_succ' ..).symm] at o
  exact ⟨a, c, rfl, hb.1, hb.1.cellB 7 _ rfl, own_boxset h5.1 k.l5, own_boxset h6.1 k.l6, own_boxset o hb.2, k.l5, k.l6, hb.2, k.ap⟩
theorem NInv.refD {w0 w : World} {p : Int} {n c5 c6 c7 : Nat} {a5 a6 a7 : Option Addr} (k : NInv w0 w p (a5, n, c5) (a6, n, c6) (a7, n, c7)) : RefD w (fun b => w0.heap.size + 2 ≤ b ∧ b < w.heap.size) ⟨p, nH, false, nH, nH, (a5, n, c5), (a6, n, c6), (a7, n, c7), true⟩ (newV n p) := by
  have rw5 : ∀ {a : Option Addr} {c : Nat}, w.ownsRow 0 28 1 (SV (a, n, c)) n (List.replicate n nS) → (∀ b, (SV (a, n, c)).ownBlock = some b → w0.heap.size + 2 ≤ b) → RowsR w (fun b => w0.heap.size + 2 ≤ b ∧ b < w.heap.size) (a, n, c) (List.replicate n []) := fun {a c} o hl => by
    refine ⟨List.replicate n nH, ?_, by simp, fun i y l h1 h2 => ?_⟩
    · rw [List.map_replicate]
      obtain ⟨_, _, e, hcs, hcc, -, hr⟩ := ownsRow_parts o
      injection e with e1 e2 e3
      subst e1 e3
      refine ⟨hr, fun h0 x hx => ?_, hcc, fun e => ?_⟩
      · simp only at hx
        rcases hcs with ⟨q, -⟩ | ⟨g, q, h1, h2⟩
        · simp only at q; rw [q] at hx; cases hx
        · simp only at q; rw [q] at hx; injection hx with hx; rw [← hx]; exact ⟨by have := hl g (by rw [q]; rfl); show w0.heap.size + 2 ≤ g; omega, h2⟩
      · simp only at e
        rcases hcs with ⟨-, -, q⟩ | ⟨g, q, -⟩
        · exact q
        · simp only at q; rw [q] at e; cases e
    · rw [List.getElem?_replicate] at h1 h2
      split at h1
      · rename_i hi
        rw [if_pos hi] at h2
        injection h1 with h1
        injection h2 with h2
        subst h1 h2
        exact .empty w _
      · cases h1
  refine ⟨rfl, rfl, .empty w _, ⟨[], [], .empty w _, .empty w _, rfl, rfl⟩, ?_, ?_, ?_, fun s hs _ => ?_, fun b hb => hb.2⟩
  · rw [show (newV n p).sl.map (fun s => s.1) = List.replicate n [] by simp [newV, noSl]]
    exact rw5 k.o5 k.l5
  · rw [show (newV n p).sl.map (fun s => s.2.1) = List.replicate n [] by simp [newV, noSl]]
    exact rw5 k.o6 k.l6
  · rw [show (newV n p).sl.map (fun s => Value.bool s.2.2) = List.replicate n (Value.bool false) by simp [newV, noSl]]
    obtain ⟨_, _, e, hcs, hcc, -, hr⟩ := ownsRow_parts k.o7
    injection e with e1 e2 e3
    subst e1 e3
    refine ⟨hr, fun h0 x hx => ?_, hcc, fun e => ?_⟩
    · simp only at hx
      rcases hcs with ⟨q, -⟩ | ⟨g, q, h1, h2⟩
      · simp only at q; rw [q] at hx; cases hx
      · simp only at q; rw [q] at hx; injection hx with hx; rw [← hx]; exact ⟨by have := k.l7 g (by rw [q]; rfl); show w0.heap.size + 2 ≤ g; omega, h2⟩
    · simp only at e
      rcases hcs with ⟨-, -, q⟩ | ⟨g, q, -⟩
      · exact q
      · simp only at q; rw [q] at e; cases e
  · have : s = ([], [], false) := by
      have := List.eq_of_mem_replicate (show s ∈ List.replicate n ([], [], false) from hs)
      exact this
    subst this; rfl
theorem own_up {w : World} {B n s : Nat} {T : TypeId} {v : Value} {xs : List Value} (o : w.ownsRow 0 T s v n xs) (hl : ∀ b, v.ownBlock = some b → B ≤ b) : w.ownsRow B T s v n xs := by
  refine ⟨o.1, ?_⟩
  rcases o.2 with e | ⟨g, cap, cur, rfl, -, rest⟩
  · exact .inl e
  · exact .inr ⟨g, cap, cur, rfl, hl g rfl, rest⟩
/-- the slots' slices of a disk that New made: its own, and apart. -/
structure NewR (B : Nat) (w : World) (x5 x6 x7 : HdT) : Prop where
  o5 : w.ownsRow B 28 1 (SV x5) x5.2.1 (List.replicate x5.2.1 nS)
  o6 : w.ownsRow B 28 1 (SV x6) x6.2.1 (List.replicate x6.2.1 nS)
  o7 : w.ownsRow B 4 1 (SV x7) x7.2.1 (List.replicate x7.2.1 (.bool false))
  ap : ∀ b, (SV x5).ownBlock = some b → (SV x6).ownBlock = some b → False
theorem NInv.newR {w0 w w' : World} {p : Int} {x5 x6 x7 : HdT} (k : NInv w0 w p x5 x6 x7) (hc : ChF (BX w0) w w') : NewR (w0.heap.size + 2) w' x5 x6 x7 :=
  ⟨own_ChF (own_up k.o5 k.l5) hc (fun b h e => by have := k.l5 b h; rcases e with e | e <;> omega), own_ChF (own_up k.o6 k.l6) hc (fun b h e => by have := k.l6 b h; rcases e with e | e <;> omega), own_ChF (own_up k.o7 k.l7) hc (fun b h e => by have := k.l7 b h; rcases e with e | e <;> omega), k.ap⟩
theorem results_refA {fn : Func} {p u : Tmp} (hf : fn.results = #[.cell p RT, .tmp u]) {w0 w : World} {h q : RefH} (k : Boxes w0 w h q) (tmps : Array Value) (hp : tmps.getD p undef = .pointer (some ⟨w0.heap.size, 0, none⟩)) : (results fn tmps).run Try.prog w = .ok (.tuple #[h.v, tmps.getD u undef]) w := by
  rw [results_cell_tmp hf, hp]
  simp only [asAddr, Sem.run_pure, Result.andThen_ok]
  rw [loadVar_ref w _ h k.a]
  rfl
theorem NInv.start {w0 w : World} {p : Int} (k : Boxes w0 w zH ⟨p, nH, false, nH, nH, nH, nH, nH, true⟩) : NInv w0 w p nH nH nH :=
  ⟨k, World.ownsRow_nil _ _ _ _, World.ownsRow_nil _ _ _ _, World.ownsRow_nil _ _ _ _, fun b h => (by cases h), fun b h => (by cases h), fun b h => (by cases h), fun b h _ => (by cases h)⟩
set_option maxRecDepth 100000 in
set_option maxHeartbeats 8000000 in
theorem refNew_any (n : Nat) (p : Int) (w : World) (h1 : 1 ≤ n) (h2 : n ≤ 512) :
    Calls Try.prog 12 #[.int .i64 (n : Nat), .int .i64 p] w (fun e w' => ∃ (a5 a6 a7 : Option Addr) (c5 c6 c7 : Nat), e = .returned (.tuple #[(RefH.mk p nH false nH nH (a5, n, c5) (a6, n, c6) (a7, n, c7) true).v, .int .i64 0]) ∧ RefD w' (fun b => w.heap.size ≤ b ∧ b < w'.heap.size) ⟨p, nH, false, nH, nH, (a5, n, c5), (a6, n, c6), (a7, n, c7), true⟩ (newV n p) ∧ NewR (w.heap.size + 2) w' (a5, n, c5) (a6, n, c6) (a7, n, c7) ∧ Below w.heap.size w w') := by
  obtain ⟨i0, hi, hz0, hz1, hz2⟩ := info_parts Try.info28
  obtain ⟨j0, hj, hy0, hy1, hy2⟩ := info_parts Try.info4
  have K0 := Boxes.new w zH
  have h1I : ¬ (n : Int) < 1 := by omega
  have h2I : ¬ (512 : Int) < (n : Int) := by omega
  go_enter Try.func12, Try.ntmps12
  go_wp2_with (first | ((with_reducible show wpList _ _ _ (⟨_, Op.store RT _ _, _, _, _, _⟩ :: _) _ _); refine Hid.out ?_))
  refine Lib.hid ?_
  refine wpList_store_B K0 rfl _ _ rfl ⟨p, nH, false, nH, nH, nH, nH, nH, true⟩ rfl rfl ?_
  rintro w1 K1 -
  have N1 := Lib.hid (NInv.start K1)
  clear K0 K1
  go_wp2_with fail
  go_loopw [7] (fun vi wr => ∃ (k : Nat) (a5 a6 a7 : Option Addr) (c5 c6 c7 : Nat), k ≤ n ∧ vi = .int .i64 (k : Nat) ∧ Hid (NInv w wr p (a5, k, c5) (a6, k, c6) (a7, k, c7))) (fun vi _ => (n - intOf vi).toNat)
  case atStart => exact ⟨0, none, none, none, 0, 0, 0, Nat.zero_le _, rfl, N1⟩
  case round =>
    clear N1
    obtain ⟨k, a5, a6, a7, c5, c6, c7, hk, rfl, hN⟩ := hrel
    have N := hN.out
    clear hN
    by_cases hlt : k < n
    · have hltI : (k : Int) < (n : Int) := by omega
      have N2 := Lib.hid (N.below (below_alloc wr (.cells #[nS] 28)))
      obtain ⟨⟨-, -, -, -, -, m5, m6, m7, -⟩, mF⟩ := cells9D N.bx.b
      simp only at m5 m6 m7
      clear N
      go_wp2_with (first | (at_builtin; refine Hid.out ?_))
      refine Lib.hid ?_
      refine wpList_append_two rfl _ _ 29 rfl 28 i0 nS 24 Try.underlying29 hi hz0 hz1 hz2 rfl _ _ _ rfl N2.out.o5 (some ⟨wr.heap.size, 0, none⟩) 1 1 [nS] rfl (rowV_lit wr _ _ _ 1 _ rfl rfl rfl) (fun h => by cases h) (SV_one [nH]) (by show k + 1 ≤ maxLen; simp [maxLen]; omega) (by show (k + 1) * _ ≤ _; omega) ?_
      intro v5 w5 o5 hc5
      obtain ⟨b5, d5, rfl, B5, N5⟩ := N2.out.step5 o5 hc5
      clear o5 hc5 m5 m6 m7 mF
      obtain ⟨⟨-, -, -, -, -, p5, p6, p7, -⟩, pF⟩ := cells9D B5.b
      simp only at p5 p6 p7
      have pF5 := pF 5
      obtain ⟨⟨-, -, -, -, -, q5, q6, q7, -⟩, -⟩ := cells9D N5.bx.b
      simp only at q5 q6 q7
      have N6 := Lib.hid (N5.below (below_alloc _ (.cells #[nS] 28)))
      clear N5 B5 pF
      go_wp2_with (first | (at_builtin; refine Hid.out ?_))
      refine Lib.hid ?_
      refine wpList_append_two rfl _ _ 29 rfl 28 i0 nS 24 Try.underlying29 hi hz0 hz1 hz2 rfl _ _ _ rfl N6.out.o6 (some ⟨w5.heap.size, 0, none⟩) 1 1 [nS] rfl (rowV_lit _ _ _ _ 1 _ (by simp [World.setCell]) rfl rfl) (fun h => by cases h) (SV_one [nH]) (by show k + 1 ≤ maxLen; simp [maxLen]; omega) (by show (k + 1) * _ ≤ _; omega) ?_
      intro v6 w6 o6 hc6
      obtain ⟨b6, d6, rfl, B6, N6b⟩ := N6.out.step6 o6 hc6
      clear o6 hc6 p5 p6 p7 q5 q6 q7 pF5
      obtain ⟨⟨-, -, -, -, -, p5, p6, p7, -⟩, pF⟩ := cells9D B6.b
      simp only at p5 p6 p7
      have pF6 := pF 6
      obtain ⟨⟨-, -, -, -, -, q5, q6, q7, -⟩, -⟩ := cells9D N6b.bx.b
      simp only at q5 q6 q7
      have N7 := Lib.hid (N6b.below (below_alloc _ (.cells #[.bool false] 4)))
      clear N6b B6 pF
      go_wp2_with (first | (at_builtin; refine Hid.out ?_))
      refine Lib.hid ?_
      refine wpList_append_two rfl _ _ 30 rfl 4 j0 (.bool false) 1 Try.underlying30 hj hy0 hy1 hy2 rfl _ _ _ rfl N7.out.o7 (some ⟨w6.heap.size, 0, none⟩) 1 1 [.bool false] rfl (rowV_lit _ _ _ _ 1 _ (by simp [World.setCell]) rfl rfl) (fun h => by cases h) (fun u hu => by simp at hu; subst hu; rfl) (by show k + 1 ≤ maxLen; simp [maxLen]; omega) (by show (k + 1) * _ ≤ _; omega) ?_
      intro v7 w7 o7 hc7
      obtain ⟨b7, d7, rfl, B7, N7b⟩ := N7.out.step7 o7 hc7
      clear o7 hc7 p5 p6 p7 q5 q6 q7 pF6
      obtain ⟨⟨-, -, -, -, -, p5, p6, p7, -⟩, pF⟩ := cells9D B7.b
      simp only at p5 p6 p7
      have pF7 := pF 7
      obtain ⟨⟨-, -, -, -, -, q5, q6, q7, -⟩, -⟩ := cells9D N7b.bx.b
      simp only at q5 q6 q7
      have N8 := Lib.hid N7b
      clear N7b B7 pF
      go_wp2
      exact ⟨⟨k + 1, b5, b6, b7, d5, d6, d7, by omega, rfl, N8⟩, by simp [intOf]; omega⟩
    · have hltI : ¬ (k : Int) < (n : Int) := by omega
      obtain rfl : k = n := by omega
      have m := cells9D N.bx.b
      obtain ⟨⟨m0, m1, m2, m3, m4, m5, m6, m7, m8⟩, -⟩ := m
      simp only at m0 m1 m2 m3 m4 m5 m6 m7 m8
      have NN := Lib.hid N
      have KB := N.bx
      clear N
      go_wp2_with (first | ((with_reducible show wpList _ _ _ (⟨_, Op.store RT _ _, _, _, _, _⟩ :: _) _ _); refine Hid.out ?_))
      refine Lib.hid ?_
      refine wpList_store_A KB rfl _ _ rfl ⟨p, nH, false, nH, nH, (a5, k, c5), (a6, k, c6), (a7, k, c7), true⟩ rfl rfl ?_
      intro w9 K9 hc9
      have HC9 := Lib.hid hc9
      clear KB hc9 m0 m1 m2 m3 m4 m5 m6 m7 m8
      go_wp2
      refine bodyPost_ret (results_refA rfl K9 _ rfl) rfl ⟨a5, a6, a7, c5, c6, c7, rfl, ?_, NN.out.newR HC9.out, K9.bel⟩
      exact (NN.out.refD.keep HC9.out (fun b q e => by rcases e with e | e <;> omega)).mono (fun b q => ⟨by omega, by have := HC9.out.size; omega⟩) (fun b q => q.2)
end Go.Proofs.Ytdidalcflkphnaa
