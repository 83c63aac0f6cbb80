/-
  sha's reference: a block's words in plain numbers; what the reference's loops over a block work on.
-/
import Derived.Test.YthofndobmiamjaaDoorShL
namespace Go.Proofs.YthofndobmiamjaaDoor
open Go.RowKit

theorem sched_snoc (ws : List Nat) (k j : Nat) (h : ws.length = 16) (hj : j < 16 + k) : g' (sched ws (k + 1)) j = g' (sched ws k) j := by
  unfold g'
  simp only [sched]
  rw [List.getD_eq_getElem?_getD, List.getD_eq_getElem?_getD, List.getElem?_append_left (by rw [sched_len ws h k]; exact hj)]
theorem sched_stay (ws : List Nat) (k j : Nat) (h : ws.length = 16) (hj : j < 16 + k) : ∀ d, g' (sched ws (k + d)) j = g' (sched ws k) j
  | 0 => rfl
  | d + 1 => by rw [← Nat.add_assoc, sched_snoc ws (k + d) j h (by omega), sched_stay ws k j h hj d]
/-- the word of a block in its row of 64. -/
def wdR (b : List Nat) (j : Nat) : Nat := g' (sched (wordsR b) 64) j
theorem wdR_low (b : List Nat) (j : Nat) (hj : j < 16) : wdR b j = wordR b j := by
  unfold wdR
  have := sched_stay (wordsR b) 0 j (wordsR_len b) (by omega) 64
  rw [Nat.zero_add] at this
  rw [this]
  simp [sched, g', wordsR, List.getD_eq_getElem?_getD, hj]
theorem snoc_at (l : List Nat) (x i : Nat) (h : l.length = i) : g' (l ++ [x]) i = x := by
  unfold g'
  rw [List.getD_eq_getElem?_getD, List.getElem?_append_right (by omega), h, Nat.sub_self]
  simp
theorem sched_new (ws : List Nat) (n : Nat) (h : ws.length = 16) : g' (sched ws (n + 1)) (n + 16) = add32 (add32 (add32 (g' (sched ws n) n) (sig0 (g' (sched ws n) (n + 1)))) (g' (sched ws n) (n + 9))) (sig1 (g' (sched ws n) (n + 14))) := by
  rw [sched]
  exact snoc_at _ _ _ (by rw [sched_len ws h n, Nat.add_comm])
theorem wdR_step (b : List Nat) (i : Nat) (h0 : 16 ≤ i) (h1 : i < 64) : wdR b i = add32 (add32 (add32 (wdR b (i - 16)) (sig0 (wdR b (i - 15)))) (wdR b (i - 7))) (sig1 (wdR b (i - 2))) := by
  obtain ⟨n, rfl⟩ : ∃ n, i = n + 16 := ⟨i - 16, by omega⟩
  unfold wdR
  obtain ⟨ws, hws⟩ : ∃ ws, ws = wordsR b := ⟨_, rfl⟩
  have hl : ws.length = 16 := by rw [hws]; exact wordsR_len b
  rw [← hws]
  clear hws
  have e : ∀ j, j < 16 + n → g' (sched ws 64) j = g' (sched ws n) j := fun j hj => by
    have := sched_stay ws n j hl hj (64 - n)
    rwa [show n + (64 - n) = 64 by omega] at this
  have e2 : g' (sched ws 64) (n + 16) = g' (sched ws (n + 1)) (n + 16) := by
    have := sched_stay ws (n + 1) (n + 16) hl (by omega) (64 - (n + 1))
    rwa [show n + 1 + (64 - (n + 1)) = 64 by omega] at this
  rw [e2, show n + 16 - 16 = n by omega, show n + 16 - 15 = n + 1 by omega, show n + 16 - 7 = n + 9 by omega, show n + 16 - 2 = n + 14 by omega, e n (by omega), e (n + 1) (by omega), e (n + 9) (by omega), e (n + 14) (by omega)]
  exact sched_new ws n hl
theorem wdR_round (st b : List Nat) (i : Nat) (h : i < 64) : wdR b i = g' (roundsR st (wordsR b) i).2 0 := sched_at st (wordsR b) (wordsR_len b) 64 i h
theorem wdR_lt {b : List Nat} (hb : Bytes b) (i : Nat) (h : i < 64) : wdR b i < 4294967296 := by
  rw [wdR_round shaH b i h]
  exact (roundsR_words shaH_words (wordsR_words hb) i).2.g' 0
/-- a row of 64 of which the first n are there. -/
def fillR (f : Nat → Nat) (n : Nat) : List Nat := (List.range 64).map fun j => if j < n then f j else 0
theorem fillR_len (f : Nat → Nat) (n : Nat) : (fillR f n).length = 64 := by simp [fillR]
theorem fillR_zero (f : Nat → Nat) : fillR f 0 = List.replicate 64 0 := by
  apply List.ext_getElem (by simp [fillR])
  intro j h1 h2
  rw [List.getElem_replicate]
  simp only [fillR, List.getElem_map]
  rfl
theorem fillR_at (f : Nat → Nat) {n j : Nat} (hn : n ≤ 64) (hj : j < n) : g' (fillR f n) j = f j := by
  unfold g' fillR
  rw [List.getD_eq_getElem?_getD, List.getElem?_map, List.getElem?_range (by omega)]
  simp [hj]
theorem fillR_set (f : Nat → Nat) {n : Nat} : (fillR f n).set n (f n) = fillR f (n + 1) := by
  apply List.ext_getElem (by simp [fillR])
  intro j h1 h2
  rw [List.getElem_set]
  simp only [fillR, List.getElem_map, List.getElem_range]
  by_cases e : n = j
  · subst e; simp
  · rw [if_neg e]
    by_cases l : j < n
    · rw [if_pos l, if_pos (by omega)]
    · rw [if_neg l, if_neg (by omega)]
/-- what the reference's loop over the blocks works on. -/
structure RS (w W : World) (g6 g7 : Nat) (a : Option Addr) (L c : Nat) (P st : List Nat) : Prop where
  bel : Below w.heap.size w W
  own : W.ownsRow w.heap.size 5 1 (.slice a L c) L (P.map bv)
  k : W.heap[g6]? = some (.cells (shaK.map uv).toArray KT64 (0, 0))
  s : W.heap[g7]? = some (.cells (st.map uv).toArray AT8 (0, 0))
  le6 : w.heap.size ≤ g6
  le7 : w.heap.size ≤ g7
theorem own_ne_box {W : World} {B : Nat} {v : Value} {n : Nat} {xs : List Value} (h : W.ownsRow B 5 1 v n xs) {g : Nat} {cs : Array Value} {T : TypeId} {fr : Nat × Nat} (hg : W.heap[g]? = some (.cells cs T fr)) (hT : T ≠ 5) : v.ownBlock ≠ some g := by
  rcases h.2 with ⟨rfl, -⟩ | ⟨g', cap, cur, rfl, -, hg', -⟩
  · simp [Value.ownBlock]
  · simp only [Value.ownBlock]
    intro e
    injection e with e
    subst e
    rw [hg] at hg'
    injection hg' with hg'
    injection hg' with _ h2 _
    exact hT h2
theorem RS.below {w W W' : World} {g6 g7 : Nat} {a : Option Addr} {L c : Nat} {P st : List Nat} (h : RS w W g6 g7 a L c P st) (hb : Below W.heap.size W W') : RS w W' g6 g7 a L c P st :=
  ⟨h.bel.trans (hb.mono h.bel.size), h.own.kept (grownBy_of_below hb none) (by cases e : (Value.slice a L c).ownBlock with | none => exact .inl rfl | some g => exact .inr (by simp)), (hb.block _ (Array.getElem?_eq_some_iff.1 h.k).1).trans h.k, (hb.block _ (Array.getElem?_eq_some_iff.1 h.s).1).trans h.s, h.le6, h.le7⟩
theorem RS.setBox {w W : World} {g6 g7 : Nat} {a : Option Addr} {L c : Nat} {P st : List Nat} (h : RS w W g6 g7 a L c P st) {g : Nat} (hw : w.heap.size ≤ g) (h6 : g ≠ g6) (h7 : g ≠ g7) (ho : (Value.slice a L c).ownBlock ≠ some g) (cs : Array Value) : RS w (W.setRow g cs) g6 g7 a L c P st :=
  ⟨below_setRow h.bel hw cs, h.own.setRow_other ho cs, (_root_.Go.setRow_other W g g6 cs (Ne.symm h6)).trans h.k, (_root_.Go.setRow_other W g g7 cs (Ne.symm h7)).trans h.s, h.le6, h.le7⟩
theorem below_drewS (W : World) : Below W.heap.size W W.drew := ⟨rfl, rfl, rfl, Nat.le_refl _, fun _ _ => rfl⟩
theorem below_drewN (W : World) : ∀ m, Below W.heap.size W (W.drewN m)
  | 0 => Below.refl _ _
  | m + 1 => (below_drewN W m).drew
theorem own_setCell {W : World} {B : Nat} {v : Value} {n : Nat} {xs : List Value} (h : W.ownsRow B 5 1 v n xs) {g : Nat} {cs : Array Value} {T : TypeId} {fr : Nat × Nat} (hg : W.heap[g]? = some (.cells cs T fr)) (hT : T ≠ 5) (i : Nat) (x : Value) : (W.setCell ⟨g, i, none⟩ x).ownsRow B 5 1 v n xs := by
  have hne := own_ne_box h hg hT
  refine h.kept (w' := W.setCell ⟨g, i, none⟩ x) (row := some g) ⟨rfl, rfl, rfl, by simp, fun k _ h2 => heap_setCell_other W ⟨g, i, none⟩ k x (by intro e; exact h2 (by rw [e]))⟩ ?_
  cases e : v.ownBlock with
  | none => exact .inl rfl
  | some q => exact .inr (by rw [e] at hne; exact hne)
/-- within a block: the block's words too. -/
structure RW (w W : World) (g6 g7 g9 : Nat) (a : Option Addr) (L c : Nat) (P st ws : List Nat) : Prop where
  r : RS w W g6 g7 a L c P st
  w9 : W.heap[g9]? = some (.cells (ws.map uv).toArray KT64 (0, 0))
  le9 : w.heap.size ≤ g9
  n6 : g9 ≠ g6
  n7 : g9 ≠ g7
theorem RW.below {w W W' : World} {g6 g7 g9 : Nat} {a : Option Addr} {L c : Nat} {P st ws : List Nat} (h : RW w W g6 g7 g9 a L c P st ws) (hb : Below W.heap.size W W') : RW w W' g6 g7 g9 a L c P st ws :=
  ⟨h.r.below hb, (hb.block _ (Array.getElem?_eq_some_iff.1 h.w9).1).trans h.w9, h.le9, h.n6, h.n7⟩
theorem RW.set {w W : World} {g6 g7 g9 : Nat} {a : Option Addr} {L c : Nat} {P st ws : List Nat} (h : RW w W g6 g7 g9 a L c P st ws) (i x : Nat) : RW w (W.setCell ⟨g9, i, none⟩ (.int .u32 (x : Nat))) g6 g7 g9 a L c P st (ws.set i x) :=
  ⟨⟨h.r.bel.setCell (p := ⟨g9, i, none⟩) h.le9 _, own_setCell h.r.own h.w9 (by decide) i _, (heap_setCell_other W ⟨g9, i, none⟩ g6 _ (Ne.symm h.n6)).trans h.r.k, (heap_setCell_other W ⟨g9, i, none⟩ g7 _ (Ne.symm h.n7)).trans h.r.s, h.r.le6, h.r.le7⟩, by rw [← set_uv]; exact heap_setCell_same W g9 i _ KT64 _ h.w9, h.le9, h.n6, h.n7⟩
/-- within a block's rounds: the turning state too. -/
structure RV (w W : World) (g6 g7 g9 g15 : Nat) (a : Option Addr) (L c : Nat) (P st ws v : List Nat) : Prop where
  r : RW w W g6 g7 g9 a L c P st ws
  v15 : W.heap[g15]? = some (.cells (v.map uv).toArray AT8 (0, 0))
  le15 : w.heap.size ≤ g15
  n6 : g15 ≠ g6
  n7 : g15 ≠ g7
  n9 : g15 ≠ g9
theorem RV.below {w W W' : World} {g6 g7 g9 g15 : Nat} {a : Option Addr} {L c : Nat} {P st ws v : List Nat} (h : RV w W g6 g7 g9 g15 a L c P st ws v) (hb : Below W.heap.size W W') : RV w W' g6 g7 g9 g15 a L c P st ws v :=
  ⟨h.r.below hb, (hb.block _ (Array.getElem?_eq_some_iff.1 h.v15).1).trans h.v15, h.le15, h.n6, h.n7, h.n9⟩
theorem RV.setV {w W : World} {g6 g7 g9 g15 : Nat} {a : Option Addr} {L c : Nat} {P st ws v : List Nat} (h : RV w W g6 g7 g9 g15 a L c P st ws v) (v' : List Nat) {cs : Array Value} (hcs : cs = (v'.map uv).toArray) : RV w (W.setRow g15 cs) g6 g7 g9 g15 a L c P st ws v' := by
  subst hcs
  exact ⟨⟨h.r.r.setBox h.le15 h.n6 h.n7 (own_ne_box h.r.r.own h.v15 (by decide)) _, (_root_.Go.setRow_other W g15 g9 _ (Ne.symm h.n9)).trans h.r.w9, h.r.le9, h.r.n6, h.r.n7⟩, setRow_heap _ _ _ _ _ _ h.v15, h.le15, h.n6, h.n7, h.n9⟩
theorem RV.setS {w W : World} {g6 g7 g9 g15 : Nat} {a : Option Addr} {L c : Nat} {P st ws v : List Nat} (h : RV w W g6 g7 g9 g15 a L c P st ws v) (h67 : g6 ≠ g7) (i x : Nat) : RV w (W.setCell ⟨g7, i, none⟩ (.int .u32 (x : Nat))) g6 g7 g9 g15 a L c P (st.set i x) ws v :=
  ⟨⟨⟨h.r.r.bel.setCell (p := ⟨g7, i, none⟩) h.r.r.le7 _, own_setCell h.r.r.own h.r.r.s (by decide) i _, (heap_setCell_other W ⟨g7, i, none⟩ g6 _ h67).trans h.r.r.k, by rw [← set_uv]; exact heap_setCell_same W g7 i _ AT8 _ h.r.r.s, h.r.r.le6, h.r.r.le7⟩, (heap_setCell_other W ⟨g7, i, none⟩ g9 _ h.r.n7).trans h.r.w9, h.r.le9, h.r.n6, h.r.n7⟩, (heap_setCell_other W ⟨g7, i, none⟩ g15 _ h.n7).trans h.v15, h.le15, h.n6, h.n7, h.n9⟩
/-- a byte of the text. -/
theorem RS.byte {w W : World} {g6 g7 : Nat} {a : Option Addr} {L c : Nat} {P st : List Nat} (h : RS w W g6 g7 a L c P st) (h0 : 0 < L) : P.length = L ∧ ∃ b o, a = some ⟨b, o, none⟩ ∧ ∀ j, j < L → W.cell? ⟨b, o + j, none⟩ = some (.int .u8 (g' P j : Nat)) := by
  obtain ⟨ad, cap, e, -, -, -, hrow⟩ := ownsRow_parts h.own
  simp only [Value.slice.injEq] at e
  obtain ⟨rfl, -, rfl⟩ := e
  have hl : P.length = L := by have := hrow.1; simpa using this
  obtain ⟨b, o, rfl, hc⟩ := hrow.2 h0
  refine ⟨hl, b, o, rfl, fun j hj => ?_⟩
  rw [hc j hj]
  exact bv_getD (by rw [hl]; exact hj)
theorem u32_be (b0 b1 b2 b3 : Nat) (h0 : b0 < 256) (h1 : b1 < 256) (h2 : b2 < 256) (h3 : b3 < 256) : bits .or .u32 (bits .or .u32 (bits .or .u32 ((b0 * 16777216 : Nat) : Int) ((b1 * 65536 : Nat) : Int)) ((b2 * 256 : Nat) : Int)) ((b3 : Nat) : Int) = ((((b0 * 256 + b1) * 256 + b2) * 256 + b3 : Nat) : Int) := by
  have e1 : b0 * 16777216 ||| b1 * 65536 = (b0 * 256 + b1) * 65536 := by
    rw [show b0 * 16777216 = b0 <<< 24 from (Nat.shiftLeft_eq b0 24).symm, ← Nat.shiftLeft_add_eq_or_of_lt (by omega : b1 * 65536 < 2 ^ 24), Nat.shiftLeft_eq]
    omega
  have e2 : (b0 * 256 + b1) * 65536 ||| b2 * 256 = ((b0 * 256 + b1) * 256 + b2) * 256 := by
    rw [show (b0 * 256 + b1) * 65536 = (b0 * 256 + b1) <<< 16 from (Nat.shiftLeft_eq _ 16).symm, ← Nat.shiftLeft_add_eq_or_of_lt (by omega : b2 * 256 < 2 ^ 16), Nat.shiftLeft_eq]
    omega
  have e3 : ((b0 * 256 + b1) * 256 + b2) * 256 ||| b3 = ((b0 * 256 + b1) * 256 + b2) * 256 + b3 := by
    rw [show ((b0 * 256 + b1) * 256 + b2) * 256 = ((b0 * 256 + b1) * 256 + b2) <<< 8 from (Nat.shiftLeft_eq _ 8).symm, ← Nat.shiftLeft_add_eq_or_of_lt (by omega : b3 < 2 ^ 8), Nat.shiftLeft_eq]
  rw [u32_or_nat _ _ (by omega) (by omega), e1, u32_or_nat _ _ (by omega) (by omega), e2, u32_or_nat _ _ (by omega) (by omega), e3]
theorem sig0_raw (x : Nat) (h : x < 4294967296) : bits .xor .u32 (bits .xor .u32 (rotr x 7 : Nat) (rotr x 18 : Nat)) ((x : Int) / 8) = ((sig0 x : Nat) : Int) := by
  rw [show (x : Int) / 8 = ((x / 8 : Nat) : Int) by omega]
  rw [u32_xor_nat _ _ (rotr_lt h) (rotr_lt h), u32_xor_nat _ _ (xor_lt32 (rotr_lt h) (rotr_lt h)) (by omega)]
  simp [sig0, turns, turnL]
theorem sig1_raw (x : Nat) (h : x < 4294967296) : bits .xor .u32 (bits .xor .u32 (rotr x 17 : Nat) (rotr x 19 : Nat)) ((x : Int) / 1024) = ((sig1 x : Nat) : Int) := by
  rw [show (x : Int) / 1024 = ((x / 1024 : Nat) : Int) by omega]
  rw [u32_xor_nat _ _ (rotr_lt h) (rotr_lt h), u32_xor_nat _ _ (xor_lt32 (rotr_lt h) (rotr_lt h)) (by omega)]
  simp [sig1, turns, turnL]
theorem big_raw (x a b c : Nat) (h : x < 4294967296) : bits .xor .u32 (bits .xor .u32 (rotr x a : Nat) (rotr x b : Nat)) (rotr x c : Nat) = ((turns x [a, b, c] : Nat) : Int) := by
  rw [u32_xor_nat _ _ (rotr_lt h) (rotr_lt h), u32_xor_nat _ _ (xor_lt32 (rotr_lt h) (rotr_lt h)) (rotr_lt h)]
  simp [turns, turnL]
theorem xor_max (e : Nat) (he : e < 4294967296) : bits .xor .u32 (e : Int) 4294967295 = ((4294967295 - e : Nat) : Int) := by
  show IntKind.u32.wrap ((BitVec.ofInt 32 (e : Int) ^^^ BitVec.ofInt 32 4294967295).toNat : Int) = _
  have h1 : BitVec.ofInt 32 4294967295 = BitVec.allOnes 32 := by decide
  rw [h1, BitVec.xor_comm, BitVec.allOnes_xor, BitVec.toNat_not, ofInt_u32 e he, IntKind.wrap_u32']
  omega
theorem wp_store_int {P : Program} {o : Oper} {a : Act} {w : World} {K : Act → World → Prop} {Q : Exit → Act → World → Prop} (ty : TypeId) (x y : Operand) (ho : o.op = .store ty x y)
    (g i : Nat) (k : IntKind) (z : Int) (hx : a.eval x = .pointer (some ⟨g, i, none⟩)) (hy : a.eval y = .int k z) (hs : (sizeOf ty).run P w = .ok 1 w) (old : Value) (hc : w.cell? ⟨g, i, none⟩ = some old) (hf : w.frozen? ⟨g, i, none⟩ = false)
    (h : K (a.put o.dst undef) (w.setCell ⟨g, i, none⟩ (.int k z))) : o.wp P a w K Q := by
  unfold Oper.wp
  unfold execOp
  simp only [ho, hx, hy]
  simp [go_sem, Instr.storeAt, Instr.sureAddr, Result.andThen, hs, hc, hf]
  exact h
theorem ch_ref (e f g : Nat) (he : e < 4294967296) (hf : f < 4294967296) (hg : g < 4294967296) : bits .xor .u32 (bits .and .u32 (e : Int) (f : Int)) (bits .and .u32 (bits .xor .u32 (e : Int) 4294967295) (g : Int)) = ((ch e f g : Nat) : Int) := by
  rw [u32_and_nat e f he hf, xor_max e he, u32_and_nat _ g (by omega) hg, u32_xor_nat _ _ (and_lt32 he) (and_lt32 (by omega))]
  rfl
theorem t1_ref (n7 n4 n5 n6 kp wp : Nat) (h4 : n4 < 4294967296) (h5 : n5 < 4294967296) (h6 : n6 < 4294967296) : (((n7 : Int) + bits .xor .u32 (bits .xor .u32 (rotr n4 6 : Nat) (rotr n4 11 : Nat)) (rotr n4 25 : Nat) + bits .xor .u32 (bits .and .u32 (n4 : Int) (n5 : Int)) (bits .and .u32 (bits .xor .u32 (n4 : Int) 4294967295) (n6 : Int)) + (kp : Int)) % 4294967296 + (wp : Int)) % 4294967296 = ((add32 (add32 (add32 (add32 n7 (big1 n4)) (ch n4 n5 n6)) kp) wp : Nat) : Int) := by
  rw [big_raw n4 6 11 25 h4, ch_ref n4 n5 n6 h4 h5 h6]
  simp only [add32, big1]
  omega
theorem t2_ref (n0 n1 n2 : Nat) (h0 : n0 < 4294967296) (h1 : n1 < 4294967296) (h2 : n2 < 4294967296) : (bits .xor .u32 (bits .xor .u32 (rotr n0 2 : Nat) (rotr n0 13 : Nat)) (rotr n0 22 : Nat) + bits .xor .u32 (bits .xor .u32 (bits .and .u32 (n0 : Int) (n1 : Int)) (bits .and .u32 (n0 : Int) (n2 : Int))) (bits .and .u32 (n1 : Int) (n2 : Int))) % 4294967296 = ((add32 (big0 n0) (maj n0 n1 n2) : Nat) : Int) := by
  rw [big_raw n0 2 13 22 h0, maj_raw n0 n1 n2 h0 h1 h2]
  simp only [add32, big0]
  omega
end Go.Proofs.YthofndobmiamjaaDoor
