/-
  sha: a block mixed into the state.
-/
import Derived.Test.YthofndobmiamjaaDoorShC
import Derived.Test.YthofndobmiamjaaDoorSinkB
namespace Go.Proofs.YthofndobmiamjaaDoor
open Go.RowKit

abbrev KT64 : TypeId := 58
theorem cell_belowS {w w' : World} {b off : Nat} {v : Value} (h : w.cell? ⟨b, off, none⟩ = some v) (hb : Below w.heap.size w w') : w'.cell? ⟨b, off, none⟩ = some v := (hb.cell (p := ⟨b, off, none⟩) (World.block_lt_of_cell? w _ h)).trans h
/-- the constants lie in block 1. -/
def CK (W : World) : Prop := ∃ t fr, W.heap[1]? = some (.cells (shaK.map uv).toArray t fr)
theorem CK.below {w W : World} {B : Nat} (h : CK w) (hb : Below B w W) (hB : w.heap.size ≤ B) : CK W := by
  obtain ⟨t, fr, h⟩ := h
  exact ⟨t, fr, (hb.block 1 (by have := (Array.getElem?_eq_some_iff.1 h).1; omega)).trans h⟩
theorem exec_load_row {P : Program} {o : Oper} {a : Act} {w : World} (ty : TypeId) (x : Operand) (ho : o.op = .load ty x)
    (g : Nat) (hx : a.eval x = .pointer (some ⟨g, 0, none⟩)) (t : TypeId) (cs : Array Value) (fr : Nat × Nat) (d : TypeDesc) (hg : w.heap[g]? = some (.cells cs t fr))
    (hu : P.underlying ty = some d) (hd : (match d with | .struct _ | .array _ _ => true | _ => false) = true) (hi : (P.info? ty).map (·.size) = some cs.size) :
    (execOp a.eval o).run P w = .ok (.value (.agg cs)) w := by
  unfold execOp
  simp only [ho, hx, Instr.loadAt, Instr.sureAddr, Sem.run_bind, Sem.run_pure, Result.andThen_ok, run_loadVar_row w g t ty cs fr d hg hu hd hi]
structure M0 (w W : World) (A8 A64 : Array Value) : Prop where
  bel : Below w.heap.size w W
  s : W.heap[w.heap.size]? = some (.cells A8 AT8 (0, 0))
  b : W.heap[w.heap.size + 1]? = some (.cells A64 BT64 (0, 0))
  r : W.heap[w.heap.size + 1 + 1]? = some (.cells ((List.replicate 8 0).map uv).toArray AT8 (0, 0))
theorem M0.start (w : World) (A8 A64 : Array Value) : M0 w (((w.alloc (.cells A8 AT8)).alloc (.cells A64 BT64)).alloc (.cells ((List.replicate 8 0).map uv).toArray AT8)) A8 A64 := by
  refine ⟨(below_alloc w _).trans (((below_alloc _ _).mono (by simp)).trans ((below_alloc _ _).mono (by simp <;> omega))), ?_, ?_, ?_⟩
  · rw [heap_alloc_old _ _ (by simp; omega), heap_alloc_old _ _ (by simp)]; exact heap_alloc_new w _
  · rw [heap_alloc_old _ _ (by simp)]
    have := heap_alloc_new (w.alloc (.cells A8 AT8)) (.cells A64 BT64)
    simpa using this
  · have := heap_alloc_new ((w.alloc (.cells A8 AT8)).alloc (.cells A64 BT64)) (.cells ((List.replicate 8 0).map uv).toArray AT8)
    simpa using this
theorem M0.lt {w W : World} {A8 A64 : Array Value} (h : M0 w W A8 A64) : w.heap.size + 2 < W.heap.size := by have := (Array.getElem?_eq_some_iff.1 h.r).1; omega
theorem M0.below {w W W' : World} {A8 A64 : Array Value} (h : M0 w W A8 A64) (hb : Below W.heap.size W W') : M0 w W' A8 A64 := by
  have := h.lt
  exact ⟨h.bel.trans (hb.mono h.bel.size), (hb.block _ (by omega)).trans h.s, (hb.block _ (by omega)).trans h.b, (hb.block _ (by omega)).trans h.r⟩
theorem M0.setRow {w W : World} {A8 A64 : Array Value} (h : M0 w W A8 A64) {g : Nat} (hg : w.heap.size + 2 < g) (cs : Array Value) : M0 w (W.setRow g cs) A8 A64 :=
  ⟨below_setRow h.bel (by omega) cs, (_root_.Go.setRow_other W g _ cs (by omega)).trans h.s, (_root_.Go.setRow_other W g _ cs (by omega)).trans h.b, (_root_.Go.setRow_other W g _ cs (by omega)).trans h.r⟩
theorem M0.setCell {w W : World} {A8 A64 : Array Value} (h : M0 w W A8 A64) {g : Nat} (hg : w.heap.size + 2 < g) (i : Nat) (x : Value) : M0 w (W.setCell ⟨g, i, none⟩ x) A8 A64 :=
  ⟨h.bel.setCell (p := ⟨g, i, none⟩) (by show w.heap.size ≤ g; omega) _, (heap_setCell_other W ⟨g, i, none⟩ _ _ (by simp only; omega)).trans h.s, (heap_setCell_other W ⟨g, i, none⟩ _ _ (by simp only; omega)).trans h.b, (heap_setCell_other W ⟨g, i, none⟩ _ _ (by simp only; omega)).trans h.r⟩
theorem infoA16 : (Tryd.prog.info? AT16).map (·.size) = some 16 := by kernel_rfl
theorem infoA8 : (Tryd.prog.info? AT8).map (·.size) = some 8 := by kernel_rfl
theorem infoB64 : (Tryd.prog.info? BT64).map (·.size) = some 64 := by kernel_rfl
theorem infoK64 : (Tryd.prog.info? KT64).map (·.size) = some 64 := by kernel_rfl
theorem uv_one (l : List Nat) : ((l.map uv).toArray).all (·.oneCell') = true := by simp [uv, Value.oneCell']
/-- what the loop works on. -/
structure M1 (w W : World) (A8 A64 : Array Value) (g5 g6 : Nat) (ws st : List Nat) : Prop where
  m : M0 w W A8 A64
  a : W.heap[g5]? = some (.cells (ws.map uv).toArray AT16 (0, 0))
  n : W.heap[g6]? = some (.cells (st.map uv).toArray AT8 (0, 0))
  ne : g5 ≠ g6
  l5 : w.heap.size + 2 < g5
  l6 : w.heap.size + 2 < g6
theorem M1.made {w W : World} {A8 A64 : Array Value} {g5 g6 : Nat} (h : M0 w W A8 A64) (h5 : W.heap[g5]? = some (.cells ((List.replicate 16 0).map uv).toArray AT16 (0, 0))) (h6 : W.heap[g6]? = some (.cells ((List.replicate 8 0).map uv).toArray AT8 (0, 0))) (hne : g5 ≠ g6) (l5 : w.heap.size + 2 < g5) (l6 : w.heap.size + 2 < g6) (ws st : List Nat) : M1 w ((W.setRow g5 (ws.map uv).toArray).setRow g6 (st.map uv).toArray) A8 A64 g5 g6 ws st :=
  ⟨(h.setRow l5 _).setRow l6 _, (_root_.Go.setRow_other _ g6 g5 _ hne).trans (setRow_heap _ _ _ _ _ _ h5), setRow_heap _ _ _ _ _ _ ((_root_.Go.setRow_other _ g5 g6 _ (Ne.symm hne)).trans h6), hne, l5, l6⟩
theorem M1.drewN {w W : World} {A8 A64 : Array Value} {g5 g6 : Nat} {ws st : List Nat} (h : M1 w W A8 A64 g5 g6 ws st) : ∀ m, M1 w (W.drewN m) A8 A64 g5 g6 ws st
  | 0 => h
  | m + 1 => by
    have k := M1.drewN h m
    exact ⟨⟨k.m.bel.drew, k.m.s, k.m.b, k.m.r⟩, k.a, k.n, k.ne, k.l5, k.l6⟩
theorem M1.below {w W W' : World} {A8 A64 : Array Value} {g5 g6 : Nat} {ws st : List Nat} (h : M1 w W A8 A64 g5 g6 ws st) (hb : Below W.heap.size W W') : M1 w W' A8 A64 g5 g6 ws st :=
  ⟨h.m.below hb, (hb.block _ (Array.getElem?_eq_some_iff.1 h.a).1).trans h.a, (hb.block _ (Array.getElem?_eq_some_iff.1 h.n).1).trans h.n, h.ne, h.l5, h.l6⟩
theorem intsV_litS (w : World) (cs : Array Value) (T : TypeId) (n : Nat) (l : List Int) (hcs : cs.toList = l.map iv) (hn : l.length = n) (hs : n ≤ 140737488355328) : IntsV (w.alloc (.cells cs T)) (some ⟨w.heap.size, 0, none⟩, n, n) l := by
  refine ⟨⟨by simpa using hn, fun _ => ⟨w.heap.size, 0, rfl, fun i hi => ?_⟩⟩, hs, Nat.le_refl _, fun h => by cases h⟩
  rw [cell_of_row _ _ _ _ _ _ (heap_alloc_new w _), ← hcs]
  simp
theorem IntsV.drewS {w : World} {x : Option Addr × Nat × Nat} {l : List Int} (h : IntsV w x l) : IntsV w.drew x l := ⟨h.row.kept (fun _ _ => rfl), h.small, h.cap, h.nil⟩
theorem wrap_add32 (a b : Nat) : IntKind.u32.wrap ((a : Int) + (b : Int)) = ((add32 a b : Nat) : Int) := by
  rw [IntKind.wrap_u32']
  simp [add32]
theorem max_xor (e : Nat) (he : e < 4294967296) : bits .xor .u32 IntKind.u32.max (e : Int) = ((4294967295 - e : Nat) : Int) := by
  show IntKind.u32.wrap ((BitVec.ofInt 32 IntKind.u32.max ^^^ BitVec.ofInt 32 (e : Int)).toNat : Int) = _
  have h1 : BitVec.ofInt 32 IntKind.u32.max = BitVec.allOnes 32 := by decide
  rw [h1, BitVec.allOnes_xor, BitVec.toNat_not, ofInt_u32 e he, IntKind.wrap_u32']
  omega
theorem ch_raw (e f g : Nat) (he : e < 4294967296) (hf : f < 4294967296) (hg : g < 4294967296) : bits .xor .u32 (bits .and .u32 (e : Int) (f : Int)) (bits .and .u32 (bits .xor .u32 IntKind.u32.max (e : Int)) (g : Int)) = ((ch e f g : Nat) : Int) := by
  rw [u32_and_nat e f he hf, max_xor e he, u32_and_nat _ g (by omega) hg, u32_xor_nat _ _ (and_lt32 he) (and_lt32 (by omega))]
  rfl
theorem maj_raw (a b c : Nat) (ha : a < 4294967296) (hb : b < 4294967296) (hc : c < 4294967296) : bits .xor .u32 (bits .xor .u32 (bits .and .u32 (a : Int) (b : Int)) (bits .and .u32 (a : Int) (c : Int))) (bits .and .u32 (b : Int) (c : Int)) = ((maj a b c : Nat) : Int) := by
  rw [u32_and_nat a b ha hb, u32_and_nat a c ha hc, u32_and_nat b c hb hc, u32_xor_nat _ _ (and_lt32 ha) (and_lt32 ha), u32_xor_nat _ _ (xor_lt32 (and_lt32 ha) (and_lt32 ha)) (and_lt32 hb)]
  rfl
theorem t1_raw (n7 n4 n5 n6 kp s0 : Nat) (l4 : n4 < 4294967296) (l5 : n5 < 4294967296) (l6 : n6 < 4294967296) : IntKind.u32.wrap (IntKind.u32.wrap (IntKind.u32.wrap (IntKind.u32.wrap ((n7 : Int) + (turns n4 [6, 11, 25] : Nat)) + bits .xor .u32 (bits .and .u32 (n4 : Int) (n5 : Int)) (bits .and .u32 (bits .xor .u32 IntKind.u32.max (n4 : Int)) (n6 : Int))) + (kp : Int)) + (s0 : Int)) = ((add32 (add32 (add32 (add32 n7 (big1 n4)) (ch n4 n5 n6)) kp) s0 : Nat) : Int) := by
  rw [ch_raw n4 n5 n6 l4 l5 l6, wrap_add32, wrap_add32, wrap_add32, wrap_add32]
  rfl
theorem t2_raw (n0 n1 n2 : Nat) (l0 : n0 < 4294967296) (l1 : n1 < 4294967296) (l2 : n2 < 4294967296) : ((turns n0 [2, 13, 22] : Nat) + bits .xor .u32 (bits .xor .u32 (bits .and .u32 (n0 : Int) (n1 : Int)) (bits .and .u32 (n0 : Int) (n2 : Int))) (bits .and .u32 (n1 : Int) (n2 : Int))) % 4294967296 = ((add32 (big0 n0) (maj n0 n1 n2) : Nat) : Int) := by
  rw [maj_raw n0 n1 n2 l0 l1 l2]
  simp [add32, big0]
theorem wp_copy_row {P : Program} {o : Oper} {a : Act} {w : World} {K : Act → World → Prop} {Q : Exit → Act → World → Prop} (d s : Operand) (dT sT : TypeId)
    (ho : o.op = .call { callee := .builtin .copy, args := #[d, s], argTypes := #[dT, sT] }) (elem : TypeId) (hu : P.underlying dT = some (.slice elem)) (hsz : (P.info? elem).map (·.size) = some 1)
    (g off dLen dCap : Nat) (ad : Addr) (sLen sCap : Nat) (hd : a.eval d = .slice (some ⟨g, off, none⟩) dLen dCap) (hs : a.eval s = .slice (some ad) sLen sCap)
    (cur : Array Value) (t : TypeId) (hg : w.heap[g]? = some (.cells cur t (0, 0))) (cs : List Value) (hn : cs.length = Nat.min sLen dLen)
    (hsrc : ∀ j v, cs[j]? = some v → w.cell? (ad.add j) = some v) (hfit : off + cs.length ≤ cur.size) (h1 : ∀ v ∈ cs, v.oneCell' = true)
    (h : K (a.put o.dst (goInt cs.length)) (w.setRow g (cur.toList.take off ++ (cs ++ cur.toList.drop (off + cs.length))).toArray)) : o.wp P a w K Q := by
  have hrun := run_copy_row (P := P) w dT sT o.type elem g off dLen dCap ad sLen sCap cur t cs hu hsz hg hn hsrc hfit h1
  unfold Oper.wp
  simp [execOp, ho, resolve, invoke, builtin, hd, hs, hrun, Result.andThen]
  exact h
theorem M1.setN {w W : World} {A8 A64 : Array Value} {g5 g6 : Nat} {ws st : List Nat} (h : M1 w W A8 A64 g5 g6 ws st) (l : List Nat) {cs : Array Value} (hcs : cs = (l.map uv).toArray) : M1 w (W.setRow g6 cs) A8 A64 g5 g6 ws l := by
  subst hcs
  exact ⟨h.m.setRow h.l6 _, (_root_.Go.setRow_other W g6 g5 _ h.ne).trans h.a, setRow_heap _ _ _ _ _ _ h.n, h.ne, h.l5, h.l6⟩
theorem M1.setS {w W : World} {A8 A64 : Array Value} {g5 g6 : Nat} {ws st : List Nat} (h : M1 w W A8 A64 g5 g6 ws st) (l : List Nat) {cs : Array Value} (hcs : cs = (l.map uv).toArray) : M1 w (W.setRow g5 cs) A8 A64 g5 g6 l st := by
  subst hcs
  exact ⟨h.m.setRow h.l5 _, setRow_heap _ _ _ _ _ _ h.a, (_root_.Go.setRow_other W g5 g6 _ (Ne.symm h.ne)).trans h.n, h.ne, h.l5, h.l6⟩
theorem M1.cellN {w W : World} {A8 A64 : Array Value} {g5 g6 : Nat} {ws st : List Nat} (h : M1 w W A8 A64 g5 g6 ws st) (i x : Nat) : M1 w (W.setCell ⟨g6, i, none⟩ (.int .u32 (x : Nat))) A8 A64 g5 g6 ws (st.set i x) :=
  ⟨h.m.setCell h.l6 i _, (heap_setCell_other W ⟨g6, i, none⟩ g5 _ h.ne).trans h.a, by rw [← set_uv]; exact heap_setCell_same W g6 i _ AT8 _ h.n, h.ne, h.l5, h.l6⟩
theorem M1.cellS {w W : World} {A8 A64 : Array Value} {g5 g6 : Nat} {ws st : List Nat} (h : M1 w W A8 A64 g5 g6 ws st) (i x : Nat) : M1 w (W.setCell ⟨g5, i, none⟩ (.int .u32 (x : Nat))) A8 A64 g5 g6 (ws.set i x) st :=
  ⟨h.m.setCell h.l5 i _, by rw [← set_uv]; exact heap_setCell_same W g5 i _ AT16 _ h.a, (heap_setCell_other W ⟨g5, i, none⟩ g6 _ (Ne.symm h.ne)).trans h.n, h.ne, h.l5, h.l6⟩
theorem uv_memb (l : List Nat) : ∀ v ∈ l.map uv, v.oneCell' = true := by
  intro v hv
  simp only [List.mem_map] at hv
  obtain ⟨x, -, rfl⟩ := hv
  rfl
theorem add_mod32 (a b : Nat) : ((a : Int) + (b : Int)) % 4294967296 = ((add32 a b : Nat) : Int) := by simp [add32]
theorem shiftN (N : List Nat) (h : N.length = 8) : ((N.map uv).toArray.toList.take 1 ++ ((N.take 7).map uv ++ (N.map uv).toArray.toList.drop (1 + ((N.take 7).map uv).length))).toArray = ((N.take 1 ++ N.take 7).map uv).toArray := by
  match N, h with
  | [a, b, c, d, e, f, g, h], _ => rfl
theorem shiftS (S : List Nat) (h : S.length = 16) : ((S.map uv).toArray.toList.take 0 ++ ((S.drop 1).map uv ++ (S.map uv).toArray.toList.drop (0 + ((S.drop 1).map uv).length))).toArray = ((S.drop 1 ++ [g' S 15]).map uv).toArray := by
  match S, h with
  | [a, b, c, d, e, f, g, h, i, j, k, l, m, n, o, p], _ => rfl
theorem shiftS_set (S : List Nat) (h : S.length = 16) (x : Nat) : (S.drop 1 ++ [g' S 15]).set 15 x = S.drop 1 ++ [x] := by
  match S, h with
  | [a, b, c, d, e, f, g, h, i, j, k, l, m, n, o, p], _ => rfl
theorem roundN (N : List Nat) (h : N.length = 8) (x y : Nat) : ((N.take 1 ++ N.take 7).set 4 x).set 0 y = [y, g' N 0, g' N 1, g' N 2, x, g' N 4, g' N 5, g' N 6] := by
  match N, h with
  | [a, b, c, d, e, f, g, h], _ => rfl
theorem shiftN_at (N : List Nat) (h : N.length = 8) : g' (N.take 1 ++ N.take 7) 4 = g' N 3 ∧ (N.take 1 ++ N.take 7).length = 8 := by
  match N, h with
  | [a, b, c, d, e, f, g, h], _ => exact ⟨rfl, rfl⟩
theorem f_raw (s0 s9 s1 s14 : Nat) (l1 : s1 < 4294967296) (l14 : s14 < 4294967296) : IntKind.u32.wrap (IntKind.u32.wrap (IntKind.u32.wrap ((s0 : Int) + (s9 : Int)) + bits .xor .u32 ((turns s1 [7, 18] : Nat) : Int) ((s1 : Int) / 8)) + bits .xor .u32 ((turns s14 [17, 19] : Nat) : Int) ((s14 : Int) / 1024)) = ((add32 (add32 (add32 s0 s9) (sig0 s1)) (sig1 s14) : Nat) : Int) := by
  have h1 : (s1 : Int) / 8 = ((s1 / 8 : Nat) : Int) := by simp
  have h2 : (s14 : Int) / 1024 = ((s14 / 1024 : Nat) : Int) := by simp
  rw [h1, h2, u32_xor_nat _ _ (turns_lt l1 _) (by omega), u32_xor_nat _ _ (turns_lt l14 _) (by omega), wrap_add32, wrap_add32, wrap_add32]
  rfl
def stSum (st N : List Nat) (i : Nat) : List Nat := (List.range 8).map fun j => if j < i then add32 (g' st j) (g' N j) else g' st j
theorem stSum_zero (st N : List Nat) (h : st.length = 8) : stSum st N 0 = st := by
  match st, h with
  | [a, b, c, d, e, f, g, h], _ => rfl
theorem stSum_len (st N : List Nat) (i : Nat) : (stSum st N i).length = 8 := by simp [stSum]
theorem stSum_at (st N : List Nat) {i : Nat} (hi : i < 8) : g' (stSum st N i) i = g' st i := by
  unfold stSum
  show (List.map _ _).getD i 0 = _
  rw [List.getD_eq_getElem?_getD, List.getElem?_map, List.getElem?_range hi]
  simp
theorem stSum_set (st N : List Nat) {i : Nat} (_hi : i < 8) : (stSum st N i).set i (add32 (g' st i) (g' N i)) = stSum st N (i + 1) := by
  apply List.ext_getElem (by simp [stSum])
  intro j h1 h2
  rw [List.getElem_set]
  simp only [stSum, List.getElem_map, List.getElem_range]
  by_cases e : i = j
  · subst e; simp
  · rw [if_neg e]
    by_cases l : j < i
    · rw [if_pos l, if_pos (by omega)]
    · rw [if_neg l, if_neg (by omega)]
theorem stSum_eight (st b : List Nat) : stSum st (roundsR st (wordsR b) 64).1 8 = mixR st b := by
  unfold stSum mixR
  apply List.map_congr_left
  intro j hj
  rw [if_pos (List.mem_range.1 hj)]
structure M2 (w W : World) (l : List Nat) : Prop where
  bel : Below w.heap.size w W
  s : W.heap[w.heap.size]? = some (.cells (l.map uv).toArray AT8 (0, 0))
  r : W.heap[w.heap.size + 1 + 1]? = some (.cells ((List.replicate 8 0).map uv).toArray AT8 (0, 0))
theorem M2.set {w W : World} {l : List Nat} (h : M2 w W l) (i x : Nat) : M2 w (W.setCell ⟨w.heap.size, i, none⟩ (.int .u32 (x : Nat))) (l.set i x) :=
  ⟨h.bel.setCell (p := ⟨w.heap.size, i, none⟩) (by show w.heap.size ≤ w.heap.size; omega) _, by rw [← set_uv]; exact heap_setCell_same W _ i _ AT8 _ h.s, (heap_setCell_other W ⟨w.heap.size, i, none⟩ _ _ (by simp only; omega)).trans h.r⟩
set_option maxRecDepth 100000 in
set_option maxHeartbeats 16000000 in
theorem mixed_any (st b : List Nat) (hst : Words st) (hsl : st.length = 8) (hb : Bytes b) (hbl : b.length = 64) (w : World) (hck : CK w) :
    Calls Tryd.prog 31 #[.agg (st.map uv).toArray, .agg (b.map bv).toArray] w fun e w' => e = .returned (.agg ((mixR st b).map uv).toArray) ∧ Below w.heap.size w w' := by
  obtain ⟨A8, hA8⟩ : ∃ A, A = (st.map uv).toArray := ⟨_, rfl⟩
  obtain ⟨A64, hA64⟩ : ∃ A, A = (b.map bv).toArray := ⟨_, rfl⟩
  have hs8 : A8.size = 8 := by rw [hA8]; simp [hsl]
  have hs64 : A64.size = 64 := by rw [hA64]; simp [hbl]
  have KW := fun w => wordsOf_any b hb hbl w
  simp only [← hA64] at KW
  have HST := Lib.hid (And.intro hst (And.intro hsl (And.intro hb hbl)))
  have HA8 := Lib.hid hA8
  have HA64 := Lib.hid hA64
  have hi8 : (Tryd.prog.info? AT8).map (·.size) = some A8.size := by rw [hs8]; exact infoA8
  have hi64 : (Tryd.prog.info? BT64).map (·.size) = some A64.size := by rw [hs64]; exact infoB64
  have HI := Lib.hid (And.intro hi8 hi64)
  have HCK := Lib.hid hck
  rw [← hA8, ← hA64]
  clear hst hsl hb hbl hA8 hA64 hs8 hs64 hi8 hi64 hck
  go_enter Tryd.func31, Tryd.ntmps31
  go_upto_region 1 with fail
  refine (?_ : ∀ W, M0 w W A8 A64 → Code.wp Tryd.prog _ _ _ W) _ (M0.start w A8 A64)
  intro W hW
  have HW := Lib.hid hW
  clear hW
  obtain ⟨MX, hMX⟩ : ∃ S : Value → Value → World → Prop, S = fun v5 v6 wx => ∃ g5 g6, v5 = .pointer (some ⟨g5, 0, none⟩) ∧ v6 = .pointer (some ⟨g6, 0, none⟩) ∧ M1 w wx A8 A64 g5 g6 (wordsR b) st := ⟨_, rfl⟩
  have HMX := Lib.hid hMX
  clear hMX
  go_cut [5, 6] (fun v5 v6 wx => MX v5 v6 wx)
  case first =>
   as_aux_lemma =>
    have hS0 : M0 w W.drew A8 A64 := HW.out.below ⟨rfl, rfl, rfl, Nat.le_refl _, fun _ _ => rfl⟩
    refine GoX.start 6 (fun w' => w'.heap[w.heap.size]? = some (.cells A8 AT8 (0, 0)) ∧ w'.heap[w.heap.size + 1]? = some (.cells A64 BT64 (0, 0))) (by kernel_rfl) ?_
    have S0 : W.drew.heap[w.heap.size]? = some (.cells A8 AT8 (0, 0)) ∧ W.drew.heap[w.heap.size + 1]? = some (.cells A64 BT64 (0, 0)) := ⟨hS0.s, hS0.b⟩
    refine GoX.take 0 rfl (by kernel_rfl) (by kernel_rfl) (by rfl) (fun _ _ _ h => h) (v := .agg A64) S0 ?tyA0 ?trA0
    case tyA0 => (intro w1 hSw; exact exec_load_row BT64 _ rfl (w.heap.size + 1) rfl BT64 A64 (0, 0) _ hSw.2 Tryd.underlying54 rfl HI.out.2)
    simp only [Act.put, List.setIfInBounds_toArray, List.set_cons_zero, List.set_cons_succ]
    refine GoX.take 2 rfl (by kernel_rfl) (by kernel_rfl) (by rfl) (fun _ _ _ h => h) (v := .agg A8) S0 ?tyA2 ?trA2
    case tyA2 => (intro w1 hSw; exact exec_load_row AT8 _ rfl w.heap.size rfl AT8 A8 (0, 0) _ hSw.1 Tryd.underlying48 rfl HI.out.1)
    simp only [Act.put, List.setIfInBounds_toArray, List.set_cons_zero, List.set_cons_succ]
    refine (?_ : ∀ W0, M0 w W0 A8 A64 → GoX Tryd.prog _ _ _ _ _ _ _ W0) _ hS0
    clear S0 hS0
    intro W0 h0
    refine GoX.three 1 3 4 rfl rfl rfl (by kernel_rfl) (by decide) (by decide) (by decide) (fun K hK => ?_) (fun K hK => ?_) (fun K hK => ?_)
    · rw [if_pos (by rfl)]
      go_simp
      (with_reducible refine (KW _).mono ?_)
      rintro e W1 ⟨rfl, hb⟩
      have h1 := h0.below hb
      refine hK.out _ _ ⟨h1.s, h1.b⟩ (fun _ => ?_)
      clear hK K hb
      try simp only [Act.put, List.setIfInBounds_toArray, List.set_cons_zero, List.set_cons_succ]
      refine GoX.two 3 4 rfl rfl (by kernel_rfl) (by decide) (by decide) (fun K hK => ?_) (fun K hK => ?_)
      · go_simp
        have hb := below_alloc W1 (.cells ((List.replicate 16 0).map uv).toArray AT16)
        have h5 := heap_alloc_new W1 (.cells ((List.replicate 16 0).map uv).toArray AT16)
        have l5 := h1.lt
        have h2 := h1.below hb
        refine hK.out _ (W1.alloc (.cells ((List.replicate 16 0).map uv).toArray AT16)) ⟨h2.s, h2.b⟩ (fun _ => ?_)
        clear hK K
        try simp only [Act.put, List.setIfInBounds_toArray, List.set_cons_zero, List.set_cons_succ]
        obtain ⟨g5, hg5⟩ : ∃ g, g = W1.heap.size := ⟨_, rfl⟩
        rw [← hg5] at h5 l5 ⊢
        refine (?_ : ∀ W2, M0 w W2 A8 A64 → W2.heap[g5]? = some (.cells ((List.replicate 16 0).map uv).toArray AT16 (0, 0)) → GoX Tryd.prog _ _ _ _ _ _ _ W2) _ h2 h5
        clear h2 h5 hb hg5
        intro W2 h2 h5
        refine GoX.one 4 rfl (by kernel_rfl) (by decide) (fun K hK => ?_)
        go_simp
        have hlt := (Array.getElem?_eq_some_iff.1 h5).1
        have hb := below_alloc W2 (.cells ((List.replicate 8 0).map uv).toArray AT8)
        have h6 := heap_alloc_new W2 (.cells ((List.replicate 8 0).map uv).toArray AT8)
        have l6 := h2.lt
        have h3 := h2.below hb
        replace h5 := (hb.block g5 (Array.getElem?_eq_some_iff.1 h5).1).trans h5
        refine hK.out _ (W2.alloc (.cells ((List.replicate 8 0).map uv).toArray AT8)) ⟨h3.s, h3.b⟩ (fun _ => ?_)
        clear hK K
        try simp only [Act.put, List.setIfInBounds_toArray, List.set_cons_zero, List.set_cons_succ]
        obtain ⟨g6, hg6⟩ : ∃ g, g = W2.heap.size := ⟨_, rfl⟩
        have hne : g5 ≠ g6 := by omega
        rw [← hg6] at h6 l6 ⊢
        refine (?_ : ∀ W3, M0 w W3 A8 A64 → W3.heap[g6]? = some (.cells ((List.replicate 8 0).map uv).toArray AT8 (0, 0)) → W3.heap[g5]? = some (.cells ((List.replicate 16 0).map uv).toArray AT16 (0, 0)) → GoX Tryd.prog _ _ _ _ _ _ _ W3) _ h3 h6 h5
        clear h3 h6 hb hg6 h5
        intro W3 h3 h6 h5
        have hl5 : w.heap.size + 2 < g5 := l5
        have hl6 : w.heap.size + 2 < g6 := l6
        refine GoX.one 5 rfl (by kernel_rfl) (by decide) (fun K hK => ?_)
        rw [if_pos (by rfl)]
        refine wp_store_row AT16 _ _ rfl g5 ((wordsR b).map uv).toArray rfl rfl AT16 _ h5 (by rw [List.size_toArray, List.length_map, wordsR_len]; exact infoA16) (by simp [wordsR_len]) (uv_one _) ?_
        refine hK.out _ _ ⟨(h3.setRow hl5 _).s, (h3.setRow hl5 _).b⟩ (fun _ => ?_)
        clear hK K
        simp only [Act.put]
        refine GoX.last 6 rfl (by kernel_rfl) (by kernel_rfl) (by decide) ?_
        rw [if_pos (by rfl)]
        refine wp_store_row AT8 _ _ rfl g6 A8 rfl rfl AT8 _ ((_root_.Go.setRow_other _ g5 g6 _ (Ne.symm hne)).trans h6) HI.out.1 (by rw [HA8.out]; simp [HST.out.2.1]) (by rw [HA8.out]; exact uv_one _) ?_
        go_wp2
        go_meet
        rw [HMX.out]
        exact ⟨g5, g6, rfl, rfl, by rw [HA8.out]; rw [HA8.out] at h3; exact M1.made h3 h5 h6 hne hl5 hl6 _ _⟩
      · go_simp
        have hb := below_alloc W1 (.cells ((List.replicate 8 0).map uv).toArray AT8)
        have h6 := heap_alloc_new W1 (.cells ((List.replicate 8 0).map uv).toArray AT8)
        have l6 := h1.lt
        have h2 := h1.below hb
        refine hK.out _ (W1.alloc (.cells ((List.replicate 8 0).map uv).toArray AT8)) ⟨h2.s, h2.b⟩ (fun _ => ?_)
        clear hK K
        try simp only [Act.put, List.setIfInBounds_toArray, List.set_cons_zero, List.set_cons_succ]
        obtain ⟨g6, hg6⟩ : ∃ g, g = W1.heap.size := ⟨_, rfl⟩
        rw [← hg6] at h6 l6 ⊢
        refine (?_ : ∀ W2, M0 w W2 A8 A64 → W2.heap[g6]? = some (.cells ((List.replicate 8 0).map uv).toArray AT8 (0, 0)) → GoX Tryd.prog _ _ _ _ _ _ _ W2) _ h2 h6
        clear h2 h6 hb hg6
        intro W2 h2 h6
        refine GoX.one 3 rfl (by kernel_rfl) (by decide) (fun K hK => ?_)
        go_simp
        have hlt := (Array.getElem?_eq_some_iff.1 h6).1
        have hb := below_alloc W2 (.cells ((List.replicate 16 0).map uv).toArray AT16)
        have h5 := heap_alloc_new W2 (.cells ((List.replicate 16 0).map uv).toArray AT16)
        have l5 := h2.lt
        have h3 := h2.below hb
        replace h6 := (hb.block g6 (Array.getElem?_eq_some_iff.1 h6).1).trans h6
        refine hK.out _ (W2.alloc (.cells ((List.replicate 16 0).map uv).toArray AT16)) ⟨h3.s, h3.b⟩ (fun _ => ?_)
        clear hK K
        try simp only [Act.put, List.setIfInBounds_toArray, List.set_cons_zero, List.set_cons_succ]
        obtain ⟨g5, hg5⟩ : ∃ g, g = W2.heap.size := ⟨_, rfl⟩
        have hne : g5 ≠ g6 := by omega
        rw [← hg5] at h5 l5 ⊢
        refine (?_ : ∀ W3, M0 w W3 A8 A64 → W3.heap[g5]? = some (.cells ((List.replicate 16 0).map uv).toArray AT16 (0, 0)) → W3.heap[g6]? = some (.cells ((List.replicate 8 0).map uv).toArray AT8 (0, 0)) → GoX Tryd.prog _ _ _ _ _ _ _ W3) _ h3 h5 h6
        clear h3 h5 hb hg5 h6
        intro W3 h3 h5 h6
        have hl5 : w.heap.size + 2 < g5 := l5
        have hl6 : w.heap.size + 2 < g6 := l6
        refine GoX.one 5 rfl (by kernel_rfl) (by decide) (fun K hK => ?_)
        rw [if_pos (by rfl)]
        refine wp_store_row AT16 _ _ rfl g5 ((wordsR b).map uv).toArray rfl rfl AT16 _ h5 (by rw [List.size_toArray, List.length_map, wordsR_len]; exact infoA16) (by simp [wordsR_len]) (uv_one _) ?_
        refine hK.out _ _ ⟨(h3.setRow hl5 _).s, (h3.setRow hl5 _).b⟩ (fun _ => ?_)
        clear hK K
        simp only [Act.put]
        refine GoX.last 6 rfl (by kernel_rfl) (by kernel_rfl) (by decide) ?_
        rw [if_pos (by rfl)]
        refine wp_store_row AT8 _ _ rfl g6 A8 rfl rfl AT8 _ ((_root_.Go.setRow_other _ g5 g6 _ (Ne.symm hne)).trans h6) HI.out.1 (by rw [HA8.out]; simp [HST.out.2.1]) (by rw [HA8.out]; exact uv_one _) ?_
        go_wp2
        go_meet
        rw [HMX.out]
        exact ⟨g5, g6, rfl, rfl, by rw [HA8.out]; rw [HA8.out] at h3; exact M1.made h3 h5 h6 hne hl5 hl6 _ _⟩
    · go_simp
      have hb := below_alloc W0 (.cells ((List.replicate 16 0).map uv).toArray AT16)
      have h5 := heap_alloc_new W0 (.cells ((List.replicate 16 0).map uv).toArray AT16)
      have l5 := h0.lt
      have h1 := h0.below hb
      refine hK.out _ (W0.alloc (.cells ((List.replicate 16 0).map uv).toArray AT16)) ⟨h1.s, h1.b⟩ (fun _ => ?_)
      clear hK K
      try simp only [Act.put, List.setIfInBounds_toArray, List.set_cons_zero, List.set_cons_succ]
      obtain ⟨g5, hg5⟩ : ∃ g, g = W0.heap.size := ⟨_, rfl⟩
      rw [← hg5] at h5 l5 ⊢
      refine (?_ : ∀ W1, M0 w W1 A8 A64 → W1.heap[g5]? = some (.cells ((List.replicate 16 0).map uv).toArray AT16 (0, 0)) → GoX Tryd.prog _ _ _ _ _ _ _ W1) _ h1 h5
      clear h1 h5 hb hg5
      intro W1 h1 h5
      refine GoX.two 1 4 rfl rfl (by kernel_rfl) (by decide) (by decide) (fun K hK => ?_) (fun K hK => ?_)
      · rw [if_pos (by rfl)]
        go_simp
        (with_reducible refine (KW _).mono ?_)
        rintro e W2 ⟨rfl, hb⟩
        have h2 := h1.below hb
        replace h5 := (hb.block g5 (Array.getElem?_eq_some_iff.1 h5).1).trans h5
        refine hK.out _ _ ⟨h2.s, h2.b⟩ (fun _ => ?_)
        clear hK K hb
        try simp only [Act.put, List.setIfInBounds_toArray, List.set_cons_zero, List.set_cons_succ]
        refine GoX.one 4 rfl (by kernel_rfl) (by decide) (fun K hK => ?_)
        go_simp
        have hlt := (Array.getElem?_eq_some_iff.1 h5).1
        have hb := below_alloc W2 (.cells ((List.replicate 8 0).map uv).toArray AT8)
        have h6 := heap_alloc_new W2 (.cells ((List.replicate 8 0).map uv).toArray AT8)
        have l6 := h2.lt
        have h3 := h2.below hb
        replace h5 := (hb.block g5 (Array.getElem?_eq_some_iff.1 h5).1).trans h5
        refine hK.out _ (W2.alloc (.cells ((List.replicate 8 0).map uv).toArray AT8)) ⟨h3.s, h3.b⟩ (fun _ => ?_)
        clear hK K
        try simp only [Act.put, List.setIfInBounds_toArray, List.set_cons_zero, List.set_cons_succ]
        obtain ⟨g6, hg6⟩ : ∃ g, g = W2.heap.size := ⟨_, rfl⟩
        have hne : g5 ≠ g6 := by omega
        rw [← hg6] at h6 l6 ⊢
        refine (?_ : ∀ W3, M0 w W3 A8 A64 → W3.heap[g6]? = some (.cells ((List.replicate 8 0).map uv).toArray AT8 (0, 0)) → W3.heap[g5]? = some (.cells ((List.replicate 16 0).map uv).toArray AT16 (0, 0)) → GoX Tryd.prog _ _ _ _ _ _ _ W3) _ h3 h6 h5
        clear h3 h6 hb hg6 h5
        intro W3 h3 h6 h5
        have hl5 : w.heap.size + 2 < g5 := l5
        have hl6 : w.heap.size + 2 < g6 := l6
        refine GoX.one 5 rfl (by kernel_rfl) (by decide) (fun K hK => ?_)
        rw [if_pos (by rfl)]
        refine wp_store_row AT16 _ _ rfl g5 ((wordsR b).map uv).toArray rfl rfl AT16 _ h5 (by rw [List.size_toArray, List.length_map, wordsR_len]; exact infoA16) (by simp [wordsR_len]) (uv_one _) ?_
        refine hK.out _ _ ⟨(h3.setRow hl5 _).s, (h3.setRow hl5 _).b⟩ (fun _ => ?_)
        clear hK K
        simp only [Act.put]
        refine GoX.last 6 rfl (by kernel_rfl) (by kernel_rfl) (by decide) ?_
        rw [if_pos (by rfl)]
        refine wp_store_row AT8 _ _ rfl g6 A8 rfl rfl AT8 _ ((_root_.Go.setRow_other _ g5 g6 _ (Ne.symm hne)).trans h6) HI.out.1 (by rw [HA8.out]; simp [HST.out.2.1]) (by rw [HA8.out]; exact uv_one _) ?_
        go_wp2
        go_meet
        rw [HMX.out]
        exact ⟨g5, g6, rfl, rfl, by rw [HA8.out]; rw [HA8.out] at h3; exact M1.made h3 h5 h6 hne hl5 hl6 _ _⟩
      · go_simp
        have hlt := (Array.getElem?_eq_some_iff.1 h5).1
        have hb := below_alloc W1 (.cells ((List.replicate 8 0).map uv).toArray AT8)
        have h6 := heap_alloc_new W1 (.cells ((List.replicate 8 0).map uv).toArray AT8)
        have l6 := h1.lt
        have h2 := h1.below hb
        replace h5 := (hb.block g5 (Array.getElem?_eq_some_iff.1 h5).1).trans h5
        refine hK.out _ (W1.alloc (.cells ((List.replicate 8 0).map uv).toArray AT8)) ⟨h2.s, h2.b⟩ (fun _ => ?_)
        clear hK K
        try simp only [Act.put, List.setIfInBounds_toArray, List.set_cons_zero, List.set_cons_succ]
        obtain ⟨g6, hg6⟩ : ∃ g, g = W1.heap.size := ⟨_, rfl⟩
        have hne : g5 ≠ g6 := by omega
        rw [← hg6] at h6 l6 ⊢
        refine (?_ : ∀ W2, M0 w W2 A8 A64 → W2.heap[g6]? = some (.cells ((List.replicate 8 0).map uv).toArray AT8 (0, 0)) → W2.heap[g5]? = some (.cells ((List.replicate 16 0).map uv).toArray AT16 (0, 0)) → GoX Tryd.prog _ _ _ _ _ _ _ W2) _ h2 h6 h5
        clear h2 h6 hb hg6 h5
        intro W2 h2 h6 h5
        refine GoX.one 1 rfl (by kernel_rfl) (by decide) (fun K hK => ?_)
        rw [if_pos (by rfl)]
        go_simp
        (with_reducible refine (KW _).mono ?_)
        rintro e W3 ⟨rfl, hb⟩
        have h3 := h2.below hb
        replace h5 := (hb.block g5 (Array.getElem?_eq_some_iff.1 h5).1).trans h5
        replace h6 := (hb.block g6 (Array.getElem?_eq_some_iff.1 h6).1).trans h6
        refine hK.out _ _ ⟨h3.s, h3.b⟩ (fun _ => ?_)
        clear hK K hb
        try simp only [Act.put, List.setIfInBounds_toArray, List.set_cons_zero, List.set_cons_succ]
        have hl5 : w.heap.size + 2 < g5 := l5
        have hl6 : w.heap.size + 2 < g6 := l6
        refine GoX.one 5 rfl (by kernel_rfl) (by decide) (fun K hK => ?_)
        rw [if_pos (by rfl)]
        refine wp_store_row AT16 _ _ rfl g5 ((wordsR b).map uv).toArray rfl rfl AT16 _ h5 (by rw [List.size_toArray, List.length_map, wordsR_len]; exact infoA16) (by simp [wordsR_len]) (uv_one _) ?_
        refine hK.out _ _ ⟨(h3.setRow hl5 _).s, (h3.setRow hl5 _).b⟩ (fun _ => ?_)
        clear hK K
        simp only [Act.put]
        refine GoX.last 6 rfl (by kernel_rfl) (by kernel_rfl) (by decide) ?_
        rw [if_pos (by rfl)]
        refine wp_store_row AT8 _ _ rfl g6 A8 rfl rfl AT8 _ ((_root_.Go.setRow_other _ g5 g6 _ (Ne.symm hne)).trans h6) HI.out.1 (by rw [HA8.out]; simp [HST.out.2.1]) (by rw [HA8.out]; exact uv_one _) ?_
        go_wp2
        go_meet
        rw [HMX.out]
        exact ⟨g5, g6, rfl, rfl, by rw [HA8.out]; rw [HA8.out] at h3; exact M1.made h3 h5 h6 hne hl5 hl6 _ _⟩
    · go_simp
      have hb := below_alloc W0 (.cells ((List.replicate 8 0).map uv).toArray AT8)
      have h6 := heap_alloc_new W0 (.cells ((List.replicate 8 0).map uv).toArray AT8)
      have l6 := h0.lt
      have h1 := h0.below hb
      refine hK.out _ (W0.alloc (.cells ((List.replicate 8 0).map uv).toArray AT8)) ⟨h1.s, h1.b⟩ (fun _ => ?_)
      clear hK K
      try simp only [Act.put, List.setIfInBounds_toArray, List.set_cons_zero, List.set_cons_succ]
      obtain ⟨g6, hg6⟩ : ∃ g, g = W0.heap.size := ⟨_, rfl⟩
      rw [← hg6] at h6 l6 ⊢
      refine (?_ : ∀ W1, M0 w W1 A8 A64 → W1.heap[g6]? = some (.cells ((List.replicate 8 0).map uv).toArray AT8 (0, 0)) → GoX Tryd.prog _ _ _ _ _ _ _ W1) _ h1 h6
      clear h1 h6 hb hg6
      intro W1 h1 h6
      refine GoX.two 1 3 rfl rfl (by kernel_rfl) (by decide) (by decide) (fun K hK => ?_) (fun K hK => ?_)
      · rw [if_pos (by rfl)]
        go_simp
        (with_reducible refine (KW _).mono ?_)
        rintro e W2 ⟨rfl, hb⟩
        have h2 := h1.below hb
        replace h6 := (hb.block g6 (Array.getElem?_eq_some_iff.1 h6).1).trans h6
        refine hK.out _ _ ⟨h2.s, h2.b⟩ (fun _ => ?_)
        clear hK K hb
        try simp only [Act.put, List.setIfInBounds_toArray, List.set_cons_zero, List.set_cons_succ]
        refine GoX.one 3 rfl (by kernel_rfl) (by decide) (fun K hK => ?_)
        go_simp
        have hlt := (Array.getElem?_eq_some_iff.1 h6).1
        have hb := below_alloc W2 (.cells ((List.replicate 16 0).map uv).toArray AT16)
        have h5 := heap_alloc_new W2 (.cells ((List.replicate 16 0).map uv).toArray AT16)
        have l5 := h2.lt
        have h3 := h2.below hb
        replace h6 := (hb.block g6 (Array.getElem?_eq_some_iff.1 h6).1).trans h6
        refine hK.out _ (W2.alloc (.cells ((List.replicate 16 0).map uv).toArray AT16)) ⟨h3.s, h3.b⟩ (fun _ => ?_)
        clear hK K
        try simp only [Act.put, List.setIfInBounds_toArray, List.set_cons_zero, List.set_cons_succ]
        obtain ⟨g5, hg5⟩ : ∃ g, g = W2.heap.size := ⟨_, rfl⟩
        have hne : g5 ≠ g6 := by omega
        rw [← hg5] at h5 l5 ⊢
        refine (?_ : ∀ W3, M0 w W3 A8 A64 → W3.heap[g5]? = some (.cells ((List.replicate 16 0).map uv).toArray AT16 (0, 0)) → W3.heap[g6]? = some (.cells ((List.replicate 8 0).map uv).toArray AT8 (0, 0)) → GoX Tryd.prog _ _ _ _ _ _ _ W3) _ h3 h5 h6
        clear h3 h5 hb hg5 h6
        intro W3 h3 h5 h6
        have hl5 : w.heap.size + 2 < g5 := l5
        have hl6 : w.heap.size + 2 < g6 := l6
        refine GoX.one 5 rfl (by kernel_rfl) (by decide) (fun K hK => ?_)
        rw [if_pos (by rfl)]
        refine wp_store_row AT16 _ _ rfl g5 ((wordsR b).map uv).toArray rfl rfl AT16 _ h5 (by rw [List.size_toArray, List.length_map, wordsR_len]; exact infoA16) (by simp [wordsR_len]) (uv_one _) ?_
        refine hK.out _ _ ⟨(h3.setRow hl5 _).s, (h3.setRow hl5 _).b⟩ (fun _ => ?_)
        clear hK K
        simp only [Act.put]
        refine GoX.last 6 rfl (by kernel_rfl) (by kernel_rfl) (by decide) ?_
        rw [if_pos (by rfl)]
        refine wp_store_row AT8 _ _ rfl g6 A8 rfl rfl AT8 _ ((_root_.Go.setRow_other _ g5 g6 _ (Ne.symm hne)).trans h6) HI.out.1 (by rw [HA8.out]; simp [HST.out.2.1]) (by rw [HA8.out]; exact uv_one _) ?_
        go_wp2
        go_meet
        rw [HMX.out]
        exact ⟨g5, g6, rfl, rfl, by rw [HA8.out]; rw [HA8.out] at h3; exact M1.made h3 h5 h6 hne hl5 hl6 _ _⟩
      · go_simp
        have hlt := (Array.getElem?_eq_some_iff.1 h6).1
        have hb := below_alloc W1 (.cells ((List.replicate 16 0).map uv).toArray AT16)
        have h5 := heap_alloc_new W1 (.cells ((List.replicate 16 0).map uv).toArray AT16)
        have l5 := h1.lt
        have h2 := h1.below hb
        replace h6 := (hb.block g6 (Array.getElem?_eq_some_iff.1 h6).1).trans h6
        refine hK.out _ (W1.alloc (.cells ((List.replicate 16 0).map uv).toArray AT16)) ⟨h2.s, h2.b⟩ (fun _ => ?_)
        clear hK K
        try simp only [Act.put, List.setIfInBounds_toArray, List.set_cons_zero, List.set_cons_succ]
        obtain ⟨g5, hg5⟩ : ∃ g, g = W1.heap.size := ⟨_, rfl⟩
        have hne : g5 ≠ g6 := by omega
        rw [← hg5] at h5 l5 ⊢
        refine (?_ : ∀ W2, M0 w W2 A8 A64 → W2.heap[g5]? = some (.cells ((List.replicate 16 0).map uv).toArray AT16 (0, 0)) → W2.heap[g6]? = some (.cells ((List.replicate 8 0).map uv).toArray AT8 (0, 0)) → GoX Tryd.prog _ _ _ _ _ _ _ W2) _ h2 h5 h6
        clear h2 h5 hb hg5 h6
        intro W2 h2 h5 h6
        refine GoX.one 1 rfl (by kernel_rfl) (by decide) (fun K hK => ?_)
        rw [if_pos (by rfl)]
        go_simp
        (with_reducible refine (KW _).mono ?_)
        rintro e W3 ⟨rfl, hb⟩
        have h3 := h2.below hb
        replace h5 := (hb.block g5 (Array.getElem?_eq_some_iff.1 h5).1).trans h5
        replace h6 := (hb.block g6 (Array.getElem?_eq_some_iff.1 h6).1).trans h6
        refine hK.out _ _ ⟨h3.s, h3.b⟩ (fun _ => ?_)
        clear hK K hb
        try simp only [Act.put, List.setIfInBounds_toArray, List.set_cons_zero, List.set_cons_succ]
        have hl5 : w.heap.size + 2 < g5 := l5
        have hl6 : w.heap.size + 2 < g6 := l6
        refine GoX.one 5 rfl (by kernel_rfl) (by decide) (fun K hK => ?_)
        rw [if_pos (by rfl)]
        refine wp_store_row AT16 _ _ rfl g5 ((wordsR b).map uv).toArray rfl rfl AT16 _ h5 (by rw [List.size_toArray, List.length_map, wordsR_len]; exact infoA16) (by simp [wordsR_len]) (uv_one _) ?_
        refine hK.out _ _ ⟨(h3.setRow hl5 _).s, (h3.setRow hl5 _).b⟩ (fun _ => ?_)
        clear hK K
        simp only [Act.put]
        refine GoX.last 6 rfl (by kernel_rfl) (by kernel_rfl) (by decide) ?_
        rw [if_pos (by rfl)]
        refine wp_store_row AT8 _ _ rfl g6 A8 rfl rfl AT8 _ ((_root_.Go.setRow_other _ g5 g6 _ (Ne.symm hne)).trans h6) HI.out.1 (by rw [HA8.out]; simp [HST.out.2.1]) (by rw [HA8.out]; exact uv_one _) ?_
        go_wp2
        go_meet
        rw [HMX.out]
        exact ⟨g5, g6, rfl, rfl, by rw [HA8.out]; rw [HA8.out] at h3; exact M1.made h3 h5 h6 hne hl5 hl6 _ _⟩
  case rest =>
    rw [HMX.out] at hcut
    obtain ⟨g5, g6, rfl, rfl, hM⟩ := hcut
    rename World => wc
    have HM := Lib.hid hM
    have HC := Lib.hid (HCK.out.below hM.m.bel (Nat.le_refl _))
    obtain ⟨Kc, hKc⟩ : ∃ A, A = (shaK.map uv).toArray := ⟨_, rfl⟩
    have hK64 : Kc.size = 64 := by rw [hKc]; rfl
    have hiK : (Tryd.prog.info? KT64).map (·.size) = some Kc.size := by rw [hK64]; exact infoK64
    have HKC := Lib.hid hKc
    obtain ⟨tK, frK, hKK⟩ := HC.out
    rw [← hKc] at hKK
    have HKK := Lib.hid hKK
    clear hM hKc hKK
    go_wp2_with (first | (refine wpList_load_row rfl KT64 _ rfl 1 rfl tK Kc frK _ HKK.out Tryd.underlying58 rfl hiK ?_))
    go_loopw [24] (fun vi wr => ∃ k : Nat, k ≤ 64 ∧ vi = .int .i64 k ∧ Hid (M1 w wr A8 A64 g5 g6 (roundsR st (wordsR b) k).2 (roundsR st (wordsR b) k).1)) (fun vi _ => (64 - intOf vi).toNat)
    case atStart => exact ⟨0, by omega, rfl, HM⟩
    case round =>
      clear HM
      obtain ⟨k, hk, rfl, HM⟩ := hrel
      obtain ⟨N, hN⟩ : ∃ x, x = (roundsR st (wordsR b) k).1 := ⟨_, rfl⟩
      obtain ⟨S, hS⟩ : ∃ x, x = (roundsR st (wordsR b) k).2 := ⟨_, rfl⟩
      rw [← hN, ← hS] at HM
      have hL := roundsR_len HST.out.2.1 (wordsR_len b) k
      have hW := roundsR_words HST.out.1 (wordsR_words HST.out.2.2.1) k
      rw [← hN, ← hS] at hL hW
      by_cases hlt : k < 64
      · have HNS := Lib.hid (show (roundsR st (wordsR b) (k + 1)).1 = roundR N (g' shaK k) (g' S 0) ∧ (roundsR st (wordsR b) (k + 1)).2 = shiftR S from ⟨by rw [hN, hS]; rfl, by rw [hS]; rfl⟩)
        have HL := Lib.hid hL
        obtain ⟨kp, hkp⟩ : ∃ x, x = g' shaK k := ⟨_, rfl⟩
        have hkl : kp < 4294967296 := by rw [hkp]; exact shaK_words.g' k
        have hix := fun w => index_64 Kc k (.int .u32 (kp : Nat)) (by rw [HKC.out, hkp]; exact uv_at hlt) hlt w
        have HKP := Lib.hid hkp
        obtain ⟨n0, hn0⟩ : ∃ x, x = g' N 0 := ⟨_, rfl⟩
        have ln0 : n0 < 4294967296 := by rw [hn0]; exact hW.1.g' 0
        have cn0 : wr.cell? ⟨g6, 0, none⟩ = some (.int .u32 (n0 : Nat)) := by rw [cell_of_row _ _ _ _ _ _ HM.out.n, hn0]; exact uv_at (by rw [hL.1]; decide)
        have Hn0 := Lib.hid hn0
        obtain ⟨n1, hn1⟩ : ∃ x, x = g' N 1 := ⟨_, rfl⟩
        have ln1 : n1 < 4294967296 := by rw [hn1]; exact hW.1.g' 1
        have cn1 : wr.cell? ⟨g6, 1, none⟩ = some (.int .u32 (n1 : Nat)) := by rw [cell_of_row _ _ _ _ _ _ HM.out.n, hn1]; exact uv_at (by rw [hL.1]; decide)
        have Hn1 := Lib.hid hn1
        obtain ⟨n2, hn2⟩ : ∃ x, x = g' N 2 := ⟨_, rfl⟩
        have ln2 : n2 < 4294967296 := by rw [hn2]; exact hW.1.g' 2
        have cn2 : wr.cell? ⟨g6, 2, none⟩ = some (.int .u32 (n2 : Nat)) := by rw [cell_of_row _ _ _ _ _ _ HM.out.n, hn2]; exact uv_at (by rw [hL.1]; decide)
        have Hn2 := Lib.hid hn2
        obtain ⟨n3, hn3⟩ : ∃ x, x = g' N 3 := ⟨_, rfl⟩
        have ln3 : n3 < 4294967296 := by rw [hn3]; exact hW.1.g' 3
        have cn3 : wr.cell? ⟨g6, 3, none⟩ = some (.int .u32 (n3 : Nat)) := by rw [cell_of_row _ _ _ _ _ _ HM.out.n, hn3]; exact uv_at (by rw [hL.1]; decide)
        have Hn3 := Lib.hid hn3
        obtain ⟨n4, hn4⟩ : ∃ x, x = g' N 4 := ⟨_, rfl⟩
        have ln4 : n4 < 4294967296 := by rw [hn4]; exact hW.1.g' 4
        have cn4 : wr.cell? ⟨g6, 4, none⟩ = some (.int .u32 (n4 : Nat)) := by rw [cell_of_row _ _ _ _ _ _ HM.out.n, hn4]; exact uv_at (by rw [hL.1]; decide)
        have Hn4 := Lib.hid hn4
        obtain ⟨n5, hn5⟩ : ∃ x, x = g' N 5 := ⟨_, rfl⟩
        have ln5 : n5 < 4294967296 := by rw [hn5]; exact hW.1.g' 5
        have cn5 : wr.cell? ⟨g6, 5, none⟩ = some (.int .u32 (n5 : Nat)) := by rw [cell_of_row _ _ _ _ _ _ HM.out.n, hn5]; exact uv_at (by rw [hL.1]; decide)
        have Hn5 := Lib.hid hn5
        obtain ⟨n6, hn6⟩ : ∃ x, x = g' N 6 := ⟨_, rfl⟩
        have ln6 : n6 < 4294967296 := by rw [hn6]; exact hW.1.g' 6
        have cn6 : wr.cell? ⟨g6, 6, none⟩ = some (.int .u32 (n6 : Nat)) := by rw [cell_of_row _ _ _ _ _ _ HM.out.n, hn6]; exact uv_at (by rw [hL.1]; decide)
        have Hn6 := Lib.hid hn6
        obtain ⟨n7, hn7⟩ : ∃ x, x = g' N 7 := ⟨_, rfl⟩
        have ln7 : n7 < 4294967296 := by rw [hn7]; exact hW.1.g' 7
        have cn7 : wr.cell? ⟨g6, 7, none⟩ = some (.int .u32 (n7 : Nat)) := by rw [cell_of_row _ _ _ _ _ _ HM.out.n, hn7]; exact uv_at (by rw [hL.1]; decide)
        have Hn7 := Lib.hid hn7
        obtain ⟨s0, hs0⟩ : ∃ x, x = g' S 0 := ⟨_, rfl⟩
        have ls0 : s0 < 4294967296 := by rw [hs0]; exact hW.2.g' 0
        have cs0 : wr.cell? ⟨g5, 0, none⟩ = some (.int .u32 (s0 : Nat)) := by rw [cell_of_row _ _ _ _ _ _ HM.out.a, hs0]; exact uv_at (by rw [hL.2]; decide)
        have Hs0 := Lib.hid hs0
        obtain ⟨s1, hs1⟩ : ∃ x, x = g' S 1 := ⟨_, rfl⟩
        have ls1 : s1 < 4294967296 := by rw [hs1]; exact hW.2.g' 1
        have cs1 : wr.cell? ⟨g5, 1, none⟩ = some (.int .u32 (s1 : Nat)) := by rw [cell_of_row _ _ _ _ _ _ HM.out.a, hs1]; exact uv_at (by rw [hL.2]; decide)
        have Hs1 := Lib.hid hs1
        obtain ⟨s9, hs9⟩ : ∃ x, x = g' S 9 := ⟨_, rfl⟩
        have ls9 : s9 < 4294967296 := by rw [hs9]; exact hW.2.g' 9
        have cs9 : wr.cell? ⟨g5, 9, none⟩ = some (.int .u32 (s9 : Nat)) := by rw [cell_of_row _ _ _ _ _ _ HM.out.a, hs9]; exact uv_at (by rw [hL.2]; decide)
        have Hs9 := Lib.hid hs9
        obtain ⟨s14, hs14⟩ : ∃ x, x = g' S 14 := ⟨_, rfl⟩
        have ls14 : s14 < 4294967296 := by rw [hs14]; exact hW.2.g' 14
        have cs14 : wr.cell? ⟨g5, 14, none⟩ = some (.int .u32 (s14 : Nat)) := by rw [cell_of_row _ _ _ _ _ _ HM.out.a, hs14]; exact uv_at (by rw [hL.2]; decide)
        have Hs14 := Lib.hid hs14
        clear hN hS hL hW hkp hn0 hn1 hn2 hn3 hn4 hn5 hn6 hn7 hs0 hs1 hs9 hs14
        go_wp2_with fail
        go_quiet (fail)
        go_wp2_with fail
        go_quiet (fail)
        go_wp2_with fail
        clear cn0 cn1 cn2 cn3 cn4 cn5 cn6 cn7 cs0 cs1 cs9 cs14
        refine (?_ : ∀ W7, M1 w W7 A8 A64 g5 g6 S N → Code.wp Tryd.prog _ _ _ W7) _ ((HM.out.drewN _).drewN _)
        clear HM
        intro W7 h7
        go_cut [15] (fun v wx => v = .int .u32 (add32 (add32 (add32 (add32 n7 (big1 n4)) (ch n4 n5 n6)) kp) s0 : Nat) ∧ M1 w wx A8 A64 g5 g6 S N)
        case first =>
         as_aux_lemma =>
          have c7n : W7.drew.cell? ⟨g6, 7, none⟩ = some (.int .u32 (n7 : Nat)) := by rw [Hn7.out]; exact (cell_of_row _ _ _ _ _ _ h7.n).trans (uv_at (by rw [HL.out.1]; decide))
          have c7s : W7.drew.cell? ⟨g5, 0, none⟩ = some (.int .u32 (s0 : Nat)) := by rw [Hs0.out]; exact (cell_of_row _ _ _ _ _ _ h7.a).trans (uv_at (by rw [HL.out.2]; decide))
          have H7 := Lib.hid h7
          have S0 : W7.drew.cell? ⟨g6, 7, none⟩ = some (.int .u32 (n7 : Nat)) ∧ W7.drew.cell? ⟨g5, 0, none⟩ = some (.int .u32 (s0 : Nat)) := ⟨c7n, c7s⟩
          clear h7 c7n c7s
          refine GoX.start 20 (fun w' => w'.cell? ⟨g6, 7, none⟩ = some (.int .u32 (n7 : Nat)) ∧ w'.cell? ⟨g5, 0, none⟩ = some (.int .u32 (s0 : Nat))) (by kernel_rfl) ?_
          refine GoX.take 0 rfl (by kernel_rfl) (by kernel_rfl) (by rfl) (fun _ _ _ h => h) (v := ?tv0) S0 ?ty0 ?tr0
          case ty0 => (intro w hSw; (try dsimp only at hSw); go_simp; first | done | with_reducible rfl)
          simp only [Act.put, List.setIfInBounds_toArray, List.set_cons_zero, List.set_cons_succ]
          refine GoX.take 1 rfl (by kernel_rfl) (by kernel_rfl) (by rfl) (fun _ _ _ h => h) (v := ?tv1) S0 ?ty1 ?tr1
          case ty1 => (intro w hSw; (try dsimp only at hSw); go_simp; first | done | with_reducible rfl)
          simp only [Act.put, List.setIfInBounds_toArray, List.set_cons_zero, List.set_cons_succ]
          refine GoX.take 2 rfl (by kernel_rfl) (by kernel_rfl) (by rfl) (fun _ _ _ h => h) (v := ?tv2) S0 ?ty2 ?tr2
          case ty2 => (intro w hSw; (try dsimp only at hSw); go_simp; first | done | with_reducible rfl)
          simp only [Act.put, List.setIfInBounds_toArray, List.set_cons_zero, List.set_cons_succ]
          refine GoX.take 6 rfl (by kernel_rfl) (by kernel_rfl) (by rfl) (fun _ _ _ h => h) (v := ?tv6) S0 ?ty6 ?tr6
          case ty6 => (intro w hSw; (try dsimp only at hSw); go_simp; first | done | with_reducible rfl)
          simp only [Act.put, List.setIfInBounds_toArray, List.set_cons_zero, List.set_cons_succ]
          refine GoX.take 7 rfl (by kernel_rfl) (by kernel_rfl) (by rfl) (fun _ _ _ h => h) (v := ?tv7) S0 ?ty7 ?tr7
          case ty7 => (intro w hSw; (try dsimp only at hSw); go_simp; first | done | with_reducible rfl)
          simp only [Act.put, List.setIfInBounds_toArray, List.set_cons_zero, List.set_cons_succ]
          refine GoX.take 8 rfl (by kernel_rfl) (by kernel_rfl) (by rfl) (fun _ _ _ h => h) (v := ?tv8) S0 ?ty8 ?tr8
          case ty8 => (intro w hSw; (try dsimp only at hSw); go_simp; first | done | with_reducible rfl)
          simp only [Act.put, List.setIfInBounds_toArray, List.set_cons_zero, List.set_cons_succ]
          refine GoX.take 9 rfl (by kernel_rfl) (by kernel_rfl) (by rfl) (fun _ _ _ h => h) (v := ?tv9) S0 ?ty9 ?tr9
          case ty9 => (intro w hSw; (try dsimp only at hSw); go_simp; first | done | with_reducible rfl)
          simp only [Act.put, List.setIfInBounds_toArray, List.set_cons_zero, List.set_cons_succ]
          refine GoX.take 10 rfl (by kernel_rfl) (by kernel_rfl) (by rfl) (fun _ _ _ h => h) (v := ?tv10) S0 ?ty10 ?tr10
          case ty10 => (intro w hSw; (try dsimp only at hSw); go_simp; first | done | with_reducible rfl)
          simp only [Act.put, List.setIfInBounds_toArray, List.set_cons_zero, List.set_cons_succ]
          refine GoX.take 11 rfl (by kernel_rfl) (by kernel_rfl) (by rfl) (fun _ _ _ h => h) (v := ?tv11) S0 ?ty11 ?tr11
          case ty11 => (intro w hSw; (try dsimp only at hSw); go_simp; first | done | with_reducible rfl)
          simp only [Act.put, List.setIfInBounds_toArray, List.set_cons_zero, List.set_cons_succ]
          refine GoX.take 12 rfl (by kernel_rfl) (by kernel_rfl) (by rfl) (fun _ _ _ h => h) (v := ?tv12) S0 ?ty12 ?tr12
          case ty12 => (intro w hSw; (try dsimp only at hSw); go_simp; first | done | with_reducible rfl)
          simp only [Act.put, List.setIfInBounds_toArray, List.set_cons_zero, List.set_cons_succ]
          refine GoX.take 13 rfl (by kernel_rfl) (by kernel_rfl) (by rfl) (fun _ _ _ h => h) (v := ?tv13) S0 ?ty13 ?tr13
          case ty13 => (intro w hSw; (try dsimp only at hSw); go_simp; first | done | with_reducible rfl)
          simp only [Act.put, List.setIfInBounds_toArray, List.set_cons_zero, List.set_cons_succ]
          refine GoX.take 15 rfl (by kernel_rfl) (by kernel_rfl) (by rfl) (fun _ _ _ h => h) (v := ?tv15) S0 ?ty15 ?tr15
          case ty15 => (intro w hSw; (try dsimp only at hSw); go_simp; first | done | with_reducible rfl)
          simp only [Act.put, List.setIfInBounds_toArray, List.set_cons_zero, List.set_cons_succ]
          refine GoX.take 17 rfl (by kernel_rfl) (by kernel_rfl) (by rfl) (fun _ _ _ h => h) (v := ?tv17) S0 ?ty17 ?tr17
          case ty17 => (intro w hSw; (try dsimp only at hSw); go_simp; first | done | with_reducible rfl)
          simp only [Act.put, List.setIfInBounds_toArray, List.set_cons_zero, List.set_cons_succ]
          refine GoX.take 18 rfl (by kernel_rfl) (by kernel_rfl) (by rfl) (fun _ _ _ h => h) (v := ?tv18) S0 ?ty18 ?tr18
          case ty18 => (intro w hSw; (try dsimp only at hSw); go_simp; first | done | with_reducible rfl)
          simp only [Act.put, List.setIfInBounds_toArray, List.set_cons_zero, List.set_cons_succ]
          refine GoX.one 3 rfl (by kernel_rfl) (by decide) (fun K hK => ?_)
          go_simp
          have S1 : (W7.drew.alloc (.cells #[.int .i64 6, .int .i64 11, .int .i64 25] 3)).cell? ⟨g6, 7, none⟩ = some (.int .u32 (n7 : Nat)) ∧ (W7.drew.alloc (.cells #[.int .i64 6, .int .i64 11, .int .i64 25] 3)).cell? ⟨g5, 0, none⟩ = some (.int .u32 (s0 : Nat)) := ⟨cell_belowS S0.1 (below_alloc _ _), cell_belowS S0.2 (below_alloc _ _)⟩
          refine hK.out _ _ S1 (fun _ => ?_)
          clear hK K
          refine GoX.one 4 rfl (by kernel_rfl) (by decide) (fun K hK => ?_)
          rw [if_pos (by rfl)]
          go_simp
          have KT := turned_any n4 [6, 11, 25] ln4 (by intro n hn; simp at hn; unfold turnsOK; omega) _ 3 3 _ (intsV_litS W7 #[.int .i64 6, .int .i64 11, .int .i64 25] 3 3 (ivs [6, 11, 25]) rfl rfl (by decide)).drewS
          (with_reducible refine KT.mono ?_)
          rintro e W8 ⟨rfl, rfl⟩
          have S2 : (W7.alloc (.cells #[.int .i64 6, .int .i64 11, .int .i64 25] 3)).drew.cell? ⟨g6, 7, none⟩ = some (.int .u32 (n7 : Nat)) ∧ (W7.alloc (.cells #[.int .i64 6, .int .i64 11, .int .i64 25] 3)).drew.cell? ⟨g5, 0, none⟩ = some (.int .u32 (s0 : Nat)) := S1
          refine hK.out _ _ S2 (fun _ => ?_)
          clear hK K KT
          refine GoX.take 5 rfl (by kernel_rfl) (by kernel_rfl) (by rfl) (fun _ _ _ h => h) (v := ?tv5q2) S2 ?ty5q2 ?tr5q2
          case ty5q2 => (intro w hSw; (try dsimp only at hSw); go_simp; first | done | with_reducible rfl)
          simp only [Act.put, List.setIfInBounds_toArray, List.set_cons_zero, List.set_cons_succ]
          refine GoX.take 14 rfl (by kernel_rfl) (by kernel_rfl) (by rfl) (fun _ _ _ h => h) (v := ?tv14q2) S2 ?ty14q2 ?tr14q2
          case ty14q2 => (intro w hSw; (try dsimp only at hSw); go_simp; first | done | with_reducible rfl)
          simp only [Act.put, List.setIfInBounds_toArray, List.set_cons_zero, List.set_cons_succ]
          refine GoX.take 16 rfl (by kernel_rfl) (by kernel_rfl) (by rfl) (fun _ _ _ h => h) (v := ?tv16q2) S2 ?ty16q2 ?tr16q2
          case ty16q2 => (intro w hSw; (try dsimp only at hSw); go_simp; first | done | with_reducible rfl)
          simp only [Act.put, List.setIfInBounds_toArray, List.set_cons_zero, List.set_cons_succ]
          refine GoX.take 19 rfl (by kernel_rfl) (by kernel_rfl) (by rfl) (fun _ _ _ h => h) (v := ?tv19q2) S2 ?ty19q2 ?tr19q2
          case ty19q2 => (intro w hSw; (try dsimp only at hSw); go_simp; first | done | with_reducible rfl)
          simp only [Act.put, List.setIfInBounds_toArray, List.set_cons_zero, List.set_cons_succ]
          refine GoX.last 20 rfl (by kernel_rfl) (by kernel_rfl) (by decide) ?_
          go_wp2
          go_meet
          exact ⟨by rw [t1_raw n7 n4 n5 n6 kp s0 ln4 ln5 ln6], H7.out.below (below_alloc W7 (.cells #[.int .i64 6, .int .i64 11, .int .i64 25] 3)).drew⟩
        rename World => W8
        obtain ⟨rfl, h8⟩ := hcut
        obtain ⟨t1, ht1⟩ : ∃ x, x = add32 (add32 (add32 (add32 n7 (big1 n4)) (ch n4 n5 n6)) kp) s0 := ⟨_, rfl⟩
        rw [← ht1]
        have HT1 := Lib.hid ht1
        have lt1 : t1 < 4294967296 := by rw [ht1]; exact add32_lt _ _
        clear ht1
        have H8 := Lib.hid h8
        have KT := turned_any n0 [2, 13, 22] ln0 (by intro n hn; simp at hn; unfold turnsOK; omega) _ 3 3 _ (intsV_litS W8 #[.int .i64 2, .int .i64 13, .int .i64 22] 3 3 (ivs [2, 13, 22]) rfl rfl (by decide))
        clear h8
        go_wp2_with fail
        (with_reducible refine KT.mono ?_)
        rintro e W9 ⟨rfl, rfl⟩
        clear KT
        go_upto_region 9 with fail
        rw [t2_raw n0 n1 n2 ln0 ln1 ln2]
        obtain ⟨t2, ht2⟩ : ∃ x, x = add32 (big0 n0) (maj n0 n1 n2) := ⟨_, rfl⟩
        rw [← ht2]
        have HT2 := Lib.hid ht2
        have lt2 : t2 < 4294967296 := by rw [ht2]; exact add32_lt _ _
        refine (?_ : ∀ W9, M1 w W9 A8 A64 g5 g6 S N → Code.wp Tryd.prog _ _ _ W9) _ (H8.out.below (below_alloc W8 (.cells #[.int .i64 2, .int .i64 13, .int .i64 22] 3)))
        clear H8 ht2
        intro W9 h9
        have H9 := Lib.hid (show M1 w W9.drew A8 A64 g5 g6 S N from h9.drewN 1)
        clear h9
        refine GoX.start 2 (fun _ => True) (by kernel_rfl) ?_
        have ST : True := trivial
        refine GoX.take 0 rfl (by kernel_rfl) (by kernel_rfl) (by rfl) (fun _ _ _ h => h) (v := ?tv0q3) ST ?ty0q3 ?tr0q3
        case ty0q3 => (intro w hSw; (try dsimp only at hSw); go_simp; first | done | with_reducible rfl)
        simp only [Act.put, List.setIfInBounds_toArray, List.set_cons_zero, List.set_cons_succ]
        refine GoX.take 1 rfl (by kernel_rfl) (by kernel_rfl) (by rfl) (fun _ _ _ h => h) (v := ?tv1q3) ST ?ty1q3 ?tr1q3
        case ty1q3 => (intro w hSw; (try dsimp only at hSw); go_simp; first | done | with_reducible rfl)
        simp only [Act.put, List.setIfInBounds_toArray, List.set_cons_zero, List.set_cons_succ]
        refine GoX.last 2 rfl (by kernel_rfl) (by kernel_rfl) (by decide) ?_
        rw [if_pos (by rfl)]
        refine wp_copy_row (.tmp 74) (.tmp 75) 77 77 rfl 47 Tryd.underlying77 (by kernel_rfl) g6 1 7 7 ⟨g6, 0, none⟩ 7 8 rfl rfl (N.map uv).toArray AT8 H9.out.n ((N.take 7).map uv) (by simp [HL.out.1]) ?_ (by simp [HL.out.1]) (uv_memb _) ?_
        · intro j v hj
          have hj7 : j < 7 := by have := (List.getElem?_eq_some_iff.1 hj).1; simp [HL.out.1] at this; exact this
          rw [show (⟨g6, 0, none⟩ : Addr).add j = ⟨g6, j, none⟩ by unfold Addr.add; split <;> simp_all, cell_of_row _ _ _ _ _ _ H9.out.n, ← hj]
          simp [hj7]
        rw [shiftN N HL.out.1]
        have h10 := H9.out.setN (N.take 1 ++ N.take 7) rfl
        have HN2 := Lib.hid (shiftN_at N HL.out.1)
        obtain ⟨N2, hN2⟩ : ∃ x, x = N.take 1 ++ N.take 7 := ⟨_, rfl⟩
        rw [← hN2] at h10 HN2 ⊢
        have HN2E := Lib.hid hN2
        have H10 := Lib.hid h10
        clear H9 h10 hN2
        go_upto_region 10 with fail
        refine (?_ : ∀ W10, M1 w W10 A8 A64 g5 g6 S N2 → Code.wp Tryd.prog _ _ _ W10) _ H10.out
        clear H10
        intro W10 h10
        have c4 : W10.cell? ⟨g6, 4, none⟩ = some (.int .u32 (n3 : Nat)) := by rw [Hn3.out, ← HN2.out.1, cell_of_row _ _ _ _ _ _ h10.n]; exact uv_at (by rw [HN2.out.2]; decide)
        have c0 : W10.cell? ⟨g6, 0, none⟩ = some (.int .u32 (g' N2 0 : Nat)) := by rw [cell_of_row _ _ _ _ _ _ h10.n]; exact uv_at (by rw [HN2.out.2]; decide)
        have hfz : ∀ j, W10.frozen? ⟨g6, j, none⟩ = false := fun _ => frozen_of_row _ _ _ _ _ h10.n
        have H10 := Lib.hid h10
        clear h10
        go_upto_region 12 with fail
        rw [add_mod32, add_mod32]
        refine (?_ : ∀ W12, M1 w W12 A8 A64 g5 g6 S ((N2.set 4 (add32 n3 t1)).set 0 (add32 t1 t2)) → Code.wp Tryd.prog _ _ _ W12) _ ((H10.out.cellN 4 (add32 n3 t1)).cellN 0 (add32 t1 t2))
        have HN3 : Hid ((N2.set 4 (add32 n3 t1)).set 0 (add32 t1 t2) = roundR N kp s0) := Lib.hid (by
          rw [HN2E.out, roundN N HL.out.1, HT1.out, HT2.out, Hn0.out, Hn1.out, Hn2.out, Hn3.out, Hn4.out, Hn5.out, Hn6.out, Hn7.out]
          rfl)
        rw [HN3.out]
        clear H10 c4 c0 hfz
        intro W12 h12
        obtain ⟨N3, hN3⟩ : ∃ x, x = roundR N kp s0 := ⟨_, rfl⟩
        rw [← hN3] at h12
        have HN3E := Lib.hid hN3
        have H12 := Lib.hid h12
        have HD := Lib.hid (h12.drewN 1)
        have a0 : W12.drew.cell? ⟨g5, 0, none⟩ = some (.int .u32 (s0 : Nat)) := by rw [Hs0.out]; exact (cell_of_row _ _ _ _ _ _ h12.a).trans (uv_at (by rw [HL.out.2]; decide))
        have a1 : W12.drew.cell? ⟨g5, 1, none⟩ = some (.int .u32 (s1 : Nat)) := by rw [Hs1.out]; exact (cell_of_row _ _ _ _ _ _ h12.a).trans (uv_at (by rw [HL.out.2]; decide))
        have a9 : W12.drew.cell? ⟨g5, 9, none⟩ = some (.int .u32 (s9 : Nat)) := by rw [Hs9.out]; exact (cell_of_row _ _ _ _ _ _ h12.a).trans (uv_at (by rw [HL.out.2]; decide))
        have a14 : W12.drew.cell? ⟨g5, 14, none⟩ = some (.int .u32 (s14 : Nat)) := by rw [Hs14.out]; exact (cell_of_row _ _ _ _ _ _ h12.a).trans (uv_at (by rw [HL.out.2]; decide))
        clear h12 hN3
        go_cut [17] (fun v wx => v = .int .u32 (add32 (add32 (add32 s0 s9) (sig0 s1)) (sig1 s14) : Nat) ∧ Hid (M1 w wx A8 A64 g5 g6 S N3))
        case first =>
         as_aux_lemma =>
          have S0 : W12.drew.cell? ⟨g5, 0, none⟩ = some (.int .u32 (s0 : Nat)) ∧ W12.drew.cell? ⟨g5, 1, none⟩ = some (.int .u32 (s1 : Nat)) ∧ W12.drew.cell? ⟨g5, 9, none⟩ = some (.int .u32 (s9 : Nat)) ∧ W12.drew.cell? ⟨g5, 14, none⟩ = some (.int .u32 (s14 : Nat)) := ⟨a0, a1, a9, a14⟩
          clear a0 a1 a9 a14 H12
          refine GoX.start 23 (fun w' => w'.cell? ⟨g5, 0, none⟩ = some (.int .u32 (s0 : Nat)) ∧ w'.cell? ⟨g5, 1, none⟩ = some (.int .u32 (s1 : Nat)) ∧ w'.cell? ⟨g5, 9, none⟩ = some (.int .u32 (s9 : Nat)) ∧ w'.cell? ⟨g5, 14, none⟩ = some (.int .u32 (s14 : Nat))) (by kernel_rfl) ?_
          refine GoX.take 0 rfl (by kernel_rfl) (by kernel_rfl) (by rfl) (fun _ _ _ h => h) (v := ?tv0q4) S0 ?ty0q4 ?tr0q4
          case ty0q4 => (intro w hSw; (try dsimp only at hSw); go_simp; first | done | with_reducible rfl)
          simp only [Act.put, List.setIfInBounds_toArray, List.set_cons_zero, List.set_cons_succ]
          refine GoX.take 1 rfl (by kernel_rfl) (by kernel_rfl) (by rfl) (fun _ _ _ h => h) (v := ?tv1q4) S0 ?ty1q4 ?tr1q4
          case ty1q4 => (intro w hSw; (try dsimp only at hSw); go_simp; first | done | with_reducible rfl)
          simp only [Act.put, List.setIfInBounds_toArray, List.set_cons_zero, List.set_cons_succ]
          refine GoX.take 2 rfl (by kernel_rfl) (by kernel_rfl) (by rfl) (fun _ _ _ h => h) (v := ?tv2q4) S0 ?ty2q4 ?tr2q4
          case ty2q4 => (intro w hSw; (try dsimp only at hSw); go_simp; first | done | with_reducible rfl)
          simp only [Act.put, List.setIfInBounds_toArray, List.set_cons_zero, List.set_cons_succ]
          refine GoX.take 3 rfl (by kernel_rfl) (by kernel_rfl) (by rfl) (fun _ _ _ h => h) (v := ?tv3q4) S0 ?ty3q4 ?tr3q4
          case ty3q4 => (intro w hSw; (try dsimp only at hSw); go_simp; first | done | with_reducible rfl)
          simp only [Act.put, List.setIfInBounds_toArray, List.set_cons_zero, List.set_cons_succ]
          refine GoX.take 4 rfl (by kernel_rfl) (by kernel_rfl) (by rfl) (fun _ _ _ h => h) (v := ?tv4q4) S0 ?ty4q4 ?tr4q4
          case ty4q4 => (intro w hSw; (try dsimp only at hSw); go_simp; first | done | with_reducible rfl)
          simp only [Act.put, List.setIfInBounds_toArray, List.set_cons_zero, List.set_cons_succ]
          refine GoX.take 5 rfl (by kernel_rfl) (by kernel_rfl) (by rfl) (fun _ _ _ h => h) (v := ?tv5q4) S0 ?ty5q4 ?tr5q4
          case ty5q4 => (intro w hSw; (try dsimp only at hSw); go_simp; first | done | with_reducible rfl)
          simp only [Act.put, List.setIfInBounds_toArray, List.set_cons_zero, List.set_cons_succ]
          refine GoX.take 6 rfl (by kernel_rfl) (by kernel_rfl) (by rfl) (fun _ _ _ h => h) (v := ?tv6q4) S0 ?ty6q4 ?tr6q4
          case ty6q4 => (intro w hSw; (try dsimp only at hSw); go_simp; first | done | with_reducible rfl)
          simp only [Act.put, List.setIfInBounds_toArray, List.set_cons_zero, List.set_cons_succ]
          refine GoX.take 9 rfl (by kernel_rfl) (by kernel_rfl) (by rfl) (fun _ _ _ h => h) (v := ?tv9q4) S0 ?ty9q4 ?tr9q4
          case ty9q4 => (intro w hSw; (try dsimp only at hSw); go_simp; first | done | with_reducible rfl)
          simp only [Act.put, List.setIfInBounds_toArray, List.set_cons_zero, List.set_cons_succ]
          refine GoX.take 10 rfl (by kernel_rfl) (by kernel_rfl) (by rfl) (fun _ _ _ h => h) (v := ?tv10q4) S0 ?ty10q4 ?tr10q4
          case ty10q4 => (intro w hSw; (try dsimp only at hSw); go_simp; first | done | with_reducible rfl)
          simp only [Act.put, List.setIfInBounds_toArray, List.set_cons_zero, List.set_cons_succ]
          refine GoX.take 11 rfl (by kernel_rfl) (by kernel_rfl) (by rfl) (fun _ _ _ h => h) (v := ?tv11q4) S0 ?ty11q4 ?tr11q4
          case ty11q4 => (intro w hSw; (try dsimp only at hSw); go_simp; first | done | with_reducible rfl)
          simp only [Act.put, List.setIfInBounds_toArray, List.set_cons_zero, List.set_cons_succ]
          refine GoX.take 14 rfl (by kernel_rfl) (by kernel_rfl) (by rfl) (fun _ _ _ h => h) (v := ?tv14q4) S0 ?ty14q4 ?tr14q4
          case ty14q4 => (intro w hSw; (try dsimp only at hSw); go_simp; first | done | with_reducible rfl)
          simp only [Act.put, List.setIfInBounds_toArray, List.set_cons_zero, List.set_cons_succ]
          refine GoX.take 15 rfl (by kernel_rfl) (by kernel_rfl) (by rfl) (fun _ _ _ h => h) (v := ?tv15q4) S0 ?ty15q4 ?tr15q4
          case ty15q4 => (intro w hSw; (try dsimp only at hSw); go_simp; first | done | with_reducible rfl)
          simp only [Act.put, List.setIfInBounds_toArray, List.set_cons_zero, List.set_cons_succ]
          refine GoX.take 18 rfl (by kernel_rfl) (by kernel_rfl) (by rfl) (fun _ _ _ h => h) (v := ?tv18q4) S0 ?ty18q4 ?tr18q4
          case ty18q4 => (intro w hSw; (try dsimp only at hSw); go_simp; first | done | with_reducible rfl)
          simp only [Act.put, List.setIfInBounds_toArray, List.set_cons_zero, List.set_cons_succ]
          refine GoX.take 19 rfl (by kernel_rfl) (by kernel_rfl) (by rfl) (fun _ _ _ h => h) (v := ?tv19q4) S0 ?ty19q4 ?tr19q4
          case ty19q4 => (intro w hSw; (try dsimp only at hSw); go_simp; first | done | with_reducible rfl)
          simp only [Act.put, List.setIfInBounds_toArray, List.set_cons_zero, List.set_cons_succ]
          refine GoX.take 20 rfl (by kernel_rfl) (by kernel_rfl) (by rfl) (fun _ _ _ h => h) (v := ?tv20q4) S0 ?ty20q4 ?tr20q4
          case ty20q4 => (intro w hSw; (try dsimp only at hSw); go_simp; first | done | with_reducible rfl)
          simp only [Act.put, List.setIfInBounds_toArray, List.set_cons_zero, List.set_cons_succ]
          refine (?_ : ∀ V0, Hid (M1 w V0 A8 A64 g5 g6 S N3) → (V0.cell? ⟨g5, 0, none⟩ = some (.int .u32 (s0 : Nat)) ∧ V0.cell? ⟨g5, 1, none⟩ = some (.int .u32 (s1 : Nat)) ∧ V0.cell? ⟨g5, 9, none⟩ = some (.int .u32 (s9 : Nat)) ∧ V0.cell? ⟨g5, 14, none⟩ = some (.int .u32 (s14 : Nat))) → GoX Tryd.prog _ _ _ _ _ _ _ V0) _ HD S0
          clear HD S0
          intro V0 D0 S0
          refine GoX.two 7 16 rfl rfl (by kernel_rfl) (by decide) (by decide) (fun K hK => ?_) (fun K hK => ?_)
          · go_simp
            have hb := below_alloc V0 (.cells #[.int .i64 7, .int .i64 18] 3)
            have I7 := intsV_litS V0 #[.int .i64 7, .int .i64 18] 3 2 (ivs [7, 18]) rfl rfl (by decide)
            obtain ⟨ga7, hga⟩ : ∃ g, g = V0.heap.size := ⟨_, rfl⟩
            rw [← hga] at I7
            have S1 : (V0.alloc (.cells #[.int .i64 7, .int .i64 18] 3)).cell? ⟨g5, 0, none⟩ = some (.int .u32 (s0 : Nat)) ∧ (V0.alloc (.cells #[.int .i64 7, .int .i64 18] 3)).cell? ⟨g5, 1, none⟩ = some (.int .u32 (s1 : Nat)) ∧ (V0.alloc (.cells #[.int .i64 7, .int .i64 18] 3)).cell? ⟨g5, 9, none⟩ = some (.int .u32 (s9 : Nat)) ∧ (V0.alloc (.cells #[.int .i64 7, .int .i64 18] 3)).cell? ⟨g5, 14, none⟩ = some (.int .u32 (s14 : Nat)) := ⟨cell_belowS S0.1 hb, cell_belowS S0.2.1 hb, cell_belowS S0.2.2.1 hb, cell_belowS S0.2.2.2 hb⟩
            have D1 := Lib.hid (D0.out.below hb)
            refine hK.out _ _ S1 (fun _ => ?_)
            clear hK K
            rw [← hga]
            refine (?_ : ∀ V1, Hid (M1 w V1 A8 A64 g5 g6 S N3) → (V1.cell? ⟨g5, 0, none⟩ = some (.int .u32 (s0 : Nat)) ∧ V1.cell? ⟨g5, 1, none⟩ = some (.int .u32 (s1 : Nat)) ∧ V1.cell? ⟨g5, 9, none⟩ = some (.int .u32 (s9 : Nat)) ∧ V1.cell? ⟨g5, 14, none⟩ = some (.int .u32 (s14 : Nat))) → IntsV V1 (some ⟨ga7, 0, none⟩, 2, 2) (ivs [7, 18]) → GoX Tryd.prog _ _ _ _ _ _ _ V1) _ D1 S1 I7
            clear D1 S1 I7 hb hga 
            intro V1 D1 S1 I7 
            refine GoX.two 8 16 rfl rfl (by kernel_rfl) (by decide) (by decide) (fun K hK => ?_) (fun K hK => ?_)
            · rw [if_pos (by rfl)]
              go_simp
              have KT := turned_any s1 [7, 18] ls1 (by intro n hn; simp at hn; unfold turnsOK; omega) _ 2 2 _ I7
              (with_reducible refine KT.mono ?_)
              rintro e V2 ⟨rfl, rfl⟩
              have S2 := S1
              have D2 := D1
              refine hK.out _ _ S2 (fun _ => ?_)
              clear hK K KT I7
              refine GoX.take 12 rfl (by kernel_rfl) (by kernel_rfl) (by rfl) (fun _ _ _ h => h) (v := ?tv12q5) S2 ?ty12q5 ?tr12q5
              case ty12q5 => (intro w hSw; (try dsimp only at hSw); go_simp; first | done | with_reducible rfl)
              simp only [Act.put, List.setIfInBounds_toArray, List.set_cons_zero, List.set_cons_succ]
              refine GoX.take 13 rfl (by kernel_rfl) (by kernel_rfl) (by rfl) (fun _ _ _ h => h) (v := ?tv13q5) S2 ?ty13q5 ?tr13q5
              case ty13q5 => (intro w hSw; (try dsimp only at hSw); go_simp; first | done | with_reducible rfl)
              simp only [Act.put, List.setIfInBounds_toArray, List.set_cons_zero, List.set_cons_succ]
              refine GoX.one 16 rfl (by kernel_rfl) (by decide) (fun K hK => ?_)
              go_simp
              have hb := below_alloc V2 (.cells #[.int .i64 17, .int .i64 19] 3)
              have I16 := intsV_litS V2 #[.int .i64 17, .int .i64 19] 3 2 (ivs [17, 19]) rfl rfl (by decide)
              obtain ⟨ga16, hga⟩ : ∃ g, g = V2.heap.size := ⟨_, rfl⟩
              rw [← hga] at I16
              have S3 : (V2.alloc (.cells #[.int .i64 17, .int .i64 19] 3)).cell? ⟨g5, 0, none⟩ = some (.int .u32 (s0 : Nat)) ∧ (V2.alloc (.cells #[.int .i64 17, .int .i64 19] 3)).cell? ⟨g5, 1, none⟩ = some (.int .u32 (s1 : Nat)) ∧ (V2.alloc (.cells #[.int .i64 17, .int .i64 19] 3)).cell? ⟨g5, 9, none⟩ = some (.int .u32 (s9 : Nat)) ∧ (V2.alloc (.cells #[.int .i64 17, .int .i64 19] 3)).cell? ⟨g5, 14, none⟩ = some (.int .u32 (s14 : Nat)) := ⟨cell_belowS S2.1 hb, cell_belowS S2.2.1 hb, cell_belowS S2.2.2.1 hb, cell_belowS S2.2.2.2 hb⟩
              have D3 := Lib.hid (D2.out.below hb)
              refine hK.out _ _ S3 (fun _ => ?_)
              clear hK K
              rw [← hga]
              refine (?_ : ∀ V3, Hid (M1 w V3 A8 A64 g5 g6 S N3) → (V3.cell? ⟨g5, 0, none⟩ = some (.int .u32 (s0 : Nat)) ∧ V3.cell? ⟨g5, 1, none⟩ = some (.int .u32 (s1 : Nat)) ∧ V3.cell? ⟨g5, 9, none⟩ = some (.int .u32 (s9 : Nat)) ∧ V3.cell? ⟨g5, 14, none⟩ = some (.int .u32 (s14 : Nat))) → IntsV V3 (some ⟨ga16, 0, none⟩, 2, 2) (ivs [17, 19]) → GoX Tryd.prog _ _ _ _ _ _ _ V3) _ D3 S3 I16
              clear D3 S3 I16 hb hga 
              intro V3 D3 S3 I16 
              refine GoX.one 17 rfl (by kernel_rfl) (by decide) (fun K hK => ?_)
              rw [if_pos (by rfl)]
              go_simp
              have KT := turned_any s14 [17, 19] ls14 (by intro n hn; simp at hn; unfold turnsOK; omega) _ 2 2 _ I16
              (with_reducible refine KT.mono ?_)
              rintro e V4 ⟨rfl, rfl⟩
              have S4 := S3
              have D4 := D3
              refine hK.out _ _ S4 (fun _ => ?_)
              clear hK K KT I16
              refine GoX.take 21 rfl (by kernel_rfl) (by kernel_rfl) (by rfl) (fun _ _ _ h => h) (v := ?tv21q6) S4 ?ty21q6 ?tr21q6
              case ty21q6 => (intro w hSw; (try dsimp only at hSw); go_simp; first | done | with_reducible rfl)
              simp only [Act.put, List.setIfInBounds_toArray, List.set_cons_zero, List.set_cons_succ]
              refine GoX.take 22 rfl (by kernel_rfl) (by kernel_rfl) (by rfl) (fun _ _ _ h => h) (v := ?tv22q6) S4 ?ty22q6 ?tr22q6
              case ty22q6 => (intro w hSw; (try dsimp only at hSw); go_simp; first | done | with_reducible rfl)
              simp only [Act.put, List.setIfInBounds_toArray, List.set_cons_zero, List.set_cons_succ]
              refine GoX.last 23 rfl (by kernel_rfl) (by kernel_rfl) (by decide) ?_
              go_wp2
              go_meet
              exact ⟨by rw [f_raw s0 s9 s1 s14 ls1 ls14], D4⟩
            · go_simp
              have hb := below_alloc V1 (.cells #[.int .i64 17, .int .i64 19] 3)
              have I16 := intsV_litS V1 #[.int .i64 17, .int .i64 19] 3 2 (ivs [17, 19]) rfl rfl (by decide)
              obtain ⟨ga16, hga⟩ : ∃ g, g = V1.heap.size := ⟨_, rfl⟩
              rw [← hga] at I16
              have S2 : (V1.alloc (.cells #[.int .i64 17, .int .i64 19] 3)).cell? ⟨g5, 0, none⟩ = some (.int .u32 (s0 : Nat)) ∧ (V1.alloc (.cells #[.int .i64 17, .int .i64 19] 3)).cell? ⟨g5, 1, none⟩ = some (.int .u32 (s1 : Nat)) ∧ (V1.alloc (.cells #[.int .i64 17, .int .i64 19] 3)).cell? ⟨g5, 9, none⟩ = some (.int .u32 (s9 : Nat)) ∧ (V1.alloc (.cells #[.int .i64 17, .int .i64 19] 3)).cell? ⟨g5, 14, none⟩ = some (.int .u32 (s14 : Nat)) := ⟨cell_belowS S1.1 hb, cell_belowS S1.2.1 hb, cell_belowS S1.2.2.1 hb, cell_belowS S1.2.2.2 hb⟩
              have D2 := Lib.hid (D1.out.below hb)
              refine hK.out _ _ S2 (fun _ => ?_)
              clear hK K
              rw [← hga]
              refine (?_ : ∀ V2, Hid (M1 w V2 A8 A64 g5 g6 S N3) → (V2.cell? ⟨g5, 0, none⟩ = some (.int .u32 (s0 : Nat)) ∧ V2.cell? ⟨g5, 1, none⟩ = some (.int .u32 (s1 : Nat)) ∧ V2.cell? ⟨g5, 9, none⟩ = some (.int .u32 (s9 : Nat)) ∧ V2.cell? ⟨g5, 14, none⟩ = some (.int .u32 (s14 : Nat))) → IntsV V2 (some ⟨ga16, 0, none⟩, 2, 2) (ivs [17, 19]) → IntsV V2 (some ⟨ga7, 0, none⟩, 2, 2) (ivs [7, 18]) → GoX Tryd.prog _ _ _ _ _ _ _ V2) _ D2 S2 I16 (I7.below hb)
              clear D2 S2 I16 hb hga I7
              intro V2 D2 S2 I16 I7
              refine GoX.one 8 rfl (by kernel_rfl) (by decide) (fun K hK => ?_)
              rw [if_pos (by rfl)]
              go_simp
              have KT := turned_any s1 [7, 18] ls1 (by intro n hn; simp at hn; unfold turnsOK; omega) _ 2 2 _ I7
              (with_reducible refine KT.mono ?_)
              rintro e V3 ⟨rfl, rfl⟩
              have S3 := S2
              have D3 := D2
              refine hK.out _ _ S3 (fun _ => ?_)
              clear hK K KT I7
              refine GoX.take 12 rfl (by kernel_rfl) (by kernel_rfl) (by rfl) (fun _ _ _ h => h) (v := ?tv12q7) S3 ?ty12q7 ?tr12q7
              case ty12q7 => (intro w hSw; (try dsimp only at hSw); go_simp; first | done | with_reducible rfl)
              simp only [Act.put, List.setIfInBounds_toArray, List.set_cons_zero, List.set_cons_succ]
              refine GoX.take 13 rfl (by kernel_rfl) (by kernel_rfl) (by rfl) (fun _ _ _ h => h) (v := ?tv13q7) S3 ?ty13q7 ?tr13q7
              case ty13q7 => (intro w hSw; (try dsimp only at hSw); go_simp; first | done | with_reducible rfl)
              simp only [Act.put, List.setIfInBounds_toArray, List.set_cons_zero, List.set_cons_succ]
              refine GoX.one 17 rfl (by kernel_rfl) (by decide) (fun K hK => ?_)
              rw [if_pos (by rfl)]
              go_simp
              have KT := turned_any s14 [17, 19] ls14 (by intro n hn; simp at hn; unfold turnsOK; omega) _ 2 2 _ I16
              (with_reducible refine KT.mono ?_)
              rintro e V4 ⟨rfl, rfl⟩
              have S4 := S3
              have D4 := D3
              refine hK.out _ _ S4 (fun _ => ?_)
              clear hK K KT I16
              refine GoX.take 21 rfl (by kernel_rfl) (by kernel_rfl) (by rfl) (fun _ _ _ h => h) (v := ?tv21q8) S4 ?ty21q8 ?tr21q8
              case ty21q8 => (intro w hSw; (try dsimp only at hSw); go_simp; first | done | with_reducible rfl)
              simp only [Act.put, List.setIfInBounds_toArray, List.set_cons_zero, List.set_cons_succ]
              refine GoX.take 22 rfl (by kernel_rfl) (by kernel_rfl) (by rfl) (fun _ _ _ h => h) (v := ?tv22q8) S4 ?ty22q8 ?tr22q8
              case ty22q8 => (intro w hSw; (try dsimp only at hSw); go_simp; first | done | with_reducible rfl)
              simp only [Act.put, List.setIfInBounds_toArray, List.set_cons_zero, List.set_cons_succ]
              refine GoX.last 23 rfl (by kernel_rfl) (by kernel_rfl) (by decide) ?_
              go_wp2
              go_meet
              exact ⟨by rw [f_raw s0 s9 s1 s14 ls1 ls14], D4⟩
          · go_simp
            have hb := below_alloc V0 (.cells #[.int .i64 17, .int .i64 19] 3)
            have I16 := intsV_litS V0 #[.int .i64 17, .int .i64 19] 3 2 (ivs [17, 19]) rfl rfl (by decide)
            obtain ⟨ga16, hga⟩ : ∃ g, g = V0.heap.size := ⟨_, rfl⟩
            rw [← hga] at I16
            have S1 : (V0.alloc (.cells #[.int .i64 17, .int .i64 19] 3)).cell? ⟨g5, 0, none⟩ = some (.int .u32 (s0 : Nat)) ∧ (V0.alloc (.cells #[.int .i64 17, .int .i64 19] 3)).cell? ⟨g5, 1, none⟩ = some (.int .u32 (s1 : Nat)) ∧ (V0.alloc (.cells #[.int .i64 17, .int .i64 19] 3)).cell? ⟨g5, 9, none⟩ = some (.int .u32 (s9 : Nat)) ∧ (V0.alloc (.cells #[.int .i64 17, .int .i64 19] 3)).cell? ⟨g5, 14, none⟩ = some (.int .u32 (s14 : Nat)) := ⟨cell_belowS S0.1 hb, cell_belowS S0.2.1 hb, cell_belowS S0.2.2.1 hb, cell_belowS S0.2.2.2 hb⟩
            have D1 := Lib.hid (D0.out.below hb)
            refine hK.out _ _ S1 (fun _ => ?_)
            clear hK K
            rw [← hga]
            refine (?_ : ∀ V1, Hid (M1 w V1 A8 A64 g5 g6 S N3) → (V1.cell? ⟨g5, 0, none⟩ = some (.int .u32 (s0 : Nat)) ∧ V1.cell? ⟨g5, 1, none⟩ = some (.int .u32 (s1 : Nat)) ∧ V1.cell? ⟨g5, 9, none⟩ = some (.int .u32 (s9 : Nat)) ∧ V1.cell? ⟨g5, 14, none⟩ = some (.int .u32 (s14 : Nat))) → IntsV V1 (some ⟨ga16, 0, none⟩, 2, 2) (ivs [17, 19]) → GoX Tryd.prog _ _ _ _ _ _ _ V1) _ D1 S1 I16
            clear D1 S1 I16 hb hga 
            intro V1 D1 S1 I16 
            refine GoX.one 7 rfl (by kernel_rfl) (by decide) (fun K hK => ?_)
            go_simp
            have hb := below_alloc V1 (.cells #[.int .i64 7, .int .i64 18] 3)
            have I7 := intsV_litS V1 #[.int .i64 7, .int .i64 18] 3 2 (ivs [7, 18]) rfl rfl (by decide)
            obtain ⟨ga7, hga⟩ : ∃ g, g = V1.heap.size := ⟨_, rfl⟩
            rw [← hga] at I7
            have S2 : (V1.alloc (.cells #[.int .i64 7, .int .i64 18] 3)).cell? ⟨g5, 0, none⟩ = some (.int .u32 (s0 : Nat)) ∧ (V1.alloc (.cells #[.int .i64 7, .int .i64 18] 3)).cell? ⟨g5, 1, none⟩ = some (.int .u32 (s1 : Nat)) ∧ (V1.alloc (.cells #[.int .i64 7, .int .i64 18] 3)).cell? ⟨g5, 9, none⟩ = some (.int .u32 (s9 : Nat)) ∧ (V1.alloc (.cells #[.int .i64 7, .int .i64 18] 3)).cell? ⟨g5, 14, none⟩ = some (.int .u32 (s14 : Nat)) := ⟨cell_belowS S1.1 hb, cell_belowS S1.2.1 hb, cell_belowS S1.2.2.1 hb, cell_belowS S1.2.2.2 hb⟩
            have D2 := Lib.hid (D1.out.below hb)
            refine hK.out _ _ S2 (fun _ => ?_)
            clear hK K
            rw [← hga]
            refine (?_ : ∀ V2, Hid (M1 w V2 A8 A64 g5 g6 S N3) → (V2.cell? ⟨g5, 0, none⟩ = some (.int .u32 (s0 : Nat)) ∧ V2.cell? ⟨g5, 1, none⟩ = some (.int .u32 (s1 : Nat)) ∧ V2.cell? ⟨g5, 9, none⟩ = some (.int .u32 (s9 : Nat)) ∧ V2.cell? ⟨g5, 14, none⟩ = some (.int .u32 (s14 : Nat))) → IntsV V2 (some ⟨ga7, 0, none⟩, 2, 2) (ivs [7, 18]) → IntsV V2 (some ⟨ga16, 0, none⟩, 2, 2) (ivs [17, 19]) → GoX Tryd.prog _ _ _ _ _ _ _ V2) _ D2 S2 I7 (I16.below hb)
            clear D2 S2 I7 hb hga I16
            intro V2 D2 S2 I7 I16
            refine GoX.one 8 rfl (by kernel_rfl) (by decide) (fun K hK => ?_)
            rw [if_pos (by rfl)]
            go_simp
            have KT := turned_any s1 [7, 18] ls1 (by intro n hn; simp at hn; unfold turnsOK; omega) _ 2 2 _ I7
            (with_reducible refine KT.mono ?_)
            rintro e V3 ⟨rfl, rfl⟩
            have S3 := S2
            have D3 := D2
            refine hK.out _ _ S3 (fun _ => ?_)
            clear hK K KT I7
            refine GoX.take 12 rfl (by kernel_rfl) (by kernel_rfl) (by rfl) (fun _ _ _ h => h) (v := ?tv12q9) S3 ?ty12q9 ?tr12q9
            case ty12q9 => (intro w hSw; (try dsimp only at hSw); go_simp; first | done | with_reducible rfl)
            simp only [Act.put, List.setIfInBounds_toArray, List.set_cons_zero, List.set_cons_succ]
            refine GoX.take 13 rfl (by kernel_rfl) (by kernel_rfl) (by rfl) (fun _ _ _ h => h) (v := ?tv13q9) S3 ?ty13q9 ?tr13q9
            case ty13q9 => (intro w hSw; (try dsimp only at hSw); go_simp; first | done | with_reducible rfl)
            simp only [Act.put, List.setIfInBounds_toArray, List.set_cons_zero, List.set_cons_succ]
            refine GoX.one 17 rfl (by kernel_rfl) (by decide) (fun K hK => ?_)
            rw [if_pos (by rfl)]
            go_simp
            have KT := turned_any s14 [17, 19] ls14 (by intro n hn; simp at hn; unfold turnsOK; omega) _ 2 2 _ I16
            (with_reducible refine KT.mono ?_)
            rintro e V4 ⟨rfl, rfl⟩
            have S4 := S3
            have D4 := D3
            refine hK.out _ _ S4 (fun _ => ?_)
            clear hK K KT I16
            refine GoX.take 21 rfl (by kernel_rfl) (by kernel_rfl) (by rfl) (fun _ _ _ h => h) (v := ?tv21q10) S4 ?ty21q10 ?tr21q10
            case ty21q10 => (intro w hSw; (try dsimp only at hSw); go_simp; first | done | with_reducible rfl)
            simp only [Act.put, List.setIfInBounds_toArray, List.set_cons_zero, List.set_cons_succ]
            refine GoX.take 22 rfl (by kernel_rfl) (by kernel_rfl) (by rfl) (fun _ _ _ h => h) (v := ?tv22q10) S4 ?ty22q10 ?tr22q10
            case ty22q10 => (intro w hSw; (try dsimp only at hSw); go_simp; first | done | with_reducible rfl)
            simp only [Act.put, List.setIfInBounds_toArray, List.set_cons_zero, List.set_cons_succ]
            refine GoX.last 23 rfl (by kernel_rfl) (by kernel_rfl) (by decide) ?_
            go_wp2
            go_meet
            exact ⟨by rw [f_raw s0 s9 s1 s14 ls1 ls14], D4⟩
        case rest =>
          rename World => W13
          obtain ⟨rfl, HM13⟩ := hcut
          obtain ⟨f, hf⟩ : ∃ x, x = add32 (add32 (add32 s0 s9) (sig0 s1)) (sig1 s14) := ⟨_, rfl⟩
          rw [← hf]
          have HF := Lib.hid hf
          have H13 := Lib.hid (show M1 w W13.drew A8 A64 g5 g6 S N3 from HM13.out.drewN 1)
          clear hf a0 a1 a9 a14 H12 HD HM13
          go_upto_region 13 with fail
          refine GoX.start 2 (fun _ => True) (by kernel_rfl) ?_
          have ST : True := trivial
          refine GoX.take 0 rfl (by kernel_rfl) (by kernel_rfl) (by rfl) (fun _ _ _ h => h) (v := ?tv0q11) ST ?ty0q11 ?tr0q11
          case ty0q11 => (intro w hSw; (try dsimp only at hSw); go_simp; first | done | with_reducible rfl)
          simp only [Act.put, List.setIfInBounds_toArray, List.set_cons_zero, List.set_cons_succ]
          refine GoX.take 1 rfl (by kernel_rfl) (by kernel_rfl) (by rfl) (fun _ _ _ h => h) (v := ?tv1q11) ST ?ty1q11 ?tr1q11
          case ty1q11 => (intro w hSw; (try dsimp only at hSw); go_simp; first | done | with_reducible rfl)
          simp only [Act.put, List.setIfInBounds_toArray, List.set_cons_zero, List.set_cons_succ]
          refine GoX.last 2 rfl (by kernel_rfl) (by kernel_rfl) (by decide) ?_
          rw [if_pos (by rfl)]
          refine wp_copy_row (.tmp 109) (.tmp 110) 77 77 rfl 47 Tryd.underlying77 (by kernel_rfl) g5 0 16 16 ⟨g5, 1, none⟩ 15 15 rfl rfl (S.map uv).toArray AT16 H13.out.a ((S.drop 1).map uv) (by simp [HL.out.2]) ?_ (by simp [HL.out.2]) (uv_memb _) ?_
          · intro j v hj
            have hj15 : j < 15 := by have := (List.getElem?_eq_some_iff.1 hj).1; simp [HL.out.2] at this; exact this
            rw [show (⟨g5, 1, none⟩ : Addr).add j = ⟨g5, 1 + j, none⟩ by unfold Addr.add; split <;> simp_all, cell_of_row _ _ _ _ _ _ H13.out.a, ← hj]
            simp [Nat.add_comm]
          rw [shiftS S HL.out.2]
          have h14 := H13.out.setS (S.drop 1 ++ [g' S 15]) rfl
          have HS2 := Lib.hid (shiftS_set S HL.out.2 f)
          have HS2L : Hid ((S.drop 1 ++ [g' S 15]).length = 16) := Lib.hid (by simp [HL.out.2])
          obtain ⟨S2, hS2⟩ : ∃ x, x = S.drop 1 ++ [g' S 15] := ⟨_, rfl⟩
          rw [← hS2] at h14 HS2 HS2L ⊢
          have H14 := Lib.hid h14
          clear H13 h14 hS2
          go_upto_region 14 with fail
          refine (?_ : ∀ W14, M1 w W14 A8 A64 g5 g6 S2 N3 → Code.wp Tryd.prog _ _ _ W14) _ H14.out
          clear H14
          intro W14 h14
          have c15 : W14.cell? ⟨g5, 15, none⟩ = some (.int .u32 (g' S2 15 : Nat)) := by rw [cell_of_row _ _ _ _ _ _ h14.a]; exact uv_at (by rw [HS2L.out]; decide)
          have hfz : W14.frozen? ⟨g5, 15, none⟩ = false := frozen_of_row _ _ _ _ _ h14.a
          have HE : Hid (M1 w (W14.setCell ⟨g5, 15, none⟩ (.int .u32 (f : Nat))) A8 A64 g5 g6 (roundsR st (wordsR b) (k + 1)).2 (roundsR st (wordsR b) (k + 1)).1) := Lib.hid (by
            have := h14.cellS 15 f
            rw [HS2.out] at this
            rw [HNS.out.1, HNS.out.2, ← HKP.out, ← Hs0.out, ← HN3E.out]
            show M1 w _ A8 A64 g5 g6 (S.drop 1 ++ [furtherR S]) N3
            unfold furtherR
            rw [← Hs0.out, ← Hs1.out, ← Hs9.out, ← Hs14.out, ← HF.out]
            exact this)
          clear h14
          go_wp2
          go_roundw
          case rel => exact ⟨k + 1, by omega, by go_num, HE⟩
          case measure => simp [intOf] <;> omega
      · obtain rfl : k = 64 := by omega
        have HN64 := Lib.hid hN
        obtain ⟨AN, hAN⟩ : ∃ A, A = (N.map uv).toArray := ⟨_, rfl⟩
        have HAN := Lib.hid hAN
        have hn := HM.out.n
        rw [← hAN] at hn
        have HNN := Lib.hid hn
        have hiN : (Tryd.prog.info? AT8).map (·.size) = some AN.size := by rw [hAN]; simp only [List.size_toArray, List.length_map, hL.1]; exact infoA8
        have HLN := Lib.hid hL.1
        have h2 : M2 w wr (stSum st N 0) := ⟨HM.out.m.bel, by rw [stSum_zero st N HST.out.2.1, ← HA8.out]; exact HM.out.m.s, HM.out.m.r⟩
        have H2 := Lib.hid h2
        clear hN hS hL hW hAN hn h2 HM
        go_wp2_with (first | (refine wpList_load_row rfl AT8 _ rfl g6 rfl AT8 AN (0, 0) _ HNN.out Tryd.underlying48 rfl hiN ?_))
        clear HNN
        go_loopw [116] (fun vi wr => ∃ i : Nat, i ≤ 8 ∧ vi = .int .i64 i ∧ Hid (M2 w wr (stSum st N i))) (fun vi _ => (8 - intOf vi).toNat)
        case atStart => exact ⟨0, by omega, rfl, H2⟩
        case round =>
          clear H2
          rename World => W2
          obtain ⟨i, hi, rfl, H2⟩ := hrel
          by_cases hlt2 : i < 8
          · obtain ⟨x, hx⟩ : ∃ x, x = g' (stSum st N i) i := ⟨_, rfl⟩
            obtain ⟨y, hy⟩ : ∃ y, y = g' N i := ⟨_, rfl⟩
            have hix := fun w => index_8 AN i (.int .u32 (y : Nat)) (by rw [HAN.out, hy]; exact uv_at (by rw [HLN.out]; exact hlt2)) hlt2 w
            have hc : W2.cell? ⟨w.heap.size, i, none⟩ = some (.int .u32 (x : Nat)) := by rw [cell_of_row _ _ _ _ _ _ H2.out.s, hx]; exact uv_at (by rw [stSum_len]; exact hlt2)
            have hfz : W2.frozen? ⟨w.heap.size, i, none⟩ = false := frozen_of_row _ _ _ _ _ H2.out.s
            have HS : Hid (M2 w (W2.setCell ⟨w.heap.size, i, none⟩ (.int .u32 (add32 x y : Nat))) (stSum st N (i + 1))) := Lib.hid (by
              have := H2.out.set i (add32 x y)
              rw [hx, hy, stSum_at st N hlt2, stSum_set st N hlt2] at this
              rw [hx, hy, stSum_at st N hlt2]
              exact this)
            clear hx hy H2
            go_upto_region 20 with fail
            rw [add_mod32]
            go_wp2
            go_roundw
            case rel => exact ⟨i + 1, by omega, by go_num, HS⟩
            case measure => simp [intOf] <;> omega
          · obtain rfl : i = 8 := by omega
            have hE := H2.out
            rw [HN64.out, stSum_eight] at hE
            obtain ⟨R, hR⟩ : ∃ R, R = ((mixR st b).map uv).toArray := ⟨_, rfl⟩
            have HRE := Lib.hid hR
            have hs := hE.s
            rw [← hR] at hs
            have hRs : R.size = 8 := by rw [hR]; simp [mixR_len]
            have hi8 : (Tryd.prog.info? AT8).map (·.size) = some R.size := by rw [hRs]; exact infoA8
            have HE := Lib.hid (And.intro hE.bel (And.intro hE.r hs))
            have hone : R.all (·.oneCell') = true := by rw [hR]; exact uv_one _
            have hrs : ((List.replicate 8 0).map uv).toArray.size = R.size := by rw [hRs]; rfl
            clear hE hs hR H2
            go_wp2_with (first | (refine wpList_load_row rfl AT8 _ rfl w.heap.size rfl AT8 R (0, 0) _ HE.out.2.2 Tryd.underlying48 rfl hi8 ?_) | (refine wpList_store_row rfl AT8 _ _ rfl (w.heap.size + 1 + 1) R rfl rfl AT8 _ HE.out.2.1 hi8 hrs hone ?_))
            refine bodyPost_ret (results_cell_row rfl _ _ (w.heap.size + 1 + 1) AT8 R (0, 0) _ rfl ?hh Tryd.underlying48 rfl hi8) (by rfl) ?_
            · exact setRow_heap _ _ _ _ _ _ HE.out.2.1
            exact ⟨by rw [HRE.out], below_setRow HE.out.1 (by omega) _⟩
end Go.Proofs.YthofndobmiamjaaDoor
