/-
  sha: Sum, up to its loop.
-/
import Derived.Test.YthofndobmiamjaaDoorShH
import Derived.Shelf.Abstract
import Derived.Laws.MakeOwn
import Derived.RangeFuncBox
namespace Go.Proofs.YthofndobmiamjaaDoor
open Go.RowKit Go.Shelf
attribute [local go_sem] Oper.semAt_some

theorem wpListIn_store_rowS {F : Fence} {n : Nat} {P : Program} {ops : Array Oper} {rest : List Oper} {o : Oper} {a : Act} {w : World} {Q : Exit → Act → World → Prop} (hgd : o.guard = none) (ty : TypeId) (x y : Operand) (ho : o.op = .store ty x y)
    (g : Nat) (cells : Array Value) (hx : a.eval x = .pointer (some ⟨g, 0, none⟩)) (hy : a.eval y = .agg cells)
    (t : TypeId) (old : Array Value) (hg : w.heap[g]? = some (.cells old t (0, 0))) (hi : (P.info? ty).map (·.size) = some cells.size)
    (hold : old.size = cells.size) (h1 : cells.all (·.oneCell') = true)
    (h : wpListIn F n P ops Q rest (a.put o.dst undef) (w.setRow g cells)) : wpListIn F n P ops Q (o :: rest) a w :=
  wpListIn_plain hgd fun K hK => by
    unfold Oper.wpIn
    refine ⟨by simp [Oper.about, ho], ?_⟩
    rw [Oper.semAt_plain F _ _ (by rw [ho]; intro c hc'; cases hc')]
    unfold execOp
    simp only [ho, hx, hy, Instr.storeAt, Instr.sureAddr, Sem.run_bind, Sem.run_pure, Result.andThen_ok, run_storeVar_row w g t ty old cells hg hi hold h1]
    exact hK _ _ h
theorem below_putObj {B : Nat} {w w' : World} (h : Below B w w') {l : Nat} (hl : B ≤ l) (o : Obj) : Below B w (w'.putObj l o) :=
  ⟨h.os, h.tape, h.output, by simpa using h.size, fun k hk => (World.putObj_heap_other (by omega)).trans (h.block k hk)⟩
/-- a range over a function whose rounds end as they should. -/
theorem rangeFunc_start {P : Program} {g : Operand} {p : Tmp} {assign body : Code} {Q : Exit → Act → World → Prop} {a : Act} {w : World} {gf : FuncId} {lb : Array Value} (hg : a.eval g = .func (.func gf) #[] lb) (eg : ∀ args w, (callFunc gf args).run P w = .ok (.enter gf args) w)
    (h : ∀ (fn : FuncId) (rec : LoopState → Option Code → Loop),
      (∀ W v, W.heap[w.heap.size + 1]? = some (.loop (rec .ready none)) → (Instr.yield (w.heap.size + 1) #[v]).run P W = .ok (.round (w.heap.size + 1) fn (a.tmps.setIfInBounds p v) assign body) W) →
      (∀ W, W.heap[w.heap.size + 1]? = some (.loop (rec .ready none)) → (Instr.beginRound (w.heap.size + 1)).run P W = .ok () (W.putObj (w.heap.size + 1) (.loop (rec .busy none)))) →
      (∀ W, W.heap[w.heap.size + 1]? = some (.loop (rec .busy none)) → (Instr.endRound (w.heap.size + 1) none).run P W = .ok (.bool true) (W.putObj (w.heap.size + 1) (.loop (rec .ready none)))) →
      (∀ W, W.heap[w.heap.size + 1]? = some (.loop (rec .ready none)) → (Instr.endLoop (w.heap.size + 1)).run P W = .ok none (W.putObj (w.heap.size + 1) (.loop (rec .exhausted none)))) →
      Calls P gf (#[.func (.yield (w.heap.size + 1)) #[] #[]] ++ lb) ((w.alloc (.deferred (some []))).alloc (.loop (rec .ready none)))
        (rangePost Fence.wide 1 P (w.heap.size + 1) Q { a with defers := { target := .collected w.heap.size, args := #[] } :: a.defers })) :
    (Code.rangeFunc g #[p] assign body).wp P Q a w := by
  refine (wpIn_wide (n := 1)).1 (wpIn_rangeFunc ?_)
  intro fn _
  obtain ⟨rec, hrec⟩ : ∃ rec : LoopState → Option Code → Loop, rec = fun st pe => { state := st, pending := pe, fn, tmps := a.tmps, params := #[p], assign, body, defers := w.heap.size } := ⟨_, rfl⟩
  have H := h fn rec
  have he : (Instr.enterLoop fn a.tmps #[p] assign body none).run P w = .ok (w.heap.size + 1, [{ target := .collected w.heap.size, args := #[] }]) ((w.alloc (.deferred (some []))).alloc (.loop (rec .ready none))) := by
    rw [hrec]; exact run_enterLoop_outer _ _ _ _ _
  obtain ⟨W1, hW1⟩ : ∃ W1, (w.alloc (.deferred (some []))).alloc (.loop (rec .ready none)) = W1 := ⟨_, rfl⟩
  rw [hW1] at he H
  refine ⟨w.heap.size + 1, [{ target := .collected w.heap.size, args := #[] }], W1, { target := .fn (.func gf) lb, args := #[.func (.yield (w.heap.size + 1)) #[] #[]] }, W1, gf, #[.func (.yield (w.heap.size + 1)) #[] #[]] ++ lb, W1, he, ?_, ?_, ?_, ?_, ?_⟩
  rotate_left 4
  · refine callsIn_wide.2 ?_
    refine H ?_ ?_ ?_ ?_
    · intro W v hW
      have := run_yield (P := P) (args := #[v]) hW (by rw [hrec]; rfl)
      rw [hrec] at this
      simpa using this
    · intro W hW
      have := run_beginRound (P := P) hW (by rw [hrec])
      rw [hrec] at this ⊢
      exact this
    · intro W hW
      have := run_endRound (P := P) none hW
      rw [hrec] at this ⊢
      exact this
    · intro W hW
      have := run_endLoop (P := P) hW (by rw [hrec]; simp)
      rw [hrec] at this ⊢
      exact this
  · simp only [resolve, hg]
    simp [go_sem]
  · exact fun _ _ => trivial
  · simp [invoke, go_sem, eg]
  · exact fun _ => Nat.le_refl _
theorem make_bytes (n : Nat) (hn : n ≤ 1000000) (w : World) : ∃ cs : Array Value, cs.size = n * 1 ∧ (Instr.makeSlice 24 (.int .i64 0) (.int .i64 (n : Int))).run Tryd.prog w = .ok (.slice (some ⟨w.heap.size, 0, none⟩) 0 n) (w.alloc (.cells cs 5)) := by
  obtain ⟨i0, hi, hz0, hz1, hz2⟩ := info_parts Tryd.info5
  have hr := run_make (P := Tryd.prog) w 24 5 i0 (.int .u8 0) Tryd.underlying24 hi hz0 .i64 .i64 (0 : Nat) (n : Nat) (by omega) (by omega) (by rw [hz2]; omega) (by omega)
  simp only [Int.toNat_natCast] at hr
  exact ⟨_, by rw [hz1]; simp [madeCells, Value.cells], hr⟩
theorem bytesW_take (N : List Nat) (k : Nat) (h : k < N.length) : ((N.take (k + 1)).map bytesW).flatten = ((N.take k).map bytesW).flatten ++ bytesW (g' N k) := by
  have e : N.take (k + 1) = N.take k ++ [g' N k] := by
    rw [List.take_add_one, List.getElem?_eq_getElem h]
    unfold g'
    rw [List.getD_eq_getElem?_getD, List.getElem?_eq_getElem h]
    rfl
  rw [e, List.map_append, List.flatten_append]
  simp
theorem bytesW_len (N : List Nat) : ∀ k, k ≤ N.length → ((N.take k).map bytesW).flatten.length = 4 * k
  | 0, _ => rfl
  | k + 1, h => by rw [bytesW_take N k (by omega), List.length_append, bytesW_len N k (by omega)]; simp [bytesW]; omega
/-- between two rounds. -/
structure JS (w W : World) (D b3 : Nat) (rec : LoopState → Option Code → Loop) (flat : List Nat) (k : Nat) : Prop where
  bel : Below w.heap.size w W
  s : W.heap[b3]? = some (.cells ((foldR shaH flat k).map uv).toArray AT8 (0, 0))
  l : W.heap[D + 1]? = some (.loop (rec .ready none))
  d : W.heap[D]? = some (.deferred (some []))
/-- the start lies in block 0. -/
def SK (W : World) : Prop := ∃ t fr, W.heap[0]? = some (.cells (shaH.map uv).toArray t fr)
theorem SK.below {w W : World} {B : Nat} (h : SK w) (hb : Below B w W) (hB : w.heap.size ≤ B) : SK W := by
  obtain ⟨t, fr, h⟩ := h
  exact ⟨t, fr, (hb.block 0 (by have := (Array.getElem?_eq_some_iff.1 h).1; omega)).trans h⟩
abbrev RT22 : TypeId := 22
theorem blocks_any (ad : Option Addr) (n c : Nat) (w : World) :
    Calls Tryd.prog 28 #[.slice ad n c] w fun e w' => e = .returned (.func (.func 42) #[] #[.pointer (some ⟨w.heap.size, 0, none⟩)]) ∧ w' = w.alloc (.cells #[.slice ad n c] RT22) := by
  go_enter Tryd.func28, Tryd.ntmps28
  go_wp2
  go_ret
  exact ⟨rfl, rfl⟩
theorem rowsV_snoc {w : World} {hs : List Hd3} {ls : List (List Nat)} {x : Hd3} {l : List Nat} (h : RowsV w hs ls) (hx : BytesV w x l) : RowsV w (hs ++ [x]) (ls ++ [l]) := by
  refine ⟨by simp [h.1], fun i y m h1 h2 => ?_⟩
  by_cases hi : i < hs.length
  · rw [List.getElem?_append_left hi] at h1
    rw [List.getElem?_append_left (by rw [← h.1]; exact hi)] at h2
    exact h.2 i y m h1 h2
  · rw [List.getElem?_append_right (by omega)] at h1
    rw [List.getElem?_append_right (by rw [← h.1]; omega)] at h2
    rw [← h.1] at h2
    have hi0 : i - hs.length = 0 := by
      have := (List.getElem?_eq_some_iff.1 h1).1
      simp at this
      omega
    rw [hi0] at h1 h2
    simp at h1 h2
    subst h1 h2
    exact hx
theorem BytesV.keptS {w w' : World} {x : Option Addr × Nat × Nat} {l : List Nat} (h : BytesV w x l) (hk : 0 < x.2.1 → ∀ a, x.1 = some a → w'.heap[a.block]? = w.heap[a.block]?) : BytesV w' x l := ⟨h.row.kept' hk, h.bytes, h.small, h.cap, h.nil⟩
theorem endR_len (n : Nat) : (endR n).length ≤ 73 := by
  simp [endR]
  omega
theorem endR_bytes (n : Nat) : Bytes (endR n) := by
  intro x hx
  simp only [endR, List.mem_cons, List.mem_append, List.mem_replicate, List.mem_map] at hx
  rcases hx with rfl | ⟨-, rfl⟩ | ⟨i, -, rfl⟩
  · decide
  · decide
  · exact Nat.mod_lt _ (by decide)
/-- what the loop of Sum starts with. -/
structure SmW (w Wb : World) (b3 pb : Nat) (ca : Option Addr) (cn cc : Nat) (hs : List Hd3) (ls : List (List Nat)) : Prop where
  bel : Below w.heap.size w Wb
  s : Wb.heap[b3]? = some (.cells (shaH.map uv).toArray AT8 (0, 0))
  p : Wb.heap[pb]? = some (.cells #[.slice ca cn cc] RT22 (0, 0))
  le : w.heap.size ≤ b3
  ne : pb ≠ b3
  row : ∀ W2 : World, (∀ k, k < Wb.heap.size → k ≠ b3 → W2.heap[k]? = Wb.heap[k]?) → RowV W2 ca cn (hs.map SV) ∧ RowsV W2 hs ls
  small : cn ≤ 140737488355328
set_option maxRecDepth 100000 in
set_option maxHeartbeats 4000000 in
theorem sum_any (ad : Option Addr) (n c : Nat) (hs : List Hd3) (ls : List (List Nat)) (w : World) (hr : RowV w ad n (hs.map SV)) (hn : n * 24 + 24 ≤ 140737488355328) (hnil : ad = none → c = 0) (hv : RowsV w hs ls) (ht : ls.flatten.length ≤ 140737488355000) (hsk : SK w) (hck : CK w) :
    Calls Tryd.prog 11 #[.slice ad n c] w (GivesBytes 5 w (shaR ls.flatten)) := by
  have HR := Lib.hid hr
  have HV := Lib.hid hv
  have HCK := Lib.hid hck
  obtain ⟨tS, frS, hS0⟩ := hsk
  obtain ⟨A0, hA0⟩ : ∃ A, A = (shaH.map uv).toArray := ⟨_, rfl⟩
  have hA8 : A0.size = 8 := by rw [hA0]; rfl
  have hi8 : (Tryd.prog.info? AT8).map (·.size) = some A0.size := by rw [hA8]; exact infoA8
  have ho0 : A0.all (·.oneCell') = true := by rw [hA0]; exact uv_one _
  rw [← hA0] at hS0
  have HA0 := Lib.hid hA0
  clear hA0 hr hv hck
  refine (callsIn_wide (n := 0)).1 (callsIn_of_wp_marks Tryd.func11 rfl trivial (wpIn_wide.2 ?_))
  simp only [Tryd.ntmps11, List.size_toArray, List.length_cons, List.length_nil, Nat.reduceAdd, Nat.reduceSub, Array.replicate_succ, Array.replicate_zero, List.push_toArray, List.append_toArray, List.nil_append, List.cons_append]
  go_wp2_with (first | (refine wpList_load_row rfl AT8 _ rfl 0 rfl tS A0 frS _ hS0 Tryd.underlying48 rfl hi8 ?_) | (refine wpList_store_row rfl AT8 _ _ rfl w.heap.size A0 rfl rfl AT8 _ (heap_alloc_new w _) hi8 (by rw [hA8]; rfl) ho0 ?_))
  refine (?_ : ∀ W1, (Below w.heap.size w W1 ∧ W1.heap[w.heap.size]? = some (.cells A0 AT8 (0, 0)) ∧ W1.heap.size = w.heap.size + 1) → Calls Tryd.prog _ _ W1 _) _ ⟨below_setRow (below_alloc w _) (Nat.le_refl _) _, setRow_heap _ _ _ _ _ _ (heap_alloc_new w _), by simp⟩
  rintro W1 ⟨hb1, hs1, hz1⟩
  (with_reducible refine (ending_any ad n c hs ls W1 (HR.out.below hb1) (by omega) (HV.out.below hb1) (by omega)).mono ?_)
  rintro e W2 ⟨ea, ec, rfl, hown2, hb2⟩
  obtain ⟨E, hE⟩ : ∃ E, E = endR ls.flatten.length := ⟨_, rfl⟩
  have hEl : E.length ≤ 73 := by rw [hE]; exact endR_len _
  have hEB : Bytes E := by rw [hE]; exact endR_bytes _
  rw [← hE] at hown2 ⊢
  obtain ⟨en, hen⟩ : ∃ z, z = E.length := ⟨_, rfl⟩
  rw [← hen] at hown2 ⊢
  have HE := Lib.hid hE
  have HEN := Lib.hid hen
  have he2 := bytesV_of_owns hown2 hEB (by omega)
  have hb12 := hb1.trans (hb2.mono hb1.size)
  have hs2 : W2.heap[w.heap.size]? = some (.cells A0 AT8 (0, 0)) := (hb2.block _ (by omega)).trans hs1
  have H2 := Lib.hid (And.intro he2 (And.intro hb12 (And.intro hs2 hown2)))
  have hz2 : w.heap.size + 1 ≤ W2.heap.size := by have := hb2.size; omega
  have HZ1 := Lib.hid hz1
  clear hE hen hown2 he2 hb12 hs2 hb1 hb2 hs1 hz1 hS0 hi8 ho0
  go_wp2_with fail
  have B4 : Below W2.heap.size W2 ((W2.alloc (.cells #[.slice ea en ec] 24)).alloc (.cells #[.slice ad n c, .slice (some ⟨W2.heap.size, 0, none⟩) 1 1] RT22)) := (below_alloc _ _).trans ((below_alloc _ _).mono (by simp))
  have r1 : RowV (W2.alloc (.cells #[.slice ea en ec] 24)) (some ⟨W2.heap.size, 0, none⟩) 1 ([(ea, en, ec)].map SV) := rowV_lit _ _ _ _ _ _ rfl rfl rfl
  have r2 : RowV ((W2.alloc (.cells #[.slice ea en ec] 24)).alloc (.cells #[.slice ad n c, .slice (some ⟨W2.heap.size, 0, none⟩) 1 1] RT22)) (some ⟨W2.heap.size + 1, 0, none⟩) 2 ([(ad, n, c), (some ⟨W2.heap.size, 0, none⟩, 1, 1)].map SV) := rowV_lit _ _ _ _ _ _ (by simp) rfl rfl
  have r3 := r1.below (below_alloc _ (.cells #[.slice ad n c, .slice (some ⟨W2.heap.size, 0, none⟩) 1 1] RT22))
  have r4 := (HR.out.below H2.out.2.1).below B4
  have hhs : hs.length = n := by have := HR.out.1; simpa using this
  obtain ⟨W4, hW4⟩ : ∃ W4, W4 = ((W2.alloc (.cells #[.slice ea en ec] 24)).alloc (.cells #[.slice ad n c, .slice (some ⟨W2.heap.size, 0, none⟩) 1 1] RT22)) := ⟨_, rfl⟩
  rw [← hW4] at B4 r2 r3 r4 ⊢
  clear hW4 r1
  have hfl : ([hs, [(ea, en, ec)]] : List (List Hd3)).flatten = hs ++ [(ea, en, ec)] := by simp
  have KC := concat_any (some ⟨W2.heap.size + 1, 0, none⟩) 2 2 [(ad, n, c), (some ⟨W2.heap.size, 0, none⟩, 1, 1)] [hs, [(ea, en, ec)]] W4 r2 (by decide) rfl (fun i x js h1 h2 => by
      match i with
      | 0 => simp at h1 h2; subst h1 h2; exact ⟨r4, hnil⟩
      | 1 => simp at h1 h2; subst h1 h2; exact ⟨r3, fun e => by cases e⟩
      | i + 2 => simp at h1) (by rw [hfl]; simp [hhs]; omega)
  rw [hfl] at KC
  (with_reducible refine KC.mono ?_)
  rintro e W5 ⟨ca, cc, rfl, hown5, hb5⟩
  obtain ⟨cn, hcn⟩ : ∃ z, z = (hs ++ [(ea, en, ec)]).length := ⟨_, rfl⟩
  rw [← hcn] at hown5 ⊢
  have hcn2 : cn = n + 1 := by rw [hcn]; simp [hhs]
  have hz4 : W2.heap.size ≤ W4.heap.size := B4.size
  have hSM : SmW w (W5.alloc (.cells #[.slice ca cn cc] RT22)) w.heap.size W5.heap.size ca cn cc (hs ++ [(ea, en, ec)]) (ls ++ [E]) := by
    have hz5 := hb5.size
    have b25 : Below W2.heap.size W2 W5 := B4.trans (hb5.mono hz4)
    have b05 : Below w.heap.size w W5 := H2.out.2.1.trans (b25.mono H2.out.2.1.size)
    have hA0 := HA0.out
    refine ⟨b05.trans ((below_alloc _ _).mono b05.size), ?_, heap_alloc_new _ _, Nat.le_refl _, by omega, ?_, by omega⟩
    · rw [heap_alloc_old _ _ (by omega), b25.block _ (by omega), ← hA0]; exact H2.out.2.2.1
    · intro V hV
      have hV5 : ∀ k, k < W5.heap.size → k ≠ w.heap.size → V.heap[k]? = W5.heap[k]? := fun k h1 h2 => by rw [hV k (by simp; omega) h2, heap_alloc_old _ _ h1]
      refine ⟨?_, rowsV_snoc ⟨HV.out.1, fun i x l h1 h2 => ?_⟩ ?_⟩
      · obtain ⟨ca', cc', e, hcase, h6, h7, h8⟩ := ownsRow_parts hown5
        simp only [Value.slice.injEq] at e
        obtain ⟨rfl, -, rfl⟩ := e
        refine h8.kept' fun h0 a ha => ?_
        have hlt := h8.lt h0 ha
        rcases hcase with ⟨e, -⟩ | ⟨g, e, hg, -⟩
        · rw [e] at ha; cases ha
        · rw [e] at ha
          injection ha with ha
          subst ha
          exact hV5 _ hlt (by simp only; omega)
      · have hx := HV.out.2 i x l h1 h2
        refine hx.keptS fun h0 a ha => ?_
        have hlt := hx.row.lt h0 ha
        rw [hV5 _ (by omega) (by omega)]
        exact b05.block _ hlt
      · have hx := H2.out.1
        refine hx.keptS fun h0 a ha => ?_
        have hlt := hx.row.lt h0 ha
        simp only at ha
        have hge : w.heap.size < a.block := by
          have hz1 := HZ1.out
          obtain ⟨ea', ec', e, hcase, -⟩ := ownsRow_parts H2.out.2.2.2
          simp only [Value.slice.injEq] at e
          obtain ⟨rfl, -, rfl⟩ := e
          rcases hcase with ⟨e, -⟩ | ⟨g, e, hg, -⟩
          · rw [e] at ha; cases ha
          · rw [e] at ha
            injection ha with ha
            subst ha
            simp only
            omega
        rw [hV5 _ (by omega) (by omega)]
        exact b25.block _ hlt
  have HCN2 := Lib.hid hcn2
  clear hcn2 hcn hfl KC B4 r2 r3 r4 hown5 hb5 hz4
  go_wp2_with fail
  (with_reducible refine (blocks_any ca cn cc W5).mono ?_)
  rintro e Wb ⟨rfl, rfl⟩
  have HSM := Lib.hid hSM
  clear hSM
  go_wp2
  obtain ⟨pb, hpb⟩ : ∃ z, z = W5.heap.size := ⟨_, rfl⟩
  rw [← hpb] at HSM ⊢
  refine (?_ : ∀ Wb, Hid (SmW w Wb w.heap.size pb ca cn cc (hs ++ [(ea, en, ec)]) (ls ++ [E])) → Code.wp Tryd.prog _ _ _ Wb) _ HSM
  clear HSM hpb
  intro Wb HSM
  obtain ⟨FL, hFL⟩ : ∃ z, z = (ls ++ [E]).flatten := ⟨_, rfl⟩
  have HFB : Hid (Bytes FL) := Lib.hid (fun z hz => by
    rw [hFL] at hz
    simp only [List.mem_flatten] at hz
    obtain ⟨li2, hm2, hz3⟩ := hz
    obtain ⟨i2, hi2, he2⟩ := List.getElem_of_mem hm2
    have hrv := (HSM.out.row Wb (fun _ _ _ => rfl)).2
    have hi3 : i2 < (hs ++ [(ea, en, ec)]).length := by rw [hrv.1]; exact hi2
    exact (hrv.2 i2 (hs ++ [(ea, en, ec)])[i2] li2 (List.getElem?_eq_getElem hi3) (by rw [List.getElem?_eq_getElem hi2, he2])).bytes z hz3)
  refine rangeFunc_start rfl (enters_of Tryd.func42 (by kernel_rfl) rfl) ?_
  intro fn rec KY KB KE KL
  obtain ⟨W1, hW1⟩ : ∃ W1, W1 = (Wb.alloc (.deferred (some []))).alloc (.loop (rec .ready none)) := ⟨_, rfl⟩
  have hz : W1.heap.size = Wb.heap.size + 2 := by rw [hW1]; simp
  have hl1 : W1.heap[Wb.heap.size + 1]? = some (.loop (rec .ready none)) := by
    rw [hW1]; have := World.alloc_heap_new (Wb.alloc (.deferred (some []))) (.loop (rec .ready none)); rwa [World.size_alloc] at this
  have hd1 : W1.heap[Wb.heap.size]? = some (.deferred (some [])) := by
    rw [hW1, heap_alloc_old _ _ (by simp)]; exact World.alloc_heap_new Wb _
  have hbb : Below Wb.heap.size Wb W1 := by rw [hW1]; exact (below_alloc Wb _).trans ((below_alloc _ _).mono (by simp))
  have hold : ∀ k, k < Wb.heap.size → W1.heap[k]? = Wb.heap[k]? := hbb.block
  have hwb : w.heap.size ≤ Wb.heap.size := HSM.out.bel.size
  have hsl := (Array.getElem?_eq_some_iff.1 HSM.out.s).1
  have hpl := (Array.getElem?_eq_some_iff.1 HSM.out.p).1
  have hj0 : JS w W1 Wb.heap.size w.heap.size rec FL 0 := ⟨HSM.out.bel.trans (hbb.mono hwb), by rw [hold _ hsl]; exact HSM.out.s, hl1, hd1⟩
  rw [← hW1]
  have HJ0 := Lib.hid hj0
  have HHOLD := Lib.hid hold
  clear hW1 hl1 hd1 hbb hj0 hold
  refine (blocksIt_any (Wb.heap.size + 1) pb cn cc ca (hs ++ [(ea, en, ec)]) (ls ++ [E]) W1 RT22 (fun k W' => JS w W' Wb.heap.size w.heap.size rec FL k) (fun k => k = w.heap.size ∨ k = Wb.heap.size + 1)
    ?hX ?hp ?hpX HSM.out.small ?hkeep ?hJ ?hY HJ0.out).mono ?_
  case hX => rintro k (rfl | rfl) <;> omega
  case hp => rw [HHOLD.out _ hpl]; exact HSM.out.p
  case hpX => rintro (h | h); exact HSM.out.ne h; omega
  case hkeep =>
    intro W2 hk
    refine HSM.out.row W2 (fun k h1 h2 => ?_)
    rw [hk.block k (by omega) (by rintro (h | h); exact h2 h; omega)]
    exact HHOLD.out k h1
  case hJ =>
    rintro k V1 V2 ⟨j1, j2, j3, j4⟩ hb
    exact ⟨j1.trans (hb.mono (by omega)), (hb.block _ (by omega)).trans j2, (hb.block _ (by omega)).trans j3, (hb.block _ (by omega)).trans j4⟩
  case hY =>
    intro k V hk hj hkp
    refine ⟨fn, _, _, _, KY V _ hj.l, roundIn_of_wpIn trivial ?_⟩
    rw [← hFL] at hk ⊢
    clear hFL
    simp only [List.setIfInBounds_toArray, List.set_cons_succ, List.set_cons_zero]
    obtain ⟨A, hA⟩ : ∃ A, A = ((blockS FL k).map bv).toArray := ⟨_, rfl⟩
    obtain ⟨St, hSt⟩ : ∃ A, A = ((foldR shaH FL k).map uv).toArray := ⟨_, rfl⟩
    have hbl : (blockS FL k).length = 64 := by
      unfold blockS
      rw [List.length_take, List.length_drop]
      omega
    have hAs : A.size = 64 := by rw [hA]; simp [hbl]
    have hSs : St.size = 8 := by rw [hSt]; simp [foldR_len]
    have hiA : (Tryd.prog.info? BT64).map (·.size) = some A.size := by rw [hAs]; exact infoB64
    have hiS : (Tryd.prog.info? AT8).map (·.size) = some St.size := by rw [hSs]; exact infoA8
    have hoA : A.all (·.oneCell') = true := by rw [hA]; simp [bv, Value.oneCell']
    have hBB : Bytes (blockS FL k) := fun z hz => HFB.out z (List.mem_of_mem_drop (List.mem_of_mem_take hz))
    have KM := fun w hck => mixed_any (foldR shaH FL k) (blockS FL k) (foldR_words k) (foldR_len k) hBB hbl w hck
    simp only [← hSt, ← hA] at KM
    have hVs := hj.s
    rw [← hSt] at hVs
    rw [← hA]
    have HVS := Lib.hid hVs
    have HJV := Lib.hid hj
    have HHS := Lib.hid hSt
    have hlV := (Array.getElem?_eq_some_iff.1 hj.l).1
    clear hA hSt hVs hj hbl hBB hkp
    gi_wp2_with (first | (refine wpListIn_store_rowS rfl BT64 _ _ rfl V.heap.size A rfl rfl BT64 _ (heap_alloc_new V _) hiA (by rw [hAs]; rfl) hoA ?_))
    have hX1 : w.heap.size ≠ V.heap.size := by omega
    refine ⟨_, KB _ ((_root_.Go.setRow_other _ V.heap.size _ _ (by omega)).trans ((heap_alloc_old V _ (by omega)).trans HJV.out.l)), ?_⟩
    refine (?_ : ∀ Vb, (Below w.heap.size w Vb ∧ Vb.heap[w.heap.size]? = some (.cells St AT8 (0, 0)) ∧ Vb.heap[V.heap.size]? = some (.cells A BT64 (0, 0)) ∧ Vb.heap[Wb.heap.size + 1]? = some (.loop (rec .busy none)) ∧ Vb.heap[Wb.heap.size]? = some (.deferred (some [])) ∧ V.heap.size < Vb.heap.size ∧ KeepX (fun k => k = w.heap.size ∨ k = Wb.heap.size + 1) V Vb) → Code.wpIn _ _ Tryd.prog _ _ _ Vb) _ ⟨below_putObj (below_setRow (HJV.out.bel.trans ((below_alloc V _).mono (by omega))) (by omega) _) (by omega) _,
      (World.putObj_heap_other (by omega)).trans ((_root_.Go.setRow_other _ V.heap.size _ _ (by omega)).trans ((heap_alloc_old V _ (by omega)).trans HVS.out)),
      (World.putObj_heap_other (by omega)).trans (setRow_heap _ _ _ _ _ _ (heap_alloc_new V _)),
      World.putObj_heap_same (by simp; omega),
      (World.putObj_heap_other (by omega)).trans ((_root_.Go.setRow_other _ V.heap.size _ _ (by omega)).trans ((heap_alloc_old V _ (by omega)).trans HJV.out.d)),
      by simp, ⟨rfl, rfl, rfl, by simp, fun k hk hn => (World.putObj_heap_other (fun e => hn (.inr e))).trans ((_root_.Go.setRow_other _ V.heap.size _ _ (by omega)).trans (heap_alloc_old V _ hk))⟩⟩
    rintro Vb ⟨v1, v2, v3, v4, v5, v6, v7⟩
    have KMv := KM Vb (HCK.out.below v1 (Nat.le_refl _))
    have HV1 := Lib.hid (And.intro v1 (And.intro v4 (And.intro v5 v7)))
    clear KM v1 v4 v5 v7
    gi_wp2_with (first | (refine wpListIn_load_rowS rfl AT8 _ rfl w.heap.size rfl AT8 St (0, 0) _ v2 Tryd.underlying48 rfl hiS ?_) | (refine wpListIn_load_rowS rfl BT64 _ rfl V.heap.size rfl BT64 A (0, 0) _ v3 Tryd.underlying54 rfl hiA ?_))
    refine ⟨trivial, rfl, (CallsIn.inRound _ (callsIn_wide.2 KMv)).mono ?_⟩
    rintro e Vc ⟨rfl, hbc⟩
    have hsb := (Array.getElem?_eq_some_iff.1 v2).1
    have hc2 : Vc.heap[w.heap.size]? = some (.cells St AT8 (0, 0)) := (hbc.block _ hsb).trans v2
    obtain ⟨S2, hS2⟩ : ∃ A, A = ((mixR (foldR shaH FL k) (blockS FL k)).map uv).toArray := ⟨_, rfl⟩
    rw [← hS2]
    have h2s : S2.size = 8 := by rw [hS2]; simp [mixR_len]
    have hi2 : (Tryd.prog.info? AT8).map (·.size) = some S2.size := by rw [h2s]; exact infoA8
    have ho2 : S2.all (·.oneCell') = true := by rw [hS2]; exact uv_one _
    have hs2 : St.size = S2.size := by rw [hSs, h2s]
    have HS2 := Lib.hid hS2
    clear KMv hS2
    gi_wp2_with (first | (refine wpListIn_store_rowS rfl AT8 _ _ rfl w.heap.size S2 rfl rfl AT8 _ hc2 hi2 hs2 ho2 ?_))
    have hcz := hbc.size
    have hVb := HV1.out.2.2.2.size
    have hl4 : (Vc.setRow w.heap.size S2).heap[Wb.heap.size + 1]? = some (.loop (rec .busy none)) := (_root_.Go.setRow_other _ w.heap.size _ _ (by omega)).trans ((hbc.block _ (by omega)).trans HV1.out.2.1)
    refine ⟨_, _, KE _ hl4, rfl, ⟨?_, ?_, ?_, ?_⟩, ?_⟩
    · exact below_putObj (below_setRow (HV1.out.1.trans (hbc.mono HV1.out.1.size)) (Nat.le_refl _) _) (by omega) _
    · rw [World.putObj_heap_other (by omega)]
      have : (Vc.setRow w.heap.size S2).heap[w.heap.size]? = some (.cells S2 AT8 (0, 0)) := setRow_heap _ _ _ _ _ _ hc2
      rw [HS2.out] at this ⊢
      exact this
    · exact World.putObj_heap_same (Array.getElem?_eq_some_iff.1 hl4).1
    · exact (World.putObj_heap_other (by omega)).trans ((_root_.Go.setRow_other _ w.heap.size _ _ (by omega)).trans ((hbc.block _ (by omega)).trans HV1.out.2.2.1))
    · refine HV1.out.2.2.2.trans ⟨hbc.os, hbc.tape, hbc.output, by simpa using hcz, fun j hj hn => ?_⟩
      rw [World.putObj_heap_other (fun e => hn (.inr e)), _root_.Go.setRow_other _ w.heap.size _ _ (fun e => hn (.inl e))]
      exact hbc.block j hj
  rintro e V ⟨⟨v, rfl⟩, hj, hkp⟩
  refine ⟨none, _, KL V hj.l, ?_⟩
  simp only []
  have hD1 := (Array.getElem?_eq_some_iff.1 hj.d).1
  refine (?_ : ∀ V2, (Below w.heap.size w V2 ∧ V2.heap[w.heap.size]? = some (.cells ((foldR shaH FL ((ls ++ [E]).flatten.length / 64)).map uv).toArray AT8 (0, 0)) ∧ V2.heap[Wb.heap.size]? = some (.deferred (some []))) → Exit.inBlock 0 _ _ _ V2) _ ⟨below_putObj hj.bel (by omega) _, (World.putObj_heap_other (by omega)).trans hj.s, (World.putObj_heap_other (by omega)).trans hj.d⟩
  rintro V2 ⟨x1, x2, x3⟩
  rw [← hFL] at x2
  have hsh : shaR ls.flatten = ((foldR shaH FL (FL.length / 64)).map bytesW).flatten := by
    have e1 : FL = padR ls.flatten := by rw [hFL, List.flatten_append, HE.out]; simp [padR]
    rw [e1]
    rfl
  obtain ⟨N, hN⟩ : ∃ N, N = foldR shaH FL (FL.length / 64) := ⟨_, rfl⟩
  rw [← hN] at x2 hsh
  have hNl : N.length = 8 := by rw [hN]; exact foldR_len _
  have hNW : Words N := by rw [hN]; exact foldR_words _
  obtain ⟨AN, hAN⟩ : ∃ A, A = (N.map uv).toArray := ⟨_, rfl⟩
  rw [← hAN] at x2
  have hANs : AN.size = 8 := by rw [hAN]; simp [hNl]
  have hiN : (Tryd.prog.info? AT8).map (·.size) = some AN.size := by rw [hANs]; exact infoA8
  have HSH := Lib.hid hsh
  have HAN := Lib.hid hAN
  have HX1 := Lib.hid (And.intro x1 x3)
  clear hsh hN hAN hFL hj hkp KY KB KE KL x1 x3
  obtain ⟨cs, hcs, hmk0⟩ := make_bytes 32 (by decide) V2
  have hmk : (Instr.makeSlice 24 (.int .i64 0) (.int .i64 32)).run Tryd.prog V2 = .ok (.slice (some ⟨V2.heap.size, 0, none⟩) 0 32) (V2.alloc (.cells cs 5)) := hmk0
  clear hmk0
  have hown0 := World.ownsRow_made (base := V2.heap.size) (e := 5) (size := 1) V2 cs 32 (Nat.le_refl _) (by simp [maxLen]) hcs
  have hb0 := below_alloc V2 (.cells cs 5)
  have x3 : (V2.alloc (.cells cs 5)).heap[w.heap.size]? = some (.cells AN AT8 (0, 0)) := (heap_alloc_old _ _ (Array.getElem?_eq_some_iff.1 x2).1).trans x2
  obtain ⟨i0, hi, hz0, hz1, hz2⟩ := info_parts Tryd.info5
  go_wp2_with (first | (refine wpList_load_row rfl AT8 _ rfl w.heap.size rfl AT8 AN (0, 0) _ x3 Tryd.underlying48 rfl hiN ?_))
  clear hmk x2 x3
  go_loopw [5, 22] (fun u i wr => ∃ (k : Nat) (a : Option Addr) (c : Nat), k ≤ 8 ∧ i = .int .i64 k ∧ u = .slice a (4 * k) c ∧ wr.ownsRow V2.heap.size 5 1 (.slice a (4 * k) c) (4 * k) (((N.take k).map bytesW).flatten.map bv) ∧ Below V2.heap.size V2 wr) (fun _ i _ => 8 - (intOf i).toNat)
  case atStart => exact ⟨0, _, _, Nat.zero_le _, rfl, rfl, hown0, hb0⟩
  case round =>
    clear hown0 hb0
    obtain ⟨k, a, c', hk, rfl, rfl, hown, hb⟩ := hrel
    have hbs := hb.size
    by_cases hlt : k < 8
    · obtain ⟨x, hx⟩ : ∃ x, x = g' N k := ⟨_, rfl⟩
      have hx32 : x < 4294967296 := by rw [hx]; exact hNW.g' k
      have hix := fun w => index_8 AN k (.int .u32 (x : Nat)) (by rw [HAN.out, hx]; exact uv_at (by rw [hNl]; exact hlt)) hlt w
      have HX := Lib.hid hx
      clear hx
      go_wp2_with (first | (at_builtin; refine Hid.out ?_))
      refine Lib.hid ?_
      have q0 : (x : Int) / 16777216 = ((x / 16777216 % 256 : Nat) : Int) := by omega
      have q1 : (x : Int) / 65536 % 256 = ((x / 65536 % 256 : Nat) : Int) := by omega
      have q2 : (x : Int) / 256 % 256 = ((x / 256 % 256 : Nat) : Int) := by omega
      have q3 : (x : Int) % 256 = ((x % 256 : Nat) : Int) := by omega
      rw [q0, q1, q2, q3]
      clear q0 q1 q2 q3
      refine wpList_append_row rfl (.tmp 25) (.tmp 37) 24 rfl V2.heap.size 5 i0 (.int .u8 0) 1 Tryd.underlying24 hi hz0 hz1 hz2 rfl _ _ _ rfl (hown.alloc _) (some ⟨wr.heap.size, 0, Option.none⟩) 4 4 ((bytesW x).map bv) rfl (rowV_lit _ _ _ _ _ _ rfl rfl rfl) (by intro h; cases h) (bv_one (bytesW x)) (by simp [maxLen]; omega) (by omega) (by simp; omega) ?_
      intro v' w3 hown3 hgrow3 _
      have hb3 := grow_step hb _ hown hgrow3
      clear hgrow3
      obtain ⟨a3, c3, rfl, -⟩ := ownsRow_parts hown3
      go_wp2
      go_roundw
      case rel =>
        refine ⟨k + 1, a3, c3, by omega, by go_num, by rw [Nat.mul_add], ?_, hb3⟩
        rw [bytesW_take N k (by rw [hNl]; exact hlt), List.map_append, ← HX.out, Nat.mul_add]
        exact hown3
      case measure => simp [intOf] <;> omega
    · obtain rfl : k = 8 := by omega
      have hK : wr.heap[Wb.heap.size]? = some (.deferred (some [])) := (hb.block _ (Array.getElem?_eq_some_iff.1 HX1.out.2).1).trans HX1.out.2
      have HKK := Lib.hid hK
      clear hK
      have hNt : N.take 8 = N := List.take_of_length_le (by rw [hNl]; exact Nat.le_refl _)
      rw [hNt, ← HSH.out] at hown
      have hsl : (shaR ls.flatten).length = 4 * 8 := by
        rw [HSH.out]
        have := bytesW_len N 8 (by rw [hNl]; exact Nat.le_refl _)
        rw [hNt] at this
        exact this
      have HSL := Lib.hid hsl
      have HOWN := Lib.hid hown
      clear hNt hsl hown
      go_wp2
      refine ⟨by simp, .inl ⟨_, _, rfl, run_takeDeferred HKK.out, _, results_tmp rfl _ _ _, a, c', ?_, ?_, ?_⟩⟩
      · rw [HSL.out]; rfl
      · rw [HSL.out]
        exact ownsRow_putObj (ownsRow_base HOWN.out HX1.out.1.size) _ HKK.out rfl
      · have h1 := HX1.out.1.size
        have h2 := (Array.getElem?_eq_some_iff.1 HX1.out.2).1
        exact below_putObj (HX1.out.1.trans (hb.mono h1)) hwb _
end Go.Proofs.YthofndobmiamjaaDoor
