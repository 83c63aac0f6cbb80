/-
  How a slice of the calls of a disk that came in is read: three ints, a slice of bytes, a fate (an int, a bool, a slice of ints).
-/
import Derived.Deep.Slices
import Derived.Deep.Matrix
import Derived.Test.YtdidalcflkphnaaMBase
import Derived.Test.YtdidalcflkphnaaMLawR
namespace Go.Proofs.Ytdidalcflkphnaa
open Go.ChangeShapes Go.WideShapes Go.ChangeAt Go.RowKit Go.Deep

/-- one call. -/
structure OpR where
  what : Int
  n : Int
  m : Int
  bh : Option Addr × Nat × Nat
  b : List Nat
  keep : Int
  reset : Bool
  fh : Option Addr × Nat × Nat
  f : List Int
def noOp : OpR := ⟨0, 0, 0, (none, 0, 0), [], 0, false, (none, 0, 0), []⟩
structure OpAt (w : World) (b o : Nat) (x : OpR) : Prop where
  c0 : w.cell? ⟨b, o, none⟩ = some (.int .i64 x.what)
  c1 : w.cell? ⟨b, o + 1, none⟩ = some (.int .i64 x.n)
  c2 : w.cell? ⟨b, o + 2, none⟩ = some (.int .i64 x.m)
  c3 : w.cell? ⟨b, o + 3, none⟩ = some (.slice x.bh.1 x.bh.2.1 x.bh.2.2)
  c4 : w.cell? ⟨b, o + 4, none⟩ = some (.int .i64 x.keep)
  c5 : w.cell? ⟨b, o + 5, none⟩ = some (.bool x.reset)
  c6 : w.cell? ⟨b, o + 6, none⟩ = some (.slice x.fh.1 x.fh.2.1 x.fh.2.2)
  by_ : BytesV w x.bh x.b
  is : IntsV w x.fh x.f
  wn : (Lit.int .i64 x.n).wf = true
  wm : (Lit.int .i64 x.m).wf = true
  wk : (Lit.int .i64 x.keep).wf = true
  wf : ∀ z ∈ x.f, (Lit.int .i64 z).wf = true
  fs : x.fh.2.1 * 8 ≤ 140737488351232
/-- the calls. -/
structure CallsV (w : World) (ad : Option Addr) (n c : Nat) (O : Nat → OpR) : Prop where
  small : n ≤ maxLen
  cap : n ≤ c
  capm : c ≤ maxLen
  row : 0 < n → ∃ b o, ad = some ⟨b, o, none⟩ ∧ b < w.heap.size ∧ ∀ i, i < n → OpAt w b (o + i * 7) (O i)
theorem OpAt.below {w w' : World} {b o : Nat} {x : OpR} (h : OpAt w b o x) (hlt : b < w.heap.size) (hb : Below w.heap.size w w') : OpAt w' b o x :=
  ⟨(hb.cell hlt).trans h.c0, (hb.cell hlt).trans h.c1, (hb.cell hlt).trans h.c2, (hb.cell hlt).trans h.c3, (hb.cell hlt).trans h.c4, (hb.cell hlt).trans h.c5, (hb.cell hlt).trans h.c6, h.by_.below hb, h.is.below hb, h.wn, h.wm, h.wk, h.wf, h.fs⟩
theorem CallsV.below {w w' : World} {ad : Option Addr} {n c : Nat} {O : Nat → OpR} (h : CallsV w ad n c O) (hb : Below w.heap.size w w') : CallsV w' ad n c O :=
  ⟨h.small, h.cap, h.capm, fun h0 => by
    obtain ⟨b, o, e, hlt, hc⟩ := h.row h0
    exact ⟨b, o, e, Nat.lt_of_lt_of_le hlt hb.size, fun i hi => (hc i hi).below hlt hb⟩⟩
theorem CallsV.cut {w : World} {ad : Option Addr} {n c : Nat} {O : Nat → OpR} (h : CallsV w ad n c O) {m : Nat} (hm : m ≤ n) : CallsV w ad m c O :=
  ⟨Nat.le_trans hm h.small, Nat.le_trans hm h.cap, h.capm, fun h0 => by
    obtain ⟨b, o, e, hlt, hc⟩ := h.row (by omega)
    exact ⟨b, o, e, hlt, fun i hi => hc i (by omega)⟩⟩

theorem cell_lt3 {w : World} {a : Addr} {v : Value} (h : w.cell? a = some v) : a.block < w.heap.size := by
  unfold World.cell? at h
  by_cases hlt : a.block < w.heap.size
  · exact hlt
  · rw [Array.getElem?_eq_none (by omega)] at h
    simp at h

section
variable {H : Type} {enc : TypeId × Value → H}
theorem bulk_one {H : Type} (d : DataW H) : 1 ≤ Rows.uptoBulk d := by
  cases d with
  | lit l => cases l <;> simp [Rows.uptoBulk]
  | nil => simp [Rows.uptoBulk]
  | ptr d => simp [Rows.uptoBulk]
  | slice elems spare => simp [Rows.uptoBulk]
  | agg parts => simp [Rows.uptoBulk]
  | iface t d => simp [Rows.uptoBulk]
  | map entries => simp [Rows.uptoBulk]
  | held h => simp [Rows.uptoBulk]
theorem bulk_part {H : Type} {d : DataW H} {l : List (DataW H)} (h : d ∈ l) : Rows.uptoBulk d ≤ Rows.uptoBulkAll l := by
  induction l with
  | nil => cases h
  | cons x r ih =>
    simp only [Rows.uptoBulkAll]
    cases List.mem_cons.1 h with
    | inl e => subst e; omega
    | inr e => have := ih e; omega
theorem bulk_length {H : Type} (l : List (DataW H)) : l.length ≤ Rows.uptoBulkAll l := by
  induction l with
  | nil => simp [Rows.uptoBulkAll]
  | cons x r ih => have := bulk_one x; simp only [Rows.uptoBulkAll, List.length_cons]; omega
theorem bytes_cells {P : Program} {W : World} {t e : TypeId} {v : Value} {y : DataW H × List MemPlace} {n : Nat} (ht : P.underlying t = some (.slice e)) (he : P.underlying e = some (.int .u8)) (hc : P.cellsOf e = 1) (hby : P.bytesOf e = 1)
    (hf : DataW.trod enc P W 0 (fun _ => true) true n t [v] = some y) (hw : ∀ n ∈ y.1.weights P t, n ≤ reachBytes) :
    ∃ ad n c l, v = .slice ad n c ∧ BytesV W (ad, n, c) l ∧ l.length ≤ Rows.uptoBulk y.1 := by
  rcases open_ints ht he hc hf with ⟨hcs, _⟩ | ⟨x, l, c, zs, hcs, _, hl, hm, hz, hx, hcell, hwz⟩
  · exact ⟨none, 0, 0, [], (List.cons.inj hcs).1, bytesV_nil _, Nat.zero_le _⟩
  · simp only [if_true] at hz
    subst hx
    have hcap : c ≤ 140737488351232 := by
      have := hw ((lits (H := H) .u8 (zs.take l)).length + (lits (H := H) .u8 (zs.drop l)).length) (by simp [DataW.weights, ht, hby, lits])
      simp [lits, reachBytes] at this
      omega
    refine ⟨_, _, _, _, (List.cons.inj hcs).1, bytesV_of_cells hl hz (fun i hi => hcell i (by omega)) hwz (by omega), ?_⟩
    have h1 := bulk_length (H := H) (lits .u8 (zs.take l))
    simp only [Rows.uptoBulk]
    simp [lits] at h1 ⊢
    omega
theorem ints_cells {P : Program} {W : World} {t e : TypeId} {v : Value} {y : DataW H × List MemPlace} {n : Nat} (ht : P.underlying t = some (.slice e)) (he : P.underlying e = some (.int .i64)) (hc : P.cellsOf e = 1) (hby : P.bytesOf e = 8)
    (hf : DataW.trod enc P W 0 (fun _ => true) true n t [v] = some y) (hw : ∀ n ∈ y.1.weights P t, n ≤ reachBytes) :
    ∃ ad n c l, v = .slice ad n c ∧ IntsV W (ad, n, c) l ∧ n * 8 ≤ 140737488351232 ∧ ∀ z ∈ l, (Lit.int .i64 z).wf = true := by
  rcases open_ints ht he hc hf with ⟨hcs, _⟩ | ⟨x, l, c, zs, hcs, _, hl, hm, hz, hx, hcell, hwz⟩
  · exact ⟨none, 0, 0, [], (List.cons.inj hcs).1, intsV_nil _, by omega, fun z hz => by cases hz⟩
  · simp only [if_true] at hz
    subst hx
    have hcap : c * 8 ≤ 140737488351232 := by
      have := hw (((lits (H := H) .i64 (zs.take l)).length + (lits (H := H) .i64 (zs.drop l)).length) * 8) (by simp [DataW.weights, ht, hby, lits])
      simp [lits, reachBytes] at this
      omega
    exact ⟨_, _, _, _, (List.cons.inj hcs).1, intsV_of_cells hl hz (fun i hi => hcell i (by omega)) (by omega), by omega, fun z hz => hwz z (List.mem_of_mem_take hz)⟩
theorem openCalls {P : Program} {W : World} {base : Nat} {r : Reach} {t e q z : TypeId} {f0 f1 f2 f3 f4 g0 g1 g2 : Field} {v : Value} {d : DataW H} {p : List MemPlace} (ht : P.underlying t = some (.slice e)) (he : P.underlying e = some (.struct #[f0, f1, f2, f3, f4]))
    (ce : P.cellsOf e = 7) (o0 : f0.offset = 0) (o1 : f1.offset = 1) (o2 : f2.offset = 2) (o3 : f3.offset = 3) (o4 : f4.offset = 4) (k0 : P.cellsOf f0.type = 1) (k1 : P.cellsOf f1.type = 1) (k2 : P.cellsOf f2.type = 1) (k3 : P.cellsOf f3.type = 1) (k4 : P.cellsOf f4.type = 3)
    (u0 : P.underlying f0.type = some (.int .i64)) (u1 : P.underlying f1.type = some (.int .i64)) (u2 : P.underlying f2.type = some (.int .i64)) (u3 : P.underlying f3.type = some (.slice q)) (uq : P.underlying q = some (.int .u8)) (cq : P.cellsOf q = 1) (bq : P.bytesOf q = 1)
    (u4 : P.underlying f4.type = some (.struct #[g0, g1, g2])) (p0 : g0.offset = 0) (p1 : g1.offset = 1) (p2 : g2.offset = 2) (l0 : P.cellsOf g0.type = 1) (l1 : P.cellsOf g1.type = 1) (l2 : P.cellsOf g2.type = 1)
    (v0 : P.underlying g0.type = some (.int .i64)) (v1 : P.underlying g1.type = some .bool) (v2 : P.underlying g2.type = some (.slice z)) (uz : P.underlying z = some (.int .i64)) (cz : P.cellsOf z = 1) (bz : P.bytesOf z = 8)
    (hok : Value.okWide P W r base t v) (h : DataW.Trod enc P W 0 (fun _ => true) true t v d p) (hw : ∀ n ∈ d.weights P t, n ≤ reachBytes) :
    ∃ ad n c O, v = .slice ad n c ∧ CallsV W ad n c O ∧ ∀ i, i < n → (O i).b.length ≤ Rows.uptoBulk d := by
  obtain ⟨a0, len0, cap0, rfl⟩ := okWide_slice ht hok
  obtain ⟨fuel, hf⟩ := h
  rcases open_slice ht hf with ⟨hcs, _⟩ | ⟨a, len, cap, m, n, D, Pl, hcs, hb, hl, hm, hmm, hxx, hx⟩
  · simp [Value.cells] at hcs
    obtain ⟨rfl, rfl, rfl⟩ := hcs
    exact ⟨none, 0, 0, fun _ => noOp, rfl, ⟨by unfold maxLen; omega, Nat.le_refl _, by unfold maxLen; omega, fun h => absurd h (by omega)⟩, fun i hi => absurd hi (by omega)⟩
  · simp [Value.cells] at hcs
    obtain ⟨rfl, rfl, rfl⟩ := hcs
    simp only [if_true] at hmm
    subst hmm
    simp only [Prod.mk.injEq] at hxx
    have each : ∀ i, ∃ g : OpR, i < len0 → (W.cell? (a.add (i * 7)) = some (.int .i64 g.what) ∧ W.cell? (a.add (i * 7 + 1)) = some (.int .i64 g.n) ∧ W.cell? (a.add (i * 7 + 2)) = some (.int .i64 g.m) ∧ W.cell? (a.add (i * 7 + 3)) = some (.slice g.bh.1 g.bh.2.1 g.bh.2.2) ∧ W.cell? (a.add (i * 7 + 4)) = some (.int .i64 g.keep) ∧ W.cell? (a.add (i * 7 + 5)) = some (.bool g.reset) ∧ W.cell? (a.add (i * 7 + 6)) = some (.slice g.fh.1 g.fh.2.1 g.fh.2.2)) ∧ BytesV W g.bh g.b ∧ IntsV W g.fh g.f ∧ (Lit.int .i64 g.n).wf = true ∧ (Lit.int .i64 g.m).wf = true ∧ (Lit.int .i64 g.keep).wf = true ∧ (∀ z ∈ g.f, (Lit.int .i64 z).wf = true) ∧ g.fh.2.1 * 8 ≤ 140737488351232 ∧ g.b.length ≤ Rows.uptoBulk d := by
      intro i
      by_cases hi : i < len0
      · obtain ⟨cs', h1, h2⟩ := hx i (by omega)
        rw [ce] at h1
        obtain ⟨_, hlen, hcell⟩ := World.cells?_some h1
        obtain ⟨xs, k, hk, hxy, _, hxl, hf⟩ := DataW.trod_struct he h2
        match xs, hxl, cs', hlen with
        | [y0, y1, y2, y3, y4], _, [c0, c1, c2, c3, c4, c5, c6], _ =>
          have g0' := hf 0 f0 rfl
          have g1' := hf 1 f1 rfl
          have g2' := hf 2 f2 rfl
          have g3' := hf 3 f3 rfl
          have g4' := hf 4 f4 rfl
          simp [o0, o1, o2, o3, o4, k0, k1, k2, k3, k4] at g0' g1' g2' g3' g4'
          obtain ⟨xs2, k', hk', hxy2, _, hxl2, hf2⟩ := DataW.trod_struct u4 g4'
          match xs2, hxl2 with
          | [w0, w1, w2], _ =>
          have h0' := hf2 0 g0 rfl
          have h1' := hf2 1 g1 rfl
          have h2' := hf2 2 g2 rfl
          simp [p0, p1, p2, l0, l1, l2] at h0' h1' h2'
          have e0 := hcell 0 (by omega)
          have e1 := hcell 1 (by omega)
          have e2 := hcell 2 (by omega)
          have e3 := hcell 3 (by omega)
          have e4 := hcell 4 (by omega)
          have e5 := hcell 5 (by omega)
          have e6 := hcell 6 (by omega)
          rw [add_add] at e0 e1 e2 e3 e4 e5 e6
          simp only [Prod.mk.injEq] at hxy hxy2
          have hwi : ∀ n ∈ (D i).weights P e, n ≤ reachBytes := fun x hx => hw x (by
            rw [hxx.1]
            simp only [DataW.weights, ht, List.mem_cons, List.mem_append]
            right; left
            exact weightsAll_mem (d := D i) (List.mem_map.2 ⟨i, by simpa using hi, rfl⟩) _ hx)
          rw [hxy.1] at hwi
          have hw3 : ∀ n ∈ y3.1.weights P f3.type, n ≤ reachBytes := fun x hx => hwi x (by
            simp only [DataW.weights, he]
            simp [DataW.weightsEach, hx])
          have hw4 : ∀ n ∈ y4.1.weights P f4.type, n ≤ reachBytes := fun x hx => hwi x (by
            simp only [DataW.weights, he]
            simp [DataW.weightsEach, hx])
          rw [hxy2] at hw4
          have hw5 : ∀ n ∈ w2.1.weights P g2.type, n ≤ reachBytes := fun x hx => hw4 x (by
            simp only [DataW.weights, u4]
            simp [DataW.weightsEach, hx])
          obtain ⟨z0, hz0, _, _⟩ := DataW.trod_int u0 g0'
          obtain ⟨z1, hz1, _, wf1⟩ := DataW.trod_int u1 g1'
          obtain ⟨z2, hz2, _, wf2⟩ := DataW.trod_int u2 g2'
          obtain ⟨b1, b2, b3, l, hv3, hBV, hbulk⟩ := bytes_cells u3 uq cq bq g3' hw3
          obtain ⟨z4, hz4, _, wf4⟩ := DataW.trod_int v0 h0'
          obtain ⟨z5, hz5, _⟩ := DataW.trod_bool v1 h1'
          obtain ⟨i1, i2, i3, li, hv6, hIV, hi8, hwi6⟩ := ints_cells v2 uz cz bz h2' hw5
          obtain ⟨rfl⟩ := (List.cons.inj hz0).1
          obtain ⟨rfl⟩ := (List.cons.inj hz1).1
          obtain ⟨rfl⟩ := (List.cons.inj hz2).1
          obtain ⟨rfl⟩ := (List.cons.inj hz4).1
          obtain ⟨rfl⟩ := (List.cons.inj hz5).1
          subst hv3 hv6
          exact ⟨⟨z0, z1, z2, (b1, b2, b3), l, z4, z5, (i1, i2, i3), li⟩, fun _ => ⟨⟨by simpa using e0, by simpa using e1, by simpa using e2, by simpa using e3, by simpa using e4, by simpa using e5, by simpa using e6⟩, hBV, hIV, wf1, wf2, wf4, hwi6, hi8, by
            have k1 : Rows.uptoBulk (D i) ≤ Rows.uptoBulk d := by
              rw [hxx.1]
              simp only [Rows.uptoBulk]
              have := bulk_part (d := D i) (l := (List.range len0).map D) (List.mem_map.2 ⟨i, by simpa using hi, rfl⟩)
              omega
            have k2 : Rows.uptoBulk y3.1 ≤ Rows.uptoBulk (D i) := by
              rw [hxy.1]
              simp only [Rows.uptoBulk]
              have := bulk_part (d := y3.1) (l := [y0, y1, y2, y3, y4].map (fun x => x.1)) (by simp)
              omega
            exact Nat.le_trans hbulk (Nat.le_trans k2 k1)⟩⟩
      · exact ⟨noOp, fun h => absurd h hi⟩
    obtain ⟨g, hg⟩ := Classical.axiomOfChoice each
    refine ⟨some a, _, _, g, rfl, ⟨by omega, hl, hm, fun h0 => ?_⟩, fun i hi => (hg i hi).2.2.2.2.2.2.2.2⟩
    have hx0 := addr_plain (hg 0 (by omega)).1.1
    have hx1 : a = ⟨a.block, a.off, none⟩ := by simpa using hx0
    refine ⟨a.block, a.off, by rw [← hx1], ?_, fun i hi => ?_⟩
    · have hc := (hg 0 (by omega)).1.1
      rw [hx1, addr_add] at hc
      exact cell_lt3 (a := ⟨a.block, a.off + 0 * 7, none⟩) hc
    · obtain ⟨⟨c0, c1, c2, c3, c4, c5, c6⟩, c7, c8, c9, c10, c11, c12, c13, -⟩ := hg i hi
      rw [hx1, addr_add] at c0 c1 c2 c3 c4 c5 c6
      exact ⟨c0, c1, c2, c3, c4, c5, c6, c7, c8, c9, c10, c11, c12, c13⟩
theorem array3D {α : Type} {cs : Array α} (h : cs.size = 3) : ∃ c0 c1 c2, cs = #[c0, c1, c2] := by
  obtain ⟨l⟩ := cs
  match l, h with
  | [c0, c1, c2], _ => exact ⟨c0, c1, c2, rfl⟩
/-- a fate by value. -/
theorem openFate {P : Program} {W : World} {base : Nat} {r : Reach} {t z : TypeId} {g0 g1 g2 : Field} {v : Value} {d : DataW H} {p : List MemPlace} (u4 : P.underlying t = some (.struct #[g0, g1, g2])) (ce : P.cellsOf t = 3) (p0 : g0.offset = 0) (p1 : g1.offset = 1) (p2 : g2.offset = 2) (l0 : P.cellsOf g0.type = 1) (l1 : P.cellsOf g1.type = 1) (l2 : P.cellsOf g2.type = 1)
    (v0 : P.underlying g0.type = some (.int .i64)) (v1 : P.underlying g1.type = some .bool) (v2 : P.underlying g2.type = some (.slice z)) (uz : P.underlying z = some (.int .i64)) (cz : P.cellsOf z = 1) (bz : P.bytesOf z = 8)
    (hok : Value.okWide P W r base t v) (h : DataW.Trod enc P W 0 (fun _ => true) true t v d p) (hw : ∀ n ∈ d.weights P t, n ≤ reachBytes) :
    ∃ (keep : Int) (reset : Bool) (fa : Option Addr) (fn fc : Nat) (f : List Int), v = .agg #[.int .i64 keep, .bool reset, .slice fa fn fc] ∧ IntsV W (fa, fn, fc) f ∧ fn * 8 ≤ 140737488351232 ∧ (∀ z ∈ f, (Lit.int .i64 z).wf = true) ∧ (Lit.int .i64 keep).wf = true := by
  obtain ⟨cs, rfl, hsz⟩ := okWide_struct u4 hok
  obtain ⟨c0, c1, c2, rfl⟩ := array3D (hsz.trans ce)
  obtain ⟨fuel, hf⟩ := h
  obtain ⟨xs, n, _, hx, hl, hlen, hf⟩ := DataW.trod_struct u4 hf
  match xs, hlen with
  | [w0, w1, w2], _ =>
    have h0' := hf 0 g0 rfl
    have h1' := hf 1 g1 rfl
    have h2' := hf 2 g2 rfl
    simp [Value.cells, p0, p1, p2, l0, l1, l2] at h0' h1' h2'
    simp only [Prod.mk.injEq] at hx
    rw [hx.1] at hw
    have hw5 : ∀ n ∈ w2.1.weights P g2.type, n ≤ reachBytes := fun x hx => hw x (by
      simp only [DataW.weights, u4]
      simp [DataW.weightsEach, hx])
    obtain ⟨z4, hz4, _, wf4⟩ := DataW.trod_int v0 h0'
    obtain ⟨z5, hz5, _⟩ := DataW.trod_bool v1 h1'
    obtain ⟨i1, i2, i3, li, hv6, hIV, hi8, hwi6⟩ := ints_cells v2 uz cz bz h2' hw5
    obtain ⟨rfl⟩ := (List.cons.inj hz4).1
    obtain ⟨rfl⟩ := (List.cons.inj hz5).1
    subst hv6
    exact ⟨z4, z5, i1, i2, i3, li, rfl, hIV, hi8, hwi6, wf4⟩
end
end Go.Proofs.Ytdidalcflkphnaa
