/-
  The frame of a law's proof: whatever its parameters, out of a walk that returns true and writes nothing that was there; and how slices that came in are read.
-/
import Derived.Test.YtnefcbcioemfiaaRows
import Derived.Test.YtnefcbcioemfiaaMem
import Derived.ProofKit
import Derived.OpenShut
import Derived.ShutString
import Derived.ChangeOld
import Derived.Below
import Derived.Carry
import Derived.SizedLaws
import Derived.Deep.Matrix
namespace Go.Proofs.Ytnefcbcioemfiaa
open Go.ChangeShapes Go.WideShapes Go.ChangeAt Go.RowKit
open Go.ChangeMaps (open_string shut_string)

section
variable {H : Type} {enc : TypeId × Value → H}

theorem trodAll_stays {P : Program} (hl : laidOutB P = true) {W W' : World} (hb : Below W.heap.size W W') : ∀ {ts : List TypeId} {vs : List Value} {ds : List (DataW H)} {ps : List MemPlace},
    ts.all (fun t => P.readableRec t && decide (t < P.types.size)) = true → DataW.TrodAll enc P W 0 (fun _ => true) true ts vs ds ps → DataW.TrodAll enc P W' 0 (fun b => decide (b < W.heap.size)) true ts vs ds ps
  | [], vs, ds, ps, _, h => by
    obtain ⟨rfl, rfl, rfl⟩ := trodAll_nil h
    exact trodAll_mk0
  | t :: ts, vs, ds, ps, hr, h => by
    obtain ⟨v, vs', d, ds', p, q, rfl, rfl, rfl, h0, r0⟩ := trodAll_cons h
    simp only [List.all_cons, Bool.and_eq_true, decide_eq_true_eq] at hr
    have lt0 : ∀ x ∈ p, x.block < W.heap.size := by obtain ⟨m, hm⟩ := h0; exact DataW.trod_lt m _ _ _ hm
    exact trodAll_cons_mk (Below.trod hl hr.1.1 hr.1.2 h0 hb lt0) (trodAll_stays hl hb hr.2 r0)

theorem trodAll_length {P : Program} {W : World} {base : Nat} {spare : Nat → Bool} {held : Bool} : ∀ {ts : List TypeId} {vs : List Value} {ds : List (DataW H)} {ps : List MemPlace},
    DataW.TrodAll enc P W base spare held ts vs ds ps → ds.length = ts.length
  | [], vs, ds, ps, h => by
    obtain ⟨rfl, rfl, rfl⟩ := trodAll_nil h
    rfl
  | t :: ts, vs, ds, ps, h => by
    obtain ⟨v, vs', d, ds', p, q, rfl, rfl, rfl, h0, r0⟩ := trodAll_cons h
    simp [trodAll_length r0]

theorem lawFrame {C : Checked} {f : FuncId} {fn : Func} {s : ChangeSpec} {os : Os} (started : os.Started)
    (own : ownKnob C.prog.godebug = none) (noInit : C.prog.inits.idxOf? f = none) (hfn : C.prog.funcs[f]? = some fn)
    (laid : laidOutB C.prog = true) (hread : fn.params.toList.all (fun t => C.prog.readableRec t && decide (t < C.prog.types.size)) = true)
    (boolT : TypeId) (hres : fn.resultTypes = #[boolT]) (hbool : C.prog.underlying boolT = some .bool) (hvars : s.vars = [])
    (hspec : ∀ (ds : List (DataW H)), ds.length = fn.params.size → s.fn H ds = { results := [.lit (.bool true)], args := ds })
    (witness : ∃ (w : World) (tape : Tape) (i : Input), w.os = os ∧ (w.forCall tape i).Shaped C.prog ∧ i.vars = [] ∧ Input.okWide C.prog (w.forCall tape i) .any w.heap.size f i ∧
      s.pre6 enc C.prog fn [] false (w.forCall tape i).memory i.args ∧ ({} : Assume).holds C.prog (lone (Frame.enter C.prog f i.args .normal) [] (w.forCall tape i)))
    (walk : ∀ (W : World) (base : Nat) (args : Array Value) (ds : List (DataW H)) (p : List MemPlace),
      (∀ (j : Nat) t v, fn.params[j]? = some t → args[j]? = some v → Value.okWide C.prog W .any base t v) →
      DataW.TrodAll enc C.prog W 0 (fun _ => true) true fn.params.toList args.toList ds p →
      (DataW.weightsEach C.prog fn.params.toList ds).all (· ≤ reachBytes) = true →
      Calls C.prog f args W fun e W' => e = .returned (.bool true) ∧ Below W.heap.size W W') :
    ReturnsInHanded {} C os f .any (s.pre6 enc C.prog fn [] false) (s.post enc C.prog fn false true false false) := by
  refine returnsInHanded_of_change_sized own started noInit hfn witness ?_
  intro W base args ds gs before hval hW _ hsz _
  have hW' := hW
  obtain ⟨p, q, hA, hV, rfl, hfz, hnd⟩ := hW
  have hvt : s.plain.varTypes C.prog = [] := by simp [DataSpec.varTypes, ChangeSpec.plain, hvars]
  rw [hvars] at hV
  obtain ⟨rfl, rfl⟩ := trodVars_none hV
  rw [hvt, List.append_nil, List.append_nil] at hsz
  refine (walk W base args ds p hval hA hsz).mono fun e W' ⟨he, bel⟩ => ?_
  subst he
  have hlen : ds.length = fn.params.size := by rw [trodAll_length hA]; simp
  refine ⟨_, rfl, ds, [], p ++ [], [], p, [], hW', ?_, ?_, ?_, bel.frame _, fun h => by cases h⟩
  · rw [List.append_nil, hspec ds hlen, hres]
    exact trodAll_mk1 (shut_bool hbool _)
  · rw [List.append_nil, hspec ds hlen]
    exact trodAll_stays laid bel hread hA
  · rw [List.append_nil, hspec ds hlen, hvars]
    rfl

/-- A reading's weight is bounded: each slice, string and map in it. -/
theorem weightAt {P : Program} {ts : List TypeId} {ds : List (DataW H)} (h : (DataW.weightsEach P ts ds).all (· ≤ reachBytes) = true) {j : Nat} {t : TypeId} {d : DataW H} (ht : ts[j]? = some t) (hd : ds[j]? = some d) :
    ∀ n ∈ d.weights P t, n ≤ reachBytes := fun n hn => by
  have := List.all_eq_true.1 h _ (DataW.weights_mem_each ht hd n hn)
  simpa using this

theorem addr_plain {w : World} {x : Addr} {v : Value} (h : w.cell? (x.add 0) = some v) : x = ⟨x.block, x.off, none⟩ := by
  have := World.cell?_spot h
  obtain ⟨b, off, spot⟩ := x
  simp [Addr.add] at this
  simp [this]
theorem addr_add (b off i : Nat) : (⟨b, off, none⟩ : Addr).add i = ⟨b, off + i, none⟩ := by unfold Addr.add; split <;> simp_all

theorem wf_u8 {n : Int} (h : (Lit.int .u8 n).wf = true) : 0 ≤ n ∧ n < 256 := by
  simp [Lit.wf, IntKind.min, IntKind.max, IntKind.signed, IntKind.bits] at h
  omega
theorem wf_i64 {n : Int} (h : (Lit.int .i64 n).wf = true) : -9223372036854775808 ≤ n ∧ n ≤ 9223372036854775807 := by
  simp [Lit.wf, IntKind.min, IntKind.max, IntKind.signed, IntKind.bits] at h
  omega

/-- bytes as plain numbers. -/
theorem bv_toNat {zs : List Int} (h : ∀ n ∈ zs, (Lit.int .u8 n).wf = true) (i : Nat) (hi : i < zs.length) : Value.int .u8 (zs.getD i 0) = bv ((zs.map Int.toNat).getD i 0) := by
  have hz := h _ (List.getElem_mem hi)
  have := wf_u8 hz
  simp [bv, List.getD_eq_getElem?_getD, List.getElem?_eq_getElem hi]
  omega

theorem bytesV_of_cells {w : World} {x : Addr} {len cap : Nat} {zs : List Int} (hl : len ≤ cap) (hz : zs.length = cap) (hcell : ∀ i, i < cap → w.cell? (x.add i) = some (.int .u8 (zs.getD i 0))) (hwz : ∀ n ∈ zs, (Lit.int .u8 n).wf = true) (hs : cap ≤ 140737488355328) :
    BytesV w (some x, len, cap) ((zs.map Int.toNat).take len) := by
  refine ⟨⟨by simp; omega, fun h0 => ?_⟩, ?_, ?_, hl, fun h => by cases h⟩
  · have hx := addr_plain (hcell 0 (by simp only at h0; omega))
    refine ⟨x.block, x.off, by rw [← hx], fun i hi => ?_⟩
    simp only at hi
    have hc := hcell i (by omega)
    rw [hx, addr_add, bv_toNat hwz i (by omega)] at hc
    rw [hc, List.getElem?_map, List.getElem?_take, if_pos hi]
    simp [List.getD_eq_getElem?_getD, List.getElem?_eq_getElem (show i < zs.length by omega)]
  · intro y hy
    obtain ⟨z, hz', rfl⟩ := List.mem_map.1 (List.mem_of_mem_take hy)
    have := wf_u8 (hwz z hz')
    omega
  · simp only; omega

theorem bytesV_nil (w : World) : BytesV w (none, 0, 0) [] := ⟨⟨rfl, fun h => absurd h (by simp)⟩, fun x hx => (by cases hx), by simp, by simp, fun _ => rfl⟩

theorem openBytes {P : Program} {W : World} {base : Nat} {r : Reach} {t e : TypeId} {v : Value} {d : DataW H} {p : List MemPlace} (ht : P.underlying t = some (.slice e)) (he : P.underlying e = some (.int .u8)) (hc : P.cellsOf e = 1) (hby : P.bytesOf e = 1)
    (hok : Value.okWide P W r base t v) (h : DataW.Trod enc P W 0 (fun _ => true) true t v d p) (hw : ∀ n ∈ d.weights P t, n ≤ reachBytes) :
    ∃ ad n c l, v = .slice ad n c ∧ BytesV W (ad, n, c) l ∧ n ≤ 140737488351232 := by
  obtain ⟨a0, len0, cap0, rfl⟩ := okWide_slice ht hok
  obtain ⟨fuel, hf⟩ := h
  rcases open_ints ht he hc hf with ⟨hcs, _⟩ | ⟨x, l, c, zs, hcs, _, hl, hm, hz, hx, hcell, hwz⟩
  · simp [Value.cells] at hcs
    obtain ⟨rfl, rfl, rfl⟩ := hcs
    exact ⟨none, 0, 0, [], rfl, bytesV_nil _, by omega⟩
  · simp [Value.cells] at hcs
    obtain ⟨rfl, rfl, rfl⟩ := hcs
    simp only [Prod.mk.injEq] at hx
    simp only [if_true] at hz
    have hcap : cap0 ≤ 140737488351232 := by
      have := hw ((lits (H := H) .u8 (zs.take len0)).length + (lits (H := H) .u8 (zs.drop len0)).length) (by rw [hx.1]; simp [DataW.weights, ht, hby, lits])
      simp [lits, reachBytes] at this
      omega
    exact ⟨_, _, _, _, rfl, bytesV_of_cells hl hz (fun i hi => hcell i (by omega)) hwz (by omega), by omega⟩

theorem weightsAll_mem {P : Program} {e : TypeId} : ∀ {ds : List (DataW H)} {d : DataW H}, d ∈ ds → ∀ n ∈ d.weights P e, n ∈ DataW.weightsAll P e ds
  | [], _, h, _, _ => by cases h
  | d0 :: ds, d, h, n, hn => by
    simp only [DataW.weightsAll, List.mem_append]
    rcases List.mem_cons.1 h with rfl | h
    · exact Or.inl hn
    · exact Or.inr (weightsAll_mem h n hn)

theorem openRows {P : Program} {W : World} {base : Nat} {r : Reach} {t e q : TypeId} {v : Value} {d : DataW H} {p : List MemPlace} (ht : P.underlying t = some (.slice e)) (he : P.underlying e = some (.slice q)) (hq : P.underlying q = some (.int .u8))
    (ce : P.cellsOf e = 1) (cq : P.cellsOf q = 1) (be : P.bytesOf e = 24) (bq : P.bytesOf q = 1)
    (hok : Value.okWide P W r base t v) (h : DataW.Trod enc P W 0 (fun _ => true) true t v d p) (hw : ∀ n ∈ d.weights P t, n ≤ reachBytes) :
    ∃ ad n c hs ls, v = .slice ad n c ∧ RowV W ad n (hs.map SV) ∧ RowsV W hs ls ∧ n * 24 ≤ 140737488351232 := by
  obtain ⟨a0, len0, cap0, rfl⟩ := okWide_slice ht hok
  obtain ⟨fuel, hf⟩ := h
  rcases Deep.open_int_rows ht he hq ce cq hf with ⟨hcs, _⟩ | ⟨x, len, cap, A, L, C, Z, hcs, _, hl, hm, hx, hcell⟩
  · simp [Value.cells] at hcs
    obtain ⟨rfl, rfl, rfl⟩ := hcs
    exact ⟨none, 0, 0, [], [], rfl, ⟨rfl, fun h => absurd h (by omega)⟩, rowsV_nil _, by omega⟩
  · simp [Value.cells] at hcs
    obtain ⟨rfl, rfl, rfl⟩ := hcs
    simp only [Prod.mk.injEq] at hx
    have hcap : cap0 * 24 ≤ 140737488351232 := by
      have := hw ((((List.range len0).map fun r => Deep.intRow (H := H) .u8 (A r) (L r) (Z r)).length + ((List.range (cap0 - len0)).map fun j => Deep.intRow (H := H) .u8 (A (len0 + j)) (L (len0 + j)) (Z (len0 + j))).length) * 24) (by rw [hx.1]; simp [DataW.weights, ht, be])
      simp [reachBytes] at this
      omega
    refine ⟨_, _, _, (List.range len0).map fun r => (A r, L r, C r), (List.range len0).map fun r => ((Z r).map Int.toNat).take (L r), rfl, ⟨by simp, fun h0 => ?_⟩, ⟨by simp, fun i y l h1 h2 => ?_⟩, by omega⟩
    · have hx0 := addr_plain (hcell 0 (by omega)).1
      refine ⟨x.block, x.off, by rw [← hx0], fun i hi => ?_⟩
      have hc := (hcell i (by omega)).1
      rw [hx0, addr_add] at hc
      rw [hc]
      simp [hi, SV]
    · have hi : i < len0 := by have := (List.getElem?_eq_some_iff.1 h1).1; simpa using this
      simp [hi] at h1 h2
      subst h1 h2
      obtain ⟨_, hLC, hCm, hZ, hwf, hnil, hcells⟩ := hcell i (by omega)
      have hC : C i ≤ 140737488351232 := by
        have hmem : Deep.intRow (H := H) .u8 (A i) (L i) (Z i) ∈ (List.range len0).map fun r => Deep.intRow (H := H) .u8 (A r) (L r) (Z r) := List.mem_map.2 ⟨i, by simpa using hi, rfl⟩
        cases hA : A i with
        | none => have := hnil hA; omega
        | some y =>
          have := hw (((lits (H := H) .u8 ((Z i).take (L i))).length + (lits (H := H) .u8 ((Z i).drop (L i))).length) * 1) (by
            rw [hx.1]
            simp only [DataW.weights, ht, List.mem_cons, List.mem_append]
            right; left
            refine weightsAll_mem hmem _ ?_
            simp [Deep.intRow, hA, DataW.weights, he, bq])
          simp [lits, reachBytes] at this
          omega
      cases hA : A i with
      | none =>
        have h0 := hnil hA
        have hL : L i = 0 := by omega
        have hZ0 : Z i = [] := List.eq_nil_of_length_eq_zero (by omega)
        rw [hL, hZ0, h0]
        exact bytesV_nil _
      | some y =>
        exact bytesV_of_cells hLC hZ (fun c hc => (hcells y hA).2 c hc) hwf (by omega)

end
end Go.Proofs.Ytnefcbcioemfiaa
