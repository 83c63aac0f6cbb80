/-
  Acts and keys that came in.
-/
import Derived.Test.YtnefcbcioemfiaaView
import Derived.Test.YtnefcbcioemfiaaJdL
namespace Go.Proofs.Ytnefcbcioemfiaa
open Go.ChangeShapes Go.WideShapes Go.ChangeAt Go.RowKit Go.Deep

abbrev shByJ : Sh := .sl 1 (.int .u8)
abbrev shTagJ : Sh := .st (.cons (.int .i64) (.cons (.int .i64) .nil))
abbrev shTxJ : Sh := .sl 16 .str
abbrev shResJ : Sh := .st (.cons (.int .i64) (.cons (.int .i64) (.cons .str (.cons shByJ (.cons shTagJ (.cons (.int .i64) (.cons .bool (.cons shTxJ .nil))))))))
abbrev shActJ : Sh := .st (.cons (.int .i64) (.cons (.int .i64) (.cons (.int .i64) (.cons (.int .i64) (.cons .str (.cons shByJ (.cons shResJ .nil)))))))
section
variable {W : World}
theorem view_bytesJ {cs : List Value} (h : View W shByJ cs) : ∃ a n c l, cs = [.slice a n c] ∧ BytesV W (a, n, c) l := by
  rw [v_sl] at h
  obtain ⟨a, n, c, rfl, h2, h3, h4, h5, h6, h7⟩ := h
  have each : ∀ i, ∃ x : Nat, i < n → x < 256 ∧ ∀ bl o, a = some ⟨bl, o, none⟩ → W.cell? ⟨bl, o + i, none⟩ = some (bv x) := by
    intro i
    by_cases hi : i < n
    · obtain ⟨vs, v1, v2, hv⟩ := h7 i hi
      rw [v_int] at hv
      obtain ⟨k, rfl, hk⟩ := hv
      have hk := wf_u8 hk
      refine ⟨k.toNat, fun _ => ⟨by omega, fun bl o e => ?_⟩⟩
      have := v2 0 bl o (by decide) e
      simp only [Sh.size, Nat.mul_one, Nat.add_zero] at this
      rw [this]
      simp only [List.getElem?_cons_zero, bv]
      rw [Int.toNat_of_nonneg hk.1]
    · exact ⟨0, fun h => absurd h hi⟩
  obtain ⟨g, hg⟩ := Classical.axiomOfChoice each
  refine ⟨a, n, c, (List.range n).map g, rfl, ⟨⟨by simp, fun h0 => ?_⟩, fun x hx => ?_, ?_, h2, h5⟩⟩
  · obtain ⟨bl, o, e, _⟩ := h6 h0
    refine ⟨bl, o, e, fun i hi => ?_⟩
    simp only at hi
    rw [(hg i hi).2 bl o e]
    simp [hi]
  · obtain ⟨i, hi, rfl⟩ := List.mem_map.1 hx
    exact (hg i (List.mem_range.1 hi)).1
  · simp only
    unfold reachBytes at h4
    omega
theorem view_textsJ {cs : List Value} (h : View W shTxJ cs) : ∃ a n c l, cs = [.slice a n c] ∧ TxV W (a, n, c) l := by
  rw [v_sl] at h
  obtain ⟨a, n, c, rfl, h2, h3, h4, h5, h6, h7⟩ := h
  have each : ∀ i, ∃ x : ByteArray, i < n → ∀ bl o, a = some ⟨bl, o, none⟩ → W.cell? ⟨bl, o + i, none⟩ = some (.string x) := by
    intro i
    by_cases hi : i < n
    · obtain ⟨vs, v1, v2, hv⟩ := h7 i hi
      rw [v_str] at hv
      obtain ⟨s, rfl, hk⟩ := hv
      refine ⟨s, fun _ bl o e => ?_⟩
      have := v2 0 bl o (by decide) e
      simp only [Sh.size, Nat.mul_one, Nat.add_zero] at this
      rw [this]
      rfl
    · exact ⟨ByteArray.empty, fun h => absurd h hi⟩
  obtain ⟨g, hg⟩ := Classical.axiomOfChoice each
  refine ⟨a, n, c, (List.range n).map g, rfl, ⟨⟨by simp, fun h0 => ?_⟩, ?_, h2, h5⟩⟩
  · obtain ⟨bl, o, e, _⟩ := h6 h0
    refine ⟨bl, o, e, fun i hi => ?_⟩
    simp only at hi
    rw [hg i hi bl o e]
    simp [hi]
  · simp only
    unfold reachBytes at h4
    omega
theorem view_act {cs : List Value} (h : View W shActJ cs) : ∃ (A : ActR) (x y z : SH3), cs = (ActC A x y z).toList ∧ ActS W A x y z ∧ A.key.size ≤ 140737488355328 := by
  rw [v_st] at h
  simp only [v_cons (.int _), v_cons .str, v_cons .bool, v_cons (.sl _ _), v_cons (.st _), v_st, v_nil, v_int, v_str, v_bool] at h
  obtain ⟨_, _, rfl, ⟨cl, rfl, -⟩, _, _, rfl, ⟨d, rfl, -⟩, _, _, rfl, ⟨st, rfl, -⟩, _, _, rfl, ⟨en, rfl, -⟩, _, _, rfl, ⟨key, rfl, hks⟩, _, _, rfl, hV, _, _, rfl, ⟨_, _, rfl, ⟨rop, rfl, -⟩, _, _, rfl, ⟨rdo, rfl, -⟩, _, _, rfl, ⟨rkey, rfl, -⟩, _, _, rfl, hR, _, _, rfl, ⟨_, _, rfl, ⟨tn, rfl, -⟩, _, _, rfl, ⟨tc, rfl, -⟩, rfl⟩, _, _, rfl, ⟨code, rfl, -⟩, _, _, rfl, ⟨found, rfl⟩, _, _, rfl, hK, rfl⟩, rfl⟩ := h
  obtain ⟨xa, xn, xc, v, rfl, hV2⟩ := view_bytesJ hV
  obtain ⟨ya, yn, yc, r, rfl, hR2⟩ := view_bytesJ hR
  obtain ⟨za, zn, zc, ks, rfl, hK2⟩ := view_textsJ hK
  exact ⟨⟨cl, d, st, en, key, v, rop, rdo, rkey, r, tn, tc, code, found, ks⟩, (xa, xn, xc), (ya, yn, yc), (za, zn, zc), rfl, ⟨hV2, hR2, hK2⟩, by show key.size ≤ _; unfold reachBytes at hks; omega⟩
theorem view_actsJ {cs : List Value} (h : View W (.sl 184 shActJ) cs) : ∃ a n c xs, cs = [.slice a n c] ∧ ActsV W a n xs ∧ KOk xs ∧ n ≤ c ∧ n ≤ 140737488355328 := by
  rw [v_sl] at h
  obtain ⟨a, n, c, rfl, h2, h3, h4, h5, h6, h7⟩ := h
  have s15 : shActJ.size = 15 := rfl
  have each : ∀ i, ∃ g : ActR × SH3 × SH3 × SH3, i < n → g.1.key.size ≤ 140737488355328 ∧ ∀ bl o, a = some ⟨bl, o, none⟩ → ActAt W bl (o + i * 15) g.1 g.2.1 g.2.2.1 g.2.2.2 := by
    intro i
    by_cases hi : i < n
    · obtain ⟨vs, v1, v2, hv⟩ := h7 i hi
      obtain ⟨A, x, y, z, rfl, hS, hk⟩ := view_act hv
      refine ⟨(A, x, y, z), fun _ => ⟨hk, fun bl o ea => ?_⟩⟩
      have q := fun j (hj : j < 15) => v2 j bl o (by rw [s15]; exact hj) ea
      rw [s15] at q
      exact ⟨q 0 (by decide), q 1 (by decide), q 2 (by decide), q 3 (by decide), q 4 (by decide), q 5 (by decide), q 6 (by decide), q 7 (by decide), q 8 (by decide), q 9 (by decide), q 10 (by decide), q 11 (by decide), q 12 (by decide), q 13 (by decide), q 14 (by decide), hS⟩
    · exact ⟨(dAct, (none, 0, 0), (none, 0, 0), (none, 0, 0)), fun h => absurd h hi⟩
  obtain ⟨g, hg⟩ := Classical.axiomOfChoice each
  refine ⟨a, n, c, (List.range n).map fun i => (g i).1, rfl, ⟨by simp, fun i => (g i).2, fun h0 => ?_⟩, fun A hA => ?_, h2, by unfold reachBytes at h4; omega⟩
  · obtain ⟨bl, o, e, hbl⟩ := h6 h0
    refine ⟨bl, o, e, hbl, fun i x hx => ?_⟩
    rw [List.getElem?_map, Option.map_eq_some_iff] at hx
    obtain ⟨j, hj, rfl⟩ := hx
    obtain ⟨hin, rfl⟩ := List.getElem?_eq_some_iff.1 hj
    rw [List.getElem_range]
    have hin : i < n := by simpa using hin
    exact (hg i hin).2 bl o e
  · obtain ⟨i, hi, rfl⟩ := List.mem_map.1 hA
    exact (hg i (by simpa using hi)).1
end
section
variable {H : Type} {enc : TypeId × Value → H}
theorem openActs {P : Program} {W : World} {base : Nat} {r : Reach} {t e : TypeId} {v : Value} {d : DataW H} {p : List MemPlace} (ht : P.underlying t = some (.slice e)) (hf : (Sh.sl 184 shActJ).fits P t = true)
    (hok : Value.okWide P W r base t v) (h : DataW.Trod enc P W 0 (fun _ => true) true t v d p) (hw : ∀ n ∈ d.weights P t, n ≤ reachBytes) :
    ∃ a n c xs, v = .slice a n c ∧ ActsV W a n xs ∧ KOk xs ∧ n ≤ c ∧ n ≤ 140737488355328 := by
  obtain ⟨a0, len0, cap0, rfl⟩ := okWide_slice ht hok
  obtain ⟨a, n, c, xs, e, h1⟩ := view_actsJ (openView (.sl 184 shActJ) hf h hw)
  simp only [Value.cells] at e
  injection e with e
  exact ⟨a, n, c, xs, e, h1⟩
theorem openActsN {P : Program} {W : World} {base : Nat} {r : Reach} {t e : TypeId} {v : Value} {d : DataW H} {p : List MemPlace} (ht : P.underlying t = some (.slice e)) (hf : (Sh.sl 184 shActJ).fits P t = true)
    (hok : Value.okWide P W r base t v) (h : DataW.Trod enc P W 0 (fun _ => true) true t v d p) (hw : ∀ n ∈ d.weights P t, n ≤ reachBytes) :
    ∃ a n c xs, v = .slice a n c ∧ ActsV W a n xs ∧ KOk xs ∧ n ≤ c ∧ n ≤ 140737488355328 ∧ (a = none → c = 0) := by
  obtain ⟨a0, len0, cap0, rfl⟩ := okWide_slice ht hok
  have hv := openView (.sl 184 shActJ) hf h hw
  obtain ⟨a, n, c, xs, e, h1⟩ := view_actsJ hv
  rw [v_sl] at hv
  obtain ⟨a', n', c', e', -, -, -, h5, -⟩ := hv
  simp only [Value.cells] at e e'
  injection e with e
  injection e' with e'
  injection e with e1 e2 e3
  injection e' with f1 f2 f3
  subst e1 e2 e3
  exact ⟨_, _, _, xs, rfl, h1.1, h1.2.1, h1.2.2.1, h1.2.2.2, fun h0 => by rw [f3]; exact h5 (by rw [← f1]; exact h0)⟩
theorem openKey {P : Program} {W : World} {base : Nat} {r : Reach} {t : TypeId} {v : Value} {d : DataW H} {p : List MemPlace} (ht : P.underlying t = some .string)
    (hok : Value.okWide P W r base t v) (h : DataW.Trod enc P W 0 (fun _ => true) true t v d p) (hw : ∀ n ∈ d.weights P t, n ≤ reachBytes) :
    ∃ s : ByteArray, v = .string s ∧ s.size ≤ 140737488355328 := by
  obtain ⟨s0, rfl, rfl, rfl, -⟩ := Go.ChangeMaps.open_string ht hok h
  have hv := openView .str (by simp [Sh.fits, ht]) h hw
  rw [v_str] at hv
  obtain ⟨s, e, hs⟩ := hv
  simp only [Value.cells] at e
  injection e with e
  injection e with e
  subst e
  exact ⟨_, rfl, by unfold reachBytes at hs; omega⟩
end
end Go.Proofs.Ytnefcbcioemfiaa
