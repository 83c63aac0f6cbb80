/-
  Bytes, metas, symbols, items and messages that came in.
-/
import Derived.Test.YtopnjjehefaghaaDoorMMgC
import Derived.Test.YtopnjjehefaghaaDoorMView
namespace Go.Proofs.YtopnjjehefaghaaDoor
open Go.ChangeShapes Go.WideShapes Go.ChangeAt Go.RowKit Go.Deep

abbrev shBy : Sh := .sl 1 (.int .u8)
abbrev shTag : Sh := .st (.cons (.int .i64) (.cons (.int .i64) .nil))
abbrev shMeta : Sh := .st (.cons shTag (.cons (.int .i64) (.cons (.int .i64) (.cons .bool (.cons shBy .nil)))))
abbrev shSym : Sh := .st (.cons (.int .i64) (.cons (.int .i64) (.cons shBy .nil)))
abbrev shItem : Sh := .st (.cons .str (.cons shMeta .nil))
abbrev shMsg : Sh := .st (.cons (.int .i64) (.cons (.int .i64) (.cons (.int .i64) (.cons (.int .i64) (.cons (.int .i64) (.cons .str (.cons shMeta (.cons (.sl 40 shSym) (.cons (.sl 80 shItem) .nil)))))))))
section
variable {W : World}
theorem view_bytes {cs : List Value} (h : View W shBy cs) : ∃ a n c l, cs = [.slice a n c] ∧ BytesV W (a, n, c) l := by
  rw [v_sl] at h
  obtain ⟨a, n, c, rfl, h2, h3, h4, h5, h6, h7⟩ := h
  have each : ∀ i, ∃ x : Nat, i < n → x < 256 ∧ ∀ bl o, a = some ⟨bl, o, none⟩ → W.cell? ⟨bl, o + i, none⟩ = some (bv x) := by
    intro i
    by_cases hi : i < n
    · obtain ⟨vs, v1, v2, hv⟩ := h7 i hi
      rw [v_int] at hv
      obtain ⟨k, rfl, hk⟩ := hv
      have hk := wf_u8 hk
      refine ⟨k.toNat, fun _ => ⟨by omega, fun bl o e => ?_⟩⟩
      have := v2 0 bl o (by decide) e
      simp only [Sh.size, Nat.mul_one, Nat.add_zero] at this
      rw [this]
      simp only [List.getElem?_cons_zero, bv]
      rw [Int.toNat_of_nonneg hk.1]
    · exact ⟨0, fun h => absurd h hi⟩
  obtain ⟨g, hg⟩ := Classical.axiomOfChoice each
  refine ⟨a, n, c, (List.range n).map g, rfl, ⟨⟨by simp, fun h0 => ?_⟩, fun x hx => ?_, ?_, h2, h5⟩⟩
  · obtain ⟨bl, o, e, _⟩ := h6 h0
    refine ⟨bl, o, e, fun i hi => ?_⟩
    simp only at hi
    rw [(hg i hi).2 bl o e]
    simp [hi]
  · obtain ⟨i, hi, rfl⟩ := List.mem_map.1 hx
    exact (hg i (List.mem_range.1 hi)).1
  · simp only
    unfold reachBytes at h4
    omega
theorem view_meta {cs : List Value} (h : View W shMeta cs) : ∃ (N c s t : Int) (d : Bool) (a : Option Addr) (n k : Nat) (l : List Nat), cs = [.int .i64 N, .int .i64 c, .int .i64 s, .int .i64 t, .bool d, .slice a n k] ∧ BytesV W (a, n, k) l := by
  simp only [v_st, v_cons, v_nil, v_int, v_bool] at h
  obtain ⟨c1, c2, rfl, ⟨_, _, rfl, ⟨N, rfl, -⟩, _, _, rfl, ⟨c, rfl, -⟩, rfl⟩, _, _, rfl, ⟨s, rfl, -⟩, _, _, rfl, ⟨t, rfl, -⟩, _, _, rfl, ⟨d, rfl⟩, _, _, rfl, hB, rfl⟩ := h
  obtain ⟨a, n, k, l, rfl, hB2⟩ := view_bytes hB
  exact ⟨N, c, s, t, d, a, n, k, l, rfl, hB2⟩
theorem view_syms {b : Nat} {cs : List Value} (h : View W (.sl b shSym) cs) : ∃ a n c ps, cs = [.slice a n c] ∧ SyV W a n ps := by
  rw [v_sl] at h
  obtain ⟨a, n, c, rfl, h2, h3, h4, h5, h6, h7⟩ := h
  have each : ∀ i, ∃ g : SH × Sy, i < n → g.1.1 = g.2.1 ∧ g.1.2.1 = g.2.2.1 ∧ BytesV W g.1.2.2 g.2.2.2 ∧ ∀ bl o, a = some ⟨bl, o, none⟩ → W.cell? ⟨bl, o + i * 3, none⟩ = some (.int .i64 g.1.1) ∧ W.cell? ⟨bl, o + i * 3 + 1, none⟩ = some (.int .i64 g.1.2.1) ∧ W.cell? ⟨bl, o + i * 3 + 2, none⟩ = some (SV g.1.2.2) := by
    intro i
    by_cases hi : i < n
    · obtain ⟨vs, v1, v2, hv⟩ := h7 i hi
      simp only [v_st, v_cons, v_nil, v_int] at hv
      obtain ⟨_, _, rfl, ⟨z, rfl, -⟩, _, _, rfl, ⟨e, rfl, -⟩, _, _, rfl, hB, rfl⟩ := hv
      obtain ⟨xa, xn, xc, l, rfl, hB2⟩ := view_bytes hB
      refine ⟨((z, e, (xa, xn, xc)), (z, e, l)), fun _ => ⟨rfl, rfl, hB2, fun bl o ea => ?_⟩⟩
      have s3 : (Sh.st (.cons (.int .i64) (.cons (.int .i64) (.cons shBy .nil)))).size = 3 := rfl
      have w0 := v2 0 bl o (by rw [s3]; decide) ea
      have w1 := v2 1 bl o (by rw [s3]; decide) ea
      have w2 := v2 2 bl o (by rw [s3]; decide) ea
      rw [s3] at w0 w1 w2
      exact ⟨w0, w1, w2⟩
    · exact ⟨((0, 0, (none, 0, 0)), (0, 0, [])), fun h => absurd h hi⟩
  obtain ⟨g, hg⟩ := Classical.axiomOfChoice each
  refine ⟨a, n, c, (List.range n).map fun i => (g i).2, rfl, by simp, (List.range n).map fun i => (g i).1, by simp, fun h0 => ?_, fun i x p hx hp => ?_⟩
  · obtain ⟨bl, o, e, _⟩ := h6 h0
    refine ⟨bl, o, e, fun i x hx => ?_⟩
    rw [List.getElem?_map, Option.map_eq_some_iff] at hx
    obtain ⟨j, hj, rfl⟩ := hx
    obtain ⟨hin, rfl⟩ := List.getElem?_eq_some_iff.1 hj
    rw [List.getElem_range]
    have hin : i < n := by simpa using hin
    exact (hg i hin).2.2.2 bl o e
  · rw [List.getElem?_map, Option.map_eq_some_iff] at hx hp
    obtain ⟨j, hj, rfl⟩ := hx
    obtain ⟨j', hj', rfl⟩ := hp
    rw [hj] at hj'
    injection hj' with hj'
    subst hj'
    obtain ⟨hin, rfl⟩ := List.getElem?_eq_some_iff.1 hj
    rw [List.getElem_range]
    have hin : i < n := by simpa using hin
    exact ⟨(hg i hin).1, (hg i hin).2.1, (hg i hin).2.2.1⟩
theorem view_items {b : Nat} {cs : List Value} (h : View W (.sl b shItem) cs) : ∃ a n c its, cs = [.slice a n c] ∧ ItV W a n its := by
  rw [v_sl] at h
  obtain ⟨a, n, c, rfl, h2, h3, h4, h5, h6, h7⟩ := h
  have each : ∀ i, ∃ g : ItR × (Option Addr × Nat × Nat), i < n → ∀ bl o, a = some ⟨bl, o, none⟩ → ItAt W bl (o + i * 7) g.1 g.2 := by
    intro i
    by_cases hi : i < n
    · obtain ⟨vs, v1, v2, hv⟩ := h7 i hi
      simp only [v_st (.cons .str _), v_cons .str, v_cons shMeta, v_nil, v_str] at hv
      obtain ⟨_, _, rfl, ⟨key, rfl, -⟩, _, _, rfl, hM, rfl⟩ := hv
      obtain ⟨N, c, s, t, d, xa, xn, xc, l, rfl, hB2⟩ := view_meta hM
      refine ⟨(⟨key, ⟨N, c, s, t, d, l⟩⟩, (xa, xn, xc)), fun _ bl o ea => ?_⟩
      have s7 : (Sh.st (.cons .str (.cons shMeta .nil))).size = 7 := rfl
      have w0 := v2 0 bl o (by rw [s7]; decide) ea
      have w1 := v2 1 bl o (by rw [s7]; decide) ea
      have w2 := v2 2 bl o (by rw [s7]; decide) ea
      have w3 := v2 3 bl o (by rw [s7]; decide) ea
      have w4 := v2 4 bl o (by rw [s7]; decide) ea
      have w5 := v2 5 bl o (by rw [s7]; decide) ea
      have w6 := v2 6 bl o (by rw [s7]; decide) ea
      rw [s7] at w0 w1 w2 w3 w4 w5 w6
      exact ⟨w0, w1, w2, w3, w4, w5, w6, hB2⟩
    · exact ⟨(⟨⟨#[]⟩, ⟨0, 0, 0, 0, false, []⟩⟩, (none, 0, 0)), fun h => absurd h hi⟩
  obtain ⟨g, hg⟩ := Classical.axiomOfChoice each
  refine ⟨a, n, c, (List.range n).map fun i => (g i).1, rfl, by simp, fun i => (g i).2, fun h0 => ?_⟩
  obtain ⟨bl, o, e, _⟩ := h6 h0
  refine ⟨bl, o, e, fun i x hx => ?_⟩
  rw [List.getElem?_map, Option.map_eq_some_iff] at hx
  obtain ⟨j, hj, rfl⟩ := hx
  obtain ⟨hin, rfl⟩ := List.getElem?_eq_some_iff.1 hj
  rw [List.getElem_range]
  have hin : i < n := by simpa using hin
  exact hg i hin bl o e
theorem view_msg {cs : List Value} (h : View W shMsg cs) : ∃ (M : MsR) (xa : Option Addr) (xn xc : Nat) (sa : Option Addr) (sc : Nat) (ia : Option Addr) (ic : Nat), cs = (MsC M (xa, xn, xc) sa sc ia ic).toList ∧ MsV W M (xa, xn, xc) sa ia := by
  rw [v_st] at h
  simp only [v_cons (.int _), v_cons .str, v_cons shMeta, v_cons (.sl _ _), v_nil, v_int, v_str] at h
  obtain ⟨_, _, rfl, ⟨k, rfl, -⟩, _, _, rfl, ⟨f, rfl, -⟩, _, _, rfl, ⟨t, rfl, -⟩, _, _, rfl, ⟨op, rfl, -⟩, _, _, rfl, ⟨cd, rfl, -⟩, _, _, rfl, ⟨key, rfl, -⟩, _, _, rfl, hM, _, _, rfl, hS, _, _, rfl, hI, rfl⟩ := h
  obtain ⟨N, c, s, tt, d, xa, xn, xc, l, rfl, hB2⟩ := view_meta hM
  obtain ⟨sa, sn, sc, ps, rfl, hS2⟩ := view_syms hS
  obtain ⟨ia, inn, ic, its, rfl, hI2⟩ := view_items hI
  have e1 := hS2.len
  have e2 := hI2.len
  subst e1 e2
  exact ⟨⟨k, f, t, op, cd, key, ⟨N, c, s, tt, d, l⟩, ps, its⟩, xa, xn, xc, sa, sc, ia, ic, rfl, ⟨hB2, hS2, hI2⟩⟩
end
section
variable {H : Type} {enc : TypeId × Value → H}
theorem openMsg {P : Program} {W : World} {base : Nat} {r : Reach} {t : TypeId} {fs : Array Field} {v : Value} {d : DataW H} {p : List MemPlace} (ht : P.underlying t = some (.struct fs)) (hf : shMsg.fits P t = true)
    (hok : Value.okWide P W r base t v) (h : DataW.Trod enc P W 0 (fun _ => true) true t v d p) (hw : ∀ n ∈ d.weights P t, n ≤ reachBytes) :
    ∃ (M : MsR) (xa : Option Addr) (xn xc : Nat) (sa : Option Addr) (sc : Nat) (ia : Option Addr) (ic : Nat), v = .agg (MsC M (xa, xn, xc) sa sc ia ic) ∧ MsV W M (xa, xn, xc) sa ia := by
  obtain ⟨cs, rfl, _⟩ := okWide_struct ht hok
  obtain ⟨M, xa, xn, xc, sa, sc, ia, ic, e, hM⟩ := view_msg (openView shMsg hf h hw)
  exact ⟨M, xa, xn, xc, sa, sc, ia, ic, by rw [← Array.toList_inj.1 e]; rfl, hM⟩
end
end Go.Proofs.YtopnjjehefaghaaDoor
