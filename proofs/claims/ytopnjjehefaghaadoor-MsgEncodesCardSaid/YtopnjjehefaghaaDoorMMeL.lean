/-
  rilllaw09: MetaTags.
-/
import Derived.Test.YtopnjjehefaghaaDoorMMeK
namespace Go.Proofs.YtopnjjehefaghaaDoor
open Go.RowKit

def tcells (l : List (Int × Int)) : List Value := l.flatMap (fun p => [.int .i64 p.1, .int .i64 p.2])
theorem tcells_len (l : List (Int × Int)) : (tcells l).length = l.length * 2 := by
  induction l with
  | nil => rfl
  | cons x xs ih => simp only [tcells, List.flatMap_cons, List.length_append, List.length_cons, List.length_nil] at *; omega
theorem tcells_at : ∀ (l : List (Int × Int)) (i : Nat) (x : Int × Int), l[i]? = some x → (tcells l)[i * 2]? = some (.int .i64 x.1) ∧ (tcells l)[i * 2 + 1]? = some (.int .i64 x.2)
  | [], i, x, h => by simp at h
  | y :: ys, 0, x, h => by
    simp at h
    subst h
    exact ⟨rfl, rfl⟩
  | y :: ys, i + 1, x, h => by
    have := tcells_at ys i x (by simpa using h)
    simp only [tcells, List.flatMap_cons]
    rw [show (i + 1) * 2 = i * 2 + 2 by omega, show i * 2 + 2 + 1 = i * 2 + 1 + 2 by omega]
    exact this
theorem tcells_one (l : List (Int × Int)) : ∀ u ∈ tcells l, u.oneCell' = true := by
  intro u hu
  simp only [tcells, List.mem_flatMap, List.mem_cons, List.not_mem_nil, or_false] at hu
  obtain ⟨x, -, rfl | rfl⟩ := hu <;> rfl
theorem tagsV_news {w : World} {b o n c : Nat} {L : Nat → Int × Int} (h : TagsV w (some ⟨b, o, none⟩) n c L) : ∀ j u, (tcells ((List.range n).map L))[j]? = some u → w.cell? ((⟨b, o, none⟩ : Addr).add j) = some u := by
  intro j u hj
  have hlt := (List.getElem?_eq_some_iff.1 hj).1
  rw [tcells_len, List.length_map, List.length_range] at hlt
  obtain ⟨b', o', e, -, hc⟩ := h.row (by omega)
  injection e with e
  injection e with e1 e2
  subst e1 e2
  have ha : (⟨b, o, none⟩ : Addr).add j = ⟨b, o + j, none⟩ := by unfold Addr.add; split <;> simp_all
  rw [ha]
  have hq : j / 2 < n := by omega
  obtain ⟨c0, c1⟩ := hc (j / 2) hq
  have hx : ((List.range n).map L)[j / 2]? = some (L (j / 2)) := by simp [hq]
  obtain ⟨t0, t1⟩ := tcells_at _ _ _ hx
  rcases Nat.mod_two_eq_zero_or_one j with hm | hm
  · have hj2 : j / 2 * 2 = j := by omega
    rw [hj2] at t0 c0
    rw [t0] at hj
    rw [c0, ← hj]
  · have hj2 : j / 2 * 2 + 1 = j := by omega
    rw [hj2] at t1
    rw [show o + j / 2 * 2 + 1 = o + j by omega] at c1
    rw [t1] at hj
    rw [c1, ← hj]
theorem tagsV_own {w : World} {B n cap : Nat} {ad : Option Addr} {L : Nat → Int × Int} (h : w.ownsRow B 23 2 (.slice ad n cap) n (tcells ((List.range n).map L))) : TagsV w ad n cap L := by
  rcases h.2 with ⟨e, e0⟩ | ⟨g, cp, cur, e, hB, hh, hc, hcm, -, -⟩
  · injection e with e1 e2 e3
    subst e2 e3
    exact ⟨by simp [maxLen], Nat.le_refl _, by simp [maxLen], fun h => absurd h (by omega)⟩
  · injection e with e1 e2 e3
    subst e1 e3
    refine ⟨Nat.le_trans hc hcm, hc, hcm, fun h0 => ⟨g, 0, rfl, (Array.getElem?_eq_some_iff.1 hh).1, fun i hi => ?_⟩⟩
    have hx : ((List.range n).map L)[i]? = some (L i) := by simp [hi]
    obtain ⟨t0, t1⟩ := tcells_at _ _ _ hx
    rw [Nat.zero_add]
    exact ⟨(h.cellAt (i * 2) (by omega)).trans t0, (h.cellAt (i * 2 + 1) (by omega)).trans t1⟩
theorem Tryd.infoTag : (Tryd.prog.info? 23).map (fun i => (i.zero, i.size, i.bytes)) = some (some (.agg #[.int .i64 0, .int .i64 0]), 2, 16) := by kernel_rfl
theorem ownBlock_geM {w : World} {base : Nat} {e : TypeId} {size : Nat} {v : Value} {n : Nat} {xs : List Value} (h : w.ownsRow base e size v n xs) : ∀ k, v.ownBlock = some k → base ≤ k := fun k hk => ownBlock_ge h k hk
end Go.Proofs.YtopnjjehefaghaaDoor
