/-
  rillref02: reduce: Gauss and Jordan over rows of its own.
-/
import Derived.Test.YtgnnfpnkhemimaaLjG
import Derived.Test.YtgnnfpnkhemimaaLjF
import Derived.StillTailTactics
namespace Go.Proofs.Ytgnnfpnkhemimaa
open Go.RowKit

theorem OwnRs.set {w : World} {B g n c : Nat} {ls : List (List Nat)} {x : HdT} {l : List Nat} (i : Nat) (h : OwnRs w B (some ⟨g, 0, none⟩) n c ls) (hx : w.ownsRow B 5 1 (SV x) l.length (l.map bv)) (hxl : x.2.1 = l.length) (hl : Bytes l ∧ l.length ≤ 140737488355328) :
    OwnRs (w.setCell ⟨g, i, none⟩ (SV x)) B (some ⟨g, 0, none⟩) n c (ls.set i l) := by
  obtain ⟨h0, hs, h1, h2, h3⟩ := h
  have hg := grown_set4 w g i (SV x)
  have k1 := own_set' h1 i (SV x)
  rw [← List.map_set] at k1
  have k2 : OwnsRows (w.setCell ⟨g, i, none⟩ (SV x)) B 5 hs ls := h2.kept hg (fun i y m a b => by
    have := own_ne (h2.2 i y m a b).2 h1 (by decide)
    simpa [Value.ownBlock] using this)
  have k3 := hx.kept hg (by
    have := own_ne hx h1 (by decide)
    simpa [Value.ownBlock] using this)
  refine ⟨by simp [h0], hs.set i x, k1, ⟨by simp [h2.1], fun j y m a b => ?_⟩, fun m hm => ?_⟩
  · rw [List.getElem?_set] at a b
    by_cases hi : i = j
    · rw [if_pos hi] at a b
      split at a
      · split at b
        · injection a with a
          injection b with b
          subst a b
          exact ⟨hxl, k3⟩
        · cases b
      · cases a
    · rw [if_neg hi] at a b
      exact k2.2 j y m a b
  · rcases List.mem_or_eq_of_mem_set hm with h | h
    · exact h3 m h
    · rw [h]; exact hl
/-- a row in its cell. -/
theorem OwnRs.row {w : World} {B g n c : Nat} {ls : List (List Nat)} {L : Nat} {l : List Nat} {i : Nat} (h : OwnRs w B (some ⟨g, 0, none⟩) n c ls) (hi : i < n) (hl : ls.getD i [] = l) (hL : l.length = L) : ∃ a' c', w.cell? ⟨g, i, none⟩ = some (.slice a' L c') ∧ w.ownsRow B 5 1 (.slice a' L c') L (l.map bv) ∧ BytesV w (a', L, c') l ∧ w.frozen? ⟨g, i, none⟩ = false := by
  obtain ⟨h0, hs, h1, h2, h3⟩ := h
  have hhs : hs.length = n := by have := h1.1; simpa using this
  obtain ⟨⟨a', n', c'⟩, hx⟩ : ∃ x, hs[i]? = some x := ⟨_, List.getElem?_eq_getElem (by omega)⟩
  have hli : ls[i]? = some l := by rw [← hl, List.getD_eq_getElem?_getD, List.getElem?_eq_getElem (by omega)]; rfl
  obtain ⟨e1, ho⟩ := h2.2 i _ l hx hli
  simp only at e1
  have en : n' = L := by omega
  subst en
  have hm := h3 l (List.mem_of_getElem? hli)
  rw [← e1] at ho
  obtain ⟨_, _, e, -, -, -, hrow⟩ := ownsRow_parts h1
  cases e
  obtain ⟨b, off, e, hc⟩ := hrow.2 (by omega)
  injection e with e
  injection e with e1 e2
  subst e1 e2
  have hci := hc i (by omega)
  rw [List.getElem?_map, hx, Nat.zero_add] at hci
  exact ⟨a', c', hci, ho, bytesV_of_owns ho hm.1 (by omega), h1.frozenAt i⟩
theorem OwnRs.swap {w : World} {B g n c : Nat} {ls : List (List Nat)} {L : Nat} {k ρ : Nat} {x y : HdT} (h : OwnRs w B (some ⟨g, 0, none⟩) n c ls) (hx : w.ownsRow B 5 1 (SV x) L ((ls.getD ρ []).map bv)) (hy : w.ownsRow B 5 1 (SV y) L ((ls.getD k []).map bv)) (hxl : x.2.1 = L) (hyl : y.2.1 = L) (hk : k < n) (hρ : ρ < n) (lx : (ls.getD ρ []).length = L) (ly : (ls.getD k []).length = L) :
    OwnRs ((w.setCell ⟨g, k, none⟩ (SV x)).setCell ⟨g, ρ, none⟩ (SV y)) B (some ⟨g, 0, none⟩) n c (swapR ls k ρ) := by
  have hm := h.rd.mem
  have m : ∀ i, i < n → Bytes (ls.getD i []) ∧ (ls.getD i []).length ≤ 140737488355328 := fun i hi => hm _ (mem_getD.2 ⟨i, by have := h.1; omega, rfl⟩)
  have hy' : (w.setCell ⟨g, k, none⟩ (SV x)).ownsRow B 5 1 (SV y) L ((ls.getD k []).map bv) := by
    obtain ⟨_, hs, h1, -⟩ := h
    exact hy.kept (grown_set4 w g k (SV x)) (by
      have := own_ne hy h1 (by decide)
      simpa [Value.ownBlock] using this)
  unfold swapR
  exact (h.set k (x := x) (by rw [lx]; exact hx) (by omega) (m ρ hρ)).set ρ (x := y) (by rw [ly]; exact hy') (by omega) (m k hk)
theorem OwnRs.ltg' {w : World} {B g n c : Nat} {ls : List (List Nat)} (h : OwnRs w B (some ⟨g, 0, none⟩) n c ls) : B ≤ g := h.ltg.1
theorem OwnRs.addr {w : World} {B n c : Nat} {a : Option Addr} {ls : List (List Nat)} (h : OwnRs w B a n c ls) (h0 : 0 < n) : ∃ g, a = some ⟨g, 0, none⟩ := by
  obtain ⟨_, hs, h1, -⟩ := h
  obtain ⟨_, _, e, hcase, hnc, -⟩ := ownsRow_parts h1
  cases e
  rcases hcase with ⟨_, h2, _⟩ | ⟨g, hg, -⟩
  · omega
  · exact ⟨g, hg⟩
theorem rws_norm {L : Nat} {m : List (List Nat)} {ρ c : Nat} (h : Rws m L) (hρ : ρ < m.length) : Rws (normR m ρ c) L := fun r hr => by
  obtain ⟨i, hi, rfl⟩ := mem_getD.1 hr
  rw [normR_length] at hi
  rw [normR_getD c hρ]
  split
  · exact ⟨scaleB_bytes (inv_lt _), by rw [scaleB_length]; exact (rws_at h hρ).2⟩
  · exact rws_at h hi
theorem rws_swap {L : Nat} {m : List (List Nat)} {ρ k : Nat} (h : Rws m L) (hk : k < m.length) (hρ : ρ < m.length) : Rws (swapR m k ρ) L := fun r hr => by
  obtain ⟨i, hi, rfl⟩ := mem_getD.1 hr
  rw [swapR_length] at hi
  rw [swapR_getD hk hρ]
  split
  · exact rws_at h hk
  · split
    · exact rws_at h hρ
    · exact rws_at h hi
theorem rws_elim {L : Nat} {m : List (List Nat)} {ρ c t : Nat} (h : Rws m L) (hρ : ρ < m.length) (ht : t ≤ m.length) : Rws (elimTo ρ c m t) L := fun r hr => by
  obtain ⟨i, hi, rfl⟩ := mem_getD.1 hr
  rw [elimTo_length] at hi
  rw [elimTo_getD ht]
  have a := rws_at h hi
  have b := rws_at h hρ
  split
  · exact ⟨rowTo_bytes c a.1, by rw [rowTo_length c (by rw [b.2, a.2]), a.2]⟩
  · exact a
end Go.Proofs.Ytgnnfpnkhemimaa
