/-
  rilllaw04: RqInner.
-/
import Derived.Test.YtfjcbgfgiidogaaDoorMRqU
namespace Go.Proofs.YtfjcbgfgiidogaaDoor
open Go.RowKit

theorem fixedR_ok {k : Nat} (h1 : 1 ≤ k) (hk : k ≤ 32) : fixedR (k : Int) = (fixedL k, 0) := by
  unfold fixedR
  rw [if_pos (okK_iff.2 ⟨by omega, by omega⟩), Int.toNat_natCast]
theorem rowR_ok {k : Nat} (h1 : 1 ≤ k) (hk : k ≤ 32) (e : Int) : rowR (k : Int) e = if okE e = true then (symR k e.toNat, 0) else ([], 40) := by
  unfold rowR
  rw [if_pos (okK_iff.2 ⟨by omega, by omega⟩), Int.toNat_natCast]
theorem apply_fixed {k t : Nat} {X : List (List Nat)} (h1 : 1 ≤ k) (hk : k ≤ 32) (hX : X.length = cL k) (hXr : Rws X t) (hf : ∀ r ∈ fixedL k, mixS X r = zs t) : applyR ((cL k : Nat) : Int) (fixedL k) X = (List.replicate (cL k - k) (zs t), 0) := by
  obtain ⟨g1, g2, g3⟩ := cL_facts h1 hk
  have hfl := fixed_length (k := k) (code_facts h1 hk).2.2.2.1
  unfold applyR
  rw [if_pos (applyOK_iff.2 ⟨right_all (fixed_all k) g1 (by omega) (by rw [hfl]; omega), by rw [hX], even_of_rws hXr⟩), applyOf_eq]
  have hall : ∀ b ∈ (fixedL k).map (mixS X), b = zs t := fun b hb => by
    obtain ⟨r, hr, rfl⟩ := List.mem_map.1 hb
    exact hf r hr
  have hlen : ((fixedL k).map (mixS X)).length = cL k - k := by rw [List.length_map, hfl]
  rw [List.eq_replicate_iff.2 ⟨hlen, hall⟩]

end Go.Proofs.YtfjcbgfgiidogaaDoor
