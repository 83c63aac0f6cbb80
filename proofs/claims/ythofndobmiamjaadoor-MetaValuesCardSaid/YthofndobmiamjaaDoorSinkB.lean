/-
  A drawn region in which three operations may come up. Nothing of a program in sight.
-/
import Derived.Test.YthofndobmiamjaaDoorSink
namespace Go.Proofs.YthofndobmiamjaaDoor
open Go

section
variable {P : Program} {Q : Exit → Act → World → Prop} {S : World → Prop} {l : List Oper} {n : Nat}
theorem GoX.three {fuel : Nat} {listed : Array Bool} {a : Act} {w : World} (i j k : Nat) {oi oj ok : Oper} {ri rj rk : List Oper} (hdi : l.drop i = oi :: ri) (hdj : l.drop j = oj :: rj) (hdk : l.drop k = ok :: rk)
    (hf : Region.ready .any l.toArray listed = [i, j, k]) (hi : i < n) (hj : j < n) (hk : k < n)
    (h1 : ∀ K : Act → World → Prop, Shut (∀ a w, S w → (S w → GoX P l Q S n fuel (listed.setIfInBounds i true) a w) → K a w) → if Region.wanted oi (yielded l.toArray a.tmps) = true then Oper.wp P oi a w K Q else K (a.put oi.dst undef) w)
    (h2 : ∀ K : Act → World → Prop, Shut (∀ a w, S w → (S w → GoX P l Q S n fuel (listed.setIfInBounds j true) a w) → K a w) → if Region.wanted oj (yielded l.toArray a.tmps) = true then Oper.wp P oj a w K Q else K (a.put oj.dst undef) w)
    (h3 : ∀ K : Act → World → Prop, Shut (∀ a w, S w → (S w → GoX P l Q S n fuel (listed.setIfInBounds k true) a w) → K a w) → if Region.wanted ok (yielded l.toArray a.tmps) = true then Oper.wp P ok a w K Q else K (a.put ok.dst undef) w) : GoX P l Q S n (fuel + 1) listed a w := by
  have g1 : l.toArray[i]? = some oi := by simpa using drop_at hdi
  have g2 : l.toArray[j]? = some oj := by simpa using drop_at hdj
  have g3 : l.toArray[k]? = some ok := by simpa using drop_at hdk
  refine ⟨fun inv => ⟨fun h0 => (by rw [h0] at hf; cases hf), fun m hm => ?_⟩⟩
  have hr := hm
  rw [hf] at hm
  simp only [List.mem_cons, List.not_mem_nil, or_false] at hm
  rcases hm with rfl | rfl | rfl
  · exact wpOp_step g1 (fun K hK => h1 K (fun a w hS hG => hK a w ⟨fun _ => hS, (hG hS).go (inv.set hr hi)⟩))
  · exact wpOp_step g2 (fun K hK => h2 K (fun a w hS hG => hK a w ⟨fun _ => hS, (hG hS).go (inv.set hr hj)⟩))
  · exact wpOp_step g3 (fun K hK => h3 K (fun a w hS hG => hK a w ⟨fun _ => hS, (hG hS).go (inv.set hr hk)⟩))
end
end Go.Proofs.YthofndobmiamjaaDoor
