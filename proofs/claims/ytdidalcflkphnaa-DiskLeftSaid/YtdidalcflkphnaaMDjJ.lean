/-
  disk: two disks that have no block in common; the laws' cut.
-/
import Derived.Test.YtdidalcflkphnaaMDjH
import Derived.Test.YtdidalcflkphnaaMLawD
namespace Go.Proofs.Ytdidalcflkphnaa
open Go.RowKit

set_option maxRecDepth 100000 in
set_option maxHeartbeats 4000000 in
theorem cut8_any (ad : Option Addr) (n c : Nat) (w : World) (hc : n ≤ c) (hs : c ≤ maxLen) :
    Calls Try.prog 13 #[.slice ad n c] w fun e w' => e = .returned (.slice ad (min n 60) c) ∧ w' = w := by
  unfold maxLen at hs
  by_cases h : 60 < n
  · have h60 : min n 60 = 60 := by omega
    rw [h60]
    have hI : (60 : Int) < (n : Int) := by omega
    have hcI : (60 : Int) ≤ (c : Int) := by omega
    go_enter Try.func13, Try.ntmps13
    go_wp2
    go_ret
    exact ⟨rfl, rfl⟩
  · have hn : min n 60 = n := by omega
    rw [hn]
    have hI : ¬ (60 : Int) < (n : Int) := by omega
    go_enter Try.func13, Try.ntmps13
    go_wp2
    go_ret
    exact ⟨rfl, rfl⟩
structure Two (B : Nat) (w0 w : World) (F : Nat → Prop) (g : Nat) (d : DV) (G : Nat → Prop) (k : Nat) (o : DV) : Prop where
  a : DL B w F g d
  b : DL B w G k o
  dis : ∀ q, F q → ¬ G q
  bel : Below B w0 w
theorem Two.symm {B : Nat} {w0 w : World} {F G : Nat → Prop} {g k : Nat} {d o : DV} (h : Two B w0 w F g d G k o) : Two B w0 w G k o F g d := ⟨h.b, h.a, fun q h1 h2 => h.dis q h2 h1, h.bel⟩
theorem Two.below {B : Nat} {w0 w w' : World} {F G : Nat → Prop} {g k : Nat} {d o : DV} (h : Two B w0 w F g d G k o) (hb : Below w.heap.size w w') : Two B w0 w' F g d G k o := ⟨h.a.below hb, h.b.below hb, h.dis, h.bel.trans (hb.mono h.a.base)⟩
/-- a call of the first. -/
theorem Two.fst {B : Nat} {w0 w w' : World} {F G : Nat → Prop} {g k : Nat} {d o d' : DV} {e : Ending} {err : Int} (h : Two B w0 w F g d G k o) (s : StepL B F g d' err w e w') :
    e = .returned (.int .i64 err) ∧ ∃ F', Two B w0 w' F' g d' G k o ∧ (∀ q, F' q → F q ∨ w.heap.size ≤ q) ∧ ChF F w w' := by
  obtain ⟨he, F', hD, hF, hc⟩ := s
  exact ⟨he, F', ⟨hD, h.b.chF hc (fun q h1 h2 => h.dis q h2 h1), fun q h1 h2 => by
    rcases hF q h1 with k | k
    · exact h.dis q k h2
    · have := h.b.hi q h2; omega, chF_lo h.bel hc h.a.lo h.a.base⟩, hF, hc⟩
/-- a block that is neither's. -/
def Out (t : Nat) (w : World) (F G : Nat → Prop) : Prop := t < w.heap.size ∧ ¬ F t ∧ ¬ G t
theorem Two.out {B : Nat} {w0 w : World} {F G : Nat → Prop} {g k : Nat} {d o : DV} (h : Two B w0 w F g d G k o) (ob : Obj) : Out w.heap.size (w.alloc ob) F G := ⟨by rw [alloc_sz]; omega, fun e => by have := h.a.hi _ e; omega, fun e => by have := h.b.hi _ e; omega⟩
theorem Out.fst {t : Nat} {w w' : World} {F F' G : Nat → Prop} (h : Out t w F G) (hF : ∀ q, F' q → F q ∨ w.heap.size ≤ q) (hc : ChF F w w') : Out t w' F' G ∧ w'.heap[t]? = w.heap[t]? :=
  ⟨⟨Nat.lt_of_lt_of_le h.1 hc.size, fun e => by
    rcases hF t e with k | k
    · exact h.2.1 k
    · have := h.1; omega, h.2.2⟩, hc.block t h.1 h.2.1⟩
theorem Out.symm {t : Nat} {w : World} {F G : Nat → Prop} (h : Out t w F G) : Out t w G F := ⟨h.1, h.2.2, h.2.1⟩
theorem Out.below {t : Nat} {w w' : World} {F G : Nat → Prop} (h : Out t w F G) (hb : Below w.heap.size w w') : Out t w' F G ∧ w'.heap[t]? = w.heap[t]? := ⟨⟨Nat.lt_of_lt_of_le h.1 hb.size, h.2.1, h.2.2⟩, hb.block t h.1⟩
/-- what a call that came in gives where it is read. -/
theorem CallsV.at {w0 w : World} {ad : Option Addr} {n c : Nat} {O : Nat → OpR} (h : CallsV w0 ad n c O) {i : Nat} (hi : i < n) {B : Nat} (hB : w0.heap.size ≤ B) (hb : Below B w0 w) : ∃ b o, ad = some ⟨b, o, none⟩ ∧ b < w0.heap.size ∧ OpAt w b (o + i * 7) (O i) := by
  obtain ⟨b, o, e, hlt, hc⟩ := h.row (by omega)
  exact ⟨b, o, e, hlt, (hc i hi).below hlt (hb.mono hB)⟩
end Go.Proofs.Ytdidalcflkphnaa
