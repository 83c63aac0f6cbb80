/-
  Slices of ints, and SameInts.
-/
import Derived.Test.YtnefcbcioemfiaaRows
import Derived.Test.YtnefcbcioemfiaaMem
import Derived.WalkSpells
import Derived.WalkLawsBesides
import Derived.BigQuiet
import Derived.Deep.QuietTactic
import Derived.Lib.Hide
namespace Go.Proofs.Ytnefcbcioemfiaa
open Go.RowKit

/-- One slice of ints, not too long. -/
structure IntsV (w : World) (x : Option Addr × Nat × Nat) (l : List Int) : Prop where
  row : RowV w x.1 x.2.1 (l.map iv)
  small : x.2.1 ≤ 140737488355328
  cap : x.2.1 ≤ x.2.2
  nil : x.1 = none → x.2.2 = 0
theorem IntsV.length {w : World} {x : Option Addr × Nat × Nat} {l : List Int} (h : IntsV w x l) : l.length = x.2.1 := by have := h.row.1; simpa using this
theorem IntsV.below {w w' : World} {x : Option Addr × Nat × Nat} {l : List Int} (h : IntsV w x l) (hb : Below w.heap.size w w') : IntsV w' x l := ⟨h.row.below hb, h.small, h.cap, h.nil⟩
theorem IntsV.alloc {w : World} {x : Option Addr × Nat × Nat} {l : List Int} {o : Obj} (h : IntsV w x l) : IntsV (w.alloc o) x l := h.below (below_alloc w o)
theorem ext_getDi {a b : List Int} (hl : a.length = b.length) (h : ∀ i, i < a.length → a.getD i 0 = b.getD i 0) : a = b := by
  apply List.ext_getElem hl
  intro i h1 h2
  have := h i h1
  simpa [List.getD_eq_getElem?_getD, List.getElem?_eq_getElem h1, List.getElem?_eq_getElem h2] using this
theorem below_drewNi {B : Nat} {a w : World} (h : Below B a w) : ∀ n, Below B a (w.drewN n)
  | 0 => h
  | n + 1 => (below_drewNi h n).drew

set_option maxHeartbeats 400000 in
theorem sameInts_quiet (a1 : Option Addr) (n1 c1 : Nat) (l1 : List Int) (a2 : Option Addr) (n2 c2 : Nat) (l2 : List Int) (w : World) (h1 : IntsV w (a1, n1, c1) l1) (h2 : IntsV w (a2, n2, c2) l2) :
    Calls Try.prog 31 #[.slice a1 n1 c1, .slice a2 n2 c2] w fun e w' => e = .returned (.bool (decide (l1 = l2))) ∧ ∃ m, w' = w.drewN m := by
  have hl1 : l1.length = n1 := h1.length
  have hl2 : l2.length = n2 := h2.length
  by_cases hn : n1 = n2
  · subst hn
    have hsm : n1 ≤ 140737488355328 := h1.small
    have HL1 := Lib.hid hl1
    have HL2 := Lib.hid hl2
    clear hl1 hl2
    go_enter Try.func31, Try.ntmps31
    go_wp2
    go_loopw [5] (fun i wr => ∃ k : Nat, k ≤ n1 ∧ i = .int .i64 k ∧ (∀ j, j < k → l1.getD j 0 = l2.getD j 0) ∧ ∃ m, wr = w.drewN m) (fun i _ => n1 - (intOf i).toNat)
    case atStart => exact ⟨0, Nat.zero_le _, rfl, fun j hj => absurd hj (by omega), 0, rfl⟩
    case round =>
      obtain ⟨k, hk, rfl, heq, hdr⟩ := hrel
      have hb : Below w.heap.size w wr := by obtain ⟨m, rfl⟩ := hdr; exact below_drewNi (Below.refl _ _) _
      have HD := Lib.hid hdr
      clear hdr
      have HEQ := Lib.hid heq
      clear heq
      by_cases hlt : k < n1
      · obtain ⟨b1, o1, e1, hc1⟩ := (h1.row.below hb).2 (by simp; omega)
        obtain ⟨b2, o2, e2, hc2⟩ := (h2.row.below hb).2 (by simp; omega)
        simp only at e1 e2
        subst e1 e2
        have d1 := (hc1 k hlt).trans (iv_getD (by rw [HL1.out]; exact hlt))
        have d2 := (hc2 k hlt).trans (iv_getD (by rw [HL2.out]; exact hlt))
        clear hc1 hc2
        obtain ⟨x, hx⟩ : ∃ x, x = l1.getD k 0 := ⟨_, rfl⟩
        obtain ⟨y, hy⟩ : ∃ y, y = l2.getD k 0 := ⟨_, rfl⟩
        rw [← hx] at d1
        rw [← hy] at d2
        have HX := Lib.hid hx
        have HY := Lib.hid hy
        clear hx hy
        go_wp2
        go_quiet (fail)
        go_wp2
        · have hxy := ‹(x != y) = true›
          have hf : ¬ l1 = l2 := by
            intro e
            rw [bne_iff_ne] at hxy
            apply hxy
            rw [HX.out, HY.out, e]
          go_ret
          refine ⟨?_, ?_⟩
          · rw [decide_eq_false hf]; rfl
          · obtain ⟨m, hm⟩ := HD.out; exact ⟨m + nq, by rw [hm, World.drewN_drewN]⟩
        · have hxy := ‹(x != y) = false›
          have hxy' : x = y := by
            have : ¬ x ≠ y := by intro h; rw [← bne_iff_ne, hxy] at h; cases h
            omega
          go_roundw
          case rel =>
            refine ⟨k + 1, by omega, by go_num, ?_, by obtain ⟨m, hm⟩ := HD.out; exact ⟨m + nq, by rw [hm, World.drewN_drewN]⟩⟩
            intro j hj
            by_cases e : j = k
            · subst e; rw [← HX.out, ← HY.out, hxy']
            · exact HEQ.out j (by omega)
          case measure => simp [intOf]; omega
      · obtain rfl : k = n1 := by omega
        go_wp2
        go_ret
        refine ⟨?_, HD.out⟩
        rw [decide_eq_true (ext_getDi (by rw [HL1.out, HL2.out]) (fun i hi => HEQ.out i (by rw [HL1.out] at hi; exact hi)))]
        rfl
  · have hne : ((n1 : Int) != (n2 : Int)) = true := by rw [bne_iff_ne]; omega
    have hf : ¬ l1 = l2 := by intro e; subst e; omega
    clear hl1 hl2
    go_enter Try.func31, Try.ntmps31
    go_wp2
    go_ret
    refine ⟨?_, 0, rfl⟩
    rw [decide_eq_false hf]
    rfl

theorem sameInts_any (a1 : Option Addr) (n1 c1 : Nat) (l1 : List Int) (a2 : Option Addr) (n2 c2 : Nat) (l2 : List Int) (w : World) (h1 : IntsV w (a1, n1, c1) l1) (h2 : IntsV w (a2, n2, c2) l2) :
    Calls Try.prog 31 #[.slice a1 n1 c1, .slice a2 n2 c2] w fun e w' => e = .returned (.bool (decide (l1 = l2))) ∧ Below w.heap.size w w' :=
  (sameInts_quiet a1 n1 c1 l1 a2 n2 c2 l2 w h1 h2).mono fun _ _ ⟨he, m, hm⟩ => ⟨he, by rw [hm]; exact below_drewNi (Below.refl _ _) _⟩

end Go.Proofs.Ytnefcbcioemfiaa
