/-
  lin: a system in memory: is it full; an equation worked off.
-/
import Derived.Test.YtgnnfpnkhemimaaLiR
import Derived.Deep.RegionHeld3
namespace Go.Proofs.Ytgnnfpnkhemimaa
open Go.RowKit

set_option maxRecDepth 10000 in
set_option maxHeartbeats 1000000 in
theorem full_any (w0 w : World) (g gm cols wid : Nat) (s : Wk × Bool) (hd : Nat → Option HdT) (h : SysV w0 w g gm cols wid s hd) :
    Calls Try.prog 28 #[.pointer (some ⟨g, 0, none⟩)] w fun x w' => x = .returned (.bool (decide (count s.1 cols = cols))) ∧ Below w.heap.size w w' := by
  obtain ⟨D, hown, hs, hR⟩ := h.map
  have hlen : ∀ (m : Nat) ty, (Builtin.len_ #[48] ty #[.map (some gm)]).run Try.prog (w.drewN m) = .ok (.int .i64 ((count s.1 cols : Nat) : Int)) (w.drewN m) := fun m ty => by
    have h1 : (w.drewN m).ownsMap Try.prog 3 hdElem gm (count s.1 cols) D := hown.kept (grownBy_of_below (below_drewN (Below.refl _ _) m) none) (by simp)
    have := h1.len Try.underlying48 ty
    rw [hs] at this
    exact this
  have hlen0 := hlen 0
  have hb := h.box
  unfold ST at hb
  obtain ⟨p0, p1, p2, p3, pF⟩ := box4_cells hb
  clear hown hs hR hb h
  obtain ⟨n, hn⟩ : ∃ n, n = count s.1 cols := ⟨_, rfl⟩
  rw [← hn] at hlen hlen0 ⊢
  clear hn
  go_enter Try.func28, Try.ntmps28
  go_wp2
  go_quiet (fail)
  go_wp2
  go_ret
  refine ⟨?_, below_drewN (Below.refl _ _) nq⟩
  have : decide (n = cols) = ((n : Int) == (cols : Int)) := by rw [Bool.eq_iff_iff, decide_eq_true_iff, beq_iff_eq]; omega
  rw [this]
  rfl

/-- block q holds no cells. -/
def NoCells (w : World) (q : Nat) : Prop := ∀ cs T fr, w.heap[q]? ≠ some (.cells cs T fr)
theorem cell_ne {w : World} {b o q : Nat} {v : Value} (h : w.cell? ⟨b, o, none⟩ = some v) (hq : NoCells w q) : b ≠ q := by
  intro e
  subst e
  unfold World.cell? at h
  cases hh : w.heap[b]? with
  | none => rw [hh] at h; simp at h
  | some ob =>
    cases ob with
    | cells cs T fr => exact hq cs T fr hh
    | _ => rw [hh] at h; simp at h
theorem RowV.keptQ {w w' : World} {ad : Option Addr} {n q : Nat} {vs : List Value} (h : RowV w ad n vs) (hg : w.grownBy w' (some q)) (hq : NoCells w q) : RowV w' ad n vs :=
  h.kept' fun hl a ha => by
    obtain ⟨b, off, e, hc⟩ := h.2 hl
    have h0 := hc 0 hl
    rw [List.getElem?_eq_getElem (by rw [h.1]; exact hl)] at h0
    rw [e] at ha
    cases ha
    exact hg.block b (block_lt_of_cell h0) (fun e2 => cell_ne h0 hq (by injection e2))
theorem BytesV.keptQ {w w' : World} {x : HdT} {l : List Nat} {q : Nat} (h : BytesV w x l) (hg : w.grownBy w' (some q)) (hq : NoCells w q) : BytesV w' x l := ⟨h.row.keptQ hg hq, h.bytes, h.small, h.cap, h.nil⟩
theorem MapH.noCells {w : World} {b : Nat} {f : Nat → Option HdT} {cnt : Nat} (h : MapH w b f cnt) : NoCells w b := by
  obtain ⟨D, ⟨es, clock, hb, _⟩, _⟩ := h
  intro cs T fr e
  rw [hb] at e
  cases e
theorem RangeH.noCells {w : World} {b r : Nat} {f : Nat → Option HdT} {left : Nat → Bool} {cnt m : Nat} (h : RangeH w b r f left cnt m) : NoCells w r := by
  obtain ⟨D, lf, ⟨es, clock, since, seen, c0, hb, _, _, _, hr, _⟩, _⟩ := h
  intro cs T fr e
  rw [hr] at e
  cases e
/-- the equations' slices. -/
def RowsOK (w : World) (f : Wk) (hd : Nat → Option HdT) (L : Nat) : Prop := (∀ c r, f c = some r → ∃ x, hd c = some x ∧ x.2.1 = L ∧ BytesV w x r) ∧ ∀ c, f c = none → hd c = none
theorem RowsOK.at {w : World} {f : Wk} {hd : Nat → Option HdT} {L : Nat} (h : RowsOK w f hd L) {c : Nat} {x : HdT} (hc : hd c = some x) : ∃ r, f c = some r ∧ x.2.1 = L ∧ BytesV w x r := by
  cases e : f c with
  | none => rw [h.2 c e] at hc; cases hc
  | some r =>
    obtain ⟨y, h1, h2, h3⟩ := h.1 c r e
    rw [hc] at h1
    injection h1 with h1
    subst h1
    exact ⟨r, rfl, h2, h3⟩
theorem RowsOK.below {w w' : World} {f : Wk} {hd : Nat → Option HdT} {L : Nat} (h : RowsOK w f hd L) (hb : Below w.heap.size w w') : RowsOK w' f hd L := ⟨fun c r hc => by obtain ⟨x, h1, h2, h3⟩ := h.1 c r hc; exact ⟨x, h1, h2, h3.below hb⟩, h.2⟩
theorem RowsOK.keptQ {w w' : World} {f : Wk} {hd : Nat → Option HdT} {L q : Nat} (h : RowsOK w f hd L) (hg : w.grownBy w' (some q)) (hq : NoCells w q) : RowsOK w' f hd L := ⟨fun c r hc => by obtain ⟨x, h1, h2, h3⟩ := h.1 c r hc; exact ⟨x, h1, h2, h3.keptQ hg hq⟩, h.2⟩
theorem RowsOK.isSome {w : World} {f : Wk} {hd : Nat → Option HdT} {L : Nat} (h : RowsOK w f hd L) (c : Nat) : (hd c).isSome = (f c).isSome := by
  cases e : f c with
  | none => rw [h.2 c e]; rfl
  | some r => obtain ⟨x, h1, _⟩ := h.1 c r e; rw [h1]; rfl
theorem box_keptQ {w w' : World} {b q : Nat} {cs : Array Value} {T : TypeId} {fr : Nat × Nat} (h : w.heap[b]? = some (.cells cs T fr)) (hg : w.grownBy w' (some q)) (hq : NoCells w q) : w'.heap[b]? = some (.cells cs T fr) :=
  (hg.block b (Array.getElem?_eq_some_iff.1 h).1 (fun e => by injection e with e; subst e; exact hq _ _ _ h)).trans h
theorem grown_none {w w' : World} (h : w.grownBy w' none) : Below w.heap.size w w' := ⟨h.os, h.tape, h.output, h.size, fun b hb => h.block b hb (by simp)⟩

/-- what the first loop has cleared. -/
def seenP (f : Wk) (left : Nat → Bool) (c : Nat) : Bool := (f c).isSome && !left c
theorem seenP_step {cols L : Nat} {f : Wk} (h : Sys cols L f) {eq : List Nat} {left : Nat → Bool} {x : Nat} {r : List Nat} (hx : f x = some r) (hl : left x = true) (hL : cols ≤ eq.length) :
    addTo (clr f eq (seenP f left) cols) ((clr f eq (seenP f left) cols).getD x 0) r = clr f eq (seenP f (fun z => left z && !(z == x))) cols := by
  rw [clr_step h hx (by unfold seenP; rw [hl]; simp) (fun c hc => by unfold seenP at hc; simp only [Bool.and_eq_true] at hc; exact Option.isSome_iff_exists.1 hc.1) hL]
  apply clr_congr
  intro c _
  unfold seenP
  by_cases e : c = x
  · subst e; simp [hx]
  · have : (c == x) = false := by simpa using e
    simp [this]
theorem seenP_start (f : Wk) (eq : List Nat) (hd : Nat → Option HdT) (h : ∀ c, (hd c).isSome = (f c).isSome) (n : Nat) : clr f eq (seenP f (fun c => (hd c).isSome)) n = eq :=
  clr_none _ _ _ _ fun c => by unfold seenP; simp only [h]; simp
theorem seenP_end (f : Wk) (eq : List Nat) (left : Nat → Bool) (h : ∀ c, left c = false) (n : Nat) : clr f eq (seenP f left) n = clrAll f eq n :=
  clr_congr _ _ _ fun c _ => by unfold seenP; rw [h]; simp
/-- what the second loop has cleared. -/
def f2 (f : Wk) (l : Nat) (e : List Nat) (left : Nat → Bool) : Wk := fun c => (f c).map fun r => if left c then r else addTo r (r.getD l 0) e
end Go.Proofs.Ytgnnfpnkhemimaa
