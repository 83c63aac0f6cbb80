/-
  disk: the calls as a law sees them: a disk whose blocks all lie at B or behind.
-/
import Derived.Test.YtdidalcflkphnaaMDjD
namespace Go.Proofs.Ytdidalcflkphnaa
open Go.RowKit

structure DL (B : Nat) (w : World) (F : Nat → Prop) (g : Nat) (d : DV) : Prop where
  m : DiskM w F g d
  lo : ∀ b, F b → B ≤ b
theorem DL.hi {B : Nat} {w : World} {F : Nat → Prop} {g : Nat} {d : DV} (h : DL B w F g d) : ∀ b, F b → b < w.heap.size := h.m.lt.1
theorem DL.base {B : Nat} {w : World} {F : Nat → Prop} {g : Nat} {d : DV} (h : DL B w F g d) : B ≤ w.heap.size := Nat.le_trans (h.lo g h.m.lt.2) (Nat.le_of_lt (h.hi g h.m.lt.2))
theorem DL.below {B : Nat} {w w' : World} {F : Nat → Prop} {g : Nat} {d : DV} (h : DL B w F g d) (hb : Below w.heap.size w w') : DL B w' F g d := ⟨h.m.keep (G := fun _ => False) (.of_below hb) (fun _ _ e => e), h.lo⟩
theorem DL.chF {B : Nat} {w w' : World} {F G : Nat → Prop} {g : Nat} {d : DV} (h : DL B w F g d) (hc : ChF G w w') (hn : ∀ b, F b → ¬ G b) : DL B w' F g d := ⟨h.m.keep hc hn, h.lo⟩
/-- what a call of a disk leaves: another footprint, of the elder one and what is new. -/
def StepL (B : Nat) (F : Nat → Prop) (g : Nat) (d' : DV) (err : Int) (w : World) (e : Ending) (w' : World) : Prop :=
  e = .returned (.int .i64 err) ∧ ∃ F', DL B w' F' g d' ∧ (∀ b, F' b → F b ∨ w.heap.size ≤ b) ∧ ChF F w w'
theorem stepL_of {B : Nat} {F : Nat → Prop} {g : Nat} {d d' : DV} {err : Int} {w : World} {e : Ending} {w' : World} (h : DL B w F g d) (k : e = .returned (.int .i64 err) ∧ DiskM w' (Gr F w w') g d' ∧ ChF F w w') : StepL B F g d' err w e w' :=
  ⟨k.1, Gr F w w', ⟨k.2.1, fun b hb => by rcases hb with q | q; exact h.lo b q; have := h.base; omega⟩, fun b hb => by rcases hb with q | q; exact .inl q; exact .inr q.1, k.2.2⟩
theorem DL.apart {B : Nat} {w w0 : World} {F : Nat → Prop} {g : Nat} {d : DV} (h : DL B w F g d) {x : HdT} {l : List Nat} (hx : BytesV w0 x l) (hB : w0.heap.size ≤ B) : 0 < x.2.1 → ∀ b, (SV x).ownBlock = some b → ¬ F b := fun h0 b hb hF => by
  obtain ⟨x1, x2, x3⟩ := x
  obtain ⟨b', off, e, -⟩ := hx.row.2 h0
  have h2 := hx.row.lt h0 e
  simp only at h2 e
  subst e
  have h3 := h.lo b hF
  have : b' = b := by simpa [SV, Value.ownBlock] using hb
  omega
theorem DL.apartN {B : Nat} {w : World} {F : Nat → Prop} {g : Nat} {d : DV} (h : DL B w F g d) {w' : World} {x : HdT} {n : Nat} {xs : List Value} {T : TypeId} (hx : w'.ownsRow w.heap.size T 1 (SV x) n xs) : 0 < x.2.1 → ∀ b, (SV x).ownBlock = some b → ¬ F b := fun _ b hb hF => by
  have h1 := (hx.lt b hb).1
  have h2 := h.hi b hF
  omega
theorem append_l (B : Nat) (F : Nat → Prop) (g : Nat) (d : DV) (ba : Option Addr) (bn bc : Nat) (l : List Nat) (w : World) (h : DL B w F g d) (hb : BytesV w (ba, bn, bc) l) (hbF : 0 < bn → ∀ b, (SV (ba, bn, bc)).ownBlock = some b → ¬ F b) (hs : d.read.length + l.length ≤ 1000000000) :
    Calls Try.prog 20 #[.pointer (some ⟨g, 0, none⟩), .slice ba bn bc] w (StepL B F g (appV d l).1 (appV d l).2 w) := (append_any F g d ba bn bc l w h.m hb hbF hs).mono fun _ _ k => stepL_of h k
theorem lay_l (B : Nat) (F : Nat → Prop) (g : Nat) (d : DV) (ba : Option Addr) (bn bc : Nat) (l : List Nat) (w : World) (h : DL B w F g d) (hb : BytesV w (ba, bn, bc) l) (hbF : 0 < bn → ∀ b, (SV (ba, bn, bc)).ownBlock = some b → ¬ F b) (hs : l.length ≤ 1000000000) :
    Calls Try.prog 21 #[.pointer (some ⟨g, 0, none⟩), .slice ba bn bc] w (StepL B F g (layV d l).1 (layV d l).2 w) := (lay_any F g d ba bn bc l w h.m hb hbF hs).mono fun _ _ k => stepL_of h k
theorem sync_l (B : Nat) (F : Nat → Prop) (g : Nat) (d : DV) (w : World) (h : DL B w F g d) :
    Calls Try.prog 24 #[.pointer (some ⟨g, 0, none⟩)] w (StepL B F g (syncV d).1 (syncV d).2 w) := (sync_any F g d w h.m).mono fun _ _ k => ⟨k.1, F, ⟨k.2.1, h.lo⟩, fun _ hb => .inl hb, k.2.2⟩
theorem slots_l (B : Nat) (F : Nat → Prop) (g : Nat) (d : DV) (w : World) (h : DL B w F g d) :
    Calls Try.prog 25 #[.pointer (some ⟨g, 0, none⟩)] w (StepL B F g (slotsV d).1 (slotsV d).2 w) := (slotsync_any F g d w h.m).mono fun _ _ k => stepL_of h k
theorem write_l (B : Nat) (F : Nat → Prop) (g : Nat) (d : DV) (i : Int) (ba : Option Addr) (bn bc : Nat) (l : List Nat) (w : World) (h : DL B w F g d) (hb : BytesV w (ba, bn, bc) l) (hbF : 0 < bn → ∀ b, (SV (ba, bn, bc)).ownBlock = some b → ¬ F b) :
    Calls Try.prog 23 #[.pointer (some ⟨g, 0, none⟩), .int .i64 i, .slice ba bn bc] w (StepL B F g (writeV d i l).1 (writeV d i l).2 w) := (write_any F g d i ba bn bc l w h.m hb hbF).mono fun _ _ k => stepL_of h k
theorem rot_l (B : Nat) (F : Nat → Prop) (g : Nat) (d : DV) (i bit : Int) (w : World) (h : DL B w F g d) (hbit : bit ≤ 9223372036854775807) :
    Calls Try.prog 29 #[.pointer (some ⟨g, 0, none⟩), .int .i64 i, .int .i64 bit] w (StepL B F g (rotV d i bit).1 (rotV d i bit).2 w) := (rot_any F g d i bit w h.m hbit).mono fun _ _ k => stepL_of h k
/-- a disk that is new. -/
def NewL (B : Nat) (d' : DV) (w : World) (v : Nat → Value) (e : Ending) (w' : World) : Prop :=
  ∃ gl F, e = .returned (v gl) ∧ DL B w' F gl d' ∧ (∀ b, F b → w.heap.size ≤ b) ∧ Below w.heap.size w w'
theorem new_l (B : Nat) (n : Nat) (p : Int) (w : World) (hB : B ≤ w.heap.size) (h1 : 1 ≤ n) (h2 : n ≤ 512) (hp : p ≤ 9223372036854775807) :
    Calls Try.prog 11 #[.int .i64 (n : Nat), .int .i64 p] w (NewL B (newV n p) w (fun g => .tuple #[.pointer (some ⟨g, 0, none⟩), .int .i64 0])) := (new_ok n p w h1 h2 hp).mono fun _ _ ⟨g, he, hd, hb⟩ =>
  ⟨g, _, he, ⟨hd, fun _ q => Nat.le_trans hB q.1⟩, fun _ q => q.1, hb⟩
theorem left_l (B : Nat) (F : Nat → Prop) (g : Nat) (d : DV) (keep : Int) (reset : Bool) (fa : Option Addr) (fn fc : Nat) (fs : List Int) (p : Int) (w : World) (h : DL B w F g d) (hf : IntsV w (fa, fn, fc) fs) (hp : p ≤ 9223372036854775807) (hn : d.sl.length ≤ 1000000) (hsafe : d.safe.length ≤ 1000000000) (hwf : ∀ z ∈ fs, -9223372036854775808 ≤ z ∧ z ≤ 9223372036854775807) :
    Calls Try.prog 17 #[.pointer (some ⟨g, 0, none⟩), .agg #[.int .i64 keep, .bool reset, .slice fa fn fc], .int .i64 p] w (NewL B (leftV d keep reset fs p) w (fun g => .pointer (some ⟨g, 0, none⟩))) := (left_any F g d keep reset fa fn fc fs p w h.m hf hp hn hsafe hwf).mono fun _ _ ⟨gl, he, hd, hb⟩ =>
  ⟨gl, _, he, ⟨hd, fun _ q => Nat.le_trans h.base q.1⟩, fun _ q => q.1, hb⟩
/-- bytes that are answered. -/
theorem read_l (B : Nat) (F : Nat → Prop) (g : Nat) (d : DV) (i : Int) (w : World) (h : DL B w F g d) :
    Calls Try.prog 28 #[.pointer (some ⟨g, 0, none⟩), .int .i64 i] w fun e w' => ∃ ad cap, e = .returned (.tuple #[.slice ad (readV d i).1.length cap, .int .i64 (readV d i).2]) ∧ w'.ownsRow w.heap.size 5 1 (.slice ad (readV d i).1.length cap) (readV d i).1.length ((readV d i).1.map bv) ∧ Below w.heap.size w w' := read_any F g d i w h.m
end Go.Proofs.Ytdidalcflkphnaa
