/-
  Me1: MeA MeB MeC MeD MeE MeF MeG MeH MeI MeJ MeK MeL
-/
import Derived.Test.YtopnjjehefaghaaDoorRows
import Derived.WalkKit
import Derived.WalkSpells
import Derived.WalkLawsBesides
import Derived.Laws.Rows
import Derived.Laws.Tables
import Derived.Lib.Hide
import Derived.StillTailTactics
import Derived.Deep.AppendLies
import Derived.Deep.RegionLaw
import Derived.Laws.IdiomStrings
import Derived.Deep.CutBlock
import Derived.Deep.DeepCutAuto
import Derived.Laws.StructEq
import Derived.Laws.AppendOwn
import Derived.Laws.OwnMore
import Derived.Test.YtopnjjehefaghaaDoorMBase
import Derived.Test.YtopnjjehefaghaaDoorMCh3
namespace Go.Proofs.YtopnjjehefaghaaDoor
open Go.RowKit

/-- the meta of a key's end, with tag 1. -/
def dead1 : Array Value := #[.int .i64 1, .int .i64 0, .int .i64 0, .int .i64 0, .bool true, .slice none 0 0]

set_option maxRecDepth 10000 in
theorem rightTag_one (w : World) : Calls Tryd.prog 62 #[.agg #[.int .i64 1, .int .i64 0]] w fun e w' => e = .returned (.bool true) ∧ Below w.heap.size w w' := by
  go_enter Tryd.func62, Tryd.ntmps62
  go_wp2
  go_ret
  exact ⟨rfl, below_alloc _ _⟩

theorem trans_allocM {n : Nat} {w w1 w2 : World} {o : Obj} (h : Below n w w1) (hb : Below (w1.alloc o).heap.size (w1.alloc o) w2) (hn : n ≤ w1.heap.size) : Below n w w2 :=
  (h.alloc hn o).trans (hb.mono (Nat.le_trans hn (by simp)))
theorem trans_belowM {n : Nat} {w w1 w2 : World} (h : Below n w w1) (hb : Below w1.heap.size w1 w2) (hn : n ≤ w1.heap.size) : Below n w w2 := h.trans (hb.mono hn)

set_option maxRecDepth 10000 in
set_option maxHeartbeats 1000000 in
theorem check_dead (w : World) : Calls Tryd.prog 42 #[.agg dead1] w fun e w' => e = .returned (.int .i64 0) ∧ Below w.heap.size w w' := by
  have KR := rightTag_one
  unfold dead1
  go_enter Tryd.func42, Tryd.ntmps42
  go_wp2_with (first
    | (go_at_call 62; (with_reducible refine (KR _).mono ?_); rintro e w1 ⟨rfl, hb1⟩))
  go_ret
  exact ⟨rfl, trans_allocM (Below.refl _ _) hb1 (Nat.le_refl _)⟩

theorem key_k (w : World) (s : ByteArray) (hs : s.size = 1) : Calls Tryd.prog 65 #[.string s] w fun e w' => e = .returned (.bool true) ∧ w' = w := by
  go_enter Tryd.func65, Tryd.ntmps65
  go_wp2
  go_ret
  exact ⟨rfl, rfl⟩

end Go.Proofs.YtopnjjehefaghaaDoor
namespace Go.Proofs.YtopnjjehefaghaaDoor
open Go.RowKit

theorem after_callM (w w1 : World) (o : Obj) (hb : Below (w.alloc o).heap.size (w.alloc o) w1) : w1.heap[w.heap.size]? = some o ∧ Below w.heap.size w w1 :=
  ⟨(hb.block w.heap.size (by simp)).trans (heap_alloc_new w o), ((Below.refl _ _).alloc (Nat.le_refl _) o).trans (hb.mono (by simp))⟩
theorem after_call2 (w w1 : World) (o p : Obj) (hb : Below ((w.alloc o).alloc p).heap.size ((w.alloc o).alloc p) w1) : w1.heap[w.heap.size]? = some o ∧ w1.heap[w.heap.size + 1]? = some p ∧ Below w.heap.size w w1 := by
  refine ⟨?_, ?_, ?_⟩
  · rw [hb.block w.heap.size (by simp; omega), heap_alloc_old _ _ (by simp)]; exact heap_alloc_new _ _
  · rw [hb.block (w.heap.size + 1) (by simp)]
    have := heap_alloc_new (w.alloc o) p
    simpa using this
  · exact ((below_alloc w o).alloc (by simp) p).trans (hb.mono (by simp; omega))
theorem cells6M {w : World} {b : Nat} {v0 v1 v2 v3 v4 v5 : Value} {T : TypeId} (h : w.heap[b]? = some (.cells #[v0, v1, v2, v3, v4, v5] T (0, 0))) :
    w.cell? ⟨b, 0, none⟩ = some v0 ∧ w.cell? ⟨b, 1, none⟩ = some v1 ∧ w.cell? ⟨b, 2, none⟩ = some v2 ∧ w.cell? ⟨b, 3, none⟩ = some v3 ∧ w.cell? ⟨b, 4, none⟩ = some v4 ∧ w.cell? ⟨b, 5, none⟩ = some v5 ∧ ∀ j, w.frozen? ⟨b, j, none⟩ = false :=
  ⟨cell_of_row _ _ 0 _ _ _ h, cell_of_row _ _ 1 _ _ _ h, cell_of_row _ _ 2 _ _ _ h, cell_of_row _ _ 3 _ _ _ h, cell_of_row _ _ 4 _ _ _ h, cell_of_row _ _ 5 _ _ _ h, fun _ => frozen_of_row _ _ _ _ _ h⟩
def set6 (w : World) (g : Nat) (v0 v1 v2 v3 v4 v5 : Value) : World := (((((w.setCell ⟨g, 0, none⟩ v0).setCell ⟨g, 1, none⟩ v1).setCell ⟨g, 2, none⟩ v2).setCell ⟨g, 3, none⟩ v3).setCell ⟨g, 4, none⟩ v4).setCell ⟨g, 5, none⟩ v5
theorem set6_heap {w : World} {g : Nat} {T : TypeId} {z0 z1 z2 z3 z4 z5 : Value} (v0 v1 v2 v3 v4 v5 : Value) (h : w.heap[g]? = some (.cells #[z0, z1, z2, z3, z4, z5] T (0, 0))) : (set6 w g v0 v1 v2 v3 v4 v5).heap[g]? = some (.cells #[v0, v1, v2, v3, v4, v5] T (0, 0)) :=
  heap_setCell_same _ _ 5 _ _ _ (heap_setCell_same _ _ 4 _ _ _ (heap_setCell_same _ _ 3 _ _ _ (heap_setCell_same _ _ 2 _ _ _ (heap_setCell_same _ _ 1 _ _ _ (heap_setCell_same _ _ 0 _ _ _ h)))))
theorem set6_below {B : Nat} {a w : World} (h : Below B a w) {g : Nat} (hg : B ≤ g) (v0 v1 v2 v3 v4 v5 : Value) : Below B a (set6 w g v0 v1 v2 v3 v4 v5) :=
  ((((((h.setCell (p := ⟨g, 0, none⟩) hg v0).setCell (p := ⟨g, 1, none⟩) hg v1).setCell (p := ⟨g, 2, none⟩) hg v2).setCell (p := ⟨g, 3, none⟩) hg v3).setCell (p := ⟨g, 4, none⟩) hg v4).setCell (p := ⟨g, 5, none⟩) hg v5)

theorem loadVar_meta (w : World) (g : Nat) (cs : Array Value) (hg : w.heap[g]? = some (.cells cs 26 (0, 0))) (hs : cs.size = 6) : (loadVar 26 ⟨g, 0, none⟩).run Tryd.prog w = .ok (.agg cs) w :=
  run_loadVar_row w g 26 26 cs (0, 0) _ hg Tryd.underlying26 rfl (by rw [hs]; kernel_rfl)


end Go.Proofs.YtopnjjehefaghaaDoor
namespace Go.Proofs.YtopnjjehefaghaaDoor
open Go.RowKit

def keyK : ByteArray := { data := #[107] }
/-- the record of a commit of a key's end. -/
def rec1 : Array Value := #[.int .i64 2, .string keyK, .int .i64 1, .int .i64 0, .int .i64 0, .int .i64 0, .bool true, .slice none 0 0, .slice none 0 0]

theorem cells9M {w : World} {b : Nat} {v0 v1 v2 v3 v4 v5 v6 v7 v8 : Value} {T : TypeId} (h : w.heap[b]? = some (.cells #[v0, v1, v2, v3, v4, v5, v6, v7, v8] T (0, 0))) :
    w.cell? ⟨b, 0, none⟩ = some v0 ∧ w.cell? ⟨b, 1, none⟩ = some v1 ∧ w.cell? ⟨b, 2, none⟩ = some v2 ∧ w.cell? ⟨b, 3, none⟩ = some v3 ∧ w.cell? ⟨b, 4, none⟩ = some v4 ∧ w.cell? ⟨b, 5, none⟩ = some v5 ∧ w.cell? ⟨b, 6, none⟩ = some v6 ∧ w.cell? ⟨b, 7, none⟩ = some v7 ∧ w.cell? ⟨b, 8, none⟩ = some v8 :=
  ⟨cell_of_row _ _ 0 _ _ _ h, cell_of_row _ _ 1 _ _ _ h, cell_of_row _ _ 2 _ _ _ h, cell_of_row _ _ 3 _ _ _ h, cell_of_row _ _ 4 _ _ _ h, cell_of_row _ _ 5 _ _ _ h, cell_of_row _ _ 6 _ _ _ h, cell_of_row _ _ 7 _ _ _ h, cell_of_row _ _ 8 _ _ _ h⟩
theorem after_call3 (w w1 : World) (o p q : Obj) (hb : Below (((w.alloc o).alloc p).alloc q).heap.size (((w.alloc o).alloc p).alloc q) w1) : w1.heap[w.heap.size]? = some o ∧ Below w.heap.size w w1 := by
  refine ⟨?_, ?_⟩
  · rw [hb.block w.heap.size (by simp; omega), heap_alloc_old _ _ (by simp; omega), heap_alloc_old _ _ (by simp)]; exact heap_alloc_new _ _
  · exact (((below_alloc w o).alloc (by simp) p).alloc (by simp; omega) q).trans (hb.mono (by simp; omega))

end Go.Proofs.YtopnjjehefaghaaDoor
namespace Go.Proofs.YtopnjjehefaghaaDoor
open Go.RowKit

theorem Tryd.infoU8 : (Tryd.prog.info? 5).map (fun i => (i.zero, i.size, i.bytes)) = some (some (.int .u8 0), 1, 1) := by kernel_rfl
theorem info_partsM {P : Program} {e : TypeId} {z : Option Value} {s b : Nat} (h : (P.info? e).map (fun i => (i.zero, i.size, i.bytes)) = some (z, s, b)) : ∃ i, P.info? e = some i ∧ i.zero = z ∧ i.size = s ∧ i.bytes = b := by
  obtain ⟨i, hi, he⟩ := Option.map_eq_some_iff.1 h
  simp only [Prod.mk.injEq] at he
  exact ⟨i, hi, he.1, he.2.1, he.2.2⟩


theorem ne_ownM {w : World} {base : Nat} {e : TypeId} {size : Nat} {v : Value} {n : Nat} {xs : List Value} (h : w.ownsRow base e size v n xs) {g : Nat} (hg : g < base) : some g ≠ v.ownBlock := by
  intro e
  have := ownBlock_ge h g e.symm
  omega
theorem grownBy_setCellM (w : World) (a : Addr) (u : Value) : w.grownBy (w.setCell a u) (some a.block) :=
  ⟨rfl, rfl, rfl, by simp, fun k _ hk => heap_setCell_other w a k u (fun e => hk (by rw [e]))⟩

theorem drop_drew {w w' : World} {r : Option Nat} (h : w.drew.grownBy w' r) : w.grownBy w' r := ⟨h.os, h.tape, h.output, h.size, h.block⟩
theorem after_app {wr w4 : World} {o : Obj} {v : Value} {base b n : Nat} {T : TypeId} {xs : List Value} {cs : Array Value} {T2 : TypeId} (hg : (wr.alloc o).grownBy w4 v.ownBlock) (hown : wr.ownsRow base T 1 v n xs) (hb : b < base) (hh : wr.heap[b]? = some (.cells cs T2 (0, 0))) :
    wr.grownBy w4 v.ownBlock ∧ w4.heap[b]? = some (.cells cs T2 (0, 0)) ∧ w4.cell? ⟨b, 0, none⟩ = cs[0]? ∧ w4.frozen? ⟨b, 0, none⟩ = false := by
  have hg5 := grownBy_trans (World.grownBy_alloc wr o v.ownBlock) hg
  have hh4 := (hg5.block b (Array.getElem?_eq_some_iff.1 hh).1 (ne_ownM hown hb)).trans hh
  exact ⟨hg5, hh4, cell_of_row _ _ _ _ _ _ hh4, frozen_of_row _ _ _ _ _ hh4⟩
theorem lies_of {v : Value} {g2 : Nat} {wr : World} {o : Obj} (h : v.ownBlock = some g2 ∨ g2 = (wr.alloc o).drew.heap.size) : v.ownBlock = some g2 ∨ wr.heap.size ≤ g2 :=
  h.imp id (fun e => by rw [e]; show wr.heap.size ≤ (wr.alloc o).heap.size; simp)

end Go.Proofs.YtopnjjehefaghaaDoor
namespace Go.Proofs.YtopnjjehefaghaaDoor
open Go.RowKit


end Go.Proofs.YtopnjjehefaghaaDoor
namespace Go.Proofs.YtopnjjehefaghaaDoor
open Go.RowKit

theorem no_gk {w : World} {b : Nat} : ∀ g, (none : Option Nat) = some g → g < w.heap.size ∧ g ≠ b := fun g hg => by cases hg

theorem key_bytes (w : World) : ∃ (c : Nat) (C : Array Value) (fr : Nat × Nat), (convert 9 24 (.string keyK)).run Tryd.prog w = .ok (.slice (some ⟨w.heap.size, 0, none⟩) 1 c) (w.drew.alloc (.cells C 5 fr)) ∧ C[0]? = some (.int .u8 107) := by
  have h := run_bytes_of_string (P := Tryd.prog) w 9 24 5 keyK Tryd.underlying9 Tryd.underlying24 Tryd.underlying5
  exact ⟨_, _, _, h, by unfold bytesRow keyK; rw [Array.getElem?_append_left (by simp)]; simp⟩

end Go.Proofs.YtopnjjehefaghaaDoor
namespace Go.Proofs.YtopnjjehefaghaaDoor
open Go.RowKit

theorem ret_boolM {a b : Bool} (h : a = b) : Ending.returned (.bool a) = .returned (.bool b) := by rw [h]
/-- is the one tag earlier? -/
def lt (a b : Int × Int) : Prop := a.1 < b.1 ∨ a.1 = b.1 ∧ a.2 < b.2
instance (a b : Int × Int) : Decidable (lt a b) := by unfold lt; infer_instance
def tagV (a : Int × Int) : Value := .agg #[.int .i64 a.1, .int .i64 a.2]


def nextN (n : Int) : Int := min (max n 0) 2147483647 + 1
theorem loadVar_tag (w : World) (g : Nat) (cs : Array Value) (hg : w.heap[g]? = some (.cells cs 23 (0, 0))) (hs : cs.size = 2) : (loadVar 23 ⟨g, 0, none⟩).run Tryd.prog w = .ok (.agg cs) w :=
  run_loadVar_row w g 23 23 cs (0, 0) _ hg Tryd.underlying23 rfl (by rw [hs]; kernel_rfl)
theorem two_allocM (w : World) (A B : Obj) : ((w.alloc A).alloc B).heap[w.heap.size + 1]? = some B := by
  have := heap_alloc_new (w.alloc A) B
  simpa using this

end Go.Proofs.YtopnjjehefaghaaDoor
namespace Go.Proofs.YtopnjjehefaghaaDoor
open Go.RowKit

end Go.Proofs.YtopnjjehefaghaaDoor
namespace Go.Proofs.YtopnjjehefaghaaDoor
open Go.RowKit

/-- a slice of tags. -/
structure TagsV (w : World) (ad : Option Addr) (n c : Nat) (L : Nat → Int × Int) : Prop where
  small : n ≤ maxLen
  cap : n ≤ c
  capm : c ≤ maxLen
  row : 0 < n → ∃ b o, ad = some ⟨b, o, none⟩ ∧ b < w.heap.size ∧ ∀ i, i < n → w.cell? ⟨b, o + i * 2, none⟩ = some (.int .i64 (L i).1) ∧ w.cell? ⟨b, o + i * 2 + 1, none⟩ = some (.int .i64 (L i).2)
theorem TagsV.below {w w' : World} {ad : Option Addr} {n c : Nat} {L : Nat → Int × Int} (h : TagsV w ad n c L) (hb : Below w.heap.size w w') : TagsV w' ad n c L :=
  ⟨h.small, h.cap, h.capm, fun h0 => by
    obtain ⟨b, o, e, hlt, hc⟩ := h.row h0
    refine ⟨b, o, e, Nat.lt_of_lt_of_le hlt hb.size, fun i hi => ?_⟩
    obtain ⟨c1, c2⟩ := hc i hi
    exact ⟨(hb.cell hlt).trans c1, (hb.cell hlt).trans c2⟩⟩
/-- the latest of the first k. -/
def latest (L : Nat → Int × Int) : Nat → Int × Int
  | 0 => (0, 0)
  | k + 1 => if k = 0 ∨ lt (latest L k) (L k) then L k else latest L k

theorem cells2M {w : World} {b : Nat} {v0 v1 : Value} {T : TypeId} (h : w.heap[b]? = some (.cells #[v0, v1] T (0, 0))) : w.cell? ⟨b, 0, none⟩ = some v0 ∧ w.cell? ⟨b, 1, none⟩ = some v1 ∧ ∀ j, w.frozen? ⟨b, j, none⟩ = false :=
  ⟨cell_of_row _ _ 0 _ _ _ h, cell_of_row _ _ 1 _ _ _ h, fun _ => frozen_of_row _ _ _ _ _ h⟩
def set2 (w : World) (g : Nat) (v0 v1 : Value) : World := (w.setCell ⟨g, 0, none⟩ v0).setCell ⟨g, 1, none⟩ v1
theorem set2_same {w : World} {g : Nat} {T : TypeId} {z0 z1 : Value} (v0 v1 : Value) (h : w.heap[g]? = some (.cells #[z0, z1] T (0, 0))) : (set2 w g v0 v1).heap[g]? = some (.cells #[v0, v1] T (0, 0)) :=
  heap_setCell_same _ _ 1 _ _ _ (heap_setCell_same _ _ 0 _ _ _ h)
theorem set2_other {w : World} {g k : Nat} (v0 v1 : Value) (h : k ≠ g) : (set2 w g v0 v1).heap[k]? = w.heap[k]? :=
  (heap_setCell_other _ ⟨g, 1, none⟩ k _ h).trans (heap_setCell_other _ ⟨g, 0, none⟩ k _ h)
theorem set2_below {B : Nat} {a w : World} (h : Below B a w) {g : Nat} (hg : B ≤ g) (v0 v1 : Value) : Below B a (set2 w g v0 v1) :=
  (h.setCell (p := ⟨g, 0, none⟩) hg v0).setCell (p := ⟨g, 1, none⟩) hg v1

theorem set2_size (w : World) (g : Nat) (v0 v1 : Value) : (set2 w g v0 v1).heap.size = w.heap.size := by simp [set2, World.setCell]

end Go.Proofs.YtopnjjehefaghaaDoor
namespace Go.Proofs.YtopnjjehefaghaaDoor
open Go.RowKit

theorem lt_irrefl (a : Int × Int) : ¬ lt a a := fun h => by simp only [lt] at h; omega
theorem lt_asymm {a b : Int × Int} (h : lt a b) : ¬ lt b a := fun k => by simp only [lt] at h k; omega
theorem lt_trans {a b c : Int × Int} (h : lt a b) (k : lt b c) : lt a c := by simp only [lt] at h k ⊢; omega
theorem lt_or {a b : Int × Int} (h : a ≠ b) : lt a b ∨ lt b a := by
  simp only [lt]
  rcases a with ⟨a0, a1⟩
  rcases b with ⟨b0, b1⟩
  simp only [ne_eq, Prod.mk.injEq, not_and] at h
  by_cases e : a0 = b0
  · have := h e; simp only; omega
  · simp only; omega

theorem eqTag (a0 a1 b0 b1 : Int) (w : World) : (Op.equalIn 10000 23 (.agg #[.int .i64 a0, .int .i64 a1]) (.agg #[.int .i64 b0, .int .i64 b1])).run Tryd.prog w = .ok (decide ((a0, a1) = (b0, b1))) w := by
  rw [show (10000 : Nat) = 9999 + 1 from rfl, run_equalIn_agg w 9999 23 _ _ (by kernel_rfl) (by kernel_rfl)]
  have hp : ∀ (x y : Int) (w : World) , (part 3 #[.int .i64 x, .int .i64 y] 0).run Tryd.prog w = .ok (.int .i64 x) w := fun x y w => by kernel_rfl
  have hq : ∀ (x y : Int) (w : World) , (part 3 #[.int .i64 x, .int .i64 y] 1).run Tryd.prog w = .ok (.int .i64 y) w := fun x y w => by kernel_rfl
  have he : ∀ (x y : Int) (w : World), (Op.equalIn 9999 3 (.int .i64 x) (.int .i64 y)).run Tryd.prog w = .ok (x == y) w := fun x y w => run_equalIn_int w 9998 3 .i64 .i64 x y Tryd.underlying3
  by_cases h0 : a0 = b0
  · by_cases h1 : a1 = b1
    · simp [Op.eqFields, Program.fieldsOf, Tryd.underlying23, hp, hq, he, h0, h1]
    · simp [Op.eqFields, Program.fieldsOf, Tryd.underlying23, hp, hq, he, h0, h1]
  · simp [Op.eqFields, Program.fieldsOf, Tryd.underlying23, hp, hq, he, h0]
theorem neqTag (a0 a1 b0 b1 : Int) (w : World) : (binOp .neq 23 (.agg #[.int .i64 a0, .int .i64 a1]) (.agg #[.int .i64 b0, .int .i64 b1])).run Tryd.prog w = .ok (.bool (!decide ((a0, a1) = (b0, b1)))) w := by
  rw [run_neq_struct, eqTag]
  rfl
/-- three tags in boxes of the call's own. -/
structure Box3 (w : World) (g : Nat) (a0 a1 b0 b1 c0 c1 : Int) : Prop where
  a : w.heap[g]? = some (.cells #[.int .i64 a0, .int .i64 a1] 23 (0, 0))
  b : w.heap[g + 1]? = some (.cells #[.int .i64 b0, .int .i64 b1] 23 (0, 0))
  c : w.heap[g + 2]? = some (.cells #[.int .i64 c0, .int .i64 c1] 23 (0, 0))
theorem Box3.new (w : World) (a0 a1 b0 b1 c0 c1 : Int) : Box3 (((w.alloc (.cells #[.int .i64 a0, .int .i64 a1] 23)).alloc (.cells #[.int .i64 b0, .int .i64 b1] 23)).alloc (.cells #[.int .i64 c0, .int .i64 c1] 23)) w.heap.size a0 a1 b0 b1 c0 c1 := by
  refine ⟨?_, ?_, ?_⟩
  · rw [heap_alloc_old _ _ (by simp; omega), heap_alloc_old _ _ (by simp)]; exact heap_alloc_new _ _
  · rw [heap_alloc_old _ _ (by simp)]; exact two_allocM _ _ _
  · have := heap_alloc_new ((w.alloc (.cells #[.int .i64 a0, .int .i64 a1] 23)).alloc (.cells #[.int .i64 b0, .int .i64 b1] 23)) (.cells #[.int .i64 c0, .int .i64 c1] 23)
    simpa using this
theorem Box3.below {w w' : World} {g : Nat} {a0 a1 b0 b1 c0 c1 : Int} (h : Box3 w g a0 a1 b0 b1 c0 c1) (hb : Below w.heap.size w w') : Box3 w' g a0 a1 b0 b1 c0 c1 :=
  ⟨(hb.block _ (Array.getElem?_eq_some_iff.1 h.a).1).trans h.a, (hb.block _ (Array.getElem?_eq_some_iff.1 h.b).1).trans h.b, (hb.block _ (Array.getElem?_eq_some_iff.1 h.c).1).trans h.c⟩
def Box3.S (w : World) (g : Nat) (a0 a1 b0 b1 c0 c1 : Int) : Prop := w.cell? ⟨g, 0, none⟩ = some (.int .i64 a0) ∧ w.cell? ⟨g, 1, none⟩ = some (.int .i64 a1) ∧ w.cell? ⟨g + 1, 0, none⟩ = some (.int .i64 b0) ∧ w.cell? ⟨g + 1, 1, none⟩ = some (.int .i64 b1) ∧ w.cell? ⟨g + 2, 0, none⟩ = some (.int .i64 c0) ∧ w.cell? ⟨g + 2, 1, none⟩ = some (.int .i64 c1)
theorem Box3.cells {w : World} {g : Nat} {a0 a1 b0 b1 c0 c1 : Int} (h : Box3 w g a0 a1 b0 b1 c0 c1) : w.cell? ⟨g, 0, none⟩ = some (.int .i64 a0) ∧ w.cell? ⟨g, 1, none⟩ = some (.int .i64 a1) ∧ w.cell? ⟨g + 1, 0, none⟩ = some (.int .i64 b0) ∧ w.cell? ⟨g + 1, 1, none⟩ = some (.int .i64 b1) ∧ w.cell? ⟨g + 2, 0, none⟩ = some (.int .i64 c0) ∧ w.cell? ⟨g + 2, 1, none⟩ = some (.int .i64 c1) :=
  ⟨(cells2M h.a).1, (cells2M h.a).2.1, (cells2M h.b).1, (cells2M h.b).2.1, (cells2M h.c).1, (cells2M h.c).2.1⟩

theorem latest_three (a b c : Int × Int) (L : Nat → Int × Int) (h0 : L 0 = a) (h1 : L 1 = b) (h2 : L 2 = c) : (latest L 3 = a ∨ latest L 3 = b ∨ latest L 3 = c) ∧ ¬ lt (latest L 3) a ∧ ¬ lt (latest L 3) b ∧ ¬ lt (latest L 3) c := by
  have e1 : latest L 1 = a := by simp [latest, h0]
  have e2 : latest L 2 = if lt a b then b else a := by
    show (if 1 = 0 ∨ lt (latest L 1) (L 1) then L 1 else latest L 1) = _
    rw [e1, h1]; simp
  have e3 : latest L 3 = if lt (latest L 2) c then c else latest L 2 := by
    show (if 2 = 0 ∨ lt (latest L 2) (L 2) then L 2 else latest L 2) = _
    rw [h2]; simp
  obtain ⟨a0, a1⟩ := a
  obtain ⟨b0, b1⟩ := b
  obtain ⟨c0, c1⟩ := c
  by_cases hab : lt (a0, a1) (b0, b1)
  · rw [if_pos hab] at e2
    rw [e2] at e3
    by_cases hbc : lt (b0, b1) (c0, c1)
    · rw [if_pos hbc] at e3
      rw [e3]
      exact ⟨.inr (.inr rfl), lt_asymm (lt_trans hab hbc), lt_asymm hbc, lt_irrefl _⟩
    · rw [if_neg hbc] at e3
      rw [e3]
      exact ⟨.inr (.inl rfl), lt_asymm hab, lt_irrefl _, hbc⟩
  · rw [if_neg hab] at e2
    rw [e2] at e3
    by_cases hac : lt (a0, a1) (c0, c1)
    · rw [if_pos hac] at e3
      rw [e3]
      refine ⟨.inr (.inr rfl), lt_asymm hac, ?_, lt_irrefl _⟩
      simp only [lt] at *
      omega
    · rw [if_neg hac] at e3
      rw [e3]
      exact ⟨.inl rfl, lt_irrefl _, hab, hac⟩

end Go.Proofs.YtopnjjehefaghaaDoor
namespace Go.Proofs.YtopnjjehefaghaaDoor
open Go.RowKit



end Go.Proofs.YtopnjjehefaghaaDoor
namespace Go.Proofs.YtopnjjehefaghaaDoor
open Go.RowKit

def tcells (l : List (Int × Int)) : List Value := l.flatMap (fun p => [.int .i64 p.1, .int .i64 p.2])
theorem tcells_len (l : List (Int × Int)) : (tcells l).length = l.length * 2 := by
  induction l with
  | nil => rfl
  | cons x xs ih => simp only [tcells, List.flatMap_cons, List.length_append, List.length_cons, List.length_nil] at *; omega
theorem tcells_at : ∀ (l : List (Int × Int)) (i : Nat) (x : Int × Int), l[i]? = some x → (tcells l)[i * 2]? = some (.int .i64 x.1) ∧ (tcells l)[i * 2 + 1]? = some (.int .i64 x.2)
  | [], i, x, h => by simp at h
  | y :: ys, 0, x, h => by
    simp at h
    subst h
    exact ⟨rfl, rfl⟩
  | y :: ys, i + 1, x, h => by
    have := tcells_at ys i x (by simpa using h)
    simp only [tcells, List.flatMap_cons]
    rw [show (i + 1) * 2 = i * 2 + 2 by omega, show i * 2 + 2 + 1 = i * 2 + 1 + 2 by omega]
    exact this
theorem tcells_one (l : List (Int × Int)) : ∀ u ∈ tcells l, u.oneCell' = true := by
  intro u hu
  simp only [tcells, List.mem_flatMap, List.mem_cons, List.not_mem_nil, or_false] at hu
  obtain ⟨x, -, rfl | rfl⟩ := hu <;> rfl
theorem tagsV_news {w : World} {b o n c : Nat} {L : Nat → Int × Int} (h : TagsV w (some ⟨b, o, none⟩) n c L) : ∀ j u, (tcells ((List.range n).map L))[j]? = some u → w.cell? ((⟨b, o, none⟩ : Addr).add j) = some u := by
  intro j u hj
  have hlt := (List.getElem?_eq_some_iff.1 hj).1
  rw [tcells_len, List.length_map, List.length_range] at hlt
  obtain ⟨b', o', e, -, hc⟩ := h.row (by omega)
  injection e with e
  injection e with e1 e2
  subst e1 e2
  have ha : (⟨b, o, none⟩ : Addr).add j = ⟨b, o + j, none⟩ := by unfold Addr.add; split <;> simp_all
  rw [ha]
  have hq : j / 2 < n := by omega
  obtain ⟨c0, c1⟩ := hc (j / 2) hq
  have hx : ((List.range n).map L)[j / 2]? = some (L (j / 2)) := by simp [hq]
  obtain ⟨t0, t1⟩ := tcells_at _ _ _ hx
  rcases Nat.mod_two_eq_zero_or_one j with hm | hm
  · have hj2 : j / 2 * 2 = j := by omega
    rw [hj2] at t0 c0
    rw [t0] at hj
    rw [c0, ← hj]
  · have hj2 : j / 2 * 2 + 1 = j := by omega
    rw [hj2] at t1
    rw [show o + j / 2 * 2 + 1 = o + j by omega] at c1
    rw [t1] at hj
    rw [c1, ← hj]
theorem tagsV_own {w : World} {B n cap : Nat} {ad : Option Addr} {L : Nat → Int × Int} (h : w.ownsRow B 23 2 (.slice ad n cap) n (tcells ((List.range n).map L))) : TagsV w ad n cap L := by
  rcases h.2 with ⟨e, e0⟩ | ⟨g, cp, cur, e, hB, hh, hc, hcm, -, -⟩
  · injection e with e1 e2 e3
    subst e2 e3
    exact ⟨by simp [maxLen], Nat.le_refl _, by simp [maxLen], fun h => absurd h (by omega)⟩
  · injection e with e1 e2 e3
    subst e1 e3
    refine ⟨Nat.le_trans hc hcm, hc, hcm, fun h0 => ⟨g, 0, rfl, (Array.getElem?_eq_some_iff.1 hh).1, fun i hi => ?_⟩⟩
    have hx : ((List.range n).map L)[i]? = some (L i) := by simp [hi]
    obtain ⟨t0, t1⟩ := tcells_at _ _ _ hx
    rw [Nat.zero_add]
    exact ⟨(h.cellAt (i * 2) (by omega)).trans t0, (h.cellAt (i * 2 + 1) (by omega)).trans t1⟩
theorem Tryd.infoTag : (Tryd.prog.info? 23).map (fun i => (i.zero, i.size, i.bytes)) = some (some (.agg #[.int .i64 0, .int .i64 0]), 2, 16) := by kernel_rfl
theorem ownBlock_geM {w : World} {base : Nat} {e : TypeId} {size : Nat} {v : Value} {n : Nat} {xs : List Value} (h : w.ownsRow base e size v n xs) : ∀ k, v.ownBlock = some k → base ≤ k := fun k hk => ownBlock_ge h k hk
end Go.Proofs.YtopnjjehefaghaaDoor
