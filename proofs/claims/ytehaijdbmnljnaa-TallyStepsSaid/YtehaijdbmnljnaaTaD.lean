/-
  tally: Waiting; a copy of ints.
-/
import Derived.Test.YtehaijdbmnljnaaTaC
namespace Go.Proofs.Ytehaijdbmnljnaa
open Go.RowKit

theorem growT {w wr w1 : World} {e : TypeId} {size : Nat} {v : Value} {n : Nat} {xs : List Value} (hb : Below w.heap.size w wr) (o : Obj) (hown : wr.ownsRow w.heap.size e size v n xs) (hg : (wr.alloc o).grownBy w1 v.ownBlock) : Below w.heap.size w w1 :=
  below_grown (hb.alloc hb.size o) hg (ownBlock_ge hown)
theorem iv_ones (l : List Int) : ∀ u ∈ l.map iv, u.oneCell' = true := by
  intro u hu
  simp at hu
  obtain ⟨x, _, rfl⟩ := hu
  rfl
theorem intsV_own {w : World} {base : Nat} {T : TypeId} {ad : Option Addr} {cap n : Nat} {l : List Int} (h : w.ownsRow base T 1 (.slice ad n cap) n (l.map iv)) (hs : n ≤ 140737488355328) : IntsV w (ad, n, cap) l ∧ ∀ a, ad = some a → base ≤ a.block := by
  obtain ⟨ad', cap', e, hcase, hnc, _, hrow⟩ := ownsRow_parts h
  cases e
  refine ⟨⟨hrow, hs, hnc, fun e => by rcases hcase with ⟨_, _, hc⟩ | ⟨g, hg, _⟩; exact hc; rw [hg] at e; cases e⟩, fun a ha => ?_⟩
  rcases hcase with ⟨h1, _⟩ | ⟨g, hg, h2, _⟩
  · rw [h1] at ha; cases ha
  · rw [hg] at ha; cases ha; exact h2
/-- What a call answers that makes a slice of ints of its own. -/
def GivesInts (T : TypeId) (w0 : World) (l : List Int) (e : Ending) (w' : World) : Prop :=
  ∃ ad cap, e = .returned (.slice ad l.length cap) ∧ w'.ownsRow w0.heap.size T 1 (.slice ad l.length cap) l.length (l.map iv) ∧ Below w0.heap.size w0 w'

theorem Try.infoInt : (Try.prog.info? 3).map (fun i => (i.zero, i.size, i.bytes)) = some (some (.int .i64 0), 1, 8) := by kernel_rfl
theorem info_partsT {P : Program} {e : TypeId} {z : Option Value} {s b : Nat} (h : (P.info? e).map (fun i => (i.zero, i.size, i.bytes)) = some (z, s, b)) : ∃ i, P.info? e = some i ∧ i.zero = z ∧ i.size = s ∧ i.bytes = b := by
  obtain ⟨i, hi, he⟩ := Option.map_eq_some_iff.1 h
  simp only [Prod.mk.injEq] at he
  exact ⟨i, hi, he.1, he.2.1, he.2.2⟩

set_option maxHeartbeats 400000 in
theorem copyInts_any (ad : Option Addr) (n c : Nat) (l : List Int) (w : World) (h : IntsV w (ad, n, c) l) (hn8 : n * 8 ≤ 140737488355328) :
    Calls Try.prog 23 #[.slice ad n c] w (GivesInts 3 w l) := by
  obtain ⟨i0, hi, hz0, hz1, hz2⟩ := info_partsT Try.infoInt
  have hsm : n ≤ 140737488355328 := h.small
  have hl : l.length = n := h.length
  have hr := h.row.below (below_alloc w (.cells #[] 3))
  have hnil := h.nil
  have HL := Lib.hid hl
  have hown0 := World.ownsRow_made (base := w.heap.size) (e := 3) (size := 1) w #[] 0 (Nat.le_refl _) (by simp [maxLen]) rfl
  clear h hl
  go_enter Try.func23, Try.ntmps23
  go_wp2_with (first | (at_builtin; refine wpList_append_row rfl _ _ 26 rfl w.heap.size 3 i0 (.int .i64 0) 8 Try.underlying26 hi hz0 hz1 hz2 rfl _ _ _ rfl hown0 ad n c (l.map iv) rfl hr hnil (iv_ones l) (by simp [maxLen]; omega) (by omega) (by simp) ?_; intro v' w1 hown1 hgrow1 hnil1))
  obtain ⟨ad', cap', rfl, _⟩ := ownsRow_parts hown1
  have hb := below_grown (below_alloc w _) hgrow1 (ownBlock_ge hown0)
  simp only [Nat.zero_add, List.nil_append] at hown1 ⊢
  clear hgrow1 hnil1 hr
  go_wp2
  go_ret
  obtain rfl := HL.out
  exact ⟨ad', cap', rfl, hown1, hb⟩

/-- those of the first k that have said nothing. -/
def silent (said : List Int) : Nat → List Int
  | 0 => []
  | k + 1 => silent said k ++ (if said.getD k 0 = 0 then [(k : Int)] else [])
theorem silent_length (said : List Int) : ∀ k, (silent said k).length ≤ k
  | 0 => Nat.le_refl _
  | k + 1 => by
    have := silent_length said k
    simp only [silent, List.length_append]
    split <;> simp <;> omega

set_option maxRecDepth 10000 in
set_option maxHeartbeats 4000000 in
theorem waiting_any (b : Nat) (need : Int) (said : List Int) (N : Nat) (w : World) (hT : TallyI w b need said N) :
    Calls Try.prog 21 #[.pointer (some ⟨b, 0, none⟩)] w (GivesInts 3 w (silent said N)) := by
  obtain ⟨i0, hi, hz0, hz1, hz2⟩ := info_partsT Try.infoInt
  obtain ⟨_, _, c9, _, _, _, _⟩ := hT.v.cells
  have hN := hT.le
  have hown0 : w.ownsRow w.heap.size 3 1 (.slice none 0 0) 0 ([] : List Value) := ⟨rfl, .inl ⟨rfl, rfl⟩⟩
  go_enter Try.func21, Try.ntmps21
  go_wp2
  go_loopw [3, 9] (fun v i wr => ∃ k : Nat, k ≤ N ∧ i = .int .i64 k ∧ wr.ownsRow w.heap.size 3 1 v (silent said k).length ((silent said k).map iv) ∧ Below w.heap.size w wr) (fun _ i _ => (N - intOf i).toNat)
  case atStart => exact ⟨0, Nat.zero_le _, rfl, hown0, Below.refl _ _⟩
  case round =>
    obtain ⟨k, hk, rfl, hown, hb⟩ := hrel
    obtain ⟨ad, cap, rfl, hcase, _⟩ := ownsRow_parts hown
    have hbs := hb.size
    have hsl := silent_length said k
    by_cases hlt : k < N
    · obtain ⟨_, c1, _, _, _, _, _⟩ := (hT.below hb).v.cells
      have ci := c1 k (by omega)
      clear c1 c9
      by_cases hy : said.getD k 0 = 0
      · rw [hy] at ci
        have hS : silent said (k + 1) = silent said k ++ [(k : Int)] := by simp only [silent]; rw [if_pos hy]
        have HS := Lib.hid hS
        clear hS hy
        go_wp2_with (first | (at_builtin; refine wpList_append_row rfl (.tmp 19) (.tmp 21) 26 rfl w.heap.size 3 i0 (.int .i64 0) 8 Try.underlying26 hi hz0 hz1 hz2 rfl _ _ _ rfl (hown.alloc _) (some ⟨wr.heap.size, 0, Option.none⟩) 1 1 [iv (k : Int)] rfl (rowV_lit _ _ _ _ _ _ rfl rfl rfl) (by intro h; cases h) (iv_ones [(k : Int)]) (by simp [maxLen]; omega) (by omega) (by simp; omega) ?_; intro v' w1 hown1 hgrow1 _))
        have hb1 := growT hb _ hown hgrow1
        clear hgrow1
        go_wp2
        go_roundw
        case rel =>
          refine ⟨k + 1, by omega, by go_num, ?_, hb1⟩
          rw [HS.out, List.map_append, List.length_append]
          exact hown1
        case measure => simp [intOf]; omega
      · have hS : silent said (k + 1) = silent said k := by simp only [silent]; rw [if_neg hy, List.append_nil]
        have HS := Lib.hid hS
        obtain ⟨y, hye⟩ : ∃ y, y = said.getD k 0 := ⟨_, rfl⟩
        rw [← hye] at ci hy
        have hy' : (y == 0) = false := by simpa using hy
        clear hS hy hye
        go_wp2
        go_roundw
        case rel =>
          refine ⟨k + 1, by omega, by go_num, ?_, hb⟩
          rw [HS.out]
          exact hown
        case measure => simp [intOf]; omega
    · obtain rfl : k = N := by omega
      go_wp2
      go_ret
      exact ⟨ad, cap, rfl, hown, hb⟩
end Go.Proofs.Ytehaijdbmnljnaa
