/-
  lin: width, right, a row's value; a system in memory: made, asked whether it is full.
-/
import Derived.Test.YtgnnfpnkhemimaaLiQ
namespace Go.Proofs.Ytgnnfpnkhemimaa
open Go.RowKit

def widthB (ls : List (List Nat)) : Nat := (ls.getD 0 []).length
set_option maxHeartbeats 1000000 in
theorem width_any (adv : Option Addr) (n cv : Nat) (hs : List (Option Addr × Nat × Nat)) (ls : List (List Nat)) (w : World) (hv : RowV w adv n (hs.map SV)) (hr : RowsV w hs ls) :
    Calls Try.prog 33 #[.slice adv n cv] w fun x w' => x = .returned (.int .i64 ((widthB ls : Nat) : Int)) ∧ w = w' := by
  have hhs : hs.length = n := by have := hv.1; simpa using this
  have hls : ls.length = n := by rw [← hr.1, hhs]
  by_cases h0 : n = 0
  · subst h0
    obtain rfl : ls = [] := List.eq_nil_of_length_eq_zero hls
    clear hv hr hhs hls
    go_enter Try.func33, Try.ntmps33
    go_wp2
    go_ret
    exact ⟨rfl, rfl⟩
  · obtain ⟨b, off, rfl, hcl⟩ := hv.2 (by omega)
    obtain ⟨⟨a2, n2, c2⟩, hx⟩ : ∃ x, hs[0]? = some x := ⟨_, List.getElem?_eq_getElem (by omega)⟩
    obtain ⟨l, hl⟩ : ∃ l, ls[0]? = some l := ⟨_, List.getElem?_eq_getElem (by omega)⟩
    have hB := hr.2 0 _ l hx hl
    have hc1 := hcl 0 (by omega)
    rw [List.getElem?_map, hx] at hc1
    unfold SV at hc1
    simp only [Option.map_some, Nat.add_zero] at hc1
    have hll : widthB ls = n2 := by unfold widthB; rw [List.getD_eq_getElem?_getD, hl]; exact hB.length
    rw [hll]
    clear hcl hx hl hB hll hv hr hhs hls
    have hn : 0 < n := by omega
    go_enter Try.func33, Try.ntmps33
    go_wp2
    go_ret
    exact ⟨rfl, rfl⟩

def rightB (cols : Int) (ls : List (List Nat)) : Bool := decide (1 ≤ cols) && (decide (cols ≤ 128) && (decide (ls.length ≤ 256) && evenB ls cols))
set_option maxHeartbeats 1000000 in
theorem right_any (cols : Int) (adv : Option Addr) (n cv : Nat) (hs : List (Option Addr × Nat × Nat)) (ls : List (List Nat)) (w : World) (hv : RowV w adv n (hs.map SV)) (hn : n ≤ 140737488355328) (hr : RowsV w hs ls) :
    Calls Try.prog 26 #[.int .i64 cols, .slice adv n cv] w fun x w' => x = .returned (.bool (rightB cols ls)) ∧ Below w.heap.size w w' := by
  have hhs : hs.length = n := by have := hv.1; simpa using this
  have hls : ls.length = n := by rw [← hr.1, hhs]
  have KE := even_any adv n cv cols hs ls w hv hn hr
  unfold rightB
  rw [hls]
  generalize evenB ls cols = t at KE ⊢
  clear hv hr hhs hls
  by_cases h1 : 1 ≤ cols
  rotate_left 1
  · have h1' : cols < 1 := by omega
    rw [decide_eq_false h1]
    clear h1 KE
    go_enter Try.func26, Try.ntmps26
    go_wp2
    go_ret
    exact ⟨rfl, Below.refl _ _⟩
  by_cases h2 : cols ≤ 128
  rotate_left 1
  · have h2' : 128 < cols := by omega
    rw [decide_eq_true h1, decide_eq_false h2]
    clear h2 KE
    go_enter Try.func26, Try.ntmps26
    go_wp2
    go_ret
    exact ⟨rfl, Below.refl _ _⟩
  by_cases h3 : n ≤ 256
  rotate_left 1
  · have h3' : 256 < n := by omega
    rw [decide_eq_true h1, decide_eq_true h2, decide_eq_false h3]
    clear h3 KE
    go_enter Try.func26, Try.ntmps26
    go_wp2
    go_ret
    exact ⟨rfl, Below.refl _ _⟩
  rw [decide_eq_true h1, decide_eq_true h2, decide_eq_true h3]
  go_enter Try.func26, Try.ntmps26
  go_wp2_with fail
  (with_reducible refine KE.mono ?_)
  rintro x w1 ⟨rfl, hb⟩
  go_wp2
  go_ret
  exact ⟨by cases t <;> rfl, hb⟩

set_option maxRecDepth 100000 in
set_option maxHeartbeats 2000000 in
theorem value_any (cols wid : Nat) (a : Option Addr) (L c : Nat) (e : List Nat) (w : World) (h : BytesV w (a, L, c) e) (hL : L = cols + wid) (hm : 0 < cols ∧ cols ≤ 1000) (hw : wid ≤ 1000000) :
    Calls Try.prog 35 #[.agg #[.int .i64 (cols : Int), .int .i64 (wid : Int)], .slice a L c] w fun x w' => ∃ a' c', x = .returned (.slice a' wid c') ∧ BytesV w' (a', wid, c') (e.drop cols) ∧ w'.ownsRow w.heap.size 5 1 (.slice a' wid c') wid ((e.drop cols).map bv) ∧ Below w.heap.size w w' := by
  have hle : e.length = L := h.length
  have hcap := h.cap
  simp only at hcap
  have hed : (e.drop cols).length = wid := by rw [List.length_drop, hle]; omega
  have hb1 := below_alloc w (.cells #[.int .i64 (cols : Int), .int .i64 (wid : Int)] 47)
  have hg := heap_alloc_new w (.cells #[.int .i64 (cols : Int), .int .i64 (wid : Int)] 47)
  have hby : Bytes (e.drop cols) := fun x hx => h.bytes x (List.mem_of_mem_drop hx)
  obtain ⟨b, off, rfl, hcl⟩ := (h.below hb1).row.2 (show 0 < L by omega)
  simp only at hcl
  have KC : ∀ (w1 : World) (a' : Option Addr) (c' : Nat), BytesV w1 (a', wid, c') (e.drop cols) → Calls Try.prog 50 #[.slice a' wid c'] w1 (GivesBytes 5 w1 (e.drop cols)) := fun w1 a' c' k => clone_any a' wid c' _ w1 k
  have hX : ∀ a', (a' = some (⟨b, off, none⟩ : Addr) ∧ wid = 0) ∨ a' = some (⟨b, off + cols, none⟩ : Addr) → ∀ c', wid ≤ c' → BytesV (w.alloc (.cells #[.int .i64 (cols : Int), .int .i64 (wid : Int)] 47)) (a', wid, c') (e.drop cols) := by
    rintro a' ha c' hc'
    refine ⟨⟨by simpa using hed, fun h0 => ?_⟩, hby, by simp only; omega, hc', fun e => ?_⟩
    · rcases ha with ⟨_, h1⟩ | rfl
      · simp only at h0; omega
      · refine ⟨b, off + cols, rfl, fun i hi => ?_⟩
        simp only at hi
        rw [Nat.add_assoc, hcl (cols + i) (by omega), List.map_drop, List.getElem?_drop]
    · rcases ha with ⟨rfl, _⟩ | rfl <;> cases e
  have HED := Lib.hid hed
  have HBY := Lib.hid hby
  have HX := Lib.hid hX
  have HKC := Lib.hid KC
  have hcell0 : (w.alloc (.cells #[.int .i64 (cols : Int), .int .i64 (wid : Int)] 47)).cell? ⟨w.heap.size, 0, none⟩ = some (.int .i64 (cols : Int)) := cell_of_row _ _ 0 _ _ _ hg
  clear hed hX hby hcl h hle hg KC
  subst hL
  go_enter Try.func35, Try.ntmps35
  go_wp2_with fail
  all_goals
    first
    | (with_reducible refine (HKC.out _ _ _ (HX.out _ (.inl ⟨rfl, by omega⟩) _ (by omega))).mono ?_)
    | (with_reducible refine (HKC.out _ _ _ (HX.out _ (.inr rfl) _ (by omega))).mono ?_)
    rintro x w1 ⟨a', c', rfl, ho, hb⟩
    rw [HED.out] at ho ⊢
    go_wp2
    go_ret
    exact ⟨a', c', rfl, bytesV_of_owns ho HBY.out (by omega), ownsRow_base ho (by simp), hb1.trans (hb.mono (by simp))⟩

/-- how many columns have their equation. -/
def count (f : Wk) : Nat → Nat
  | 0 => 0
  | k + 1 => count f k + if (f k).isSome then 1 else 0
theorem count_le (f : Wk) : ∀ n, count f n ≤ n
  | 0 => Nat.le_refl _
  | k + 1 => by simp only [count]; have := count_le f k; split <;> omega
theorem count_none (n : Nat) : count (fun _ => none) n = 0 := by
  induction n with
  | zero => rfl
  | succ k ih => simp [count, ih]
theorem count_congr {f g : Wk} : ∀ {n : Nat}, (∀ c, c < n → (f c).isSome = (g c).isSome) → count f n = count g n
  | 0, _ => rfl
  | k + 1, h => by simp only [count]; rw [count_congr (fun c hc => h c (by omega)), h k (by omega)]
theorem count_new {f g : Wk} {l : Nat} (hl : f l = none) (hg : (g l).isSome = true) (h : ∀ c, c ≠ l → (f c).isSome = (g c).isSome) : ∀ {n : Nat}, l < n → count g n = count f n + 1
  | 0, h => absurd h (Nat.not_lt_zero _)
  | k + 1, hk => by
    simp only [count]
    by_cases e : l = k
    · subst e
      rw [hl, hg, count_congr (fun c hc => (h c (by omega)).symm)]
      simp
    · rw [count_new hl hg h (by omega), h k (fun e2 => e e2.symm)]
      omega
theorem count_full {f : Wk} : ∀ {n : Nat}, count f n = n ↔ ∀ c, c < n → ∃ r, f c = some r
  | 0 => ⟨fun _ c hc => absurd hc (Nat.not_lt_zero _), fun _ => rfl⟩
  | k + 1 => by
    simp only [count]
    have hle := count_le f k
    constructor
    · intro h c hc
      by_cases hs : (f k).isSome = true
      · rw [if_pos hs] at h
        by_cases e : c = k
        · subst e; exact Option.isSome_iff_exists.1 hs
        · exact count_full.1 (show count f k = k by omega) c (by omega)
      · rw [if_neg hs] at h; omega
    · intro h
      rw [if_pos (Option.isSome_iff_exists.2 (h k (by omega))), count_full.2 (fun c hc => h c (by omega))]
def ST : TypeId := 50
/-- a system in memory: its own block g, its map's block m. -/
structure SysV (w0 w : World) (g gm cols wid : Nat) (s : Wk × Bool) (hd : Nat → Option HdT) : Prop where
  box : w.heap[g]? = some (.cells #[.int .i64 (cols : Int), .int .i64 (wid : Int), .map (some gm), .bool s.2] ST (0, 0))
  map : MapH w gm hd (count s.1 cols)
  rows : ∀ c r, s.1 c = some r → ∃ x, hd c = some x ∧ x.2.1 = cols + wid ∧ BytesV w x r
  free : ∀ c, s.1 c = none → hd c = none
  sys : Sys cols (cols + wid) s.1
  base : Below w0.heap.size w0 w
  gb : w0.heap.size ≤ g
  mb : w0.heap.size ≤ gm
theorem box4_cells {w : World} {b : Nat} {v0 v1 v2 v3 : Value} {T : TypeId} (h : w.heap[b]? = some (.cells #[v0, v1, v2, v3] T (0, 0))) : w.cell? ⟨b, 0, none⟩ = some v0 ∧ w.cell? ⟨b, 1, none⟩ = some v1 ∧ w.cell? ⟨b, 2, none⟩ = some v2 ∧ w.cell? ⟨b, 3, none⟩ = some v3 ∧ ∀ j, w.frozen? ⟨b, j, none⟩ = false :=
  ⟨cell_of_row _ _ 0 _ _ _ h, cell_of_row _ _ 1 _ _ _ h, cell_of_row _ _ 2 _ _ _ h, cell_of_row _ _ 3 _ _ _ h, fun _ => frozen_of_row _ _ _ _ _ h⟩
theorem box_below' {w w' : World} {b : Nat} {o : Obj} (h : w.heap[b]? = some o) (hb : Below w.heap.size w w') : w'.heap[b]? = some o := (hb.block b (Array.getElem?_eq_some_iff.1 h).1).trans h
theorem SysV.below {w0 w w' : World} {g gm cols wid : Nat} {s : Wk × Bool} {hd : Nat → Option HdT} (h : SysV w0 w g gm cols wid s hd) (hb : Below w.heap.size w w') : SysV w0 w' g gm cols wid s hd :=
  ⟨box_below' h.box hb, h.map.below hb, fun c r hc => by obtain ⟨x, h1, h2, h3⟩ := h.rows c r hc; exact ⟨x, h1, h2, h3.below hb⟩, h.free, h.sys, h.base.trans (hb.mono h.base.size), h.gb, h.mb⟩
set_option maxRecDepth 10000 in
set_option maxHeartbeats 1000000 in
theorem newSystem_any (cols wid : Nat) (w : World) :
    Calls Try.prog 27 #[.int .i64 (cols : Int), .int .i64 (wid : Int)] w fun x w' => x = .returned (.pointer (some ⟨w.heap.size + 1, 0, none⟩)) ∧ SysV w w' (w.heap.size + 1) w.heap.size cols wid (fun _ => none, false) (fun _ => none) := by
  have hmm := @run_makeMap Try.prog
  have h2 := heap_alloc_new (w.alloc (.map #[] 0)) (.cells #[.int .i64 (cols : Int), .int .i64 (wid : Int), .map (some w.heap.size), .bool false] ST)
  rw [World.size_alloc] at h2
  have h1 : SysV w ((w.alloc (.map #[] 0)).alloc (.cells #[.int .i64 (cols : Int), .int .i64 (wid : Int), .map (some w.heap.size), .bool false] ST)) (w.heap.size + 1) w.heap.size cols wid (fun _ => none, false) (fun _ => none) :=
    ⟨h2, by rw [count_none]; exact (mapH_made w).below (below_alloc _ _), fun c r h => (by cases h), fun _ _ => rfl, (says_none cols (cols + wid)).sys, (below_alloc w _).alloc (by simp) _, by omega, Nat.le_refl _⟩
  have H1 := Lib.hid h1
  clear h1 h2
  go_enter Try.func27, Try.ntmps27
  go_wp2
  go_ret
  exact ⟨rfl, H1.out⟩
end Go.Proofs.Ytgnnfpnkhemimaa
