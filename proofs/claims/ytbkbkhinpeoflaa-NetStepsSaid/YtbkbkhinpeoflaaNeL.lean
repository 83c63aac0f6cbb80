/-
  net: its calls leave blocks of other types alone; a copy of ints.
-/
import Derived.Test.YtbkbkhinpeoflaaNeK
namespace Go.Proofs.Ytbkbkhinpeoflaa
open Go.RowKit

/-- every block that was there and is neither a net nor a row of datagrams is left as it was. -/
def Keeps (w w' : World) : Prop := ∀ (b : Nat) (cs : Array Value) (T : TypeId) (fr : Nat × Nat), T ≠ NT → T ≠ DT → w.heap[b]? = some (Obj.cells cs T fr) → w'.heap[b]? = some (Obj.cells cs T fr)
theorem Keeps.refl (w : World) : Keeps w w := fun _ _ _ _ _ _ h => h
theorem Keeps.trans {a b c : World} (h : Keeps a b) (k : Keeps b c) : Keeps a c := fun i cs T fr h1 h2 h3 => k i cs T fr h1 h2 (h i cs T fr h1 h2 h3)
theorem keeps_below {w w' : World} (h : Below w.heap.size w w') : Keeps w w' := fun b _ _ _ _ _ hb => (h.block b (Array.getElem?_eq_some_iff.1 hb).1).trans hb
theorem own_block_type {w : World} {B : Nat} {T : TypeId} {s n : Nat} {v : Value} {xs : List Value} (h : w.ownsRow B T s v n xs) {b : Nat} (e : v.ownBlock = some b) : ∃ cs, w.heap[b]? = some (.cells cs T (0, 0)) := by
  rcases h.2 with ⟨rfl, _⟩ | ⟨g, cap, cur, rfl, _, hh, _⟩
  · cases e
  · cases e
    exact ⟨cur, hh⟩
theorem Keeps.own {w w' : World} (hk : Keeps w w') {B : Nat} {T : TypeId} {s n : Nat} {v : Value} {xs : List Value} (h : w.ownsRow B T s v n xs) (h1 : T ≠ NT) (h2 : T ≠ DT) : w'.ownsRow B T s v n xs :=
  own_kept h fun b e => by
    obtain ⟨cs, hcs⟩ := own_block_type h e
    exact (hk b cs T _ h1 h2 hcs).trans hcs.symm
theorem keeps_only {w w' : World} {g base : Nat} {v : Value} {sent : Int} {xs : List (Int × Hd)} {bs : List (List Nat)} (hN : NetV w g base v sent xs bs) (hO : OnlyN w w' g v) : Keeps w w' := by
  intro b cs T fr h1 h2 hb
  refine (hO.block b (Array.getElem?_eq_some_iff.1 hb).1 (fun e => ?_) (fun e => ?_)).trans hb
  · subst e
    have := hN.box
    rw [hb] at this
    injection this with this
    injection this with _ this _
    exact h1 this
  · obtain ⟨cs2, h3⟩ := own_block_type hN.row e
    rw [hb] at h3
    injection h3 with h3
    injection h3 with _ h3 _
    exact h2 h3

theorem NetIs.grown {w0 w w' : World} {g : Nat} {sent : Int} {ts : List Int} {bs : List (List Nat)} (h : NetIs w0 w g sent ts bs) {r : Option Nat} {T : TypeId} (hg : w.grownBy w' r) (hr : ∀ b, r = some b → ∃ cs, w.heap[b]? = some (.cells cs T (0, 0)) ∧ w0.heap.size ≤ b) (h1 : T ≠ NT) (h2 : T ≠ DT) (h3 : T ≠ 5) : NetIs w0 w' g sent ts bs := by
  obtain ⟨v, xs, e, hN, hB, hgg⟩ := h
  have ty : ∀ (b : Nat) (cs : Array Value) (T2 : TypeId), T ≠ T2 → w.heap[b]? = some (Obj.cells cs T2 (0, 0)) → w'.heap[b]? = w.heap[b]? := fun b cs T2 hne hb => hg.block b (Array.getElem?_eq_some_iff.1 hb).1 fun e => by
    obtain ⟨cs', hc, _⟩ := hr b e.symm
    rw [hb] at hc
    injection hc with hc
    injection hc with _ hc _
    exact hne hc.symm
  refine ⟨v, xs, e, hN.kept (ty g _ _ h1 hN.box) (fun b e => ?_) (fun z hz b e => ?_), hB.grown hg hB.size (fun b e => (hr b e).choose_spec.2), hgg⟩
  · obtain ⟨cs, hcs⟩ := own_block_type hN.row e
    exact ty b cs _ h2 hcs
  · obtain ⟨i, hi⟩ := List.mem_iff_getElem?.1 hz
    have hlt := (List.getElem?_eq_some_iff.1 hi).1
    have hl := hN.own.1
    rw [List.length_map] at hl
    have ho := (hN.own.2 i z.2 _ (by rw [List.getElem?_map, hi]; rfl) (List.getElem?_eq_getElem (by omega))).2
    obtain ⟨cs, hcs⟩ := own_block_type ho e
    exact ty b cs _ h3 hcs

theorem is_sendK (w0 : World) (g : Nat) (sent : Int) (ts : List Int) (bs : List (List Nat)) (to : Int) (a : Option Addr) (n c : Nat) (l : List Nat) (w : World) (h : NetIs w0 w g sent ts bs) (hx : BytesV w (a, n, c) l) (hn : ts.length < 400) (h0 : 0 ≤ sent) (h1 : sent ≤ 1000000000) :
    Calls Try.prog 13 #[.pointer (some ⟨g, 0, none⟩), .int .i64 to, .slice a n c] w fun e w' => e = .returned (.bool true) ∧ NetIs w0 w' g (sent + 1) (ts ++ [to]) (bs ++ [l]) ∧ Keeps w w' := by
  obtain ⟨v, xs, rfl, hN, hB, hg⟩ := h
  have hlt := hN.lt
  rw [tos_len] at hn
  refine (send_any g g v sent xs bs to (a, n, c) l w hN hx hn (by omega) h0 h1).mono fun _ _ ⟨he, v', x', hN', hO', hF', _⟩ => ⟨he, ⟨v', _, ?_, hN', ?_, hg⟩, keeps_only hN hO'⟩
  · simp [tos]
  · exact hO'.below hB hB.size hg (fun b e => Nat.le_trans hg (hN.row.lt b e).1)
theorem is_takeK (w0 : World) (g : Nat) (sent : Int) (ts : List Int) (bs : List (List Nat)) (i : Nat) (t : Int) (l : List Nat) (w : World) (h : NetIs w0 w g sent ts bs) (hn : ts.length ≤ 400) (ht : ts[i]? = some t) (hl : bs[i]? = some l) :
    Calls Try.prog 15 #[.pointer (some ⟨g, 0, none⟩), .int .i64 (i : Nat)] w fun e w' => ∃ a c, e = .returned (.tuple #[.int .i64 t, .slice a l.length c, .bool true]) ∧ BytesV w' (a, l.length, c) l ∧ NetIs w0 w' g sent (ts.eraseIdx i) (bs.eraseIdx i) ∧ Keeps w w' := by
  obtain ⟨v, xs, rfl, hN, hB, hg⟩ := h
  rw [tos_len] at hn
  obtain ⟨a, n, c, hx⟩ := tos_at ht
  refine (take_yes g g v sent xs bs i _ l w hN hn hx hl).mono fun e w' ⟨he, hP⟩ => ?_
  obtain ⟨k1, k2, k3⟩ := is_pull hN hB hg hP
  obtain ⟨v', hN', hO', _⟩ := hP
  simp only at k2
  subst k2
  exact ⟨a, c, he, k3, k1, keeps_only hN hO'⟩

theorem iv_ones (l : List Int) : ∀ u ∈ l.map iv, u.oneCell' = true := by
  intro u hu
  simp at hu
  obtain ⟨x, _, rfl⟩ := hu
  rfl
/-- What a call answers that makes a slice of ints of its own. -/
def GivesInts (T : TypeId) (w0 : World) (l : List Int) (e : Ending) (w' : World) : Prop :=
  ∃ ad cap, e = .returned (.slice ad l.length cap) ∧ w'.ownsRow w0.heap.size T 1 (.slice ad l.length cap) l.length (l.map iv) ∧ Below w0.heap.size w0 w'
set_option maxHeartbeats 400000 in
theorem copyInts_any (ad : Option Addr) (n c : Nat) (l : List Int) (w : World) (h : IntsV w (ad, n, c) l) (hn8 : n * 8 ≤ 140737488355328) :
    Calls Try.prog 24 #[.slice ad n c] w (GivesInts 3 w l) := by
  obtain ⟨i0, hi, hz0, hz1, hz2⟩ := info_parts Try.info3
  have hsm : n ≤ 140737488355328 := h.small
  have hl : l.length = n := h.length
  have hr := h.row.below (below_alloc w (.cells #[] 3))
  have hnil := h.nil
  have HL := Lib.hid hl
  have hown0 := World.ownsRow_made (base := w.heap.size) (e := 3) (size := 1) w #[] 0 (Nat.le_refl _) (by simp [maxLen]) rfl
  clear h hl
  go_enter Try.func24, Try.ntmps24
  go_wp2_with (first | (at_builtin; refine wpList_append_row rfl _ _ 26 rfl w.heap.size 3 i0 (.int .i64 0) 8 Try.underlying26 hi hz0 hz1 hz2 rfl _ _ _ rfl hown0 ad n c (l.map iv) rfl hr hnil (iv_ones l) (by simp [maxLen]; omega) (by omega) (by simp) ?_; intro v' w1 hown1 hgrow1 hnil1))
  obtain ⟨ad', cap', rfl, _⟩ := ownsRow_parts hown1
  have hb := below_grown (below_alloc w _) hgrow1 (ownBlock_ge hown0)
  simp only [Nat.zero_add, List.nil_append] at hown1 ⊢
  clear hgrow1 hnil1 hr
  go_wp2
  go_ret
  obtain rfl := HL.out
  exact ⟨ad', cap', rfl, hown1, hb⟩
end Go.Proofs.Ytbkbkhinpeoflaa
