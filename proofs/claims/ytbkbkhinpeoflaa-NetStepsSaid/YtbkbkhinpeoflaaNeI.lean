/-
  net: a net as a value (receivers and bytes), with what was there ahead left as it was: its calls' contracts.
-/
import Derived.Test.YtbkbkhinpeoflaaNeH
namespace Go.Proofs.Ytbkbkhinpeoflaa
open Go.RowKit

/-- block g holds a net with receivers ts, bytes bs; what w0 held is left as it was. -/
def NetIs (w0 w : World) (g : Nat) (sent : Int) (ts : List Int) (bs : List (List Nat)) : Prop :=
  ∃ v xs, tos xs = ts ∧ NetV w g g v sent xs bs ∧ Below w0.heap.size w0 w ∧ w0.heap.size ≤ g
theorem NetIs.below {w0 w w' : World} {g : Nat} {sent : Int} {ts : List Int} {bs : List (List Nat)} (h : NetIs w0 w g sent ts bs) (hb : Below w.heap.size w w') : NetIs w0 w' g sent ts bs := by
  obtain ⟨v, xs, e, hN, hB, hg⟩ := h
  exact ⟨v, xs, e, hN.below hb, hB.trans (hb.mono hB.size), hg⟩
theorem NetIs.base {w0 w : World} {g : Nat} {sent : Int} {ts : List Int} {bs : List (List Nat)} (h : NetIs w0 w g sent ts bs) : Below w0.heap.size w0 w := by
  obtain ⟨v, xs, e, hN, hB, hg⟩ := h
  exact hB
theorem tos_len (xs : List (Int × Hd)) : (tos xs).length = xs.length := by simp [tos]
theorem NetIs.len {w0 w : World} {g : Nat} {sent : Int} {ts : List Int} {bs : List (List Nat)} (h : NetIs w0 w g sent ts bs) : ts.length = bs.length := by
  obtain ⟨v, xs, rfl, hN, hB, hg⟩ := h
  rw [tos_len]
  have := hN.own.1
  simpa using this
theorem tos_at {xs : List (Int × Hd)} {i : Nat} {t : Int} (h : (tos xs)[i]? = some t) : ∃ a n c, xs[i]? = some (t, a, n, c) := by
  unfold tos at h
  rw [List.getElem?_map] at h
  obtain ⟨⟨t', a, n, c⟩, hx, rfl⟩ := Option.map_eq_some_iff.1 h
  exact ⟨a, n, c, hx⟩
theorem tos_erase (xs : List (Int × Hd)) (i : Nat) : tos (xs.eraseIdx i) = (tos xs).eraseIdx i := by
  unfold tos
  rw [List.eraseIdx_eq_take_drop_succ, List.eraseIdx_eq_take_drop_succ, List.map_append, List.map_take, List.map_drop]

theorem is_new (w0 w : World) (hb : Below w0.heap.size w0 w) : Calls Try.prog 9 #[] w fun e w' => e = .returned (.pointer (some ⟨w.heap.size, 0, none⟩)) ∧ NetIs w0 w' w.heap.size 0 [] [] ∧ Below w.heap.size w w' :=
  (new_any w w.heap.size (Nat.le_refl _)).mono fun _ _ ⟨h1, h2, h3⟩ => ⟨h1, ⟨_, [], rfl, h2, hb.trans (h3.mono hb.size), hb.size⟩, h3⟩
theorem is_send (w0 : World) (g : Nat) (sent : Int) (ts : List Int) (bs : List (List Nat)) (to : Int) (a : Option Addr) (n c : Nat) (l : List Nat) (w : World) (h : NetIs w0 w g sent ts bs) (hx : BytesV w (a, n, c) l) (hn : ts.length < 400) (h0 : 0 ≤ sent) (h1 : sent ≤ 1000000000) :
    Calls Try.prog 13 #[.pointer (some ⟨g, 0, none⟩), .int .i64 to, .slice a n c] w fun e w' => e = .returned (.bool true) ∧ NetIs w0 w' g (sent + 1) (ts ++ [to]) (bs ++ [l]) := by
  obtain ⟨v, xs, rfl, hN, hB, hg⟩ := h
  have hlt := hN.lt
  rw [tos_len] at hn
  refine (send_any g g v sent xs bs to (a, n, c) l w hN hx hn (by omega) h0 h1).mono fun _ _ ⟨he, v', x', hN', hO', hF', _⟩ => ⟨he, v', _, ?_, hN', ?_, hg⟩
  · simp [tos]
  · exact hO'.below hB hB.size hg (fun b e => Nat.le_trans hg (hN.row.lt b e).1)
theorem is_send_full (w0 : World) (g : Nat) (sent : Int) (ts : List Int) (bs : List (List Nat)) (to : Int) (a : Option Addr) (n c : Nat) (w : World) (h : NetIs w0 w g sent ts bs) (hn : 400 ≤ ts.length) :
    Calls Try.prog 13 #[.pointer (some ⟨g, 0, none⟩), .int .i64 to, .slice a n c] w fun e w' => e = .returned (.bool false) ∧ NetIs w0 w' g sent ts bs := by
  have h' := h
  obtain ⟨v, xs, rfl, hN, hB, hg⟩ := h
  rw [tos_len] at hn
  exact (send_full g g v sent xs bs to (a, n, c) w hN hn).mono fun _ _ ⟨he, hb⟩ => ⟨he, h'.below hb⟩
theorem is_pull {w0 w w' : World} {g i : Nat} {sent : Int} {v : Value} {xs : List (Int × Hd)} {bs : List (List Nat)} {x : Hd} {l : List Nat} (hN : NetV w g g v sent xs bs) (hB : Below w0.heap.size w0 w) (hg : w0.heap.size ≤ g) (hP : PullGives w g g v sent xs bs i x l w') :
    NetIs w0 w' g sent ((tos xs).eraseIdx i) (bs.eraseIdx i) ∧ x.2.1 = l.length ∧ BytesV w' x l := by
  obtain ⟨v', hN', hO', hF', ho, e, b1, b2⟩ := hP
  obtain ⟨a, n, c⟩ := x
  simp only at e
  subst e
  exact ⟨⟨v', _, tos_erase xs i, hN', hO'.below hB hB.size hg (fun b e => Nat.le_trans hg (hN.row.lt b e).1), hg⟩, rfl, bytesV_of_owns ho b1 b2⟩
theorem is_take (w0 : World) (g : Nat) (sent : Int) (ts : List Int) (bs : List (List Nat)) (i : Nat) (t : Int) (l : List Nat) (w : World) (h : NetIs w0 w g sent ts bs) (hn : ts.length ≤ 400) (ht : ts[i]? = some t) (hl : bs[i]? = some l) :
    Calls Try.prog 15 #[.pointer (some ⟨g, 0, none⟩), .int .i64 (i : Nat)] w fun e w' => ∃ a c, e = .returned (.tuple #[.int .i64 t, .slice a l.length c, .bool true]) ∧ BytesV w' (a, l.length, c) l ∧ NetIs w0 w' g sent (ts.eraseIdx i) (bs.eraseIdx i) := by
  obtain ⟨v, xs, rfl, hN, hB, hg⟩ := h
  rw [tos_len] at hn
  obtain ⟨a, n, c, hx⟩ := tos_at ht
  refine (take_yes g g v sent xs bs i _ l w hN hn hx hl).mono fun _ _ ⟨he, hP⟩ => ?_
  obtain ⟨k1, k2, k3⟩ := is_pull hN hB hg hP
  simp only at k2
  subst k2
  exact ⟨a, c, he, k3, k1⟩
theorem is_take_no (w0 : World) (g : Nat) (sent : Int) (ts : List Int) (bs : List (List Nat)) (i : Int) (w : World) (h : NetIs w0 w g sent ts bs) (hi : i < 0 ∨ (ts.length : Int) ≤ i) :
    Calls Try.prog 15 #[.pointer (some ⟨g, 0, none⟩), .int .i64 i] w fun e w' => e = .returned (.tuple #[.int .i64 0, .slice none 0 0, .bool false]) ∧ NetIs w0 w' g sent ts bs ∧ Below w.heap.size w w' := by
  have h' := h
  obtain ⟨v, xs, rfl, hN, hB, hg⟩ := h
  rw [tos_len] at hi
  exact (take_no g g v sent xs bs i w hN hi).mono fun _ _ ⟨he, hb⟩ => ⟨he, h'.below hb, hb⟩
theorem is_lose (w0 : World) (g : Nat) (sent : Int) (ts : List Int) (bs : List (List Nat)) (i : Nat) (w : World) (h : NetIs w0 w g sent ts bs) (hn : ts.length ≤ 400) (hi : i < ts.length) :
    Calls Try.prog 18 #[.pointer (some ⟨g, 0, none⟩), .int .i64 (i : Nat)] w fun e w' => e = .returned (.bool true) ∧ NetIs w0 w' g sent (ts.eraseIdx i) (bs.eraseIdx i) := by
  have hlen := h.len
  obtain ⟨v, xs, rfl, hN, hB, hg⟩ := h
  obtain ⟨a, n, c, hx⟩ := tos_at (List.getElem?_eq_getElem hi)
  rw [tos_len] at hn
  exact (lose_yes g g v sent xs bs i _ _ w hN hn hx (List.getElem?_eq_getElem (hlen ▸ hi))).mono fun _ _ ⟨he, hP⟩ => ⟨he, (is_pull hN hB hg hP).1⟩
theorem is_lose_no (w0 : World) (g : Nat) (sent : Int) (ts : List Int) (bs : List (List Nat)) (i : Int) (w : World) (h : NetIs w0 w g sent ts bs) (hi : i < 0 ∨ (ts.length : Int) ≤ i) :
    Calls Try.prog 18 #[.pointer (some ⟨g, 0, none⟩), .int .i64 i] w fun e w' => e = .returned (.bool false) ∧ NetIs w0 w' g sent ts bs := by
  have h' := h
  obtain ⟨v, xs, rfl, hN, hB, hg⟩ := h
  rw [tos_len] at hi
  exact (lose_no g g v sent xs bs i w hN hi).mono fun _ _ ⟨he, hb⟩ => ⟨he, h'.below hb⟩
theorem is_double (w0 : World) (g : Nat) (sent : Int) (ts : List Int) (bs : List (List Nat)) (i : Nat) (t : Int) (l : List Nat) (w : World) (h : NetIs w0 w g sent ts bs) (ht : ts[i]? = some t) (hl : bs[i]? = some l) (hn : ts.length < 400) (h0 : 0 ≤ sent) (h1 : sent ≤ 1000000000) :
    Calls Try.prog 20 #[.pointer (some ⟨g, 0, none⟩), .int .i64 (i : Nat)] w fun e w' => e = .returned (.bool true) ∧ NetIs w0 w' g (sent + 1) (ts ++ [t]) (bs ++ [l]) := by
  obtain ⟨v, xs, rfl, hN, hB, hg⟩ := h
  have hlt := hN.lt
  rw [tos_len] at hn
  obtain ⟨a, n, c, hx⟩ := tos_at ht
  refine (double_yes g g v sent xs bs i _ l w hN hx hl hn (by omega) h0 h1).mono fun _ _ ⟨he, v', x', hN', hO', hF', _⟩ => ⟨he, v', _, ?_, hN', ?_, hg⟩
  · simp [tos]
  · exact hO'.below hB hB.size hg (fun b e => Nat.le_trans hg (hN.row.lt b e).1)
theorem is_double_no (w0 : World) (g : Nat) (sent : Int) (ts : List Int) (bs : List (List Nat)) (i : Int) (w : World) (h : NetIs w0 w g sent ts bs) (hi : i < 0 ∨ (ts.length : Int) ≤ i) :
    Calls Try.prog 20 #[.pointer (some ⟨g, 0, none⟩), .int .i64 i] w fun e w' => e = .returned (.bool false) ∧ NetIs w0 w' g sent ts bs := by
  have h' := h
  obtain ⟨v, xs, rfl, hN, hB, hg⟩ := h
  rw [tos_len] at hi
  exact (double_no g g v sent xs bs i w hN hi).mono fun _ _ ⟨he, hb⟩ => ⟨he, h'.below hb⟩
theorem is_double_full (w0 : World) (g : Nat) (sent : Int) (ts : List Int) (bs : List (List Nat)) (i : Nat) (w : World) (h : NetIs w0 w g sent ts bs) (hi : i < ts.length) (hn : 400 ≤ ts.length) :
    Calls Try.prog 20 #[.pointer (some ⟨g, 0, none⟩), .int .i64 (i : Nat)] w fun e w' => e = .returned (.bool false) ∧ NetIs w0 w' g sent ts bs := by
  have h' := h
  obtain ⟨v, xs, rfl, hN, hB, hg⟩ := h
  obtain ⟨a, n, c, hx⟩ := tos_at (List.getElem?_eq_getElem hi)
  rw [tos_len] at hn
  exact (double_full g g v sent xs bs i _ w hN hx hn).mono fun _ _ ⟨he, hb⟩ => ⟨he, h'.below hb⟩
theorem is_flight (w0 : World) (g : Nat) (sent : Int) (ts : List Int) (bs : List (List Nat)) (w : World) (h : NetIs w0 w g sent ts bs) (hn : ts.length ≤ 400) :
    Calls Try.prog 22 #[.pointer (some ⟨g, 0, none⟩)] w fun e w' => ∃ a c, e = .returned (.slice a ts.length c) ∧ IntsV w' (a, ts.length, c) ts ∧ w'.ownsRow w.heap.size 3 1 (.slice a ts.length c) ts.length (ts.map iv) ∧ Below w.heap.size w w' := by
  obtain ⟨v, xs, rfl, hN, hB, hg⟩ := h
  have hn' := hn
  rw [tos_len] at hn
  exact (flight_any g g v sent xs bs w hN hn).mono fun e w' ⟨a, c, he, ho, hb⟩ => ⟨a, c, he, intsV_own ho (by omega), ho, hb⟩
theorem is_sent (w0 : World) (g : Nat) (sent : Int) (ts : List Int) (bs : List (List Nat)) (w : World) (h : NetIs w0 w g sent ts bs) :
    Calls Try.prog 23 #[.pointer (some ⟨g, 0, none⟩)] w fun e w' => e = .returned (.int .i64 sent) ∧ w' = w := by
  obtain ⟨v, xs, rfl, hN, hB, hg⟩ := h
  exact sent_any g g v sent xs bs w hN
end Go.Proofs.Ytbkbkhinpeoflaa
