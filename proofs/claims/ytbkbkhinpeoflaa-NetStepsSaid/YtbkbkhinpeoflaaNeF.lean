/-
  net: New, Sent, Send, Lose, Take, Double.
-/
import Derived.Test.YtbkbkhinpeoflaaNeE
import Derived.Deep.QuietTactic
import Derived.BigQuiet
namespace Go.Proofs.Ytbkbkhinpeoflaa
open Go.RowKit

def NilV : Value := .slice none 0 0
theorem new_any (w : World) (base : Nat) (hb : base ≤ w.heap.size) : Calls Try.prog 9 #[] w fun e w' => e = .returned (.pointer (some ⟨w.heap.size, 0, none⟩)) ∧ NetV w' w.heap.size base NilV 0 [] [] ∧ Below w.heap.size w w' := by
  go_enter Try.func9, Try.ntmps9
  go_wp2
  go_ret
  exact ⟨rfl, ⟨heap_alloc_new w _, World.ownsRow_nil _ _ _ _, ⟨rfl, fun i x l h => by simp at h⟩, fun l h => (by cases h), hb⟩, below_alloc _ _⟩
theorem sent_any (g base : Nat) (v : Value) (sent : Int) (xs : List (Int × Hd)) (bs : List (List Nat)) (w : World) (h : NetV w g base v sent xs bs) : Calls Try.prog 23 #[.pointer (some ⟨g, 0, none⟩)] w fun e w' => e = .returned (.int .i64 sent) ∧ w' = w := by
  obtain ⟨p0, p1, pF⟩ := h.cells
  clear h
  go_enter Try.func23, Try.ntmps23
  go_wp2
  go_ret
  exact ⟨rfl, rfl⟩

theorem PullGives.below {w w1 w2 : World} {g base i : Nat} {v : Value} {sent : Int} {xs : List (Int × Hd)} {bs : List (List Nat)} {x : Hd} {l : List Nat} (h : PullGives w g base v sent xs bs i x l w1) (hb : Below w1.heap.size w1 w2) : PullGives w g base v sent xs bs i x l w2 := by
  obtain ⟨v', hN, hO, hF, ho, h1, h2, h3⟩ := h
  exact ⟨v', hN.below hb, hO.trans (OnlyN.of_below (v := v') hb) hF, hF, ho.kept (grownBy_of_below hb none) (by cases (SV x).ownBlock <;> simp), h1, h2, h3⟩
theorem NetV.setSent {w : World} {g base : Nat} {v : Value} {sent : Int} {xs : List (Int × Hd)} {bs : List (List Nat)} (h : NetV w g base v sent xs bs) (s : Int) : NetV (w.setCell ⟨g, 1, none⟩ (.int .i64 s)) g base v s xs bs :=
  ⟨heap_setCell_same _ _ 1 _ _ _ h.box, h.row.kept (grown_set w g 1 _) (.inr h.ne), ⟨h.own.1, fun i x l h1 h2 => ⟨(h.own.2 i x l h1 h2).1, (h.own.2 i x l h1 h2).2.kept (grown_set w g 1 _) (.inr (own_ne_box (h.own.2 i x l h1 h2).2 h.box (by decide)))⟩⟩, h.bytes, h.ge⟩
def SendGives (w : World) (g base : Nat) (v : Value) (sent : Int) (xs : List (Int × Hd)) (bs : List (List Nat)) (to : Int) (l : List Nat) (w' : World) : Prop :=
  ∃ v' h, NetV w' g base v' (sent + 1) (xs ++ [(to, h)]) (bs ++ [l]) ∧ OnlyN w w' g v ∧ Follows w v v' ∧ w'.ownsRow w.heap.size 5 1 (SV h) l.length (l.map bv)
theorem PutGives.sent {w w1 : World} {g base : Nat} {v : Value} {sent : Int} {xs : List (Int × Hd)} {bs : List (List Nat)} {to : Int} {l : List Nat} (h : PutGives w g base v sent xs bs to l w1) : SendGives w g base v sent xs bs to l (w1.setCell ⟨g, 1, none⟩ (.int .i64 (sent + 1))) := by
  obtain ⟨v', x, hN, hO, hF, ho⟩ := h
  refine ⟨v', x, hN.setSent _, ⟨hO.os, hO.tape, hO.output, by have := hO.size; simpa [World.setCell] using this, fun b h1 h2 h3 => ?_⟩, hF, ho.kept (grown_set w1 g 1 _) (.inr (own_ne_box ho hN.box (by decide)))⟩
  rw [heap_setCell_other _ ⟨g, 1, none⟩ b _ h2]
  exact hO.block b h1 h2 h3
theorem SendGives.below {w w1 w2 : World} {g base : Nat} {v : Value} {sent : Int} {xs : List (Int × Hd)} {bs : List (List Nat)} {to : Int} {l : List Nat} (h : SendGives w g base v sent xs bs to l w1) (hb : Below w1.heap.size w1 w2) : SendGives w g base v sent xs bs to l w2 := by
  obtain ⟨v', x, hN, hO, hF, ho⟩ := h
  exact ⟨v', x, hN.below hb, hO.trans (OnlyN.of_below (v := v') hb) hF, hF, ho.kept (grownBy_of_below hb none) (by cases (SV x).ownBlock <;> simp)⟩

set_option maxRecDepth 100000 in
set_option maxHeartbeats 4000000 in
theorem send_full (g base : Nat) (v : Value) (sent : Int) (xs : List (Int × Hd)) (bs : List (List Nat)) (to : Int) (x : Hd) (w : World) (h : NetV w g base v sent xs bs) (hn : 400 ≤ xs.length) :
    Calls Try.prog 13 #[.pointer (some ⟨g, 0, none⟩), .int .i64 to, SV x] w fun e w' => e = .returned (.bool false) ∧ Below w.heap.size w w' := by
  have KP := put_full g base v sent xs bs to x w h hn
  obtain ⟨ad, n, c⟩ := x
  unfold SV at KP ⊢
  simp only at KP ⊢
  clear h hn
  go_enter Try.func13, Try.ntmps13
  go_wp2_with (go_at_call 25; (with_reducible refine KP.mono ?_); rintro e w1 ⟨rfl, b1⟩)
  go_ret
  exact ⟨rfl, b1⟩

set_option maxRecDepth 100000 in
set_option maxHeartbeats 4000000 in
theorem send_any (g base : Nat) (v : Value) (sent : Int) (xs : List (Int × Hd)) (bs : List (List Nat)) (to : Int) (x : Hd) (l : List Nat) (w : World) (h : NetV w g base v sent xs bs) (hx : BytesV w x l) (hn : xs.length < 400) (hB : base ≤ w.heap.size) (h0 : 0 ≤ sent) (h1 : sent ≤ 1000000000) :
    Calls Try.prog 13 #[.pointer (some ⟨g, 0, none⟩), .int .i64 to, SV x] w fun e w' => e = .returned (.bool true) ∧ SendGives w g base v sent xs bs to l w' := by
  have KP := put_any g base v sent xs bs to x l w h hx hn hB
  obtain ⟨ad, n, c⟩ := x
  unfold SV at KP ⊢
  simp only at KP ⊢
  clear h hn hx
  go_enter Try.func13, Try.ntmps13
  go_wp2_with (go_at_call 25; (with_reducible refine KP.mono ?_); rintro e w1 ⟨rfl, hP⟩; have HP := Lib.hid hP; obtain ⟨v', x', hN, -, -, -⟩ := hP; obtain ⟨p0, p1, pF⟩ := hN.cells; clear hN)
  go_ret
  exact ⟨rfl, HP.out.sent⟩

set_option maxRecDepth 100000 in
set_option maxHeartbeats 4000000 in
theorem lose_no (g base : Nat) (v : Value) (sent : Int) (xs : List (Int × Hd)) (bs : List (List Nat)) (i : Int) (w : World) (h : NetV w g base v sent xs bs) (hi : i < 0 ∨ (xs.length : Int) ≤ i) :
    Calls Try.prog 18 #[.pointer (some ⟨g, 0, none⟩), .int .i64 i] w fun e w' => e = .returned (.bool false) ∧ Below w.heap.size w w' := by
  have KP := pull_no g base v sent xs bs i w h hi
  clear h hi
  go_enter Try.func18, Try.ntmps18
  go_wp2_with (go_at_call 26; (with_reducible refine KP.mono ?_); rintro e w1 ⟨rfl, b1⟩)
  go_ret
  exact ⟨rfl, b1.alloc b1.size _⟩
set_option maxRecDepth 100000 in
set_option maxHeartbeats 4000000 in
theorem lose_yes (g base : Nat) (v : Value) (sent : Int) (xs : List (Int × Hd)) (bs : List (List Nat)) (i : Nat) (x : Int × Hd) (l : List Nat) (w : World) (h : NetV w g base v sent xs bs) (hm4 : xs.length ≤ 400) (hx : xs[i]? = some x) (hl : bs[i]? = some l) :
    Calls Try.prog 18 #[.pointer (some ⟨g, 0, none⟩), .int .i64 (i : Nat)] w fun e w' => e = .returned (.bool true) ∧ PullGives w g base v sent xs bs i x.2 l w' := by
  have KP := pull_yes g base v sent xs bs i x l w h hm4 hx hl
  obtain ⟨to, a2, n2, c2⟩ := x
  unfold SV at KP
  simp only at KP ⊢
  clear h hx hl
  go_enter Try.func18, Try.ntmps18
  go_wp2_with (go_at_call 26; (with_reducible refine KP.mono ?_); rintro e w1 ⟨rfl, hP⟩; have HP := Lib.hid hP; clear hP)
  go_ret
  exact ⟨rfl, HP.out.below (below_alloc _ _)⟩
set_option maxRecDepth 100000 in
set_option maxHeartbeats 4000000 in
theorem take_no (g base : Nat) (v : Value) (sent : Int) (xs : List (Int × Hd)) (bs : List (List Nat)) (i : Int) (w : World) (h : NetV w g base v sent xs bs) (hi : i < 0 ∨ (xs.length : Int) ≤ i) :
    Calls Try.prog 15 #[.pointer (some ⟨g, 0, none⟩), .int .i64 i] w fun e w' => e = .returned (.tuple #[.int .i64 0, .slice none 0 0, .bool false]) ∧ Below w.heap.size w w' := by
  have KP := pull_no g base v sent xs bs i w h hi
  clear h hi
  go_enter Try.func15, Try.ntmps15
  go_wp2_with (go_at_call 26; (with_reducible refine KP.mono ?_); rintro e w1 ⟨rfl, b1⟩)
  obtain ⟨p0, p1, pF⟩ := box_cells (heap_alloc_new w1 (.cells #[.int .i64 0, .slice none 0 0] 59))
  go_quiet (fail)
  go_wp2
  go_ret3
  exact ⟨rfl, below_drewN (b1.alloc b1.size _) _⟩
set_option maxRecDepth 100000 in
set_option maxHeartbeats 4000000 in
theorem take_yes (g base : Nat) (v : Value) (sent : Int) (xs : List (Int × Hd)) (bs : List (List Nat)) (i : Nat) (x : Int × Hd) (l : List Nat) (w : World) (h : NetV w g base v sent xs bs) (hm4 : xs.length ≤ 400) (hx : xs[i]? = some x) (hl : bs[i]? = some l) :
    Calls Try.prog 15 #[.pointer (some ⟨g, 0, none⟩), .int .i64 (i : Nat)] w fun e w' => e = .returned (.tuple #[.int .i64 x.1, SV x.2, .bool true]) ∧ PullGives w g base v sent xs bs i x.2 l w' := by
  have KP := pull_yes g base v sent xs bs i x l w h hm4 hx hl
  obtain ⟨to, a2, n2, c2⟩ := x
  unfold SV at KP ⊢
  simp only at KP ⊢
  clear h hx hl
  go_enter Try.func15, Try.ntmps15
  go_wp2_with (go_at_call 26; (with_reducible refine KP.mono ?_); rintro e w1 ⟨rfl, hP⟩; have HP := Lib.hid hP; clear hP)
  obtain ⟨p0, p1, pF⟩ := box_cells (heap_alloc_new w1 (.cells #[.int .i64 to, .slice a2 n2 c2] 59))
  go_quiet (fail)
  go_wp2
  go_ret3
  exact ⟨rfl, HP.out.below (below_drewN (below_alloc _ _) _)⟩

theorem NetV.bytesAt {w : World} {g base : Nat} {v : Value} {sent : Int} {xs : List (Int × Hd)} {bs : List (List Nat)} (h : NetV w g base v sent xs bs) {i : Nat} {x : Int × Hd} {l : List Nat} (hx : xs[i]? = some x) (hl : bs[i]? = some l) : BytesV w x.2 l := by
  have hown := h.own.2 i x.2 l (by rw [List.getElem?_map, hx]; rfl) hl
  have hby := h.bytes l (List.mem_of_getElem? hl)
  obtain ⟨to, a, n, c⟩ := x
  obtain ⟨e, ho⟩ := hown
  simp only at e
  subst e
  exact bytesV_of_owns ho hby.1 hby.2

set_option maxRecDepth 100000 in
set_option maxHeartbeats 4000000 in
theorem double_no (g base : Nat) (v : Value) (sent : Int) (xs : List (Int × Hd)) (bs : List (List Nat)) (i : Int) (w : World) (h : NetV w g base v sent xs bs) (hi : i < 0 ∨ (xs.length : Int) ≤ i) :
    Calls Try.prog 20 #[.pointer (some ⟨g, 0, none⟩), .int .i64 i] w fun e w' => e = .returned (.bool false) ∧ Below w.heap.size w w' := by
  have KP := at_no g base v sent xs bs i w h hi
  clear h hi
  go_enter Try.func20, Try.ntmps20
  go_wp2_with (go_at_call 27; (with_reducible refine KP.mono ?_); rintro e w1 ⟨rfl, b1⟩)
  go_ret
  exact ⟨rfl, b1.alloc b1.size _⟩
set_option maxRecDepth 100000 in
set_option maxHeartbeats 4000000 in
theorem double_full (g base : Nat) (v : Value) (sent : Int) (xs : List (Int × Hd)) (bs : List (List Nat)) (i : Nat) (x : Int × Hd) (w : World) (h : NetV w g base v sent xs bs) (hx : xs[i]? = some x) (hn : 400 ≤ xs.length) :
    Calls Try.prog 20 #[.pointer (some ⟨g, 0, none⟩), .int .i64 (i : Nat)] w fun e w' => e = .returned (.bool false) ∧ Below w.heap.size w w' := by
  have KP := at_yes g base v sent xs bs i x w h hx
  obtain ⟨to, a2, n2, c2⟩ := x
  unfold SV at KP
  simp only at KP
  clear hx
  go_enter Try.func20, Try.ntmps20
  go_wp2_with fail
  (with_reducible refine KP.mono ?_)
  rintro e w1 ⟨rfl, b1⟩
  obtain ⟨p0, p1, pF⟩ := box_cells (heap_alloc_new w1 (.cells #[.int .i64 to, .slice a2 n2 c2] 59))
  have hN := (h.below b1).below (below_alloc w1 (.cells #[.int .i64 to, .slice a2 n2 c2] 59))
  have hb := b1.alloc b1.size (.cells #[.int .i64 to, .slice a2 n2 c2] 59)
  have KS := send_full g base v sent xs bs to (a2, n2, c2) _ hN hn
  unfold SV at KS
  simp only at KS
  clear h hN KP hn b1
  go_wp2_with fail
  (with_reducible refine KS.mono ?_)
  rintro e w2 ⟨rfl, b2⟩
  go_wp2
  go_ret
  exact ⟨rfl, hb.trans (b2.mono hb.size)⟩
theorem SendGives.of_below {w w0 w' : World} {g base : Nat} {v : Value} {sent : Int} {xs : List (Int × Hd)} {bs : List (List Nat)} {to : Int} {l : List Nat} (hb : Below w.heap.size w w0) (h : SendGives w0 g base v sent xs bs to l w') : SendGives w g base v sent xs bs to l w' := by
  obtain ⟨v', x, hN, hO, hF, ho⟩ := h
  refine ⟨v', x, hN, (OnlyN.of_below hb).trans hO (Follows.refl _ _), fun b hbb => ?_, ownsRow_base ho hb.size⟩
  rcases hF b hbb with h1 | h1
  · exact .inl h1
  · exact .inr (Nat.le_trans hb.size h1)
set_option maxRecDepth 100000 in
set_option maxHeartbeats 4000000 in
theorem double_yes (g base : Nat) (v : Value) (sent : Int) (xs : List (Int × Hd)) (bs : List (List Nat)) (i : Nat) (x : Int × Hd) (l : List Nat) (w : World) (h : NetV w g base v sent xs bs) (hx : xs[i]? = some x) (hl : bs[i]? = some l) (hn : xs.length < 400) (hB : base ≤ w.heap.size) (h0 : 0 ≤ sent) (h1 : sent ≤ 1000000000) :
    Calls Try.prog 20 #[.pointer (some ⟨g, 0, none⟩), .int .i64 (i : Nat)] w fun e w' => e = .returned (.bool true) ∧ SendGives w g base v sent xs bs x.1 l w' := by
  have KP := at_yes g base v sent xs bs i x w h hx
  have hBy := h.bytesAt hx hl
  obtain ⟨to, a2, n2, c2⟩ := x
  unfold SV at KP
  simp only at KP hBy ⊢
  clear hx hl
  go_enter Try.func20, Try.ntmps20
  go_wp2_with fail
  (with_reducible refine KP.mono ?_)
  rintro e w1 ⟨rfl, b1⟩
  obtain ⟨p0, p1, pF⟩ := box_cells (heap_alloc_new w1 (.cells #[.int .i64 to, .slice a2 n2 c2] 59))
  have hN := (h.below b1).below (below_alloc w1 (.cells #[.int .i64 to, .slice a2 n2 c2] 59))
  have hb := b1.alloc b1.size (.cells #[.int .i64 to, .slice a2 n2 c2] 59)
  have KS := send_any g base v sent xs bs to (a2, n2, c2) l _ hN (hBy.below hb) hn (by have := hb.size; omega) h0 h1
  unfold SV at KS
  simp only at KS
  clear h hN KP hn b1
  go_wp2_with fail
  (with_reducible refine KS.mono ?_)
  rintro e w2 ⟨rfl, hS⟩
  have HS := Lib.hid (SendGives.of_below hb hS)
  clear hS
  go_wp2
  go_ret
  exact ⟨rfl, HS.out⟩
end Go.Proofs.Ytbkbkhinpeoflaa
