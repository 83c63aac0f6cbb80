/-
  net: put.
-/
import Derived.Test.YtbkbkhinpeoflaaNeA
namespace Go.Proofs.Ytbkbkhinpeoflaa
open Go.RowKit

theorem drop_drew {w w' : World} {r : Option Nat} (h : w.drew.grownBy w' r) : w.grownBy w' r := ⟨h.os, h.tape, h.output, h.size, h.block⟩
theorem RowV.heap {w w' : World} {ad : Option Addr} {len : Nat} {vs : List Value} (h : RowV w ad len vs) (e : w'.heap = w.heap) : RowV w' ad len vs := h.kept fun _ _ => by rw [e]
theorem BytesV.heap {w w' : World} {x : Option Addr × Nat × Nat} {l : List Nat} (h : BytesV w x l) (e : w'.heap = w.heap) : BytesV w' x l := ⟨h.row.heap e, h.bytes, h.small, h.cap, h.nil⟩
def Follows (w : World) (v v' : Value) : Prop := ∀ b, v'.ownBlock = some b → v.ownBlock = some b ∨ w.heap.size ≤ b
theorem Follows.refl (w : World) (v : Value) : Follows w v v := fun _ h => .inl h
theorem OnlyN.trans {w w1 w2 : World} {g : Nat} {v v1 : Value} (h : OnlyN w w1 g v) (k : OnlyN w1 w2 g v1) (f : Follows w v v1) : OnlyN w w2 g v :=
  ⟨k.os.trans h.os, k.tape.trans h.tape, k.output.trans h.output, Nat.le_trans h.size k.size, fun b hb hg hv => (k.block b (Nat.lt_of_lt_of_le hb h.size) hg (fun e => by
    rcases f b e with h1 | h1
    · exact hv h1
    · omega)).trans (h.block b hb hg hv)⟩
theorem OnlyN.below {w w' : World} {g : Nat} {v : Value} {B : Nat} {w0 : World} (h : OnlyN w w' g v) (hb : Below B w0 w) (hB : B ≤ w.heap.size) (hg : B ≤ g) (hv : ∀ b, v.ownBlock = some b → B ≤ b) : Below B w0 w' :=
  ⟨h.os.trans hb.os, h.tape.trans hb.tape, h.output.trans hb.output, Nat.le_trans hb.size h.size, fun k hk => (h.block k (by omega) (by omega) (fun e => by have := hv k e; omega)).trans (hb.block k hk)⟩

theorem box_cells {w : World} {b : Nat} {v0 v1 : Value} {T : TypeId} (h : w.heap[b]? = some (.cells #[v0, v1] T (0, 0))) : w.cell? ⟨b, 0, none⟩ = some v0 ∧ w.cell? ⟨b, 1, none⟩ = some v1 ∧ ∀ j, w.frozen? ⟨b, j, none⟩ = false :=
  ⟨cell_of_row _ _ 0 _ _ _ h, cell_of_row _ _ 1 _ _ _ h, fun _ => frozen_of_row _ _ _ _ _ h⟩

set_option maxRecDepth 100000 in
set_option maxHeartbeats 4000000 in
theorem put_full (g base : Nat) (v : Value) (sent : Int) (xs : List (Int × Hd)) (bs : List (List Nat)) (to : Int) (x : Hd) (w : World) (h : NetV w g base v sent xs bs) (hn : 400 ≤ xs.length) :
    Calls Try.prog 25 #[.pointer (some ⟨g, 0, none⟩), .agg #[.int .i64 to, SV x]] w fun e w' => e = .returned (.bool false) ∧ Below w.heap.size w w' := by
  obtain ⟨ad, n, c⟩ := x
  unfold SV
  obtain ⟨ad2, cap2, rfl, _⟩ : ∃ ad cap, v = .slice ad xs.length cap ∧ True := by
    rcases h.row.2 with ⟨rfl, h0⟩ | ⟨g', cap, cur, rfl, _⟩
    · omega
    · exact ⟨_, _, rfl, trivial⟩
  have h1 := h.below (below_alloc w (.cells #[.int .i64 to, .slice ad n c] 59))
  obtain ⟨p0, p1, pF⟩ := h1.cells
  obtain ⟨m, hm⟩ : ∃ m, m = xs.length := ⟨_, rfl⟩
  rw [← hm] at p0 hn
  clear h h1 hm
  go_enter Try.func25, Try.ntmps25
  go_wp2
  go_ret
  exact ⟨rfl, below_alloc _ _⟩

def PutGives (w : World) (g base : Nat) (v : Value) (sent : Int) (xs : List (Int × Hd)) (bs : List (List Nat)) (to : Int) (l : List Nat) (w' : World) : Prop :=
  ∃ v' h, NetV w' g base v' sent (xs ++ [(to, h)]) (bs ++ [l]) ∧ OnlyN w w' g v ∧ Follows w v v' ∧ w'.ownsRow w.heap.size 5 1 (SV h) l.length (l.map bv)

theorem put_mid {w1 w2 : World} {g base d : Nat} {v : Value} {sent : Int} {xs : List (Int × Hd)} {bs : List (List Nat)} {u0 u1 : Value} (hN : NetV w1 g base v sent xs bs) (hD : w1.heap[d]? = some (.cells #[u0, u1] DT (0, 0))) (b2 : Below w1.heap.size w1 w2) (_h : g < d) :
    NetV w2 g base v sent xs bs ∧ w2.heap[d]? = some (.cells #[u0, u1] DT (0, 0)) ∧ w2.cell? ⟨g, 0, none⟩ = some v ∧ w2.cell? ⟨d, 0, none⟩ = some u0 ∧ w2.cell? ⟨d, 1, none⟩ = some u1 ∧ (∀ o, (w2.alloc o).cell? ⟨g, 0, none⟩ = some v) ∧ (∀ o, (w2.alloc o).cell? ⟨d, 0, none⟩ = some u0) ∧ (∀ o, (w2.alloc o).cell? ⟨d, 1, none⟩ = some u1) := by
  have hN2 := hN.below b2
  have hdl := (Array.getElem?_eq_some_iff.1 hD).1
  have hD2 := (b2.block d hdl).trans hD
  have hd2 := (Array.getElem?_eq_some_iff.1 hD2).1
  have k := fun o => box_cells ((heap_alloc_old w2 o hd2).trans hD2)
  exact ⟨hN2, hD2, hN2.cells.1, (box_cells hD2).1, (box_cells hD2).2.1, fun o => (hN2.below (below_alloc w2 o)).cells.1, fun o => (k o).1, fun o => (k o).2.1⟩
theorem grown_set (w : World) (g i : Nat) (v : Value) : w.grownBy (w.setCell ⟨g, i, none⟩ v) (some g) :=
  ⟨rfl, rfl, rfl, by simp [World.setCell], fun k _ hn => heap_setCell_other _ ⟨g, i, none⟩ k _ (fun e => hn (by rw [e]))⟩
theorem own_ne_box {w : World} {base : Nat} {T T2 : TypeId} {s n : Nat} {v : Value} {xs : List Value} (h : w.ownsRow base T s v n xs) {g : Nat} {cs : Array Value} (hb : w.heap[g]? = some (.cells cs T2 (0, 0))) (hne : T ≠ T2) : v.ownBlock ≠ some g := by
  intro e
  rcases h.2 with ⟨rfl, _⟩ | ⟨g', cap, cur, rfl, _, hh, _⟩
  · cases e
  · simp [Value.ownBlock] at e
    subst e
    rw [hh] at hb
    injection hb with hb
    injection hb with _ ht
    exact hne ht
theorem row_lt {w : World} {base : Nat} {v : Value} {n : Nat} {xs : List Value} {T : TypeId} {s : Nat} (h : w.ownsRow base T s v n xs) {b : Nat} (hb : v.ownBlock = some b) : b < w.heap.size := (h.lt b hb).2
theorem put_late {w2 w3 : World} {g base d : Nat} {v : Value} {sent : Int} {xs : List (Int × Hd)} {bs : List (List Nat)} {u0 u1 : Value} {o : Obj} (hN : NetV w2 g base v sent xs bs) (hD : w2.heap[d]? = some (.cells #[u0, u1] DT (0, 0))) (hg : (w2.alloc o).grownBy w3 v.ownBlock) (hgd : g < d) (hne : v.ownBlock ≠ some g) (hvd : v.ownBlock ≠ some d) :
    w3.cell? ⟨g, 0, none⟩ = some v ∧ w3.cell? ⟨d, 0, none⟩ = some u0 ∧ w3.cell? ⟨d, 1, none⟩ = some u1 ∧ (∀ j, w3.frozen? ⟨g, j, none⟩ = false) ∧ w3.heap[g]? = some (.cells #[v, .int .i64 sent] NT (0, 0)) := by
  have hdl := (Array.getElem?_eq_some_iff.1 hD).1
  have hb3 := (hg.block g (by simp; omega) (fun e => hne e.symm)).trans ((heap_alloc_old w2 o hN.lt).trans hN.box)
  have hd3 := (hg.block d (by simp; omega) (fun e => hvd e.symm)).trans ((heap_alloc_old w2 o hdl).trans hD)
  exact ⟨(box_cells hb3).1, (box_cells hd3).1, (box_cells hd3).2.1, (box_cells hb3).2.2, hb3⟩

theorem put_end {w w2 w3 : World} {g base : Nat} {sent : Int} {xs : List (Int × Hd)} {bs : List (List Nat)} {to : Int} {l : List Nat} {ad2 a2 : Option Addr} {m cap2 n c2 g3 cap3 B : Nat} {o : Obj}
    (hN : NetV w2 g base (.slice ad2 m cap2) sent xs bs) (hb : Below w.heap.size w w2) (hm : m = xs.length) (hg : (w2.alloc o).grownBy w3 (Value.slice ad2 m cap2).ownBlock)
    (o3 : w3.ownsRow base DT 2 (.slice (some ⟨g3, 0, none⟩) (m + 1) cap3) (m + 1) (dcells xs ++ [.int .i64 to, .slice a2 n c2])) (o2 : w2.ownsRow B 5 1 (.slice a2 n c2) n (l.map bv)) (hlm : l.length = n) (hl : Bytes l) (hs : n ≤ 140737488355328)
    (hat : (Value.slice ad2 m cap2).ownBlock = some g3 ∨ g3 = (w2.alloc o).heap.size) (hne : (Value.slice ad2 m cap2).ownBlock ≠ some g) (hlg : g < w.heap.size) (hB : base ≤ B) (hB2 : w.heap.size ≤ B) :
    PutGives w g base (.slice ad2 m cap2) sent xs bs to l (w3.setCell ⟨g, 0, none⟩ (.slice (some ⟨g3, 0, none⟩) (m + 1) cap3)) := by
  subst hm
  subst hlm
  have hsz := hb.size
  have hbx3 : w3.heap[g]? = some (.cells #[.slice ad2 xs.length cap2, .int .i64 sent] NT (0, 0)) := (hg.block g (by simp; omega) (fun e => hne e.symm)).trans ((heap_alloc_old w2 o hN.lt).trans hN.box)
  have hgs := grown_set w3 g 0 (.slice (some ⟨g3, 0, none⟩) (xs.length + 1) cap3)
  have key : ∀ (C : Nat) (x : Hd) (k : Nat) (ys : List Value), w2.ownsRow C 5 1 (SV x) k ys → (w3.setCell ⟨g, 0, none⟩ (.slice (some ⟨g3, 0, none⟩) (xs.length + 1) cap3)).ownsRow C 5 1 (SV x) k ys := fun C x k ys h => by
    have h3 := (h.alloc o).kept hg (own_ne h hN.row (by decide))
    exact h3.kept hgs (.inr (own_ne_box h3 hbx3 (by decide)))
  refine ⟨_, (a2, l.length, c2), ⟨heap_setCell_same _ _ 0 _ _ _ hbx3, ?_, ⟨by simp [hN.own.1], fun i x q h1 h2 => ?_⟩, ?_, hN.ge⟩, ⟨?_, ?_, ?_, ?_, ?_⟩, ?_, key _ _ _ _ (ownsRow_base o2 hB2)⟩
  · have h3 := o3.kept hgs (.inr (own_ne_box o3 hbx3 (by decide)))
    rw [dcells_append, List.length_append]
    exact h3
  · have hl1 : xs.length = bs.length := by have := hN.own.1; simpa using this
    rw [List.map_append] at h1
    by_cases hi : i < xs.length
    · rw [List.getElem?_append_left (by simpa using hi)] at h1
      rw [List.getElem?_append_left (by omega)] at h2
      have := hN.own.2 i x q h1 h2
      exact ⟨this.1, key _ _ _ _ this.2⟩
    · have hi2 : i < (xs.map Prod.snd ++ [(to, ((a2, l.length, c2) : Hd))].map Prod.snd).length := (List.getElem?_eq_some_iff.1 h1).1
      simp at hi2
      have : i = xs.length := by omega
      subst this
      rw [hl1] at h2
      simp at h1 h2
      subst h1 h2
      exact ⟨rfl, key _ _ _ _ (ownsRow_base o2 hB)⟩
  · intro q hq
    rcases List.mem_append.1 hq with h | h
    · exact hN.bytes q h
    · simp at h; subst h; exact ⟨hl, hs⟩
  · exact hg.os.trans hb.os
  · exact hg.tape.trans hb.tape
  · exact hg.output.trans hb.output
  · have := hg.size; simp [World.setCell] at this ⊢; omega
  · intro b h1 h2 h3
    rw [heap_setCell_other _ ⟨g, 0, none⟩ b _ h2, hg.block b (by simp; omega) (fun e => h3 e.symm), heap_alloc_old w2 o (by omega)]
    exact hb.block b h1
  · intro b hbb
    have : b = g3 := by simpa [Value.ownBlock] using hbb.symm
    subst this
    rcases hat with h | h
    · exact .inl h
    · right; rw [h]; simp; omega

set_option maxRecDepth 100000 in
set_option maxHeartbeats 4000000 in
theorem put_any (g base : Nat) (v : Value) (sent : Int) (xs : List (Int × Hd)) (bs : List (List Nat)) (to : Int) (x : Hd) (l : List Nat) (w : World) (h : NetV w g base v sent xs bs) (hx : BytesV w x l) (hn : xs.length < 400) (hB : base ≤ w.heap.size) :
    Calls Try.prog 25 #[.pointer (some ⟨g, 0, none⟩), .agg #[.int .i64 to, SV x]] w fun e w' => e = .returned (.bool true) ∧ PutGives w g base v sent xs bs to l w' := by
  obtain ⟨i0, hi, hz0, hz1, hz2⟩ := info_parts Try.info59
  obtain ⟨ad, n, c⟩ := x
  unfold SV
  obtain ⟨m, hm⟩ : ∃ m, m = xs.length := ⟨_, rfl⟩
  have hrow := h.row
  rw [← hm] at hrow hn
  obtain ⟨ad2, cap2, hv⟩ : ∃ ad cap, v = .slice ad m cap := by
    rcases hrow.2 with ⟨rfl, h0⟩ | ⟨g', cap, cur, rfl, _⟩
    · exact ⟨none, 0, by rw [h0]⟩
    · exact ⟨_, _, rfl⟩
  have hlg := h.lt
  have hne := h.ne
  have hvd : v.ownBlock ≠ some w.heap.size := fun e => by have := row_lt h.row e; omega
  have HM := Lib.hid hm
  have hb1 := below_alloc w (.cells #[.int .i64 to, .slice ad n c] 59)
  have hN1 := h.below hb1
  have hx1 := hx.below hb1
  have hD1 := heap_alloc_new w (.cells #[.int .i64 to, .slice ad n c] 59)
  have hly := hx.bytes
  have hlm : l.length = n := hx.length
  have hsm := hx.small
  simp only at hsm
  have HLM := Lib.hid hlm
  clear hm hx hlm
  subst hv
  obtain ⟨p0, p1, pF⟩ := hN1.cells
  go_enter Try.func25, Try.ntmps25
  go_wp2
  clear p0 p1 pF
  generalize hw1 : w.alloc (.cells #[.int .i64 to, .slice ad n c] 59) = w1 at hb1 hN1 hx1 hD1 ⊢
  have hsz1 : w1.heap.size = w.heap.size + 1 := by rw [← hw1]; simp
  have HSZ := Lib.hid hsz1
  obtain ⟨p0, p1, pF⟩ := hN1.cells
  obtain ⟨q0, q1, qF⟩ := box_cells hD1
  have hrow1 := hN1.row
  rw [← HM.out] at hrow1
  clear hsz1 hw1
  have hm2 : m < 400 := hn
  go_region_law
    (first
      | (refine step_append_lies _ rfl (.tmp 15) (.tmp 22) 52 rfl base 59 i0 (.agg #[.int .i64 0, .slice none 0 0]) 2 32 Try.underlying52 hi hz0 hz1 hz2 rfl (by decide) (.slice ad2 m cap2) m (dcells xs) (by rfl) (hrow2.alloc _) ⟨w2.heap.size, 0, none⟩ 1 1 [.int .i64 to, .slice a2 n c2] (by rfl) (by rfl) (World.news_of_block (heap_alloc_new w2 _)) (by intro u hu; simp at hu; rcases hu with rfl | rfl <;> rfl) (by decide) (by simp [maxLen]; omega) (by omega) (by have := b2.size; have := HSZ.out; simp; omega) _ rfl ?_; intro g3 cap3 w3 o3 g3' hat _; obtain ⟨r3, s3, t3, rF3, hbx3⟩ := put_late hN2 hD2 g3' hlg hne hvd)
      | ((rw [if_pos (by rfl)]); go_simp; (with_reducible refine (clone_any _ _ _ l _ ?h).mono ?_); (case h => exact hx1.heap rfl); rintro e w2 ⟨a2, c2, rfl, o2, d2⟩; rw [HLM.out] at o2 ⊢; have b2 : Below w1.heap.size w1 w2 := ⟨d2.os, d2.tape, d2.output, d2.size, d2.block⟩; obtain ⟨hN2, hD2, r2, s2, t2, ra, sa, ta⟩ := put_mid hN1 hD1 b2 hlg; have hrow2 := hN2.row; rw [← HM.out] at hrow2; dsimp only))
  all_goals go_wp2
  all_goals go_ret
  all_goals exact ⟨rfl, put_end hN2 (hb1.trans (b2.mono (by have := HSZ.out; omega))) HM.out g3' o3 o2 HLM.out hly hsm hat hne hlg (by have := HSZ.out; show base ≤ w1.heap.size; omega) (by have := HSZ.out; show w.heap.size ≤ w1.heap.size; omega)⟩
end Go.Proofs.Ytbkbkhinpeoflaa
