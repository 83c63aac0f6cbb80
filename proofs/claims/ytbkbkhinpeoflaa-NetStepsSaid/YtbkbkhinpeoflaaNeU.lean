/-
  net: the reference's calls over memory of the call's own.
-/
import Derived.Test.YtbkbkhinpeoflaaNeT
import Derived.Deep.RegionHeld3
import Derived.StillTailTactics
namespace Go.Proofs.Ytbkbkhinpeoflaa
open Go.RowKit

theorem results_rsend' (tmps : Array Value) (w : World) (g : Nat) (cs : Array Value) (b : Bool) (hp : tmps.getD 6 undef = .pointer (some ⟨g, 0, none⟩)) (h5 : tmps.getD 7 undef = .bool b) (hg : w.heap[g]? = some (.cells cs 29 (0, 0))) (hs : cs.size = 3) :
    (results Try.f11 tmps).run Try.prog w = .ok (.tuple #[.agg cs, .bool b]) w := results_rsend tmps w g cs b hp h5 hg hs
set_option maxRecDepth 100000 in
set_option maxHeartbeats 4000000 in
theorem refSend_full (aT : Option Addr) (cT : Nat) (aD : Option Addr) (cD n : Nat) (cnt to : Int) (ab : Option Addr) (nb cb : Nat) (w : World) (hn : 400 ≤ n) :
    Calls Try.prog 11 #[.agg #[.slice aT n cT, .slice aD n cD, .int .i64 cnt], .int .i64 to, .slice ab nb cb] w fun e w' => e = .returned (.tuple #[.agg #[.slice aT n cT, .slice aD n cD, .int .i64 cnt], .bool false]) ∧ Below w.heap.size w w' := by
  obtain ⟨hA, hR, hb, -⟩ := two_boxes w (.slice aT n cT) (.slice aD n cD) (.int .i64 cnt) (.slice none 0 0) (.slice none 0 0) (.int .i64 0)
  obtain ⟨-, hR9, hb9, -⟩ := two_boxes w (.slice aT n cT) (.slice aD n cD) (.int .i64 cnt) (.slice aT n cT) (.slice aD n cD) (.int .i64 cnt)
  unfold RT at hA hR hb hR9 hb9
  obtain ⟨p0, p1, p2, pF⟩ := box3_cells hA
  obtain ⟨s0, s1, s2, sF⟩ := box3_cells hR
  go_enter Try.func11, Try.ntmps11
  go_wp2
  exact bodyPost_ret (v := .tuple #[.agg #[.slice aT n cT, .slice aD n cD, .int .i64 cnt], .bool false]) (results_rsend' _ _ _ _ _ rfl rfl hR9 rfl) rfl ⟨rfl, hb9⟩

theorem SendRes.own {w w' : World} {B n : Nat} {ts : List Int} {to : Int} {hs : List (Option Addr × Nat × Nat)} {bs : List (List Nat)} {l : List Nat} {a2 : Option Addr} {c2 : Nat} {a6 : Option Addr} {c6 : Nat} (h : SendRes w w' n ts to hs l a2 c2 a6 c6) (hO : OwnsRows w' B 5 hs bs) (hbs : ∀ l ∈ bs, Bytes l ∧ l.length ≤ 140737488355328) (hB : B ≤ w.heap.size + 2) (hn : n < 400) :
    ∃ x, OwnR w' B a2 c2 a6 c6 (n + 1) (ts ++ [to]) (hs ++ [x]) (bs ++ [l]) := by
  obtain ⟨x, t, d, o, hy, hl⟩ := h
  have hx : x.2.1 = l.length := by have := o.1; simpa using this.symm
  refine ⟨x, ⟨by rw [List.map_append]; exact ownsRow_base t hB, by rw [List.map_append]; exact ownsRow_base d hB, hO.snoc hx (by rw [← hx]; exact ownsRow_base o hB), fun m hm => ?_, by omega⟩⟩
  rcases List.mem_append.1 hm with hm | hm
  · exact hbs m hm
  · simp only [List.mem_singleton] at hm
    subst hm
    exact ⟨hy, by omega⟩
theorem refSend_R (B : Nat) (aT : Option Addr) (cT : Nat) (aD : Option Addr) (cD n : Nat) (ts : List Int) (hs : List (Option Addr × Nat × Nat)) (bs : List (List Nat)) (cnt to : Int) (ab : Option Addr) (nb cb : Nat) (l : List Nat) (w : World)
    (h : OwnR w B aT cT aD cD n ts hs bs) (hB : B ≤ w.heap.size) (hx : BytesV w (ab, nb, cb) l) (hn : n < 400) (h0 : 0 ≤ cnt) (h1 : cnt ≤ 1000000000) :
    Calls Try.prog 11 #[.agg #[.slice aT n cT, .slice aD n cD, .int .i64 cnt], .int .i64 to, .slice ab nb cb] w fun e w' => ∃ aT' cT' aD' cD' x, e = .returned (.tuple #[.agg #[.slice aT' (n + 1) cT', .slice aD' (n + 1) cD', .int .i64 (cnt + 1)], .bool true]) ∧ OwnR w' B aT' cT' aD' cD' (n + 1) (ts ++ [to]) (hs ++ [x]) (bs ++ [l]) ∧ Below w.heap.size w w' :=
  (refSend_own aT cT aD cD n ts bs cnt to ab nb cb l w hs h.row h.ref hx hn h0 h1).mono fun _ _ ⟨a, b, c, d, he, hS, hb⟩ => by
    obtain ⟨x, hO⟩ := hS.own (h.o.below hb) h.bytes (by omega) hn
    exact ⟨a, b, c, d, x, he, hO, hb⟩
theorem owns_erase {w : World} {B : Nat} {T : TypeId} {hs : List (Option Addr × Nat × Nat)} {bs : List (List Nat)} (h : OwnsRows w B T hs bs) (i : Nat) : OwnsRows w B T (hs.eraseIdx i) (bs.eraseIdx i) := by
  refine ⟨by rw [List.length_eraseIdx, List.length_eraseIdx, h.1], fun j x l h1 h2 => ?_⟩
  rw [eraseIdx_get] at h1 h2
  by_cases hj : j < i
  · rw [if_pos hj] at h1 h2
    exact h.2 j x l h1 h2
  · rw [if_neg hj] at h1 h2
    exact h.2 (j + 1) x l h1 h2
theorem lost_own {w' : World} {B B' m i : Nat} {a2 a6 : Option Addr} {c2 c6 : Nat} {ts : List Int} {hs : List (Option Addr × Nat × Nat)} {bs : List (List Nat)} (hm : m ≤ 400)
    (t : w'.ownsRow B' 3 1 (.slice a2 m c2) m ((ts.take i).map iv ++ (ts.drop (i + 1)).map iv)) (d : w'.ownsRow B' 31 1 (.slice a6 m c6) m ((hs.take i).map SV ++ (hs.drop (i + 1)).map SV)) (hO : OwnsRows w' B 5 hs bs) (hbs : ∀ l ∈ bs, Bytes l ∧ l.length ≤ 140737488355328) (hB : B ≤ B') :
    OwnR w' B a2 c2 a6 c6 m (ts.eraseIdx i) (hs.eraseIdx i) (bs.eraseIdx i) := by
  rw [← List.map_append, split_erase] at t d
  exact ⟨ownsRow_base t hB, ownsRow_base d hB, owns_erase hO i, fun l hl => hbs l (List.mem_of_mem_eraseIdx hl), hm⟩
theorem refLose_R (B : Nat) (aT : Option Addr) (cT : Nat) (aD : Option Addr) (cD n m : Nat) (ts : List Int) (hs : List (Option Addr × Nat × Nat)) (bs : List (List Nat)) (cnt : Int) (i : Nat) (w : World) (h : OwnR w B aT cT aD cD n ts hs bs) (hB : B ≤ w.heap.size) (hi : i < n) (hm : m + 1 = n) :
    Calls Try.prog 17 #[.agg #[.slice aT n cT, .slice aD n cD, .int .i64 cnt], .int .i64 (i : Nat)] w fun e w' => ∃ aT' cT' aD' cD', e = .returned (.tuple #[.agg #[.slice aT' m cT', .slice aD' m cD', .int .i64 cnt], .bool true]) ∧ OwnR w' B aT' cT' aD' cD' m (ts.eraseIdx i) (hs.eraseIdx i) (bs.eraseIdx i) ∧ Below w.heap.size w w' := by
  have hle := h.le
  refine (refLose_own aT cT aD cD n ts bs cnt i w hs h.row h.ref hi hle).mono fun e w' ⟨a, b, c, d, he, h1, h2, hb⟩ => ?_
  have e1 : i + (n - (i + 1)) = m := by omega
  rw [e1] at he h1 h2
  exact ⟨a, b, c, d, he, lost_own (by omega) h1 h2 (h.o.below hb) h.bytes (by omega), hb⟩
theorem refTake_R (B : Nat) (aT : Option Addr) (cT : Nat) (aD : Option Addr) (cD n m : Nat) (ts : List Int) (hs : List (Option Addr × Nat × Nat)) (bs : List (List Nat)) (cnt : Int) (i : Nat) (t : Int) (l : List Nat) (w : World) (h : OwnR w B aT cT aD cD n ts hs bs) (hB : B ≤ w.heap.size) (ht : ts[i]? = some t) (hl : bs[i]? = some l) (hm : m + 1 = n) :
    Calls Try.prog 14 #[.agg #[.slice aT n cT, .slice aD n cD, .int .i64 cnt], .int .i64 (i : Nat)] w fun e w' => ∃ aT' cT' aD' cD' ab nb cb, e = .returned (.tuple #[.agg #[.slice aT' m cT', .slice aD' m cD', .int .i64 cnt], .int .i64 t, .slice ab nb cb, .bool true]) ∧ w'.ownsRow B 5 1 (.slice ab nb cb) nb (l.map bv) ∧ OwnR w' B aT' cT' aD' cD' m (ts.eraseIdx i) (hs.eraseIdx i) (bs.eraseIdx i) ∧ Below w.heap.size w w' := by
  have hle := h.le
  have hlen := h.o.1
  have hi := (List.getElem?_eq_some_iff.1 hl).1
  obtain ⟨⟨ab, nb, cb⟩, hx⟩ : ∃ x, hs[i]? = some x := ⟨_, List.getElem?_eq_getElem (by omega)⟩
  refine (refTake_own aT cT aD cD n m ts bs cnt i t w hs ab nb cb h.row h.ref ht hx hle hm).mono fun e w' ⟨a, b, c, d, he, h1, h2, hb⟩ => ?_
  obtain ⟨k1, k2⟩ := h.o.2 i _ l hx hl
  simp only at k1
  refine ⟨a, b, c, d, ab, nb, cb, he, ?_, lost_own (by omega) h1 h2 (h.o.below hb) h.bytes (by omega), hb⟩
  rw [← k1] at k2
  exact k2.kept (grownBy_of_below hb none) (by cases (SV (ab, nb, cb)).ownBlock <;> simp)
theorem refDouble_R (B : Nat) (aT : Option Addr) (cT : Nat) (aD : Option Addr) (cD n : Nat) (ts : List Int) (hs : List (Option Addr × Nat × Nat)) (bs : List (List Nat)) (cnt : Int) (i : Nat) (t : Int) (l : List Nat) (w : World) (h : OwnR w B aT cT aD cD n ts hs bs) (hB : B ≤ w.heap.size) (ht : ts[i]? = some t) (hl : bs[i]? = some l) (hn : n < 400) (h0 : 0 ≤ cnt) (h1 : cnt ≤ 1000000000) :
    Calls Try.prog 19 #[.agg #[.slice aT n cT, .slice aD n cD, .int .i64 cnt], .int .i64 (i : Nat)] w fun e w' => ∃ aT' cT' aD' cD' x, e = .returned (.tuple #[.agg #[.slice aT' (n + 1) cT', .slice aD' (n + 1) cD', .int .i64 (cnt + 1)], .bool true]) ∧ OwnR w' B aT' cT' aD' cD' (n + 1) (ts ++ [t]) (hs ++ [x]) (bs ++ [l]) ∧ Below w.heap.size w w' :=
  (refDouble_own aT cT aD cD n ts bs cnt i t l w hs h.row (h.o.rowsV h.bytes) h.ref ht hl hn h0 h1).mono fun _ _ ⟨wz, a, b, c, d, hz, he, hS, hb⟩ => by
    obtain ⟨x, hO⟩ := hS.own (h.o.below hb) h.bytes (by omega) hn
    exact ⟨a, b, c, d, x, he, hO, hb⟩
set_option maxRecDepth 100000 in
set_option maxHeartbeats 8000000 in
theorem refDouble_full (aT : Option Addr) (cT : Nat) (aD : Option Addr) (cD n : Nat) (ts : List Int) (bs : List (List Nat)) (cnt : Int) (i : Nat) (t : Int) (w : World) (hs : List (Option Addr × Nat × Nat)) (hV : RowV w aD n (hs.map SV))
    (h : RefN w aT cT aD cD n ts bs) (ht : ts[i]? = some t) (hn : 400 ≤ n) :
    Calls Try.prog 19 #[.agg #[.slice aT n cT, .slice aD n cD, .int .i64 cnt], .int .i64 (i : Nat)] w fun e w' => e = .returned (.tuple #[.agg #[.slice aT n cT, .slice aD n cD, .int .i64 cnt], .bool false]) ∧ Below w.heap.size w w' := by
  have hts : ts.length = n := h.ints.length
  have hi : i < n := by have := (List.getElem?_eq_some_iff.1 ht).1; omega
  obtain ⟨hA, hR, hb, hsz⟩ := two_boxes w (.slice aT n cT) (.slice aD n cD) (.int .i64 cnt) (.slice none 0 0) (.slice none 0 0) (.int .i64 0)
  unfold RT at hA hR hb hsz
  have hhs : hs.length = n := by have := hV.1; simpa using this
  obtain ⟨⟨ab, nb, cb⟩, hx⟩ : ∃ x, hs[i]? = some x := ⟨_, List.getElem?_eq_getElem (by omega)⟩
  obtain ⟨b, o, e1, hc⟩ := (h.ints.below hb).row.2 (by simp; omega)
  simp only at e1 hc
  have hc1 := hc i hi
  rw [List.getElem?_map, ht] at hc1
  simp only [Option.map_some, iv] at hc1
  obtain ⟨b', o', e2, hd⟩ := (hV.below hb).2 (by omega)
  have hd1 := hd i hi
  rw [List.getElem?_map, hx] at hd1
  unfold SV at hd1
  simp only [Option.map_some] at hd1
  have hb1 : b ≠ w.heap.size + 1 := by have := h.ints.row.lt (a := ⟨b, o, none⟩) (by simp; omega) e1; simp only at this; omega
  have hb2 : b' ≠ w.heap.size + 1 := by have := hV.lt (a := ⟨b', o', none⟩) (by omega) e2; simp only at this; omega
  subst e1 e2
  obtain ⟨p0, p1, p2, pF⟩ := box3_cells hA
  have hcT := h.ints.cap
  have hcD := h.cap
  simp only at hcT
  clear h ht hc hd hts hhs hx hV
  go_enter Try.func19, Try.ntmps19
  go_wp2
  generalize hww : (w.alloc (.cells #[.slice (some ⟨b, o, none⟩) n cT, .slice (some ⟨b', o', none⟩) n cD, .int .i64 cnt] 29)).alloc (.cells #[.slice none 0 0, .slice none 0 0, .int .i64 0] 29) = w0 at hA hR hb hsz hc1 hd1 p0 p1 p2 pF ⊢
  clear hww
  have KS := fun (w' : World) => refSend_full (some ⟨b, o, none⟩) cT (some ⟨b', o', none⟩) cD n cnt t ab nb cb w' hn
  go_region_held3 (fun w' => w'.cell? ⟨w.heap.size, 0, none⟩ = some (.slice (some ⟨b, o, none⟩) n cT) ∧ w'.cell? ⟨w.heap.size, 1, none⟩ = some (.slice (some ⟨b', o', none⟩) n cD) ∧ w'.cell? ⟨w.heap.size, 2, none⟩ = some (.int .i64 cnt) ∧ w'.cell? ⟨b, o + i, none⟩ = some (.int .i64 t) ∧ w'.cell? ⟨b', o' + i, none⟩ = some (.slice ab nb cb)) (first | exact ⟨q0, q1, q2, hc5, hd5⟩ | exact ⟨u0, u1, u2, hc6, hd6⟩ | exact ⟨p0, p1, p2, hc1, hd1⟩ | go_keep)
    (first
      | (go_at_call 11; (with_reducible refine (KS _).mono ?_); rintro e w5 ⟨rfl, b5⟩; have b5' : Below w0.heap.size w0 w5 := ⟨b5.os, b5.tape, b5.output, b5.size, b5.block⟩; have hA5 := box_below hA b5'; have hR5 := box_below hR b5'; obtain ⟨q0, q1, q2, qF⟩ := box3_cells hA5; obtain ⟨r0, r1, r2, rF⟩ := box3_cells hR5; have hc5 := (World.cell?_of_block (a := ⟨b, o + i, none⟩) (b5'.block b (block_lt_of_cell hc1))).trans hc1; have hd5 := (World.cell?_of_block (a := ⟨b', o' + i, none⟩) (b5'.block b' (block_lt_of_cell hd1))).trans hd1; have hb5 := hb.trans (b5'.mono hb.size); have hA6 : (set3 w5 (w.heap.size + 1) (.slice (some ⟨b, o, none⟩) n cT) (.slice (some ⟨b', o', none⟩) n cD) (.int .i64 cnt)).heap[w.heap.size]? = _ := set_other (c := w.heap.size + 1) (i := 2) (set_other (c := w.heap.size + 1) (i := 1) (set_other (c := w.heap.size + 1) (i := 0) hA5 (by omega) _) (by omega) _) (by omega) _; obtain ⟨u0, u1, u2, uF⟩ := box3_cells hA6; have hk6 : ∀ x, x ≠ w.heap.size + 1 → (set3 w5 (w.heap.size + 1) (.slice (some ⟨b, o, none⟩) n cT) (.slice (some ⟨b', o', none⟩) n cD) (.int .i64 cnt)).heap[x]? = w5.heap[x]? := fun x hx => ((heap_setCell_other _ ⟨_, 2, none⟩ x _ hx).trans (heap_setCell_other _ ⟨_, 1, none⟩ x _ hx)).trans (heap_setCell_other _ ⟨_, 0, none⟩ x _ hx); have hc6 := (World.cell?_of_block (a := ⟨b, o + i, none⟩) (hk6 b hb1)).trans hc5; have hd6 := (World.cell?_of_block (a := ⟨b', o' + i, none⟩) (hk6 b' hb2)).trans hd5))
  all_goals go_wp2
  all_goals
    have hb9 := set3_below (g := w.heap.size + 1) hb5 (by omega) (.slice (some ⟨b, o, none⟩) n cT) (.slice (some ⟨b', o', none⟩) n cD) (.int .i64 cnt)
    exact bodyPost_ret (v := .tuple #[.agg #[.slice (some ⟨b, o, none⟩) n cT, .slice (some ⟨b', o', none⟩) n cD, .int .i64 cnt], .bool false]) (results_rdouble _ _ _ _ _ rfl rfl (set3_same (.slice (some ⟨b, o, none⟩) n cT) (.slice (some ⟨b', o', none⟩) n cD) (.int .i64 cnt) hR5) rfl) rfl ⟨rfl, hb9⟩
end Go.Proofs.Ytbkbkhinpeoflaa
