/-
  rilllaw02: LinOrder.
-/
import Derived.Test.YtgnnfpnkhemimaaLjD
import Derived.Test.YtgnnfpnkhemimaaLaw
import Derived.StillTailTactics
namespace Go.Proofs.Ytgnnfpnkhemimaa
open Go.RowKit

def turnR (k : Nat) (rows : List (List Nat)) : List (List Nat) := rows.reverse.map (scaleB k)
def joinR (S : List (List Nat)) : List (List Nat) := S.set 0 (addB (S.getD 0 []) (S.getD 1 []))
theorem turn_len (k : Nat) (rows : List (List Nat)) : (turnR k rows).length = rows.length := by simp [turnR]
theorem join_len (S : List (List Nat)) : (joinR S).length = S.length := by simp [joinR]
theorem turn_at {k : Nat} {rows : List (List Nat)} {i : Nat} (h : i < rows.length) : (turnR k rows)[i]? = (rows[rows.length - 1 - i]?).map (scaleB k) := by
  unfold turnR
  rw [List.getElem?_map, List.getElem?_reverse h]
theorem rws_turn {k n : Nat} {rows : List (List Nat)} (hk : k < 256) (h : Rws rows n) : Rws (turnR k rows) n := fun r hr => by
  obtain ⟨r0, h0, rfl⟩ := List.mem_map.1 hr
  exact ⟨scaleB_bytes hk, by rw [scaleB_length, (h r0 (List.mem_reverse.1 h0)).2]⟩
theorem rws_getD {n : Nat} {S : List (List Nat)} (h : Rws S n) {i : Nat} (hi : i < S.length) : Bytes (S.getD i []) ∧ (S.getD i []).length = n := by
  rw [List.getD_eq_getElem?_getD, List.getElem?_eq_getElem hi]
  exact h _ (List.getElem_mem hi)
theorem rws_join {n : Nat} {S : List (List Nat)} (h2 : 2 ≤ S.length) (h : Rws S n) : Rws (joinR S) n := fun r hr => by
  rcases List.mem_or_eq_of_mem_set hr with h1 | h1
  · exact h r h1
  · rw [h1]
    have a := rws_getD h (i := 0) (by omega)
    have b := rws_getD h (i := 1) (by omega)
    exact ⟨addB_bytes a.1 b.1, by rw [addB_length, a.2, b.2]; omega⟩
theorem dot_scaleB {y : Nat → Nat} {k n : Nat} {r v : List Nat} (hy : ∀ j, y j < 256) (hk : k < 256) (hr : Bytes r) (hv : Bytes v) : dot y (scaleB k r ++ scaleB k v) n = mul k (dot y (r ++ v) n) := by
  have e : scaleB k r ++ scaleB k v = scaleB k (r ++ v) := by simp [scaleB]
  rw [e]
  exact dot_mul hy (fun x hx => by
    rcases List.mem_append.1 hx with h | h
    · exact hr x h
    · exact hv x h) hk (fun j _ => scaleB_getD k _ j)
theorem addB_app {a b c d : List Nat} (h : a.length = c.length) (j : Nat) : (addB a c ++ addB b d).getD j 0 = (a ++ b).getD j 0 ^^^ (c ++ d).getD j 0 := by
  have hl : (addB a c).length = a.length := by rw [addB_length]; omega
  by_cases hj : j < a.length
  · rw [List.getD_eq_getElem?_getD, List.getElem?_append_left (by omega), List.getD_eq_getElem?_getD, List.getElem?_append_left hj, List.getD_eq_getElem?_getD, List.getElem?_append_left (by omega)]
    have := addB_getD a c j
    simpa [List.getD_eq_getElem?_getD] using this
  · rw [List.getD_eq_getElem?_getD, List.getElem?_append_right (by omega), List.getD_eq_getElem?_getD, List.getElem?_append_right (by omega), List.getD_eq_getElem?_getD, List.getElem?_append_right (by omega), hl, ← h]
    have := addB_getD b d (j - a.length)
    simpa [List.getD_eq_getElem?_getD] using this
theorem bytes_app {a b : List Nat} (ha : Bytes a) (hb : Bytes b) : Bytes (a ++ b) := fun x hx => by
  rcases List.mem_append.1 hx with h | h
  · exact ha x h
  · exact hb x h
theorem dot_join {y : Nat → Nat} {a b c d : List Nat} {n : Nat} (hy : ∀ j, y j < 256) (h : a.length = c.length) (ha : Bytes a) (hb : Bytes b) (hc : Bytes c) (hd : Bytes d) : dot y (addB a c ++ addB b d) n = dot y (a ++ b) n ^^^ dot y (c ++ d) n := by
  unfold dot
  rw [← xsum_xor]
  apply xsum_congr
  intro j _
  rw [addB_app h j, mul_xor (hy j) ((bytes_app ha hb).getD j) ((bytes_app hc hd).getD j)]
theorem kill_turn {y : Nat → Nat} {k cols wid n : Nat} {rows vs : List (List Nat)} (hy : ∀ j, y j < 256) (hk : k < 256) (k0 : k ≠ 0) (hl : vs.length = rows.length) (hr : Rws rows cols) (hv : Rws vs wid) :
    (∀ a ∈ augs rows vs, dot y a n = 0) ↔ ∀ a ∈ augs (turnR k rows) (turnR k vs), dot y a n = 0 := by
  constructor
  · intro h a ha
    obtain ⟨i, s, t, h1, h2, rfl⟩ := mem_augs.1 ha
    have hi : i < rows.length := by have := (List.getElem?_eq_some_iff.1 h1).1; rwa [turn_len] at this
    rw [turn_at hi] at h1
    rw [turn_at (by omega), hl] at h2
    rw [Option.map_eq_some_iff] at h1 h2
    obtain ⟨r, h1, rfl⟩ := h1
    obtain ⟨v, h2, rfl⟩ := h2
    rw [dot_scaleB hy hk (hr r (List.mem_of_getElem? h1)).1 (hv v (List.mem_of_getElem? h2)).1, h _ (mem_augs.2 ⟨_, r, v, h1, h2, rfl⟩), mul_zero]
  · intro h a ha
    obtain ⟨i, r, v, h1, h2, rfl⟩ := mem_augs.1 ha
    have hi := (List.getElem?_eq_some_iff.1 h1).1
    have e : rows.length - 1 - (rows.length - 1 - i) = i := by omega
    have := h (scaleB k r ++ scaleB k v) (mem_augs.2 ⟨rows.length - 1 - i, _, _, by rw [turn_at (by omega), e, h1]; rfl, by rw [turn_at (by omega), hl, e, h2]; rfl, rfl⟩)
    rw [dot_scaleB hy hk (hr r (List.mem_of_getElem? h1)).1 (hv v (List.mem_of_getElem? h2)).1] at this
    exact Classical.byContradiction fun e2 => mul_ne hk (dot_lt hy _ _) k0 e2 this
theorem join_at {S : List (List Nat)} (h2 : 2 ≤ S.length) (i : Nat) : (joinR S)[i]? = if i = 0 then some (addB (S.getD 0 []) (S.getD 1 [])) else S[i]? := by
  unfold joinR
  rw [List.getElem?_set]
  by_cases h : i = 0
  · subst h; rw [if_pos rfl, if_pos rfl, if_pos (by omega)]
  · rw [if_neg (fun e => h e.symm), if_neg h]
theorem getD_some {S : List (List Nat)} {i : Nat} (h : i < S.length) : S[i]? = some (S.getD i []) := by
  rw [List.getD_eq_getElem?_getD, List.getElem?_eq_getElem h]; rfl
theorem kill_join {y : Nat → Nat} {cols wid n : Nat} {S T : List (List Nat)} (hy : ∀ j, y j < 256) (h2 : 2 ≤ S.length) (hl : T.length = S.length) (hr : Rws S cols) (hv : Rws T wid) :
    (∀ a ∈ augs S T, dot y a n = 0) ↔ ∀ a ∈ augs (joinR S) (joinR T), dot y a n = 0 := by
  have a0 := rws_getD hr (i := 0) (by omega)
  have a1 := rws_getD hr (i := 1) (by omega)
  have b0 := rws_getD hv (i := 0) (by omega)
  have b1 := rws_getD hv (i := 1) (by omega)
  have hj : dot y (addB (S.getD 0 []) (S.getD 1 []) ++ addB (T.getD 0 []) (T.getD 1 [])) n = dot y (S.getD 0 [] ++ T.getD 0 []) n ^^^ dot y (S.getD 1 [] ++ T.getD 1 []) n := dot_join hy (by rw [a0.2, a1.2]) a0.1 b0.1 a1.1 b1.1
  constructor
  · intro h a ha
    obtain ⟨i, s, t, h1, h3, rfl⟩ := mem_augs.1 ha
    rw [join_at h2] at h1
    rw [join_at (by omega)] at h3
    by_cases hi : i = 0
    · rw [if_pos hi] at h1 h3
      injection h1 with h1
      injection h3 with h3
      rw [← h1, ← h3, hj, h _ (mem_augs.2 ⟨0, _, _, getD_some (by omega), getD_some (by omega), rfl⟩), h _ (mem_augs.2 ⟨1, _, _, getD_some (by omega), getD_some (by omega), rfl⟩)]
      rfl
    · rw [if_neg hi] at h1 h3
      exact h _ (mem_augs.2 ⟨i, s, t, h1, h3, rfl⟩)
  · intro h a ha
    have e1 := h _ (mem_augs.2 ⟨1, _, _, by rw [join_at h2, if_neg (by omega)]; exact getD_some (by omega), by rw [join_at (by omega), if_neg (by omega)]; exact getD_some (by omega), rfl⟩)
    have e0 := h _ (mem_augs.2 ⟨0, _, _, by rw [join_at h2, if_pos rfl], by rw [join_at (by omega), if_pos rfl], rfl⟩)
    rw [hj, e1, Nat.xor_zero] at e0
    obtain ⟨i, s, t, h1, h3, rfl⟩ := mem_augs.1 ha
    by_cases hi : i = 0
    · subst hi
      rw [getD_some (by omega)] at h1 h3
      injection h1 with h1
      injection h3 with h3
      rw [← h1, ← h3]
      exact e0
    · exact h _ (mem_augs.2 ⟨i, s, t, by rw [join_at h2, if_neg hi]; exact h1, by rw [join_at (by omega), if_neg hi]; exact h3, rfl⟩)
theorem order_same {cols : Int} {rows vs : List (List Nat)} {k : Nat} (hk : k < 256) (k0 : k ≠ 0) (h2 : 2 ≤ rows.length) (mr : Mem rows) (mv : Mem vs) (hB : solveOK cols rows vs = true) :
    solveR cols (joinR (turnR k rows)) (joinR (turnR k vs)) = solveR cols rows vs ∧ widthB (joinR (turnR k vs)) = widthB vs := by
  obtain ⟨b1, b2, b3⟩ := solveOK_iff.1 hB
  obtain ⟨k1, k2, k3, k4, k5⟩ := right_rws b1 mr
  have w1 := even_rws b3 mv
  have c1 := rws_turn hk k1
  have d1 := rws_turn hk w1
  have c2 := rws_join (by rw [turn_len]; omega) c1
  have d2 := rws_join (by rw [turn_len]; omega) d1
  obtain ⟨q1, q2, q3, q4⟩ := rightB_iff.1 b1
  have hw := width_rws d2 (by rw [join_len, turn_len]; omega)
  have hB2 : solveOK cols (joinR (turnR k rows)) (joinR (turnR k vs)) = true := solveOK_iff.2 ⟨rightB_iff.2 ⟨q1, q2, by rw [join_len, turn_len]; exact q3, fun r hr => by have := (c2 r hr).2; omega⟩, by rw [join_len, turn_len, join_len, turn_len]; exact b2, even_of_rws d2⟩
  have s1 := says_augs b2 k1 w1
  have s2 := says_augs (by rw [join_len, turn_len, join_len, turn_len]; exact b2) c2 d2
  refine ⟨?_, hw⟩
  unfold solveR
  rw [if_pos hB, if_pos hB2, solveOut_end, solveOut_end]
  refine end_congr s2 s1 (fun y hy => ?_)
  rw [kill_turn (n := cols.toNat + widthB vs) hy hk k0 b2 k1 w1, kill_join (n := cols.toNat + widthB vs) hy (by rw [turn_len]; omega) (by rw [turn_len, turn_len]; exact b2) c1 d1]

/-! in memory -/
theorem OwnRs.other {w w' : World} {B B' g g' n n' c c' : Nat} {ls : List (List Nat)} {xs : List Value} (h : OwnRs w B (some ⟨g, 0, none⟩) n c ls) (hg : w.grownBy w' (some g')) (hne : g ≠ g') (ho : w.ownsRow B' 34 1 (.slice (some ⟨g', 0, none⟩) n' c') n' xs) : OwnRs w' B (some ⟨g, 0, none⟩) n c ls := by
  obtain ⟨h0, hs, h1, h2, h3⟩ := h
  refine ⟨h0, hs, h1.kept hg (.inr fun e => ?_), h2.kept hg (fun i y m a b => ?_), h3⟩
  · simp [Value.ownBlock] at e; exact hne e
  · have := own_ne (h2.2 i y m a b).2 ho (by decide)
    simpa [Value.ownBlock] using this
theorem OwnRs.set0 {w : World} {B g n c : Nat} {ls : List (List Nat)} {x : HdT} {l : List Nat} (h : OwnRs w B (some ⟨g, 0, none⟩) n c ls) (hx : w.ownsRow B 5 1 (SV x) l.length (l.map bv)) (hxl : x.2.1 = l.length) (hl : Bytes l ∧ l.length ≤ 140737488355328) :
    OwnRs (w.setCell ⟨g, 0, none⟩ (SV x)) B (some ⟨g, 0, none⟩) n c (ls.set 0 l) := by
  obtain ⟨h0, hs, h1, h2, h3⟩ := h
  have hg := grown_set4 w g 0 (SV x)
  have k1 := own_set' h1 0 (SV x)
  rw [← List.map_set] at k1
  have k2 : OwnsRows (w.setCell ⟨g, 0, none⟩ (SV x)) B 5 hs ls := h2.kept hg (fun i y m a b => by
    have := own_ne (h2.2 i y m a b).2 h1 (by decide)
    simpa [Value.ownBlock] using this)
  have k3 := hx.kept hg (by
    have := own_ne hx h1 (by decide)
    simpa [Value.ownBlock] using this)
  refine ⟨by simp [h0], hs.set 0 x, k1, ⟨by simp [h2.1], fun i y m a b => ?_⟩, fun m hm => ?_⟩
  · rw [List.getElem?_set] at a b
    by_cases hi : 0 = i
    · rw [if_pos hi] at a b
      split at a
      · split at b
        · injection a with a
          injection b with b
          subst a b
          exact ⟨hxl, k3⟩
        · cases b
      · cases a
    · rw [if_neg hi] at a b
      exact k2.2 i y m a b
  · rcases List.mem_or_eq_of_mem_set hm with h | h
    · exact h3 m h
    · rw [h]; exact hl

theorem turn_step {k j : Nat} {rows : List (List Nat)} {m : Nat} {r : List Nat} (hm : (m : Int) = (rows.length : Int) - 1 - j) (hr : rows[m]? = some r) : (turnR k rows).take (j + 1) = (turnR k rows).take j ++ [scaleB k r] := by
  have hi := (List.getElem?_eq_some_iff.1 hr).1
  apply take_step
  rw [turn_at (by omega), show rows.length - 1 - j = m by omega, hr]
  rfl
theorem OwnRs.ltg {w : World} {B g n c : Nat} {ls : List (List Nat)} (h : OwnRs w B (some ⟨g, 0, none⟩) n c ls) : B ≤ g ∧ g < w.heap.size := by
  obtain ⟨_, hs, h1, -⟩ := h
  exact h1.lt g rfl
theorem OwnRs.two {w : World} {B g n c : Nat} {ls : List (List Nat)} {l0 l1 : List Nat} (e0 : ls.getD 0 [] = l0) (e1 : ls.getD 1 [] = l1) (h : OwnRs w B (some ⟨g, 0, none⟩) n c ls) (h2 : 2 ≤ n) : ∃ a0 n0 c0 a1 n1 c1, w.cell? ⟨g, 0, none⟩ = some (.slice a0 n0 c0) ∧ w.cell? ⟨g, 1, none⟩ = some (.slice a1 n1 c1) ∧ BytesV w (a0, n0, c0) l0 ∧ BytesV w (a1, n1, c1) l1 ∧ w.frozen? ⟨g, 0, none⟩ = false := by
  subst e0 e1
  obtain ⟨b, off, a0, n0, c0, l0, e, hc0, hl0, hB0⟩ := h.rd.at (i := 0) (by omega)
  injection e with e
  injection e with e1 e2
  subst e1 e2
  obtain ⟨b, off, a1, n1, c1, l1, e, hc1, hl1, hB1⟩ := h.rd.at (i := 1) (by omega)
  injection e with e
  injection e with e1 e2
  subst e1 e2
  obtain ⟨_, hs, h1, -⟩ := h
  refine ⟨a0, n0, c0, a1, n1, c1, hc0, hc1, ?_, ?_, h1.frozenAt 0⟩
  · rw [List.getD_eq_getElem?_getD, hl0]; exact hB0
  · rw [List.getD_eq_getElem?_getD, hl1]; exact hB1
theorem OwnRs.join {w w' : World} {B g n c : Nat} {ls : List (List Nat)} {a : Option Addr} {c' : Nat} {l0 l1 : List Nat} (e0 : ls.getD 0 [] = l0) (e1 : ls.getD 1 [] = l1) (h : OwnRs w B (some ⟨g, 0, none⟩) n c ls) (h2 : 2 ≤ n) (hb : Below w.heap.size w w') (hB : B ≤ w.heap.size) (ho : w'.ownsRow w.heap.size 5 1 (.slice a (addB l0 l1).length c') (addB l0 l1).length ((addB l0 l1).map bv)) :
    OwnRs (w'.setCell ⟨g, 0, none⟩ (.slice a (addB l0 l1).length c')) B (some ⟨g, 0, none⟩) n c (joinR ls) := by
  subst e0 e1
  have m : ∀ i, i < 2 → Bytes (ls.getD i []) ∧ (ls.getD i []).length ≤ 140737488355328 := fun i hi => by
    rw [List.getD_eq_getElem?_getD, List.getElem?_eq_getElem (by have := h.1; omega)]
    exact h.rd.mem _ (List.getElem_mem (by have := h.1; omega))
  have m0 := m 0 (by omega)
  have m1 := m 1 (by omega)
  exact (h.below hb).set0 (x := (a, (addB (ls.getD 0 []) (ls.getD 1 [])).length, c')) (ownsRow_base ho hB) rfl ⟨addB_bytes m0.1 m1.1, by rw [addB_length]; have := m0.2; have := m1.2; omega⟩
theorem OwnRs.off {w : World} {B B' g g' n n' c c' : Nat} {ls ls' : List (List Nat)} (h : OwnRs w B (some ⟨g, 0, none⟩) n c ls) (hne : g ≠ g') (h' : OwnRs w B' (some ⟨g', 0, none⟩) n' c' ls') (v : Value) : OwnRs (w.setCell ⟨g', 0, none⟩ v) B (some ⟨g, 0, none⟩) n c ls := by
  obtain ⟨_, hs, h1, -⟩ := h'
  exact h.other (grown_set4 w g' 0 v) hne h1
set_option maxRecDepth 100000 in
set_option maxHeartbeats 8000000 in
theorem linOrder_walk (cols : Int) (a1 : Option Addr) (n1 c1 : Nat) (s1 : List HdT) (l1 : List (List Nat)) (a2 : Option Addr) (n2 c2 : Nat) (s2 : List HdT) (l2 : List (List Nat)) (kk : Int) (w : World) (_w0 : (Lit.int .i64 cols).wf = true)
    (v1 : RowV w a1 n1 (s1.map SV)) (r1 : RowsV w s1 l1) (_t1 : n1 * 24 ≤ 140737488351232) (v2 : RowV w a2 n2 (s2.map SV)) (r2 : RowsV w s2 l2) (_t2 : n2 * 24 ≤ 140737488351232) (w1 : (Lit.int .u8 kk).wf = true) :
    Calls Try.prog 8 #[.int .i64 cols, .slice a1 n1 c1, .slice a2 n2 c2, .int .u8 kk] w fun e w' => e = .returned (.bool true) ∧ Below w.heap.size w w' := by
  obtain ⟨i0, hi, hz0, hz1, hz2⟩ := info_parts Try.info34
  have h1 : RD w a1 n1 l1 := ⟨by rw [← r1.1]; have := v1.1; simpa using this, s1, v1, r1⟩
  have h2 : RD w a2 n2 l2 := ⟨by rw [← r2.1]; have := v2.1; simpa using this, s2, v2, r2⟩
  have m1 := h1.mem
  have m2 := h2.mem
  have HM1 := Lib.hid m1
  have HM2 := Lib.hid m2
  have HE1 := Lib.hid h1.1
  have HE2 := Lib.hid h2.1
  have H1 := Lib.hid h1
  have H2 := Lib.hid h2
  have hwd := fun (hg : (∀ r ∈ l1, r.length ≤ 128) → ∀ x ∈ l2, x.length ≤ 60000) (hR : rightB cols l1 = true) => Nat.le_trans (width_le (hg (right_rws hR m1).2.2.2.2)) (show 60000 ≤ 100000 by omega)
  have HWD := Lib.hid hwd
  clear h1 h2 m1 m2 v1 r1 v2 r2 hwd
  obtain ⟨k, rfl, hk⟩ : ∃ k : Nat, kk = (k : Int) ∧ k < 256 := by
    have := wf_u8 w1
    exact ⟨kk.toNat, by omega, by omega⟩
  clear w1
  go_enter Try.func8, Try.ntmps8
  go_wp2_with fail
  (with_reducible refine (alive_any _).mono ?_)
  rintro e w1 ⟨rfl, hb1⟩
  go_wp2_with fail
  (with_reducible refine (great_rd _ _ _ l1 _ _ _ l2 _ (H1.out.below hb1) (H2.out.below hb1)).mono ?_)
  rintro e w2 ⟨t, rfl, b2, hg⟩
  have hb2 := hb1.trans (b2.mono hb1.size)
  clear b2 hb1
  cases t with
  | true =>
    clear hg
    go_wp2
    go_ret
    exact ⟨rfl, hb2⟩
  | false =>
    obtain ⟨g1, g2, g3⟩ := hg rfl
    rw [HE1.out] at g1
    rw [HE2.out] at g2
    have HG := Lib.hid (HWD.out g3)
    clear hg g3 HWD
    by_cases hn : n1 = n2
    rotate_left 1
    · go_wp2
      go_ret
      exact ⟨rfl, hb2⟩
    subst hn
    by_cases hm : 2 ≤ n1
    rotate_left 1
    · go_wp2
      go_ret
      exact ⟨rfl, hb2⟩
    by_cases k0 : k = 0
    · subst k0
      go_wp2
      go_ret
      exact ⟨rfl, hb2⟩
    have hm2 : decide ((n1 : Int) < 2) = false := by rw [decide_eq_false_iff_not]; omega
    have hkz : ((k : Int) == 0) = false := by rw [beq_eq_false_iff_ne]; omega
    have KS := fun ar cr ax cx w h k => solve_rd cols ar n1 cr l1 ax n1 cx l2 w h k (by omega) (by omega) HG.out
    have hkd := solve_kinds cols l1 l2
    have hSl := solve_short (cols := cols) HM1.out HM2.out
    obtain ⟨S, hS⟩ : ∃ S, S = solveR cols l1 l2 := ⟨_, rfl⟩
    rw [← hS] at KS hkd hSl
    have HK := Lib.hid hkd
    have HS := Lib.hid hS
    clear hS hkd
    go_wp2_with fail
    (with_reducible refine (copyRows_rd _ _ _ l1 _ (H1.out.below hb2) (by omega)).mono ?_)
    rintro e w3 ⟨a5, c5, rfl, h5, b3⟩
    have hb3 := hb2.trans (b3.mono hb2.size)
    clear b3 hb2
    go_wp2_with fail
    (with_reducible refine (copyRows_rd _ _ _ l2 _ (H2.out.below hb3) (by omega)).mono ?_)
    rintro e w4 ⟨a6, c6, rfl, h6, b4⟩
    have hb4 := hb3.trans (b4.mono hb3.size)
    have h5' := h5.below b4
    clear b4 hb3 h5
    go_wp2_with fail
    (with_reducible refine (KS _ _ _ _ _ h5' h6).mono ?_)
    rintro e w5 ⟨a7, c7, rfl, h7, b5⟩
    have hb5 := hb4.trans (b5.mono hb4.size)
    clear KS b5 hb4 h5' h6
    obtain ⟨X, code⟩ := S
    simp only at h7 hSl ⊢
    by_cases hc : code = 20
    · subst hc
      obtain rfl : X = [] := by
        rcases HK.out with h | ⟨h, -⟩
        · cases h
        · exact h
      simp only [List.length_nil]
      go_wp2
      go_ret
      exact ⟨rfl, hb5⟩
    have hcb : (code == 20) = false := by rw [beq_eq_false_iff_ne]; exact hc
    have hB : solveOK cols l1 l2 = true := Classical.byContradiction fun h => by
      have := HS.out
      unfold solveR at this
      rw [if_neg h] at this
      injection this with _ h2
      exact hc h2
    obtain ⟨os, ow⟩ := order_same (k := k) hk k0 (by rw [HE1.out]; exact hm) HM1.out HM2.out hB
    rw [← HS.out] at os
    have hR := (solveOK_iff.1 hB).1
    have hwid : widthB (joinR (turnR k l2)) ≤ 100000 := by rw [ow]; exact HG.out hR
    have KT := fun ar cr ax cx w h k' => solve_rd cols ar n1 cr (joinR (turnR k l1)) ax n1 cx (joinR (turnR k l2)) w h k' (by omega) (by omega) (fun _ => hwid)
    rw [os] at KT
    have hl1 := turn_len k l1
    have hl2 := turn_len k l2
    rw [HE1.out] at hl1
    rw [HE2.out] at hl2
    have HL1 := Lib.hid hl1
    have HL2 := Lib.hid hl2
    have hsz5 := hb5.size
    clear HS HK hB os ow hR hwid hl1 hl2 HG
    go_wp2_with fail
    have hownA := World.ownsRow_made (base := w5.heap.size) (e := 34) (size := 1) w5 #[] 0 (Nat.le_refl _) (by simp [maxLen]) rfl
    have hownB := World.ownsRow_made (base := w5.heap.size) (e := 34) (size := 1) (w5.alloc (.cells #[] 34)) #[] 0 (by simp) (by simp [maxLen]) rfl
    have HOA := Lib.hid hownA
    have HOB := Lib.hid hownB
    clear hownA hownB
    go_loopw [11, 12, 13] (fun va vb i wr => ∃ (j ga gb ca cb : Nat) (z : Int), j ≤ n1 ∧ z = (n1 : Int) - 1 - j ∧ i = .int .i64 z ∧ va = .slice (some ⟨ga, 0, none⟩) j ca ∧ vb = .slice (some ⟨gb, 0, none⟩) j cb ∧ ga ≠ gb ∧ OwnRs wr w5.heap.size (some ⟨ga, 0, none⟩) j ca ((turnR k l1).take j) ∧ OwnRs wr w5.heap.size (some ⟨gb, 0, none⟩) j cb ((turnR k l2).take j) ∧ Below w5.heap.size w5 wr) (fun _ _ i _ => (intOf i + 1).toNat)
    case atStart =>
      refine ⟨0, w5.heap.size, w5.heap.size + 1, 0, 0, (n1 : Int) - 1, Nat.zero_le _, by omega, by go_num, rfl, by simp, by omega, ?_, ?_, (below_alloc _ _).alloc (by simp) _⟩
      · exact OwnRs.alloc ⟨by simp, [], HOA.out, ⟨rfl, fun i x l h => by simp at h⟩, fun l hl => by simp at hl⟩ _
      · refine ⟨by simp, [], ?_, ⟨rfl, fun i x l h => by simp at h⟩, fun l hl => by simp at hl⟩
        have := HOB.out
        simpa using this
    case round =>
      obtain ⟨j, ga, gb, ca, cb, z, hj, hz, rfl, rfl, rfl, hne, hA, hB, hb⟩ := hrel
      have hHB := hb5.trans (hb.mono hsz5)
      have hbs := hb.size
      by_cases hlt : j < n1
      · obtain ⟨m, rfl⟩ : ∃ m : Nat, z = (m : Int) := ⟨z.toNat, by omega⟩
        have hmn : m < n1 := by omega
        obtain ⟨b1, o1, xa, xn, xc, r, rfl, hcX, hr, hBX⟩ := H1.out.at hmn
        obtain ⟨b2, o2, ya, yn, yc, v, rfl, hcY, hv, hBY⟩ := H2.out.at hmn
        have HSA := Lib.hid (turn_step (k := k) (j := j) (m := m) (rows := l1) (by rw [HE1.out]; exact hz) hr)
        have HSB := Lib.hid (turn_step (k := k) (j := j) (m := m) (rows := l2) (by rw [HE2.out]; exact hz) hv)
        have HLX := Lib.hid hBX.length
        have HLY := Lib.hid hBY.length
        have hsmX := hBX.small
        have hsmY := hBY.small
        simp only at hsmX hsmY
        have HBX := Lib.hid hBX
        have HBY := Lib.hid hBY
        have HCX := Lib.hid hcX
        have HCY := Lib.hid hcY
        have HZ := Lib.hid hz
        have HBR := Lib.hid hBX.bytes
        have HBV := Lib.hid hBY.bytes
        clear hBX hBY hcX hcY hr hv hz
        have q1 := cell_below HCX.out hHB
        go_wp2_with fail
        (with_reducible refine (copyBytes_any xa xn xc r _ (HBX.out.below hHB)).mono ?_)
        rintro e w7 ⟨a8, c8, rfl, o8, b7⟩
        have x8 := bytesV_of_owns o8 HBR.out (by rw [show r.length = xn from HLX.out]; exact hsmX)
        have hb7 := hb.trans (b7.mono hbs)
        clear q1 o8
        go_wp2_with fail
        (with_reducible refine (scale_any k _ _ _ r _ hk x8).mono ?_)
        rintro e w8 ⟨a9, c9, rfl, o9, b8⟩
        have b78 := b7.trans (b8.mono b7.size)
        have hb8 := hb.trans (b78.mono hbs)
        have hs8 := hb8.size
        have hA8 := hA.below b78
        have hB8 := hB.below b78
        have o9' := ownsRow_base (base' := w5.heap.size) o9 (by have := b7.size; omega)
        clear x8 b8 b7 hb7 hA hB hb hHB b78 o9
        obtain ⟨-, hs, hoA, hOA, hmA⟩ := hA8
        have ltB := hB8.ltg
        have ltA := hoA.lt ga rfl
        go_wp2_with (first | (at_builtin; refine Hid.out ?_))
        refine Lib.hid ?_
        refine wpList_append_lies _ rfl _ _ 22 rfl w5.heap.size 34 i0 (.slice none 0 0) 1 24 Try.underlying22 hi hz0 hz1 hz2 rfl (by decide) _ _ _ rfl (hoA.alloc _) ⟨w8.heap.size, 0, none⟩ 1 1 [SV (a9, (scaleB k r).length, c9)] rfl rfl (World.news_of_block (heap_alloc_new w8 _)) (by intro u hu; simp at hu; subst hu; rfl) (by decide) (by simp [maxLen]; omega) (by omega) (by simp; omega) _ rfl ?_
        intro g10 cap10 w10 hE10 g10' lie10 _
        have hb10 := below_grown (hb8.alloc hs8 (.cells #[SV (a9, (scaleB k r).length, c9)] 34)) g10' (fun k hk => (hoA.lt k hk).1)
        obtain ⟨aN, cN, eN, hA10⟩ := append_own (x := (a9, (scaleB k r).length, c9)) (hoA.alloc (.cells #[SV (a9, (scaleB k r).length, c9)] 34)) (hOA.below (below_alloc _ _)) hmA hE10 g10' (o9'.alloc _) rfl ⟨scaleB_bytes hk, by rw [scaleB_length, show r.length = xn from HLX.out]; exact hsmX⟩
        cases eN
        have hB10 := (hB8.alloc (.cells #[SV (a9, (scaleB k r).length, c9)] 34)).other g10' (Ne.symm hne) (hoA.alloc _)
        have hne10 : g10 ≠ gb := by
          rcases lie10 with e | e
          · have e' : (Value.slice (some (⟨ga, 0, none⟩ : Addr)) j ca).ownBlock = some g10 := e
            have : ga = g10 := by simpa [Value.ownBlock] using e'
            omega
          · rw [e]; simp; omega
        rw [← HSA.out] at hA10
        clear hoA hOA hmA hE10 g10' lie10 o9' hB8 hb8 ltA ltB hne hs8
        have hHB10 := hb5.trans (hb10.mono hsz5)
        have hbs10 := hb10.size
        have q2 := cell_below HCY.out hHB10
        clear hHB10
        go_wp2_with fail
        (with_reducible refine (copyBytes_any ya yn yc v _ (HBY.out.below (hb5.trans (hb10.mono hsz5)))).mono ?_)
        rintro e w11 ⟨a11, c11, rfl, o11, b11⟩
        have x11 := bytesV_of_owns o11 HBV.out (by rw [show v.length = yn from HLY.out]; exact hsmY)
        have hb11 := hb10.trans (b11.mono hbs10)
        clear q2 o11
        go_wp2_with fail
        (with_reducible refine (scale_any k _ _ _ v _ hk x11).mono ?_)
        rintro e w12 ⟨a12, c12, rfl, o12, b12⟩
        have b1112 := b11.trans (b12.mono b11.size)
        have hb12 := hb10.trans (b1112.mono hbs10)
        have hs12 := hb12.size
        have hA12 := hA10.below b1112
        have hB12 := hB10.below b1112
        have o12' := ownsRow_base (base' := w5.heap.size) o12 (by have := b11.size; omega)
        clear x11 b12 b11 hb11 hA10 hB10 hb10 b1112 o12
        obtain ⟨-, hs, hoB, hOB, hmB⟩ := hB12
        have ltA := hA12.ltg
        go_wp2_with (first | (at_builtin; refine Hid.out ?_))
        refine Lib.hid ?_
        refine wpList_append_lies _ rfl _ _ 22 rfl w5.heap.size 34 i0 (.slice none 0 0) 1 24 Try.underlying22 hi hz0 hz1 hz2 rfl (by decide) _ _ _ rfl (hoB.alloc _) ⟨w12.heap.size, 0, none⟩ 1 1 [SV (a12, (scaleB k v).length, c12)] rfl rfl (World.news_of_block (heap_alloc_new w12 _)) (by intro u hu; simp at hu; subst hu; rfl) (by decide) (by simp [maxLen]; omega) (by omega) (by simp; omega) _ rfl ?_
        intro g14 cap14 w14 hE14 g14' lie14 _
        have hb14 := below_grown (hb12.alloc hs12 (.cells #[SV (a12, (scaleB k v).length, c12)] 34)) g14' (fun k hk => (hoB.lt k hk).1)
        obtain ⟨aN, cN, eN, hB14⟩ := append_own (x := (a12, (scaleB k v).length, c12)) (hoB.alloc (.cells #[SV (a12, (scaleB k v).length, c12)] 34)) (hOB.below (below_alloc _ _)) hmB hE14 g14' (o12'.alloc _) rfl ⟨scaleB_bytes hk, by rw [scaleB_length, show v.length = yn from HLY.out]; exact hsmY⟩
        cases eN
        have hA14 := (hA12.alloc (.cells #[SV (a12, (scaleB k v).length, c12)] 34)).other g14' hne10 (hoB.alloc _)
        have hne14 : g10 ≠ g14 := by
          rcases lie14 with e | e
          · have e' : (Value.slice (some (⟨gb, 0, none⟩ : Addr)) j cb).ownBlock = some g14 := e
            have : gb = g14 := by simpa [Value.ownBlock] using e'
            omega
          · rw [e]; simp; omega
        rw [← HSB.out] at hB14
        clear hoB hOB hmB hE14 g14' lie14 o12' hA12 hb12 ltA hs12 hne10 hbs10
        go_wp2
        go_roundw
        case rel => exact ⟨j + 1, g10, g14, cap10, cap14, (m : Int) - 1, by omega, by have := HZ.out; omega, by go_num, rfl, rfl, hne14, hA14, hB14, hb14⟩
        case measure => simp [intOf] <;> omega
      · obtain rfl : j = n1 := by omega
        obtain rfl : z = -1 := by omega
        rw [List.take_of_length_le (by rw [HL1.out]; omega)] at hA
        rw [List.take_of_length_le (by rw [HL2.out]; omega)] at hB
        clear HOA HOB hlt hj hz
        clear hHB
        obtain ⟨xe0, xh0⟩ : ∃ l, (turnR k l1).getD 0 [] = l := ⟨_, rfl⟩
        obtain ⟨xe1, xh1⟩ : ∃ l, (turnR k l1).getD 1 [] = l := ⟨_, rfl⟩
        obtain ⟨p0, pn0, pc0, p1, pn1, pc1, cA0, cA1, BA0, BA1, fA⟩ := hA.two xh0 xh1 hm
        have HP0 := Lib.hid BA0
        have HP1 := Lib.hid BA1
        have xH0 := Lib.hid xh0
        have xH1 := Lib.hid xh1
        clear BA0 BA1 fA xh0 xh1
        have j0 : 0 < j := by omega
        have j1 : 1 < j := by omega
        have i0' : (0 : Int) < (j : Int) := by omega
        have i1' : (1 : Int) < (j : Int) := by omega
        go_wp2_with fail
        go_region_law
          (first
            | ((rw [if_pos (by rfl)]); go_simp; (with_reducible refine (add_any _ _ _ xe0 _ _ _ xe1 _ ?h1 ?h2).mono ?_); (case h1 => exact HP0.out.below ⟨rfl, rfl, rfl, Nat.le_refl _, fun _ _ => rfl⟩); (case h2 => exact HP1.out.below ⟨rfl, rfl, rfl, Nat.le_refl _, fun _ _ => rfl⟩); rintro e w20 ⟨a20, c20, rfl, o20, d20⟩; have b20 : Below wr.heap.size wr w20 := ⟨d20.os, d20.tape, d20.output, d20.size, d20.block⟩; obtain ⟨r0, rn0, rc0, r1, rn1, rc1, dA0, dA1, -, -, fA⟩ := (OwnRs.below hA b20).two xH0.out xH1.out hm; dsimp only))
        all_goals
          have hA21 := hA.join (w' := w20) (a := a20) (c' := c20) xH0.out xH1.out hm b20 hbs o20
          have hB21 := (hB.below b20).off (Ne.symm hne) (hA.below b20) (.slice a20 (addB xe0 xe1).length c20)
          have hb21 := below_grown (hb.trans (b20.mono hbs)) (grown_set4 w20 ga 0 (.slice a20 (addB xe0 xe1).length c20)) (fun k hk => by injection hk with hk; have := hA.ltg; omega)
          generalize w20.setCell ⟨ga, 0, none⟩ (.slice a20 (addB xe0 xe1).length c20) = w21 at hA21 hB21 hb21 ⊢
          clear hA hB hb b20 d20 o20 dA0 dA1 fA HP0 HP1 xH0 xH1 cA0 cA1 hbs
          have hbs := hb21.size
          obtain ⟨ye0, yh0⟩ : ∃ l, (turnR k l2).getD 0 [] = l := ⟨_, rfl⟩
          obtain ⟨ye1, yh1⟩ : ∃ l, (turnR k l2).getD 1 [] = l := ⟨_, rfl⟩
          obtain ⟨p0, pn0, pc0, p1, pn1, pc1, cA0, cA1, BA0, BA1, fA⟩ := hB21.two yh0 yh1 hm
          have HP0 := Lib.hid BA0
          have HP1 := Lib.hid BA1
          have yH0 := Lib.hid yh0
          have yH1 := Lib.hid yh1
          clear BA0 BA1 fA yh0 yh1
          go_wp2_with fail
          go_region_law
            (first
              | ((rw [if_pos (by rfl)]); go_simp; (with_reducible refine (add_any _ _ _ ye0 _ _ _ ye1 _ ?h1 ?h2).mono ?_); (case h1 => exact HP0.out.below ⟨rfl, rfl, rfl, Nat.le_refl _, fun _ _ => rfl⟩); (case h2 => exact HP1.out.below ⟨rfl, rfl, rfl, Nat.le_refl _, fun _ _ => rfl⟩); rintro e w22 ⟨a22, c22, rfl, o22, d22⟩; have b22 : Below w21.heap.size w21 w22 := ⟨d22.os, d22.tape, d22.output, d22.size, d22.block⟩; obtain ⟨r0, rn0, rc0, r1, rn1, rc1, dA0, dA1, -, -, fA⟩ := (OwnRs.below hB21 b22).two yH0.out yH1.out hm; dsimp only))
          all_goals
            have hB23 := hB21.join (w' := w22) (a := a22) (c' := c22) yH0.out yH1.out hm b22 hbs o22
            have hA23 := (hA21.below b22).off hne (hB21.below b22) (.slice a22 (addB ye0 ye1).length c22)
            have hb23 := below_grown (hb21.trans (b22.mono hbs)) (grown_set4 w22 gb 0 (.slice a22 (addB ye0 ye1).length c22)) (fun k hk => by injection hk with hk; have := hB21.ltg; omega)
            generalize w22.setCell ⟨gb, 0, none⟩ (.slice a22 (addB ye0 ye1).length c22) = w23 at hA23 hB23 hb23 ⊢
            clear hA21 hB21 hb21 b22 d22 o22 dA0 dA1 fA HP0 HP1 yH0 yH1 cA0 cA1 hbs
            have hX23 := h7.below hb23
            have hb24 := hb5.trans (hb23.mono hsz5)
            have KT' := KT _ ca _ cb _ hA23.rd hB23.rd
            clear hA23 hB23 KT hb23
            go_wp2_with fail
            (with_reducible refine KT'.mono ?_)
            rintro e w25 ⟨a25, c25, rfl, h25, b25⟩
            have hb25 := hb24.trans (b25.mono hb24.size)
            simp only at h25 ⊢
            have KQ := sameRows_rd a7 X.length c7 X a25 X.length c25 X w25 (hX23.below b25) h25 hSl
            rw [decide_eq_true rfl] at KQ
            clear KT' hX23 h25 b25 hb24
            go_wp2_with fail
            (with_reducible refine KQ.mono ?_)
            rintro e w26 ⟨rfl, b26⟩
            go_wp2
            go_ret
            exact ⟨rfl, hb25.trans (b26.mono hb25.size)⟩
end Go.Proofs.Ytgnnfpnkhemimaa
