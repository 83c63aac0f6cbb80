/-
  Rq3: RqG RqH RqI
-/
import Derived.Test.YtfjcbgfgiidogaaDoorMLi2
import Derived.Test.YtfjcbgfgiidogaaDoorMRqF
namespace Go.Proofs.YtfjcbgfgiidogaaDoor
open Go.RowKit

/-- block p is a matrix of a code, with rows. -/
def MatV (w : World) (B p k : Nat) (a : Option Addr) (n c : Nat) (ls : List (List Nat)) : Prop :=
  w.heap[p]? = some (.cells (matCells k (.slice a n c)) 108 (0, 0)) ∧ HdV w B a n c ls ∧ B ≤ p
theorem MatV.c {w : World} {B p k : Nat} {a : Option Addr} {n c : Nat} {ls : List (List Nat)} (h : MatV w B p k a n c ls) : MatC w p k := ⟨_, h.1⟩
theorem MatV.rows {w : World} {B p k : Nat} {a : Option Addr} {n c : Nat} {ls : List (List Nat)} (h : MatV w B p k a n c ls) : w.cell? ⟨p, 10, none⟩ = some (.slice a n c) := by
  rw [cell_of_row _ _ _ _ _ _ h.1]; rfl
theorem MatV.below {w w' : World} {B p k : Nat} {a : Option Addr} {n c : Nat} {ls : List (List Nat)} (h : MatV w B p k a n c ls) (hb : Below w.heap.size w w') : MatV w' B p k a n c ls :=
  ⟨(hb.block p (Array.getElem?_eq_some_iff.1 h.1).1).trans h.1, h.2.1.below hb, h.2.2⟩
theorem news_of_row {w : World} {ad : Addr} {m : Nat} {news : List Value} (h : RowV w (some ad) m news) : ∀ j u, news[j]? = some u → w.cell? (ad.add j) = some u := by
  intro j u hj
  have hjm : j < m := by rw [← h.1]; exact (List.getElem?_eq_some_iff.1 hj).1
  obtain ⟨b, off, hh, hc⟩ := h.2 (by omega)
  cases hh
  rw [← hj, ← hc j hjm]
  unfold Addr.add
  split
  · rename_i e0; subst e0; rfl
  · rfl
theorem box_row {w : World} {B p : Nat} {cs : Array Value} {T : TypeId} (hp : w.heap[p]? = some (.cells cs T (0, 0))) (hT : T ≠ 5) (hB : B ≤ p) : ∀ k, some p = some k → B ≤ k ∧ ∃ cs T fr, w.heap[k]? = some (.cells cs T fr) ∧ T ≠ 5 := fun k e => by
  injection e with e
  subst e
  exact ⟨hB, _, _, _, hp, hT⟩
theorem own_ne_mat {w : World} {B p n : Nat} {cs : Array Value} {v : Value} {xs : List Value} (h : w.ownsRow B 22 1 v n xs) (hp : w.heap[p]? = some (.cells cs 108 (0, 0))) : v.ownBlock ≠ some p := by
  intro e
  rcases h.2 with ⟨rfl, _⟩ | ⟨g', cap, cur, rfl, _, hh, _⟩
  · cases e
  · simp [Value.ownBlock] at e
    subst e
    rw [hh] at hp
    injection hp with hp
    injection hp with _ ht
    exact absurd ht (by decide)
/-- what add leaves as it was. -/
def Added (w w' : World) (p : Nat) (a : Option Addr) (n c g' : Nat) : Prop :=
  ∃ w1, w.grownBy w1 (Value.slice a n c).ownBlock ∧ w1.grownBy w' (some p) ∧ (∃ cs, w1.heap[p]? = some (.cells cs 108 (0, 0))) ∧ ((Value.slice a n c).ownBlock = some g' ∨ g' = w.heap.size)
theorem Added.below {w0 w w' : World} {B p k n c g' : Nat} {a : Option Addr} {ls : List (List Nat)} (h : Added w w' p a n c g') (hM : MatV w B p k a n c ls) (hB : w0.heap.size ≤ B) (hb : Below w0.heap.size w0 w) : Below w0.heap.size w0 w' := by
  obtain ⟨w1, h1, h2, -, -⟩ := h
  obtain ⟨_, hs, ho, -⟩ := hM.2.1
  exact below_grown (below_grown hb h1 (fun k e => Nat.le_trans hB (ownBlock_ge ho k e))) h2 (fun k e => by injection e with e; rw [← e]; exact Nat.le_trans hB hM.2.2)
/-- another list of rows stays. -/
theorem Added.other {w w' : World} {B p k n c g' m d : Nat} {a b : Option Addr} {ls ms : List (List Nat)} (h : Added w w' p a n c g') (hM : MatV w B p k a n c ls) (hO : HdV w B b m d ms) (hne : (Value.slice b m d).ownBlock = none ∨ (Value.slice b m d).ownBlock ≠ (Value.slice a n c).ownBlock) : HdV w' B b m d ms := by
  obtain ⟨w1, h1, h2, ⟨cs, h3⟩, -⟩ := h
  obtain ⟨_, hs, ho, -⟩ := hM.2.1
  have k1 := hO.keep h1 (own_row ho) hne
  obtain ⟨_, hs', ho', -⟩ := id k1
  exact k1.keep h2 (box_row h3 (by decide) hM.2.2) (.inr (own_ne_mat ho' h3))
theorem matCells_set (k : Nat) (v v' : Value) : (matCells k v).set! 10 v' = matCells k v' := rfl

set_option maxRecDepth 100000 in
set_option maxHeartbeats 2000000 in
theorem add_mat (B p k : Nat) (a : Option Addr) (n c : Nat) (ls : List (List Nat)) (xa : Addr) (xn xc : Nat) (ks : List HdT) (xs : List (List Nat)) (w : World) (h : MatV w B p k a n c ls) (hk : ks.length = xs.length) (hx : RowV w (some xa) xn (ks.map SV)) (hr : ∀ (i : Nat) x l, ks[i]? = some x → xs[i]? = some l → RowAt w B x l) (h0 : 0 < xn) (hn : n + xn ≤ 1000) (hBw : B ≤ w.heap.size) :
    Calls Tryd.prog 64 #[.pointer (some ⟨p, 0, none⟩), .slice (some xa) xn xc] w fun e w' => ∃ g' c', e = .returned (.tuple #[]) ∧ MatV w' B p k (some ⟨g', 0, none⟩) (n + xn) c' (ls ++ xs) ∧ Added w w' p a n c g' := by
  obtain ⟨i0, hi, hz0, hz1, hz2⟩ := info_parts Tryd.info22
  have q10 := h.rows
  have hkn : ks.length = xn := by have := hx.1; simpa using this
  obtain ⟨hp, ⟨hl, hs, ho, hsl, hrs⟩, hBp⟩ := h
  have HP := Lib.hid hp
  have HK := Lib.hid hk
  have HKN := Lib.hid hkn
  have HSL := Lib.hid hsl
  have HRS := Lib.hid hrs
  have HR := Lib.hid hr
  have HX := Lib.hid hx
  have HO := Lib.hid ho
  clear hp hk hkn hsl hrs hr hx ho hl
  go_enter Tryd.func64, Tryd.ntmps64
  go_wp2_with (first | (at_builtin; refine Hid.out ?_))
  refine Lib.hid ?_
  refine wpList_append_lies _ rfl _ _ 35 rfl B 22 i0 (.slice none 0 0) 1 24 Tryd.underlying35 hi hz0 hz1 hz2 rfl (by decide) _ _ _ rfl HO.out xa xn xc (ks.map SV) rfl (by have := HX.out.1; omega) (news_of_row HX.out) (SV_one ks) h0 (by simp [maxLen]; omega) (by omega) hBw _ rfl ?_
  intro g' c' w1 hE1 g1 lie1 _
  obtain ⟨a', c2, e', hH⟩ := hd_append HO.out HSL.out HRS.out HK.out HKN.out HR.out hE1 g1
  cases e'
  have hp1 : w1.heap[p]? = some (.cells (matCells k (.slice a n c)) 108 (0, 0)) := (g1.block p (Array.getElem?_eq_some_iff.1 HP.out).1 (fun e => own_ne_mat HO.out HP.out e.symm)).trans HP.out
  have q11 : w1.cell? ⟨p, 10, none⟩ = some (.slice a n c) := by rw [cell_of_row _ _ _ _ _ _ hp1]; rfl
  have f11 : w1.frozen? ⟨p, 10, none⟩ = false := frozen_of_row _ _ _ _ _ hp1
  have hp2 : (w1.setCell ⟨p, 10, none⟩ (.slice (some ⟨g', 0, none⟩) (n + xn) c')).heap[p]? = some (.cells (matCells k (.slice (some ⟨g', 0, none⟩) (n + xn) c')) 108 (0, 0)) := heap_setCell_same _ _ 10 _ _ _ hp1
  have g2 := grown_set4 w1 p 10 (.slice (some ⟨g', 0, none⟩) (n + xn) c')
  have hH2 : HdV (w1.setCell ⟨p, 10, none⟩ (.slice (some ⟨g', 0, none⟩) (n + xn) c')) B (some ⟨g', 0, none⟩) (n + xn) c' (ls ++ xs) := by
    obtain ⟨_, hs', ho', -⟩ := id hH
    exact hH.keep g2 (box_row hp1 (by decide) hBp) (.inr (own_ne_mat ho' hp1))
  have HF := Lib.hid hH2
  have HP2 := Lib.hid hp2
  have HG1 := Lib.hid g1
  have HG2 := Lib.hid g2
  have HP1 := Lib.hid hp1
  clear hE1 g1 hH hp1 hp2 g2 hH2 q10
  go_wp2
  exact bodyPost_end (results_none rfl _ _ _) rfl ⟨g', c', rfl, ⟨HP2.out, HF.out, hBp⟩, w1, HG1.out, HG2.out, ⟨_, HP1.out⟩, lie1⟩

theorem sym_place {k esi : Nat} (h1 : 1 ≤ k) (hk : k ≤ 32) (h : esi < 16777216) : (if esi < k then esi else esi + cKp k - k) ≤ 16777219 := by
  obtain ⟨f1, f2, f3, f4, -⟩ := code_facts h1 hk
  split <;> omega
def symR (k esi : Nat) : List Nat := placeR k (if esi < k then esi else esi + cKp k - k)
theorem symR_length (k esi : Nat) : (symR k esi).length = cL k := placeR_length _ _
theorem symR_bytes (k esi : Nat) : Bytes (symR k esi) := placeR_bytes _ _
set_option maxRecDepth 100000 in
set_option maxHeartbeats 2000000 in
theorem symbol_own (p k esi : Nat) (w : World) (h1 : 1 ≤ k) (hk : k ≤ 32) (hx : esi < 16777216) (hM : MatC w p k) (hg : Bnd w) :
    Calls Tryd.prog 65 #[.pointer (some ⟨p, 0, none⟩), .int .i64 (esi : Int)] w (GivesBytes 5 w (symR k esi)) := by
  have hpl := sym_place (esi := esi) h1 hk hx
  obtain ⟨m0, m1, -⟩ := hM.cells
  obtain ⟨f1, f2, f3, f4, -⟩ := code_facts h1 hk
  unfold symR
  by_cases hlt : esi < k
  · rw [if_pos hlt] at hpl ⊢
    have KR := fun W (hb : Below w.heap.size w W) => row_own p k esi W h1 hk hpl (hM.below hb) (hg.below hb)
    have KR0 := KR w (Below.refl _ _)
    clear KR hM hg hpl
    go_enter Tryd.func65, Tryd.ntmps65
    go_wp2_with fail
    (with_reducible refine KR0.mono ?_)
    rintro e w1 ⟨a1, c1, rfl, o1, b1⟩
    go_wp2
    go_ret
    exact ⟨a1, c1, rfl, o1, b1⟩
  · rw [if_neg hlt] at hpl ⊢
    obtain ⟨x, hx'⟩ : ∃ x, x = esi + cKp k - k := ⟨_, rfl⟩
    rw [← hx'] at hpl ⊢
    have KR := fun W (hb : Below w.heap.size w W) => row_own p k x W h1 hk hpl (hM.below hb) (hg.below hb)
    have HKR := Lib.hid KR
    have EX := Lib.hid (show IntKind.i64.wrap (IntKind.i64.wrap ((esi : Int) + ((cKp k : Nat) : Int)) - (k : Int)) = (x : Int) by
      rw [IntKind.wrap_i64, IntKind.wrap_i64]; omega)
    have K0 : w.cell? ⟨p, 0, none⟩ = some (.int .i64 (k : Nat)) ∧ w.cell? ⟨p, 1, none⟩ = some (.int .i64 (cKp k : Nat)) := ⟨m0, m1⟩
    clear KR hM hg hpl hx'
    go_enter Tryd.func65, Tryd.ntmps65
    go_wp2_with fail
    go_region_held3 (fun w' => w'.cell? ⟨p, 0, none⟩ = some (.int .i64 (k : Nat)) ∧ w'.cell? ⟨p, 1, none⟩ = some (.int .i64 (cKp k : Nat))) (first | exact K0 | exact K2 | go_keep)
      (first
        | (go_at_call 67; rw [EX.out]; (with_reducible refine (HKR.out _ ?hh).mono ?_); (case hh => exact ⟨rfl, rfl, rfl, Nat.le_refl _, fun _ _ => rfl⟩); rintro e w5 ⟨a1, c1, rfl, o1, d1⟩; have b1 : Below w.heap.size w w5 := ⟨d1.os, d1.tape, d1.output, d1.size, d1.block⟩; have K2 : w5.cell? ⟨p, 0, none⟩ = some (.int .i64 (k : Nat)) ∧ w5.cell? ⟨p, 1, none⟩ = some (.int .i64 (cKp k : Nat)) := ⟨cell_below m0 b1, cell_below m1 b1⟩))
    clear K2
    go_wp2
    go_ret
    exact ⟨a1, c1, rfl, o1, b1⟩
end Go.Proofs.YtfjcbgfgiidogaaDoor
namespace Go.Proofs.YtfjcbgfgiidogaaDoor
open Go.RowKit

theorem own_at {w : World} {b B : Nat} {x : HdT} {l : List Nat} (h : w.ownsRow b 5 1 (SV x) l.length (l.map bv)) (hx : x.2.1 = l.length) (hl : Bytes l) (hs : l.length ≤ 140737488355328) : RowAt w B x l := by
  refine ⟨?_, .inl ⟨b, h⟩⟩
  obtain ⟨a, n, c⟩ := x
  simp only at hx
  subst hx
  exact bytesV_of_owns h hl hs
theorem one_at {w : World} {B : Nat} {x : HdT} {l : List Nat} (h : RowAt w B x l) : ∀ (i : Nat) y m, [x][i]? = some y → [l][i]? = some m → RowAt w B y m := by
  intro i y m h1 h2
  cases i with
  | zero => simp at h1 h2; subst h1 h2; exact h
  | succ i => simp at h1
def fixedTo (k m : Nat) : List (List Nat) := lightP k ++ heavyP k ++ (List.range m).map (fun i => placeR k (k + i))
theorem fixedTo_zero (k : Nat) : fixedTo k 0 = [] ++ lightP k ++ heavyP k := by simp [fixedTo]
theorem fixedTo_succ (k m : Nat) : fixedTo k (m + 1) = fixedTo k m ++ [placeR k (k + m)] := by unfold fixedTo; rw [List.range_succ]; simp
theorem fixedTo_next {k x : Nat} (h : k ≤ x) : fixedTo k (x - k) ++ [placeR k x] = fixedTo k (x + 1 - k) := by
  rw [show x + 1 - k = (x - k) + 1 by omega, fixedTo_succ, show k + (x - k) = x by omega]
theorem fixedTo_all (k : Nat) : fixedTo k (cKp k - k) = fixedL k := rfl

set_option maxRecDepth 100000 in
set_option maxHeartbeats 4000000 in
theorem newMatrix_bad (k : Int) (w : World) (h : k < 1 ∨ 32 < k) :
    Calls Tryd.prog 60 #[.int .i64 k] w fun e w' => e = .returned (.tuple #[.pointer none, .int .i64 30]) ∧ Below w.heap.size w w' := by
  have KP := params_bad k w h
  unfold codeZ at KP
  clear h
  go_enter Tryd.func60, Tryd.ntmps60
  go_wp2_with fail
  (with_reducible refine KP.mono ?_)
  rintro e w1 ⟨rfl, hb1⟩
  go_wp2
  go_ret2
  exact ⟨rfl, hb1.alloc hb1.size _⟩

theorem mat_new {w w1 : World} (hb : Below w.heap.size w w1) (k : Nat) (o : Obj) : MatV ((w1.alloc o).alloc (.cells #[.int .i64 (k : Nat), .int .i64 (cKp k : Nat), .int .i64 (cS k : Nat), .int .i64 4, .int .i64 (cL k : Nat), .int .i64 (cW k : Nat), .int .i64 (cP k : Nat), .int .i64 (cP1 k : Nat), .int .i64 (cB k : Nat), .int .i64 (cJ k : Nat), .slice none 0 0] 108)) w.heap.size (w1.heap.size + 1) k none 0 0 [] := by
  refine ⟨?_, HdV.nil _ _, by have := hb.size; omega⟩
  have := heap_alloc_new (w1.alloc o) (.cells (matCells k (.slice none 0 0)) 108)
  rw [show (w1.alloc o).heap.size = w1.heap.size + 1 by simp] at this
  exact this
set_option maxRecDepth 100000 in
set_option maxHeartbeats 4000000 in
theorem newMatrix_ok (k : Nat) (w : World) (h1 : 1 ≤ k) (hk : k ≤ 32) (hg : Bnd w) :
    Calls Tryd.prog 60 #[.int .i64 (k : Int)] w fun e w' => ∃ p a c, e = .returned (.tuple #[.pointer (some ⟨p, 0, none⟩), .int .i64 0]) ∧ MatV w' w.heap.size p k a (cL k - k) c (fixedL k) ∧ Below w.heap.size w w' := by
  have KP := params_any k w h1 hk
  unfold codeV at KP
  obtain ⟨f1, f2, f3, f4, f5, f6, -⟩ := code_facts h1 hk
  have hLL : cL k = cKp k + cS k + 4 := rfl
  have HL := Lib.hid hLL
  have HG := Lib.hid hg
  clear hLL hg
  go_enter Tryd.func60, Tryd.ntmps60
  go_wp2_with fail
  (with_reducible refine KP.mono ?_)
  rintro e w1 ⟨rfl, hb1⟩
  clear KP
  have hM0 := mat_new hb1 k (.cells #[.int .i64 (k : Nat), .int .i64 (cKp k : Nat), .int .i64 (cS k : Nat), .int .i64 4, .int .i64 (cL k : Nat), .int .i64 (cW k : Nat), .int .i64 (cP k : Nat), .int .i64 (cP1 k : Nat), .int .i64 (cB k : Nat), .int .i64 (cJ k : Nat)] 106)
  have hs1 := hb1.size
  have hb2 := (hb1.alloc hs1 (.cells #[.int .i64 (k : Nat), .int .i64 (cKp k : Nat), .int .i64 (cS k : Nat), .int .i64 4, .int .i64 (cL k : Nat), .int .i64 (cW k : Nat), .int .i64 (cP k : Nat), .int .i64 (cP1 k : Nat), .int .i64 (cB k : Nat), .int .i64 (cJ k : Nat)] 106)).alloc (by simp; omega) (.cells #[.int .i64 (k : Nat), .int .i64 (cKp k : Nat), .int .i64 (cS k : Nat), .int .i64 4, .int .i64 (cL k : Nat), .int .i64 (cW k : Nat), .int .i64 (cP k : Nat), .int .i64 (cP1 k : Nat), .int .i64 (cB k : Nat), .int .i64 (cJ k : Nat), .slice none 0 0] 108)
  obtain ⟨p, hp⟩ : ∃ p, p = w1.heap.size + 1 := ⟨_, rfl⟩
  rw [← hp] at hM0
  have HM0 := Lib.hid hM0
  have HB2 := Lib.hid hb2
  clear hM0 hb2 hb1
  go_wp2_with fail
  rw [← hp]
  clear hp
  (with_reducible refine (light_one p k _ h1 hk HM0.out.c).mono ?_)
  rintro e w2 ⟨g, rfl, hO, b2⟩
  have hM2 := HM0.out.below b2
  have hb3 := HB2.out.trans (b2.mono HB2.out.size)
  obtain ⟨ks, hk1, hk2, hk3⟩ := hO.rows w.heap.size
  have hLS := light_length k
  clear HM0 HB2 b2 hO hs1
  go_wp2_with fail
  (with_reducible refine (add_mat w.heap.size p k none 0 0 [] ⟨g, 0, none⟩ (cS k) (cS k) ks (lightP k) _ hM2 hk1 hk2 hk3 (by omega) (by omega) hb3.size).mono ?_)
  rintro e w3 ⟨g1, c1, rfl, hM3, hA⟩
  have hb4 := hA.below hM2 (Nat.le_refl _) hb3
  clear hM2 hb3 hk1 hk2 hk3 hA
  go_wp2_with fail
  (with_reducible refine (heavy_one p k _ h1 hk hM3.c).mono ?_)
  rintro e w4 ⟨g2, rfl, hO, b4⟩
  have hM4 := hM3.below b4
  have hb5 := hb4.trans (b4.mono hb4.size)
  obtain ⟨ks2, hk1, hk2, hk3⟩ := hO.rows w.heap.size
  clear hM3 hb4 b4 hO
  go_wp2_with fail
  (with_reducible refine (add_mat w.heap.size p k _ _ c1 _ ⟨g2, 0, none⟩ 4 4 ks2 (heavyP k) _ hM4 hk1 hk2 hk3 (by omega) (by omega) hb5.size).mono ?_)
  rintro e w5 ⟨g3, c3, rfl, hM5, hA⟩
  have hb6 := hA.below hM4 (Nat.le_refl _) hb5
  rw [← fixedTo_zero, Nat.zero_add] at hM5
  have HM5 := Lib.hid hM5
  have HB6 := Lib.hid hb6
  have q0 := hM5.c.cells.1
  clear hM4 hb5 hk1 hk2 hk3 hA hM5 hb6 hLS
  go_wp2_with fail
  go_loopw [7] (fun vx wr => ∃ (x g c : Nat), k ≤ x ∧ x ≤ cKp k ∧ vx = .int .i64 (x : Nat) ∧ Hid (MatV wr w.heap.size p k (some ⟨g, 0, none⟩) (cS k + 4 + (x - k)) c (fixedTo k (x - k))) ∧ Hid (Below w.heap.size w wr)) (fun vx _ => ((cKp k : Nat) - intOf vx).toNat)
  case atStart => exact ⟨k, g3, c3, Nat.le_refl _, f4, rfl, by rw [Nat.sub_self]; exact HM5, HB6⟩
  case round =>
    clear HM5 HB6 q0
    obtain ⟨x, g, c, hx1, hx2, rfl, hM, hB⟩ := hrel
    have q1 := hM.out.c.cells.2.1
    by_cases hlt : x < cKp k
    · have KR := row_own p k x wr h1 hk (by omega) hM.out.c (HG.out.below hB.out)
      have hsz := hB.out.size
      go_wp2_with fail
      (with_reducible refine KR.mono ?_)
      rintro e w7 ⟨a8, c8, rfl, o8, b7⟩
      have hM7 := hM.out.below (b7.trans (below_alloc w7 (.cells #[.slice a8 (placeR k x).length c8] 22)|>.mono b7.size))
      have hb7 := hB.out.trans (b7.mono hsz)
      have hb8 := hb7.alloc hb7.size (.cells #[.slice a8 (placeR k x).length c8] 22)
      have hat : RowAt (w7.alloc (.cells #[.slice a8 (placeR k x).length c8] 22)) w.heap.size (a8, (placeR k x).length, c8) (placeR k x) := own_at (b := wr.heap.size) (o8.alloc _) rfl (placeR_bytes _ _) (by rw [placeR_length]; have := HL.out; omega)
      have hrow : RowV (w7.alloc (.cells #[.slice a8 (placeR k x).length c8] 22)) (some ⟨w7.heap.size, 0, none⟩) 1 ([(a8, (placeR k x).length, c8)].map SV) := rowV_lit w7 _ _ _ 1 _ rfl rfl rfl
      have KA := add_mat w.heap.size p k _ _ c _ ⟨w7.heap.size, 0, none⟩ 1 1 [(a8, (placeR k x).length, c8)] [placeR k x] _ hM7 rfl hrow (one_at hat) (by omega) (by omega) hb8.size
      clear KR o8 b7 hb7 hM hB hat hrow
      go_wp2_with fail
      (with_reducible refine KA.mono ?_)
      rintro e w9 ⟨g9, c9, rfl, hM9, hA⟩
      have hb9 := hA.below hM7 (Nat.le_refl _) hb8
      rw [fixedTo_next hx1, show cS k + 4 + (x - k) + 1 = cS k + 4 + (x + 1 - k) by omega] at hM9
      have HM9 := Lib.hid hM9
      have HB9 := Lib.hid hb9
      clear KA hA hM7 hb8 hM9 hb9
      go_wp2
      go_roundw
      case rel => exact ⟨x + 1, g9, c9, by omega, by omega, by go_num, HM9, HB9⟩
      case measure => simp [intOf] <;> omega
    · obtain rfl : x = cKp k := by omega
      have hM' := hM.out
      rw [fixedTo_all, show cS k + 4 + (cKp k - k) = cL k - k by have := HL.out; omega] at hM'
      have HM' := Lib.hid hM'
      clear hM' hM
      go_wp2
      go_ret2
      exact ⟨p, _, c, rfl, HM'.out, hB.out⟩
end Go.Proofs.YtfjcbgfgiidogaaDoor
namespace Go.Proofs.YtfjcbgfgiidogaaDoor
open Go.RowKit

def okK (k : Int) : Bool := decide (1 ≤ k) && decide (k ≤ 32)
def okE (e : Int) : Bool := decide (0 ≤ e) && decide (e < 16777216)
def fixedR (k : Int) : List (List Nat) × Int := if okK k = true then (fixedL k.toNat, 0) else ([], 30)
def rowR (k esi : Int) : List Nat × Int := if okK k = true then (if okE esi = true then (symR k.toNat esi.toNat, 0) else ([], 40)) else ([], 30)
def symsL (k : Nat) (es : List Int) : List (List Nat) := es.map fun e => symR k e.toNat
def enoughB (k : Int) (es : List Int) : Bool := okK k && (decide (es.length ≤ 128) && (es.all okE && decide (rankOf (cL k.toNat) (fixedL k.toNat ++ symsL k.toNat es) = cL k.toNat)))
theorem okK_iff {k : Int} : okK k = true ↔ 1 ≤ k ∧ k ≤ 32 := by unfold okK; simp only [Bool.and_eq_true, decide_eq_true_iff]
theorem okE_iff {e : Int} : okE e = true ↔ 0 ≤ e ∧ e < 16777216 := by unfold okE; simp only [Bool.and_eq_true, decide_eq_true_iff]
theorem okK_nat {k : Int} (h : okK k = true) : ∃ m : Nat, k = (m : Int) ∧ k.toNat = m ∧ 1 ≤ m ∧ m ≤ 32 := by
  obtain ⟨h1, h2⟩ := okK_iff.1 h
  exact ⟨k.toNat, by omega, rfl, by omega, by omega⟩
theorem okE_nat {e : Int} (h : okE e = true) : ∃ m : Nat, e = (m : Int) ∧ e.toNat = m ∧ m < 16777216 := by
  obtain ⟨h1, h2⟩ := okE_iff.1 h
  exact ⟨e.toNat, by omega, rfl, by omega⟩
theorem okK_bad {k : Int} (h : ¬ okK k = true) : k < 1 ∨ 32 < k := by
  rw [okK_iff] at h; omega

set_option maxRecDepth 100000 in
set_option maxHeartbeats 2000000 in
theorem known_any (e : Int) (w : World) : Calls Tryd.prog 63 #[.int .i64 e] w fun x w' => x = .returned (.bool (okE e)) ∧ w = w' := by
  by_cases h1 : 0 ≤ e
  · by_cases h2 : e < 16777216
    · rw [show okE e = true from okE_iff.2 ⟨h1, h2⟩]
      go_enter Tryd.func63, Tryd.ntmps63
      go_wp2
      go_ret
      exact ⟨rfl, rfl⟩
    · rw [show okE e = false by unfold okE; rw [decide_eq_false h2, Bool.and_false]]
      go_enter Tryd.func63, Tryd.ntmps63
      go_wp2
      go_ret
      exact ⟨rfl, rfl⟩
  · rw [show okE e = false by unfold okE; rw [decide_eq_false h1, Bool.false_and]]
    go_enter Tryd.func63, Tryd.ntmps63
    go_wp2
    go_ret
    exact ⟨rfl, rfl⟩


/-- a row of the call's own, and an error. -/
def GivesB (w : World) (o : List Nat × Int) (e : Ending) (w' : World) : Prop := ∃ a c, e = .returned (.tuple #[.slice a o.1.length c, .int .i64 o.2]) ∧ w'.ownsRow w.heap.size 5 1 (.slice a o.1.length c) o.1.length (o.1.map bv) ∧ Below w.heap.size w w'
theorem givesB_nil {w w' : World} {code : Int} (hb : Below w.heap.size w w') : GivesB w ([], code) (.returned (.tuple #[.slice none 0 0, .int .i64 code])) w' := ⟨none, 0, rfl, ⟨rfl, .inl ⟨rfl, rfl⟩⟩, hb⟩
set_option maxRecDepth 100000 in
set_option maxHeartbeats 4000000 in
theorem row_rd (k esi : Int) (w : World) (hg : Bnd w) : Calls Tryd.prog 55 #[.int .i64 k, .int .i64 esi] w (GivesB w (rowR k esi)) := by
  unfold rowR
  by_cases h : okK k = true
  rotate_left 1
  · rw [if_neg h]
    have KP := params_bad k w (okK_bad h)
    unfold codeZ at KP
    clear h hg
    go_enter Tryd.func55, Tryd.ntmps55
    go_wp2_with fail
    (with_reducible refine KP.mono ?_)
    rintro e w1 ⟨rfl, hb1⟩
    go_wp2
    go_ret2
    exact givesB_nil (hb1.alloc hb1.size _)
  rw [if_pos h]
  obtain ⟨m, rfl, e, h1, hk⟩ := okK_nat h
  rw [e]
  have KP := params_any m w h1 hk
  unfold codeV at KP
  clear h e
  by_cases h2 : okE esi = true
  rotate_left 1
  · rw [if_neg h2]
    have h3 : okE esi = false := by simpa using h2
    have KK := fun W => known_any esi W
    simp only [h3] at KK
    clear h2 h3 hg
    go_enter Tryd.func55, Tryd.ntmps55
    go_wp2_with fail
    (with_reducible refine KP.mono ?_)
    rintro e w1 ⟨rfl, hb1⟩
    go_wp2_with fail
    (with_reducible refine (KK _).mono ?_)
    rintro e w2 ⟨rfl, rfl⟩
    go_wp2
    go_ret2
    exact givesB_nil (hb1.alloc hb1.size _)
  rw [if_pos h2]
  obtain ⟨x, rfl, e, hx⟩ := okE_nat h2
  rw [e]
  have HG := Lib.hid hg
  have KK := fun W => known_any (x : Int) W
  simp only [h2] at KK
  clear h2 e hg
  go_enter Tryd.func55, Tryd.ntmps55
  go_wp2_with fail
  (with_reducible refine KP.mono ?_)
  rintro e w1 ⟨rfl, hb1⟩
  have hM0 := mat_new hb1 m (.cells #[.int .i64 (m : Nat), .int .i64 (cKp m : Nat), .int .i64 (cS m : Nat), .int .i64 4, .int .i64 (cL m : Nat), .int .i64 (cW m : Nat), .int .i64 (cP m : Nat), .int .i64 (cP1 m : Nat), .int .i64 (cB m : Nat), .int .i64 (cJ m : Nat)] 106)
  have hb2 := (hb1.alloc hb1.size (.cells #[.int .i64 (m : Nat), .int .i64 (cKp m : Nat), .int .i64 (cS m : Nat), .int .i64 4, .int .i64 (cL m : Nat), .int .i64 (cW m : Nat), .int .i64 (cP m : Nat), .int .i64 (cP1 m : Nat), .int .i64 (cB m : Nat), .int .i64 (cJ m : Nat)] 106)).alloc (by have := hb1.size; simp; omega) (.cells #[.int .i64 (m : Nat), .int .i64 (cKp m : Nat), .int .i64 (cS m : Nat), .int .i64 4, .int .i64 (cL m : Nat), .int .i64 (cW m : Nat), .int .i64 (cP m : Nat), .int .i64 (cP1 m : Nat), .int .i64 (cB m : Nat), .int .i64 (cJ m : Nat), .slice none 0 0] 108)
  have KS := symbol_own (w1.heap.size + 1) m x _ h1 hk hx hM0.c (HG.out.below hb2)
  have HB2 := Lib.hid hb2
  clear KP hM0 hb2 hb1
  go_wp2_with fail
  (with_reducible refine (KK _).mono ?_)
  rintro e w2 ⟨rfl, rfl⟩
  go_wp2_with fail
  (with_reducible refine KS.mono ?_)
  rintro e w2 ⟨a2, c2, rfl, o2, b2⟩
  go_wp2
  go_ret2
  exact ⟨a2, c2, rfl, ownsRow_base o2 HB2.out.size, HB2.out.trans (b2.mono HB2.out.size)⟩

theorem syms_take {k : Nat} {es : List Int} {i : Nat} {e : Int} (h : es[i]? = some e) : symsL k (es.take (i + 1)) = symsL k (es.take i) ++ [symR k e.toNat] := by
  unfold symsL; rw [take_step es i e h, List.map_append]; rfl
theorem syms_rws (k : Nat) (es : List Int) : AllL (cL k) (symsL k es) := fun l hl => by
  obtain ⟨e, -, rfl⟩ := List.mem_map.1 hl
  exact ⟨symR_bytes _ _, symR_length _ _⟩
theorem right_all {L : Nat} {ls : List (List Nat)} (h : AllL L ls) (h0 : 0 < L) (hL : L ≤ 128) (hn : ls.length ≤ 256) : rightB (L : Int) ls = true := rightB_iff.2 ⟨by omega, by omega, hn, fun l hl => by rw [(h l hl).2]⟩
theorem all_app {L : Nat} {a b : List (List Nat)} (ha : AllL L a) (hb : AllL L b) : AllL L (a ++ b) := fun l hl => by
  rcases List.mem_append.1 hl with h | h
  · exact ha l h
  · exact hb l h
theorem cL_facts {k : Nat} (h1 : 1 ≤ k) (hk : k ≤ 32) : 0 < cL k ∧ cL k ≤ 47 ∧ k < cL k := by
  obtain ⟨f1, f2, f3, f4, f5, f6, -⟩ := code_facts h1 hk
  unfold cL; generalize cKp k = a at *; generalize cS k = b at *; omega

set_option maxRecDepth 100000 in
set_option maxHeartbeats 8000000 in
theorem enough_rd (k : Int) (ea : Option Addr) (en ec : Nat) (es : List Int) (w : World) (he : IntsV w (ea, en, ec) es) (hg : Bnd w) :
    Calls Tryd.prog 44 #[.int .i64 k, .slice ea en ec] w fun e w' => e = .returned (.bool (enoughB k es)) ∧ Below w.heap.size w w' := by
  obtain ⟨j0, hj, hy0, hy1, hy2⟩ := info_parts Tryd.info22
  have hel : es.length = en := he.length
  have HEL := Lib.hid hel
  have HE := Lib.hid he
  have HG := Lib.hid hg
  unfold enoughB
  rw [hel]
  clear he hg hel
  by_cases h : okK k = true
  rotate_left 1
  · rw [show okK k = false by simpa using h, Bool.false_and]
    have KM := newMatrix_bad k w (okK_bad h)
    clear h
    go_enter Tryd.func44, Tryd.ntmps44
    go_wp2_with fail
    (with_reducible refine KM.mono ?_)
    rintro e w1 ⟨rfl, hb⟩
    go_wp2
    go_ret
    exact ⟨rfl, hb⟩
  rw [h, Bool.true_and]
  obtain ⟨m, rfl, e, h1, hk⟩ := okK_nat h
  rw [e]
  have KM := newMatrix_ok m w h1 hk HG.out
  clear h e
  by_cases h2 : en ≤ 128
  rotate_left 1
  · rw [decide_eq_false h2, Bool.false_and]
    go_enter Tryd.func44, Tryd.ntmps44
    go_wp2_with fail
    (with_reducible refine KM.mono ?_)
    rintro e w1 ⟨p, a, c, rfl, hM, hb⟩
    have HM := Lib.hid hM
    clear hM KM
    go_wp2
    go_ret
    exact ⟨rfl, hb⟩
  rw [decide_eq_true h2, Bool.true_and]
  obtain ⟨f1, f2, f3⟩ := cL_facts h1 hk
  have hFA := fixed_all m
  have HFA := Lib.hid hFA
  have HFL := Lib.hid (fixed_length (k := m) (code_facts h1 hk).2.2.2.1)
  clear hFA
  go_enter Tryd.func44, Tryd.ntmps44
  go_wp2_with fail
  (with_reducible refine KM.mono ?_)
  rintro e w1 ⟨p, a, c, rfl, hM, hb⟩
  have HM := Lib.hid hM
  have HB := Lib.hid hb
  clear KM hM hb
  go_wp2_with fail
  go_loopw [24] (fun vi wr => ∃ (i : Nat) (a : Option Addr) (c : Nat), i ≤ en ∧ vi = .int .i64 (i : Nat) ∧ Hid (MatV wr w.heap.size p m a (cL m - m + i) c (fixedL m ++ symsL m (es.take i))) ∧ Hid (Below w.heap.size w wr) ∧ Hid (∀ (j : Nat) e, j < i → es[j]? = some e → okE e = true)) (fun vi _ => (en - intOf vi).toNat)
  case atStart => exact ⟨0, a, c, Nat.zero_le _, rfl, by simpa [symsL] using HM, HB, Lib.hid (fun j e h => absurd h (Nat.not_lt_zero _))⟩
  case round =>
    clear HM HB
    obtain ⟨i, a, c, hi, rfl, hM, hB, HZ⟩ := hrel
    by_cases hlt : i < en
    · obtain ⟨b, off, e1, hc1⟩ := (HE.out.row.below hB.out).2 (by show 0 < en; omega)
      simp only at e1
      subst e1
      have hc := hc1 i hlt
      obtain ⟨z, hz⟩ : ∃ z, es[i]? = some z := ⟨_, List.getElem?_eq_getElem (by rw [HEL.out]; exact hlt)⟩
      rw [List.getElem?_map, hz] at hc
      have hc' : wr.cell? ⟨b, off + i, none⟩ = some (.int .i64 z) := hc
      have HZI := Lib.hid hz
      clear hc hc1 hz
      by_cases hz2 : okE z = true
      · have HZ2 := Lib.hid hz2
        have HT := Lib.hid (syms_take (k := m) HZI.out)
        obtain ⟨x, rfl, e, hx⟩ := okE_nat hz2
        rw [e] at HT
        have i0' : (0 : Int) ≤ (x : Int) := by omega
        have i1' : (x : Int) < 16777216 := by omega
        have KS := symbol_own p m x wr h1 hk hx hM.out.c (HG.out.below hB.out)
        have hsz := hB.out.size
        have KK := fun W => known_any (x : Int) W
        simp only [hz2] at KK
        clear hz2 e
        go_wp2_with fail
        (with_reducible refine (KK _).mono ?_)
        rintro e w6 ⟨rfl, rfl⟩
        go_wp2_with fail
        (with_reducible refine KS.mono ?_)
        rintro e w7 ⟨a8, c8, rfl, o8, b7⟩
        have hM7 := (hM.out.below b7).below (below_alloc w7 (.cells #[.slice a8 (symR m x).length c8] 22))
        have hb7 := hB.out.trans (b7.mono hsz)
        have hb8 := hb7.alloc hb7.size (.cells #[.slice a8 (symR m x).length c8] 22)
        have hat : RowAt (w7.alloc (.cells #[.slice a8 (symR m x).length c8] 22)) w.heap.size (a8, (symR m x).length, c8) (symR m x) := own_at (b := wr.heap.size) (o8.alloc _) rfl (symR_bytes _ _) (by rw [symR_length]; omega)
        have hrow : RowV (w7.alloc (.cells #[.slice a8 (symR m x).length c8] 22)) (some ⟨w7.heap.size, 0, none⟩) 1 ([(a8, (symR m x).length, c8)].map SV) := rowV_lit w7 _ _ _ 1 _ rfl rfl rfl
        have KA := add_mat w.heap.size p m _ _ c _ ⟨w7.heap.size, 0, none⟩ 1 1 [(a8, (symR m x).length, c8)] [symR m x] _ hM7 rfl hrow (one_at hat) (by omega) (by omega) hb8.size
        clear KS o8 b7 hb7 hM hB hat hrow
        go_wp2_with fail
        (with_reducible refine KA.mono ?_)
        rintro e w9 ⟨g9, c9, rfl, hM9, hA⟩
        have hb9 := hA.below hM7 (Nat.le_refl _) hb8
        rw [List.append_assoc, ← HT.out] at hM9
        have HM9 := Lib.hid hM9
        have HB9 := Lib.hid hb9
        clear KA hA hM7 hb8 hM9 hb9 hc'
        go_wp2
        go_roundw
        case rel => exact ⟨i + 1, _, c9, by omega, by go_num, HM9, HB9, Lib.hid (fun j e hj he => (by
          by_cases e1 : j = i
          · rw [e1, HZI.out] at he
            exact (congrArg okE (Option.some.inj he)).symm.trans HZ2.out
          · exact HZ.out j e (by omega) he))⟩
        case measure => simp [intOf] <;> omega
      · have hall : es.all okE = false := by
          cases h : es.all okE with
          | false => rfl
          | true => exact absurd (List.all_eq_true.1 h z (List.mem_of_getElem? HZI.out)) hz2
        have KK := fun W => known_any z W
        simp only [show okE z = false by simpa using hz2] at KK
        have HHA := Lib.hid hall
        clear hz2 hall
        go_wp2_with fail
        (with_reducible refine (KK _).mono ?_)
        rintro e w6 ⟨rfl, rfl⟩
        go_wp2
        go_ret
        rw [HHA.out]
        exact ⟨rfl, hB.out⟩
    · obtain rfl : i = en := by omega
      have hall : es.all okE = true := List.all_eq_true.2 fun e he => by
        obtain ⟨j, hj⟩ := List.getElem?_of_mem he
        exact HZ.out j e (by have := (List.getElem?_eq_some_iff.1 hj).1; rw [HEL.out] at this; exact this) hj
      have hM' := hM.out
      rw [List.take_of_length_le (by rw [HEL.out]; exact Nat.le_refl _)] at hM'
      have q4 := hM'.c.cells.2.2.2.2.1
      have q10 := hM'.rows
      obtain ⟨R, hR⟩ : ∃ R, R = fixedL m ++ symsL m es := ⟨_, rfl⟩
      have hrb : rightB ((cL m : Nat) : Int) R = true := by
        rw [hR]
        refine right_all (all_app HFA.out (syms_rws _ _)) f1 (by omega) ?_
        rw [List.length_append, HFL.out, symsL, List.length_map, HEL.out]; omega
      have KR := rank_rd ((cL m : Nat) : Int) a (cL m - m + i) c R wr (by rw [hR]; exact hM'.2.1.rd) (by omega)
      rw [show rankR ((cL m : Nat) : Int) R = (rankOf (cL m) R, 0) by unfold rankR; rw [if_pos hrb, Int.toNat_natCast]] at KR
      have HRR := Lib.hid hR
      have HQ := Lib.hid (⟨q4, q10⟩ : wr.cell? ⟨p, 4, none⟩ = some (.int .i64 ((cL m : Nat) : Int)) ∧ wr.cell? ⟨p, 10, none⟩ = some (.slice a (cL m - m + i) c))
      have HHA := Lib.hid hall
      have HKR : Hid (∀ W, Below wr.heap.size wr W → Calls Tryd.prog 72 #[.int .i64 ((cL m : Nat) : Int), .slice a (cL m - m + i) c] W fun e w' => e = .returned (.tuple #[.int .i64 ((rankOf (cL m) R : Nat) : Int), .int .i64 0]) ∧ Below wr.heap.size wr w') := Lib.hid (fun W hb => by
        have k := rank_rd ((cL m : Nat) : Int) a (cL m - m + i) c R W (by rw [hR]; exact (hM'.below hb).2.1.rd) (by omega)
        rw [show rankR ((cL m : Nat) : Int) R = (rankOf (cL m) R, 0) by unfold rankR; rw [if_pos hrb, Int.toNat_natCast]] at k
        exact k.mono fun e w' ⟨h1, h2⟩ => ⟨h1, hb.trans (h2.mono hb.size)⟩)
      clear KR hrb hR hM' hM hall
      go_wp2_with fail
      go_region_held3 (fun w' => w'.cell? ⟨p, 4, none⟩ = some (.int .i64 ((cL m : Nat) : Int)) ∧ w'.cell? ⟨p, 10, none⟩ = some (.slice a (cL m - m + i) c)) (first | exact HQ.out | exact K2 | go_keep)
        (first
          | (go_at_call 72; (with_reducible refine (HKR.out _ ?hh).mono ?_); (case hh => exact ⟨rfl, rfl, rfl, Nat.le_refl _, fun _ _ => rfl⟩); rintro e w5 ⟨rfl, b5⟩; have K2 : w5.cell? ⟨p, 4, none⟩ = some (.int .i64 ((cL m : Nat) : Int)) ∧ w5.cell? ⟨p, 10, none⟩ = some (.slice a (cL m - m + i) c) := ⟨cell_below HQ.out.1 b5, cell_below HQ.out.2 b5⟩))
      all_goals
        have k4 := K2.1
        clear K2
        go_wp2
        go_ret
        rw [HHA.out, Bool.true_and, ← HRR.out]
        refine ⟨ret_bool ?_, hB.out.trans (b5.mono hB.out.size)⟩
        show (((rankOf (cL m) R : Nat) : Int) == ((cL m : Nat) : Int)) = _
        by_cases e : rankOf (cL m) R = cL m
        · rw [e, decide_eq_true rfl, beq_self_eq_true]
        · rw [decide_eq_false e, beq_eq_false_iff_ne]; omega
end Go.Proofs.YtfjcbgfgiidogaaDoor
