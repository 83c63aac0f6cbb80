/-
  meta.Decode of any bytes.
-/
import Derived.Test.YtikjcmijmhmilaaMfH
import Derived.Recover
namespace Go.Proofs.Ytikjcmijmhmilaa
open Go.RowKit

/-- the bytes and the code that Encode answers. -/
def encO (k : Int) (key : ByteArray) (N c s t : Int) (d : Bool) (sum : List Nat) (P : Nat → PlR) (pn : Nat) : List Nat := if rightB k key N c s t d sum.length P pn = true then encL k key N c s t d sum P pn else []
def encC (k : Int) (key : ByteArray) (N c s t : Int) (d : Bool) (sn : Nat) (P : Nat → PlR) (pn : Nat) : Int := if rightB k key N c s t d sn P pn = true then 0 else 90
/-- the bytes are those of the record that is read. -/
def decOk (l : List Nat) : Bool :=
  let s : Sc := ⟨false, l⟩
  !s.fin.bad && (rightB s.k s.key s.N s.c s.s s.t s.d s.sum.length s.P s.pn && decide (encL s.k s.key s.N s.c s.s s.t s.d s.sum s.P s.pn = l))
abbrev ET1 : TypeId := 39
def GivesDec (w : World) (l : List Nat) (e : Ending) (w' : World) : Prop :=
  Below w.heap.size w w' ∧ ((decOk l = false ∧ e = .returned (.tuple #[.agg Z9, .int .i64 90])) ∨ (decOk l = true ∧ ∃ sa sc pa pc P, e = .returned (.tuple #[.agg #[.int .i64 (Sc.mk false l).k, .string (Sc.mk false l).key, .int .i64 (Sc.mk false l).N, .int .i64 (Sc.mk false l).c, .int .i64 (Sc.mk false l).s, .int .i64 (Sc.mk false l).t, .bool (Sc.mk false l).d, .slice sa (Sc.mk false l).sum.length sc, .slice pa (Sc.mk false l).pn pc], .int .i64 0]) ∧ BytesV w' (sa, (Sc.mk false l).sum.length, sc) (Sc.mk false l).sum ∧ PlacesV w' pa (Sc.mk false l).pn pc P ∧ ∀ i, i < (Sc.mk false l).pn → SameP (P i) ((Sc.mk false l).P i)))
theorem decOk_bad {l : List Nat} (h : (Sc.mk false l).fin.bad = true) : decOk l = false := by unfold decOk; simp only [h]; rfl
theorem decOk_good {l : List Nat} (h : (Sc.mk false l).fin.bad = false) (R : Bool) (hR : R = rightB (Sc.mk false l).k (Sc.mk false l).key (Sc.mk false l).N (Sc.mk false l).c (Sc.mk false l).s (Sc.mk false l).t (Sc.mk false l).d (Sc.mk false l).sum.length (Sc.mk false l).P (Sc.mk false l).pn) (E : Bool) (hE : E = decide (encL (Sc.mk false l).k (Sc.mk false l).key (Sc.mk false l).N (Sc.mk false l).c (Sc.mk false l).s (Sc.mk false l).t (Sc.mk false l).d (Sc.mk false l).sum (Sc.mk false l).P (Sc.mk false l).pn = l)) : decOk l = (R && E) := by subst hR hE; unfold decOk; simp only [h]; rfl
theorem results_dec {fn : Func} {p u : Tmp} (hf : fn.results = #[.cell p RT9, .cell u ET1]) {w : World} {g1 g2 : Nat} {cs : Array Value} {x : Int} (k1 : w.heap[g1]? = some (.cells cs RT9 (0, 0))) (hs : cs.size = 9) (k2 : w.heap[g2]? = some (.cells #[.int .i64 x] ET1 (0, 0))) (tmps : Array Value) (hp : tmps.getD p undef = .pointer (some ⟨g1, 0, none⟩)) (hu : tmps.getD u undef = .pointer (some ⟨g2, 0, none⟩)) : (results fn tmps).run Try.prog w = .ok (.tuple #[.agg cs, .int .i64 x]) w := by
  have hp' : tmps[p]?.getD undef = .pointer (some ⟨g1, 0, none⟩) := by simpa using hp
  have hu' : tmps[u]?.getD undef = .pointer (some ⟨g2, 0, none⟩) := by simpa using hu
  have h1 := run_loadVar_row (P := Try.prog) w g1 RT9 RT9 cs (0, 0) _ k1 Try.underlying37 rfl (by rw [hs]; kernel_rfl)
  have c0 : w.cell? ⟨g2, 0, none⟩ = some (.int .i64 x) := cell_of_row _ _ 0 _ _ _ k2
  have h2 : (loadVar ET1 ⟨g2, 0, none⟩).run Try.prog w = .ok (.int .i64 x) w := by
    have ha : (isAgg ET1).run Try.prog w = .ok false w := by
      unfold isAgg
      rw [Sem.run_bind, run_underlying Try.underlying39 w]
      rfl
    simp [loadVar, Sem.run_bind, ha, go_sem, c0]
  simp [results, hf, hp', hu', asAddr, Sem.run_bind, h1, h2, Result.andThen]
theorem grown9Xb (w : World) (g : Nat) (x0 x1 x2 x3 x4 x5 x6 x7 x8 : Value) {B : Nat} {w0 : World} (h : Below B w0 w) (hg : B ≤ g) (hB : B ≤ w.heap.size) : Below B w0 (((((((((w.setCell ⟨g, 0, none⟩ x0).setCell ⟨g, 1, none⟩ x1).setCell ⟨g, 2, none⟩ x2).setCell ⟨g, 3, none⟩ x3).setCell ⟨g, 4, none⟩ x4).setCell ⟨g, 5, none⟩ x5).setCell ⟨g, 6, none⟩ x6).setCell ⟨g, 7, none⟩ x7).setCell ⟨g, 8, none⟩ x8) :=
  h.grown (grown9X w g x0 x1 x2 x3 x4 x5 x6 x7 x8) hB (fun k hk => by injection hk with hk; omega)
theorem assert_yes (w : World) : (Instr.typeAssert (.iface 39 (.int .i64 90)) 20 39 true).run Try.prog w = .ok (.tuple #[.int .i64 90, .bool true]) w := by kernel_rfl
theorem assert_no (w : World) : (Instr.typeAssert .nilIface 20 39 true).run Try.prog w = .ok (.tuple #[.int .i64 0, .bool false]) w := by kernel_rfl
set_option maxRecDepth 100000 in
set_option maxHeartbeats 4000000 in
theorem catch_panic (g1 g2 : Nat) (v0 v1 v2 v3 v4 v5 v6 v7 v8 : Value) (x : Int) (older : List PanicEntry) (w : World) (h1 : w.heap[g1]? = some (.cells #[v0, v1, v2, v3, v4, v5, v6, v7, v8] RT9 (0, 0))) (h2 : w.heap[g2]? = some (.cells #[.int .i64 x] ET1 (0, 0))) (hne : g2 = g1 + 1) :
    CallsD Try.prog 34 #[.pointer (some ⟨g1, 0, none⟩), .pointer (some ⟨g2, 0, none⟩)] (.panicking ({ v := .iface 39 (.int .i64 90), recovered := false } :: older)) w fun e u' w' =>
      e = .returned (.tuple #[]) ∧ u' = .panicking ({ v := .iface 39 (.int .i64 90), recovered := true } :: older) ∧ w'.heap[g1]? = some (.cells Z9 RT9 (0, 0)) ∧ w'.heap[g2]? = some (.cells #[.int .i64 90] ET1 (0, 0)) ∧ (∀ B w0, Below B w0 w → B ≤ g1 → B ≤ w.heap.size → Below B w0 w') := by
  subst hne
  have q1 := set9X (.int .i64 0) (.string ⟨#[]⟩) (.int .i64 0) (.int .i64 0) (.int .i64 0) (.int .i64 0) (.bool false) (.slice none 0 0) (.slice none 0 0) h1
  have H1 := Lib.hid h1
  have H2 := Lib.hid h2
  have Q1 := Lib.hid q1
  obtain ⟨c0, c1, c2, c3, c4, c5, c6, c7, c8⟩ := cells9M h1
  have hfz := cells9X h1
  have d0 : w.cell? ⟨g1 + 1, 0, none⟩ = some (.int .i64 x) := cell_of_row _ _ 0 _ _ _ h2
  have hfd : w.frozen? ⟨g1 + 1, 0, none⟩ = false := frozen_of_row _ _ _ _ _ h2
  clear h1 h2 q1
  refine callsD_of_wpS Try.func34 rfl fun c₀ cs hu => ?_
  apply wpS_seq
  apply wpS_region
  simp [wpOpsS, go_sem, recoverD, hu, Try.ntmps34, Exit.thenS, assert_yes]
  apply wpS_seq
  apply wpS_region
  simp [wpOpsS, go_sem, Exit.thenS]
  refine wpS_cond (t := true) (by simp [Act.eval, Array.replicate]) ?_
  simp only [if_true]
  refine wpS_of_wp ?_
  go_wp2
  refine ⟨rfl, _, rfl, .tuple #[], by simp [results, Try.results34], rfl, rfl, (heap_setCell_other _ ⟨g1 + 1, 0, none⟩ g1 _ (by simp)).trans Q1.out, ?_, ?_⟩
  · exact heap_setCell_same _ (g1 + 1) 0 _ _ _ (((grown9X w g1 _ _ _ _ _ _ _ _ _).block (g1 + 1) (Array.getElem?_eq_some_iff.1 H2.out).1 (fun e => by injection e with e; omega)).trans H2.out)
  · intro B w0 hB h1 h2
    exact (grown9Xb w g1 _ _ _ _ _ _ _ _ _ hB h1 h2).setCell (p := ⟨g1 + 1, 0, none⟩) (by show B ≤ g1 + 1; omega) _
set_option maxRecDepth 100000 in
set_option maxHeartbeats 4000000 in
theorem catch_idle (g1 g2 : Nat) (w : World) :
    CallsD Try.prog 34 #[.pointer (some ⟨g1, 0, none⟩), .pointer (some ⟨g2, 0, none⟩)] .returning w fun e u' w' => e = .returned (.tuple #[]) ∧ u' = .returning ∧ w' = w := by
  refine callsD_of_wpS Try.func34 rfl fun c₀ cs hu => ?_
  apply wpS_seq
  apply wpS_region
  simp [wpOpsS, go_sem, recoverD, hu, Try.ntmps34, Exit.thenS, assert_no]
  apply wpS_seq
  apply wpS_region
  simp [wpOpsS, go_sem, Exit.thenS]
  refine wpS_cond (t := false) (by simp [Act.eval, Array.replicate]) ?_
  simp only [Bool.false_eq_true, if_false]
  refine wpS_of_wp (wp_skip ?_)
  exact ⟨rfl, .returning, by cases c₀; simp_all, .tuple #[], by simp [results, Try.results34], rfl, rfl, rfl⟩
theorem enc_is (k : Int) (key : ByteArray) (N c s t : Int) (d : Bool) (sn : Nat) (sum : List Nat) (pn : Nat) (P Q : Nat → PlR) (hs : sum.length = sn) (hl : ∀ i, i < pn → (P i).l.length = (P i).x.2.1) (hpn : pn ≤ 100000) (hS : ∀ i, i < pn → SameP (Q i) (P i)) (R : Bool) (hR : R = rightB k key N c s t d sn P pn) (sa : Option Addr) (sc : Nat) (pa : Option Addr) (pc : Nat) (w : World) (h1 : BytesV w (sa, sn, sc) sum) (h2 : PlacesV w pa pn pc Q) :
    Calls Try.prog 16 #[.agg #[.int .i64 k, .string key, .int .i64 N, .int .i64 c, .int .i64 s, .int .i64 t, .bool d, .slice sa sn sc, .slice pa pn pc]] w (GivesE w (if R then encL k key N c s t d sum P pn else []) (if R then 0 else 90)) := by
  subst hR
  cases hR : rightB k key N c s t d sn P pn with
  | true =>
    have hR' : rightB k key N c s t d sn Q pn = true := (rightB_ext hS).trans hR
    have hle := encL_le hs hl hR
    refine (encode_yes k key N c s t d sa sn sc sum pa pn pc Q w h1 h2 hR').mono ?_
    rintro e w' ⟨ad, cap, rfl, ho, hby, hbe⟩
    rw [encL_ext hS] at ho hby ⊢
    exact ⟨ad, _, cap, rfl, bytesV_of_owns ho hby hle, hbe⟩
  | false =>
    have hR' : rightB k key N c s t d sn Q pn = false := (rightB_ext hS).trans hR
    exact (encode_no k key N c s t d sa sn sc pa pn pc Q w h2 hpn hR').mono fun e w' h => givesE_no h
theorem Sc.pl_len (s : Sc) (i : Nat) : (s.P i).l.length = (s.P i).x.2.1 := rfl
theorem Sc.pn_lt {s : Sc} (h : Bytes s.l) : s.pn ≤ 100000 := by
  have hb : Bytes s.a8.l := fun x hx => h x (by
    have e1 : ∀ (s : Sc) m y, y ∈ (s.num m).l → y ∈ s.l := fun s m y hy => List.mem_of_mem_drop hy
    have e2 : ∀ (s : Sc) y, y ∈ s.text.l → y ∈ s.l := fun s y hy => by
      simp only [Sc.text, tRest] at hy
      split at hy
      · exact List.mem_of_mem_drop hy
      · exact List.mem_of_mem_drop (List.mem_of_mem_drop hy)
    exact e1 _ _ _ (e2 _ _ (e1 _ _ _ (e1 _ _ _ (e1 _ _ _ (e1 _ _ _ (e1 _ _ _ (e2 _ _ hx))))))))
  have := Sc.val_lt hb 2
  have e : (256 : Nat) ^ 2 = 65536 := by decide
  rw [e] at this
  show s.a8.val 2 ≤ 100000
  omega
structure DcS (w W : World) (rec : Array Value) : Prop where
  bel : Below w.heap.size w W
  q : W.heap[w.heap.size]? = some (.cells rec RT9 (0, 0))
  e : W.heap[w.heap.size + 1]? = some (.cells #[.int .i64 0] ET1 (0, 0))
set_option maxRecDepth 100000 in
set_option maxHeartbeats 16000000 in
theorem decode_is (ad : Option Addr) (n c : Nat) (l : List Nat) (w : World) (h : BytesR w (ad, n, c) l) :
    Calls Try.prog 21 #[.slice ad n c] w (GivesDec w l) := by
  have hmf : ∀ (fn : Fn) (first cap : Array Value) (w : World), (Instr.makeFunc fn first cap).run Try.prog w = .ok (.func fn first cap) w := fun _ _ _ _ => rfl
  obtain ⟨s, hs⟩ : ∃ s : Sc, s = ⟨false, l⟩ := ⟨_, rfl⟩
  have hsl : s.l = l := by rw [hs]
  have hsb : s.bad = false := by rw [hs]
  have HS := Lib.hid hs
  obtain ⟨q, hq⟩ : ∃ q, q = w.heap.size := ⟨_, rfl⟩
  obtain ⟨w1, hw1⟩ : ∃ x, x = w.alloc (.cells Z9 RT9) := ⟨_, rfl⟩
  obtain ⟨w2, hw2⟩ : ∃ x, x = w1.alloc (.cells #[.int .i64 0] ET1) := ⟨_, rfl⟩
  obtain ⟨w3, hw3⟩ : ∃ x, x = w2.alloc (.cells #[.slice ad n c] RT1) := ⟨_, rfl⟩
  have z1 : w1.heap.size = q + 1 := by rw [hw1, hq]; simp
  have z2 : w2.heap.size = q + 2 := by rw [hw2]; simp; omega
  have k1 : w3.heap[q]? = some (.cells Z9 RT9 (0, 0)) := by rw [hw3, heap_alloc_old _ _ (by omega), hw2, heap_alloc_old _ _ (by omega), hw1, hq]; exact heap_alloc_new w _
  have k2 : w3.heap[q + 1]? = some (.cells #[.int .i64 0] ET1 (0, 0)) := by rw [hw3, heap_alloc_old _ _ (by omega), hw2, ← z1]; exact heap_alloc_new w1 _
  have k3 : w3.heap[q + 2]? = some (.cells #[.slice ad n c] RT1 (0, 0)) := by rw [hw3, ← z2]; exact heap_alloc_new w2 _
  have b3 : Below w.heap.size w w3 := by rw [hw3, hw2, hw1]; exact (below_alloc w _).trans (((below_alloc _ _).mono (by simp)).trans ((below_alloc _ _).mono (by simp <;> omega)))
  have KR := recRd (q + 1 + 1) s w w3 b3 (by omega) ⟨ad, n, c, by rw [hsl]; exact h, k3⟩ hsb
  have HH := Lib.hid h
  have HQ := Lib.hid hq
  have HW1 := Lib.hid hw1
  have HW2 := Lib.hid hw2
  have HW3 := Lib.hid hw3
  have K1 := Lib.hid k1
  have K2 := Lib.hid k2
  have B3 := Lib.hid b3
  have Z3 := Lib.hid (show w3.heap.size = q + 3 by rw [hw3]; simp; omega)
  have HPN := Lib.hid (Sc.pn_lt (s := s) (by rw [hsl]; exact h.bytes))
  have HSL := Lib.hid hsl
  clear h hs hq hw1 hw2 hw3 z1 z2 k1 k2 k3 b3 hsl hsb
  go_enter_defers Try.func21, Try.ntmps21
  go_upto_region 3 with fail
  rw [← HQ.out, ← HW1.out, ← HW2.out, ← HW3.out]
  go_wp2_with fail
  (with_reducible refine KR.mono ?_)
  rintro e w4 ⟨hg, ⟨hb, rfl⟩ | ⟨hb, sa, sc, pa, pc, P, rfl, hown, hby, hP, hsame⟩⟩
  · have z3 := Z3.out
    have J1 := Lib.hid ((hg.block q (by omega) (fun e => by injection e with e; omega)).trans K1.out)
    have J2 := Lib.hid ((hg.block (q + 1) (by omega) (fun e => by injection e with e; omega)).trans K2.out)
    have HB := Lib.hid (B3.out.grown hg B3.out.size (fun k hk => by injection hk with hk; have := HQ.out; omega))
    have HBD := Lib.hid hb
    clear hg hb KR z3
    go_wp2
    refine leaves_cons (f := 34) (args := #[.pointer (some ⟨q, 0, none⟩), .pointer (some ⟨q + 1, 0, none⟩)]) (by simp) (by simp [go_sem]) ?_
    refine (catch_panic q (q + 1) _ _ _ _ _ _ _ _ _ 0 [] w4 J1.out J2.out rfl).mono ?_
    rintro e u' w5 ⟨rfl, rfl, z1, z2, z3⟩
    show Leaves Try.prog _ _ _ [] .returning w5
    exact ⟨_, results_dec rfl z1 rfl z2 _ rfl rfl, z3 _ _ HB.out (Nat.le_of_eq HQ.out.symm) HB.out.size, .inl ⟨decOk_bad (by rw [← HS.out]; exact HBD.out), rfl⟩⟩
  have z3 := Z3.out
  have j1 := (hg.block q (by omega) (fun e => by injection e with e; omega)).trans K1.out
  have j2 := (hg.block (q + 1) (by omega) (fun e => by injection e with e; omega)).trans K2.out
  have hB4 := B3.out.grown hg B3.out.size (fun k hk => by injection hk with hk; have := HQ.out; omega)
  have hgr := grown9X w4 q (.int .i64 s.k) (.string s.key) (.int .i64 s.N) (.int .i64 s.c) (.int .i64 s.s) (.int .i64 s.t) (.bool s.d) (.slice sa s.sum.length sc) (.slice pa s.pn pc)
  have HD := Lib.hid (show Below w.heap.size w _ ∧ _ ∧ _ ∧ _ ∧ _ from ⟨grown9Xb w4 q (.int .i64 s.k) (.string s.key) (.int .i64 s.N) (.int .i64 s.c) (.int .i64 s.s) (.int .i64 s.t) (.bool s.d) (.slice sa s.sum.length sc) (.slice pa s.pn pc) hB4 (Nat.le_of_eq HQ.out.symm) hB4.size,
    set9X (.int .i64 s.k) (.string s.key) (.int .i64 s.N) (.int .i64 s.c) (.int .i64 s.s) (.int .i64 s.t) (.bool s.d) (.slice sa s.sum.length sc) (.slice pa s.pn pc) j1,
    (hgr.block (q + 1) (Array.getElem?_eq_some_iff.1 j2).1 (fun e => by injection e with e; omega)).trans j2,
    hown.kept hgr (.inr (fun e => by have := ownBlock_ge hown q e; omega)),
    (hP.kept hgr (.inr (fun e => by have := ownBlock_ge hP.row q e; omega)) (fun j hj => .inr (fun e => by have := ownBlock_ge ((hP.dig j hj).2.1) q e; omega)))⟩)
  have HBY := Lib.hid hby
  obtain ⟨c0, c1, c2, c3, c4, c5, c6, c7, c8⟩ := cells9M j1
  have hfz := cells9X j1
  have HBD := Lib.hid hb
  have HSM := Lib.hid hsame
  clear hg hb hown hby hP hsame j1 j2 hB4 hgr KR z3
  go_upto_region 4 with fail
  refine (?_ : ∀ W, (Below w.heap.size w W ∧ W.heap[q]? = some (.cells #[.int .i64 s.k, .string s.key, .int .i64 s.N, .int .i64 s.c, .int .i64 s.s, .int .i64 s.t, .bool s.d, .slice sa s.sum.length sc, .slice pa s.pn pc] RT9 (0, 0)) ∧ W.heap[q + 1]? = some (.cells #[.int .i64 0] ET1 (0, 0)) ∧ W.ownsRow w3.heap.size 5 1 (.slice sa s.sum.length sc) s.sum.length (s.sum.map bv) ∧ OwnP W w3.heap.size pa s.pn pc P) → Code.wp Try.prog _ _ _ W) _ HD.out
  clear HD c0 c1 c2 c3 c4 c5 c6 c7 c8 hfz K1 K2 B3 HW1 HW2 HW3
  intro W hD
  obtain ⟨c0, c1, c2, c3, c4, c5, c6, c7, c8⟩ := cells9M hD.2.1
  obtain ⟨R, hR⟩ : ∃ R, R = rightB s.k s.key s.N s.c s.s s.t s.d s.sum.length s.P s.pn := ⟨_, rfl⟩
  have KE := enc_is s.k s.key s.N s.c s.s s.t s.d s.sum.length s.sum s.pn s.P P rfl (fun i _ => s.pl_len i) HPN.out HSM.out R hR sa sc pa pc W (bytesV_of_owns hD.2.2.2.1 HBY.out.1 HBY.out.2) (hD.2.2.2.2.places (by have := HPN.out; simp [maxLen]; omega))
  have HD := Lib.hid hD
  have HR := Lib.hid hR
  clear hD hR
  cases R
  · simp only [Bool.false_eq_true, if_false] at KE
    go_wp2_with fail
    (with_reducible refine KE.mono ?_)
    rintro e W2 ⟨a5, n5, c5', rfl, -, b5⟩
    have j1 := (b5.block q (Array.getElem?_eq_some_iff.1 HD.out.2.1).1).trans HD.out.2.1
    have j2 := (b5.block (q + 1) (Array.getElem?_eq_some_iff.1 HD.out.2.2.1).1).trans HD.out.2.2.1
    have J1 := Lib.hid j1
    have J2 := Lib.hid j2
    have HB := Lib.hid (HD.out.1.trans (b5.mono HD.out.1.size))
    clear c0 c1 c2 c3 c4 c5 c6 c7 c8 b5 KE
    obtain ⟨c0, c1, c2, c3, c4, c5, c6, c7, c8⟩ := cells9M j1
    have hfz := cells9X j1
    have d0 : W2.cell? ⟨q + 1, 0, none⟩ = some (.int .i64 0) := cell_of_row _ _ 0 _ _ _ j2
    have hfd : W2.frozen? ⟨q + 1, 0, none⟩ = false := frozen_of_row _ _ _ _ _ j2
    clear j1 j2
    go_wp2
    clear c0 c1 c2 c3 c4 c5 c6 c7 c8 hfz d0 hfd
    refine leaves_cons (f := 34) (args := #[.pointer (some ⟨q, 0, none⟩), .pointer (some ⟨q + 1, 0, none⟩)]) (by simp) (by simp [go_sem]) ?_
    refine (catch_idle q (q + 1) _).mono ?_
    rintro e u' w5 ⟨rfl, rfl, rfl⟩
    refine (?_ : Leaves Try.prog _ _ _ [] .returning _)
    exact ⟨_, results_dec rfl ((heap_setCell_other _ ⟨q + 1, 0, none⟩ q _ (by simp)).trans (set9X _ _ _ _ _ _ _ _ _ J1.out)) rfl (heap_setCell_same _ (q + 1) 0 _ _ _ (((grown9X W2 q _ _ _ _ _ _ _ _ _).block (q + 1) (Array.getElem?_eq_some_iff.1 J2.out).1 (fun e => by injection e with e; omega)).trans J2.out)) _ rfl rfl, (grown9Xb W2 q _ _ _ _ _ _ _ _ _ HB.out (Nat.le_of_eq HQ.out.symm) HB.out.size).setCell (p := ⟨q + 1, 0, none⟩) (by show w.heap.size ≤ q + 1; have := HQ.out; omega) _, .inl ⟨by obtain rfl := HS.out; rw [decOk_good HBD.out false HR.out _ rfl]; rfl, rfl⟩⟩
  · simp only [if_true] at KE
    obtain ⟨O, hO⟩ : ∃ O, O = encL s.k s.key s.N s.c s.s s.t s.d s.sum s.P s.pn := ⟨_, rfl⟩
    rw [← hO] at KE
    have HOO := Lib.hid hO
    clear hO
    go_wp2_with fail
    (with_reducible refine KE.mono ?_)
    rintro e W2 ⟨a5, n5, c5', rfl, o5, b5⟩
    have J1 := Lib.hid ((b5.block q (Array.getElem?_eq_some_iff.1 HD.out.2.1).1).trans HD.out.2.1)
    have J2 := Lib.hid ((b5.block (q + 1) (Array.getElem?_eq_some_iff.1 HD.out.2.2.1).1).trans HD.out.2.2.1)
    have HB := Lib.hid (HD.out.1.trans (b5.mono HD.out.1.size))
    have HV := Lib.hid (And.intro (own_belowM HD.out.2.2.2.1 b5) (HD.out.2.2.2.2.below b5))
    obtain ⟨E, hE⟩ : ∃ E, E = decide (O = l) := ⟨_, rfl⟩
    have KQ := bytesEqual_any a5 n5 c5' O ad n c l W2 o5.r (HH.out.below HB.out)
    rw [← hE] at KQ
    have HE := Lib.hid hE
    clear c0 c1 c2 c3 c4 c5 c6 c7 c8 b5 KE o5 hE
    go_wp2_with fail
    (with_reducible refine KQ.mono ?_)
    rintro e W3 ⟨rfl, rfl⟩
    clear KQ
    obtain ⟨c0, c1, c2, c3, c4, c5, c6, c7, c8⟩ := cells9M J1.out
    have hfz := cells9X J1.out
    have d0 : W3.cell? ⟨q + 1, 0, none⟩ = some (.int .i64 0) := cell_of_row _ _ 0 _ _ _ J2.out
    have hfd : W3.frozen? ⟨q + 1, 0, none⟩ = false := frozen_of_row _ _ _ _ _ J2.out
    cases E
    all_goals
      go_wp2
      clear c0 c1 c2 c3 c4 c5 c6 c7 c8 hfz d0 hfd
      refine leaves_cons (f := 34) (args := #[.pointer (some ⟨q, 0, none⟩), .pointer (some ⟨q + 1, 0, none⟩)]) (by simp) (by simp [go_sem]) ?_
      refine (catch_idle q (q + 1) _).mono ?_
      rintro e u' w5 ⟨rfl, rfl, rfl⟩
      refine (?_ : Leaves Try.prog _ _ _ [] .returning _)
      refine ⟨_, results_dec rfl ((heap_setCell_other _ ⟨q + 1, 0, none⟩ q _ (by simp)).trans (set9X _ _ _ _ _ _ _ _ _ J1.out)) rfl (heap_setCell_same _ (q + 1) 0 _ _ _ (((grown9X W3 q _ _ _ _ _ _ _ _ _).block (q + 1) (Array.getElem?_eq_some_iff.1 J2.out).1 (fun e => by injection e with e; omega)).trans J2.out)) _ rfl rfl, (grown9Xb W3 q _ _ _ _ _ _ _ _ _ HB.out (Nat.le_of_eq HQ.out.symm) HB.out.size).setCell (p := ⟨q + 1, 0, none⟩) (by show w.heap.size ≤ q + 1; have := HQ.out; omega) _, ?_⟩
    · exact .inl ⟨by obtain rfl := HS.out; rw [decOk_good HBD.out true HR.out false (HE.out.trans (by rw [HOO.out]))]; rfl, rfl⟩
    · have z3 := Z3.out
      have hz : W3.grownBy _ (some q) := grown9X W3 q (.int .i64 s.k) (.string s.key) (.int .i64 s.N) (.int .i64 s.c) (.int .i64 s.s) (.int .i64 s.t) (.bool s.d) (.slice sa s.sum.length sc) (.slice pa s.pn pc)
      have hz2 := grownBy_setCellM (((((((((W3.setCell ⟨q, 0, none⟩ (.int .i64 s.k)).setCell ⟨q, 1, none⟩ (.string s.key)).setCell ⟨q, 2, none⟩ (.int .i64 s.N)).setCell ⟨q, 3, none⟩ (.int .i64 s.c)).setCell ⟨q, 4, none⟩ (.int .i64 s.s)).setCell ⟨q, 5, none⟩ (.int .i64 s.t)).setCell ⟨q, 6, none⟩ (.bool s.d)).setCell ⟨q, 7, none⟩ (.slice sa s.sum.length sc)).setCell ⟨q, 8, none⟩ (.slice pa s.pn pc)) ⟨q + 1, 0, none⟩ (.int .i64 0)
      have h1 := (HV.out.1.kept hz (.inr (fun e => by have := ownBlock_ge HV.out.1 q e; omega))).kept hz2 (.inr (fun e => by have := ownBlock_ge HV.out.1 (q + 1) e; omega))
      have h2 := (HV.out.2.kept hz (.inr (fun e => by have := ownBlock_ge HV.out.2.row q e; omega)) (fun j hj => .inr (fun e => by have := ownBlock_ge ((HV.out.2.dig j hj).2.1) q e; omega))).kept hz2 (.inr (fun e => by have := ownBlock_ge HV.out.2.row (q + 1) e; omega)) (fun j hj => .inr (fun e => by have := ownBlock_ge ((HV.out.2.dig j hj).2.1) (q + 1) e; omega))
      have h3 := h2.places (by have := HPN.out; simp [maxLen]; omega)
      have h4 := bytesV_of_owns h1 HBY.out.1 HBY.out.2
      obtain rfl := HS.out
      exact .inr ⟨by rw [decOk_good HBD.out true HR.out true (HE.out.trans (by rw [HOO.out]))]; rfl, sa, sc, pa, pc, P, rfl, h4, h3, HSM.out⟩
end Go.Proofs.Ytikjcmijmhmilaa
