/-
  rillref09.Decode of any bytes.
-/
import Derived.Test.YtikjcmijmhmilaaMfI
import Derived.Laws.ResultCell
namespace Go.Proofs.Ytikjcmijmhmilaa
open Go.RowKit

theorem refNumS (m : Nat) (v : Int) (hv : (m : Int) = v) (hm : m ≤ 4) (ad : Option Addr) (n c : Nat) (s : Sc) (u w : World) (hu : Below u.heap.size u w) (h : BytesV u (ad, n, c) s.l) :
    Calls Try.prog 37 #[.agg #[.slice ad n c, .bool s.bad], .int .i64 v] w fun e w' => ∃ a' n' c', e = .returned (.tuple #[.agg #[.slice a' n' c', .bool (s.num m).bad], .int .i64 (s.val m : Nat)]) ∧ BytesV u (a', n', c') (s.num m).l ∧ Below w.heap.size w w' := by
  refine (refNum_is m ad n c s.bad s.l u w hu h hm v hv).mono ?_
  rintro e w' ⟨a', n', c', rfl, h1, h2⟩
  refine ⟨a', n', c', ?_, h1, h2⟩
  have e1 : (if s.l.length < m then (0 : Int) else (nOf s.l m : Nat)) = ((s.val m : Nat) : Int) := by unfold Sc.val; split <;> rfl
  rw [e1]
  rfl
theorem refTextS (ad : Option Addr) (n c : Nat) (s : Sc) (u w : World) (hu : Below u.heap.size u w) (h : BytesV u (ad, n, c) s.l) :
    Calls Try.prog 38 #[.agg #[.slice ad n c, .bool s.bad]] w fun e w' => ∃ a' n' c' ta tc, e = .returned (.tuple #[.agg #[.slice a' n' c', .bool s.text.bad], .slice ta s.bytes.length tc]) ∧ BytesV u (a', n', c') s.text.l ∧ w'.ownsRow w.heap.size 5 1 (.slice ta s.bytes.length tc) s.bytes.length (s.bytes.map bv) ∧ (Bytes s.bytes ∧ s.bytes.length ≤ 140737488355328) ∧ Below w.heap.size w w' :=
  refText_any ad n c s.bad s.l u w hu h
structure RfS (w W : World) (q : Nat) (s : Sc) (rec : Array Value) (ad : Option Addr) (n c : Nat) : Prop where
  bel : Below w.heap.size w W
  le : w.heap.size ≤ q
  q0 : W.heap[q]? = some (.cells Z9 RT9 (0, 0))
  r : W.heap[q + 1]? = some (.cells rec RT9 (0, 0))
  sb : W.heap[q + 2]? = some (.cells #[.slice ad n c, .bool s.bad] ST2 (0, 0))
  b : BytesV w (ad, n, c) s.l
theorem RfS.below {w W W1 : World} {q : Nat} {s : Sc} {rec : Array Value} {ad : Option Addr} {n c : Nat} (h : RfS w W q s rec ad n c) (hb : Below W.heap.size W W1) : RfS w W1 q s rec ad n c :=
  ⟨h.bel.trans (hb.mono h.bel.size), h.le, (hb.block _ (Array.getElem?_eq_some_iff.1 h.q0).1).trans h.q0, (hb.block _ (Array.getElem?_eq_some_iff.1 h.r).1).trans h.r, (hb.block _ (Array.getElem?_eq_some_iff.1 h.sb).1).trans h.sb, h.b⟩
theorem RfS.sc {w W : World} {q : Nat} {s s' : Sc} {rec : Array Value} {ad a' : Option Addr} {n c n' c' : Nat} (h : RfS w W q s rec ad n c) (hy : BytesV w (a', n', c') s'.l) : RfS w ((W.setCell ⟨q + 2, 0, none⟩ (.slice a' n' c')).setCell ⟨q + 2, 1, none⟩ (.bool s'.bad)) q s' rec a' n' c' := by
  have hl := h.le
  have o2 : ∀ (W : World) i x k, k ≠ q + 2 → (W.setCell ⟨q + 2, i, none⟩ x).heap[k]? = W.heap[k]? := fun W i x k hk => heap_setCell_other W ⟨q + 2, i, none⟩ k x hk
  exact ⟨(h.bel.setCell (p := ⟨q + 2, 0, none⟩) (by show w.heap.size ≤ q + 2; omega) _).setCell (p := ⟨q + 2, 1, none⟩) (by show w.heap.size ≤ q + 2; omega) _, hl, (o2 _ _ _ _ (by omega)).trans ((o2 _ _ _ _ (by omega)).trans h.q0), (o2 _ _ _ _ (by omega)).trans ((o2 _ _ _ _ (by omega)).trans h.r), set2X _ _ h.sb, hy⟩
theorem RfS.fld {w W : World} {q : Nat} {s : Sc} {rec rec' : Array Value} {ad : Option Addr} {n c : Nat} (h : RfS w W q s rec ad n c) (j : Nat) (x : Value) (hr : rec.setIfInBounds j x = rec') : RfS w (W.setCell ⟨q + 1, j, none⟩ x) q s rec' ad n c := by
  have hl := h.le
  subst hr
  have o2 : ∀ k, k ≠ q + 1 → (W.setCell ⟨q + 1, j, none⟩ x).heap[k]? = W.heap[k]? := fun k hk => heap_setCell_other W ⟨q + 1, j, none⟩ k x hk
  exact ⟨h.bel.setCell (p := ⟨q + 1, j, none⟩) (by show w.heap.size ≤ q + 1; omega) _, hl, (o2 _ (by omega)).trans h.q0, heap_setCell_same W (q + 1) j rec RT9 x h.r, (o2 _ (by omega)).trans h.sb, h.b⟩
theorem RfS.oth {w W : World} {q p : Nat} {s : Sc} {rec : Array Value} {ad : Option Addr} {n c : Nat} (h : RfS w W q s rec ad n c) (i : Nat) (x : Value) (hp : q + 2 < p) : RfS w (W.setCell ⟨p, i, none⟩ x) q s rec ad n c := by
  have hl := h.le
  have o2 : ∀ k, k ≠ p → (W.setCell ⟨p, i, none⟩ x).heap[k]? = W.heap[k]? := fun k hk => heap_setCell_other W ⟨p, i, none⟩ k x hk
  exact ⟨h.bel.setCell (p := ⟨p, i, none⟩) (by show w.heap.size ≤ p; omega) _, hl, (o2 _ (by omega)).trans h.q0, (o2 _ (by omega)).trans h.r, (o2 _ (by omega)).trans h.sb, h.b⟩
/-- what the call has stored behind its boxes stays where cells at or below them are written. -/
theorem own_cell {W : World} {B n sz : Nat} {T : TypeId} {v : Value} {xs : List Value} (h : W.ownsRow B T sz v n xs) (p i : Nat) (x : Value) (hp : p < B) : (W.setCell ⟨p, i, none⟩ x).ownsRow B T sz v n xs :=
  h.kept (grownBy_setCellM W ⟨p, i, none⟩ x) (.inr (fun e => by have := ownBlock_ge h p e; omega))
theorem OwnP.cell {W : World} {B n c : Nat} {a : Option Addr} {P : Nat → PlR} (h : OwnP W B a n c P) (p i : Nat) (x : Value) (hp : p < B) : OwnP (W.setCell ⟨p, i, none⟩ x) B a n c P :=
  h.kept (grownBy_setCellM W ⟨p, i, none⟩ x) (.inr (fun e => by have := ownBlock_ge h.row p e; omega)) (fun j hj => .inr (fun e => by have := ownBlock_ge ((h.dig j hj).2.1) p e; omega))
theorem results_rec {fn : Func} {p u : Tmp} (hf : fn.results = #[.cell p RT9, .tmp u]) {w : World} {g1 : Nat} {cs : Array Value} (k1 : w.heap[g1]? = some (.cells cs RT9 (0, 0))) (hs : cs.size = 9) (tmps : Array Value) (hp : tmps.getD p undef = .pointer (some ⟨g1, 0, none⟩)) : (results fn tmps).run Try.prog w = .ok (.tuple #[.agg cs, tmps.getD u undef]) w := by
  rw [results_cell_tmp hf, hp]
  simp only [asAddr, Sem.run_pure, Result.andThen_ok]
  rw [run_loadVar_row w g1 RT9 RT9 cs (0, 0) _ k1 Try.underlying37 rfl (by rw [hs]; kernel_rfl)]
  rfl
theorem refEnc_is (k : Int) (key : ByteArray) (N c s t : Int) (d : Bool) (sn : Nat) (sum : List Nat) (pn : Nat) (P Q : Nat → PlR) (hs : sum.length = sn) (hb : Bytes sum) (hl : ∀ i, i < pn → (P i).l.length = (P i).x.2.1 ∧ Bytes (P i).l) (hpn : pn ≤ 100000) (hS : ∀ i, i < pn → SameP (Q i) (P i)) (R : Bool) (hR : R = rightB k key N c s t d sn P pn) (sa : Option Addr) (sc : Nat) (pa : Option Addr) (pc : Nat) (w : World) (h1 : BytesV w (sa, sn, sc) sum) (h2 : PlacesV w pa pn pc Q) :
    Calls Try.prog 17 #[.agg #[.int .i64 k, .string key, .int .i64 N, .int .i64 c, .int .i64 s, .int .i64 t, .bool d, .slice sa sn sc, .slice pa pn pc]] w (GivesE w (if R then encL k key N c s t d sum P pn else []) (if R then 0 else 90)) := by
  subst hR
  cases hR : rightB k key N c s t d sn P pn with
  | true =>
    have hR' : rightB k key N c s t d sn Q pn = true := (rightB_ext hS).trans hR
    have hle := encL_le hs (fun i hi => (hl i hi).1) hR
    refine (refEncode_yes k key N c s t d sa sn sc sum pa pn pc Q w h1 h2 hR').mono ?_
    rintro e w' ⟨ad, cap, rfl, ho, hbe⟩
    rw [encL_ext hS] at ho ⊢
    exact ⟨ad, _, cap, rfl, bytesV_of_owns ho (encL_bytes hb (fun i hi => (hl i hi).2)) hle, hbe⟩
  | false =>
    have hR' : rightB k key N c s t d sn Q pn = false := (rightB_ext hS).trans hR
    exact (refEncode_no k key N c s t d sa sn sc pa pn pc Q w h2 hpn hR').mono fun e w' h => givesE_no h
theorem Sc.bytes_sub {s : Sc} (h : Bytes s.l) : Bytes s.bytes := fun x hx => by
  unfold Sc.bytes tText at hx
  split at hx
  · cases hx
  · exact h x (List.mem_of_mem_drop (List.mem_of_mem_take hx))
theorem Sc.num_sub {s : Sc} {m : Nat} (h : Bytes s.l) : Bytes (s.num m).l := fun _ hx => h _ (List.mem_of_mem_drop hx)
theorem Sc.text_sub {s : Sc} (h : Bytes s.l) : Bytes s.text.l := fun x hx => by
  simp only [Sc.text, tRest] at hx
  split at hx
  · exact h x (List.mem_of_mem_drop hx)
  · exact h x (List.mem_of_mem_drop (List.mem_of_mem_drop hx))
theorem Sc.a2_sub {s : Sc} (h : Bytes s.l) : Bytes s.a2.l := Sc.text_sub (Sc.num_sub h)
theorem Sc.a7_sub {s : Sc} (h : Bytes s.l) : Bytes s.a7.l := Sc.num_sub (Sc.num_sub (Sc.num_sub (Sc.num_sub (Sc.num_sub (Sc.a2_sub h)))))
theorem Sc.a9_sub {s : Sc} (h : Bytes s.l) : Bytes s.a9.l := Sc.num_sub (Sc.text_sub (Sc.a7_sub h))
theorem Sc.place_sub {s : Sc} (h : Bytes s.l) : Bytes s.place.l := Sc.text_sub (Sc.num_sub (Sc.num_sub (Sc.num_sub h)))
theorem Sc.pls_sub {s : Sc} (h : Bytes s.l) : ∀ i, Bytes (s.pls i).l
  | 0 => h
  | i + 1 => Sc.place_sub (Sc.pls_sub h i)
theorem Sc.sum_sub {s : Sc} (h : Bytes s.l) : Bytes s.sum := Sc.bytes_sub (Sc.a7_sub h)
theorem Sc.P_sub {s : Sc} (h : Bytes s.l) (i : Nat) : (s.P i).l.length = (s.P i).x.2.1 ∧ Bytes (s.P i).l := ⟨rfl, Sc.bytes_sub (Sc.num_sub (Sc.num_sub (Sc.num_sub (Sc.pls_sub (Sc.a9_sub h) i))))⟩
structure PlS (w W : World) (q p Bs Bl : Nat) (s : Sc) (rec : Array Value) (ad : Option Addr) (n c : Nat) (cs4 : Array Value) (sumv : Value) (sumn : Nat) (suml : List Value) (av : Option Addr) (i cv : Nat) (P' : Nat → PlR) : Prop where
  f : RfS w W q s rec ad n c
  pb : W.heap[p]? = some (.cells cs4 PT4 (0, 0))
  o : W.ownsRow Bs 5 1 sumv sumn suml
  l : OwnP W Bl av i cv P'
  pq : q + 2 < p
  bs : q + 2 < Bs
  bl : q + 2 < Bl
  no : ∀ k, sumv.ownBlock = some k → k < p
  nl : ∀ k, (Value.slice av i cv).ownBlock = some k → k < p
  nd : ∀ j, j < i → ∀ k, (SV (P' j).x).ownBlock = some k → k < p
theorem PlS.step {w W W1 : World} {q p Bs Bl : Nat} {s s' : Sc} {rec : Array Value} {ad a' : Option Addr} {n c n' c' : Nat} {cs4 cs4' : Array Value} {sumv : Value} {sumn : Nat} {suml : List Value} {av : Option Addr} {i cv : Nat} {P' : Nat → PlR} (h : PlS w W q p Bs Bl s rec ad n c cs4 sumv sumn suml av i cv P') (hb : Below W.heap.size W W1) (hy : BytesV w (a', n', c') s'.l) (bd : Bool) (hbd : bd = s'.bad) (j : Nat) (x : Value) (h4 : cs4.setIfInBounds j x = cs4') :
    PlS w (((W1.setCell ⟨q + 2, 0, none⟩ (.slice a' n' c')).setCell ⟨q + 2, 1, none⟩ (.bool bd)).setCell ⟨p, j, none⟩ x) q p Bs Bl s' rec a' n' c' cs4' sumv sumn suml av i cv P' := by
  subst hbd h4
  have hpq := h.pq
  have hp1 := (hb.block p (Array.getElem?_eq_some_iff.1 h.pb).1).trans h.pb
  have hp2 : ((W1.setCell ⟨q + 2, 0, none⟩ (.slice a' n' c')).setCell ⟨q + 2, 1, none⟩ (.bool s'.bad)).heap[p]? = some (.cells cs4 PT4 (0, 0)) := (heap_setCell_other _ ⟨q + 2, 1, none⟩ p _ (by simp only; omega)).trans ((heap_setCell_other _ ⟨q + 2, 0, none⟩ p _ (by simp only; omega)).trans hp1)
  have hl1 := (h.l.below hb).cell (q + 2) 0 (.slice a' n' c') h.bl
  have hl2 := hl1.cell (q + 2) 1 (.bool s'.bad) h.bl
  refine ⟨((h.f.below hb).sc hy).oth j x hpq, heap_setCell_same _ p j cs4 PT4 x hp2, ?_, ?_, hpq, h.bs, h.bl, h.no, h.nl, h.nd⟩
  · exact (own_cell (own_cell (own_belowM h.o hb) (q + 2) 0 _ h.bs) (q + 2) 1 _ h.bs).kept (grownBy_setCellM _ ⟨p, j, none⟩ x) (.inr (fun e => by have := h.no p e; omega))
  · exact hl2.kept (grownBy_setCellM _ ⟨p, j, none⟩ x) (.inr (fun e => by have := h.nl p e; omega)) (fun j hj => .inr (fun e => by have := h.nd j hj p e; omega))
set_option maxRecDepth 100000 in
set_option maxHeartbeats 32000000 in
theorem refDecode_is (ad : Option Addr) (n c : Nat) (l : List Nat) (w : World) (h : BytesV w (ad, n, c) l) :
    Calls Try.prog 22 #[.slice ad n c] w (GivesDec w l) := by
  obtain ⟨s, hs⟩ : ∃ s : Sc, s = ⟨false, l⟩ := ⟨_, rfl⟩
  have hsl : s.l = l := by rw [hs]
  have hsb : s.bad = false := by rw [hs]
  have HS := Lib.hid hs
  obtain ⟨q, hq⟩ : ∃ q, q = w.heap.size := ⟨_, rfl⟩
  obtain ⟨w1, hw1⟩ : ∃ x, x = w.alloc (.cells Z9 RT9) := ⟨_, rfl⟩
  obtain ⟨w2, hw2⟩ : ∃ x, x = w1.alloc (.cells Z9 RT9) := ⟨_, rfl⟩
  obtain ⟨w3, hw3⟩ : ∃ x, x = w2.alloc (.cells #[.slice ad n c, .bool false] ST2) := ⟨_, rfl⟩
  have z1 : w1.heap.size = q + 1 := by rw [hw1, hq]; simp
  have z2 : w2.heap.size = q + 2 := by rw [hw2]; simp; omega
  have k1 : w3.heap[q]? = some (.cells Z9 RT9 (0, 0)) := by rw [hw3, heap_alloc_old _ _ (by omega), hw2, heap_alloc_old _ _ (by omega), hw1, hq]; exact heap_alloc_new w _
  have k2 : w3.heap[q + 1]? = some (.cells Z9 RT9 (0, 0)) := by rw [hw3, heap_alloc_old _ _ (by omega), hw2, ← z1]; exact heap_alloc_new w1 _
  have k3 : w3.heap[q + 2]? = some (.cells #[.slice ad n c, .bool false] ST2 (0, 0)) := by rw [hw3, ← z2]; exact heap_alloc_new w2 _
  have b3 : Below w.heap.size w w3 := by rw [hw3, hw2, hw1]; exact (below_alloc w _).trans (((below_alloc _ _).mono (by simp)).trans ((below_alloc _ _).mono (by simp <;> omega)))
  have hR : RfS w w3 q s Z9 ad n c := ⟨b3, Nat.le_of_eq hq.symm, k1, k2, by rw [hsb]; exact k3, by rw [hsl]; exact h⟩
  have HR := Lib.hid hR
  have HH := Lib.hid h
  have HQ := Lib.hid hq
  have HW1 := Lib.hid hw1
  have HW2 := Lib.hid hw2
  have HW3 := Lib.hid hw3
  have HBY := Lib.hid (show Bytes s.l from by rw [hsl]; exact h.bytes)
  have HPN := Lib.hid (Sc.pn_lt (s := s) (by rw [hsl]; exact h.bytes))
  clear h hs hq hw1 hw2 hw3 z1 z2 k1 k2 k3 b3 hsl hsb hR
  go_enter Try.func22, Try.ntmps22
  go_upto_region 3 with fail
  rw [← HQ.out, ← HW1.out, ← HW2.out, ← HW3.out]
  refine (?_ : ∀ W, RfS w W q s Z9 ad n c → Code.wp Try.prog _ _ _ W) _ HR.out
  clear HW1 HW2 HW3 HR
  intro W hW
  have K := refNumS 1 1 rfl (by decide) ad n c s w W hW.bel hW.b
  obtain ⟨d0, d1, hfd⟩ := cells2M hW.sb
  have HW := Lib.hid hW
  clear hW
  go_wp2_with fail
  (with_reducible refine K.mono ?_)
  rintro e W1 ⟨a1, n1, c1x, rfl, hy, hb⟩
  obtain ⟨vk, hv⟩ : ∃ v, v = s.val 1 := ⟨_, rfl⟩
  rw [← hv]
  have Vvk := Lib.hid hv
  obtain ⟨bd, hbd⟩ : ∃ b, b = ((s.num 1)).bad := ⟨_, rfl⟩
  rw [← hbd]
  have HBD := Lib.hid hbd
  have h1 := HW.out.below hb
  have h2 := h1.sc (s' := (s.num 1)) hy
  have h3 := h2.fld 0 (.int .i64 vk) (rec' := #[.int .i64 vk, .string ⟨#[]⟩, .int .i64 0, .int .i64 0, .int .i64 0, .int .i64 0, .bool false, .slice none 0 0, .slice none 0 0]) rfl
  rw [← hbd] at h3
  have H3 := Lib.hid h3
  clear d0 d1 hfd
  obtain ⟨d0, d1, hfd⟩ := cells2M h1.sb
  obtain ⟨c0, c1, c2, c3, c4, c5, c6, c7, c8⟩ := cells9M h1.r
  have hfz := cells9X h1.r
  clear h1 h2 h3 hy hb hv hbd K
  go_upto_region 4 with fail
  refine (?_ : ∀ W, RfS w W q (s.num 1) #[.int .i64 vk, .string ⟨#[]⟩, .int .i64 0, .int .i64 0, .int .i64 0, .int .i64 0, .bool false, .slice none 0 0, .slice none 0 0] a1 n1 c1x → Code.wp Try.prog _ _ _ W) _ H3.out
  (try clear HO)
  clear H3 HW c0 c1 c2 c3 c4 c5 c6 c7 c8 hfz d0 d1 hfd W1 W
  intro W hW
  have K := refTextS a1 n1 c1x (s.num 1) w W hW.bel hW.b
  obtain ⟨d0, d1, hfd⟩ := cells2M hW.sb
  have HW := Lib.hid hW
  have HQW := Lib.hid (show q + 2 < W.heap.size from (Array.getElem?_eq_some_iff.1 hW.sb).1)
  clear hW
  go_wp2_with fail
  (with_reducible refine K.mono ?_)
  rintro e W1 ⟨a2, n2, c2x, t2a, t2c, rfl, hy, hown, hby, hb⟩
  obtain ⟨L2, hL⟩ : ∃ L, L = ((s.num 1)).bytes := ⟨_, rfl⟩
  rw [← hL] at hown hby ⊢
  have HL2 := Lib.hid hL
  obtain ⟨l2, hl⟩ : ∃ n, n = L2.length := ⟨_, rfl⟩
  rw [← hl] at hown hby ⊢
  have Hl2 := Lib.hid hl
  have HBL2 := Lib.hid hby
  obtain ⟨B2, hB⟩ : ∃ B, B = W.heap.size := ⟨_, rfl⟩
  rw [← hB] at hown
  have HB2 := Lib.hid (show q + 2 < B2 from by rw [hB]; exact HQW.out)
  obtain ⟨bd, hbd⟩ : ∃ b, b = (((s.num 1)).text).bad := ⟨_, rfl⟩
  rw [← hbd]
  have HBD := Lib.hid hbd
  have h1 := HW.out.below hb
  have h2 := h1.sc (s' := ((s.num 1)).text) hy
  have HO1 := Lib.hid (own_cell (own_cell hown (q + 2) 0 (.slice a2 n2 c2x) (by have := HB2.out; omega)) (q + 2) 1 (.bool (((s.num 1)).text).bad) (by have := HB2.out; omega))
  have h3 := h2
  have HO := HO1
  rw [← hbd] at h3 HO
  have H3 := Lib.hid h3
  clear d0 d1 hfd
  obtain ⟨d0, d1, hfd⟩ := cells2M h1.sb
  obtain ⟨c0, c1, c2, c3, c4, c5, c6, c7, c8⟩ := cells9M h1.r
  have hfz := cells9X h1.r
  clear h1 h2 h3 hy hb hL hl hby hown hB hbd K HQW HO1
  go_upto_region 5 with fail
  refine (?_ : ∀ W, W.ownsRow B2 5 1 (.slice t2a l2 t2c) l2 (L2.map bv) → RfS w W q (((s.num 1)).text) #[.int .i64 vk, .string ⟨#[]⟩, .int .i64 0, .int .i64 0, .int .i64 0, .int .i64 0, .bool false, .slice none 0 0, .slice none 0 0] a2 n2 c2x → Code.wp Try.prog _ _ _ W) _ HO.out H3.out
  clear H3 HW HO c0 c1 c2 c3 c4 c5 c6 c7 c8 hfz d0 d1 hfd W1 W
  intro W hO hW
  have KV := conv_any W t2a l2 t2c L2 (bytesV_of_owns hO HBL2.out.1 HBL2.out.2).r
  obtain ⟨key, hkey⟩ : ∃ x, x = strOf L2 := ⟨_, rfl⟩
  rw [← hkey] at KV
  have HKEY := Lib.hid hkey
  obtain ⟨c0, c1, c2, c3, c4, c5, c6, c7, c8⟩ := cells9M hW.r
  have hfz := cells9X hW.r
  have H3 := Lib.hid (hW.fld 1 (.string key) (rec' := #[.int .i64 vk, .string key, .int .i64 0, .int .i64 0, .int .i64 0, .int .i64 0, .bool false, .slice none 0 0, .slice none 0 0]) rfl)
  clear hO hW hkey
  go_upto_region 6 with fail
  refine (?_ : ∀ W, RfS w W q (((s.num 1)).text) #[.int .i64 vk, .string key, .int .i64 0, .int .i64 0, .int .i64 0, .int .i64 0, .bool false, .slice none 0 0, .slice none 0 0] a2 n2 c2x → Code.wp Try.prog _ _ _ W) _ H3.out
  clear H3 KV c0 c1 c2 c3 c4 c5 c6 c7 c8 hfz W
  intro W hW
  have K := refNumS 4 4 rfl (by decide) a2 n2 c2x (((s.num 1)).text) w W hW.bel hW.b
  obtain ⟨d0, d1, hfd⟩ := cells2M hW.sb
  have HW := Lib.hid hW
  clear hW
  go_wp2_with fail
  (with_reducible refine K.mono ?_)
  rintro e W1 ⟨a3, n3, c3x, rfl, hy, hb⟩
  obtain ⟨vN, hv⟩ : ∃ v, v = (((s.num 1)).text).val 4 := ⟨_, rfl⟩
  rw [← hv]
  have VvN := Lib.hid hv
  obtain ⟨bd, hbd⟩ : ∃ b, b = (((((s.num 1)).text).num 4)).bad := ⟨_, rfl⟩
  rw [← hbd]
  have HBD := Lib.hid hbd
  have h1 := HW.out.below hb
  have h2 := h1.sc (s' := ((((s.num 1)).text).num 4)) hy
  have h3 := h2.fld 2 (.int .i64 vN) (rec' := #[.int .i64 vk, .string key, .int .i64 vN, .int .i64 0, .int .i64 0, .int .i64 0, .bool false, .slice none 0 0, .slice none 0 0]) rfl
  rw [← hbd] at h3
  have H3 := Lib.hid h3
  clear d0 d1 hfd
  obtain ⟨d0, d1, hfd⟩ := cells2M h1.sb
  obtain ⟨c0, c1, c2, c3, c4, c5, c6, c7, c8⟩ := cells9M h1.r
  have hfz := cells9X h1.r
  clear h1 h2 h3 hy hb hv hbd K
  go_upto_region 7 with fail
  refine (?_ : ∀ W, RfS w W q ((((s.num 1)).text).num 4) #[.int .i64 vk, .string key, .int .i64 vN, .int .i64 0, .int .i64 0, .int .i64 0, .bool false, .slice none 0 0, .slice none 0 0] a3 n3 c3x → Code.wp Try.prog _ _ _ W) _ H3.out
  (try clear HO)
  clear H3 HW c0 c1 c2 c3 c4 c5 c6 c7 c8 hfz d0 d1 hfd W1 W
  intro W hW
  have K := refNumS 4 4 rfl (by decide) a3 n3 c3x ((((s.num 1)).text).num 4) w W hW.bel hW.b
  obtain ⟨d0, d1, hfd⟩ := cells2M hW.sb
  have HW := Lib.hid hW
  clear hW
  go_wp2_with fail
  (with_reducible refine K.mono ?_)
  rintro e W1 ⟨a4, n4, c4x, rfl, hy, hb⟩
  obtain ⟨vS, hv⟩ : ∃ v, v = ((((s.num 1)).text).num 4).val 4 := ⟨_, rfl⟩
  rw [← hv]
  have VvS := Lib.hid hv
  obtain ⟨bd, hbd⟩ : ∃ b, b = ((((((s.num 1)).text).num 4).num 4)).bad := ⟨_, rfl⟩
  rw [← hbd]
  have HBD := Lib.hid hbd
  have h1 := HW.out.below hb
  have h2 := h1.sc (s' := (((((s.num 1)).text).num 4).num 4)) hy
  have h3 := h2.fld 4 (.int .i64 vS) (rec' := #[.int .i64 vk, .string key, .int .i64 vN, .int .i64 0, .int .i64 vS, .int .i64 0, .bool false, .slice none 0 0, .slice none 0 0]) rfl
  rw [← hbd] at h3
  have H3 := Lib.hid h3
  clear d0 d1 hfd
  obtain ⟨d0, d1, hfd⟩ := cells2M h1.sb
  obtain ⟨c0, c1, c2, c3, c4, c5, c6, c7, c8⟩ := cells9M h1.r
  have hfz := cells9X h1.r
  clear h1 h2 h3 hy hb hv hbd K
  go_upto_region 8 with fail
  refine (?_ : ∀ W, RfS w W q (((((s.num 1)).text).num 4).num 4) #[.int .i64 vk, .string key, .int .i64 vN, .int .i64 0, .int .i64 vS, .int .i64 0, .bool false, .slice none 0 0, .slice none 0 0] a4 n4 c4x → Code.wp Try.prog _ _ _ W) _ H3.out
  (try clear HO)
  clear H3 HW c0 c1 c2 c3 c4 c5 c6 c7 c8 hfz d0 d1 hfd W1 W
  intro W hW
  have K := refNumS 1 1 rfl (by decide) a4 n4 c4x (((((s.num 1)).text).num 4).num 4) w W hW.bel hW.b
  obtain ⟨d0, d1, hfd⟩ := cells2M hW.sb
  have HW := Lib.hid hW
  clear hW
  go_wp2_with fail
  (with_reducible refine K.mono ?_)
  rintro e W1 ⟨a5, n5, c5x, rfl, hy, hb⟩
  obtain ⟨vC, hv⟩ : ∃ v, v = (((((s.num 1)).text).num 4).num 4).val 1 := ⟨_, rfl⟩
  rw [← hv]
  have VvC := Lib.hid hv
  obtain ⟨bd, hbd⟩ : ∃ b, b = (((((((s.num 1)).text).num 4).num 4).num 1)).bad := ⟨_, rfl⟩
  rw [← hbd]
  have HBD := Lib.hid hbd
  have h1 := HW.out.below hb
  have h2 := h1.sc (s' := ((((((s.num 1)).text).num 4).num 4).num 1)) hy
  have h3 := h2.fld 3 (.int .i64 vC) (rec' := #[.int .i64 vk, .string key, .int .i64 vN, .int .i64 vC, .int .i64 vS, .int .i64 0, .bool false, .slice none 0 0, .slice none 0 0]) rfl
  rw [← hbd] at h3
  have H3 := Lib.hid h3
  clear d0 d1 hfd
  obtain ⟨d0, d1, hfd⟩ := cells2M h1.sb
  obtain ⟨c0, c1, c2, c3, c4, c5, c6, c7, c8⟩ := cells9M h1.r
  have hfz := cells9X h1.r
  clear h1 h2 h3 hy hb hv hbd K
  go_upto_region 9 with fail
  refine (?_ : ∀ W, RfS w W q ((((((s.num 1)).text).num 4).num 4).num 1) #[.int .i64 vk, .string key, .int .i64 vN, .int .i64 vC, .int .i64 vS, .int .i64 0, .bool false, .slice none 0 0, .slice none 0 0] a5 n5 c5x → Code.wp Try.prog _ _ _ W) _ H3.out
  (try clear HO)
  clear H3 HW c0 c1 c2 c3 c4 c5 c6 c7 c8 hfz d0 d1 hfd W1 W
  intro W hW
  have K := refNumS 1 1 rfl (by decide) a5 n5 c5x ((((((s.num 1)).text).num 4).num 4).num 1) w W hW.bel hW.b
  obtain ⟨d0, d1, hfd⟩ := cells2M hW.sb
  have HW := Lib.hid hW
  clear hW
  go_wp2_with fail
  (with_reducible refine K.mono ?_)
  rintro e W1 ⟨a6, n6, c6x, rfl, hy, hb⟩
  obtain ⟨vT, hv⟩ : ∃ v, v = ((((((s.num 1)).text).num 4).num 4).num 1).val 1 := ⟨_, rfl⟩
  rw [← hv]
  have VvT := Lib.hid hv
  obtain ⟨bd, hbd⟩ : ∃ b, b = ((((((((s.num 1)).text).num 4).num 4).num 1).num 1)).bad := ⟨_, rfl⟩
  rw [← hbd]
  have HBD := Lib.hid hbd
  have h1 := HW.out.below hb
  have h2 := h1.sc (s' := (((((((s.num 1)).text).num 4).num 4).num 1).num 1)) hy
  have h3 := h2.fld 5 (.int .i64 vT) (rec' := #[.int .i64 vk, .string key, .int .i64 vN, .int .i64 vC, .int .i64 vS, .int .i64 vT, .bool false, .slice none 0 0, .slice none 0 0]) rfl
  rw [← hbd] at h3
  have H3 := Lib.hid h3
  clear d0 d1 hfd
  obtain ⟨d0, d1, hfd⟩ := cells2M h1.sb
  obtain ⟨c0, c1, c2, c3, c4, c5, c6, c7, c8⟩ := cells9M h1.r
  have hfz := cells9X h1.r
  clear h1 h2 h3 hy hb hv hbd K
  go_upto_region 10 with fail
  refine (?_ : ∀ W, RfS w W q (((((((s.num 1)).text).num 4).num 4).num 1).num 1) #[.int .i64 vk, .string key, .int .i64 vN, .int .i64 vC, .int .i64 vS, .int .i64 vT, .bool false, .slice none 0 0, .slice none 0 0] a6 n6 c6x → Code.wp Try.prog _ _ _ W) _ H3.out
  (try clear HO)
  clear H3 HW c0 c1 c2 c3 c4 c5 c6 c7 c8 hfz d0 d1 hfd W1 W
  intro W hW
  have K := refNumS 1 1 rfl (by decide) a6 n6 c6x (((((((s.num 1)).text).num 4).num 4).num 1).num 1) w W hW.bel hW.b
  obtain ⟨d0, d1, hfd⟩ := cells2M hW.sb
  have HW := Lib.hid hW
  clear hW
  go_wp2_with fail
  (with_reducible refine K.mono ?_)
  rintro e W1 ⟨a7, n7, c7x, rfl, hy, hb⟩
  obtain ⟨vX, hv⟩ : ∃ v, v = (((((((s.num 1)).text).num 4).num 4).num 1).num 1).val 1 := ⟨_, rfl⟩
  rw [← hv]
  have VvX := Lib.hid hv
  obtain ⟨bd, hbd⟩ : ∃ b, b = (((((((((s.num 1)).text).num 4).num 4).num 1).num 1).num 1)).bad := ⟨_, rfl⟩
  rw [← hbd]
  have HBD := Lib.hid hbd
  have h1 := HW.out.below hb
  have h2 := h1.sc (s' := ((((((((s.num 1)).text).num 4).num 4).num 1).num 1).num 1)) hy
  have h3 := h2
  rw [← hbd] at h3
  have H3 := Lib.hid h3
  clear d0 d1 hfd
  obtain ⟨d0, d1, hfd⟩ := cells2M h1.sb
  obtain ⟨c0, c1, c2, c3, c4, c5, c6, c7, c8⟩ := cells9M h1.r
  have hfz := cells9X h1.r
  clear h1 h2 h3 hy hb hv hbd K
  go_upto_region 11 with fail
  refine (?_ : ∀ W, RfS w W q ((((((((s.num 1)).text).num 4).num 4).num 1).num 1).num 1) #[.int .i64 vk, .string key, .int .i64 vN, .int .i64 vC, .int .i64 vS, .int .i64 vT, .bool false, .slice none 0 0, .slice none 0 0] a7 n7 c7x → Code.wp Try.prog _ _ _ W) _ H3.out
  (try clear HO)
  clear H3 HW c0 c1 c2 c3 c4 c5 c6 c7 c8 hfz d0 d1 hfd W1 W
  intro W hW
  obtain ⟨vD, hvd⟩ : ∃ v, v = ((vX : Int) == 1) := ⟨_, rfl⟩
  have HVD := Lib.hid hvd
  obtain ⟨c0, c1, c2, c3, c4, c5, c6, c7, c8⟩ := cells9M hW.r
  have hfz := cells9X hW.r
  have H3 := Lib.hid (hW.fld 6 (.bool vD) (rec' := #[.int .i64 vk, .string key, .int .i64 vN, .int .i64 vC, .int .i64 vS, .int .i64 vT, .bool vD, .slice none 0 0, .slice none 0 0]) rfl)
  clear hW hvd
  go_upto_region 12 with fail
  rw [← HVD.out]
  refine (?_ : ∀ W, RfS w W q ((((((((s.num 1)).text).num 4).num 4).num 1).num 1).num 1) #[.int .i64 vk, .string key, .int .i64 vN, .int .i64 vC, .int .i64 vS, .int .i64 vT, .bool vD, .slice none 0 0, .slice none 0 0] a7 n7 c7x → Code.wp Try.prog _ _ _ W) _ H3.out
  clear H3 c0 c1 c2 c3 c4 c5 c6 c7 c8 hfz W
  intro W hW
  have K := refTextS a7 n7 c7x ((((((((s.num 1)).text).num 4).num 4).num 1).num 1).num 1) w W hW.bel hW.b
  obtain ⟨d0, d1, hfd⟩ := cells2M hW.sb
  have HW := Lib.hid hW
  have HQW := Lib.hid (show q + 2 < W.heap.size from (Array.getElem?_eq_some_iff.1 hW.sb).1)
  clear hW
  go_wp2_with fail
  (with_reducible refine K.mono ?_)
  rintro e W1 ⟨a8, n8, c8x, t8a, t8c, rfl, hy, hown, hby, hb⟩
  obtain ⟨L8, hL⟩ : ∃ L, L = (((((((((s.num 1)).text).num 4).num 4).num 1).num 1).num 1)).bytes := ⟨_, rfl⟩
  rw [← hL] at hown hby ⊢
  have HL8 := Lib.hid hL
  obtain ⟨l8, hl⟩ : ∃ n, n = L8.length := ⟨_, rfl⟩
  rw [← hl] at hown hby ⊢
  have Hl8 := Lib.hid hl
  have HBL8 := Lib.hid hby
  obtain ⟨B8, hB⟩ : ∃ B, B = W.heap.size := ⟨_, rfl⟩
  rw [← hB] at hown
  have HB8 := Lib.hid (show q + 2 < B8 from by rw [hB]; exact HQW.out)
  obtain ⟨bd, hbd⟩ : ∃ b, b = ((((((((((s.num 1)).text).num 4).num 4).num 1).num 1).num 1)).text).bad := ⟨_, rfl⟩
  rw [← hbd]
  have HBD := Lib.hid hbd
  have h1 := HW.out.below hb
  have h2 := h1.sc (s' := (((((((((s.num 1)).text).num 4).num 4).num 1).num 1).num 1)).text) hy
  have HO1 := Lib.hid (own_cell (own_cell hown (q + 2) 0 (.slice a8 n8 c8x) (by have := HB8.out; omega)) (q + 2) 1 (.bool ((((((((((s.num 1)).text).num 4).num 4).num 1).num 1).num 1)).text).bad) (by have := HB8.out; omega))
  have h3 := h2.fld 7 (.slice t8a l8 t8c) (rec' := #[.int .i64 vk, .string key, .int .i64 vN, .int .i64 vC, .int .i64 vS, .int .i64 vT, .bool vD, .slice t8a l8 t8c, .slice none 0 0]) rfl
  have HO := Lib.hid (own_cell HO1.out (q + 1) 7 (.slice t8a l8 t8c) (by have := HB8.out; omega))
  rw [← hbd] at h3 HO
  have H3 := Lib.hid h3
  clear d0 d1 hfd
  obtain ⟨d0, d1, hfd⟩ := cells2M h1.sb
  obtain ⟨c0, c1, c2, c3, c4, c5, c6, c7, c8⟩ := cells9M h1.r
  have hfz := cells9X h1.r
  clear h1 h2 h3 hy hb hL hl hby hown hB hbd K HQW HO1
  go_upto_region 13 with fail
  refine (?_ : ∀ W, W.ownsRow B8 5 1 (.slice t8a l8 t8c) l8 (L8.map bv) → RfS w W q ((((((((((s.num 1)).text).num 4).num 4).num 1).num 1).num 1)).text) #[.int .i64 vk, .string key, .int .i64 vN, .int .i64 vC, .int .i64 vS, .int .i64 vT, .bool vD, .slice t8a l8 t8c, .slice none 0 0] a8 n8 c8x → Code.wp Try.prog _ _ _ W) _ HO.out H3.out
  clear H3 HW HO c0 c1 c2 c3 c4 c5 c6 c7 c8 hfz d0 d1 hfd W1 W
  intro W hO hW
  have K := refNumS 2 2 rfl (by decide) a8 n8 c8x ((((((((((s.num 1)).text).num 4).num 4).num 1).num 1).num 1)).text) w W hW.bel hW.b
  obtain ⟨d0, d1, hfd⟩ := cells2M hW.sb
  have HW := Lib.hid hW
  clear hW
  go_wp2_with fail
  (with_reducible refine K.mono ?_)
  rintro e W1 ⟨a9, n9, c9x, rfl, hy, hb⟩
  obtain ⟨pn, hv⟩ : ∃ v, v = ((((((((((s.num 1)).text).num 4).num 4).num 1).num 1).num 1)).text).val 2 := ⟨_, rfl⟩
  rw [← hv]
  have Vpn := Lib.hid hv
  obtain ⟨bd, hbd⟩ : ∃ b, b = ((((((((((((s.num 1)).text).num 4).num 4).num 1).num 1).num 1)).text).num 2)).bad := ⟨_, rfl⟩
  rw [← hbd]
  have HBD := Lib.hid hbd
  have h1 := HW.out.below hb
  have h2 := h1.sc (s' := (((((((((((s.num 1)).text).num 4).num 4).num 1).num 1).num 1)).text).num 2)) hy
  have h3 := h2
  rw [← hbd] at h3
  have H3 := Lib.hid h3
  clear d0 d1 hfd
  obtain ⟨d0, d1, hfd⟩ := cells2M h1.sb
  obtain ⟨c0, c1, c2, c3, c4, c5, c6, c7, c8⟩ := cells9M h1.r
  have hfz := cells9X h1.r
  have HO := Lib.hid (own_cell (own_cell (own_belowM hO hb) (q + 2) 0 (.slice a9 n9 c9x) (by have := HB8.out; omega)) (q + 2) 1 (.bool bd) (by have := HB8.out; omega))
  clear hO
  clear h1 h2 h3 hy hb hv hbd K
  go_upto_region 14 with fail
  refine (?_ : ∀ W, W.ownsRow B8 5 1 (.slice t8a l8 t8c) l8 (L8.map bv) → RfS w W q (((((((((((s.num 1)).text).num 4).num 4).num 1).num 1).num 1)).text).num 2) #[.int .i64 vk, .string key, .int .i64 vN, .int .i64 vC, .int .i64 vS, .int .i64 vT, .bool vD, .slice t8a l8 t8c, .slice none 0 0] a9 n9 c9x → Code.wp Try.prog _ _ _ W) _ HO.out H3.out
  (try clear HO)
  clear H3 HW c0 c1 c2 c3 c4 c5 c6 c7 c8 hfz d0 d1 hfd W1 W
  intro W hO hW
  have HRL : Hid (RfS w W q s.a9 #[.int .i64 vk, .string key, .int .i64 vN, .int .i64 vC, .int .i64 vS, .int .i64 vT, .bool vD, .slice t8a l8 t8c, .slice none 0 0] a9 n9 c9x) := Lib.hid hW
  have HOL := Lib.hid hO
  obtain ⟨Bl, hBl⟩ : ∃ B, B = W.heap.size := ⟨_, rfl⟩
  have HBl := Lib.hid (show q + 2 < Bl from by rw [hBl]; exact (Array.getElem?_eq_some_iff.1 hW.sb).1)
  have HBW := Lib.hid (show Bl ≤ W.heap.size from Nat.le_of_eq hBl)
  have hn2 : pn < 65536 := by
    have := Sc.val_lt (s := s.a8) (Sc.text_sub (Sc.a7_sub HBY.out)) 2
    have e : (256 : Nat) ^ 2 = 65536 := by decide
    rw [e] at this
    rw [Vpn.out]
    exact this
  have HVPN := Lib.hid (show pn = s.pn from Vpn.out)
  clear hW hO hBl Vpn
  obtain ⟨i0, hin, hz0, hz1, hz2⟩ := info_partsM infoPlace
  go_wp2_with fail
  go_loopw [9] (fun vi wr => ∃ (i : Nat) (av : Option Addr) (cv : Nat) (P' : Nat → PlR) (ax : Option Addr) (nx cx : Nat), i ≤ pn ∧ vi = .int .i64 (i : Nat) ∧ Hid (RfS w wr q (s.a9.pls i) #[.int .i64 vk, .string key, .int .i64 vN, .int .i64 vC, .int .i64 vS, .int .i64 vT, .bool vD, .slice t8a l8 t8c, .slice av i cv] ax nx cx) ∧ Hid (wr.ownsRow B8 5 1 (.slice t8a l8 t8c) l8 (L8.map bv)) ∧ Hid (OwnP wr Bl av i cv P') ∧ Hid (∀ j, j < i → SameP (P' j) (s.P j)) ∧ Hid (Bl ≤ wr.heap.size)) (fun vi _ => (pn - intOf vi).toNat)
  case atStart => exact ⟨0, none, 0, fun _ => ⟨0, 0, 0, (none, 0, 0), []⟩, _, _, _, Nat.zero_le _, rfl, HRL, HOL, Lib.hid ⟨World.ownsRow_nil _ _ _ _, fun i hi => absurd hi (Nat.not_lt_zero _)⟩, Lib.hid (fun j h => absurd h (Nat.not_lt_zero _)), HBW⟩
  case round =>
    clear HRL HOL HBW
    obtain ⟨i, av, cv, P', ax, nx, cx, hi, rfl, HR, HW, HO, HP, HZ⟩ := hrel
    obtain ⟨c0, c1, c2, c3, c4, c5, c6, c7, c8⟩ := cells9M HR.out.r
    obtain ⟨d0, d1, hfd⟩ := cells2M HR.out.sb
    obtain ⟨bd, hbd⟩ : ∃ b, b = (s.a9.pls i).bad := ⟨_, rfl⟩
    rw [← hbd] at d1
    have HBD := Lib.hid hbd
    have HNI := Lib.hid hi
    clear hbd
    cases bd
    · by_cases hlt : i < pn
      · have hil : (i : Int) < (pn : Int) := by omega
        obtain ⟨p, hp⟩ : ∃ p, p = wr.heap.size := ⟨_, rfl⟩
        obtain ⟨w1, hw1⟩ : ∃ x, x = wr.alloc (.cells #[.int .i64 0, .int .i64 0, .int .i64 0, .slice none 0 0] PT4) := ⟨_, rfl⟩
        have hb1 : Below wr.heap.size wr w1 := by rw [hw1]; exact below_alloc wr _
        have hQ : PlS w w1 q p B8 Bl (s.a9.pls i) #[.int .i64 vk, .string key, .int .i64 vN, .int .i64 vC, .int .i64 vS, .int .i64 vT, .bool vD, .slice t8a l8 t8c, .slice av i cv] ax nx cx #[.int .i64 0, .int .i64 0, .int .i64 0, .slice none 0 0] (.slice t8a l8 t8c) l8 (L8.map bv) av i cv P' := ⟨HR.out.below hb1, by rw [hw1, hp]; exact heap_alloc_new wr _, own_belowM HW.out hb1, HO.out.below hb1, by rw [hp]; exact (Array.getElem?_eq_some_iff.1 HR.out.sb).1, HB8.out, HBl.out, fun k e => by rw [hp]; exact (HW.out.lt k e).2, fun k e => by rw [hp]; exact (HO.out.row.lt k e).2, fun j hj k e => by rw [hp]; exact ((HO.out.dig j hj).2.1.lt k e).2⟩
        have HQ1 := Lib.hid hQ
        have HPZ := Lib.hid (show Bl ≤ p from by rw [hp]; exact HZ.out)
        have HPW := Lib.hid hp
        have HW1 := Lib.hid hw1
        clear hp hw1 hb1 hQ
        go_upto_region 18 with fail
        rw [← HPW.out, ← HW1.out]
        refine (?_ : ∀ W1, PlS w W1 q p B8 Bl (s.a9.pls i) #[.int .i64 vk, .string key, .int .i64 vN, .int .i64 vC, .int .i64 vS, .int .i64 vT, .bool vD, .slice t8a l8 t8c, .slice av i cv] ax nx cx #[.int .i64 0, .int .i64 0, .int .i64 0, .slice none 0 0] (.slice t8a l8 t8c) l8 (L8.map bv) av i cv P' → Code.wp Try.prog _ _ _ W1) _ HQ1.out
        clear HQ1 HW1 HPW c0 c1 c2 c3 c4 c5 c6 c7 c8 d0 d1 hfd HR HW HO HZ
        intro W1 hQ
        have K := refNumS 2 2 rfl (by decide) ax nx cx (s.a9.pls i) w W1 hQ.f.bel hQ.f.b
        obtain ⟨d0, d1, hfd⟩ := cells2M hQ.f.sb
        have HQ := Lib.hid hQ
        clear hQ
        go_wp2_with fail
        (with_reducible refine K.mono ?_)
        rintro e W2 ⟨a10, n10, c10x, rfl, hy, hb⟩
        obtain ⟨vb, hv⟩ : ∃ v, v = (s.a9.pls i).val 2 := ⟨_, rfl⟩
        rw [← hv]
        have Vvb := Lib.hid hv
        obtain ⟨bd, hbd⟩ : ∃ b, b = (((s.a9.pls i).num 2)).bad := ⟨_, rfl⟩
        rw [← hbd]
        have h1 := HQ.out.f.below hb
        have hp1 := (hb.block p (Array.getElem?_eq_some_iff.1 HQ.out.pb).1).trans HQ.out.pb
        have H3 := Lib.hid (HQ.out.step hb hy bd hbd 0 (.int .i64 vb) (cs4' := #[.int .i64 vb, .int .i64 0, .int .i64 0, .slice none 0 0]) rfl)
        clear d0 d1 hfd
        obtain ⟨d0, d1, hfd⟩ := cells2M h1.sb
        obtain ⟨c0, c1, c2, c3⟩ := cells4M hp1
        have hfz : ∀ j, W2.frozen? ⟨p, j, none⟩ = false := fun _ => frozen_of_row _ _ _ _ _ hp1
        have hne1 : ¬ p = q + 2 := by have := HQ.out.pq; omega
        have hne2 : ¬ q + 2 = p := by have := HQ.out.pq; omega
        clear h1 hp1 hy hb hv hbd K
        go_upto_region 19 with fail
        refine (?_ : ∀ W1, PlS w W1 q p B8 Bl ((s.a9.pls i).num 2) #[.int .i64 vk, .string key, .int .i64 vN, .int .i64 vC, .int .i64 vS, .int .i64 vT, .bool vD, .slice t8a l8 t8c, .slice av i cv] a10 n10 c10x #[.int .i64 vb, .int .i64 0, .int .i64 0, .slice none 0 0] (.slice t8a l8 t8c) l8 (L8.map bv) av i cv P' → Code.wp Try.prog _ _ _ W1) _ H3.out
        clear H3 HQ c0 c1 c2 c3 hfz d0 d1 hfd hne1 hne2 W2 W1
        intro W1 hQ
        have K := refNumS 3 3 rfl (by decide) a10 n10 c10x ((s.a9.pls i).num 2) w W1 hQ.f.bel hQ.f.b
        obtain ⟨d0, d1, hfd⟩ := cells2M hQ.f.sb
        have HQ := Lib.hid hQ
        clear hQ
        go_wp2_with fail
        (with_reducible refine K.mono ?_)
        rintro e W2 ⟨a11, n11, c11x, rfl, hy, hb⟩
        obtain ⟨ve, hv⟩ : ∃ v, v = ((s.a9.pls i).num 2).val 3 := ⟨_, rfl⟩
        rw [← hv]
        have Vve := Lib.hid hv
        obtain ⟨bd, hbd⟩ : ∃ b, b = ((((s.a9.pls i).num 2).num 3)).bad := ⟨_, rfl⟩
        rw [← hbd]
        have h1 := HQ.out.f.below hb
        have hp1 := (hb.block p (Array.getElem?_eq_some_iff.1 HQ.out.pb).1).trans HQ.out.pb
        have H3 := Lib.hid (HQ.out.step hb hy bd hbd 1 (.int .i64 ve) (cs4' := #[.int .i64 vb, .int .i64 ve, .int .i64 0, .slice none 0 0]) rfl)
        clear d0 d1 hfd
        obtain ⟨d0, d1, hfd⟩ := cells2M h1.sb
        obtain ⟨c0, c1, c2, c3⟩ := cells4M hp1
        have hfz : ∀ j, W2.frozen? ⟨p, j, none⟩ = false := fun _ => frozen_of_row _ _ _ _ _ hp1
        have hne1 : ¬ p = q + 2 := by have := HQ.out.pq; omega
        have hne2 : ¬ q + 2 = p := by have := HQ.out.pq; omega
        clear h1 hp1 hy hb hv hbd K
        go_upto_region 20 with fail
        refine (?_ : ∀ W1, PlS w W1 q p B8 Bl (((s.a9.pls i).num 2).num 3) #[.int .i64 vk, .string key, .int .i64 vN, .int .i64 vC, .int .i64 vS, .int .i64 vT, .bool vD, .slice t8a l8 t8c, .slice av i cv] a11 n11 c11x #[.int .i64 vb, .int .i64 ve, .int .i64 0, .slice none 0 0] (.slice t8a l8 t8c) l8 (L8.map bv) av i cv P' → Code.wp Try.prog _ _ _ W1) _ H3.out
        clear H3 HQ c0 c1 c2 c3 hfz d0 d1 hfd hne1 hne2 W2 W1
        intro W1 hQ
        have K := refNumS 2 2 rfl (by decide) a11 n11 c11x (((s.a9.pls i).num 2).num 3) w W1 hQ.f.bel hQ.f.b
        obtain ⟨d0, d1, hfd⟩ := cells2M hQ.f.sb
        have HQ := Lib.hid hQ
        clear hQ
        go_wp2_with fail
        (with_reducible refine K.mono ?_)
        rintro e W2 ⟨a12, n12, c12x, rfl, hy, hb⟩
        obtain ⟨vs, hv⟩ : ∃ v, v = (((s.a9.pls i).num 2).num 3).val 2 := ⟨_, rfl⟩
        rw [← hv]
        have Vvs := Lib.hid hv
        obtain ⟨bd, hbd⟩ : ∃ b, b = (((((s.a9.pls i).num 2).num 3).num 2)).bad := ⟨_, rfl⟩
        rw [← hbd]
        have h1 := HQ.out.f.below hb
        have hp1 := (hb.block p (Array.getElem?_eq_some_iff.1 HQ.out.pb).1).trans HQ.out.pb
        have H3 := Lib.hid (HQ.out.step hb hy bd hbd 2 (.int .i64 vs) (cs4' := #[.int .i64 vb, .int .i64 ve, .int .i64 vs, .slice none 0 0]) rfl)
        clear d0 d1 hfd
        obtain ⟨d0, d1, hfd⟩ := cells2M h1.sb
        obtain ⟨c0, c1, c2, c3⟩ := cells4M hp1
        have hfz : ∀ j, W2.frozen? ⟨p, j, none⟩ = false := fun _ => frozen_of_row _ _ _ _ _ hp1
        have hne1 : ¬ p = q + 2 := by have := HQ.out.pq; omega
        have hne2 : ¬ q + 2 = p := by have := HQ.out.pq; omega
        clear h1 hp1 hy hb hv hbd K
        go_upto_region 21 with fail
        refine (?_ : ∀ W1, PlS w W1 q p B8 Bl ((((s.a9.pls i).num 2).num 3).num 2) #[.int .i64 vk, .string key, .int .i64 vN, .int .i64 vC, .int .i64 vS, .int .i64 vT, .bool vD, .slice t8a l8 t8c, .slice av i cv] a12 n12 c12x #[.int .i64 vb, .int .i64 ve, .int .i64 vs, .slice none 0 0] (.slice t8a l8 t8c) l8 (L8.map bv) av i cv P' → Code.wp Try.prog _ _ _ W1) _ H3.out
        clear H3 HQ c0 c1 c2 c3 hfz d0 d1 hfd hne1 hne2 W2 W1
        intro W1 hQ
        have K := refTextS a12 n12 c12x ((((s.a9.pls i).num 2).num 3).num 2) w W1 hQ.f.bel hQ.f.b
        obtain ⟨d0, d1, hfd⟩ := cells2M hQ.f.sb
        have HQ := Lib.hid hQ
        have HPL := Lib.hid (show p < W1.heap.size from (Array.getElem?_eq_some_iff.1 hQ.pb).1)
        clear hQ
        go_wp2_with fail
        (with_reducible refine K.mono ?_)
        rintro e W2 ⟨a13, n13, c13x, xa, xc, rfl, hy, hown, hby, hb⟩
        obtain ⟨pm, hpm⟩ : ∃ L, L = (((((s.a9.pls i).num 2).num 3).num 2)).bytes := ⟨_, rfl⟩
        rw [← hpm] at hown hby ⊢
        have HPM := Lib.hid hpm
        obtain ⟨xn, hxn⟩ : ∃ n, n = pm.length := ⟨_, rfl⟩
        rw [← hxn] at hown hby ⊢
        have HXN := Lib.hid hxn
        have HBX := Lib.hid hby
        obtain ⟨bd, hbd⟩ : ∃ b, b = ((((((s.a9.pls i).num 2).num 3).num 2).text)).bad := ⟨_, rfl⟩
        rw [← hbd]
        have h1 := HQ.out.f.below hb
        have hp1 := (hb.block p (Array.getElem?_eq_some_iff.1 HQ.out.pb).1).trans HQ.out.pb
        have hpq := HQ.out.pq
        have hpl := HPL.out
        have hsp := HPZ.out
        have hbq2 := HBl.out
        have H3 := Lib.hid (And.intro (HQ.out.step hb hy bd hbd 3 (.slice xa xn xc) (cs4' := #[.int .i64 vb, .int .i64 ve, .int .i64 vs, .slice xa xn xc]) rfl) (ownsRow_base (own_cell (own_cell (own_cell hown (q + 2) 0 (.slice a13 n13 c13x) (by omega)) (q + 2) 1 (.bool bd) (by omega)) p 3 (.slice xa xn xc) (by omega)) (show Bl ≤ W1.heap.size from by omega)))
        clear d0 d1 hfd
        obtain ⟨d0, d1, hfd⟩ := cells2M h1.sb
        obtain ⟨c0, c1, c2, c3⟩ := cells4M hp1
        have hfz : ∀ j, W2.frozen? ⟨p, j, none⟩ = false := fun _ => frozen_of_row _ _ _ _ _ hp1
        have hne1 : ¬ p = q + 2 := by omega
        have hne2 : ¬ q + 2 = p := by omega
        clear h1 hp1 hy hb hpm hxn hby hown hbd K hpq hpl hsp hbq2
        go_upto_region 22 with fail
        refine (?_ : ∀ W1, (PlS w W1 q p B8 Bl (((((s.a9.pls i).num 2).num 3).num 2).text) #[.int .i64 vk, .string key, .int .i64 vN, .int .i64 vC, .int .i64 vS, .int .i64 vT, .bool vD, .slice t8a l8 t8c, .slice av i cv] a13 n13 c13x #[.int .i64 vb, .int .i64 ve, .int .i64 vs, .slice xa xn xc] (.slice t8a l8 t8c) l8 (L8.map bv) av i cv P' ∧ W1.ownsRow Bl 5 1 (.slice xa xn xc) xn (pm.map bv)) → Code.wp Try.prog _ _ _ W1) _ H3.out
        clear H3 HQ HPL c0 c1 c2 c3 hfz d0 d1 hfd hne1 hne2 W2 W1
        intro W1 hQ
        obtain ⟨hQ, hX⟩ := hQ
        obtain ⟨c0, c1, c2, c3⟩ := cells4M hQ.pb
        obtain ⟨d0, d1, d2, d3, d4, d5, d6, d7, d8⟩ := cells9M hQ.f.r
        have HQ := Lib.hid hQ
        have HX := Lib.hid hX
        have hsz : Bl ≤ W1.heap.size := by have := HPZ.out; have := (Array.getElem?_eq_some_iff.1 hQ.pb).1; omega
        have hxl : pm.length = xn := HXN.out.symm
        have HXL := Lib.hid hxl
        clear hQ hX hxl
        go_wp2_with (first | (at_builtin; refine Hid.out ?_))
        refine Lib.hid ?_
        refine wpList_append_lies _ rfl (.tmp 117) (.tmp 119) 35 rfl Bl PT4 i0 (.agg #[.int .i64 0, .int .i64 0, .int .i64 0, .slice none 0 0]) 4 48 Try.underlying35 hin hz0 hz1 hz2 rfl (by decide) (.slice av i cv) i (pcells P' i) rfl (HQ.out.l.below (below_alloc W1 _)).row ⟨W1.heap.size, 0, none⟩ 1 1 [.int .i64 vb, .int .i64 ve, .int .i64 vs, .slice xa xn xc] rfl rfl (news4 (heap_alloc_new W1 _)) (by intro u hu; simp at hu; rcases hu with rfl | rfl | rfl | rfl <;> rfl) (by decide) (by simp [maxLen]; omega) (by omega) (by simp; omega) _ rfl ?_
        intro g9 c9 v9 hE9 hg9 _ _
        have hnb : ∀ k, (Value.slice av i cv).ownBlock = some k → Bl ≤ k := fun k hk => ownBlock_ge HQ.out.l.row k hk
        have hb9 : Below Bl W1 v9 := below_grown_from hg9 hnb hsz
        have hX1 := own_belowM HX.out (below_alloc W1 (.cells #[.int .i64 vb, .int .i64 ve, .int .i64 vs, .slice xa xn xc] PT4))
        have hO9 := OwnP.append (p := ⟨vb, ve, vs, (xa, xn, xc), pm⟩) (HQ.out.l.below (below_alloc W1 _)) ⟨HXN.out, by show World.ownsRow _ _ _ _ (.slice xa xn xc) pm.length (pm.map bv); rw [HXL.out]; exact hX1, HBX.out.1, by show pm.length ≤ _; rw [HXL.out]; exact HBX.out.2⟩ hE9 hg9
        have hob := own_belowM HQ.out.o (below_alloc W1 (.cells #[.int .i64 vb, .int .i64 ve, .int .i64 vs, .slice xa xn xc] PT4))
        have hlb := (HQ.out.l.below (below_alloc W1 (.cells #[.int .i64 vb, .int .i64 ve, .int .i64 vs, .slice xa xn xc] PT4))).row
        have hne := own_ne hob hlb (by decide)
        have hw9 := hob.kept hg9 hne
        have hbl := HBl.out
        have hle := HQ.out.f.le
        have hf9 : RfS w v9 q (s.a9.pls (i + 1)) #[.int .i64 vk, .string key, .int .i64 vN, .int .i64 vC, .int .i64 vS, .int .i64 vT, .bool vD, .slice t8a l8 t8c, .slice av i cv] a13 n13 c13x := ⟨HQ.out.f.bel.trans (hb9.mono (by omega)), hle, (hb9.block _ (by omega)).trans HQ.out.f.q0, (hb9.block _ (by omega)).trans HQ.out.f.r, (hb9.block _ (by omega)).trans HQ.out.f.sb, HQ.out.f.b⟩
        have e8 : v9.cell? ⟨q + 1, 8, none⟩ = some (.slice av i cv) := cell_of_row _ _ 8 _ _ _ hf9.r
        have ef : v9.frozen? ⟨q + 1, 8, none⟩ = false := frozen_of_row _ _ _ _ _ hf9.r
        have HF9 := Lib.hid (hf9.fld 8 (.slice (some ⟨g9, 0, none⟩) (i + 1) c9) rfl)
        have HO9 := Lib.hid (hO9.cell (q + 1) 8 (.slice (some ⟨g9, 0, none⟩) (i + 1) c9) (by omega))
        have HW9 := Lib.hid (own_cell hw9 (q + 1) 8 (.slice (some ⟨g9, 0, none⟩) (i + 1) c9) (by have := HB8.out; omega))
        have HZ9 := Lib.hid (show Bl ≤ (v9.setCell ⟨q + 1, 8, none⟩ (.slice (some ⟨g9, 0, none⟩) (i + 1) c9)).heap.size from Nat.le_trans hsz (Nat.le_trans hb9.size (grownBy_setCellM v9 ⟨q + 1, 8, none⟩ _).size))
        have HP9 := Lib.hid (show ∀ j, j < i + 1 → SameP ((fun j => if j = i then (⟨vb, ve, vs, (xa, xn, xc), pm⟩ : PlR) else P' j) j) (s.P j) from fun j hj => by
          by_cases e : j = i
          · subst e
            simp only [if_pos]
            exact ⟨by show (vb : Int) = _; rw [Vvb.out]; rfl, by show (ve : Int) = _; rw [Vve.out]; rfl, by show (vs : Int) = _; rw [Vvs.out]; rfl, by show pm = _; rw [HPM.out]; rfl, by show xn = _; rw [HXN.out, HPM.out]; rfl⟩
          · simp only [if_neg e]
            exact HP.out j (by omega))
        clear hob hlb hne hnb hb9 hX1 hO9 hw9 hbl hle hf9 hE9 hg9 c0 c1 c2 c3 d0 d1 d2 d3 d4 d5 d6 d7 d8 HQ HX
        go_wp2
        go_roundw
        case rel => exact ⟨i + 1, some ⟨g9, 0, none⟩, c9, _, _, _, _, by omega, by go_num, HF9, HW9, HO9, HP9, HZ9⟩
        case measure => simp [intOf] <;> omega
      · obtain rfl : i = pn := by omega
        obtain ⟨R, hR⟩ : ∃ R, R = rightB s.k s.key s.N s.c s.s s.t s.d s.sum.length s.P s.pn := ⟨_, rfl⟩
        have hpl : PlacesV wr av i cv P' := HO.out.places (by simp [maxLen]; omega)
        have E1 := Lib.hid (show s.k = (vk : Int) ∧ s.key = key ∧ s.N = (vN : Int) ∧ s.c = (vC : Int) ∧ s.s = (vS : Int) ∧ s.t = (vT : Int) ∧ s.d = vD ∧ s.sum = L8 ∧ s.pn = i ∧ s.sum.length = l8 from ⟨by rw [Vvk.out]; rfl, by rw [HKEY.out, HL2.out]; rfl, by rw [VvN.out]; rfl, by rw [VvC.out]; rfl, by rw [VvS.out]; rfl, by rw [VvT.out]; rfl, by rw [HVD.out, VvX.out]; rfl, by rw [HL8.out]; rfl, HVPN.out.symm, by rw [Hl8.out, HL8.out]; rfl⟩)
        obtain ⟨f1, f2, f3, f4, f5, f6, f7, f8, f9, f10⟩ := E1.out
        rw [f1, f2, f3, f4, f5, f6, f7, f9, f10] at hR
        have hR2 := hR
        have HRR := Lib.hid hR
        have KE := refEnc_is vk key vN vC vS vT vD l8 L8 i s.P P' Hl8.out.symm HBL8.out.1 (fun j _ => Sc.P_sub HBY.out j) (by omega) HP.out R hR t8a t8c av cv wr (bytesV_of_owns HW.out HBL8.out.1 HBL8.out.2) hpl
        have HFB := Lib.hid (show s.fin.bad = false from by
          show (s.a9.pls s.pn).bad = false
          rw [f9]
          exact HBD.out.symm)
        have hii : ¬ (i : Int) < (i : Int) := by omega
        clear hR hR2 hpl f1 f2 f3 f4 f5 f6 f7 f8 f9 f10
        cases R
        · simp only [Bool.false_eq_true, if_false] at KE
          go_wp2_with fail
          (with_reducible refine KE.mono ?_)
          rintro e W2 ⟨a5, n5, c5', rfl, -, b5⟩
          have h1 := HR.out.below b5
          have HF := Lib.hid h1
          clear c0 c1 c2 c3 c4 c5 c6 c7 c8 d0 d1 hfd KE b5
          obtain ⟨c0, c1, c2, c3, c4, c5, c6, c7, c8⟩ := cells9M h1.q0
          have hfz := cells9X h1.q0
          obtain ⟨d0, d1, hfd⟩ := cells2M h1.sb
          rw [← HBD.out] at d1
          clear h1
          go_wp2
          clear c0 c1 c2 c3 c4 c5 c6 c7 c8 d0 d1 hfd hfz
          refine bodyPost_ret (results_rec rfl (set9X _ _ _ _ _ _ _ _ _ HF.out.q0) rfl _ rfl) rfl ?_
          refine ⟨grown9Xb W2 q _ _ _ _ _ _ _ _ _ HF.out.bel HF.out.le HF.out.bel.size, .inl ⟨?_, rfl⟩⟩
          obtain ⟨f1, f2, f3, f4, f5, f6, f7, f8, f9, f10⟩ := E1.out
          have hrr := HRR.out
          rw [← f1, ← f2, ← f3, ← f4, ← f5, ← f6, ← f7, ← f9, ← f10] at hrr
          have hfb := HFB.out
          obtain rfl := HS.out
          rw [decOk_good hfb false hrr _ rfl]
          rfl
        · simp only [if_true] at KE
          obtain ⟨O, hO⟩ : ∃ O, O = encL vk key vN vC vS vT vD L8 s.P i := ⟨_, rfl⟩
          rw [← hO] at KE
          have HOO := Lib.hid hO
          clear hO
          go_wp2_with fail
          (with_reducible refine KE.mono ?_)
          rintro e W2 ⟨a5, n5, c5', rfl, o5, b5⟩
          have h1 := HR.out.below b5
          have HF := Lib.hid h1
          have HV := Lib.hid (And.intro (own_belowM HW.out b5) (HO.out.below b5))
          obtain ⟨E, hE⟩ : ∃ E, E = decide (O = l) := ⟨_, rfl⟩
          have KQ := sameBytes_any a5 n5 c5' O ad n c l W2 o5 (HH.out.below h1.bel)
          rw [← hE] at KQ
          have HE := Lib.hid hE
          clear c0 c1 c2 c3 c4 c5 c6 c7 c8 d0 d1 hfd KE b5 o5 hE
          obtain ⟨d0, d1, hfd⟩ := cells2M h1.sb
          rw [← HBD.out] at d1
          clear h1
          go_wp2_with fail
          (with_reducible refine KQ.mono ?_)
          rintro e W3 ⟨rfl, b6⟩
          have h1 := HF.out.below b6
          have HF3 := Lib.hid h1
          have HV3 := Lib.hid (And.intro (own_belowM HV.out.1 b6) (HV.out.2.below b6))
          clear d0 d1 hfd KQ b6 HF HV
          obtain ⟨c0, c1, c2, c3, c4, c5, c6, c7, c8⟩ := cells9M h1.q0
          have hfz := cells9X h1.q0
          obtain ⟨d0, d1, d2, d3, d4, d5, d6, d7, d8⟩ := cells9M h1.r
          clear h1
          cases E
          all_goals
            go_wp2
            clear c0 c1 c2 c3 c4 c5 c6 c7 c8 d0 d1 d2 d3 d4 d5 d6 d7 d8 hfz
            refine bodyPost_ret (results_rec rfl (set9X _ _ _ _ _ _ _ _ _ HF3.out.q0) rfl _ rfl) rfl ?_
            refine ⟨grown9Xb W3 q _ _ _ _ _ _ _ _ _ HF3.out.bel HF3.out.le HF3.out.bel.size, ?_⟩
            obtain ⟨f1, f2, f3, f4, f5, f6, f7, f8, f9, f10⟩ := E1.out
            have hrr := HRR.out
            rw [← f1, ← f2, ← f3, ← f4, ← f5, ← f6, ← f7, ← f9, ← f10] at hrr
            have hfb := HFB.out
            have hoo := HOO.out
            rw [← f1, ← f2, ← f3, ← f4, ← f5, ← f6, ← f7, ← f8, ← f9] at hoo
          · obtain rfl := HS.out
            exact .inl ⟨by rw [decOk_good hfb true hrr false (HE.out.trans (by rw [hoo]))]; rfl, rfl⟩
          · have hz : W3.grownBy _ (some q) := grown9X W3 q (.int .i64 vk) (.string key) (.int .i64 vN) (.int .i64 vC) (.int .i64 vS) (.int .i64 vT) (.bool vD) (.slice t8a l8 t8c) (.slice av i cv)
            have hbl := HBl.out
            have hb7 := HB8.out
            have h1 := HV3.out.1.kept hz (.inr (fun e => by have := ownBlock_ge HV3.out.1 q e; omega))
            have h2 := HV3.out.2.kept hz (.inr (fun e => by have := ownBlock_ge HV3.out.2.row q e; omega)) (fun j hj => .inr (fun e => by have := ownBlock_ge ((HV3.out.2.dig j hj).2.1) q e; omega))
            have h3 := h2.places (by simp [maxLen]; omega)
            have h4 := bytesV_of_owns h1 HBL8.out.1 HBL8.out.2
            have hpp := HP.out
            have hdk : decOk l = true := by
              have hs := HS.out
              rw [hs] at hfb hrr hoo
              rw [decOk_good hfb true hrr true (HE.out.trans (by rw [hoo]))]
              rfl
            refine .inr ⟨hdk, t8a, t8c, av, cv, P', ?_, ?_, ?_, ?_⟩
            · rw [← HS.out, f1, f2, f3, f4, f5, f6, f7, f9, f10]; rfl
            · rw [← HS.out, f10, f8]; exact h4
            · rw [← HS.out, f9]; exact h3
            · rw [← HS.out, f9]; exact hpp
    · obtain ⟨R, hR⟩ : ∃ R, R = rightB vk key vN vC vS vT vD l8 P' i := ⟨_, rfl⟩
      have hpl : PlacesV wr av i cv P' := HO.out.places (by simp [maxLen]; omega)
      have KE := refEnc_is vk key vN vC vS vT vD l8 L8 i P' P' Hl8.out.symm HBL8.out.1 (fun j hj => ⟨((HO.out.dig j hj).1).symm, ((HO.out.dig j hj).2.2.1)⟩) (by omega) (fun j _ => ⟨rfl, rfl, rfl, rfl, rfl⟩) R hR t8a t8c av cv wr (bytesV_of_owns HW.out HBL8.out.1 HBL8.out.2) hpl
      obtain ⟨code, hcode⟩ : ∃ x : Int, x = (if R then 0 else 90) := ⟨_, rfl⟩
      rw [← hcode] at KE
      clear hR hcode hpl
      by_cases hil : (i : Int) < (pn : Int)
      all_goals
          go_wp2_with fail
          (with_reducible refine KE.mono ?_)
          rintro e W2 ⟨a5, n5, c5', rfl, -, b5⟩
          have h1 := HR.out.below b5
          have HF := Lib.hid h1
          clear c0 c1 c2 c3 c4 c5 c6 c7 c8 d0 d1 hfd KE b5
          obtain ⟨c0, c1, c2, c3, c4, c5, c6, c7, c8⟩ := cells9M h1.q0
          have hfz := cells9X h1.q0
          obtain ⟨d0, d1, hfd⟩ := cells2M h1.sb
          rw [← HBD.out] at d1
          clear h1
          go_wp2
          clear c0 c1 c2 c3 c4 c5 c6 c7 c8 d0 d1 hfd hfz
          refine bodyPost_ret (results_rec rfl (set9X _ _ _ _ _ _ _ _ _ HF.out.q0) rfl _ rfl) rfl ?_
          refine ⟨grown9Xb W2 q _ _ _ _ _ _ _ _ _ HF.out.bel HF.out.le HF.out.bel.size, .inl ⟨?_, rfl⟩⟩
          have hx := HBD.out
          have hy := HVPN.out
          have hnn := HNI.out
          obtain rfl := HS.out
          exact decOk_bad (Sc.pls_bad_up (s := (Sc.mk false l).a9) (i := i) hx.symm (by show i ≤ (Sc.mk false l).pn; omega))
end Go.Proofs.Ytikjcmijmhmilaa
