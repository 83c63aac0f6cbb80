/-
  meta's reader: a record read.
-/
import Derived.Test.YtikjcmijmhmilaaMfG
namespace Go.Proofs.Ytikjcmijmhmilaa
open Go.RowKit

def Sc.a2 (s : Sc) : Sc := (s.num 1).text
def Sc.a7 (s : Sc) : Sc := ((((s.a2.num 4).num 4).num 1).num 1).num 1
def Sc.a8 (s : Sc) : Sc := s.a7.text
def Sc.a9 (s : Sc) : Sc := s.a8.num 2
def Sc.pls (s : Sc) : Nat → Sc
  | 0 => s
  | i + 1 => (s.pls i).place
def Sc.fin (s : Sc) : Sc := s.a9.pls (s.a8.val 2)
theorem Sc.pls_bad {s : Sc} (h : s.bad = true) : ∀ n, (s.pls n).bad = true
  | 0 => h
  | n + 1 => Sc.place_bad (Sc.pls_bad h n)
theorem Sc.pls_add (s : Sc) (i : Nat) : ∀ j, (s.pls i).pls j = s.pls (i + j)
  | 0 => rfl
  | j + 1 => by show ((s.pls i).pls j).place = (s.pls (i + j)).place; rw [Sc.pls_add s i j]
theorem Sc.pls_bad_up {s : Sc} {i n : Nat} (h : (s.pls i).bad = true) (hi : i ≤ n) : (s.pls n).bad = true := by
  have := Sc.pls_bad h (n - i)
  rwa [Sc.pls_add, show i + (n - i) = n by omega] at this
/-- the record that is read. -/
def Sc.k (s : Sc) : Int := (s.val 1 : Nat)
def Sc.key (s : Sc) : ByteArray := strOf (s.num 1).bytes
def Sc.N (s : Sc) : Int := (s.a2.val 4 : Nat)
def Sc.s (s : Sc) : Int := ((s.a2.num 4).val 4 : Nat)
def Sc.c (s : Sc) : Int := (((s.a2.num 4).num 4).val 1 : Nat)
def Sc.t (s : Sc) : Int := ((((s.a2.num 4).num 4).num 1).val 1 : Nat)
def Sc.d (s : Sc) : Bool := (((((((s.a2.num 4).num 4).num 1).num 1).val 1 : Nat) : Int) == 1)
def Sc.sum (s : Sc) : List Nat := s.a7.bytes
def Sc.pn (s : Sc) : Nat := s.a8.val 2
def Sc.P (s : Sc) (i : Nat) : PlR := (s.a9.pls i).pl
abbrev Z9 : Array Value := #[.int .i64 0, .string ⟨#[]⟩, .int .i64 0, .int .i64 0, .int .i64 0, .int .i64 0, .bool false, .slice none 0 0, .slice none 0 0]
structure RcS (u w0 w : World) (b q2 : Nat) (s : Sc) (cs : Array Value) : Prop where
  g : w0.grownBy w (some b)
  r : RdV u w b s.l
  ok : s.bad = false
  q : w.heap[w0.heap.size]? = some (.cells Z9 RT9 (0, 0))
  c : w.heap[q2]? = some (.cells cs RT9 (0, 0))
  lt : w0.heap.size < q2
  bq : b < w0.heap.size
theorem RcS.set {u w0 w w1 : World} {b q2 : Nat} {s s' : Sc} {cs cs' : Array Value} (h : RcS u w0 w b q2 s cs) (hg : w.grownBy w1 (some b)) (hr : RdV u w1 b s'.l) (hb : s'.bad = false) (j : Nat) (x : Value) (hcs : cs.setIfInBounds j x = cs') : RcS u w0 (w1.setCell ⟨q2, j, none⟩ x) b q2 s' cs' := by
  have h1 := h.lt
  have h2 := h.bq
  have hc := (hg.block q2 (Array.getElem?_eq_some_iff.1 h.c).1 (fun e => by injection e with e; omega)).trans h.c
  have hq := (hg.block w0.heap.size (Array.getElem?_eq_some_iff.1 h.q).1 (fun e => by injection e with e; omega)).trans h.q
  subst hcs
  exact ⟨grown_new (h.g.trans hg) (grownBy_setCellM w1 ⟨q2, j, none⟩ x) (Nat.le_of_lt h1), hr.of_block (heap_setCell_other w1 ⟨q2, j, none⟩ b x (by simp only; omega)), hb, (heap_setCell_other w1 ⟨q2, j, none⟩ _ x (by simp only; omega)).trans hq, heap_setCell_same w1 q2 j cs RT9 x hc, h1, h2⟩
theorem RcS.on {u w0 w w1 : World} {b q2 : Nat} {s s' : Sc} {cs : Array Value} (h : RcS u w0 w b q2 s cs) (hg : w.grownBy w1 (some b)) (hr : RdV u w1 b s'.l) (hb : s'.bad = false) : RcS u w0 w1 b q2 s' cs := by
  have h1 := h.lt
  have h2 := h.bq
  have hc := (hg.block q2 (Array.getElem?_eq_some_iff.1 h.c).1 (fun e => by injection e with e; omega)).trans h.c
  have hq := (hg.block w0.heap.size (Array.getElem?_eq_some_iff.1 h.q).1 (fun e => by injection e with e; omega)).trans h.q
  exact ⟨h.g.trans hg, hr, hb, hq, hc, h1, h2⟩
theorem RcS.cell {u w0 w w1 : World} {b q2 : Nat} {s : Sc} {cs : Array Value} (h : RcS u w0 w b q2 s cs) (hg : w.grownBy w1 (some b)) : w1.heap[q2]? = some (.cells cs RT9 (0, 0)) := by
  have h1 := h.lt
  have h2 := h.bq
  exact (hg.block q2 (Array.getElem?_eq_some_iff.1 h.c).1 (fun e => by injection e with e; omega)).trans h.c
theorem OwnP.baseM {w : World} {B B' : Nat} {a : Option Addr} {n c : Nat} {P : Nat → PlR} (h : OwnP w B a n c P) (hb : B' ≤ B) : OwnP w B' a n c P := ⟨ownsRow_base h.row hb, fun i hi => ⟨(h.dig i hi).1, ownsRow_base (h.dig i hi).2.1 hb, (h.dig i hi).2.2⟩⟩
theorem cell_belowM {w w' : World} {b off : Nat} {v : Value} (h : w.cell? ⟨b, off, none⟩ = some v) (hb : Below w.heap.size w w') : w'.cell? ⟨b, off, none⟩ = some v := (hb.cell (p := ⟨b, off, none⟩) (World.block_lt_of_cell? w _ h)).trans h
theorem below_grown_from {wp w9 : World} {o : Obj} {r : Option Nat} {B : Nat} (h : (wp.alloc o).grownBy w9 r) (hr : ∀ k, r = some k → B ≤ k) (hB : B ≤ wp.heap.size := by assumption) : Below B wp w9 :=
  ⟨h.os, h.tape, h.output, Nat.le_trans (by simp) h.size, fun k hk => (h.block k (by simp; omega) (fun e => by have := hr k e.symm; omega)).trans (heap_alloc_old _ _ (by omega))⟩
theorem grown_belowB {w wp w9 : World} {r : Option Nat} {B : Nat} (h : w.grownBy wp r) (hb : Below B wp w9) (hB : w.heap.size ≤ B) : w.grownBy w9 r :=
  ⟨hb.os.trans h.os, hb.tape.trans h.tape, hb.output.trans h.output, Nat.le_trans h.size hb.size, fun k hk hn => (hb.block k (by omega)).trans (h.block k hk hn)⟩
/-- what a record's reading gives. -/
def GivesRec (w : World) (b : Nat) (s : Sc) (e : Ending) (w' : World) : Prop :=
  w.grownBy w' (some b) ∧ ((s.fin.bad = true ∧ e = .panicked PE90) ∨ (s.fin.bad = false ∧ ∃ sa sc pa pc P, e = .returned (.agg #[.int .i64 s.k, .string s.key, .int .i64 s.N, .int .i64 s.c, .int .i64 s.s, .int .i64 s.t, .bool s.d, .slice sa s.sum.length sc, .slice pa s.pn pc]) ∧ w'.ownsRow w.heap.size 5 1 (.slice sa s.sum.length sc) s.sum.length (s.sum.map bv) ∧ (Bytes s.sum ∧ s.sum.length ≤ 140737488355328) ∧ OwnP w' w.heap.size pa s.pn pc P ∧ ∀ i, i < s.pn → SameP (P i) (s.P i)))
set_option maxRecDepth 100000 in
set_option maxHeartbeats 16000000 in
theorem recRd (b : Nat) (s : Sc) (u w : World) (hu : Below u.heap.size u w) (hub : u.heap.size ≤ b) (hr : RdV u w b s.l) (hs : s.bad = false) :
    Calls Try.prog 35 #[.pointer (some ⟨b, 0, none⟩)] w (GivesRec w b s) := by
  have hbw := hr.lt
  obtain ⟨q, hq⟩ : ∃ q, q = w.heap.size := ⟨_, rfl⟩
  obtain ⟨w1, hw1⟩ : ∃ x, x = w.alloc (.cells Z9 RT9) := ⟨_, rfl⟩
  have k1 : w1.heap[q]? = some (.cells Z9 RT9 (0, 0)) := by rw [hw1, hq]; exact heap_alloc_new w _
  have b1 : Below w.heap.size w w1 := by rw [hw1]; exact below_alloc w _
  have hg1 := grownBy_of_below b1 (some b)
  have hr1 := hr.of_block (b1.block b hbw)
  have hqb : b < q := by omega
  have K1 := numRd b 1 s u w1 (below_on hu hub hg1) hub hr1 hs (by decide) 1 rfl
  have HW1 := Lib.hid hw1
  have HQ := Lib.hid hq
  have C1 := Lib.hid k1
  have G1 := Lib.hid hg1
  have HU := Lib.hid hu
  have HBW := Lib.hid hbw
  clear hw1 hq k1 b1 hg1 hr1 hu hr hbw hs
  go_enter Try.func35, Try.ntmps35
  go_upto_region 1 with fail
  rw [← HQ.out, ← HW1.out]
  go_wp2_with fail
  (with_reducible refine K1.mono ?_)
  rintro e w2 ⟨hg, ⟨hb, rfl⟩ | ⟨hb, rfl, hr⟩⟩
  · have HE := Lib.hid (And.intro (G1.out.trans hg) (show s.fin.bad = true from Sc.pls_bad (Sc.num_bad (Sc.text_bad (Sc.num_bad (Sc.num_bad (Sc.num_bad (Sc.num_bad (Sc.num_bad (Sc.text_bad (hb))))))))) _))
    clear hg hb K1
    go_wp2
    exact ⟨rfl, HE.out.1, .inl ⟨HE.out.2, rfl⟩⟩
  have C2 := Lib.hid ((hg.block q (Array.getElem?_eq_some_iff.1 C1.out).1 (fun e => by injection e with e; omega)).trans C1.out)
  have hg2 := G1.out.trans hg
  have G2 := Lib.hid hg2
  have K2 := textRd b (s.num 1) u w2 (below_on HU.out hub hg2) hub hr hb
  have HBL := Lib.hid (Sc.bytes_le hr)
  clear K1 hg hg2 hr hb
  obtain ⟨vk, hvk⟩ : ∃ v, v = s.val 1 := ⟨_, rfl⟩
  rw [← hvk]
  have VK := Lib.hid hvk
  clear hvk
  go_wp2_with fail
  (with_reducible refine K2.mono ?_)
  rintro e w3 ⟨hg, ⟨hb, rfl⟩ | ⟨hb, ⟨ta, tc, rfl, hown⟩, hr⟩⟩
  · have HE := Lib.hid (And.intro (G2.out.trans hg) (show s.fin.bad = true from Sc.pls_bad (Sc.num_bad (Sc.text_bad (Sc.num_bad (Sc.num_bad (Sc.num_bad (Sc.num_bad (Sc.num_bad (hb)))))))) _))
    clear hg hb K2
    go_wp2
    exact ⟨rfl, HE.out.1, .inl ⟨HE.out.2, rfl⟩⟩
  have hg3 := G2.out.trans hg
  have HC3 := Lib.hid ((hg.block q (Array.getElem?_eq_some_iff.1 C2.out).1 (fun e => by injection e with e; omega)).trans C2.out)
  have KV := conv_any w3 ta _ tc _ (bytesV_of_owns hown HBL.out.2 HBL.out.1).r
  obtain ⟨key, hkey⟩ : ∃ k, k = strOf (s.num 1).bytes := ⟨_, rfl⟩
  rw [← hkey] at KV
  have HKEY := Lib.hid hkey
  obtain ⟨kn, hkn⟩ : ∃ n, n = (s.num 1).bytes.length := ⟨_, rfl⟩
  rw [← hkn] at KV ⊢
  have hsz3 : w.heap.size < w3.heap.size := by
    have := (Array.getElem?_eq_some_iff.1 HC3.out).1
    rw [HQ.out] at this
    exact this
  have hR0 : RcS u w (w3.alloc (.cells #[.int .i64 vk, .string key, .int .i64 0, .int .i64 0, .int .i64 0, .int .i64 0, .bool false, .slice none 0 0, .slice none 0 0] RT9)) b w3.heap.size s.a2 #[.int .i64 vk, .string key, .int .i64 0, .int .i64 0, .int .i64 0, .int .i64 0, .bool false, .slice none 0 0, .slice none 0 0] :=
    ⟨hg3.trans (grownBy_of_below (below_alloc w3 _) (some b)), hr.of_block (heap_alloc_old _ _ hr.lt), hb, by rw [← HQ.out, heap_alloc_old _ _ (Array.getElem?_eq_some_iff.1 HC3.out).1]; exact HC3.out, heap_alloc_new w3 _, hsz3, HBW.out⟩
  have HR0 := Lib.hid hR0
  obtain ⟨q2, hq2⟩ : ∃ q, q = w3.heap.size := ⟨_, rfl⟩
  rw [← hq2] at HR0
  have HQ2 := Lib.hid hq2
  clear hq2 hR0 hsz3 hkn hkey hg3 hown hr hb hg K2
  go_upto_region 2 with fail
  rw [← HQ2.out]
  clear KV
  refine (?_ : ∀ W, RcS u w W b q2 s.a2 #[.int .i64 vk, .string key, .int .i64 0, .int .i64 0, .int .i64 0, .int .i64 0, .bool false, .slice none 0 0, .slice none 0 0] → Code.wp Try.prog _ _ _ W) _ HR0.out
  clear HR0 HQ2 HC3 HBL C2 G2 C1 HW1 G1
  intro W1 hW1
  have H1 := Lib.hid hW1
  have K := numRd b 4 s.a2 u W1 (below_on HU.out hub hW1.g) hub hW1.r hW1.ok (by decide) 4 rfl
  clear hW1
  go_wp2_with fail
  (with_reducible refine K.mono ?_)
  rintro e wx ⟨hg, ⟨hb, rfl⟩ | ⟨hb, rfl, hr⟩⟩
  · have HE := Lib.hid (And.intro (H1.out.g.trans hg) (show s.fin.bad = true from Sc.pls_bad (Sc.num_bad (Sc.text_bad (Sc.num_bad (Sc.num_bad (Sc.num_bad (Sc.num_bad (hb))))))) _))
    clear hg hb K
    go_wp2
    exact ⟨rfl, HE.out.1, .inl ⟨HE.out.2, rfl⟩⟩
  obtain ⟨vN, hv⟩ : ∃ v, v = s.a2.val 4 := ⟨_, rfl⟩
  rw [← hv]
  have VvN := Lib.hid hv
  have hset := H1.out.set (s' := (s.a2.num 4)) hg hr hb 2 (.int .i64 vN) (cs' := #[.int .i64 vk, .string key, .int .i64 vN, .int .i64 0, .int .i64 0, .int .i64 0, .bool false, .slice none 0 0, .slice none 0 0]) rfl
  obtain ⟨c0, c1, c2, c3, c4, c5, c6, c7, c8⟩ := cells9M (H1.out.cell hg)
  have hfz := cells9X (H1.out.cell hg)
  have HS := Lib.hid hset
  clear hset hg hr hb K hv
  go_upto_region 3 with fail
  refine (?_ : ∀ W, RcS u w W b q2 (s.a2.num 4) #[.int .i64 vk, .string key, .int .i64 vN, .int .i64 0, .int .i64 0, .int .i64 0, .bool false, .slice none 0 0, .slice none 0 0] → Code.wp Try.prog _ _ _ W) _ HS.out
  clear HS H1 c0 c1 c2 c3 c4 c5 c6 c7 c8 hfz
  intro W2 hW2
  have H2 := Lib.hid hW2
  have K := numRd b 4 (s.a2.num 4) u W2 (below_on HU.out hub hW2.g) hub hW2.r hW2.ok (by decide) 4 rfl
  clear hW2
  go_wp2_with fail
  (with_reducible refine K.mono ?_)
  rintro e wx ⟨hg, ⟨hb, rfl⟩ | ⟨hb, rfl, hr⟩⟩
  · have HE := Lib.hid (And.intro (H2.out.g.trans hg) (show s.fin.bad = true from Sc.pls_bad (Sc.num_bad (Sc.text_bad (Sc.num_bad (Sc.num_bad (Sc.num_bad (hb)))))) _))
    clear hg hb K
    go_wp2
    exact ⟨rfl, HE.out.1, .inl ⟨HE.out.2, rfl⟩⟩
  obtain ⟨vS, hv⟩ : ∃ v, v = (s.a2.num 4).val 4 := ⟨_, rfl⟩
  rw [← hv]
  have VvS := Lib.hid hv
  have hset := H2.out.set (s' := ((s.a2.num 4).num 4)) hg hr hb 4 (.int .i64 vS) (cs' := #[.int .i64 vk, .string key, .int .i64 vN, .int .i64 0, .int .i64 vS, .int .i64 0, .bool false, .slice none 0 0, .slice none 0 0]) rfl
  obtain ⟨c0, c1, c2, c3, c4, c5, c6, c7, c8⟩ := cells9M (H2.out.cell hg)
  have hfz := cells9X (H2.out.cell hg)
  have HS := Lib.hid hset
  clear hset hg hr hb K hv
  go_upto_region 4 with fail
  refine (?_ : ∀ W, RcS u w W b q2 ((s.a2.num 4).num 4) #[.int .i64 vk, .string key, .int .i64 vN, .int .i64 0, .int .i64 vS, .int .i64 0, .bool false, .slice none 0 0, .slice none 0 0] → Code.wp Try.prog _ _ _ W) _ HS.out
  clear HS H2 c0 c1 c2 c3 c4 c5 c6 c7 c8 hfz
  intro W3 hW3
  have H3 := Lib.hid hW3
  have K := numRd b 1 ((s.a2.num 4).num 4) u W3 (below_on HU.out hub hW3.g) hub hW3.r hW3.ok (by decide) 1 rfl
  clear hW3
  go_wp2_with fail
  (with_reducible refine K.mono ?_)
  rintro e wx ⟨hg, ⟨hb, rfl⟩ | ⟨hb, rfl, hr⟩⟩
  · have HE := Lib.hid (And.intro (H3.out.g.trans hg) (show s.fin.bad = true from Sc.pls_bad (Sc.num_bad (Sc.text_bad (Sc.num_bad (Sc.num_bad (hb))))) _))
    clear hg hb K
    go_wp2
    exact ⟨rfl, HE.out.1, .inl ⟨HE.out.2, rfl⟩⟩
  obtain ⟨vC, hv⟩ : ∃ v, v = ((s.a2.num 4).num 4).val 1 := ⟨_, rfl⟩
  rw [← hv]
  have VvC := Lib.hid hv
  have hset := H3.out.set (s' := (((s.a2.num 4).num 4).num 1)) hg hr hb 3 (.int .i64 vC) (cs' := #[.int .i64 vk, .string key, .int .i64 vN, .int .i64 vC, .int .i64 vS, .int .i64 0, .bool false, .slice none 0 0, .slice none 0 0]) rfl
  obtain ⟨c0, c1, c2, c3, c4, c5, c6, c7, c8⟩ := cells9M (H3.out.cell hg)
  have hfz := cells9X (H3.out.cell hg)
  have HS := Lib.hid hset
  clear hset hg hr hb K hv
  go_upto_region 5 with fail
  refine (?_ : ∀ W, RcS u w W b q2 (((s.a2.num 4).num 4).num 1) #[.int .i64 vk, .string key, .int .i64 vN, .int .i64 vC, .int .i64 vS, .int .i64 0, .bool false, .slice none 0 0, .slice none 0 0] → Code.wp Try.prog _ _ _ W) _ HS.out
  clear HS H3 c0 c1 c2 c3 c4 c5 c6 c7 c8 hfz
  intro W4 hW4
  have H4 := Lib.hid hW4
  have K := numRd b 1 (((s.a2.num 4).num 4).num 1) u W4 (below_on HU.out hub hW4.g) hub hW4.r hW4.ok (by decide) 1 rfl
  clear hW4
  go_wp2_with fail
  (with_reducible refine K.mono ?_)
  rintro e wx ⟨hg, ⟨hb, rfl⟩ | ⟨hb, rfl, hr⟩⟩
  · have HE := Lib.hid (And.intro (H4.out.g.trans hg) (show s.fin.bad = true from Sc.pls_bad (Sc.num_bad (Sc.text_bad (Sc.num_bad (hb)))) _))
    clear hg hb K
    go_wp2
    exact ⟨rfl, HE.out.1, .inl ⟨HE.out.2, rfl⟩⟩
  obtain ⟨vT, hv⟩ : ∃ v, v = (((s.a2.num 4).num 4).num 1).val 1 := ⟨_, rfl⟩
  rw [← hv]
  have VvT := Lib.hid hv
  have hset := H4.out.set (s' := ((((s.a2.num 4).num 4).num 1).num 1)) hg hr hb 5 (.int .i64 vT) (cs' := #[.int .i64 vk, .string key, .int .i64 vN, .int .i64 vC, .int .i64 vS, .int .i64 vT, .bool false, .slice none 0 0, .slice none 0 0]) rfl
  obtain ⟨c0, c1, c2, c3, c4, c5, c6, c7, c8⟩ := cells9M (H4.out.cell hg)
  have hfz := cells9X (H4.out.cell hg)
  have HS := Lib.hid hset
  clear hset hg hr hb K hv
  go_upto_region 6 with fail
  refine (?_ : ∀ W, RcS u w W b q2 ((((s.a2.num 4).num 4).num 1).num 1) #[.int .i64 vk, .string key, .int .i64 vN, .int .i64 vC, .int .i64 vS, .int .i64 vT, .bool false, .slice none 0 0, .slice none 0 0] → Code.wp Try.prog _ _ _ W) _ HS.out
  clear HS H4 c0 c1 c2 c3 c4 c5 c6 c7 c8 hfz
  intro W5 hW5
  have H5 := Lib.hid hW5
  have K := numRd b 1 ((((s.a2.num 4).num 4).num 1).num 1) u W5 (below_on HU.out hub hW5.g) hub hW5.r hW5.ok (by decide) 1 rfl
  clear hW5
  go_wp2_with fail
  (with_reducible refine K.mono ?_)
  rintro e wx ⟨hg, ⟨hb, rfl⟩ | ⟨hb, rfl, hr⟩⟩
  · have HE := Lib.hid (And.intro (H5.out.g.trans hg) (show s.fin.bad = true from Sc.pls_bad (Sc.num_bad (Sc.text_bad (hb))) _))
    clear hg hb K
    go_wp2
    exact ⟨rfl, HE.out.1, .inl ⟨HE.out.2, rfl⟩⟩
  obtain ⟨vX, hv⟩ : ∃ v, v = ((((s.a2.num 4).num 4).num 1).num 1).val 1 := ⟨_, rfl⟩
  rw [← hv]
  obtain ⟨vD, hvd⟩ : ∃ v, v = ((vX : Int) == 1) := ⟨_, rfl⟩
  have VvD := Lib.hid (show vD = s.d by rw [hvd, hv]; rfl)
  have HVD := Lib.hid hvd
  clear hvd
  have hset := H5.out.set (s' := (((((s.a2.num 4).num 4).num 1).num 1).num 1)) hg hr hb 6 (.bool vD) (cs' := #[.int .i64 vk, .string key, .int .i64 vN, .int .i64 vC, .int .i64 vS, .int .i64 vT, .bool vD, .slice none 0 0, .slice none 0 0]) rfl
  obtain ⟨c0, c1, c2, c3, c4, c5, c6, c7, c8⟩ := cells9M (H5.out.cell hg)
  have hfz := cells9X (H5.out.cell hg)
  have HS := Lib.hid hset
  clear hset hg hr hb K hv
  go_upto_region 7 with fail
  rw [← HVD.out]
  refine (?_ : ∀ W, RcS u w W b q2 (((((s.a2.num 4).num 4).num 1).num 1).num 1) #[.int .i64 vk, .string key, .int .i64 vN, .int .i64 vC, .int .i64 vS, .int .i64 vT, .bool vD, .slice none 0 0, .slice none 0 0] → Code.wp Try.prog _ _ _ W) _ HS.out
  clear HS H5 c0 c1 c2 c3 c4 c5 c6 c7 c8 hfz
  intro W6 hW6
  have H6 := Lib.hid hW6
  have K := textRd b s.a7 u W6 (below_on HU.out hub hW6.g) hub hW6.r hW6.ok
  have HBL : Hid (s.a7.bytes.length ≤ 140737488355328 ∧ Bytes s.a7.bytes) := Lib.hid (Sc.bytes_le (s := s.a7) hW6.r)
  clear hW6
  go_wp2_with fail
  (with_reducible refine K.mono ?_)
  rintro e wx ⟨hg, ⟨hb, rfl⟩ | ⟨hb, ⟨sa, sc, rfl, hown⟩, hr⟩⟩
  · have HE := Lib.hid (And.intro (H6.out.g.trans hg) (show s.fin.bad = true from Sc.pls_bad (Sc.num_bad (hb)) _))
    clear hg hb K
    go_wp2
    exact ⟨rfl, HE.out.1, .inl ⟨HE.out.2, rfl⟩⟩
  obtain ⟨sum, hsum⟩ : ∃ x, x = s.sum := ⟨_, rfl⟩
  rw [show s.a7.bytes = sum from hsum.symm] at hown HBL ⊢
  have HSUM := Lib.hid hsum
  obtain ⟨sn, hsn⟩ : ∃ n, n = sum.length := ⟨_, rfl⟩
  rw [← hsn] at hown HBL ⊢
  have HSN := Lib.hid hsn
  have hq2 : q2 < W6.heap.size := (Array.getElem?_eq_some_iff.1 H6.out.c).1
  have hset := H6.out.set (s' := s.a8) hg hr hb 7 (.slice sa sn sc) (cs' := #[.int .i64 vk, .string key, .int .i64 vN, .int .i64 vC, .int .i64 vS, .int .i64 vT, .bool vD, .slice sa sn sc, .slice none 0 0]) rfl
  have HOW := Lib.hid (hown.kept (grownBy_setCellM wx ⟨q2, 7, none⟩ (.slice sa sn sc)) (.inr (fun e => by have := (hown.lt q2 e).1; omega)))
  have HOB := Lib.hid (show ∀ k, (Value.slice sa sn sc).ownBlock = some k → q2 < k from fun k e => by have := (hown.lt k e).1; omega)
  obtain ⟨c0, c1, c2, c3, c4, c5, c6, c7, c8⟩ := cells9M (H6.out.cell hg)
  have hfz := cells9X (H6.out.cell hg)
  have HS := Lib.hid (And.intro hset HOW.out)
  clear hset hg hr hb K hsum hsn hown hq2 HOW
  go_upto_region 8 with fail
  refine (?_ : ∀ W, (RcS u w W b q2 s.a8 #[.int .i64 vk, .string key, .int .i64 vN, .int .i64 vC, .int .i64 vS, .int .i64 vT, .bool vD, .slice sa sn sc, .slice none 0 0] ∧ W.ownsRow W6.heap.size 5 1 (.slice sa sn sc) sn (sum.map bv)) → Code.wp Try.prog _ _ _ W) _ HS.out
  clear HS c0 c1 c2 c3 c4 c5 c6 c7 c8 hfz
  intro W7 hW7
  have H7 := Lib.hid hW7
  have K := numRd b 2 s.a8 u W7 (below_on HU.out hub hW7.1.g) hub hW7.1.r hW7.1.ok (by decide) 2 rfl
  clear hW7
  go_wp2_with fail
  (with_reducible refine K.mono ?_)
  rintro e wl ⟨hg, ⟨hb, rfl⟩ | ⟨hb, rfl, hr⟩⟩
  · have HE := Lib.hid (And.intro (H7.out.1.g.trans hg) (show s.fin.bad = true from Sc.pls_bad (hb) _))
    clear hg hb K
    go_wp2
    exact ⟨rfl, HE.out.1, .inl ⟨HE.out.2, rfl⟩⟩
  obtain ⟨n, hv⟩ : ∃ v, v = s.a8.val 2 := ⟨_, rfl⟩
  rw [← hv]
  have VN := Lib.hid hv
  have hn : n < 256 ^ 2 := by
    obtain ⟨_, _, _, h1, -⟩ := H7.out.1.r
    rw [hv]; exact Sc.val_lt h1.bytes 2
  have hn2 : n < 65536 := hn
  have hbq2 : b < q2 := by have := H7.out.1.lt; have := H7.out.1.bq; omega
  have HRL := Lib.hid (H7.out.1.on (s' := s.a9) hg hr hb)
  have HOW := Lib.hid (H7.out.2.kept hg (.inr (fun e => by have := HOB.out b e; omega)))
  obtain ⟨Bs, hBs⟩ : ∃ B, B = W6.heap.size := ⟨_, rfl⟩
  have HBS := Lib.hid (show w.heap.size ≤ Bs from by rw [hBs]; exact H6.out.g.size)
  have HWL := Lib.hid HRL.out.g.size
  rw [← hBs] at HOW
  clear hg hr hb K hv hn hBs H7 H6
  obtain ⟨i0, hin, hz0, hz1, hz2⟩ := info_partsM infoPlace
  go_wp2_with fail
  go_loopw [39] (fun vi wr => ∃ (i : Nat) (av : Option Addr) (cv : Nat) (P' : Nat → PlR), i ≤ n ∧ vi = .int .i64 (i : Nat) ∧ Hid (RcS u w wr b q2 (s.a9.pls i) #[.int .i64 vk, .string key, .int .i64 vN, .int .i64 vC, .int .i64 vS, .int .i64 vT, .bool vD, .slice sa sn sc, .slice av i cv]) ∧ Hid (wr.ownsRow Bs 5 1 (.slice sa sn sc) sn (sum.map bv)) ∧ Hid (OwnP wr wl.heap.size av i cv P') ∧ Hid (∀ j, j < i → SameP (P' j) (s.P j)) ∧ Hid (wl.heap.size ≤ wr.heap.size)) (fun vi _ => (n - intOf vi).toNat)
  case atStart => exact ⟨0, none, 0, fun _ => ⟨0, 0, 0, (none, 0, 0), []⟩, Nat.zero_le _, rfl, HRL, HOW, Lib.hid ⟨World.ownsRow_nil _ _ _ _, fun i hi => absurd hi (Nat.not_lt_zero _)⟩, Lib.hid (fun j h => absurd h (Nat.not_lt_zero _)), Lib.hid (Nat.le_refl _)⟩
  case round =>
    have HQL := Lib.hid (show q2 < wl.heap.size from (Array.getElem?_eq_some_iff.1 HRL.out.c).1)
    clear HRL HOW
    obtain ⟨i, av, cv, P', hi, rfl, HR, HW, HO, HP, HZ⟩ := hrel
    obtain ⟨c0, c1, c2, c3, c4, c5, c6, c7, c8⟩ := cells9M HR.out.c
    have hfz := cells9X HR.out.c
    by_cases hlt : i < n
    · have hil : (i : Int) < (n : Int) := by omega
      have hdr : Below wr.heap.size wr wr.drew := ⟨rfl, rfl, rfl, Nat.le_refl _, fun _ _ => rfl⟩
      have KP := placeRd b (s.a9.pls i) u wr.drew (below_on HU.out hub (HR.out.g.trans (grownBy_of_below hdr _))) hub (HR.out.r.of_block rfl) HR.out.ok
      have S0 : wr.drew.cell? ⟨q2, 8, none⟩ = some (.slice av i cv) := c8
      clear c0 c1 c2 c3 c4 c5 c6 c7 c8 hfz
      go_wp2_with fail
      refine GoX.start 7 (fun w' => w'.cell? ⟨q2, 8, none⟩ = some (.slice av i cv)) (by kernel_rfl) ?_
      refine GoX.take 0 rfl (by kernel_rfl) (by kernel_rfl) (by rfl) (fun _ _ _ h => h) (v := ?tv0) S0 ?ty0 ?tr0
      case ty0 => (intro w hSw; (try dsimp only at hSw); go_simp; first | done | with_reducible rfl)
      simp only [Act.put, List.setIfInBounds_toArray, List.set_cons_zero, List.set_cons_succ]
      refine GoX.take 1 rfl (by kernel_rfl) (by kernel_rfl) (by rfl) (fun _ _ _ h => h) (v := ?tv1) S0 ?ty1 ?tr1
      case ty1 => (intro w hSw; (try dsimp only at hSw); go_simp; first | done | with_reducible rfl)
      simp only [Act.put, List.setIfInBounds_toArray, List.set_cons_zero, List.set_cons_succ]
      refine GoX.take 2 rfl (by kernel_rfl) (by kernel_rfl) (by rfl) (fun _ _ _ h => h) (v := ?tv2) S0 ?ty2 ?tr2
      case ty2 => (intro w hSw; (try dsimp only at hSw); go_simp; first | done | with_reducible rfl)
      simp only [Act.put, List.setIfInBounds_toArray, List.set_cons_zero, List.set_cons_succ]
      refine GoX.one 3 rfl (by kernel_rfl) (by decide) (fun K hK => ?_)
      rw [if_pos (by rfl)]
      go_simp
      (with_reducible refine KP.mono ?_)
      rintro e wp ⟨hg, ⟨hb, rfl⟩ | ⟨hb, ⟨p, hp, rfl, hpn, hpo, hpb, hps⟩, hr⟩⟩
      · have HE := Lib.hid (And.intro ((HR.out.g.trans (grownBy_of_below hdr (some b))).trans hg) (show s.fin.bad = true from Sc.pls_bad_up (i := i + 1) hb (by rw [← VN.out]; omega)))
        clear hg hb KP hK
        go_wp2
        exact ⟨rfl, HE.out.1, .inl ⟨HE.out.2, rfl⟩⟩
      have hgw : wr.grownBy wp (some b) := (grownBy_of_below hdr (some b)).trans hg
      have HGW := Lib.hid hgw
      have HR1 := Lib.hid (HR.out.on (s' := s.a9.pls (i + 1)) hgw hr hb)
      have S1 : wp.cell? ⟨q2, 8, none⟩ = some (.slice av i cv) := cell_of_row _ _ 8 _ _ _ HR1.out.c
      have HPP := Lib.hid (And.intro hp (And.intro hpn (And.intro hpo (And.intro hpb hps))))
      clear hg hb hr hp hpn hpo hpb hps KP hgw hdr
      refine hK.out _ _ S1 (fun _ => ?_)
      clear hK K
      obtain ⟨pb, pe, ps, ⟨xa, xn, xc⟩, pm⟩ := p
      refine GoX.one 4 rfl (by kernel_rfl) (by decide) (fun K hK => ?_)
      go_simp
      have S2 : (wp.alloc (.cells #[.int .i64 pb, .int .i64 pe, .int .i64 ps, .slice xa xn xc] PT4)).cell? ⟨q2, 8, none⟩ = some (.slice av i cv) := cell_belowM S1 (below_alloc _ _)
      refine hK.out _ _ S2 (fun _ => ?_)
      clear hK K
      have hO1 := HO.out.kept HGW.out (.inr (fun e => by have := ownBlock_ge HO.out.row b e; have := HQL.out; omega)) (fun j hj => .inr (fun e => by have := ownBlock_ge ((HO.out.dig j hj).2.1) b e; have := HQL.out; omega))
      have hO2 := hO1.below (below_alloc wp (.cells #[.int .i64 pb, .int .i64 pe, .int .i64 ps, .slice xa xn xc] PT4))
      have hsz : wl.heap.size ≤ (wp.alloc (.cells #[.int .i64 pb, .int .i64 pe, .int .i64 ps, .slice xa xn xc] PT4)).heap.size := by have := HZ.out; have := HGW.out.size; simp; omega
      refine GoX.one 5 rfl (by kernel_rfl) (by decide) (fun K hK => ?_)
      refine step_append_lies _ rfl (.tmp 42) (.tmp 45) 35 rfl wl.heap.size PT4 i0 (.agg #[.int .i64 0, .int .i64 0, .int .i64 0, .slice none 0 0]) 4 48 Try.underlying35 hin hz0 hz1 hz2 rfl (by decide) (.slice av i cv) i (pcells P' i) (by rfl) hO2.row ⟨wp.heap.size, 0, none⟩ 1 1 [.int .i64 pb, .int .i64 pe, .int .i64 ps, .slice xa xn xc] (by rfl) (by rfl) (news4 (heap_alloc_new wp _)) (by intro u hu; simp at hu; rcases hu with rfl | rfl | rfl | rfl <;> rfl) (by decide) (by simp [maxLen]; omega) (by omega) hsz _ rfl ?_
      intro g9 c9 w9 hE9 g9' lie9 _
      have gg : (wp.alloc (.cells #[.int .i64 pb, .int .i64 pe, .int .i64 ps, .slice xa xn xc] PT4)).grownBy w9 (Value.slice av i cv).ownBlock := ⟨g9'.os, g9'.tape, g9'.output, g9'.size, g9'.block⟩
      have hpo2 := ownsRow_base (own_belowM HPP.out.2.2.1 (below_alloc wp (.cells #[.int .i64 pb, .int .i64 pe, .int .i64 ps, .slice xa xn xc] PT4))) (show wl.heap.size ≤ wr.drew.heap.size from HZ.out)
      have hO9 := OwnP.append (p := ⟨pb, pe, ps, (xa, xn, xc), pm⟩) hO2 ⟨HPP.out.2.1, hpo2, HPP.out.2.2.2.1, HPP.out.2.2.2.2⟩ hE9 gg
      have hRA := HR1.out
      have hnb : ∀ k, (Value.slice av i cv).ownBlock = some k → wl.heap.size ≤ k := fun k hk => ownBlock_ge HO.out.row k hk
      have hql := HQL.out
      have hk9 : ∀ k, k < wl.heap.size → k < wp.heap.size → w9.heap[k]? = wp.heap[k]? := fun k hk hk2 => (gg.block k (by simp; omega) (fun e => by have := hnb k e.symm; omega)).trans (heap_alloc_old _ _ hk2)
      have hwp : wl.heap.size ≤ wp.heap.size := Nat.le_trans HZ.out HGW.out.size
      have hb9 : Below wl.heap.size wp w9 := below_grown_from gg hnb
      have hg9 : w.grownBy w9 (some b) := grown_belowB hRA.g hb9 (by have := hRA.lt; omega)
      have hR9 : RcS u w w9 b q2 (s.a9.pls (i + 1)) #[.int .i64 vk, .string key, .int .i64 vN, .int .i64 vC, .int .i64 vS, .int .i64 vT, .bool vD, .slice sa sn sc, .slice av i cv] := ⟨hg9, hRA.r.of_block (hk9 b (by have := hRA.lt; have := hRA.bq; omega) hRA.r.lt), hRA.ok, (hk9 _ (by have := hRA.lt; omega) (Array.getElem?_eq_some_iff.1 hRA.q).1).trans hRA.q, (hk9 q2 hql (Array.getElem?_eq_some_iff.1 hRA.c).1).trans hRA.c, hRA.lt, hRA.bq⟩
      have hW1 := HW.out.kept HGW.out (.inr (fun e => by have := HOB.out b e; omega))
      have hW9 := (own_belowM hW1 (below_alloc wp (.cells #[.int .i64 pb, .int .i64 pe, .int .i64 ps, .slice xa xn xc] PT4))).kept gg (own_ne (own_belowM hW1 (below_alloc wp _)) hO2.row (by decide))
      have hsame : ∀ j, j < i + 1 → SameP ((fun j => if j = i then (⟨pb, pe, ps, (xa, xn, xc), pm⟩ : PlR) else P' j) j) (s.P j) := fun j hj => by
        by_cases e : j = i
        · subst e
          simp only [if_pos]
          exact HPP.out.1
        · simp only [if_neg e]
          exact HP.out j (by omega)
      have HR9 := Lib.hid hR9
      have HO9 := Lib.hid hO9
      have HW9 := Lib.hid hW9
      have HP9 := Lib.hid hsame
      have HZ9 := Lib.hid (show wl.heap.size ≤ w9.heap.size from Nat.le_trans hsz gg.size)
      have S9 : w9.cell? ⟨q2, 8, none⟩ = some (.slice av i cv) := cell_of_row _ _ 8 _ _ _ hR9.c
      have f9 : w9.frozen? ⟨q2, 8, none⟩ = false := frozen_of_row _ _ _ _ _ hR9.c
      refine hK.out _ _ S9 (fun _ => ?_)
      clear hK K gg hO9 hE9 g9' lie9 hpo2 hRA hR9 hW9 hsame hO1 hO2 hsz hk9 hb9 hg9 hW1 hnb hwp S0 S1 S2
      simp only [Act.put, List.setIfInBounds_toArray, List.set_cons_zero, List.set_cons_succ]
      refine GoX.take 6 rfl (by kernel_rfl) (by kernel_rfl) (by rfl) (fun _ _ _ h => h) (v := ?tv6q2) S9 ?ty6q2 ?tr6q2
      case ty6q2 => (intro w hSw; (try dsimp only at hSw); go_simp; first | done | with_reducible rfl)
      simp only [Act.put, List.setIfInBounds_toArray, List.set_cons_zero, List.set_cons_succ]
      refine GoX.last 7 rfl (by kernel_rfl) (by kernel_rfl) (by decide) ?_
      go_wp2
      go_roundw
      case rel =>
        have hg := grownBy_setCellM w9 ⟨q2, 8, none⟩ (.slice (some ⟨g9, 0, none⟩) (i + 1) c9)
        have hql := HQL.out
        refine ⟨i + 1, some ⟨g9, 0, none⟩, c9, _, by omega, by go_num, Lib.hid ?_, Lib.hid ?_, Lib.hid ?_, HP9, Lib.hid ?_⟩
        · exact HR9.out.set (World.grownBy_refl _ _) HR9.out.r HR9.out.ok 8 _ rfl
        · exact HW9.out.kept hg (.inr (fun e => by have := HOB.out q2 e; omega))
        · exact HO9.out.kept hg (.inr (fun e => by have := ownBlock_ge HO9.out.row q2 e; omega)) (fun j hj => .inr (fun e => by have := ownBlock_ge ((HO9.out.dig j hj).2.1) q2 e; omega))
        · exact Nat.le_trans HZ9.out hg.size
      case measure => simp [intOf] <;> omega
    · obtain rfl : i = n := by omega
      have hq : w.heap.size = q := HQ.out.symm
      obtain ⟨d0, d1, d2, d3, d4, d5, d6, d7, d8⟩ := cells9M (by have := HR.out.q; rw [hq] at this; exact this)
      have hfq := cells9X (by have := HR.out.q; rw [hq] at this; exact this)
      have hqq : q < q2 := by have := HR.out.lt; omega
      clear hq
      go_wp2
      clear c0 c1 c2 c3 c4 c5 c6 c7 c8 d0 d1 d2 d3 d4 d5 d6 d7 d8 hfz hfq
      refine bodyPost_ret (results_cell_row rfl _ _ q RT9 #[.int .i64 vk, .string key, .int .i64 vN, .int .i64 vC, .int .i64 vS, .int .i64 vT, .bool vD, .slice sa sn sc, .slice av i cv] (0, 0) _ rfl ?hh Try.underlying37 rfl (by kernel_rfl)) (by rfl) ?_
      · exact set9X _ _ _ _ _ _ _ _ _ (by have := HR.out.q; rw [← HQ.out] at this; exact this)
      have hgr := grown9X wr q (.int .i64 vk) (.string key) (.int .i64 vN) (.int .i64 vC) (.int .i64 vS) (.int .i64 vT) (.bool vD) (.slice sa sn sc) (.slice av i cv)
      have hql := HQL.out
      refine ⟨grown_new HR.out.g hgr (Nat.le_of_eq HQ.out.symm), .inr ⟨?_, sa, sc, av, cv, P', ?_, ?_, ?_, ?_, ?_⟩⟩
      · have := HR.out.ok; rw [VN.out] at this; exact this
      · rw [← HSUM.out, ← HSN.out, show s.pn = i from VN.out.symm, show s.k = (vk : Int) by rw [VK.out]; rfl, show s.key = key by rw [HKEY.out]; rfl, show s.N = (vN : Int) by rw [VvN.out]; rfl, show s.c = (vC : Int) by rw [VvC.out]; rfl, show s.s = (vS : Int) by rw [VvS.out]; rfl, show s.t = (vT : Int) by rw [VvT.out]; rfl, ← VvD.out]
      · rw [← HSUM.out, ← HSN.out]
        exact ownsRow_base (HW.out.kept hgr (.inr (fun e => by have := HOB.out q e; omega))) HBS.out
      · rw [← HSUM.out, ← HSN.out]
        exact ⟨HBL.out.2, HBL.out.1⟩
      · rw [show s.pn = i from VN.out.symm]
        exact (HO.out.kept hgr (.inr (fun e => by have := ownBlock_ge HO.out.row q e; omega)) (fun j hj => .inr (fun e => by have := ownBlock_ge ((HO.out.dig j hj).2.1) q e; omega))).baseM HWL.out
      · rw [show s.pn = i from VN.out.symm]
        exact HP.out
end Go.Proofs.Ytikjcmijmhmilaa
