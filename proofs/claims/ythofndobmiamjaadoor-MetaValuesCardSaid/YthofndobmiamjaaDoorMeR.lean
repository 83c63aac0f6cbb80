/-
  meta: Encode, of any record.
-/
import Derived.Test.YthofndobmiamjaaDoorMeQ
import Derived.Laws.IdiomStrings
namespace Go.Proofs.YthofndobmiamjaaDoor
open Go.RowKit

def keyL (s : ByteArray) : List Nat := s.data.toList.map UInt8.toNat
theorem keyL_len (s : ByteArray) : (keyL s).length = s.size := by unfold keyL; simp
theorem WrH.below {w w' : World} {b base : Nat} {l : List Nat} {ad : Option Addr} {cap : Nat} (h : WrH w b base l ad cap) (hb : Below w.heap.size w w') : WrH w' b base l ad cap := by
  refine ⟨(hb.block b (Array.getElem?_eq_some_iff.1 h.hh).1).trans h.hh, ⟨h.own.1, ?_⟩, h.by_⟩
  rcases h.own.2 with e | ⟨g, cp, cur, e, hg, hh, rest⟩
  · exact .inl e
  · exact .inr ⟨g, cp, cur, e, hg, (hb.block g (Array.getElem?_eq_some_iff.1 hh).1).trans hh, rest⟩
theorem grownCap_leM (w : World) (n : Nat) (e : TypeId) : n ≤ grownCap w n 0 e := by
  exact grownCap_ge w n 0 e
theorem key_bytesV {w : World} {g kc : Nat} {key : ByteArray} {fr : Nat × Nat} (h : w.heap[g]? = some (.cells (bytesRow key kc) 5 fr)) (hc : key.size ≤ kc) (hs : key.size ≤ 1000) : BytesV w (some ⟨g, 0, none⟩, key.size, kc) (keyL key) := by
  refine ⟨⟨by rw [List.length_map, keyL_len], fun _ => ⟨g, 0, rfl, fun i hi => ?_⟩⟩, fun x hx => ?_, by simp only; omega, by simp only; omega, fun e => by cases e⟩
  · rw [cell_of_row _ _ _ _ _ _ h]
    simp only at hi
    have hi2 : i < key.data.size := hi
    unfold bytesRow keyL bv
    rw [Nat.zero_add, Array.getElem?_append_left (by simpa using hi2)]
    simp
    rfl
  · simp only [keyL, List.mem_map] at hx
    obtain ⟨y, -, rfl⟩ := hx
    exact y.toNat_lt
/-- a place's bytes. -/
def placeL (p : PlR) : List Nat := numL p.b.toNat 2 ++ numL p.e.toNat 3 ++ numL p.s.toNat 2 ++ (numL p.l.length 1 ++ p.l)
def placesL (P : Nat → PlR) : Nat → List Nat
  | 0 => []
  | m + 1 => placesL P m ++ placeL (P m)
def headL (k : Int) (key : ByteArray) (N c s t : Int) (d : Bool) (sum : List Nat) (pn : Nat) : List Nat :=
  [] ++ numL k.toNat 1 ++ numL key.size 1 ++ keyL key ++ numL N.toNat 4 ++ numL s.toNat 4 ++ numL c.toNat 1 ++ numL t.toNat 1 ++ numL (if d = true then 1 else 0) 1 ++ (numL sum.length 1 ++ sum) ++ numL pn 2
def encL (k : Int) (key : ByteArray) (N c s t : Int) (d : Bool) (sum : List Nat) (P : Nat → PlR) (pn : Nat) : List Nat := headL k key N c s t d sum pn ++ placesL P pn
/-- what a right record keeps. -/
structure Facts (k : Int) (key : ByteArray) (N c s t : Int) (sn : Nat) (P : Nat → PlR) (pn : Nat) : Prop where
  k1 : 1 ≤ k
  k4 : k ≤ 4
  ks : key.size ≤ 32
  N0 : 0 ≤ N
  N1 : N ≤ 2147483647
  c0 : 0 ≤ c
  c1 : c < 4
  s0 : 0 ≤ s
  s1 : s ≤ 1024
  t0 : 0 ≤ t
  t1 : t ≤ 64
  sn32 : sn ≤ 32
  pn512 : pn ≤ 512
  pl : ∀ i, i < pn → 0 ≤ (P i).b ∧ (P i).b < 1024 ∧ 0 ≤ (P i).e ∧ (P i).e < 16777216 ∧ 0 ≤ (P i).s ∧ (P i).s < 512 ∧ (P i).x.2.1 ≤ 32
theorem tagB_iff {N c : Int} : tagB N c = true ↔ 1 ≤ N ∧ N ≤ 2147483647 ∧ 0 ≤ c ∧ c < 4 := by unfold tagB; exact decide_eq_true_iff
theorem belowB_iff {n b : Int} : belowB n b = true ↔ 0 ≤ n ∧ n < b := by unfold belowB; exact decide_eq_true_iff
theorem metaB_facts {N c s t : Int} {d : Bool} {n : Nat} (h : metaB N c s t d n = true) : (0 ≤ N ∧ N ≤ 2147483647 ∧ 0 ≤ c ∧ c < 4) ∧ 0 ≤ s ∧ s ≤ 1024 ∧ 0 ≤ t ∧ t ≤ 64 ∧ n ≤ 32 := by
  unfold metaB at h
  rw [Bool.and_eq_true] at h
  have h2 := tagB_iff.1 h.2
  refine ⟨⟨by omega, h2.2.1, h2.2.2.1, h2.2.2.2⟩, ?_⟩
  have h1 := h.1
  split at h1
  · have := of_decide_eq_true (show decide _ = true from h1)
    omega
  · have := of_decide_eq_true (show decide _ = true from h1)
    omega
theorem aloneB_facts {N c s t : Int} {d : Bool} {n : Nat} (h : aloneB N c s t d n = true) : (0 ≤ N ∧ N ≤ 2147483647 ∧ 0 ≤ c ∧ c < 4) ∧ 0 ≤ s ∧ s ≤ 1024 ∧ 0 ≤ t ∧ t ≤ 64 ∧ n ≤ 32 := by
  unfold aloneB at h
  rw [Bool.and_eq_true] at h
  have h1 := tagB_iff.1 h.1
  have h2 := of_decide_eq_true h.2
  exact ⟨⟨by omega, h1.2.1, h1.2.2.1, h1.2.2.2⟩, by omega, by omega, by omega, by omega, by omega⟩
theorem right_facts {k : Int} {key : ByteArray} {N c s t : Int} {d : Bool} {sn : Nat} {P : Nat → PlR} {pn : Nat} (h : rightB k key N c s t d sn P pn = true) : Facts k key N c s t sn P pn := by
  unfold rightB at h
  simp only [Bool.and_eq_true, Bool.not_eq_true'] at h
  obtain ⟨h1, h2, h3, h4⟩ := h
  have h3 := of_decide_eq_true h3
  have hk := of_decide_eq_true (show decide _ = true from h2)
  have hall := someWrong_false.1 h4
  have hpl : ∀ i, i < pn → 0 ≤ (P i).b ∧ (P i).b < 1024 ∧ 0 ≤ (P i).e ∧ (P i).e < 16777216 ∧ 0 ≤ (P i).s ∧ (P i).s < 512 ∧ (P i).x.2.1 ≤ 32 := fun i hi => by
    have hw := hall i hi
    unfold wrongB at hw
    simp only [Bool.not_eq_false', Bool.and_eq_true] at hw
    obtain ⟨q1, q2, q3, q4⟩ := hw
    have q1 := belowB_iff.1 q1
    have q2 := belowB_iff.1 q2
    have q3 := belowB_iff.1 q3
    have q4 := of_decide_eq_true q4
    have hS : slotsOf k ≤ 512 := by unfold slotsOf; split <;> omega
    have hU : sumOf k ≤ 32 := by unfold sumOf; split <;> omega
    exact ⟨q1.1, q1.2, q2.1, q2.2, q3.1, by omega, by omega⟩
  have hf : (1 ≤ k ∧ k ≤ 4) ∧ (0 ≤ N ∧ N ≤ 2147483647 ∧ 0 ≤ c ∧ c < 4) ∧ 0 ≤ s ∧ s ≤ 1024 ∧ 0 ≤ t ∧ t ≤ 64 ∧ sn ≤ 32 := by
    unfold fitsB at h1
    split at h1
    · rw [Bool.and_eq_true] at h1
      exact ⟨by omega, metaB_facts h1.1⟩
    · split at h1
      · rw [Bool.and_eq_true] at h1
        exact ⟨by omega, metaB_facts h1.1⟩
      · split at h1
        · rw [Bool.and_eq_true] at h1
          exact ⟨by omega, aloneB_facts h1.1⟩
        · split at h1
          · rw [Bool.and_eq_true] at h1
            exact ⟨by omega, aloneB_facts h1.1⟩
          · cases h1
  obtain ⟨⟨a1, a2⟩, ⟨b1, b2, b3, b4⟩, e1, e2, e3, e4, e5⟩ := hf
  exact ⟨a1, a2, by omega, b1, b2, b3, b4, e1, e2, e3, e4, e5, by omega, hpl⟩
theorem cells4M {w : World} {b : Nat} {v0 v1 v2 v3 : Value} {T : TypeId} (h : w.heap[b]? = some (.cells #[v0, v1, v2, v3] T (0, 0))) : w.cell? ⟨b, 0, none⟩ = some v0 ∧ w.cell? ⟨b, 1, none⟩ = some v1 ∧ w.cell? ⟨b, 2, none⟩ = some v2 ∧ w.cell? ⟨b, 3, none⟩ = some v3 :=
  ⟨cell_of_row _ _ 0 _ _ _ h, cell_of_row _ _ 1 _ _ _ h, cell_of_row _ _ 2 _ _ _ h, cell_of_row _ _ 3 _ _ _ h⟩
theorem Below.mono0 {a b : Nat} {w w0 : World} (h : Below a w0 w) (hb : b ≤ a) : Below b w0 w := h.mono hb
set_option maxRecDepth 100000 in
set_option maxHeartbeats 16000000 in
theorem encode_yes (k : Int) (key : ByteArray) (N c s t : Int) (d : Bool) (sa : Option Addr) (sn sc : Nat) (sum : List Nat) (pa : Option Addr) (pn pc : Nat) (P : Nat → PlR) (w : World) (hS : BytesV w (sa, sn, sc) sum) (hP : PlacesV w pa pn pc P) (hR : rightB k key N c s t d sn P pn = true) :
    Calls Tryd.prog 35 #[.agg #[.int .i64 k, .string key, .int .i64 N, .int .i64 c, .int .i64 s, .int .i64 t, .bool d, .slice sa sn sc, .slice pa pn pc]] w fun e w' => ∃ ad cap, e = .returned (.tuple #[.slice ad (encL k key N c s t d sum P pn).length cap, .int .i64 0]) ∧ w'.ownsRow w.heap.size 5 1 (.slice ad (encL k key N c s t d sum P pn).length cap) (encL k key N c s t d sum P pn).length ((encL k key N c s t d sum P pn).map bv) ∧ Bytes (encL k key N c s t d sum P pn) ∧ Below w.heap.size w w' := by
  obtain ⟨k1, k4, ks, N0, N1, e0, e1, s0, s1, t0, t1, sn32, pn512, hpl⟩ := right_facts hR
  have KR := right_any k key N c s t d sa sn sc pa pn pc P
  simp only [hR] at KR
  have hsl := hS.length
  obtain ⟨E, hE⟩ : ∃ E, E = encL k key N c s t d sum P pn := ⟨_, rfl⟩
  rw [← hE]
  have HE := Lib.hid hE
  have HS := Lib.hid hS
  have HP := Lib.hid hP
  have HPL := Lib.hid hpl
  have HSL := Lib.hid hsl
  obtain ⟨w1', hw1⟩ : ∃ x, x = w.alloc (.cells #[.int .i64 k, .string key, .int .i64 N, .int .i64 c, .int .i64 s, .int .i64 t, .bool d, .slice sa sn sc, .slice pa pn pc] RT9) := ⟨_, rfl⟩
  have b1 : Below w.heap.size w w1' := by rw [hw1]; exact below_alloc w _
  have h1 : w1'.heap[w.heap.size]? = some (.cells #[.int .i64 k, .string key, .int .i64 N, .int .i64 c, .int .i64 s, .int .i64 t, .bool d, .slice sa sn sc, .slice pa pn pc] RT9 (0, 0)) := by rw [hw1]; exact heap_alloc_new w _
  have HW1 := Lib.hid hw1
  have KR1 := KR w1' (hP.below b1) (by omega)
  obtain ⟨c0, c1, c2, c3, c4, c5, c6, c7, c8⟩ := cells9M h1
  clear hE hS hP hpl hsl KR hR hw1
  go_enter Tryd.func35, Tryd.ntmps35
  go_upto_region 1 with fail
  rw [← HW1.out]
  go_wp2_with fail
  (with_reducible refine KR1.mono ?_)
  rintro e w2' ⟨rfl, b2⟩
  have hh2 := (b2.block _ (Array.getElem?_eq_some_iff.1 h1).1).trans h1
  have hb2 := b1.trans (b2.mono b1.size)
  obtain ⟨b, hb⟩ : ∃ b, b = w2'.heap.size := ⟨_, rfl⟩
  have hwb : w.heap.size < b := by rw [hb]; exact (Array.getElem?_eq_some_iff.1 hh2).1
  have HC := Lib.hid (show ∀ w3, Below b w2' w3 → _ from fun w3 b3 => cells9M ((b3.block w.heap.size hwb).trans hh2))
  have HB2 := Lib.hid hb2
  have HBB := Lib.hid hb
  clear c0 c1 c2 c3 c4 c5 c6 c7 c8 KR1 b2 h1 b1 hh2 hb2 hb
  obtain ⟨c0, c1, c2, c3, c4, c5, c6, c7, c8⟩ := HC.out w2' (Below.refl _ _)
  go_upto_region 4 with fail
  rw [← HBB.out]
  obtain ⟨w0, hw0⟩ : ∃ x, x = w2'.alloc (.cells #[.slice none 0 0] WT) := ⟨_, rfl⟩
  have hB0 : Below b w2' w0 := by rw [hw0, HBB.out]; exact below_alloc w2' _
  have hV0 : WrH w0 b (b + 1) [] none 0 := ⟨by rw [hw0, HBB.out]; exact heap_alloc_new w2' _, ⟨rfl, .inl ⟨rfl, rfl⟩⟩, fun x hx => (nomatch hx)⟩
  have hs0 : b + 1 ≤ w0.heap.size := by rw [hw0, HBB.out]; simp
  rw [← hw0]
  obtain ⟨L0, hL0⟩ : ∃ L : List Nat, L = [] := ⟨_, rfl⟩
  obtain ⟨ad0, had0⟩ : ∃ a : Option Addr, a = none := ⟨_, rfl⟩
  obtain ⟨cap0, hcap0⟩ : ∃ c : Nat, c = 0 := ⟨_, rfl⟩
  rw [← hL0, ← had0, ← hcap0] at hV0
  have hl0 : L0.length ≤ 0 := by rw [hL0]; simp
  have HV0 := Lib.hid hV0
  have HL0 := Lib.hid hL0
  clear hV0 hL0 had0 hcap0 hw0 c0 c1 c2 c3 c4 c5 c6 c7 c8
  obtain ⟨c0, c1, c2, c3, c4, c5, c6, c7, c8⟩ := HC.out w0 hB0
  have KN := numberB_is b (b + 1) k.toNat 1 L0 ad0 cap0 w0 HV0.out (by omega) hs0 (by omega) (by omega) (by omega) 1 rfl k (Int.toNat_of_nonneg (by omega))
  go_wp2_with fail
  (with_reducible refine KN.mono ?_)
  rintro e w1 ⟨rfl, ad1, cap1, hV, hK, -⟩
  obtain ⟨L1, hL1⟩ : ∃ L, L = L0 ++ numL k.toNat 1 := ⟨_, rfl⟩
  rw [← hL1] at hV
  have hl1 : L1.length ≤ 10 := by rw [hL1]; simp only [List.length_append, numTo_len, numL]; omega
  have hB1 := hB0.trans (hK.below (B := b) (Nat.le_refl b) (fun q hq => by have := (HV0.out.own.lt q hq).1; omega) (by have := hB0.size; omega))
  have hs1 : b + 1 ≤ w1.heap.size := Nat.le_trans hs0 hK.size
  have HV1 := Lib.hid hV
  have HL1 := Lib.hid hL1
  obtain ⟨c0, c1, c2, c3, c4, c5, c6, c7, c8⟩ := HC.out w1 hB1
  clear hV hK hL1 KN
  have hcv := run_bytes_of_string (P := Tryd.prog) w1 9 24 5 key Tryd.underlying9 Tryd.underlying24 Tryd.underlying5
  obtain ⟨kc, hkc⟩ : ∃ c, c = grownCap w1 key.size 0 5 := ⟨_, rfl⟩
  rw [← hkc] at hcv
  obtain ⟨wk, hwk⟩ : ∃ x, x = w1.drew.alloc (.cells (bytesRow key kc) 5 ((bytesRow key kc).size, (bytesRow key kc).size + 1)) := ⟨_, rfl⟩
  have hbk : Below w1.heap.size w1 wk := by rw [hwk]; exact ((Below.refl w1.heap.size w1).drew).alloc (Nat.le_refl _) _
  have hkc2 : key.size ≤ kc := by rw [hkc]; exact grownCap_leM w1 _ _
  have hhk : wk.heap[w1.heap.size]? = some (.cells (bytesRow key kc) 5 ((bytesRow key kc).size, (bytesRow key kc).size + 1)) := by rw [hwk]; exact heap_alloc_new w1.drew _
  have hbyk : BytesV wk (some ⟨w1.heap.size, 0, none⟩, key.size, kc) (keyL key) := key_bytesV hhk hkc2 (by omega)
  have hVk := HV1.out.below hbk
  have hsk : b + 1 ≤ wk.heap.size := Nat.le_trans hs1 hbk.size
  have KN := textB_any b (b + 1) L1 ad1 cap1 (some ⟨w1.heap.size, 0, none⟩) key.size kc (keyL key) wk hVk (by omega) hsk (by omega) hbyk (by omega) (fun _ a ha => by
    injection ha with ha
    subst ha
    refine ⟨by simp only; omega, fun e => ?_⟩
    have := (HV1.out.own.lt _ e.symm).2
    simp only at this
    omega)
  have hBk := hB1.trans (hbk.mono (by have := hB1.size; omega))
  have HVk := Lib.hid hVk
  rw [← hwk] at hcv
  clear hkc hhk hbyk hVk hbk hkc2 hwk
  go_wp2_with fail
  (with_reducible refine KN.mono ?_)
  rintro e w2 ⟨rfl, ad2, cap2, hV, hK⟩
  obtain ⟨L2, hL2⟩ : ∃ L, L = L1 ++ numL key.size 1 ++ keyL key := ⟨_, rfl⟩
  rw [← hL2] at hV
  have hl2 : L2.length ≤ 50 := by rw [hL2]; simp only [List.length_append, numTo_len, numL, keyL_len]; omega
  have hB2 := hBk.trans (hK.below (B := b) (Nat.le_refl b) (fun q hq => by have := (HVk.out.own.lt q hq).1; omega) (by have := hBk.size; omega))
  have hs2 : b + 1 ≤ w2.heap.size := Nat.le_trans hsk hK.size
  have HV2 := Lib.hid hV
  have HL2 := Lib.hid hL2
  obtain ⟨c0, c1, c2, c3, c4, c5, c6, c7, c8⟩ := HC.out w2 hB2
  clear hV hK hL2 KN hcv HVk hBk hsk
  have KN := numberB_is b (b + 1) N.toNat 4 L2 ad2 cap2 w2 HV2.out (by omega) hs2 (by omega) (by omega) (by omega) 4 rfl N (Int.toNat_of_nonneg (by omega))
  go_wp2_with fail
  (with_reducible refine KN.mono ?_)
  rintro e w3 ⟨rfl, ad3, cap3, hV, hK, -⟩
  obtain ⟨L3, hL3⟩ : ∃ L, L = L2 ++ numL N.toNat 4 := ⟨_, rfl⟩
  rw [← hL3] at hV
  have hl3 : L3.length ≤ 54 := by rw [hL3]; simp only [List.length_append, numTo_len, numL]; omega
  have hB3 := hB2.trans (hK.below (B := b) (Nat.le_refl b) (fun q hq => by have := (HV2.out.own.lt q hq).1; omega) (by have := hB2.size; omega))
  have hs3 : b + 1 ≤ w3.heap.size := Nat.le_trans hs2 hK.size
  have HV3 := Lib.hid hV
  have HL3 := Lib.hid hL3
  obtain ⟨c0, c1, c2, c3, c4, c5, c6, c7, c8⟩ := HC.out w3 hB3
  clear hV hK hL3 KN
  have KN := numberB_is b (b + 1) s.toNat 4 L3 ad3 cap3 w3 HV3.out (by omega) hs3 (by omega) (by omega) (by omega) 4 rfl s (Int.toNat_of_nonneg (by omega))
  go_wp2_with fail
  (with_reducible refine KN.mono ?_)
  rintro e w4 ⟨rfl, ad4, cap4, hV, hK, -⟩
  obtain ⟨L4, hL4⟩ : ∃ L, L = L3 ++ numL s.toNat 4 := ⟨_, rfl⟩
  rw [← hL4] at hV
  have hl4 : L4.length ≤ 58 := by rw [hL4]; simp only [List.length_append, numTo_len, numL]; omega
  have hB4 := hB3.trans (hK.below (B := b) (Nat.le_refl b) (fun q hq => by have := (HV3.out.own.lt q hq).1; omega) (by have := hB3.size; omega))
  have hs4 : b + 1 ≤ w4.heap.size := Nat.le_trans hs3 hK.size
  have HV4 := Lib.hid hV
  have HL4 := Lib.hid hL4
  obtain ⟨c0, c1, c2, c3, c4, c5, c6, c7, c8⟩ := HC.out w4 hB4
  clear hV hK hL4 KN
  have KN := numberB_is b (b + 1) c.toNat 1 L4 ad4 cap4 w4 HV4.out (by omega) hs4 (by omega) (by omega) (by omega) 1 rfl c (Int.toNat_of_nonneg (by omega))
  go_wp2_with fail
  (with_reducible refine KN.mono ?_)
  rintro e w5 ⟨rfl, ad5, cap5, hV, hK, -⟩
  obtain ⟨L5, hL5⟩ : ∃ L, L = L4 ++ numL c.toNat 1 := ⟨_, rfl⟩
  rw [← hL5] at hV
  have hl5 : L5.length ≤ 59 := by rw [hL5]; simp only [List.length_append, numTo_len, numL]; omega
  have hB5 := hB4.trans (hK.below (B := b) (Nat.le_refl b) (fun q hq => by have := (HV4.out.own.lt q hq).1; omega) (by have := hB4.size; omega))
  have hs5 : b + 1 ≤ w5.heap.size := Nat.le_trans hs4 hK.size
  have HV5 := Lib.hid hV
  have HL5 := Lib.hid hL5
  obtain ⟨c0, c1, c2, c3, c4, c5, c6, c7, c8⟩ := HC.out w5 hB5
  clear hV hK hL5 KN
  have KN := numberB_is b (b + 1) t.toNat 1 L5 ad5 cap5 w5 HV5.out (by omega) hs5 (by omega) (by omega) (by omega) 1 rfl t (Int.toNat_of_nonneg (by omega))
  go_wp2_with fail
  (with_reducible refine KN.mono ?_)
  rintro e w6 ⟨rfl, ad6, cap6, hV, hK, -⟩
  obtain ⟨L6, hL6⟩ : ∃ L, L = L5 ++ numL t.toNat 1 := ⟨_, rfl⟩
  rw [← hL6] at hV
  have hl6 : L6.length ≤ 60 := by rw [hL6]; simp only [List.length_append, numTo_len, numL]; omega
  have hB6 := hB5.trans (hK.below (B := b) (Nat.le_refl b) (fun q hq => by have := (HV5.out.own.lt q hq).1; omega) (by have := hB5.size; omega))
  have hs6 : b + 1 ≤ w6.heap.size := Nat.le_trans hs5 hK.size
  have HV6 := Lib.hid hV
  have HL6 := Lib.hid hL6
  obtain ⟨c0, c1, c2, c3, c4, c5, c6, c7, c8⟩ := HC.out w6 hB6
  clear hV hK hL6 KN
  obtain ⟨dn, hdn⟩ : ∃ n : Nat, n = if d = true then 1 else 0 := ⟨_, rfl⟩
  have hdn1 : dn ≤ 1 := by rw [hdn]; split <;> omega
  have HDN := Lib.hid hdn
  clear hdn
  go_upto_if 46 with fail
  go_cut [5] (fun v wx => v = .int .i64 (dn : Nat) ∧ w6 = wx)
  case first =>
    cases d
    · go_wp2_with fail
      go_meet
      exact ⟨by rw [HDN.out]; rfl, rfl⟩
    · go_wp2_with fail
      go_meet
      exact ⟨by rw [HDN.out]; rfl, rfl⟩
  case rest =>
  obtain ⟨rfl, hw⟩ := hcut
  subst hw
  have KN := numberB_is b (b + 1) dn 1 L6 ad6 cap6 w6 HV6.out (by omega) hs6 (by omega) (by omega) (by omega) 1 rfl (dn : Nat) (rfl)
  go_wp2_with fail
  (with_reducible refine KN.mono ?_)
  rintro e w7 ⟨rfl, ad7, cap7, hV, hK, -⟩
  obtain ⟨L7, hL7⟩ : ∃ L, L = L6 ++ numL dn 1 := ⟨_, rfl⟩
  rw [← hL7] at hV
  have hl7 : L7.length ≤ 61 := by rw [hL7]; simp only [List.length_append, numTo_len, numL]; omega
  have hB7 := hB6.trans (hK.below (B := b) (Nat.le_refl b) (fun q hq => by have := (HV6.out.own.lt q hq).1; omega) (by have := hB6.size; omega))
  have hs7 : b + 1 ≤ w7.heap.size := Nat.le_trans hs6 hK.size
  have HV7 := Lib.hid hV
  have HL7 := Lib.hid hL7
  obtain ⟨c0, c1, c2, c3, c4, c5, c6, c7, c8⟩ := HC.out w7 hB7
  clear hV hK hL7 KN
  have KN := textB_any b (b + 1) L7 ad7 cap7 sa sn sc sum w7 HV7.out (by omega) hs7 (by omega) (HS.out.below (HB2.out.trans (hB7.mono (Nat.le_of_lt hwb)))) (by omega) (fun h0 a ha => ⟨by have := HS.out.row.lt h0 ha; omega, fun e => by
    have h1 := (HV7.out.own.lt _ e.symm).1
    have := HS.out.row.lt h0 ha
    omega⟩)
  go_wp2_with fail
  (with_reducible refine KN.mono ?_)
  rintro e w8 ⟨rfl, ad8, cap8, hV, hK⟩
  obtain ⟨L8, hL8⟩ : ∃ L, L = L7 ++ (numL sn 1 ++ sum) := ⟨_, rfl⟩
  rw [List.append_assoc, ← hL8] at hV
  have hl8 : L8.length ≤ 100 := by rw [hL8]; simp only [List.length_append, numTo_len, numL]; have q : sum.length = sn := HS.out.length; omega
  have hB8 := hB7.trans (hK.below (B := b) (Nat.le_refl b) (fun q hq => by have := (HV7.out.own.lt q hq).1; omega) (by have := hB7.size; omega))
  have hs8 : b + 1 ≤ w8.heap.size := Nat.le_trans hs7 hK.size
  have HV8 := Lib.hid hV
  have HL8 := Lib.hid hL8
  obtain ⟨c0, c1, c2, c3, c4, c5, c6, c7, c8⟩ := HC.out w8 hB8
  clear hV hK hL8 KN
  have KN := numberB_is b (b + 1) pn 2 L8 ad8 cap8 w8 HV8.out (by omega) hs8 (by omega) (by omega) (by omega) 2 rfl (pn : Nat) (rfl)
  go_wp2_with fail
  (with_reducible refine KN.mono ?_)
  rintro e w9 ⟨rfl, ad9, cap9, hV, hK, -⟩
  obtain ⟨L9, hL9⟩ : ∃ L, L = L8 ++ numL pn 2 := ⟨_, rfl⟩
  rw [← hL9] at hV
  have hl9 : L9.length ≤ 102 := by rw [hL9]; simp only [List.length_append, numTo_len, numL]; omega
  have hB9 := hB8.trans (hK.below (B := b) (Nat.le_refl b) (fun q hq => by have := (HV8.out.own.lt q hq).1; omega) (by have := hB8.size; omega))
  have hs9 : b + 1 ≤ w9.heap.size := Nat.le_trans hs8 hK.size
  have HV9 := Lib.hid hV
  have HL9 := Lib.hid hL9
  obtain ⟨c0, c1, c2, c3, c4, c5, c6, c7, c8⟩ := HC.out w9 hB9
  clear hV hK hL9 KN
  have hL9 : L9 = headL k key N c s t d sum pn := by
    have q : sum.length = sn := HS.out.length
    unfold headL
    rw [q, HL9.out, HL8.out, HL7.out, HL6.out, HL5.out, HL4.out, HL3.out, HL2.out, HL1.out, HL0.out, HDN.out]
  have HE9 := Lib.hid (show E = L9 ++ placesL P pn by rw [HE.out, hL9]; rfl)
  have hcap9 := HP.out.cap
  clear hL9 HL0 HL1 HL2 HL3 HL4 HL5 HL6 HL7 HL8 HL9 HV0 HV1 HV2 HV3 HV4 HV5 HV6 HV7 HV8
  go_wp2_with fail
  go_loopw [63] (fun vi wr => ∃ (i : Nat) (M : List Nat) (ad : Option Addr) (cap : Nat), i ≤ pn ∧ vi = .int .i64 (i : Nat) ∧ M.length ≤ 102 + i * 40 ∧ Hid (M = L9 ++ placesL P i) ∧ Hid (WrH wr b (b + 1) M ad cap) ∧ Hid (Below b w2' wr)) (fun vi _ => (pn - intOf vi).toNat)
  case atStart => exact ⟨0, L9, ad9, cap9, Nat.zero_le _, rfl, by omega, Lib.hid (List.append_nil _).symm, HV9, Lib.hid hB9⟩
  case round =>
    clear HV9 hB9 c0 c1 c2 c3 c4 c5 c6 c7 c8
    obtain ⟨i, M0, ae, ce, hi, rfl, hML, HM, HVr, hBr⟩ := hrel
    obtain ⟨c0, c1, c2, c3, c4, c5, c6, c7, c8⟩ := HC.out wr hBr.out
    have hsr : b + 1 ≤ wr.heap.size := (Array.getElem?_eq_some_iff.1 HVr.out.hh).1
    by_cases hlt : i < pn
    · obtain ⟨hb0, hb1, he0, he1, hs0', hs1', hx32⟩ := HPL.out i hlt
      obtain ⟨g, off, rfl, hlg, hat0⟩ := HP.out.row (by omega)
      have hwr : Below w.heap.size w wr := HB2.out.trans (hBr.out.mono (Nat.le_of_lt hwb))
      have hat := (hat0 i hlt).below hlg hwr
      obtain ⟨pl, hpl⟩ : ∃ p, p = P i := ⟨_, rfl⟩
      rw [← hpl] at hat hb0 hb1 he0 he1 hs0' hs1' hx32
      have hatw := hat0 i hlt
      rw [← hpl] at hatw
      have HPI := Lib.hid hpl
      obtain ⟨pb, pe, ps, ⟨xa, xn, xc⟩, pm⟩ := pl
      obtain ⟨z0, z1, z2, z3, -⟩ := hat
      have hxb := hatw.by_
      simp only at z0 z1 z2 z3 hb0 hb1 he0 he1 hs0' hs1' hx32 hxb
      have HXB := Lib.hid hxb
      have hpi : (i : Int) < (pn : Int) := by omega
      clear hat0 hatw hpl hxb
      obtain ⟨q, hq⟩ : ∃ q, q = wr.heap.size := ⟨_, rfl⟩
      obtain ⟨v0, hv0⟩ : ∃ x, x = wr.alloc (.cells #[.int .i64 pb, .int .i64 pe, .int .i64 ps, .slice xa xn xc] PT4) := ⟨_, rfl⟩
      have hbq : Below wr.heap.size wr v0 := by rw [hv0]; exact below_alloc wr _
      have GQ0 := Lib.hid (show v0.heap[q]? = some (.cells #[.int .i64 pb, .int .i64 pe, .int .i64 ps, .slice xa xn xc] PT4 (0, 0)) by rw [hv0, hq]; exact heap_alloc_new wr _)
      have GV0 := Lib.hid (HVr.out.below hbq)
      have gB0 := hBr.out.trans (hbq.mono (by omega : b ≤ wr.heap.size))
      have gs0 : b + 1 ≤ v0.heap.size := Nat.le_trans hsr hbq.size
      have gq0 : q < v0.heap.size := (Array.getElem?_eq_some_iff.1 GQ0.out).1
      have GN0 : Hid (some q ≠ (Value.slice ae M0.length ce).ownBlock) := Lib.hid (fun e => by have := (HVr.out.own.lt q e.symm).2; omega)
      have hqb : b < q := by omega
      obtain ⟨q0, q1, q2, q3⟩ := cells4M GQ0.out
      obtain ⟨ae0, hae⟩ : ∃ a, a = ae := ⟨_, rfl⟩
      obtain ⟨ce0, hce⟩ : ∃ a, a = ce := ⟨_, rfl⟩
      rw [← hae, ← hce] at GV0 GN0
      have gl0 : M0.length ≤ 102 + i * 40 := hML
      have HV0 := Lib.hid hv0
      have HQ := Lib.hid hq
      have hi512 : i * 40 ≤ 20480 := by omega
      clear hae hce hbq HVr hv0 hq hML
      go_upto_region 19 with fail
      rw [← HV0.out, ← HQ.out]
      clear z0 z1 z2 z3 c0 c1 c2 c3 c4 c5 c6 c7 c8
      have KN := numberB_is b (b + 1) pb.toNat 2 M0 ae0 ce0 v0 GV0.out (by omega) gs0 (by omega) (by omega) (by omega) 2 rfl pb (Int.toNat_of_nonneg (by omega))
      go_wp2_with fail
      (with_reducible refine KN.mono ?_)
      rintro e v1 ⟨rfl, ae1, ce1, hV, hK, hO⟩
      obtain ⟨M1, hM1⟩ : ∃ L, L = M0 ++ numL pb.toNat 2 := ⟨_, rfl⟩
      rw [← hM1] at hV
      have gl1 : M1.length ≤ 102 + i * 40 + 2 := by rw [hM1]; simp only [List.length_append, numTo_len, numL]; omega
      have gB1 := gB0.trans (hK.below (B := b) (Nat.le_refl b) (fun q hq => by have := (GV0.out.own.lt q hq).1; omega) (by have := gB0.size; omega))
      have gs1 : b + 1 ≤ v1.heap.size := Nat.le_trans gs0 hK.size
      have gq1 : q < v1.heap.size := Nat.lt_of_lt_of_le gq0 hK.size
      have GQ1 := Lib.hid ((hK.block q gq0 (by omega) GN0.out).trans GQ0.out)
      have GN1 : Hid (some q ≠ (Value.slice ae1 M1.length ce1).ownBlock) := Lib.hid (fun e => by
        rw [ownBlock_len ae1 M1.length ce1 M0.length ce1] at e
        rcases hO with h | h
        · exact GN0.out (e.trans h)
        · have := h q e.symm; omega)
      have GV1 := Lib.hid hV
      have HM1 := Lib.hid hM1
      obtain ⟨q0, q1, q2, q3⟩ := cells4M GQ1.out
      clear hV hK hO hM1 KN
      have KN := numberB_is b (b + 1) pe.toNat 3 M1 ae1 ce1 v1 GV1.out (by omega) gs1 (by omega) (by omega) (by omega) 3 rfl pe (Int.toNat_of_nonneg (by omega))
      go_wp2_with fail
      (with_reducible refine KN.mono ?_)
      rintro e v2 ⟨rfl, ae2, ce2, hV, hK, hO⟩
      obtain ⟨M2, hM2⟩ : ∃ L, L = M1 ++ numL pe.toNat 3 := ⟨_, rfl⟩
      rw [← hM2] at hV
      have gl2 : M2.length ≤ 102 + i * 40 + 5 := by rw [hM2]; simp only [List.length_append, numTo_len, numL]; omega
      have gB2 := gB1.trans (hK.below (B := b) (Nat.le_refl b) (fun q hq => by have := (GV1.out.own.lt q hq).1; omega) (by have := gB1.size; omega))
      have gs2 : b + 1 ≤ v2.heap.size := Nat.le_trans gs1 hK.size
      have gq2 : q < v2.heap.size := Nat.lt_of_lt_of_le gq1 hK.size
      have GQ2 := Lib.hid ((hK.block q gq1 (by omega) GN1.out).trans GQ1.out)
      have GN2 : Hid (some q ≠ (Value.slice ae2 M2.length ce2).ownBlock) := Lib.hid (fun e => by
        rw [ownBlock_len ae2 M2.length ce2 M1.length ce2] at e
        rcases hO with h | h
        · exact GN1.out (e.trans h)
        · have := h q e.symm; omega)
      have GV2 := Lib.hid hV
      have HM2 := Lib.hid hM2
      obtain ⟨q0, q1, q2, q3⟩ := cells4M GQ2.out
      clear hV hK hO hM2 KN
      have KN := numberB_is b (b + 1) ps.toNat 2 M2 ae2 ce2 v2 GV2.out (by omega) gs2 (by omega) (by omega) (by omega) 2 rfl ps (Int.toNat_of_nonneg (by omega))
      go_wp2_with fail
      (with_reducible refine KN.mono ?_)
      rintro e v3 ⟨rfl, ae3, ce3, hV, hK, hO⟩
      obtain ⟨M3, hM3⟩ : ∃ L, L = M2 ++ numL ps.toNat 2 := ⟨_, rfl⟩
      rw [← hM3] at hV
      have gl3 : M3.length ≤ 102 + i * 40 + 7 := by rw [hM3]; simp only [List.length_append, numTo_len, numL]; omega
      have gB3 := gB2.trans (hK.below (B := b) (Nat.le_refl b) (fun q hq => by have := (GV2.out.own.lt q hq).1; omega) (by have := gB2.size; omega))
      have gs3 : b + 1 ≤ v3.heap.size := Nat.le_trans gs2 hK.size
      have gq3 : q < v3.heap.size := Nat.lt_of_lt_of_le gq2 hK.size
      have GQ3 := Lib.hid ((hK.block q gq2 (by omega) GN2.out).trans GQ2.out)
      have GN3 : Hid (some q ≠ (Value.slice ae3 M3.length ce3).ownBlock) := Lib.hid (fun e => by
        rw [ownBlock_len ae3 M3.length ce3 M2.length ce3] at e
        rcases hO with h | h
        · exact GN2.out (e.trans h)
        · have := h q e.symm; omega)
      have GV3 := Lib.hid hV
      have HM3 := Lib.hid hM3
      obtain ⟨q0, q1, q2, q3⟩ := cells4M GQ3.out
      clear hV hK hO hM3 KN
      have KN := textB_any b (b + 1) M3 ae3 ce3 xa xn xc pm v3 GV3.out (by omega) gs3 (by omega) (HXB.out.below (HB2.out.trans (gB3.mono (Nat.le_of_lt hwb)))) (by omega) (fun h0 a ha => ⟨by have := HXB.out.row.lt h0 ha; omega, fun e => by
        have h1 := (GV3.out.own.lt _ e.symm).1
        have := HXB.out.row.lt h0 ha
        omega⟩)
      go_wp2_with fail
      (with_reducible refine KN.mono ?_)
      rintro e v4 ⟨rfl, ae4, ce4, hV, hK⟩
      have gB4 := gB3.trans (hK.below (B := b) (Nat.le_refl b) (fun q hq => by have := (GV3.out.own.lt q hq).1; omega) (by have := gB3.size; omega))
      have hxl : pm.length = xn := HXB.out.length
      have HEND := Lib.hid (show M3 ++ numL xn 1 ++ pm = L9 ++ placesL P (i + 1) by
        rw [HM3.out, HM2.out, HM1.out, HM.out]
        show _ = L9 ++ (placesL P i ++ placeL (P i))
        rw [← HPI.out]
        unfold placeL
        simp only [hxl, List.append_assoc])
      have hML4 : (M3 ++ numL xn 1 ++ pm).length ≤ 102 + (i + 1) * 40 := by simp only [List.length_append, numL, numTo_len]; omega
      have HV4 := Lib.hid hV
      have HB4 := Lib.hid gB4
      clear KN hV hK gB4 q0 q1 q2 q3 hxl
      go_wp2
      go_roundw
      case rel => exact ⟨i + 1, _, ae4, ce4, by omega, by go_num, hML4, HEND, HV4, HB4⟩
      case measure => simp [intOf]; omega
    · obtain rfl : i = pn := by omega
      have e0 : wr.cell? ⟨b, 0, none⟩ = some (.slice ae M0.length ce) := cell_of_row _ _ 0 _ _ _ HVr.out.hh
      go_wp2
      go_ret2
      have hME : M0 = E := HM.out.trans HE9.out.symm
      rw [← hME]
      exact ⟨ae, ce, rfl, ownsRow_base HVr.out.own (by omega), HVr.out.by_, HB2.out.trans (hBr.out.mono (Nat.le_of_lt hwb))⟩
end Go.Proofs.YthofndobmiamjaaDoor
