/-
  gf: Add, Scale; the reference's Add, Scale, Mix.
-/
import Derived.Test.YtgnnfpnkhemimaaGfB
import Derived.Test.YtgnnfpnkhemimaaUse
import Derived.Test.YtgnnfpnkhemimaaGfR
import Derived.Test.YtgnnfpnkhemimaaUse2
namespace Go.Proofs.Ytgnnfpnkhemimaa
open Go.RowKit

def addB (a b : List Nat) : List Nat := (List.range (max a.length b.length)).map fun i => a.getD i 0 ^^^ b.getD i 0
def scaleB (k : Nat) (a : List Nat) : List Nat := a.map (mul k)
theorem addB_length (a b : List Nat) : (addB a b).length = max a.length b.length := by simp [addB]
theorem addB_getD (a b : List Nat) (i : Nat) : (addB a b).getD i 0 = a.getD i 0 ^^^ b.getD i 0 := by
  by_cases h : i < max a.length b.length
  · simp [addB, List.getD_eq_getElem?_getD, h]
  · rw [List.getD_eq_getElem?_getD, List.getElem?_eq_none (by rw [addB_length]; omega), List.getD_eq_getElem?_getD, List.getElem?_eq_none (by omega), List.getD_eq_getElem?_getD, List.getElem?_eq_none (by omega)]
    rfl
theorem scaleB_length (k : Nat) (a : List Nat) : (scaleB k a).length = a.length := by simp [scaleB]
theorem scaleB_getD (k : Nat) (a : List Nat) (i : Nat) : (scaleB k a).getD i 0 = mul k (a.getD i 0) := by
  by_cases h : i < a.length
  · simp [scaleB, List.getD_eq_getElem?_getD, h]
  · rw [List.getD_eq_getElem?_getD, List.getElem?_eq_none (by rw [scaleB_length]; omega), List.getD_eq_getElem?_getD, List.getElem?_eq_none (by omega)]
    simp [mul_zero]
theorem addB_bytes {a b : List Nat} (ha : Bytes a) (hb : Bytes b) : Bytes (addB a b) :=
  Bytes.of_getD fun i _ => by rw [addB_getD]; exact xor_lt (ha.getD i) (hb.getD i)
theorem scaleB_bytes {k : Nat} {a : List Nat} (hk : k < 256) : Bytes (scaleB k a) :=
  Bytes.of_getD fun i _ => by rw [scaleB_getD]; exact mul_lt hk
/-- the value of a mix at a place. -/
def mixAt (ks : List Nat) (ls : List (List Nat)) (j : Nat) : Nat → Nat
  | 0 => 0
  | k + 1 => mixAt ks ls j k ^^^ mul (ks.getD k 0) ((ls.getD k []).getD j 0)
theorem mixTo_getD (ks : List Nat) (ls : List (List Nat)) (L j : Nat) (hj : j < L) : ∀ k, (mixTo ks ls L k).getD j 0 = mixAt ks ls j k
  | 0 => by simp [mixTo, mixAt, List.getD_eq_getElem?_getD, hj]
  | k + 1 => by
    simp only [mixTo, mixAt]
    rw [addTo_getD _ _ _ _ (by rw [mixTo_length]; exact hj), mixTo_getD ks ls L j hj k]
theorem mix_add {a b : List Nat} (ha : Bytes a) (hb : Bytes b) : mixTo [1, 1] [a, b] (longest [a, b] 2) 2 = addB a b := by
  have hL : longest [a, b] 2 = max a.length b.length := by simp [longest]
  apply ext_getD
  · rw [mixTo_length, addB_length, hL]
  · intro i hi
    rw [mixTo_length] at hi
    rw [mixTo_getD _ _ _ _ hi, addB_getD]
    have h1 := one_mul (ha.getD i)
    have h2 := one_mul (hb.getD i)
    simp only [mixAt, List.getD_cons_zero, List.getD_cons_succ, h1, h2, Nat.zero_xor]
theorem mix_scale {k : Nat} {a : List Nat} : mixTo [k] [a] (longest [a] 1) 1 = scaleB k a := by
  have hL : longest [a] 1 = a.length := by simp [longest]
  apply ext_getD
  · rw [mixTo_length, scaleB_length, hL]
  · intro i hi
    rw [mixTo_length] at hi
    rw [mixTo_getD _ _ _ _ hi, scaleB_getD]
    simp only [mixAt, List.getD_cons_zero, Nat.zero_xor]

set_option maxRecDepth 10000 in
set_option maxHeartbeats 400000 in
theorem add_any (a1 : Option Addr) (n1 c1 : Nat) (l1 : List Nat) (a2 : Option Addr) (n2 c2 : Nat) (l2 : List Nat) (w : World) (h1 : BytesV w (a1, n1, c1) l1) (h2 : BytesV w (a2, n2, c2) l2) :
    Calls Try.prog 24 #[.slice a1 n1 c1, .slice a2 n2 c2] w (GivesBytes 5 w (addB l1 l2)) := by
  have r1 : BytesV ((w.alloc (.cells #[.int .u8 1, .int .u8 1] 5)).alloc (.cells #[.slice a1 n1 c1, .slice a2 n2 c2] 34)) (a1, n1, c1) l1 := h1.alloc.alloc
  have r2 : BytesV ((w.alloc (.cells #[.int .u8 1, .int .u8 1] 5)).alloc (.cells #[.slice a1 n1 c1, .slice a2 n2 c2] 34)) (a2, n2, c2) l2 := h2.alloc.alloc
  have HM := Lib.hid (mix_add h1.bytes h2.bytes)
  clear h1 h2
  go_enter Try.func24, Try.ntmps24
  go_wp2_with fail
  refine (mix_any (some ⟨w.heap.size, 0, none⟩) 2 2 [1, 1] (some ⟨w.heap.size + 1, 0, none⟩) 2 2 [(a1, n1, c1), (a2, n2, c2)] [l1, l2] _
    (by exact RowV.alloc (rowV_lit w _ _ _ _ _ rfl rfl rfl)) (by exact bytes_of (by decide)) (by omega) (by exact rowV_lit _ _ _ _ _ _ (by simp) rfl rfl) (by omega)
    (by exact rowsV_cons r1 (rowsV_cons r2 (rowsV_nil _)))).mono ?_
  rintro e w2 ⟨rfl, hown, hb⟩
  rw [HM.out] at hown
  have hlen : longest [l1, l2] 2 = (addB l1 l2).length := by rw [addB_length]; simp [longest]
  rw [hlen] at hown ⊢
  clear hlen
  go_wp2
  go_ret
  simp only [World.size_alloc] at hown
  refine ⟨_, _, rfl, ownsRow_base hown (by omega), ?_⟩
  exact (((below_alloc w _).alloc (by simp) _).trans (hb.mono (by simp; omega)))

set_option maxRecDepth 10000 in
set_option maxHeartbeats 400000 in
theorem scale_any (k : Nat) (a1 : Option Addr) (n1 c1 : Nat) (l1 : List Nat) (w : World) (hk : k < 256) (h1 : BytesV w (a1, n1, c1) l1) :
    Calls Try.prog 22 #[.int .u8 (k : Int), .slice a1 n1 c1] w (GivesBytes 5 w (scaleB k l1)) := by
  have r1 : BytesV ((w.alloc (.cells #[.int .u8 (k : Int)] 5)).alloc (.cells #[.slice a1 n1 c1] 34)) (a1, n1, c1) l1 := h1.alloc.alloc
  have HM := Lib.hid (mix_scale (k := k) (a := l1))
  clear h1
  go_enter Try.func22, Try.ntmps22
  go_wp2_with fail
  refine (mix_any (some ⟨w.heap.size, 0, none⟩) 1 1 [k] (some ⟨w.heap.size + 1, 0, none⟩) 1 1 [(a1, n1, c1)] [l1] _
    (by exact RowV.alloc (rowV_lit w _ _ _ _ _ rfl rfl rfl)) (by intro x hx; simp at hx; omega) (by omega) (by exact rowV_lit _ _ _ _ _ _ (by simp) rfl rfl) (by omega)
    (by exact rowsV_cons r1 (rowsV_nil _))).mono ?_
  rintro e w2 ⟨rfl, hown, hb⟩
  rw [HM.out] at hown
  have hlen : longest [l1] 1 = (scaleB k l1).length := by rw [scaleB_length]; simp [longest]
  rw [hlen] at hown ⊢
  clear hlen
  go_wp2
  go_ret
  simp only [World.size_alloc] at hown
  refine ⟨_, _, rfl, ownsRow_base hown (by omega), ?_⟩
  exact (((below_alloc w _).alloc (by simp) _).trans (hb.mono (by simp; omega)))

theorem addB_take (a b : List Nat) (k : Nat) (h : k < max a.length b.length) : (addB a b).take (k + 1) = (addB a b).take k ++ [a.getD k 0 ^^^ b.getD k 0] := by
  rw [List.take_succ_eq_append_getElem (by rw [addB_length]; exact h)]
  congr 2
  have := addB_getD a b k
  rw [List.getD_eq_getElem?_getD, List.getElem?_eq_getElem (by rw [addB_length]; exact h)] at this
  simpa using this

/-- the cell of a slice at a place where there is one. -/
theorem BytesV.cellAt {w : World} {ad : Option Addr} {n c : Nat} {l : List Nat} (h : BytesV w (ad, n, c) l) (k : Nat) (hk : k < n) :
    ∃ b off, ad = some ⟨b, off, none⟩ ∧ w.cell? ⟨b, off + k, none⟩ = some (.int .u8 (l.getD k 0 : Nat)) := by
  obtain ⟨b, off, e, hc⟩ := h.row.2 (by show 0 < n; omega)
  exact ⟨b, off, e, (hc k hk).trans (bv_getD (by rw [h.length]; exact hk))⟩
theorem BytesV.low {w : World} {ad : Option Addr} {n c : Nat} {l : List Nat} (h : BytesV w (ad, n, c) l) (k : Nat) (hk : ¬ k < n) : l.getD k 0 = 0 := by
  have hl : l.length = n := h.length
  rw [List.getD_eq_getElem?_getD, List.getElem?_eq_none (by omega)]; rfl

set_option maxRecDepth 10000 in
set_option maxHeartbeats 1000000 in
theorem refAdd_any (a1 : Option Addr) (n1 c1 : Nat) (l1 : List Nat) (a2 : Option Addr) (n2 c2 : Nat) (l2 : List Nat) (w : World) (h1 : BytesV w (a1, n1, c1) l1) (h2 : BytesV w (a2, n2, c2) l2) :
    Calls Try.prog 46 #[.slice a1 n1 c1, .slice a2 n2 c2] w (GivesBytes 5 w (addB l1 l2)) := by
  obtain ⟨i0, hi, hz0, hz1, hz2⟩ := info_parts Try.info5
  have hl1 : l1.length = n1 := h1.length
  have hl2 : l2.length = n2 := h2.length
  have hs1 : n1 ≤ 140737488355328 := h1.small
  have hs2 : n2 ≤ 140737488355328 := h2.small
  have HL1 := Lib.hid hl1
  have HL2 := Lib.hid hl2
  clear hl1 hl2
  have hown0 := World.ownsRow_made (base := w.heap.size) (e := 5) (size := 1) w #[] 0 (Nat.le_refl _) (by simp [maxLen]) rfl
  go_enter Try.func46, Try.ntmps46
  go_wp2
  go_loopw [5, 6] (fun v i wr => ∃ k : Nat, k ≤ max n1 n2 ∧ i = .int .i64 k ∧ wr.ownsRow w.heap.size 5 1 v k (((addB l1 l2).take k).map bv) ∧ Below w.heap.size w wr) (fun _ i _ => (max n1 n2 - intOf i).toNat)
  case atStart => exact ⟨0, Nat.zero_le _, rfl, by simpa using hown0, below_alloc _ _⟩
  case round =>
    obtain ⟨k, hk, rfl, hown, hb⟩ := hrel
    obtain ⟨ad, cap, rfl, hcase, _⟩ := ownsRow_parts hown
    have hbs := hb.size
    have hx1 := h1.bytes.getD k
    have hx2 := h2.bytes.getD k
    have hT := Lib.hid (addB_take l1 l2 k)
    obtain ⟨x, hx⟩ : ∃ x, x = l1.getD k 0 := ⟨_, rfl⟩
    obtain ⟨y, hy⟩ : ∃ y, y = l2.getD k 0 := ⟨_, rfl⟩
    rw [← hx] at hx1
    rw [← hy] at hx2
    have e1 : bits .xor .u8 0 (x : Int) = (x : Int) := by have := u8_xor_nat 0 x (by omega) hx1; simpa using this
    have e2 : bits .xor .u8 (x : Int) (y : Int) = ((x ^^^ y : Nat) : Int) := u8_xor_nat x y hx1 hx2
    have e3 : bits .xor .u8 0 (y : Int) = (y : Int) := by have := u8_xor_nat 0 y (by omega) hx2; simpa using this
    have HX := Lib.hid hx
    have HY := Lib.hid hy
    clear hx hy
    by_cases hlt : k < max n1 n2
    · by_cases k1 : k < n1
      · obtain ⟨b1, o1, rfl, d1⟩ := (h1.below hb).cellAt k k1
        rw [← HX.out] at d1
        by_cases k2 : k < n2
        · obtain ⟨b2, o2, rfl, d2⟩ := (h2.below hb).cellAt k k2
          rw [← HY.out] at d2
          go_wp2_with (first | (at_builtin; refine wpList_append_row rfl (.tmp 41) (.tmp 43) 34 rfl w.heap.size 5 i0 (.int .u8 0) 1 Try.underlying34 hi hz0 hz1 hz2 rfl _ _ _ rfl (hown.alloc _) (some ⟨wr.heap.size, 0, Option.none⟩) 1 1 [bv (x ^^^ y)] rfl (rowV_lit _ _ _ _ _ _ rfl rfl rfl) (by intro h; cases h) (bv_one [(x ^^^ y)]) (by simp [maxLen]; omega) (by omega) (by simp; omega) ?_; intro v' w1 hown1 hgrow1 _))
          have hb1 := grow_step hb _ hown hgrow1
          clear hgrow1
          go_wp2
          go_roundw
          case rel =>
            refine ⟨k + 1, by omega, by go_num, ?_, hb1⟩
            rw [hT.out (by rw [HL1.out, HL2.out]; omega), List.map_append, ← HX.out, ← HY.out]
            exact hown1
          case measure => simp [intOf]; omega
        · have hy0 := h2.low k k2
          rw [← HY.out] at hy0
          have HY0 := Lib.hid hy0
          clear hy0
          go_wp2_with (first | (at_builtin; refine wpList_append_row rfl (.tmp 41) (.tmp 43) 34 rfl w.heap.size 5 i0 (.int .u8 0) 1 Try.underlying34 hi hz0 hz1 hz2 rfl _ _ _ rfl (hown.alloc _) (some ⟨wr.heap.size, 0, Option.none⟩) 1 1 [bv x] rfl (rowV_lit _ _ _ _ _ _ rfl rfl rfl) (by intro h; cases h) (bv_one [x]) (by simp [maxLen]; omega) (by omega) (by simp; omega) ?_; intro v' w1 hown1 hgrow1 _))
          have hb1 := grow_step hb _ hown hgrow1
          clear hgrow1
          go_wp2
          go_roundw
          case rel =>
            refine ⟨k + 1, by omega, by go_num, ?_, hb1⟩
            rw [hT.out (by rw [HL1.out, HL2.out]; omega), List.map_append, ← HX.out, ← HY.out]
            rw [HY0.out, Nat.xor_zero]
            exact hown1
          case measure => simp [intOf]; omega
      · have hx0 := h1.low k k1
        rw [← HX.out] at hx0
        have HX0 := Lib.hid hx0
        clear hx0
        have k2 : k < n2 := by omega
        obtain ⟨b2, o2, rfl, d2⟩ := (h2.below hb).cellAt k k2
        rw [← HY.out] at d2
        · go_wp2_with (first | (at_builtin; refine wpList_append_row rfl (.tmp 41) (.tmp 43) 34 rfl w.heap.size 5 i0 (.int .u8 0) 1 Try.underlying34 hi hz0 hz1 hz2 rfl _ _ _ rfl (hown.alloc _) (some ⟨wr.heap.size, 0, Option.none⟩) 1 1 [bv y] rfl (rowV_lit _ _ _ _ _ _ rfl rfl rfl) (by intro h; cases h) (bv_one [y]) (by simp [maxLen]; omega) (by omega) (by simp; omega) ?_; intro v' w1 hown1 hgrow1 _))
          have hb1 := grow_step hb _ hown hgrow1
          clear hgrow1
          go_wp2
          go_roundw
          case rel =>
            refine ⟨k + 1, by omega, by go_num, ?_, hb1⟩
            rw [hT.out (by rw [HL1.out, HL2.out]; omega), List.map_append, ← HX.out, ← HY.out]
            rw [HX0.out, Nat.zero_xor]
            exact hown1
          case measure => simp [intOf]; omega
    · have hkm : k = max n1 n2 := by omega
      have HK := Lib.hid hkm
      clear hkm
      go_wp2
      go_ret
      have hl : (addB l1 l2).length = k := by rw [addB_length, HL1.out, HL2.out]; exact HK.out.symm
      rw [List.take_of_length_le (by omega)] at hown
      subst hl
      exact ⟨_, _, rfl, hown, hb⟩

end Go.Proofs.Ytgnnfpnkhemimaa
