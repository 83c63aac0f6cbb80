/-
  rilllaw02: alive, great.
-/
import Derived.Test.YtgnnfpnkhemimaaLiX
import Derived.Test.YtgnnfpnkhemimaaLaw
import Derived.IntWalk
namespace Go.Proofs.Ytgnnfpnkhemimaa
open Go.RowKit

theorem solve2_any (ar ax : Option Addr) (hr hx : List HdT) (w : World) (h1 : RowV w ar 2 (hr.map SV)) (h2 : RowsV w hr [[1, 1], [0, 2]]) (h3 : RowV w ax 2 (hx.map SV)) (h4 : RowsV w hx [[3], [4]]) :
    Calls Try.prog 18 #[.int .i64 2, .slice ar 2 2, .slice ax 2 2] w (GivesE w [[1], [2]] 0) := by
  have e1 : solveOut 2 [[1, 1], [0, 2]] [[3], [4]] = ([[1], [2]], 0) := by decide +kernel
  have := solve_any 2 ar 2 2 hr [[1, 1], [0, 2]] ax 2 2 hx [[3], [4]] w h1 h2 h3 h4 (by decide) (by decide)
  rw [e1] at this
  exact this
theorem rank2_any (ar : Option Addr) (hr : List HdT) (w : World) (h1 : RowV w ar 2 (hr.map SV)) (h2 : RowsV w hr [[1, 1], [2, 2]]) :
    Calls Try.prog 15 #[.int .i64 2, .slice ar 2 2] w fun x w' => x = .returned (.tuple #[.int .i64 1, .int .i64 0]) ∧ Below w.heap.size w w' := by
  have e1 : rankOf 2 [[1, 1], [2, 2]] = 1 := by decide +kernel
  have := rank_any 2 ar 2 2 hr [[1, 1], [2, 2]] w h1 h2 (by decide)
  rw [e1] at this
  exact this
theorem two_lit (w : World) (l1 l2 : List Nat) (n1 n2 : Nat) (h1 : l1.length = n1) (h2 : l2.length = n2) (b1 : Bytes l1) (b2 : Bytes l2) (s1 : n1 ≤ 1000) (s2 : n2 ≤ 1000) (c1 c2 : Array Value) (e1 : c1.toList = l1.map bv) (e2 : c2.toList = l2.map bv) :
    RowV (((w.alloc (.cells c1 5)).alloc (.cells c2 5)).alloc (.cells #[.slice (some ⟨w.heap.size, 0, none⟩) n1 n1, .slice (some ⟨w.heap.size + 1, 0, none⟩) n2 n2] 34)) (some ⟨w.heap.size + 1 + 1, 0, none⟩) 2 ([((some ⟨w.heap.size, 0, none⟩ : Option Addr), n1, n1), ((some ⟨w.heap.size + 1, 0, none⟩ : Option Addr), n2, n2)].map SV) ∧
    RowsV (((w.alloc (.cells c1 5)).alloc (.cells c2 5)).alloc (.cells #[.slice (some ⟨w.heap.size, 0, none⟩) n1 n1, .slice (some ⟨w.heap.size + 1, 0, none⟩) n2 n2] 34)) [((some ⟨w.heap.size, 0, none⟩ : Option Addr), n1, n1), ((some ⟨w.heap.size + 1, 0, none⟩ : Option Addr), n2, n2)] [l1, l2] := by
  refine ⟨rowV_lit _ _ _ _ _ _ (by simp) rfl rfl, rowsV_cons ?_ (rowsV_cons ?_ (rowsV_nil _))⟩
  · exact BytesV.alloc (BytesV.alloc (bytesV_lit w c1 _ _ _ _ rfl e1 h1 b1 (by omega)))
  · exact BytesV.alloc (bytesV_lit _ c2 _ _ _ _ (by simp) e2 h2 b2 (by omega))

set_option maxRecDepth 100000 in
set_option maxHeartbeats 4000000 in
theorem alive_any (w : World) : Calls Try.prog 12 #[] w fun e w' => e = .returned (.bool true) ∧ Below w.heap.size w w' := by
  obtain ⟨v1, r1⟩ := two_lit w [1, 1] [0, 2] 2 2 rfl rfl (bytes_of (by decide)) (bytes_of (by decide)) (by omega) (by omega) #[.int .u8 1, .int .u8 1] #[.int .u8 0, .int .u8 2] rfl rfl
  obtain ⟨v2, r2⟩ := two_lit (((w.alloc (.cells #[.int .u8 1, .int .u8 1] 5)).alloc (.cells #[.int .u8 0, .int .u8 2] 5)).alloc (.cells #[.slice (some ⟨w.heap.size, 0, none⟩) 2 2, .slice (some ⟨w.heap.size + 1, 0, none⟩) 2 2] 34)) [3] [4] 1 1 rfl rfl (bytes_of (by decide)) (bytes_of (by decide)) (by omega) (by omega) #[.int .u8 3] #[.int .u8 4] rfl rfl
  simp only [World.size_alloc] at v2 r2
  have KS := solve2_any _ _ _ _ _ (RowV.alloc (RowV.alloc (RowV.alloc v1))) (RowsV.below (RowsV.below (RowsV.below r1 (below_alloc _ _)) (below_alloc _ _)) (below_alloc _ _)) v2 r2
  have hb1 : Below w.heap.size w ((((((w.alloc (.cells #[.int .u8 1, .int .u8 1] 5)).alloc (.cells #[.int .u8 0, .int .u8 2] 5)).alloc (.cells #[.slice (some ⟨w.heap.size, 0, none⟩) 2 2, .slice (some ⟨w.heap.size + 1, 0, none⟩) 2 2] 34)).alloc (.cells #[.int .u8 3] 5)).alloc (.cells #[.int .u8 4] 5)).alloc (.cells #[.slice (some ⟨w.heap.size + 1 + 1 + 1, 0, none⟩) 1 1, .slice (some ⟨w.heap.size + 1 + 1 + 1 + 1, 0, none⟩) 1 1] 34)) :=
    (((((below_alloc w _).alloc (by simp) _).alloc (by simp; omega) _).alloc (by simp; omega) _).alloc (by simp; omega) _).alloc (by simp; omega) _
  clear v1 r1 v2 r2
  go_enter Try.func12, Try.ntmps12
  go_wp2_with fail
  (with_reducible refine KS.mono ?_)
  rintro x w1 ⟨a1, c1, hs1, rfl, hv1, hr1, b1⟩
  have hb2 := hb1.trans (b1.mono hb1.size)
  clear KS hb1 b1
  obtain ⟨v1, r1⟩ := two_lit w1 [1, 1] [2, 2] 2 2 rfl rfl (bytes_of (by decide)) (bytes_of (by decide)) (by omega) (by omega) #[.int .u8 1, .int .u8 1] #[.int .u8 2, .int .u8 2] rfl rfl
  have KR := rank2_any _ _ _ v1 r1
  have hb3 := ((hb2.alloc hb2.size (.cells #[.int .u8 1, .int .u8 1] 5)).alloc (by have := hb2.size; simp; omega) (.cells #[.int .u8 2, .int .u8 2] 5)).alloc (by have := hb2.size; simp; omega) (.cells #[.slice (some ⟨w1.heap.size, 0, none⟩) 2 2, .slice (some ⟨w1.heap.size + 1, 0, none⟩) 2 2] 34)
  have hv2 := RowV.alloc (o := .cells #[.slice (some ⟨w1.heap.size, 0, none⟩) 2 2, .slice (some ⟨w1.heap.size + 1, 0, none⟩) 2 2] 34) (RowV.alloc (o := .cells #[.int .u8 2, .int .u8 2] 5) (RowV.alloc (o := .cells #[.int .u8 1, .int .u8 1] 5) hv1))
  have hr2 := RowsV.below (RowsV.below (RowsV.below hr1 (below_alloc _ (.cells #[.int .u8 1, .int .u8 1] 5))) (below_alloc _ (.cells #[.int .u8 2, .int .u8 2] 5))) (below_alloc _ (.cells #[.slice (some ⟨w1.heap.size, 0, none⟩) 2 2, .slice (some ⟨w1.heap.size + 1, 0, none⟩) 2 2] 34))
  clear v1 r1 hv1 hr1 hb2
  go_wp2_with fail
  (with_reducible refine KR.mono ?_)
  rintro x w2 ⟨rfl, b2⟩
  have hb4 := hb3.trans (b2.mono hb3.size)
  have hv3 := hv2.below b2
  have hr3 := hr2.below b2
  clear KR hb3 hv2 hr2 b2
  obtain ⟨v1, r1⟩ := two_lit w2 [1] [2] 1 1 rfl rfl (bytes_of (by decide)) (bytes_of (by decide)) (by omega) (by omega) #[.int .u8 1] #[.int .u8 2] rfl rfl
  have KQ := sameRows_any a1 2 c1 hs1 [[1], [2]] _ 2 2 _ [[1], [2]] _ (RowV.alloc (RowV.alloc (RowV.alloc hv3))) (RowsV.below (RowsV.below (RowsV.below hr3 (below_alloc _ _)) (below_alloc _ _)) (below_alloc _ _)) v1 r1 (by omega)
  rw [decide_eq_true rfl] at KQ
  have hb5 := ((hb4.alloc hb4.size (.cells #[.int .u8 1] 5)).alloc (by have := hb4.size; simp; omega) (.cells #[.int .u8 2] 5)).alloc (by have := hb4.size; simp; omega) (.cells #[.slice (some ⟨w2.heap.size, 0, none⟩) 1 1, .slice (some ⟨w2.heap.size + 1, 0, none⟩) 1 1] 34)
  clear hv3 hr3 v1 r1 hb4
  go_wp2_with fail
  (with_reducible refine KQ.mono ?_)
  rintro x w3 ⟨rfl, b3⟩
  go_wp2
  go_ret
  exact ⟨rfl, hb5.trans (b3.mono hb5.size)⟩

/-- what is known where a system isn't too great. -/
def GreatR (rows xs : List (List Nat)) (w : World) (e : Ending) (w' : World) : Prop :=
  ∃ t : Bool, e = .returned (.bool t) ∧ Below w.heap.size w w' ∧ (t = false → rows.length ≤ 300 ∧ xs.length ≤ 300 ∧ ((∀ r ∈ rows, r.length ≤ 128) → ∀ x ∈ xs, x.length ≤ 60000))
def lenSum (ls : List (List Nat)) : Nat → Nat
  | 0 => 0
  | k + 1 => lenSum ls k + (ls.getD k []).length
theorem len_le_sum (ls : List (List Nat)) (i : Nat) : ∀ k, i < k → (ls.getD i []).length ≤ lenSum ls k
  | 0, h => absurd h (Nat.not_lt_zero _)
  | k + 1, h => by
    simp only [lenSum]
    by_cases e : i = k
    · subst e; omega
    · have := len_le_sum ls i k (by omega); omega
theorem lenSum_le (ls : List (List Nat)) (B : Nat) (h : ∀ l ∈ ls, l.length ≤ B) : ∀ k, lenSum ls k ≤ k * B
  | 0 => by simp [lenSum]
  | k + 1 => by
    simp only [lenSum]
    have := lenSum_le ls B h k
    have h2 : (ls.getD k []).length ≤ B := by
      rw [List.getD_eq_getElem?_getD]
      by_cases e : k < ls.length
      · rw [List.getElem?_eq_getElem e]; exact h _ (List.getElem_mem e)
      · rw [List.getElem?_eq_none (by omega)]; simp
    rw [Nat.succ_mul]; omega

set_option maxRecDepth 100000 in
set_option maxHeartbeats 4000000 in
theorem great_any (ar : Option Addr) (nr cr : Nat) (hr : List HdT) (rows : List (List Nat)) (ax : Option Addr) (nx cx : Nat) (hx : List HdT) (xs : List (List Nat)) (w : World) (vr : RowV w ar nr (hr.map SV)) (rr : RowsV w hr rows) (vx : RowV w ax nx (hx.map SV)) (rx : RowsV w hx xs) :
    Calls Try.prog 13 #[.slice ar nr cr, .slice ax nx cx] w (GreatR rows xs w) := by
  have hhx : hx.length = nx := by have := vx.1; simpa using this
  have hxs : xs.length = nx := by rw [← rx.1, hhx]
  have hhr : hr.length = nr := by have := vr.1; simpa using this
  have hrs : rows.length = nr := by rw [← rr.1, hhr]
  by_cases h1 : 300 < nr
  · clear vr rr vx rx
    go_enter Try.func13, Try.ntmps13
    go_wp2
    go_ret
    exact ⟨true, rfl, Below.refl _ _, fun h => (by cases h)⟩
  by_cases h2 : 300 < nx
  · clear vr rr vx rx
    have h1' : ¬ 300 < nr := h1
    go_enter Try.func13, Try.ntmps13
    go_wp2
    go_ret
    exact ⟨true, rfl, Below.refl _ _, fun h => (by cases h)⟩
  have HVX := Lib.hid vx
  have HRX := Lib.hid rx
  have HVR := Lib.hid vr
  have HRR := Lib.hid rr
  have HHR := Lib.hid hhr
  have HRS := Lib.hid hrs
  have HXS := Lib.hid hxs
  have HHX := Lib.hid hhx
  have hnr : nr ≤ 300 := by omega
  have hnx : nx ≤ 300 := by omega
  clear vr rr vx rx hhr hrs hxs hhx h1 h2
  go_enter Try.func13, Try.ntmps13
  go_wp2
  go_loopw [5, 6] (fun v i wr => ∃ (k : Nat) (z : Int), k ≤ nr ∧ i = .int .i64 k ∧ v = .int .i64 z ∧ ((∀ r ∈ rows, r.length ≤ 128) → 0 ≤ z ∧ z ≤ 38400 * k) ∧ wr = w) (fun _ i _ => nr - (intOf i).toNat)
  case atStart => exact ⟨0, 0, Nat.zero_le _, rfl, rfl, fun _ => by omega, rfl⟩
  case round =>
    obtain ⟨k, z, hk, rfl, rfl, hz, rfl⟩ := hrel
    have HZ := Lib.hid hz
    clear hz
    by_cases hlt : k < nr
    · obtain ⟨b, off, rfl, hcl⟩ := HVR.out.2 (by omega)
      obtain ⟨⟨a2, n2, c2⟩, hxk⟩ : ∃ x, hr[k]? = some x := ⟨_, List.getElem?_eq_getElem (by rw [HHR.out]; exact hlt)⟩
      obtain ⟨l, hl⟩ : ∃ l, rows[k]? = some l := ⟨_, List.getElem?_eq_getElem (by rw [HRS.out]; exact hlt)⟩
      have hln : l.length = n2 := (HRR.out.2 k _ l hxk hl).length
      have hc := hcl k hlt
      rw [List.getElem?_map, hxk] at hc
      unfold SV at hc
      simp only [Option.map_some] at hc
      have HLM := Lib.hid (List.mem_of_getElem? hl)
      have HLN := Lib.hid hln
      clear hcl hxk hl hln
      go_wp2
      go_roundw
      case rel =>
        refine ⟨k + 1, _, by omega, by go_num, rfl, fun h => ?_, trivial⟩
        have h1 := HZ.out h
        have h2 := h l HLM.out
        rw [HLN.out] at h2
        have h3 : (n2 : Int) * (nr : Int) ≤ 38400 := by
          have : n2 * nr ≤ 128 * 300 := Nat.mul_le_mul h2 hnr
          omega
        have h4 : 0 ≤ (n2 : Int) * (nr : Int) := by
          have : 0 ≤ ((n2 * nr : Nat) : Int) := by omega
          simpa using this
        clear HZ HRS HXS HHX HHR HVR HRR HVX HRX HLM HLN hc
        obtain ⟨q, hq⟩ : ∃ q : Int, q = (n2 : Int) * (nr : Int) := ⟨_, rfl⟩
        rw [← hq] at h3 h4 ⊢
        rw [IntWalk.wrap64_in q (by omega), IntWalk.wrap64_in (z + q) (by omega)]
        omega
      case measure => simp [intOf]; omega
    · obtain rfl : k = nr := by omega
      have hz0 : Hid ((∀ r ∈ rows, r.length ≤ 128) → 0 ≤ z ∧ z ≤ 11520000) := Lib.hid (fun h => by have := HZ.out h; omega)
      clear HZ
      go_wp2
      go_loopw [5, 7] (fun v i w2 => ∃ (j : Nat) (z : Int), j ≤ nx ∧ i = .int .i64 j ∧ v = .int .i64 z ∧ ((∀ r ∈ rows, r.length ≤ 128) → (lenSum xs j : Nat) ≤ z ∧ z ≤ 11520000 + 140737488355328 * j) ∧ w2 = wr) (fun _ i _ => nx - (intOf i).toNat)
      case atStart => exact ⟨0, z, Nat.zero_le _, rfl, rfl, fun h => by have := hz0.out h; simp [lenSum]; omega, rfl⟩
      case round =>
        clear hz0
        obtain ⟨j, z, hj, rfl, rfl, hz, rfl⟩ := hrel
        have HZ := Lib.hid hz
        clear hz
        by_cases hlt : j < nx
        · obtain ⟨b, off, rfl, hcl⟩ := HVX.out.2 (by omega)
          obtain ⟨⟨a2, n2, c2⟩, hxk⟩ : ∃ x, hx[j]? = some x := ⟨_, List.getElem?_eq_getElem (by rw [HHX.out]; exact hlt)⟩
          obtain ⟨l, hl⟩ : ∃ l, xs[j]? = some l := ⟨_, List.getElem?_eq_getElem (by rw [HXS.out]; exact hlt)⟩
          have hln : l.length = n2 := (HRX.out.2 j _ l hxk hl).length
          have hsm : n2 ≤ 140737488355328 := (HRX.out.2 j _ l hxk hl).small
          have hc := hcl j hlt
          rw [List.getElem?_map, hxk] at hc
          unfold SV at hc
          simp only [Option.map_some] at hc
          have hls : lenSum xs (j + 1) = lenSum xs j + n2 := by
            simp only [lenSum]
            rw [List.getD_eq_getElem?_getD, hl]
            simp [hln]
          have HLS := Lib.hid hls
          clear hcl hxk hl hln hls
          go_wp2
          go_roundw
          case rel =>
            refine ⟨j + 1, _, by omega, by go_num, rfl, fun h => ?_, trivial⟩
            have h1 := HZ.out h
            rw [HLS.out]
            clear HZ HRS HXS HHX HHR HVR HRR HVX HRX hc
            rw [IntWalk.wrap64_in (z + (n2 : Int)) (by omega)]
            omega
          case measure => simp [intOf]; omega
        · obtain rfl : j = nx := by omega
          go_wp2
          go_ret
          refine ⟨decide (60000 < z), rfl, Below.refl _ _, fun h => ⟨by rw [HRS.out]; exact hnr, by rw [HXS.out]; exact hnx, fun hr x hx => ?_⟩⟩
          have h1 := HZ.out hr
          have h2 : ¬ 60000 < z := by simpa using h
          obtain ⟨i, hi⟩ := List.getElem?_of_mem hx
          have hil := (List.getElem?_eq_some_iff.1 hi).1
          have h3 := len_le_sum xs i j (by rw [HXS.out] at hil; exact hil)
          rw [List.getD_eq_getElem?_getD, hi] at h3
          simp only [Option.getD_some] at h3
          omega
end Go.Proofs.Ytgnnfpnkhemimaa
