/-
  rilllaw08: DiskMemory.
-/
import Derived.Test.YtdidalcflkphnaaMDjH
namespace Go.Proofs.Ytdidalcflkphnaa
open Go.RowKit

def dM (a b : List Nat) : DV := (slotsV (syncV (writeV (appV (layV (newV 1 (-1)) b).1 a).1 0 b).1).1).1
theorem dM_lay (b : List Nat) : (layV (newV 1 (-1)) b).1 = { pow := -1, safe := [], read := b, base := b.length, laid := true, sl := noSl 1 } := rfl
theorem dM_app (a b : List Nat) : (appV (layV (newV 1 (-1)) b).1 a).1 = { pow := -1, safe := [], read := b ++ a, base := b.length, laid := true, sl := noSl 1 } := rfl
theorem dM_write (a b : List Nat) (h : b.length ≤ 64) : (writeV (appV (layV (newV 1 (-1)) b).1 a).1 0 b).1 = { pow := -1, safe := [], read := b ++ a, base := b.length, laid := true, sl := [([], b, true)] } := by
  rw [dM_app]
  unfold writeV
  rw [if_pos ⟨by omega, by simp [noSl]⟩, if_neg (by omega), if_neg (by simp)]
  rfl
theorem dM_is (a b : List Nat) (h : b.length ≤ 64) : dM a b = { pow := -1, safe := b ++ a, read := b ++ a, base := (b ++ a).length, laid := false, sl := [(b, b, false)] } := by
  unfold dM
  rw [dM_write a b h]
  rfl
theorem intsV_owns {w : World} {B n c : Nat} {a : Option Addr} {l : List Int} (o : w.ownsRow B 3 1 (.slice a n c) n (l.map iv)) (hs : n ≤ 140737488355328) : IntsV w (a, n, c) l := by
  obtain ⟨ad, cap, e, hcs, hc, -, hr⟩ := ownsRow_parts o
  injection e with e1 e2 e3
  subst e1 e3
  refine ⟨hr, hs, hc, fun e => ?_⟩
  rcases hcs with ⟨-, -, q⟩ | ⟨g, q, -⟩
  · exact q
  · rw [q] at e; cases e
set_option maxRecDepth 100000 in
set_option maxHeartbeats 16000000 in
theorem diskMemory_walk (a0 : Option Addr) (n0 c0 : Nat) (l0 : List Nat) (a1 : Option Addr) (n1 c1 : Nat) (l1 : List Nat) (keep : Int) (reset : Bool) (fa : Option Addr) (fn fc : Nat) (fs : List Int) (w0 : World)
    (h0 : BytesV w0 (a0, n0, c0) l0) (_s0 : n0 ≤ 140737488351232) (h1 : BytesV w0 (a1, n1, c1) l1) (_s1 : n1 ≤ 140737488351232) (h2 : IntsV w0 (fa, fn, fc) fs) (s2 : fn * 8 ≤ 140737488351232) (z2 : ∀ z ∈ fs, (Lit.int .i64 z).wf = true) (_k2 : (Lit.int .i64 keep).wf = true) :
    Calls Try.prog 8 #[.slice a0 n0 c0, .slice a1 n1 c1, .agg #[.int .i64 keep, .bool reset, .slice fa fn fc]] w0 fun e W' => e = .returned (.bool true) ∧ Below w0.heap.size w0 W' := by
  obtain rfl : l0.length = n0 := h0.length
  obtain rfl : l1.length = n1 := h1.length
  obtain rfl : fs.length = fn := h2.length
  have b0 := below_alloc w0 (.cells #[.int .i64 keep, .bool reset, .slice fa fs.length fc] FT)
  obtain ⟨w, hw⟩ : ∃ x, x = w0.alloc (.cells #[.int .i64 keep, .bool reset, .slice fa fs.length fc] FT) := ⟨_, rfl⟩
  have ef : w.heap[w0.heap.size]? = some (.cells #[.int .i64 keep, .bool reset, .slice fa fs.length fc] FT) := by rw [hw]; exact heap_alloc_self w0 _
  have hwz : w.heap.size = w0.heap.size + 1 := by rw [hw]; exact alloc_sz w0 _
  rw [← hw] at b0
  have HW := Lib.hid hw
  have HB0 := Lib.hid b0
  have H0 := Lib.hid (h0.below b0)
  have H1 := Lib.hid (h1.below b0)
  have H2 := Lib.hid (h2.below b0)
  have HEF := Lib.hid ef
  have hz2 : ∀ z ∈ fs, -9223372036854775808 ≤ z ∧ z ≤ 9223372036854775807 := fun z hz => wf_i64 (z2 z hz)
  have KA := alive8_any w
  clear h0 h1 h2 hw b0 ef z2
  go_enter Try.func8, Try.ntmps8
  go_wp2_with fail
  rw [← HW.out]
  obtain ⟨tf, htf⟩ : ∃ t, t = w0.heap.size := ⟨_, rfl⟩
  rw [← htf]
  have HTF := Lib.hid htf
  clear htf
  (with_reducible refine KA.mono ?_)
  rintro e w1 ⟨rfl, b1⟩
  clear KA
  have hb0w : ∀ W', Below w.heap.size w W' → Below w0.heap.size w0 W' := fun W' b => HB0.out.trans (b.mono HB0.out.size)
  have HB0W := Lib.hid hb0w
  have HB1 := Lib.hid b1
  clear hb0w b1
  by_cases hn : 64 < l1.length
  · have hnI : (64 : Int) < (l1.length : Int) := by omega
    go_wp2
    go_ret
    exact ⟨rfl, HB0W.out _ HB1.out⟩
  have hnI : ¬ (64 : Int) < (l1.length : Int) := by omega
  by_cases hm : 5000 < l0.length
  · have hmI : (5000 : Int) < (l0.length : Int) := by omega
    go_wp2
    go_ret
    exact ⟨rfl, HB0W.out _ HB1.out⟩
  have hmI : ¬ (5000 : Int) < (l0.length : Int) := by omega
  have KN : Calls Try.prog 11 #[.int .i64 1, .int .i64 (-1)] w1 (NewL w.heap.size (newV 1 (-1)) w1 (fun g => .tuple #[.pointer (some ⟨g, 0, none⟩), .int .i64 0])) := new_l w.heap.size 1 (-1) w1 HB1.out.size (by omega) (by omega) (by omega)
  go_wp2_with fail
  (with_reducible refine KN.mono ?_)
  rintro e w2 ⟨g, F2, rfl, D2, -, b2⟩
  have HB2 := Lib.hid (HB1.out.trans (b2.mono HB1.out.size))
  have HD2 := Lib.hid D2
  clear KN HB1 b2 D2
  have HBX2 := Lib.hid HB2.out.size
  have KC := copyBytes_any a1 l1.length c1 l1 w2 (H1.out.below HB2.out)
  go_wp2_with fail
  (with_reducible refine KC.mono ?_)
  rintro e w3 ⟨a3, c3, rfl, o3, b3⟩
  have HB3 := Lib.hid (HB2.out.trans (b3.mono HB2.out.size))
  have D3 := HD2.out.below b3
  have hO3 : ByF w3 (fun _ => True) (a3, l1.length, c3) l1 := ⟨own_zero o3, rfl, H1.out.bytes, by omega, fun _ _ => trivial⟩
  have hq3 : ∀ q, (SV (a3, l1.length, c3)).ownBlock = some q → w2.heap.size ≤ q ∧ q < w3.heap.size := fun q hq => o3.lt q hq
  have hn3 : ∀ q, (SV (a3, l1.length, c3)).ownBlock = some q → ¬ F2 q := fun q hq hF => by have := hq3 q hq; have := HD2.out.hi q hF; omega
  have KY := lay_l w.heap.size F2 g _ a3 l1.length c3 l1 w3 D3 hO3.bytesV (fun _ => hn3) (by omega)
  have HO3 := Lib.hid hO3
  have HQ3 := Lib.hid hq3
  have HN3 := Lib.hid hn3
  have HL3 := Lib.hid D3.lo
  clear KC HB2 b3 D3 hO3 hq3 hn3 o3 HD2
  go_wp2_with fail
  (with_reducible refine KY.mono ?_)
  rintro e w4 ⟨rfl, F4, D4, hF4, hc4⟩
  have HB4 := Lib.hid (chF_lo HB3.out hc4 HL3.out HB3.out.size)
  have HO4 := Lib.hid (HO3.out.keep hc4 HN3.out)
  have hn4 : ∀ q, (SV (a3, l1.length, c3)).ownBlock = some q → ¬ F4 q := fun q hq hF => by
    rcases hF4 q hF with k | k
    · exact HN3.out q hq k
    · have := (HQ3.out q hq).2; omega
  have hz4 : w3.heap.size ≤ w4.heap.size := hc4.size
  have KP := append_l w.heap.size F4 g _ a0 l0.length c0 l0 w4 D4 (H0.out.below HB4.out) (D4.apart H0.out (Nat.le_refl _)) (by rw [dM_lay]; simp only; omega)
  have HN4 := Lib.hid hn4
  have HL4 := Lib.hid D4.lo
  clear KY HB3 HO3 HN3 HL3 hF4 hc4 hn4 D4
  go_wp2_with fail
  (with_reducible refine KP.mono ?_)
  rintro e w5 ⟨rfl, F5, D5, hF5, hc5⟩
  have HB5 := Lib.hid (chF_lo HB4.out hc5 HL4.out HB4.out.size)
  have HO5 := Lib.hid (HO4.out.keep hc5 HN4.out)
  have hn5 : ∀ q, (SV (a3, l1.length, c3)).ownBlock = some q → ¬ F5 q := fun q hq hF => by
    rcases hF5 q hF with k | k
    · exact HN4.out q hq k
    · have := (HQ3.out q hq).2; omega
  have hz5 : w4.heap.size ≤ w5.heap.size := hc5.size
  have KW := write_l w.heap.size F5 g _ 0 a3 l1.length c3 l1 w5 D5 HO5.out.bytesV (fun _ => hn5)
  have HN5 := Lib.hid hn5
  have HL5 := Lib.hid D5.lo
  clear KP HB4 HO4 HN4 HL4 hF5 hc5 hn5 D5
  go_wp2_with fail
  (with_reducible refine KW.mono ?_)
  rintro e w6 ⟨rfl, F6, D6, hF6, hc6⟩
  have HB6 := Lib.hid (chF_lo HB5.out hc6 HL5.out HB5.out.size)
  have HO6 := Lib.hid (HO5.out.keep hc6 HN5.out)
  have hn6 : ∀ q, (SV (a3, l1.length, c3)).ownBlock = some q → ¬ F6 q := fun q hq hF => by
    rcases hF6 q hF with k | k
    · exact HN5.out q hq k
    · have := (HQ3.out q hq).2; omega
  have hz6 : w5.heap.size ≤ w6.heap.size := hc6.size
  have KS := sync_l w.heap.size F6 g _ w6 D6
  have HN6 := Lib.hid hn6
  have HL6 := Lib.hid D6.lo
  clear KW HB5 HO5 HN5 HL5 hF6 hc6 hn6 D6
  go_wp2_with fail
  (with_reducible refine KS.mono ?_)
  rintro e w7 ⟨rfl, F7, D7, hF7, hc7⟩
  have HB7 := Lib.hid (chF_lo HB6.out hc7 HL6.out HB6.out.size)
  have HO7 := Lib.hid (HO6.out.keep hc7 HN6.out)
  have hn7 : ∀ q, (SV (a3, l1.length, c3)).ownBlock = some q → ¬ F7 q := fun q hq hF => by
    rcases hF7 q hF with k | k
    · exact HN6.out q hq k
    · have := (HQ3.out q hq).2; omega
  have hz7 : w6.heap.size ≤ w7.heap.size := hc7.size
  have KS2 := slots_l w.heap.size F7 g _ w7 D7
  have HN7 := Lib.hid hn7
  have HL7 := Lib.hid D7.lo
  clear KS HB6 HO6 HN6 HL6 hF7 hc7 hn7 D7
  go_wp2_with fail
  (with_reducible refine KS2.mono ?_)
  rintro e w8 ⟨rfl, F8, D8, hF8, hc8⟩
  have HB8 := Lib.hid (chF_lo HB7.out hc8 HL7.out HB7.out.size)
  have HI8 := Lib.hid (show ∃ L, ByF w8 (fun _ => True) (a3, l1.length, c3) L ∧ L.length = l1.length from ⟨l1, HO7.out.keep hc8 HN7.out, rfl⟩)
  have hn8 : ∀ q, (SV (a3, l1.length, c3)).ownBlock = some q → ¬ F8 q := fun q hq hF => by
    rcases hF8 q hF with k | k
    · exact HN7.out q hq k
    · have := (HQ3.out q hq).2; omega
  obtain ⟨d8, hd8⟩ : ∃ d, d = dM l0 l1 := ⟨_, rfl⟩
  have D8' : DL w.heap.size w8 F8 g d8 := by rw [hd8]; exact D8
  rw [dM_is l0 l1 (by omega)] at hd8
  have HDV := Lib.hid hd8
  have HN8 := Lib.hid hn8
  have HD8 := Lib.hid D8'
  clear KS2 HB7 HO7 HN7 HL7 hF8 hc8 hn8 D8 D8' hd8 hz4 hz5 hz6 hz7
  go_wp2_with fail
  go_loopw [10] (fun i wr => ∃ k : Nat, k ≤ l1.length ∧ i = .int .i64 k ∧ Hid (∃ L, ByF wr (fun _ => True) (a3, l1.length, c3) L ∧ L.length = l1.length) ∧ Hid (ChF (fun q => (SV (a3, l1.length, c3)).ownBlock = some q) w8 wr)) (fun i _ => l1.length - (intOf i).toNat)
  case atStart => exact ⟨0, Nat.zero_le _, rfl, HI8, Lib.hid (ChF.refl _ _)⟩
  case round =>
    clear HI8
    obtain ⟨k, hk, rfl, hI, hG⟩ := hrel
    by_cases hlt : k < l1.length
    · obtain ⟨LL, hL, hLl⟩ := hI.out
      obtain ⟨xb, e8, q1, q2, q3, q4, q5, -⟩ := hL.cell (j := k) (by rw [hLl]; exact hlt)
      simp only at e8 q1 q2
      subst e8
      rw [hLl] at q1
      have f3 := q4 k
      obtain ⟨y, hy⟩ : ∃ y, y = LL.getD k 0 := ⟨_, rfl⟩
      rw [← hy] at q3
      have hy8 : y < 256 := by rw [hy]; exact hL.bytes.getD k
      have hxr : bits .xor .u8 (y : Int) 255 = ((y ^^^ 255 : Nat) : Int) := u8_xor_nat y 255 hy8 (by omega)
      obtain ⟨z, hz⟩ : ∃ z, z = y ^^^ 255 := ⟨_, rfl⟩
      rw [← hz] at hxr
      have hz8 : z < 256 := by rw [hz]; exact Nat.xor_lt_two_pow (n := 8) hy8 (by decide)
      have hI' := Lib.hid (show ∃ L, ByF (wr.setCell ⟨xb, k, none⟩ (.int .u8 (z : Nat))) (fun _ => True) (some ⟨xb, 0, none⟩, l1.length, c3) L ∧ L.length = l1.length from ⟨LL.set k z, ByF.poke (yb := xb) (j := k) hL rfl hz8, by simpa using hLl⟩)
      have hG' := Lib.hid (hG.out.set (g := xb) (i := k) (v := .int .u8 (z : Nat)) (.inl (show (SV (some ⟨xb, 0, none⟩, l1.length, c3)).ownBlock = some xb from rfl)))
      have hkI : (k : Int) < ((l1.length : Nat) : Int) := by omega
      clear hy hz hI hG hL q4 hy8 hz8
      go_wp2
      go_roundw
      case rel => exact ⟨k + 1, by omega, by go_num, hI', hG'⟩
      case measure => simp [intOf]; omega
    · obtain rfl : k = l1.length := by omega
      clear hlt hk hI
      have D9 := HD8.out.chF hG.out (fun q hq e => HN8.out q e hq)
      have HB9 := Lib.hid (HB8.out.trans (hG.out.below (B := w.heap.size) (fun q e => by have := (HQ3.out q e).1; have := HB8.out.size; have := HBX2.out; omega) HB8.out.size))
      obtain ⟨w9, hw9⟩ : ∃ x, x = wr := ⟨_, rfl⟩
      subst hw9
      have ef9 : w9.heap[tf]? = some (.cells #[.int .i64 keep, .bool reset, .slice fa fs.length fc] FT) := by
        have h1 := HB9.out.block tf (by have := HTF.out; omega)
        rw [h1, HTF.out]; exact HEF.out
      obtain ⟨t0, t1, t2, -⟩ := cells3D ef9
      have KF := copyFate_any keep reset fa fs.length fc fs w9 (H2.out.below HB9.out) (by omega)
      have HD9 := Lib.hid D9
      clear HB8 HD8 hG D9 HN8 HQ3 ef9
      go_wp2_with fail
      (with_reducible refine KF.mono ?_)
      rintro e w10 ⟨f10, g10, rfl, o10, b10⟩
      have HB10 := Lib.hid (HB9.out.trans (b10.mono HB9.out.size))
      have D10 := HD9.out.below b10
      have KL := left_l w.heap.size F8 g d8 keep reset f10 fs.length g10 fs (-1) w10 D10 (intsV_owns o10 (by omega)) (by omega) (by rw [HDV.out]; simp) (by rw [HDV.out]; simp; omega) hz2
      have HD10 := Lib.hid D10
      clear KF HB9 HD9 o10 b10 D10 t0 t1 t2
      go_wp2_with fail
      (with_reducible refine KL.mono ?_)
      rintro e w11 ⟨gl, F11, rfl, D11, hF11, b11⟩
      have HB11 := Lib.hid (HB10.out.trans (b11.mono HB10.out.size))
      have D11d := HD10.out.below b11
      have HZZ := Lib.hid HB11.out.size
      have HDIS := Lib.hid (show ∀ q, F8 q → ¬ F11 q from fun q h1 h2 => by have := HD10.out.hi q h1; have := hF11 q h2; omega)
      obtain ⟨X, hX⟩ : ∃ X, X = l1 ++ l0 := ⟨_, rfl⟩
      have hXb : Bytes X := by
        rw [hX]; intro y hy
        rcases List.mem_append.1 hy with q | q
        · exact H1.out.bytes y q
        · exact H0.out.bytes y q
      have hXl : X.length ≤ 5064 := by rw [hX]; simp; omega
      have hdr : d8.read = X := by rw [HDV.out, hX]
      have hdv : readV d8 0 = (l1, 0) := by rw [HDV.out]; rfl
      obtain ⟨d11, hd11⟩ : ∃ d, d = leftV d8 keep reset fs (-1) := ⟨_, rfl⟩
      rw [← hd11] at D11
      have hlr : d11.read.length ≤ 5064 := by
        rw [hd11]
        have h1 := logS_len d8.safe d8.read d8.base d8.laid keep reset
        have h2 : d8.safe = X := by rw [HDV.out, hX]
        rw [h2, hdr] at h1
        show (logS d8.safe d8.read d8.base d8.laid keep reset).length ≤ _
        rw [h2, hdr]
        omega
      have KG := log_any F8 g d8 w11 D11d.m
      rw [hdr] at KG
      have HXE := Lib.hid hX
      have HLR := Lib.hid hlr
      have HDR := Lib.hid hdr
      have HRV := Lib.hid hdv
      have HD11 := Lib.hid D11
      have HDD := Lib.hid D11d
      clear KL HB10 HD10 b11 hF11 D11 D11d hX hlr hd11 hdr hdv HDV
      go_wp2_with fail
      (with_reducible refine KG.mono ?_)
      rintro e w12 ⟨a12, c12, rfl, o12, b12⟩
      have HB12 := Lib.hid (HB11.out.trans (b12.mono HB11.out.size))
      have D12 := HDD.out.below b12
      have L12 := HD11.out.below b12
      have hq12 : ∀ q, (SV (a12, X.length, c12)).ownBlock = some q → w11.heap.size ≤ q ∧ q < w12.heap.size := fun q hq => o12.lt q hq
      have hn12 : ∀ q, (SV (a12, X.length, c12)).ownBlock = some q → ¬ F8 q ∧ ¬ F11 q := fun q hq => ⟨fun h => by have := hq12 q hq; have := HDD.out.hi q h; omega, fun h => by have := hq12 q hq; have := HD11.out.hi q h; omega⟩
      have KR := read_l w.heap.size F8 g d8 0 w12 D12
      rw [HRV.out] at KR
      have HO12 := Lib.hid (show ByF w12 (fun _ => True) (a12, X.length, c12) X from ⟨own_zero o12, rfl, hXb, by omega, fun _ _ => trivial⟩)
      have HQ12 := Lib.hid hq12
      have HN12 := Lib.hid hn12
      have HD12 := Lib.hid D12
      have HL12 := Lib.hid L12
      have hz12 := b12.size
      clear KG HB11 o12 b12 D12 L12 hq12 hn12 HDD HD11
      go_wp2_with fail
      (with_reducible refine KR.mono ?_)
      rintro e w13 ⟨a13, c13, rfl, o13, b13⟩
      have HB13 := Lib.hid (HB12.out.trans (b13.mono HB12.out.size))
      have HI13 := Lib.hid (show ∃ L, ByF w13 (fun _ => True) (a12, X.length, c12) L ∧ L.length = X.length from ⟨X, HO12.out.keep (G := fun _ => False) (.of_below b13) (fun _ _ e => e), rfl⟩)
      have HO13 := Lib.hid (show ByF w13 (fun _ => True) (a13, l1.length, c13) l1 from ⟨own_zero o13, rfl, H1.out.bytes, by omega, fun _ _ => trivial⟩)
      have HQ13 := Lib.hid (show ∀ q, (SV (a13, l1.length, c13)).ownBlock = some q → w12.heap.size ≤ q ∧ q < w13.heap.size from fun q hq => o13.lt q hq)
      have HN13 := Lib.hid (show ∀ q, (SV (a13, l1.length, c13)).ownBlock = some q → ¬ F8 q ∧ ¬ F11 q from fun q hq => ⟨fun h => by have := o13.lt q hq; have := HD12.out.hi q h; omega, fun h => by have := o13.lt q hq; have := HL12.out.hi q h; omega⟩)
      have HD13 := Lib.hid (HD12.out.below b13)
      have HL13 := Lib.hid (HL12.out.below b13)
      have hz13 := b13.size
      clear KR HB12 HO12 HD12 HL12 o13 b13
      go_wp2_with fail
      go_loopw [15] (fun i wr => ∃ k : Nat, k ≤ X.length ∧ i = .int .i64 k ∧ Hid (∃ L, ByF wr (fun _ => True) (a12, X.length, c12) L ∧ L.length = X.length) ∧ Hid (ChF (fun q => (SV (a12, X.length, c12)).ownBlock = some q) w13 wr)) (fun i _ => X.length - (intOf i).toNat)
      case atStart => exact ⟨0, Nat.zero_le _, rfl, HI13, Lib.hid (ChF.refl _ _)⟩
      case round =>
        clear HI13
        obtain ⟨k, hk, rfl, hI, hG⟩ := hrel
        by_cases hlt : k < X.length
        · obtain ⟨LL, hL, hLl⟩ := hI.out
          obtain ⟨xb, e8, q1, q2, q3, q4, q5, -⟩ := hL.cell (j := k) (by rw [hLl]; exact hlt)
          simp only at e8 q1 q2
          subst e8
          rw [hLl] at q1
          have f3 := q4 k
          obtain ⟨y, hy⟩ : ∃ y, y = LL.getD k 0 := ⟨_, rfl⟩
          rw [← hy] at q3
          have hy8 : y < 256 := by rw [hy]; exact hL.bytes.getD k
          have hxr : bits .xor .u8 (y : Int) 255 = ((y ^^^ 255 : Nat) : Int) := u8_xor_nat y 255 hy8 (by omega)
          obtain ⟨z, hz⟩ : ∃ z, z = y ^^^ 255 := ⟨_, rfl⟩
          rw [← hz] at hxr
          have hz8 : z < 256 := by rw [hz]; exact Nat.xor_lt_two_pow (n := 8) hy8 (by decide)
          have hI' := Lib.hid (show ∃ L, ByF (wr.setCell ⟨xb, k, none⟩ (.int .u8 (z : Nat))) (fun _ => True) (some ⟨xb, 0, none⟩, X.length, c12) L ∧ L.length = X.length from ⟨LL.set k z, ByF.poke (yb := xb) (j := k) hL rfl hz8, by simpa using hLl⟩)
          have hG' := Lib.hid (hG.out.set (g := xb) (i := k) (v := .int .u8 (z : Nat)) (.inl (show (SV (some ⟨xb, 0, none⟩, X.length, c12)).ownBlock = some xb from rfl)))
          have hkI : (k : Int) < ((X.length : Nat) : Int) := by omega
          clear hy hz hI hG hL q4 hy8 hz8
          go_wp2
          go_roundw
          case rel => exact ⟨k + 1, by omega, by go_num, hI', hG'⟩
          case measure => simp [intOf]; omega
        · obtain rfl : k = X.length := by omega
          clear hlt hk hI
          obtain ⟨w14, hw14⟩ : ∃ x, x = wr := ⟨_, rfl⟩
          subst hw14
          have HB14 := Lib.hid (HB13.out.trans (hG.out.below (B := w.heap.size) (fun q e => by have := (HQ12.out q e).1; have := HZZ.out; omega) HB13.out.size))
          have HD14 := Lib.hid (HD13.out.chF hG.out (fun q hq e => (HN12.out q e).1 hq))
          have HL14 := Lib.hid (HL13.out.chF hG.out (fun q hq e => (HN12.out q e).2 hq))
          have HI14 := Lib.hid (show ∃ L, ByF w14 (fun _ => True) (a13, l1.length, c13) L ∧ L.length = l1.length from ⟨l1, HO13.out.keep hG.out (fun q hq e => by have := HQ12.out q e; have := HQ13.out q hq; omega), rfl⟩)
          clear HB13 HD13 HL13 HO13 hG
          go_wp2_with fail
          go_loopw [16] (fun i wr => ∃ k : Nat, k ≤ l1.length ∧ i = .int .i64 k ∧ Hid (∃ L, ByF wr (fun _ => True) (a13, l1.length, c13) L ∧ L.length = l1.length) ∧ Hid (ChF (fun q => (SV (a13, l1.length, c13)).ownBlock = some q) w14 wr)) (fun i _ => l1.length - (intOf i).toNat)
          case atStart => exact ⟨0, Nat.zero_le _, rfl, HI14, Lib.hid (ChF.refl _ _)⟩
          case round =>
            clear HI14
            obtain ⟨k, hk, rfl, hI, hG⟩ := hrel
            by_cases hlt : k < l1.length
            · obtain ⟨LL, hL, hLl⟩ := hI.out
              obtain ⟨xb, e8, q1, q2, q3, q4, q5, -⟩ := hL.cell (j := k) (by rw [hLl]; exact hlt)
              simp only at e8 q1 q2
              subst e8
              rw [hLl] at q1
              have f3 := q4 k
              obtain ⟨y, hy⟩ : ∃ y, y = LL.getD k 0 := ⟨_, rfl⟩
              rw [← hy] at q3
              have hy8 : y < 256 := by rw [hy]; exact hL.bytes.getD k
              have hxr : bits .xor .u8 (y : Int) 255 = ((y ^^^ 255 : Nat) : Int) := u8_xor_nat y 255 hy8 (by omega)
              obtain ⟨z, hz⟩ : ∃ z, z = y ^^^ 255 := ⟨_, rfl⟩
              rw [← hz] at hxr
              have hz8 : z < 256 := by rw [hz]; exact Nat.xor_lt_two_pow (n := 8) hy8 (by decide)
              have hI' := Lib.hid (show ∃ L, ByF (wr.setCell ⟨xb, k, none⟩ (.int .u8 (z : Nat))) (fun _ => True) (some ⟨xb, 0, none⟩, l1.length, c13) L ∧ L.length = l1.length from ⟨LL.set k z, ByF.poke (yb := xb) (j := k) hL rfl hz8, by simpa using hLl⟩)
              have hG' := Lib.hid (hG.out.set (g := xb) (i := k) (v := .int .u8 (z : Nat)) (.inl (show (SV (some ⟨xb, 0, none⟩, l1.length, c13)).ownBlock = some xb from rfl)))
              have hkI : (k : Int) < ((l1.length : Nat) : Int) := by omega
              clear hy hz hI hG hL q4 hy8 hz8
              go_wp2
              go_roundw
              case rel => exact ⟨k + 1, by omega, by go_num, hI', hG'⟩
              case measure => simp [intOf]; omega
            · obtain rfl : k = l1.length := by omega
              clear hlt hk hI
              obtain ⟨w15, hw15⟩ : ∃ x, x = wr := ⟨_, rfl⟩
              subst hw15
              have HB15 := Lib.hid (HB14.out.trans (hG.out.below (B := w.heap.size) (fun q e => by have := (HQ13.out q e).1; have := HZZ.out; omega) HB14.out.size))
              have HD15 := Lib.hid (HD14.out.chF hG.out (fun q hq e => (HN13.out q e).1 hq))
              have HL15 := Lib.hid (HL14.out.chF hG.out (fun q hq e => (HN13.out q e).2 hq))
              have KP3 := append_l w.heap.size F11 gl d11 (some ⟨w15.heap.size, 0, none⟩) 3 3 [1, 2, 3] _ (HL15.out.below (below_alloc w15 (.cells #[.int .u8 1, .int .u8 2, .int .u8 3] 5))) (bytesV_litD w15 #[.int .u8 1, .int .u8 2, .int .u8 3] 5 (0, 0) 3 [1, 2, 3] rfl rfl (bytes_of (by decide)) (by omega)) HL15.out.new (by have := HLR.out; simp; omega)
              have HB16 := Lib.hid (HB15.out.alloc HB15.out.size (.cells #[.int .u8 1, .int .u8 2, .int .u8 3] 5))
              have HD16 := Lib.hid (HD15.out.below (below_alloc w15 (.cells #[.int .u8 1, .int .u8 2, .int .u8 3] 5)))
              have HLO := Lib.hid HL15.out.lo
              have H15 := Lib.hid HD15.out.hi
              clear HB14 HD14 HL14 hG HB15 HL15 HD15
              go_wp2_with fail
              (with_reducible refine KP3.mono ?_)
              rintro e w17 ⟨rfl, F17, D17, hF17, hc17⟩
              have HB17 := Lib.hid (chF_lo HB16.out hc17 HLO.out HB16.out.size)
              have HD17 := Lib.hid (HD16.out.chF hc17 (fun q h1 h2 => HDIS.out q h1 h2))
              have HDIS2 := Lib.hid (show ∀ q, F8 q → ¬ F17 q from fun q h1 h2 => by
                rcases hF17 q h2 with k | k
                · exact HDIS.out q h1 k
                · have := HD16.out.hi q h1; omega)
              have KW3 := write_l w.heap.size F17 gl _ 0 none 0 0 [] w17 D17 (bytesV_nil _) (fun h => absurd h (by omega))
              have HLO2 := Lib.hid D17.lo
              clear KP3 HB16 HD16 HLO HDIS hF17 hc17 D17
              go_wp2_with fail
              (with_reducible refine KW3.mono ?_)
              rintro e w18 ⟨rfl, F18, D18, -, hc18⟩
              have HB18 := Lib.hid (chF_lo HB17.out hc18 HLO2.out HB17.out.size)
              have HD18 := Lib.hid (HD17.out.chF hc18 (fun q h1 h2 => HDIS2.out q h1 h2))
              have KC3 := copyBytes_any a1 l1.length c1 l1 w18 (H1.out.below HB18.out)
              clear KW3 HB17 HD17 HLO2 HDIS2 hc18 D18
              go_wp2_with fail
              (with_reducible refine KC3.mono ?_)
              rintro e w19 ⟨a19, c19, rfl, o19, b19⟩
              have HB19 := Lib.hid (HB18.out.trans (b19.mono HB18.out.size))
              have HD19 := Lib.hid (HD18.out.below b19)
              have hr19 := H0.out.below HB19.out
              obtain ⟨i0, hi, hz0, hz1, hz2'⟩ := info_parts Try.info5
              have hz19 := b19.size
              clear KC3 HB18 b19
              go_wp2_with (first | (at_builtin; refine wpList_append_row rfl _ _ 28 rfl w18.heap.size 5 i0 (.int .u8 0) 1 Try.underlying28 hi hz0 hz1 hz2' rfl _ _ _ rfl o19 a0 l0.length c0 (l0.map bv) rfl hr19.row hr19.nil (bv_one l0) (by simp [maxLen]; omega) (by omega) hz19 ?_; intro v' w20 hown20 hgrow20 hnil20))
              obtain ⟨a20, c20, rfl, -, -⟩ := ownsRow_parts hown20
              have hc20 : ChF (fun q => w18.heap.size ≤ q) w19 w20 := .of_grown hgrow20 (fun q hq => (o19.lt q hq).1)
              have HD20 := Lib.hid (HD19.out.chF hc20 (fun q h1 h2 => by have := HD18.out.hi q h1; omega))
              have HB20 := Lib.hid (HB19.out.trans (hc20.below (B := w.heap.size) (fun q e => by have := HD18.out.base; omega) HB19.out.size))
              have hown20' : w20.ownsRow 0 5 1 (.slice a20 (l1.length + l0.length) c20) (l1.length + l0.length) (X.map bv) := by rw [HXE.out, List.map_append]; exact own_zero hown20
              have HA20 := Lib.hid (bytesV_of_owns hown20' hXb (by omega))
              have KR3 := read_l w.heap.size F8 g d8 0 w20 HD20.out
              rw [HRV.out] at KR3
              clear HD18 HB19 HD19 hr19 hi hz0 hz1 hz2' hown20 hgrow20 hnil20 hc20 hown20' o19 hz19
              go_wp2_with fail
              (with_reducible refine KR3.mono ?_)
              rintro e w21 ⟨a21, c21, rfl, o21, b21⟩
              have HB21 := Lib.hid (HB20.out.trans (b21.mono HB20.out.size))
              have HY21 := Lib.hid (bytesV_of_owns o21 H1.out.bytes (by omega))
              have HA21 := Lib.hid (HA20.out.below b21)
              have KG3 := log_any F8 g d8 w21 (HD20.out.below b21).m
              rw [HDR.out] at KG3
              clear KR3 HB20 HA20 HD20 o21 b21
              go_wp2_with fail
              (with_reducible refine KG3.mono ?_)
              rintro e w22 ⟨a22, c22, rfl, o22, b22⟩
              have HB22 := Lib.hid (HB21.out.trans (b22.mono HB21.out.size))
              have KE := sameBytes_any a22 X.length c22 X a20 (l1.length + l0.length) c20 X w22 (bytesV_of_owns o22 hXb (by omega)) (HA21.out.below b22)
              rw [decide_eq_true rfl] at KE
              have HY22 := Lib.hid (HY21.out.below b22)
              clear KG3 HB21 HA21 HY21 o22 b22
              go_wp2_with fail
              (with_reducible refine KE.mono ?_)
              rintro e w23 ⟨rfl, b23⟩
              have HB23 := Lib.hid (HB22.out.trans (b23.mono HB22.out.size))
              have KE2 := sameBytes_any a21 l1.length c21 l1 a1 l1.length c1 l1 w23 (HY22.out.below b23) (H1.out.below HB23.out)
              rw [decide_eq_true rfl] at KE2
              clear KE HB22 HY22 b23
              go_wp2_with fail
              (with_reducible refine KE2.mono ?_)
              rintro e w24 ⟨rfl, b24⟩
              have HB24 := Lib.hid (HB23.out.trans (b24.mono HB23.out.size))
              clear KE2 HB23 b24
              go_wp2
              go_ret
              exact ⟨rfl, HB0W.out _ HB24.out⟩
end Go.Proofs.Ytdidalcflkphnaa
