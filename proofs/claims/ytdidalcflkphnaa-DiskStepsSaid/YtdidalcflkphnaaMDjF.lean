/-
  rilllaw08: alive.
-/
import Derived.Lib.SlBytesConst
import Derived.Test.YtdidalcflkphnaaMDjE
namespace Go.Proofs.Ytdidalcflkphnaa
open Go.RowKit

theorem DL.new {B : Nat} {w : World} {F : Nat → Prop} {g : Nat} {d : DV} (h : DL B w F g d) {n c : Nat} : 0 < n → ∀ b, (SV (some ⟨w.heap.size, 0, none⟩, n, c)).ownBlock = some b → ¬ F b := fun _ b hb hF => by
  have h2 := h.hi b hF
  have : w.heap.size = b := by simpa [SV, Value.ownBlock] using hb
  omega
theorem bytesV_litD (w : World) (cs : Array Value) (T : TypeId) (fr : Nat × Nat) (n : Nat) (l : List Nat) (hcs : cs.toList = l.map bv) (hn : l.length = n) (hl : Bytes l) (hs : n ≤ 140737488355328) : BytesV (w.alloc (.cells cs T fr)) (some ⟨w.heap.size, 0, none⟩, n, n) l := by
  refine ⟨⟨by simpa using hn, fun _ => ⟨w.heap.size, 0, rfl, fun i hi => ?_⟩⟩, hl, hs, Nat.le_refl _, fun h => by cases h⟩
  rw [cell_of_row _ _ _ _ _ _ (heap_alloc_self w _), ← hcs]
  simp
theorem intsV_litD (w : World) (cs : Array Value) (T : TypeId) (n : Nat) (l : List Int) (hcs : cs.toList = l.map iv) (hn : l.length = n) (hs : n ≤ 140737488355328) : IntsV (w.alloc (.cells cs T)) (some ⟨w.heap.size, 0, none⟩, n, n) l := by
  refine ⟨⟨by simpa using hn, fun _ => ⟨w.heap.size, 0, rfl, fun i hi => ?_⟩⟩, hs, Nat.le_refl _, fun h => by cases h⟩
  rw [cell_of_row _ _ _ _ _ _ (heap_alloc_self w _), ← hcs]
  simp
theorem conv_four (x0 x1 x2 x3 : Nat) (w : World) (a : Option Addr) (c : Nat) (h0 : x0 < 256) (h1 : x1 < 256) (h2 : x2 < 256) (h3 : x3 < 256) (h : BytesV w (a, 4, c) [x0, x1, x2, x3]) : (convert 28 9 (.slice a 4 c)).run Try.prog w = .ok (.string { data := #[UInt8.ofNat x0, UInt8.ofNat x1, UInt8.ofNat x2, UInt8.ofNat x3] }) w := by
  obtain ⟨b, o, e, hc⟩ := h.row.2 (by simp)
  simp only at e hc
  subst e
  have := run_convert_bytes_back (P := Try.prog) w 28 9 5 ⟨b, o, none⟩ c [UInt8.ofNat x0, UInt8.ofNat x1, UInt8.ofNat x2, UInt8.ofNat x3] Try.underlying28 Try.underlying5 Try.underlying9 (fun j hj => by
    have hj2 : j < 4 := by simpa using hj
    have := hc j hj2
    rcases (by omega : j = 0 ∨ j = 1 ∨ j = 2 ∨ j = 3) with rfl | rfl | rfl | rfl
    · simpa [bv, Addr.add, Nat.mod_eq_of_lt h0] using this
    · simpa [bv, Addr.add, Nat.mod_eq_of_lt h1] using this
    · simpa [bv, Addr.add, Nat.mod_eq_of_lt h2] using this
    · simpa [bv, Addr.add, Nat.mod_eq_of_lt h3] using this)
  exact this
def dA0 : DV := newV 2 (-1)
def dA1 : DV := (appV dA0 [97, 98, 99]).1
def dA2 : DV := (syncV dA1).1
def dA3 : DV := (appV dA2 [100, 101]).1
def dA4 : DV := (writeV dA3 1 [119, 120, 121, 122]).1
def dA5 : DV := leftV dA4 1 false [1] (-1)
theorem dA5_read : readV dA5 1 = ([119, 120, 121, 122], 0) := by decide +kernel
theorem dA5_log : dA5.read = [97, 98, 99, 100] := by decide +kernel
theorem dA5_n : dA5.sl.length = 2 := by decide +kernel
theorem step_lit {B : Nat} {w w1 : World} (h : Below B w w1) (hB : B ≤ w1.heap.size) (o : Obj) : Below B w (w1.alloc o) := h.alloc hB o
theorem chF_lo {F : Nat → Prop} {B : Nat} {w0 w w' : World} (h : Below B w0 w) (hc : ChF F w w') (hF : ∀ b, F b → B ≤ b) (hB : B ≤ w.heap.size) : Below B w0 w' := h.trans (hc.below hF hB)
set_option maxRecDepth 100000 in
set_option maxHeartbeats 8000000 in
theorem alive8_any (w : World) : Calls Try.prog 10 #[] w fun e w' => e = .returned (.bool true) ∧ Below w.heap.size w w' := by
  have kc := fun (w : World) (C : Array Value) (n c : Nat) => Lib.run_convert_bytes_const (P := Try.prog) w 28 5 C n c Try.underlying28 Try.underlying5
  have KN : Calls Try.prog 11 #[.int .i64 2, .int .i64 (-1)] w (NewL w.heap.size dA0 w (fun g => .tuple #[.pointer (some ⟨g, 0, none⟩), .int .i64 0])) := new_l w.heap.size 2 (-1) w (Nat.le_refl _) (by omega) (by omega) (by omega)
  go_enter Try.func10, Try.ntmps10
  go_wp2_with fail
  (with_reducible refine KN.mono ?_)
  rintro e w1 ⟨g, F1, rfl, D1, -, b1⟩
  clear KN
  have KA := append_l w.heap.size F1 g dA0 (some ⟨w1.heap.size, 0, none⟩) 3 3 [97, 98, 99] _ (D1.below (below_alloc w1 (.cells #[.int .u8 97, .int .u8 98, .int .u8 99] 5))) (bytesV_litD w1 #[.int .u8 97, .int .u8 98, .int .u8 99] 5 (0, 0) 3 [97, 98, 99] rfl rfl (bytes_of (by decide)) (by omega)) D1.new (by decide)
  have HB1 := Lib.hid (b1.alloc b1.size (.cells #[.int .u8 97, .int .u8 98, .int .u8 99] 5))
  have HL1 := Lib.hid D1.lo
  clear D1 b1
  go_wp2_with fail
  (with_reducible refine KA.mono ?_)
  rintro e w2 ⟨rfl, F2, D2, -, hc2⟩
  have HB2 := Lib.hid (chF_lo HB1.out hc2 HL1.out HB1.out.size)
  clear KA HB1 HL1 hc2
  have KS := sync_l w.heap.size F2 g dA1 w2 D2
  have HL2 := Lib.hid D2.lo
  clear D2
  go_wp2_with fail
  (with_reducible refine KS.mono ?_)
  rintro e w3 ⟨rfl, F3, D3, -, hc3⟩
  have HB3 := Lib.hid (chF_lo HB2.out hc3 HL2.out HB2.out.size)
  clear KS HB2 HL2 hc3
  have KA := append_l w.heap.size F3 g dA2 (some ⟨w3.heap.size, 0, none⟩) 2 2 [100, 101] _ (D3.below (below_alloc w3 (.cells #[.int .u8 100, .int .u8 101] 5))) (bytesV_litD w3 #[.int .u8 100, .int .u8 101] 5 (0, 0) 2 [100, 101] rfl rfl (bytes_of (by decide)) (by omega)) D3.new (by decide)
  have HB4 := Lib.hid (HB3.out.alloc HB3.out.size (.cells #[.int .u8 100, .int .u8 101] 5))
  have HL3 := Lib.hid D3.lo
  clear D3 HB3
  go_wp2_with fail
  (with_reducible refine KA.mono ?_)
  rintro e w4 ⟨rfl, F4, D4, -, hc4⟩
  have HB5 := Lib.hid (chF_lo HB4.out hc4 HL3.out HB4.out.size)
  clear KA HB4 HL3 hc4
  have KW := write_l w.heap.size F4 g dA3 1 (some ⟨w4.heap.size, 0, none⟩) 4 4 [119, 120, 121, 122] _ (D4.below (below_alloc w4 (.cells #[.int .u8 119, .int .u8 120, .int .u8 121, .int .u8 122] 5 (4, 5)))) (bytesV_litD w4 #[.int .u8 119, .int .u8 120, .int .u8 121, .int .u8 122] 5 (4, 5) 4 [119, 120, 121, 122] rfl rfl (bytes_of (by decide)) (by omega)) D4.new
  have HB6 := Lib.hid (HB5.out.alloc HB5.out.size (.cells #[.int .u8 119, .int .u8 120, .int .u8 121, .int .u8 122] 5 (4, 5)))
  have HL4 := Lib.hid D4.lo
  clear D4 HB5
  go_wp2_with fail
  (with_reducible refine KW.mono ?_)
  rintro e w5 ⟨rfl, F5, D5, -, hc5⟩
  have HB7 := Lib.hid (chF_lo HB6.out hc5 HL4.out HB6.out.size)
  clear KW HB6 HL4 hc5 kc
  have KL := left_l w.heap.size F5 g dA4 1 false (some ⟨w5.heap.size, 0, none⟩) 1 1 [1] (-1) _ (D5.below (below_alloc w5 (.cells #[.int .i64 1] 3))) (intsV_litD w5 #[.int .i64 1] 3 1 [1] rfl rfl (by omega)) (by omega) (by decide +kernel) (by decide +kernel) (fun z hz => by simp at hz; omega)
  have HB8 := Lib.hid (HB7.out.alloc HB7.out.size (.cells #[.int .i64 1] 3))
  clear D5 HB7
  go_wp2_with fail
  (with_reducible refine KL.mono ?_)
  rintro e w6 ⟨gl, F6, rfl, D6, -, b6⟩
  have HB9 := Lib.hid (HB8.out.trans (b6.mono HB8.out.size))
  clear KL HB8 b6
  have KR := read_l w.heap.size F6 gl dA5 1 w6 D6
  rw [dA5_read] at KR
  have HD6 := Lib.hid D6
  clear D6
  go_wp2_with fail
  (with_reducible refine KR.mono ?_)
  rintro e w7 ⟨a7, c7, rfl, o7, b7⟩
  clear KR
  have D7 := HD6.out.below b7
  have HB10 := Lib.hid (HB9.out.trans (b7.mono HB9.out.size))
  have HX := Lib.hid (bytesV_of_owns o7 (bytes_of (l := [119, 120, 121, 122]) (by decide)) (by simp))
  have KLg := log_any F6 gl dA5 w7 D7.m
  rw [dA5_log] at KLg
  have HD7 := Lib.hid D7
  clear o7 b7 HD6 HB9 D7
  go_wp2_with fail
  (with_reducible refine KLg.mono ?_)
  rintro e w8 ⟨a8, c8, rfl, o8, b8⟩
  clear KLg
  have hcv1 := conv_four 97 98 99 100 w8 a8 c8 (by omega) (by omega) (by omega) (by omega) (bytesV_of_owns o8 (bytes_of (l := [97, 98, 99, 100]) (by decide)) (by simp))
  have hcv2 := conv_four 119 120 121 122 w8 a7 c7 (by omega) (by omega) (by omega) (by omega) (HX.out.below b8)
  rw [show (#[UInt8.ofNat 97, UInt8.ofNat 98, UInt8.ofNat 99, UInt8.ofNat 100] : Array UInt8) = #[97, 98, 99, 100] from rfl] at hcv1
  rw [show (#[UInt8.ofNat 119, UInt8.ofNat 120, UInt8.ofNat 121, UInt8.ofNat 122] : Array UInt8) = #[119, 120, 121, 122] from rfl] at hcv2
  have KSl := slots_any F6 gl dA5 w8 (HD7.out.below b8).m
  rw [dA5_n] at KSl
  have HB11 := Lib.hid (HB10.out.trans (b8.mono HB10.out.size))
  clear HD7 o8 b8 HX HB10
  simp only [List.length_cons, List.length_nil, Nat.zero_add, Nat.reduceAdd]
  go_wp2_with fail
  (with_reducible refine KSl.mono ?_)
  rintro e w9 ⟨rfl, hw9⟩
  subst hw9
  clear KSl
  go_wp2
  go_ret
  exact ⟨rfl, HB11.out⟩
end Go.Proofs.Ytdidalcflkphnaa
