/-
  judge: bytes.Equal; has a state an act.
-/
import Derived.Test.YtnefcbcioemfiaaJdB
import Derived.Laws.IdiomStrings
import Derived.Test.YtnefcbcioemfiaaSink
import Derived.Laws.Rows
import Derived.Deep.CutBlock
import Derived.Deep.DeepCutAuto
import Derived.Deep.RegionHeld3
import Derived.Deep.RegionLaw
import Derived.Deep.AppendLies
namespace Go.Proofs.Ytnefcbcioemfiaa
open Go.RowKit

def byL (s : ByteArray) : List Nat := s.data.toList.map UInt8.toNat
def strJ (l : List Nat) : ByteArray := ⟨(l.map UInt8.ofNat).toArray⟩
theorem byL_strJ {l : List Nat} (h : Bytes l) : byL (strJ l) = l := by
  unfold byL strJ
  simp only [List.map_map]
  exact (List.map_congr_left (fun x hx => by show (UInt8.ofNat x).toNat = id x; have := h x hx; simp; omega)).trans (List.map_id l)
theorem strJ_eq {l m : List Nat} (h : Bytes l) (k : Bytes m) : strJ l = strJ m ↔ l = m :=
  ⟨fun e => by rw [← byL_strJ h, ← byL_strJ k, e], fun e => by rw [e]⟩
theorem conv_anyJ (w : World) (a : Option Addr) (n c : Nat) (l : List Nat) (h : BytesV w (a, n, c) l) : (convert 39 9 (.slice a n c)).run Try.prog w = .ok (.string (strJ l)) w := by
  have hl : l.length = n := h.length
  cases a with
  | none =>
    have h0 : c = 0 := h.nil rfl
    have h1 : n ≤ c := h.cap
    obtain rfl : n = 0 := by omega
    obtain rfl : l = [] := List.eq_nil_of_length_eq_zero hl
    rw [run_convert_bytes_string w 39 9 5 none 0 c Try.underlying39 Try.underlying5 Try.underlying9]
    simp [Conv.bytesToString]
    rfl
  | some x =>
    have := run_convert_bytes_back (P := Try.prog) w 39 9 5 x c (l.map UInt8.ofNat) Try.underlying39 Try.underlying5 Try.underlying9 (fun j hj => by
      have hj2 : j < l.length := by simpa using hj
      obtain ⟨b, o, e, hc⟩ := h.row.2 (by simp only; omega)
      injection e with e
      subst e
      have h2 := hc j (by simp only; omega)
      rw [List.getElem?_map, List.getElem?_eq_getElem hj2] at h2
      have h3 := h.bytes _ (List.getElem_mem hj2)
      rw [show (⟨b, o, none⟩ : Addr).add j = ⟨b, o + j, none⟩ by unfold Addr.add; split <;> simp_all]
      refine h2.trans ?_
      rw [List.getElem_map]
      show some (Value.int .u8 _) = _
      congr 2
      simp
      omega)
    rw [List.length_map, hl] at this
    exact this
set_option maxRecDepth 100000 in
set_option maxHeartbeats 4000000 in
theorem bytesEqual_anyJ (a : Option Addr) (n c : Nat) (l : List Nat) (b : Option Addr) (m d : Nat) (k : List Nat) (w : World) (h1 : BytesV w (a, n, c) l) (h2 : BytesV w (b, m, d) k) :
    Calls Try.prog 65 #[.slice a n c, .slice b m d] w fun e w' => e = .returned (.bool (decide (l = k))) ∧ w' = w := by
  have k1 := conv_anyJ w a n c l h1
  have k2 := conv_anyJ w b m d k h2
  have he : ((strJ l).toList == (strJ k).toList) = decide (l = k) := by
    rw [ByteArray.toList_eq, ByteArray.toList_eq]
    by_cases e : l = k
    · subst e; rw [decide_eq_true rfl, beq_iff_eq]
    · rw [decide_eq_false e]
      exact beq_eq_false_iff_ne.2 (fun h => e ((strJ_eq h1.bytes h2.bytes).1 (by
        have h2 : (strJ l).data = (strJ k).data := Array.toList_inj.1 h
        cases hl : strJ l; cases hk : strJ k; rw [hl, hk] at h2; simpa using h2)))
  have HE := Lib.hid he
  clear h1 h2 he
  go_enter Try.func65, Try.ntmps65
  go_wp2
  go_ret
  exact ⟨by show Ending.returned (.bool ((strJ l).toList == (strJ k).toList)) = _; rw [HE.out], rfl⟩

abbrev StT : TypeId := 71
theorem ofInt_u64 (a : Nat) (ha : a < 18446744073709551616) : (BitVec.ofInt 64 (a : Int)).toNat = a := by
  rw [BitVec.ofInt_natCast, BitVec.toNat_ofNat]; exact Nat.mod_eq_of_lt (by omega)
theorem wrap_u64_id (n : Int) (h0 : 0 ≤ n) (h1 : n < 18446744073709551616) : IntKind.u64.wrap n = n := by
  simp [IntKind.wrap, IntKind.bits, IntKind.signed]; omega
theorem u64_and_nat (a b : Nat) (ha : a < 18446744073709551616) (hb : b < 18446744073709551616) : bits .and .u64 (a : Int) (b : Int) = ((a &&& b : Nat) : Int) := by
  have hx : a &&& b < 2 ^ 64 := Nat.and_lt_two_pow _ (by omega)
  show IntKind.u64.wrap ((BitVec.ofInt 64 (a : Int) &&& BitVec.ofInt 64 (b : Int)).toNat : Int) = _
  rw [BitVec.toNat_and, ofInt_u64 a ha, ofInt_u64 b hb, wrap_u64_id _ (by omega) (by omega)]
theorem u64_or_nat (a b : Nat) (ha : a < 18446744073709551616) (hb : b < 18446744073709551616) : bits .or .u64 (a : Int) (b : Int) = ((a ||| b : Nat) : Int) := by
  have hx : a ||| b < 2 ^ 64 := Nat.or_lt_two_pow (by omega) (by omega)
  show IntKind.u64.wrap ((BitVec.ofInt 64 (a : Int) ||| BitVec.ofInt 64 (b : Int)).toNat : Int) = _
  rw [BitVec.toNat_or, ofInt_u64 a ha, ofInt_u64 b hb, wrap_u64_id _ (by omega) (by omega)]
set_option maxRecDepth 100000 in
theorem has_any (T i : Nat) (l : Int) (w : World) (hT : T < 2 ^ 64) (hi : i < 64) : Calls Try.prog 55 #[.agg #[.int .u64 (T : Int), .int .i64 l], .int .i64 (i : Int)] w fun e w' => e = .returned (.bool (T.testBit i)) ∧ Below w.heap.size w w' := by
  have hb := below_alloc w (.cells #[.int .u64 (T : Int), .int .i64 l] StT)
  have HT := Lib.hid hT
  clear hT
  go_enter Try.func55, Try.ntmps55
  go_wp2
  go_ret
  refine ⟨?_, hb⟩
  have e1 : ((T : Int) / 2 ^ i) = ((T / 2 ^ i : Nat) : Int) := by simp
  have e2 : bits .and .u64 ((T : Int) / 2 ^ i) 1 = ((T / 2 ^ i &&& 1 : Nat) : Int) := by
    rw [e1]
    have := HT.out
    have h3 := Nat.div_le_self T (2 ^ i)
    exact u64_and_nat _ 1 (by omega) (by omega)
  show Ending.returned (.bool (bits .and .u64 ((T : Int) / 2 ^ i) 1 == 1)) = _
  rw [e2, Nat.testBit, Nat.shiftRight_eq_div_pow, Nat.and_comm]
  congr 2
  rw [Nat.and_comm, Nat.and_one_is_mod]
  have h4 : T / 2 ^ i % 2 < 2 := Nat.mod_lt _ (by decide)
  generalize T / 2 ^ i % 2 = m at h4
  rcases m with _ | _ | m
  · rfl
  · rfl
  · omega
/-- the search in memory: what stays. -/
structure SrA (w : World) (sb : Nat) (a : Option Addr) (n c mb : Nat) (A : List ActR) : Prop where
  c0 : w.cell? ⟨sb, 0, none⟩ = some (.slice a n c)
  c1 : w.cell? ⟨sb, 1, none⟩ = some (.map (some mb))
  acts : ActsV w a n A
  nc : n ≤ c
  n12 : n ≤ 12
theorem SrA.below {w w' : World} {sb : Nat} {a : Option Addr} {n c mb : Nat} {A : List ActR} (h : SrA w sb a n c mb A) (hb : Below w.heap.size w w') : SrA w' sb a n c mb A := ⟨cellBelow h.c0 hb, cellBelow h.c1 hb, h.acts.below hb, h.nc, h.n12⟩
theorem SrA.lt {w : World} {sb : Nat} {a : Option Addr} {n c mb : Nat} {A : List ActR} (h : SrA w sb a n c mb A) : sb < w.heap.size := World.block_lt_of_cell? w ⟨sb, 0, none⟩ h.c0
abbrev PTR (b : Nat) : Value := .pointer (some ⟨b, 0, none⟩)
abbrev StV (T : Nat) (l : Int) : Value := .agg #[.int .u64 (T : Int), .int .i64 l]
structure BoxJ (w W : World) (b0 : Nat) (v0 v1 u0 u1 : Value) : Prop where
  h0 : W.heap[b0]? = some (.cells #[v0, v1] StT (0, 0))
  h1 : W.heap[b0 + 1]? = some (.cells #[u0, u1] StT (0, 0))
  low : Below w.heap.size w W
theorem BoxJ.start (w : World) (v0 v1 u0 u1 : Value) : BoxJ w ((w.alloc (.cells #[v0, v1] StT)).alloc (.cells #[u0, u1] StT)) w.heap.size v0 v1 u0 u1 := by
  refine ⟨?_, ?_, (below_alloc w _).alloc (by simp) _⟩
  · rw [heap_alloc_old _ _ (by simp)]; exact heap_alloc_new _ _
  · have := heap_alloc_new (w.alloc (.cells #[v0, v1] StT)) (.cells #[u0, u1] StT); simpa using this
theorem BoxJ.cells {w W : World} {b0 : Nat} {v0 v1 u0 u1 : Value} (h : BoxJ w W b0 v0 v1 u0 u1) : W.cell? ⟨b0, 0, none⟩ = some v0 ∧ W.cell? ⟨b0, 1, none⟩ = some v1 ∧ W.cell? ⟨b0 + 1, 0, none⟩ = some u0 ∧ W.cell? ⟨b0 + 1, 1, none⟩ = some u1 ∧ (∀ j, W.frozen? ⟨b0, j, none⟩ = false) ∧ ∀ j, W.frozen? ⟨b0 + 1, j, none⟩ = false :=
  ⟨cell_of_row _ _ 0 _ _ _ h.h0, cell_of_row _ _ 1 _ _ _ h.h0, cell_of_row _ _ 0 _ _ _ h.h1, cell_of_row _ _ 1 _ _ _ h.h1, fun _ => frozen_of_row _ _ _ _ _ h.h0, fun _ => frozen_of_row _ _ _ _ _ h.h1⟩
theorem BoxJ.drew {w W : World} {b0 : Nat} {v0 v1 u0 u1 : Value} (h : BoxJ w W b0 v0 v1 u0 u1) : BoxJ w W.drew b0 v0 v1 u0 u1 := ⟨h.h0, h.h1, h.low.drew⟩
theorem BoxJ.set0 {w W : World} {b0 : Nat} {v0 v1 u0 u1 : Value} (h : BoxJ w W b0 v0 v1 u0 u1) (hb : w.heap.size ≤ b0) (v : Value) : BoxJ w (W.setCell ⟨b0, 0, none⟩ v) b0 v v1 u0 u1 :=
  ⟨heap_setCell_same _ _ 0 _ _ _ h.h0, (heap_setCell_other _ _ _ _ (by simp)).trans h.h1, h.low.setCell (p := ⟨b0, 0, none⟩) hb v⟩
theorem BoxJ.set1 {w W : World} {b0 : Nat} {v0 v1 u0 u1 : Value} (h : BoxJ w W b0 v0 v1 u0 u1) (hb : w.heap.size ≤ b0) (v : Value) : BoxJ w (W.setCell ⟨b0, 1, none⟩ v) b0 v0 v u0 u1 :=
  ⟨heap_setCell_same _ _ 1 _ _ _ h.h0, (heap_setCell_other _ _ _ _ (by simp)).trans h.h1, h.low.setCell (p := ⟨b0, 1, none⟩) hb v⟩
theorem BoxJ.put {w W : World} {v0 v1 u0 u1 : Value} (h : BoxJ w W w.heap.size v0 v1 u0 u1) {a b : Value} : ((W.setCell ⟨w.heap.size + 1, 0, none⟩ a).setCell ⟨w.heap.size + 1, 1, none⟩ b).heap[w.heap.size + 1]? = some (.cells #[a, b] StT (0, 0)) ∧ Below w.heap.size w ((W.setCell ⟨w.heap.size + 1, 0, none⟩ a).setCell ⟨w.heap.size + 1, 1, none⟩ b) :=
  ⟨heap_setCell_same _ _ 1 _ _ _ (heap_setCell_same _ _ 0 _ _ _ h.h1), (h.low.setCell (p := ⟨w.heap.size + 1, 0, none⟩) (Nat.le_succ _) _).setCell (p := ⟨w.heap.size + 1, 1, none⟩) (Nat.le_succ _) _⟩
set_option maxRecDepth 100000 in
theorem behind_any (sb : Nat) (a : Option Addr) (n c mb : Nat) (A : List ActR) (T i : Nat) (l : Int) (w : World) (h : SrA w sb a n c mb A) (hT : T < 2 ^ 64) (hi : i < n) :
    Calls Try.prog 46 #[PTR sb, StV T l, .int .i64 (i : Int)] w fun e w' => e = .returned (StV (behT T i) (behL A l i)) ∧ Below w.heap.size w w' := by
  have hnc : n ≤ c := h.nc
  have h12 : n ≤ 12 := h.n12
  have hn1 : (i : Int) < (n : Int) := by omega
  have hi0 : (0 : Int) ≤ (i : Int) := by omega
  obtain ⟨b, o, B, x, y, z, rfl, -, hB, at_⟩ := h.acts.at hi
  have q0 := h.c0
  have q1 := at_.c1
  obtain ⟨R, hR⟩ : ∃ R, R = behL A l i := ⟨_, rfl⟩
  have hR' : R = if B.d = 2 then l else i := by rw [hR, ← hB]; rfl
  rw [← hR]
  have hsl := h.lt
  clear hR at_ hB h
  have HT := Lib.hid hT
  clear hT
  have hbl : b < w.heap.size := World.block_lt_of_cell? w ⟨b, o + i * 15 + 1, none⟩ q1
  have nsb : ¬ sb = w.heap.size := by omega
  have nb : ¬ b = w.heap.size := by omega
  have HO : Hid (bits .or .u64 (T : Int) (IntKind.u64.wrap ((2 : Int) ^ i)) = ((behT T i : Nat) : Int)) := Lib.hid (by
    have e : ((2 : Int) ^ i) = ((2 ^ i : Nat) : Int) := by simp
    have h2 : (2 : Nat) ^ i < 2 ^ 64 := Nat.pow_lt_pow_right (by omega) (by omega)
    have h3 := HT.out
    rw [e]
    unfold behT
    generalize 2 ^ i = p at h2
    rw [wrap_u64_id _ (by omega) (by omega), u64_or_nat _ _ (by omega) (by omega)])
  go_enter Try.func46, Try.ntmps46
  go_wp2
  have K0 := BoxJ.start w (.int .u64 (T : Int)) (.int .i64 l) (.int .u64 0) (.int .i64 0)
  have HSl : Hid (b < w.heap.size ∧ sb < w.heap.size) := Lib.hid ⟨hbl, hsl⟩
  have Q0 := Lib.hid q0
  have Q1 := Lib.hid q1
  clear q0 q1 hsl hbl
  refine (?_ : ∀ W : World, BoxJ w W w.heap.size (.int .u64 (T : Int)) (.int .i64 l) (.int .u64 0) (.int .i64 0) → Code.wp Try.prog _ _ _ W) _ K0
  clear K0
  intro W hW
  obtain ⟨x0, x1, y0, y1, f0, f1⟩ := hW.cells
  have f00 := f0 0
  have HW := Lib.hid hW
  clear hW f0 f1
  go_still_tail 6, (by kernel_rfl)
  go_upto_region 2 with fail
  rw [HO.out]
  refine (?_ : ∀ W : World, BoxJ w W w.heap.size (.int .u64 (behT T i : Nat)) (.int .i64 l) (.int .u64 0) (.int .i64 0) → Code.wp Try.prog _ _ _ W) _ (HW.out.set0 (Nat.le_refl _) _).drew
  clear HW x0 x1 y0 y1 f00
  intro W hW
  obtain ⟨x0, x1, y0, y1, f0, f1⟩ := hW.cells
  have f00 := f0 1
  have g0 := f1 0
  have g1 := f1 1
  have q0 := cellBelow Q0.out hW.low
  have q1 := cellBelow Q1.out hW.low
  have HW := Lib.hid hW
  clear hW f0 f1
  by_cases hd : B.d = 2
  · have hT : R = l := by rw [hR', if_pos hd]
    have HR := Lib.hid hT
    have e2 : (B.d != 2) = false := by simpa using hd
    clear hR' hd hT
    go_wp2
    refine bodyPost_ret (results_cell_row rfl _ _ (w.heap.size + 1) StT #[.int .u64 (behT T i : Nat), .int .i64 l] (0, 0) _ rfl ?_ Try.underlying71 rfl (by kernel_rfl)) rfl ⟨by rw [HR.out], ?_⟩
    · exact (HW.out.put).1
    · exact (HW.out.put).2
  · have hT : R = i := by rw [hR', if_neg hd]
    have HR := Lib.hid hT
    have e2 : (B.d != 2) = true := by simpa using hd
    clear hR' hd hT
    go_wp2
    refine bodyPost_ret (results_cell_row rfl _ _ (w.heap.size + 1) StT #[.int .u64 (behT T i : Nat), .int .i64 i] (0, 0) _ rfl ?_ Try.underlying71 rfl (by kernel_rfl)) rfl ⟨by rw [HR.out], ?_⟩
    · exact ((HW.out.set1 (Nat.le_refl _) _).put).1
    · exact ((HW.out.set1 (Nat.le_refl _) _).put).2
end Go.Proofs.Ytnefcbcioemfiaa
