/-
  sha: Same; alive; ShaSame.
-/
import Derived.Test.YthofndobmiamjaaDoorShI
import Derived.Laws.IdiomStrings
import Derived.Lib.SlBytesConst
namespace Go.Proofs.YthofndobmiamjaaDoor
open Go.RowKit

def keyS (s : ByteArray) : List Nat := s.data.toList.map UInt8.toNat
def strS (l : List Nat) : ByteArray := ⟨(l.map UInt8.ofNat).toArray⟩
theorem keyS_strS {l : List Nat} (h : Bytes l) : keyS (strS l) = l := by
  unfold keyS strS
  simp only [List.map_map]
  exact (List.map_congr_left (fun x hx => by show (UInt8.ofNat x).toNat = id x; have := h x hx; simp; omega)).trans (List.map_id l)
theorem strS_eq {l m : List Nat} (h : Bytes l) (k : Bytes m) : strS l = strS m ↔ l = m :=
  ⟨fun e => by rw [← keyS_strS h, ← keyS_strS k, e], fun e => by rw [e]⟩
theorem convS_any (w : World) (a : Option Addr) (n c : Nat) (l : List Nat) (h : BytesV w (a, n, c) l) : (convert 24 9 (.slice a n c)).run Tryd.prog w = .ok (.string (strS l)) w := by
  have hl : l.length = n := h.length
  cases a with
  | none =>
    have h0 : c = 0 := h.nil rfl
    have h1 : n ≤ c := h.cap
    obtain rfl : n = 0 := by omega
    obtain rfl : l = [] := List.eq_nil_of_length_eq_zero hl
    rw [run_convert_bytes_string w 24 9 5 none 0 c Tryd.underlying24 Tryd.underlying5 Tryd.underlying9]
    simp [Conv.bytesToString]
    rfl
  | some x =>
    have := run_convert_bytes_back (P := Tryd.prog) w 24 9 5 x c (l.map UInt8.ofNat) Tryd.underlying24 Tryd.underlying5 Tryd.underlying9 (fun j hj => by
      have hj2 : j < l.length := by simpa using hj
      obtain ⟨b, o, e, hc⟩ := h.row.2 (by simp only; omega)
      injection e with e
      subst e
      have h2 := hc j (by simp only; omega)
      rw [List.getElem?_map, List.getElem?_eq_getElem hj2] at h2
      have h3 := h.bytes _ (List.getElem_mem hj2)
      rw [show (⟨b, o, none⟩ : Addr).add j = ⟨b, o + j, none⟩ by unfold Addr.add; split <;> simp_all]
      refine h2.trans ?_
      rw [List.getElem_map]
      show some (Value.int .u8 _) = _
      congr 2
      simp
      omega)
    rw [List.length_map, hl] at this
    exact this
set_option maxRecDepth 100000 in
set_option maxHeartbeats 4000000 in
theorem bytesEqualS_any (a : Option Addr) (n c : Nat) (l : List Nat) (b : Option Addr) (m d : Nat) (k : List Nat) (w : World) (h1 : BytesV w (a, n, c) l) (h2 : BytesV w (b, m, d) k) :
    Calls Tryd.prog 34 #[.slice a n c, .slice b m d] w fun e w' => e = .returned (.bool (decide (l = k))) ∧ w' = w := by
  have k1 := convS_any w a n c l h1
  have k2 := convS_any w b m d k h2
  have he : ((strS l).toList == (strS k).toList) = decide (l = k) := by
    rw [ByteArray.toList_eq, ByteArray.toList_eq]
    by_cases e : l = k
    · subst e; rw [decide_eq_true rfl, beq_iff_eq]
    · rw [decide_eq_false e]
      exact beq_eq_false_iff_ne.2 (fun h => e ((strS_eq h1.bytes h2.bytes).1 (by
        have h2 : (strS l).data = (strS k).data := Array.toList_inj.1 h
        cases hl : strS l; cases hk : strS k; rw [hl, hk] at h2; simpa using h2)))
  have HE := Lib.hid he
  clear h1 h2 he
  go_enter Tryd.func34, Tryd.ntmps34
  go_wp2
  go_ret
  exact ⟨by show Ending.returned (.bool ((strS l).toList == (strS k).toList)) = _; rw [HE.out], rfl⟩
set_option maxRecDepth 100000 in
set_option maxHeartbeats 4000000 in
theorem same_any (a : Option Addr) (n c : Nat) (l : List Nat) (b : Option Addr) (m d : Nat) (k : List Nat) (w : World) (h1 : BytesV w (a, n, c) l) (h2 : BytesV w (b, m, d) k) :
    Calls Tryd.prog 15 #[.slice a n c, .slice b m d] w fun e w' => e = .returned (.bool (decide (l.length = 32 ∧ l = k))) ∧ w' = w := by
  have hl : l.length = n := h1.length
  have K := bytesEqualS_any a n c l b m d k w h1 h2
  have HL := Lib.hid hl
  clear h1 h2 hl
  by_cases e : n = 32
  · subst e
    go_enter Tryd.func15, Tryd.ntmps15
    go_wp2_with fail
    (with_reducible refine K.mono ?_)
    rintro e w' ⟨rfl, rfl⟩
    clear K
    go_wp2
    go_ret
    refine ⟨?_, rfl⟩
    have := HL.out
    by_cases e : l = k <;> simp [e, this]
    subst e
    exact this
  · clear K
    go_enter Tryd.func15, Tryd.ntmps15
    go_wp2
    go_ret
    have := HL.out
    exact ⟨by rw [decide_eq_false (fun h => e (by rw [← this]; exact h.1))]; rfl, rfl⟩
theorem bytesV_mark (w : World) (cs : Array Value) (T : TypeId) (fr : Nat × Nat) (b n : Nat) (l : List Nat) (hb : b = w.heap.size) (hcs : cs.toList = l.map bv) (hn : l.length = n) (hl : Bytes l) (hs : n ≤ 140737488355328) :
    BytesV (w.alloc (.cells cs T fr)) (some ⟨b, 0, none⟩, n, n) l := by
  subst hb
  refine ⟨⟨by simpa using hn, fun _ => ⟨w.heap.size, 0, rfl, fun i hi => ?_⟩⟩, hl, hs, Nat.le_refl _, fun h => by cases h⟩
  rw [cell_of_row _ _ _ _ _ _ (heap_alloc_new w _), ← hcs]
  simp
set_option maxRecDepth 100000 in
set_option maxHeartbeats 4000000 in
theorem alive_any (w : World) (hsk : SK w) (hck : CK w) : Calls Tryd.prog 8 #[] w fun e w' => e = .returned (.bool true) ∧ Below w.heap.size w w' := by
  have b1 : Below w.heap.size w (((w.alloc (.cells #[.int .u8 97] 5 (1, 2))).alloc (.cells #[.int .u8 98, .int .u8 99] 5 (2, 3))).alloc (.cells #[.slice (some ⟨w.heap.size, 0, none⟩) 1 1, .slice (some ⟨w.heap.size + 1, 0, none⟩) 2 2] 24)) := (below_alloc w _).trans (((below_alloc _ _).mono (by simp)).trans ((below_alloc _ _).mono (by simp <;> omega)))
  have KS : Calls Tryd.prog 11 #[.slice (some ⟨w.heap.size + 1 + 1, 0, none⟩) 2 2] (((w.alloc (.cells #[.int .u8 97] 5 (1, 2))).alloc (.cells #[.int .u8 98, .int .u8 99] 5 (2, 3))).alloc (.cells #[.slice (some ⟨w.heap.size, 0, none⟩) 1 1, .slice (some ⟨w.heap.size + 1, 0, none⟩) 2 2] 24)) (GivesBytes 5 (((w.alloc (.cells #[.int .u8 97] 5 (1, 2))).alloc (.cells #[.int .u8 98, .int .u8 99] 5 (2, 3))).alloc (.cells #[.slice (some ⟨w.heap.size, 0, none⟩) 1 1, .slice (some ⟨w.heap.size + 1, 0, none⟩) 2 2] 24)) (shaR [97, 98, 99])) := by
    refine sum_any _ 2 2 [(some ⟨w.heap.size, 0, none⟩, 1, 1), (some ⟨w.heap.size + 1, 0, none⟩, 2, 2)] [[97], [98, 99]] _ (rowV_lit _ _ _ _ _ _ (by simp) rfl rfl) (by decide) (fun e => by cases e) ?_ (by decide) (hsk.below b1 (Nat.le_refl _)) (hck.below b1 (Nat.le_refl _))
    refine rowsV_cons ?_ (rowsV_cons ?_ (rowsV_nil _))
    · exact ((bytesV_mark w #[.int .u8 97] 5 (1, 2) _ 1 [97] rfl rfl rfl (bytes_of (by decide)) (by decide)).below (below_alloc _ _)).below (below_alloc _ _)
    · exact (bytesV_mark (w.alloc (.cells #[.int .u8 97] 5 (1, 2))) #[.int .u8 98, .int .u8 99] 5 (2, 3) _ 2 [98, 99] (by simp) rfl rfl (bytes_of (by decide)) (by decide)).below (below_alloc _ _)
  have B1 := Lib.hid b1
  have hcv1 : (convert 24 24 (.slice (some ⟨w.heap.size, 0, none⟩) 1 1)).run Tryd.prog (w.alloc (.cells #[.int .u8 97] 5)) = .ok (.slice (some ⟨w.heap.size, 0, none⟩) 1 1) (w.alloc (.cells #[.int .u8 97] 5 (1, 2))) := Lib.run_convert_bytes_const (P := Tryd.prog) w 24 5 #[.int .u8 97] 1 1 Tryd.underlying24 Tryd.underlying5
  have hcv2 : (convert 24 24 (.slice (some ⟨w.heap.size + 1, 0, none⟩) 2 2)).run Tryd.prog ((w.alloc (.cells #[.int .u8 97] 5 (1, 2))).alloc (.cells #[.int .u8 98, .int .u8 99] 5)) = .ok (.slice (some ⟨w.heap.size + 1, 0, none⟩) 2 2) ((w.alloc (.cells #[.int .u8 97] 5 (1, 2))).alloc (.cells #[.int .u8 98, .int .u8 99] 5 (2, 3))) := by
    have := Lib.run_convert_bytes_const (P := Tryd.prog) (w.alloc (.cells #[.int .u8 97] 5 (1, 2))) 24 5 #[.int .u8 98, .int .u8 99] 2 2 Tryd.underlying24 Tryd.underlying5
    simpa using this
  clear hsk hck b1
  go_enter Tryd.func8, Tryd.ntmps8
  go_wp2_with fail
  (with_reducible refine KS.mono ?_)
  rintro e W2 ⟨a2, c2, rfl, hown, hb2⟩
  rw [sha_abc] at hown
  obtain ⟨a3, c3, e3, hcase, -, -, hrow⟩ := ownsRow_parts hown
  simp only [Value.slice.injEq] at e3
  obtain ⟨rfl, -, rfl⟩ := e3
  obtain ⟨b, o, rfl, hc⟩ := hrow.2 (by decide)
  have h0 : W2.cell? ⟨b, o, none⟩ = some (.int .u8 186) := hc 0 (by decide)
  have h1 : W2.cell? ⟨b, o + 1, none⟩ = some (.int .u8 120) := hc 1 (by decide)
  have h31 : W2.cell? ⟨b, o + 31, none⟩ = some (.int .u8 173) := hc 31 (by decide)
  have hbel := B1.out.trans (hb2.mono B1.out.size)
  have HBEL := Lib.hid hbel
  rw [sha_abc]
  clear hown hcase hrow hc hb2 hbel KS hcv1 hcv2
  simp only [List.length_cons, List.length_nil]
  go_wp2
  go_ret
  exact ⟨rfl, HBEL.out⟩
set_option maxRecDepth 100000 in
set_option maxHeartbeats 4000000 in
theorem shaSame_walk (a0 : Option Addr) (n0 c0 : Nat) (l0 : List Nat) (a1 : Option Addr) (n1 c1 : Nat) (l1 : List Nat) (W : World) (hg : SK W ∧ CK W) (w0 : BytesV W (a0, n0, c0) l0) (_s0 : n0 ≤ 140737488351232) (w1 : BytesV W (a1, n1, c1) l1) (_s1 : n1 ≤ 140737488351232) :
    Calls Tryd.prog 5 #[.slice a0 n0 c0, .slice a1 n1 c1] W fun e W' => e = .returned (.bool true) ∧ Below W.heap.size W W' := by
  have HW0 := Lib.hid w0
  have HW1 := Lib.hid w1
  have KA := alive_any W hg.1 hg.2
  clear w0 w1 hg
  go_enter Tryd.func5, Tryd.ntmps5
  go_wp2_with fail
  (with_reducible refine KA.mono ?_)
  rintro e W1 ⟨rfl, hb1⟩
  clear KA
  go_wp2_with fail
  (with_reducible refine (copyBytes_any a0 n0 c0 l0 W1 (HW0.out.below hb1)).mono ?_)
  rintro e W2 ⟨x2, y2, rfl, hown2, hb2⟩
  have hb12 := hb1.trans (hb2.mono hb1.size)
  go_wp2_with fail
  (with_reducible refine (copyBytes_any a1 n1 c1 l1 W2 (HW1.out.below hb12)).mono ?_)
  rintro e W3 ⟨x3, y3, rfl, hown3, hb3⟩
  have hb13 := hb12.trans (hb3.mono hb12.size)
  have hs0 : l0.length ≤ 140737488355328 := by have := HW0.out.length; have := HW0.out.small; omega
  have hs1 : l1.length ≤ 140737488355328 := by have := HW1.out.length; have := HW1.out.small; omega
  have v2 := (bytesV_of_owns hown2 HW0.out.bytes hs0).below hb3
  have v3 := bytesV_of_owns hown3 HW1.out.bytes hs1
  have KS := same_any x2 _ y2 l0 x3 _ y3 l1 W3 v2 v3
  have HB13 := Lib.hid hb13
  clear hown2 hown3 hb1 hb2 hb3 hb12 hb13 v2 v3
  go_wp2_with fail
  (with_reducible refine KS.mono ?_)
  rintro e W4 ⟨rfl, rfl⟩
  clear KS
  have hl0 : l0.length = n0 := HW0.out.length
  by_cases e : n0 = 32
  · subst e
    rename World => W4
    have KB := sameBytes_any a0 32 c0 l0 a1 n1 c1 l1 W4 (HW0.out.below HB13.out) (HW1.out.below HB13.out)
    have HL0 := Lib.hid hl0
    clear hl0 hs0 hs1
    go_wp2_with fail
    (with_reducible refine KB.mono ?_)
    rintro e W5 ⟨rfl, hb5⟩
    clear KB
    go_wp2
    go_ret
    refine ⟨?_, HB13.out.trans (hb5.mono HB13.out.size)⟩
    simp [HL0.out]
  · have HL0 := Lib.hid hl0
    clear hl0 hs0 hs1
    go_wp2
    go_ret
    refine ⟨?_, HB13.out⟩
    simp [HL0.out, e]
end Go.Proofs.YthofndobmiamjaaDoor
