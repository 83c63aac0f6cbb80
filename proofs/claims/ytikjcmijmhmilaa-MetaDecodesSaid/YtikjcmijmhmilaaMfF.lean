/-
  meta's reader: a number, a text, read or not there; bytes as a string; bytes.Equal.
-/
import Derived.Test.YtikjcmijmhmilaaMfE
import Derived.Test.YtikjcmijmhmilaaFrC
import Derived.Laws.IdiomStrings
namespace Go.Proofs.Ytikjcmijmhmilaa
open Go.RowKit

def strOf (l : List Nat) : ByteArray := ⟨(l.map UInt8.ofNat).toArray⟩
theorem keyL_strOf {l : List Nat} (h : Bytes l) : keyL (strOf l) = l := by
  unfold keyL strOf
  simp only [List.map_map]
  exact (List.map_congr_left (fun x hx => by show (UInt8.ofNat x).toNat = id x; have := h x hx; simp; omega)).trans (List.map_id l)
theorem strOf_keyL (s : ByteArray) : strOf (keyL s) = s := by
  unfold keyL strOf
  have e : (s.data.toList.map UInt8.toNat).map UInt8.ofNat = s.data.toList := by
    rw [List.map_map]
    exact (List.map_congr_left (fun x _ => by show UInt8.ofNat x.toNat = id x; simp)).trans (List.map_id _)
  rw [e]
theorem strOf_eq {l m : List Nat} (h : Bytes l) (k : Bytes m) : strOf l = strOf m ↔ l = m :=
  ⟨fun e => by rw [← keyL_strOf h, ← keyL_strOf k, e], fun e => by rw [e]⟩
theorem strOf_size (l : List Nat) : (strOf l).size = l.length := by simp [strOf, ByteArray.size]
theorem conv_any (w : World) (a : Option Addr) (n c : Nat) (l : List Nat) (h : BytesR w (a, n, c) l) : (convert 32 9 (.slice a n c)).run Try.prog w = .ok (.string (strOf l)) w := by
  have hl : l.length = n := h.length
  cases a with
  | none =>
    have h0 : c = 0 := h.nil rfl
    have h1 : n ≤ c := h.cap
    obtain rfl : n = 0 := by omega
    obtain rfl : l = [] := List.eq_nil_of_length_eq_zero hl
    rw [run_convert_bytes_string w 32 9 5 none 0 c Try.underlying32 Try.underlying5 Try.underlying9]
    simp [Conv.bytesToString]
    rfl
  | some x =>
    have := run_convert_bytes_back (P := Try.prog) w 32 9 5 x c (l.map UInt8.ofNat) Try.underlying32 Try.underlying5 Try.underlying9 (fun j hj => by
      have hj2 : j < l.length := by simpa using hj
      obtain ⟨b, o, e, hc⟩ := h.row.2 (by simp only; omega)
      injection e with e
      subst e
      have h2 := hc j (by simp only; omega)
      rw [List.getElem?_map, List.getElem?_eq_getElem hj2] at h2
      have h3 := h.bytes _ (List.getElem_mem hj2)
      rw [show (⟨b, o, none⟩ : Addr).add j = ⟨b, o + j, none⟩ by unfold Addr.add; split <;> simp_all]
      refine h2.trans ?_
      rw [List.getElem_map]
      show some (Value.int .u8 _) = _
      congr 2
      simp
      omega)
    rw [List.length_map, hl] at this
    exact this
set_option maxRecDepth 100000 in
set_option maxHeartbeats 4000000 in
theorem bytesEqual_any (a : Option Addr) (n c : Nat) (l : List Nat) (b : Option Addr) (m d : Nat) (k : List Nat) (w : World) (h1 : BytesR w (a, n, c) l) (h2 : BytesR w (b, m, d) k) :
    Calls Try.prog 36 #[.slice a n c, .slice b m d] w fun e w' => e = .returned (.bool (decide (l = k))) ∧ w' = w := by
  have k1 := conv_any w a n c l h1
  have k2 := conv_any w b m d k h2
  have he : ((strOf l).toList == (strOf k).toList) = decide (l = k) := by
    rw [ByteArray.toList_eq, ByteArray.toList_eq]
    by_cases e : l = k
    · subst e; rw [decide_eq_true rfl, beq_iff_eq]
    · rw [decide_eq_false e]
      exact beq_eq_false_iff_ne.2 (fun h => e ((strOf_eq h1.bytes h2.bytes).1 (by
        have h2 : (strOf l).data = (strOf k).data := Array.toList_inj.1 h
        cases hl : strOf l; cases hk : strOf k; rw [hl, hk] at h2; simpa using h2)))
  have HE := Lib.hid he
  clear h1 h2 he
  go_enter Try.func36, Try.ntmps36
  go_wp2
  go_ret
  exact ⟨by show Ending.returned (.bool ((strOf l).toList == (strOf k).toList)) = _; rw [HE.out], rfl⟩
abbrev PE90 : List PanicEntry := [{ v := .iface 39 (.int .i64 90), recovered := false }]
/-- a reader that has these bytes left. -/
def RdV (u w : World) (b : Nat) (l : List Nat) : Prop := ∃ ad n c, BytesR u (ad, n, c) l ∧ w.heap[b]? = some (.cells #[.slice ad n c] RT1 (0, 0))
theorem RdV.of_block {u w w' : World} {b : Nat} {l : List Nat} (h : RdV u w b l) (hb : w'.heap[b]? = w.heap[b]?) : RdV u w' b l := by
  obtain ⟨ad, n, c, h1, h2⟩ := h
  exact ⟨ad, n, c, h1, hb.trans h2⟩
theorem RdV.lt {u w : World} {b : Nat} {l : List Nat} (h : RdV u w b l) : b < w.heap.size := by
  obtain ⟨ad, n, c, h1, h2⟩ := h
  exact (Array.getElem?_eq_some_iff.1 h2).1
theorem below_on {u w w' : World} {b : Nat} (hu : Below u.heap.size u w) (hub : u.heap.size ≤ b) (hg : w.grownBy w' (some b)) : Below u.heap.size u w' := hu.grown hg hu.size (fun q hq => by injection hq with hq; omega)
theorem numRd (b m : Nat) (s : Sc) (u w : World) (hu : Below u.heap.size u w) (hub : u.heap.size ≤ b) (hr : RdV u w b s.l) (hs : s.bad = false) (hm4 : m ≤ 4) (v : Int) (hv : (m : Int) = v) :
    Calls Try.prog 49 #[.pointer (some ⟨b, 0, none⟩), .int .i64 v] w fun e w' => w.grownBy w' (some b) ∧ (((s.num m).bad = true ∧ e = .panicked PE90) ∨ ((s.num m).bad = false ∧ e = .returned (.int .i64 (s.val m : Nat)) ∧ RdV u w' b (s.num m).l)) := by
  subst hv
  obtain ⟨ad, n, c, h1, h2⟩ := hr
  have hl : s.l.length = n := h1.length
  by_cases hlt : n < m
  · refine (number_no b m ad n c w h2 hlt).mono ?_
    rintro e w' ⟨rfl, rfl⟩
    exact ⟨World.grownBy_refl _ _, .inl ⟨by simp only [Sc.num, hl, decide_eq_true hlt, Bool.or_true], rfl⟩⟩
  · refine (number_yes b m ad n c s.l u w hu hub h1 h2 (by omega) hm4).mono ?_
    rintro e w' ⟨a', c', rfl, hd, hh, hg⟩
    refine ⟨hg, .inr ⟨by simp only [Sc.num, hl, decide_eq_false hlt, hs, Bool.or_false], ?_, a', n - m, c', hd, hh⟩⟩
    unfold Sc.val
    rw [hl, if_neg hlt]
theorem takeRd (b m : Nat) (l : List Nat) (u w : World) (hr : RdV u w b l) :
    Calls Try.prog 54 #[.pointer (some ⟨b, 0, none⟩), .int .i64 m] w fun e w' => w.grownBy w' (some b) ∧ ((l.length < m ∧ e = .panicked PE90) ∨ (m ≤ l.length ∧ ∃ a c1, e = .returned (.slice a m c1) ∧ BytesR u (a, m, c1) (l.take m) ∧ RdV u w' b (l.drop m))) := by
  obtain ⟨ad, n, c, h1, h2⟩ := hr
  have hl : l.length = n := h1.length
  by_cases hlt : n < m
  · refine (take_no b m ad n c w h2 hlt).mono ?_
    rintro e w' ⟨rfl, rfl⟩
    exact ⟨World.grownBy_refl _ _, .inl ⟨by omega, rfl⟩⟩
  · refine (take_yes b m ad n c l u w h1 h2 (by omega)).mono ?_
    rintro e w' ⟨c1, a', c', rfl, hd, hd2, hh, hg⟩
    exact ⟨hg, .inr ⟨by omega, ad, c1, rfl, hd, a', n - m, c', hd2, hh⟩⟩
set_option maxRecDepth 100000 in
set_option maxHeartbeats 4000000 in
theorem textRd (b : Nat) (s : Sc) (u w : World) (hu : Below u.heap.size u w) (hub : u.heap.size ≤ b) (hr : RdV u w b s.l) (hs : s.bad = false) :
    Calls Try.prog 50 #[.pointer (some ⟨b, 0, none⟩)] w fun e w' => w.grownBy w' (some b) ∧ ((s.text.bad = true ∧ e = .panicked PE90) ∨ (s.text.bad = false ∧ (∃ ta tc, e = .returned (.slice ta s.bytes.length tc) ∧ w'.ownsRow w.heap.size 5 1 (.slice ta s.bytes.length tc) s.bytes.length (s.bytes.map bv)) ∧ RdV u w' b s.text.l)) := by
  have KN := numRd b 1 s u w hu hub hr hs (by decide) 1 rfl
  have HU := Lib.hid hu
  have HR := Lib.hid hr
  have HS := Lib.hid hs
  have HBW := Lib.hid hr.lt
  clear hu hr hs
  go_enter Try.func50, Try.ntmps50
  go_wp2_with fail
  (with_reducible refine KN.mono ?_)
  rintro e w1 ⟨hg, ⟨hb, rfl⟩ | ⟨hb, rfl, hr1⟩⟩
  · have hT : s.text.bad = true := by
      have : decide (s.l.length < 1) = true := by have := hb; simp only [Sc.num, HS.out, Bool.false_or] at this; exact this
      simp only [Sc.text, tBad, this, Bool.true_or, Bool.or_true]
    have HT := Lib.hid hT
    have HG := Lib.hid hg
    clear hT hg hb KN
    go_wp2
    exact ⟨rfl, HG.out, .inl ⟨HT.out, rfl⟩⟩
  · have hlen : ¬ s.l.length < 1 := by have := hb; simp only [Sc.num, HS.out, Bool.false_or, decide_eq_false_iff_not] at this; exact this
    obtain ⟨T, hT⟩ : ∃ T, T = s.val 1 := ⟨_, rfl⟩
    have hTL : T = tLen s.l := hT
    rw [← hT]
    have HT9 := Lib.hid (show T ≤ 140737488355328 from by
      obtain ⟨_, _, _, h1, -⟩ := HR.out
      have := Sc.val_lt h1.bytes 1
      have e : (256 : Nat) ^ 1 = 256 := rfl
      rw [← hT, e] at this
      omega)
    have KT := takeRd b T (s.num 1).l u w1 hr1
    have HG := Lib.hid hg
    have HTL := Lib.hid hTL
    have HU1 := Lib.hid (below_on HU.out hub hg)
    have HLN := Lib.hid hlen
    clear hr1 hT hTL hg hb KN hlen
    go_wp2_with fail
    (with_reducible refine KT.mono ?_)
    rintro e w2 ⟨hg2, ⟨hlt, rfl⟩ | ⟨hle, a, c1, rfl, hby, hr2⟩⟩
    · have HT : Hid (s.text.bad = true) := Lib.hid (by
        have e : decide ((s.l.drop 1).length < tLen s.l) = true := by rw [← HTL.out]; exact decide_eq_true hlt
        simp only [Sc.text, tBad, e, Bool.or_true])
      have HG2 := Lib.hid hg2
      clear hlt hg2 KT
      go_wp2
      exact ⟨rfl, HG.out.trans HG2.out, .inl ⟨HT.out, rfl⟩⟩
    · obtain ⟨L, hL⟩ : ∃ L, L = (s.num 1).l.take T := ⟨_, rfl⟩
      rw [← hL] at hby
      have HLL := Lib.hid hL
      have hnl : ¬ (s.l.drop 1).length < tLen s.l := by rw [← HTL.out]; exact Nat.not_lt.2 hle
      have HT : Hid (s.text.bad = false ∧ s.text.l = (s.num 1).l.drop T ∧ s.bytes = L) := Lib.hid (by
        refine ⟨?_, ?_, ?_⟩
        · simp only [Sc.text, tBad, decide_eq_false hnl, decide_eq_false HLN.out, HS.out, Bool.or_false]
        · simp only [Sc.text, tRest, if_neg hnl, Sc.num, HTL.out]
        · rw [HLL.out]; simp only [Sc.bytes, tText, if_neg hnl, Sc.num, HTL.out])
      have HU2 := Lib.hid (below_on HU1.out hub hg2)
      have KC := clone_any a T c1 _ w2 ((hby.below HU2.out).v HT9.out)
      have HG2 := Lib.hid hg2
      have HR2 := Lib.hid hr2
      clear hnl hle hg2 KT hby hr2 hL
      go_wp2_with fail
      (with_reducible refine KC.mono ?_)
      rintro e w3 ⟨ad5, cap5, rfl, o5, b5⟩
      have HO := Lib.hid o5
      have HB5 := Lib.hid b5
      clear KC o5 b5
      go_wp2
      go_ret
      obtain ⟨t1, t2, t3⟩ := HT.out
      rw [t1, t2, t3]
      exact ⟨(HG.out.trans HG2.out).trans (grownBy_of_below HB5.out _), .inr ⟨rfl, ⟨ad5, cap5, rfl, ownsRow_base HO.out (Nat.le_trans HG.out.size HG2.out.size)⟩, HR2.out.of_block (HB5.out.block b HR2.out.lt)⟩⟩
end Go.Proofs.Ytikjcmijmhmilaa
