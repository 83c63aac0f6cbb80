/-
  meta's reader and rillref09's scan over one plain reading of bytes; a number read.
-/
import Derived.Test.YtikjcmijmhmilaaMfD
namespace Go.Proofs.Ytikjcmijmhmilaa
open Go.RowKit

/-- what is left of bytes that are read; bad: some weren't there. -/
structure Sc where
  bad : Bool
  l : List Nat
def Sc.num (s : Sc) (m : Nat) : Sc := ⟨s.bad || decide (s.l.length < m), s.l.drop m⟩
def Sc.val (s : Sc) (m : Nat) : Nat := if s.l.length < m then 0 else nOf s.l m
def Sc.text (s : Sc) : Sc := ⟨s.bad || tBad s.l, tRest s.l⟩
def Sc.bytes (s : Sc) : List Nat := tText s.l
theorem Sc.val_lt {s : Sc} (h : Bytes s.l) (m : Nat) : s.val m < 256 ^ m := by
  unfold Sc.val
  split
  · exact Nat.pow_pos (by decide)
  · exact nOf_lt h m
theorem shl8_orM (n d : Nat) (hn : n < 36028797018963968) (hd : d < 256) : bits .or .i64 ((n : Int) * 256) (d : Int) = ((n * 256 + d : Nat) : Int) := by
  have h := ofInt_i64 (n * 256) (by omega)
  have h2 := ofInt_i64 d (by omega)
  have e : n * 256 ||| d = n * 256 + d := by
    rw [show n * 256 = n <<< 8 from (Nat.shiftLeft_eq n 8).symm, ← Nat.shiftLeft_add_eq_or_of_lt hd]
  show IntKind.i64.wrap ((BitVec.ofInt 64 ((n : Int) * 256) ||| BitVec.ofInt 64 (d : Int)).toNat : Int) = _
  rw [BitVec.toNat_or, show (n : Int) * 256 = ((n * 256 : Nat) : Int) by simp, h, h2, e, wrap_i64_id _ (by omega) (by omega)]
set_option maxRecDepth 100000 in
set_option maxHeartbeats 8000000 in
theorem number_yes (b m : Nat) (ad : Option Addr) (n c : Nat) (l : List Nat) (u w : World) (hu : Below u.heap.size u w) (hub : u.heap.size ≤ b) (h : BytesR u (ad, n, c) l) (hh : w.heap[b]? = some (.cells #[.slice ad n c] RT1 (0, 0))) (hm : m ≤ n) (hm4 : m ≤ 4) :
    Calls Try.prog 49 #[.pointer (some ⟨b, 0, none⟩), .int .i64 m] w fun e w' => ∃ a' c', e = .returned (.int .i64 (nOf l m : Nat)) ∧ BytesR u (a', n - m, c') (l.drop m) ∧ w'.heap[b]? = some (.cells #[.slice a' (n - m) c'] RT1 (0, 0)) ∧ w.grownBy w' (some b) := by
  have KT := take_yes b m ad n c l u w h hh hm
  have HU := Lib.hid hu
  have HL := Lib.hid h.length
  have HH := Lib.hid h
  clear hh hu h
  go_enter Try.func49, Try.ntmps49
  go_wp2_with fail
  (with_reducible refine KT.mono ?_)
  rintro e w1 ⟨c1, a', c', rfl, ht, hd, hh1, hg⟩
  have HT := Lib.hid ht
  have HE := Lib.hid (And.intro hd (And.intro hh1 hg))
  have HU1 := Lib.hid (HU.out.grown hg HU.out.size (fun q hq => by injection hq with hq; omega))
  clear KT ht hd hh1 hg
  go_wp2_with fail
  go_loopw [5, 12] (fun vn vi wr => ∃ i : Nat, i ≤ m ∧ vi = .int .i64 (i : Nat) ∧ vn = .int .i64 (nOf l i : Nat) ∧ wr = w1) (fun _ vi _ => (m - intOf vi).toNat)
  case atStart => exact ⟨0, Nat.zero_le _, rfl, rfl, rfl⟩
  case round =>
    obtain ⟨i, him, rfl, rfl, rfl⟩ := hrel
    by_cases hlt : i < m
    · obtain ⟨g, o, rfl, hrow⟩ := HT.out.row.2 (by simp only; omega)
      simp only at hrow
      have hx := hrow i hlt
      have hin : i < l.length := by have : l.length = n := HL.out; omega
      rw [List.getElem?_map, List.getElem?_take, if_pos hlt] at hx
      obtain ⟨x, hxx⟩ : ∃ x, x = l.getD i 0 := ⟨_, rfl⟩
      have hxe : l[i]? = some x := by rw [hxx, List.getD_eq_getElem?_getD, List.getElem?_eq_getElem hin]; rfl
      rw [hxe] at hx
      have hx8 : x < 256 := HH.out.bytes x (List.mem_of_getElem? hxe)
      have hx1 : wr.cell? ⟨g, o + i, none⟩ = some (.int .u8 (x : Nat)) := (HU1.out.cell (p := ⟨g, o + i, none⟩) (World.block_lt_of_cell? u _ hx)).trans hx
      have hv : nOf l i < 256 ^ i := nOf_lt HH.out.bytes i
      have h3 : 256 ^ i ≤ 256 ^ 3 := Nat.pow_le_pow_right (by decide) (by omega)
      have h4 : (256 : Nat) ^ 3 = 16777216 := by decide
      have hv3 : nOf l i < 16777216 := by rw [h4] at h3; exact Nat.lt_of_lt_of_le hv h3
      clear h3 h4
      obtain ⟨V, hV⟩ : ∃ V, V = nOf l i := ⟨_, rfl⟩
      rw [← hV] at hv3
      have HNX := Lib.hid (show ((nOf l (i + 1) : Nat) : Int) = ((V * 256 + x : Nat) : Int) by rw [hV, hxx]; rfl)
      rw [← hV]
      have ho := shl8_orM V x (by omega) hx8
      obtain ⟨r, hr⟩ : ∃ r, r = V * 256 + x := ⟨_, rfl⟩
      rw [← hr] at ho HNX
      clear hx hxe hxx hrow hv hV hr
      go_wp2
      go_roundw
      case rel => exact ⟨i + 1, by omega, by go_num, by rw [HNX.out], trivial⟩
      case measure => simp [intOf]; omega
    · obtain rfl : i = m := by omega
      go_wp2
      go_ret
      exact ⟨a', c', rfl, HE.out.1, HE.out.2.1, HE.out.2.2⟩
end Go.Proofs.Ytikjcmijmhmilaa
