/-
  net: NetFull.
-/
import Derived.Test.YtbkbkhinpeoflaaNeI
namespace Go.Proofs.Ytbkbkhinpeoflaa
open Go.RowKit

def upTo (k : Nat) : List Int := (List.range k).map fun i : Nat => (i : Int)
theorem upTo_succ (k : Nat) : upTo k ++ [(k : Int)] = upTo (k + 1) := by simp [upTo, List.range_succ]
theorem upTo_len (k : Nat) : (upTo k).length = k := by simp [upTo]
theorem upTo_at {k i : Nat} (h : i < k) : (upTo k)[i]? = some (i : Int) := by simp [upTo, h]
theorem rep_succ (k : Nat) (l : List Nat) : List.replicate k l ++ [l] = List.replicate (k + 1) l := by simp [List.replicate_succ']
theorem and_255 (a : Int) : ∃ i : Nat, bits .and .i64 a 255 = (i : Int) ∧ i < 256 := by
  have h : (BitVec.ofInt 64 a &&& BitVec.ofInt 64 255).toNat < 256 := by
    rw [BitVec.toNat_and]
    exact Nat.lt_of_le_of_lt Nat.and_le_right (by decide)
  refine ⟨(BitVec.ofInt 64 a &&& BitVec.ofInt 64 255).toNat, ?_, h⟩
  show IntKind.i64.wrap ((BitVec.ofInt 64 a &&& BitVec.ofInt 64 255).toNat : Int) = _
  generalize (BitVec.ofInt 64 a &&& BitVec.ofInt 64 255).toNat = m at h ⊢
  unfold IntKind.wrap
  simp [IntKind.bits, IntKind.signed]
  omega

set_option maxRecDepth 100000 in
set_option maxHeartbeats 8000000 in
theorem netFull_walk (extra : Int) (a1 : Option Addr) (n1 c1 : Nat) (la : List Nat) (w : World) (_we : (Lit.int .i64 extra).wf = true)
    (h1 : BytesV w (a1, n1, c1) la) (_s1 : n1 ≤ 140737488351232) :
    Calls Try.prog 6 #[.int .i64 extra, .slice a1 n1 c1] w fun e w' => e = .returned (.bool true) ∧ Below w.heap.size w w' := by
  have KA := alive_any
  obtain ⟨at_, hat, hlt⟩ := and_255 extra
  by_cases hn : 100 < n1
  · go_enter Try.func6, Try.ntmps6
    go_wp2_with (go_at_call 8; (with_reducible refine (KA _).mono ?_); rintro e w1 ⟨rfl, hb1⟩)
    go_ret
    exact ⟨rfl, hb1⟩
  · go_enter Try.func6, Try.ntmps6
    go_wp2_with (go_at_call 8; (with_reducible refine (KA _).mono ?_); rintro e w1 ⟨rfl, hb1⟩)
    clear KA
    (with_reducible refine (is_new w w1 hb1).mono ?_)
    rintro e w2 ⟨rfl, hI, b2⟩
    have HB := Lib.hid h1
    have hbase := hI.base.size
    obtain ⟨g, hg⟩ : ∃ g, g = w1.heap.size := ⟨_, rfl⟩
    rw [← hg] at hI ⊢
    clear hg b2 h1 hb1
    go_wp2
    go_loopw [6] (fun i wr => ∃ (k : Nat), k ≤ 400 ∧ i = .int .i64 k ∧ NetIs w wr g k (upTo k) (List.replicate k la)) (fun i _ => 400 - (intOf i).toNat)
    case atStart => exact ⟨0, by omega, rfl, hI⟩
    case round =>
      clear hI hbase
      obtain ⟨k, hk, rfl, hI⟩ := hrel
      by_cases hlt4 : k < 400
      · have KS := is_send w g k (upTo k) (List.replicate k la) k a1 n1 c1 la _ hI (HB.out.below hI.base) (by rw [upTo_len]; exact hlt4) (by omega) (by omega)
        rw [upTo_succ, rep_succ] at KS
        go_wp2_with fail
        (with_reducible refine KS.mono ?_)
        rintro e w3 ⟨rfl, hI3⟩
        clear KS
        go_wp2
        go_roundw
        case rel => exact ⟨k + 1, by omega, by go_num, by simpa using hI3⟩
        case measure => simp [intOf]; omega
      · obtain rfl : k = 400 := by omega
        clear hk hlt4
        obtain ⟨ts, hts⟩ : ∃ ts, ts = upTo 400 := ⟨_, rfl⟩
        obtain ⟨bs, hbs⟩ : ∃ bs, bs = List.replicate 400 la := ⟨_, rfl⟩
        have l1 : ts.length = 400 := by rw [hts, upTo_len]
        have e1 : ts[at_]? = some (at_ : Int) := by rw [hts]; exact upTo_at (by omega)
        have e2 : bs[at_]? = some la := by rw [hbs, List.getElem?_replicate, if_pos (by omega)]
        rw [← hts, ← hbs] at hI
        clear hts hbs
        rw [show ((400 : Nat) : Int) = 400 from rfl] at hI
        have K1 := is_send_full w g 400 ts bs 1 a1 n1 c1 _ hI (by omega)
        have E1 := Lib.hid (And.intro e1 (And.intro e2 l1))
        clear e1 e2 l1
        go_wp2_with fail
        (with_reducible refine K1.mono ?_)
        rintro e w3 ⟨rfl, hI3⟩
        clear K1 hI
        have K2 := is_double_full w g 400 ts bs at_ _ hI3 (by have := E1.out.2.2; omega) (by have := E1.out.2.2; omega)
        go_wp2_with fail
        (with_reducible refine K2.mono ?_)
        rintro e w4 ⟨rfl, hI4⟩
        clear K2 hI3
        go_wp2_with fail
        (with_reducible refine (is_sent w g 400 ts bs _ hI4).mono ?_)
        rintro e w5 ⟨rfl, rfl⟩
        have K3 := is_take w g 400 ts bs at_ at_ la _ hI4 (by have := E1.out.2.2; omega) E1.out.1 E1.out.2.1
        go_wp2_with fail
        (with_reducible refine K3.mono ?_)
        rintro e w6 ⟨a6, c6, rfl, -, hI6⟩
        clear K3 hI4
        have l3 : (ts.eraseIdx at_).length = 399 := by
          rw [List.length_eraseIdx, if_pos (by rw [E1.out.2.2]; omega), E1.out.2.2]
        have l4 : (bs.eraseIdx at_).length = 399 := by rw [← hI6.len, l3]
        obtain ⟨t, ht⟩ : ∃ t, (ts.eraseIdx at_)[at_]? = some t := ⟨_, List.getElem?_eq_getElem (by omega)⟩
        obtain ⟨l, hl⟩ : ∃ l, (bs.eraseIdx at_)[at_]? = some l := ⟨_, List.getElem?_eq_getElem (by omega)⟩
        obtain ⟨ts6, hts6⟩ : ∃ ts6, ts6 = ts.eraseIdx at_ := ⟨_, rfl⟩
        obtain ⟨bs6, hbs6⟩ : ∃ bs6, bs6 = bs.eraseIdx at_ := ⟨_, rfl⟩
        rw [← hts6] at hI6 l3 ht
        rw [← hbs6] at hI6 l4 hl
        clear hts6 hbs6
        have K4 := is_double w g 400 ts6 bs6 at_ t l _ hI6 ht hl (by omega) (by omega) (by omega)
        rw [show (400 : Int) + 1 = 401 from rfl] at K4
        have L3 := Lib.hid l3
        clear l3 l4 ht hl hI6
        go_wp2_with fail
        (with_reducible refine K4.mono ?_)
        rintro e w7 ⟨rfl, hI7⟩
        clear K4
        obtain ⟨ts7, hts7⟩ : ∃ ts7, ts7 = ts6 ++ [t] := ⟨_, rfl⟩
        obtain ⟨bs7, hbs7⟩ : ∃ bs7, bs7 = bs6 ++ [l] := ⟨_, rfl⟩
        have l7 : ts7.length = 400 := by rw [hts7, List.length_append, L3.out]; rfl
        rw [← hts7, ← hbs7] at hI7
        clear hts7 hbs7
        have K5 := is_send_full w g 401 ts7 bs7 0 none 0 0 _ hI7 (by omega)
        have L7 := Lib.hid l7
        clear l7
        go_wp2_with fail
        (with_reducible refine K5.mono ?_)
        rintro e w8 ⟨rfl, hI8⟩
        clear K5 hI7
        go_wp2_with fail
        (with_reducible refine (is_sent w g 401 ts7 bs7 _ hI8).mono ?_)
        rintro e w9 ⟨rfl, rfl⟩
        have K6 := is_flight w g 401 ts7 bs7 _ hI8 (by rw [L7.out]; omega)
        rw [L7.out] at K6
        go_wp2_with fail
        (with_reducible refine K6.mono ?_)
        rintro e w10 ⟨a10, c10, rfl, -, -, b10⟩
        clear K6
        go_wp2
        go_ret
        refine ⟨by simp, (hI8.below b10).base⟩
end Go.Proofs.Ytbkbkhinpeoflaa
