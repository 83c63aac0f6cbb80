/-
  slices.Concat of slices of bytes.
-/
import Derived.Test.YtdidalcflkphnaaFrC
namespace Go.Proofs.Ytdidalcflkphnaa
open Go.RowKit

theorem flat_take_step (ls : List (List Nat)) (k : Nat) (hk : k < ls.length) : (ls.take (k + 1)).flatten = (ls.take k).flatten ++ ls.getD k [] := by
  rw [List.take_succ_eq_append_getElem hk, List.flatten_append, List.getD_eq_getElem?_getD, List.getElem?_eq_getElem hk]
  simp
theorem flat_take_len (ls : List (List Nat)) (k : Nat) : (ls.take k).flatten.length ≤ ls.flatten.length := by
  conv => rhs; rw [← List.take_append_drop k ls, List.flatten_append, List.length_append]
  omega

set_option maxRecDepth 100000 in
set_option maxHeartbeats 2000000 in
theorem concat_any (adv : Option Addr) (n cv : Nat) (hs : List (Option Addr × Nat × Nat)) (ls : List (List Nat)) (hn : n ≤ 140737488351232) (w : World) (hv : RowV w adv n (hs.map SV)) (hr : RowsV w hs ls) (tot : ls.flatten.length ≤ 140737488355328) :
    Calls Try.prog 51 #[.slice adv n cv] w (GivesBytes 5 w ls.flatten) := by
  obtain ⟨i0, hi, hz0, hz1, hz2⟩ := info_parts Try.info5
  have hlen : hs.length = n := by have := hv.1; simpa using this
  have hll : ls.length = n := by rw [← hr.1, hlen]
  have HLEN := Lib.hid hlen
  have HLL := Lib.hid hll
  have KG := grow_nil
  clear hlen hll
  go_enter Try.func51, Try.ntmps51
  go_wp2
  go_loop [3, 11] (fun v i => ∃ k : Nat, k ≤ n ∧ i = .int .i64 k ∧ v = .int .i64 ((ls.take k).flatten.length : Nat)) (fun _ i => n - (intOf i).toNat)
  case atStart => exact ⟨0, Nat.zero_le _, rfl, rfl⟩
  case round =>
    obtain ⟨k, hk, rfl, rfl⟩ := hrel
    by_cases hlt : k < n
    · obtain ⟨x, hx, hb⟩ := hr.at k (by rw [HLEN.out]; exact hlt)
      have hS : (ls.take (k + 1)).flatten.length = (ls.take k).flatten.length + (ls.getD k []).length := by
        rw [flat_take_step ls k (by rw [HLL.out]; exact hlt), List.length_append]
      have ht := flat_take_len ls (k + 1)
      obtain ⟨b, o, e, hc⟩ := hv.2 (by omega)
      subst e
      have hcell := hc k hlt
      rw [List.getElem?_map, hx, Option.map_some] at hcell
      clear hc
      obtain ⟨v, hvv⟩ : ∃ v, v = (ls.take k).flatten.length := ⟨_, rfl⟩
      obtain ⟨ad, m, c⟩ := x
      have hln : (ls.getD k []).length = m := hb.length
      rw [← hvv] at hS ⊢
      rw [hln] at hS
      have hvm : v + m ≤ 140737488355328 := by omega
      have HS := Lib.hid hS
      unfold SV at hcell
      simp only at hcell
      clear hS hvv hx hln ht
      go_wp2
      go_round
      case rel => exact ⟨k + 1, by omega, by go_num, by rw [HS.out]; go_num⟩
      case measure => simp [intOf]; omega
    · obtain rfl : k = n := by omega
      have e : (ls.take k).flatten = ls.flatten := by rw [List.take_of_length_le (by rw [HLL.out]; exact Nat.le_refl _)]
      rw [e]
      clear e
      obtain ⟨t, htt⟩ : ∃ t, t = ls.flatten.length := ⟨_, rfl⟩
      rw [← htt] at tot ⊢
      have HT := Lib.hid htt
      clear htt
      go_wp2_with (go_at_call 52; (with_reducible refine (KG t tot _).mono ?_); rintro e w1 ⟨ad1, cap1, rfl, hown1, hb1⟩)
      clear hi
      obtain ⟨i0, hi, hz0, hz1, hz2⟩ := info_parts Try.info5
      go_loopw [6, 27] (fun v i wr => ∃ q : Nat, q ≤ k ∧ i = .int .i64 q ∧ (∃ ad cap, v = .slice ad (ls.take q).flatten.length cap) ∧ wr.ownsRow w.heap.size 5 1 v (ls.take q).flatten.length ((ls.take q).flatten.map bv) ∧ Below w.heap.size w wr) (fun _ i _ => k - (intOf i).toNat)
      case atStart => exact ⟨0, Nat.zero_le _, rfl, ⟨ad1, cap1, rfl⟩, hown1, hb1⟩
      case round =>
        obtain ⟨q, hq, rfl, ⟨ad, cap, rfl⟩, hown, hb⟩ := hrel
        clear hown1 hb1
        by_cases hqt : q < k
        · obtain ⟨x, hx, hbx⟩ := hr.at q (by rw [HLEN.out]; exact hqt)
          replace hbx := hbx.below hb
          have hS : (ls.take (q + 1)).flatten = (ls.take q).flatten ++ ls.getD q [] := flat_take_step ls q (by rw [HLL.out]; exact hqt)
          have ht := flat_take_len ls (q + 1)
          rw [← HT.out, hS, List.length_append] at ht
          obtain ⟨b, o, e, hc⟩ := (hv.below hb).2 (by omega)
          subst e
          have hcell := hc q hqt
          rw [List.getElem?_map, hx, Option.map_some] at hcell
          clear hc
          obtain ⟨p, hpp⟩ : ∃ p, p = (ls.take q).flatten := ⟨_, rfl⟩
          obtain ⟨l, hl⟩ : ∃ l, l = ls.getD q [] := ⟨_, rfl⟩
          obtain ⟨ad2, m, c2⟩ := x
          rw [← hpp] at hS ht hown ⊢
          rw [← hl] at hS ht hbx
          have hln : l.length = m := hbx.length
          rw [hln] at ht
          have hnil := hbx.nil
          have hrow := hbx.row
          simp only at hrow hnil
          have HS := Lib.hid hS
          have HLN := Lib.hid hln
          unfold SV at hcell
          simp only at hcell
          clear hS hpp hx hln hl hbx
          obtain ⟨pl, hpl⟩ : ∃ pl, pl = p.length := ⟨_, rfl⟩
          have HPL := Lib.hid hpl
          rw [← hpl] at hown ht ⊢
          clear hpl
          go_wp2_with (first | (at_builtin; refine wpList_append_row rfl _ _ 28 rfl w.heap.size 5 i0 (.int .u8 0) 1 Try.underlying28 hi hz0 hz1 hz2 rfl _ _ _ rfl hown ad2 m c2 (l.map bv) rfl hrow hnil (bv_one l) (by simp [maxLen]; omega) (by omega) hb.size ?_; intro v' w2 hown2 hgrow2 hnil2))
          have hbb := below_grown hb hgrow2 (ownBlock_ge hown)
          obtain ⟨ad', cap', rfl, _⟩ := ownsRow_parts hown2
          have HO := Lib.hid hown2
          clear hown2 hgrow2 hnil2 hown hrow
          go_wp2
          go_roundw
          case rel =>
            have e1 : (ls.take (q + 1)).flatten.length = pl + m := by rw [HS.out, List.length_append, HLN.out, HPL.out]
            refine ⟨q + 1, by omega, by go_num, ⟨ad', cap', by rw [e1]⟩, ?_, hbb⟩
            rw [e1, HS.out, List.map_append]
            exact HO.out
          case measure => simp [intOf]; omega
        · obtain rfl : q = k := by omega
          have e : (ls.take q).flatten = ls.flatten := by rw [List.take_of_length_le (by rw [HLL.out]; exact Nat.le_refl _)]
          rw [e] at hown ⊢
          clear e
          go_wp2
          go_ret
          exact ⟨ad, cap, rfl, hown, hb⟩
end Go.Proofs.Ytdidalcflkphnaa
