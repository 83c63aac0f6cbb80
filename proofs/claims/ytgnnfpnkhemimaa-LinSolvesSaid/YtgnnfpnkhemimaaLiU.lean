/-
  lin: Rank.
-/
import Derived.Test.YtgnnfpnkhemimaaLiT
namespace Go.Proofs.Ytgnnfpnkhemimaa
open Go.RowKit

/-- the system behind the first k equations. -/
def sysTo (cols : Nat) (eqs : List (List Nat)) (k : Nat) : Wk × Bool := (eqs.take k).foldl (addEq cols) (fun _ => none, false)
theorem sysTo_zero (cols : Nat) (eqs : List (List Nat)) : sysTo cols eqs 0 = (fun _ => none, false) := rfl
theorem sysTo_succ (cols : Nat) (eqs : List (List Nat)) (k : Nat) (e : List Nat) (h : eqs[k]? = some e) : sysTo cols eqs (k + 1) = addEq cols (sysTo cols eqs k) e := by
  unfold sysTo
  rw [take_step eqs k e h, List.foldl_append]
  rfl
theorem says_to (cols L : Nat) (eqs : List (List Nat)) (hc : cols ≤ L) (h : ∀ e ∈ eqs, Bytes e ∧ e.length = L) : ∀ k, Says cols L (eqs.take k) (sysTo cols eqs k)
  | 0 => by rw [List.take_zero]; exact says_none cols L
  | k + 1 => by
    have ih := says_to cols L eqs hc h k
    by_cases hk : k < eqs.length
    · have he : eqs[k]? = some eqs[k] := List.getElem?_eq_getElem hk
      have h1 := h eqs[k] (List.getElem_mem hk)
      rw [sysTo_succ cols eqs k _ he, take_step eqs k _ he]
      exact ih.add h1.1 h1.2 hc
    · have : eqs.take (k + 1) = eqs.take k := by rw [List.take_of_length_le (by omega), List.take_of_length_le (by omega)]
      unfold sysTo at ih ⊢
      rw [this]
      exact ih
theorem addEq_isSome (cols : Nat) (s : Wk × Bool) (e : List Nat) (c : Nat) (h : (s.1 c).isSome = true) : ((addEq cols s e).1 c).isSome = true := by
  unfold addEq
  simp only
  split
  · exact h
  · simp only
    split
    · rfl
    · simpa using h
theorem count_mono {f g : Wk} (h : ∀ c, (f c).isSome = true → (g c).isSome = true) : ∀ n, count f n ≤ count g n
  | 0 => Nat.le_refl _
  | k + 1 => by
    simp only [count]
    have := count_mono h k
    by_cases e : (f k).isSome = true
    · rw [if_pos e, if_pos (h k e)]; omega
    · rw [if_neg e]; omega
theorem count_to_mono (cols : Nat) (eqs : List (List Nat)) (k : Nat) : count (sysTo cols eqs k).1 cols ≤ count (sysTo cols eqs (k + 1)).1 cols := by
  by_cases hk : k < eqs.length
  · rw [sysTo_succ cols eqs k _ (List.getElem?_eq_getElem hk)]
    exact count_mono (addEq_isSome cols _ _) cols
  · unfold sysTo
    rw [List.take_of_length_le (by omega : eqs.length ≤ k), List.take_of_length_le (by omega)]
    exact Nat.le_refl _
theorem count_to_le (cols : Nat) (eqs : List (List Nat)) (k : Nat) : ∀ d, count (sysTo cols eqs k).1 cols ≤ count (sysTo cols eqs (k + d)).1 cols
  | 0 => Nat.le_refl _
  | d + 1 => Nat.le_trans (count_to_le cols eqs k d) (count_to_mono cols eqs (k + d))
theorem SysV.rebase {w w0 w' : World} {g gm cols wid : Nat} {s : Wk × Bool} {hd : Nat → Option HdT} (h : SysV w0 w' g gm cols wid s hd) (hb : Below w.heap.size w w0) : SysV w w' g gm cols wid s hd :=
  ⟨h.box, h.map, h.rows, h.free, h.sys, hb.trans (h.base.mono hb.size), Nat.le_trans hb.size h.gb, Nat.le_trans hb.size h.mb⟩
theorem rightB_iff {cols : Int} {ls : List (List Nat)} : rightB cols ls = true ↔ 1 ≤ cols ∧ cols ≤ 128 ∧ ls.length ≤ 256 ∧ ∀ l ∈ ls, (l.length : Int) = cols := by
  unfold rightB
  simp only [Bool.and_eq_true, decide_eq_true_iff, evenB_iff]

/-- the rank, and its error. -/
def rankOf (cols : Nat) (rows : List (List Nat)) : Nat := count (sysTo cols rows rows.length).1 cols
set_option maxRecDepth 100000 in
set_option maxHeartbeats 4000000 in
theorem rank_bad (cols : Int) (adv : Option Addr) (n cv : Nat) (hs : List (Option Addr × Nat × Nat)) (ls : List (List Nat)) (w : World) (hv : RowV w adv n (hs.map SV)) (hn : n ≤ 140737488355328) (hr : RowsV w hs ls) (hB : rightB cols ls = false) :
    Calls Try.prog 15 #[.int .i64 cols, .slice adv n cv] w fun x w' => x = .returned (.tuple #[.int .i64 0, .int .i64 20]) ∧ Below w.heap.size w w' := by
  have KR := right_any cols adv n cv hs ls w hv hn hr
  rw [hB] at KR
  clear hB hv hr
  go_enter Try.func15, Try.ntmps15
  go_wp2_with fail
  (with_reducible refine KR.mono ?_)
  rintro x w1 ⟨rfl, hb⟩
  go_wp2
  go_ret2
  exact ⟨rfl, hb⟩

set_option maxRecDepth 100000 in
set_option maxHeartbeats 4000000 in
theorem rank_any (cols : Nat) (adv : Option Addr) (n cv : Nat) (hs : List (Option Addr × Nat × Nat)) (ls : List (List Nat)) (w : World) (hv : RowV w adv n (hs.map SV)) (hr : RowsV w hs ls) (hB : rightB (cols : Int) ls = true) :
    Calls Try.prog 15 #[.int .i64 (cols : Int), .slice adv n cv] w fun x w' => x = .returned (.tuple #[.int .i64 ((rankOf cols ls : Nat) : Int), .int .i64 0]) ∧ Below w.heap.size w w' := by
  have hhs : hs.length = n := by have := hv.1; simpa using this
  have hls : ls.length = n := by rw [← hr.1, hhs]
  obtain ⟨c1, c2, c3, c4⟩ := rightB_iff.1 hB
  have KR := right_any cols adv n cv hs ls w hv (by omega) hr
  rw [hB] at KR
  have HV := Lib.hid hv
  have HR := Lib.hid hr
  have HHS := Lib.hid hhs
  have HLS := Lib.hid hls
  have HC4 := Lib.hid c4
  have hn : n ≤ 256 := by omega
  have c1' : 0 < cols := by omega
  have c2' : cols ≤ 128 := by omega
  clear hv hr hB hhs hls c3 c4 c1 c2
  have h0 : sysTo cols ls 0 = (fun _ => none, false) := rfl
  have H0 := Lib.hid h0
  clear h0
  go_enter Try.func15, Try.ntmps15
  go_wp2_with fail
  (with_reducible refine KR.mono ?_)
  rintro x w1 ⟨rfl, hb⟩
  go_wp2_with fail
  have KN := newSystem_any cols 0 w1
  rw [show ((0 : Nat) : Int) = 0 from rfl] at KN
  (with_reducible refine KN.mono ?_)
  rintro x w2 ⟨rfl, hS2⟩
  have hS := hS2.rebase hb
  obtain ⟨g, hg⟩ : ∃ g, g = w1.heap.size + 1 := ⟨_, rfl⟩
  obtain ⟨gm, hgm⟩ : ∃ gm, gm = w1.heap.size := ⟨_, rfl⟩
  rw [← hg, ← hgm] at hS
  rw [← hg]
  rw [← H0.out] at hS
  have HS := Lib.hid hS
  clear hS2 hg hgm hb KR hS KN
  go_wp2
  go_loopw [17] (fun i wr => ∃ (k : Nat) (hd : Nat → Option HdT), k ≤ n ∧ i = .int .i64 k ∧ SysV w wr g gm cols 0 (sysTo cols ls k) hd) (fun i _ => n - (intOf i).toNat)
  case atStart => exact ⟨0, _, Nat.zero_le _, rfl, HS.out⟩
  case round =>
    clear HS
    obtain ⟨k, hd, hk, rfl, hS⟩ := hrel
    by_cases hlt : k < n
    · obtain ⟨b, off, rfl, hcl⟩ := (HV.out.below hS.base).2 (by omega)
      obtain ⟨⟨a2, n2, c2⟩, hx⟩ : ∃ x, hs[k]? = some x := ⟨_, List.getElem?_eq_getElem (by rw [HHS.out]; exact hlt)⟩
      obtain ⟨l, hl⟩ : ∃ l, ls[k]? = some l := ⟨_, List.getElem?_eq_getElem (by rw [HLS.out]; exact hlt)⟩
      have hBy := HR.out.2 k _ l hx hl
      have hc := hcl k hlt
      rw [List.getElem?_map, hx] at hc
      unfold SV at hc
      simp only [Option.map_some] at hc
      have hln : n2 = cols := by
        have h1 := hBy.length
        have h2 := HC4.out l (List.mem_of_getElem? hl)
        simp only at h1
        omega
      subst hln
      have HL := Lib.hid hl
      have HBY := Lib.hid hBy
      clear hcl hx hl hBy
      have KF := full_any w wr g gm n2 0 _ hd hS
      by_cases hf : count (sysTo n2 ls k).1 n2 = n2
      · rw [decide_eq_true hf] at KF
        have HF := Lib.hid hf
        clear hf
        go_wp2_with fail
        (with_reducible refine KF.mono ?_)
        rintro x w3 ⟨rfl, b3⟩
        have hS3 := hS.below b3
        have hbx := hS3.box
        unfold ST at hbx
        obtain ⟨p0, p1, p2, p3, pF⟩ := box4_cells hbx
        have hM3 := hS3.map
        have hB3 := hS3.base
        rw [HF.out] at hM3
        clear KF hS b3 hS3 hbx hc
        go_wp2_with (first | (at_len; refine wpList_len_h _ rfl _ rfl gm hd n2 rfl hM3 ?_))
        go_ret2
        refine ⟨?_, hB3⟩
        have := count_to_le n2 ls k (n - k)
        have h3 := count_le (sysTo n2 ls n).1 n2
        rw [HF.out, show k + (n - k) = n by omega] at this
        have hrk : rankOf n2 ls = n2 := by unfold rankOf; rw [HLS.out]; omega
        rw [hrk]
        rfl
      · rw [decide_eq_false hf] at KF
        clear hf
        go_wp2_with fail
        (with_reducible refine KF.mono ?_)
        rintro x w3 ⟨rfl, b3⟩
        have hS3 := hS.below b3
        have hX3 := HBY.out.below hS3.base
        have KA := sysAdd_any w g gm n2 0 (sysTo n2 ls k).1 (sysTo n2 ls k).2 hd a2 c2 l w3 hS3 hX3 c1' c2' (by omega)
        rw [Nat.add_zero] at KA
        have HST := Lib.hid (sysTo_succ n2 ls k l HL.out)
        clear KF hS b3 hc hS3 hX3
        go_wp2_with fail
        (with_reducible refine KA.mono ?_)
        rintro x w4 ⟨rfl, hd4, hS4⟩
        go_wp2
        go_roundw
        case rel => exact ⟨k + 1, hd4, by omega, by go_num, by rw [HST.out]; exact hS4⟩
        case measure => simp [intOf]; omega
    · obtain rfl : k = n := by omega
      have hbx := hS.box
      unfold ST at hbx
      obtain ⟨p0, p1, p2, p3, pF⟩ := box4_cells hbx
      have hM := hS.map
      have hB := hS.base
      have hrk : rankOf cols ls = count (sysTo cols ls k).1 cols := by unfold rankOf; rw [HLS.out]
      rw [← hrk] at hM
      clear hrk hS hbx
      obtain ⟨rk, hrk⟩ : ∃ rk, rk = rankOf cols ls := ⟨_, rfl⟩
      rw [← hrk] at hM
      have HRK := Lib.hid hrk
      clear hrk
      go_wp2_with (first | (at_len; refine wpList_len_h _ rfl _ rfl gm hd rk rfl hM ?_))
      go_ret2
      exact ⟨by rw [← HRK.out]; rfl, hB⟩
end Go.Proofs.Ytgnnfpnkhemimaa
