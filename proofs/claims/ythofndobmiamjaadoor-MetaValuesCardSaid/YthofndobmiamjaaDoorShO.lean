/-
  sha: ShaSums' walk.
-/
import Derived.Test.YthofndobmiamjaaDoorShM
namespace Go.Proofs.YthofndobmiamjaaDoor
open Go.RowKit

theorem shaR_len (l : List Nat) : (shaR l).length = 32 := by
  unfold shaR
  obtain ⟨N, hN⟩ : ∃ N, N = foldR shaH (padR l) ((padR l).length / 64) := ⟨_, rfl⟩
  have hl : N.length = 8 := by rw [hN]; exact foldR_len _
  rw [← hN]
  have h := bytesW_len N 8 (by rw [hl]; exact Nat.le_refl _)
  rw [List.take_of_length_le (by rw [hl]; exact Nat.le_refl _)] at h
  exact h
theorem shaR_bytes (l : List Nat) : Bytes (shaR l) := by
  unfold shaR
  obtain ⟨N, hN⟩ : ∃ N, N = foldR shaH (padR l) ((padR l).length / 64) := ⟨_, rfl⟩
  rw [← hN]
  intro x hx
  obtain ⟨r, hr, hx⟩ := List.mem_flatten.1 hx
  obtain ⟨q, -, rfl⟩ := List.mem_map.1 hr
  simp only [bytesW, List.mem_cons, List.not_mem_nil, or_false] at hx
  rcases hx with rfl | rfl | rfl | rfl <;> exact Nat.mod_lt _ (by decide)
theorem flat_take {ls : List (List Nat)} {k : Nat} {y : List Nat} (h : ls[k]? = some y) : (ls.take (k + 1)).flatten = (ls.take k).flatten ++ y := by
  rw [take_step ls k y h, List.flatten_append]
  simp
theorem bytes_flat {ls : List (List Nat)} (h : ∀ l ∈ ls, Bytes l) : Bytes ls.flatten := by
  intro x hx
  obtain ⟨l, hl, hx⟩ := List.mem_flatten.1 hx
  exact h l hl x hx
set_option maxRecDepth 100000 in
set_option maxHeartbeats 4000000 in
theorem shaSums_walk (a0 : Option Addr) (n0 c0 : Nat) (hs : List Hd3) (ls : List (List Nat)) (W : World) (hg : SK W ∧ CK W) (v0 : RowV W a0 n0 (hs.map SV)) (r0 : RowsV W hs ls) (s0 : n0 * 24 ≤ 140737488351232) :
    Calls Tryd.prog 3 #[.slice a0 n0 c0] W fun e W' => e = .returned (.bool true) ∧ Below W.heap.size W W' := by
  obtain ⟨i0, hi, hz0, hz1, hz2⟩ := info_parts Tryd.info5
  have hhs : hs.length = n0 := by have := v0.1; simpa using this
  have hls : ls.length = n0 := by rw [← r0.1, hhs]
  have HLS := Lib.hid hls
  have HV0 := Lib.hid v0
  have HR0 := Lib.hid r0
  have HG := Lib.hid hg
  have KA := alive_any W hg.1 hg.2
  clear hls v0 r0 hg
  go_enter Tryd.func3, Tryd.ntmps3
  go_wp2_with fail
  (with_reducible refine KA.mono ?_)
  rintro e W1 ⟨rfl, hb1⟩
  clear KA
  have hown0 := World.ownsRow_made (base := W.heap.size) (e := 5) (size := 1) W1 #[] 0 hb1.size (by simp [maxLen]) rfl
  have hb0 := hb1.alloc hb1.size (.cells #[] 5)
  clear hb1
  go_wp2
  go_loopw [3, 4] (fun v i wr => ∃ (k : Nat) (a : Option Addr) (c L : Nat), k ≤ n0 ∧ k ≤ 101 ∧ L ≤ 5000 ∧ ((ls.take k).flatten).length = L ∧ i = .int .i64 (k : Nat) ∧ v = .slice a L c ∧ wr.ownsRow W.heap.size 5 1 (.slice a L c) L (((ls.take k).flatten).map bv) ∧ Below W.heap.size W wr) (fun _ i _ => (n0 - intOf i).toNat)
  case atStart => exact ⟨0, _, _, 0, Nat.zero_le _, by omega, by omega, rfl, rfl, rfl, hown0, hb0⟩
  case round =>
    clear hown0 hb0
    obtain ⟨k, a, c, L, hk, hk1, hL, hfl, rfl, rfl, hown, hb⟩ := hrel
    have hbs := hb.size
    by_cases hlt : k < n0
    · obtain ⟨b, off, rfl, hc⟩ := HV0.out.2 (by omega)
      obtain ⟨x, hxe, hxr⟩ := HR0.out.at k (by omega)
      obtain ⟨xa, xn, xc⟩ := x
      have hbw : b < W.heap.size := HV0.out.lt (by omega) rfl
      have hcell : wr.cell? ⟨b, off + k, Option.none⟩ = some (.slice xa xn xc) := by rw [hb.cell hbw, hc k hlt, List.getElem?_map, hxe]; rfl
      obtain ⟨y, hy⟩ : ∃ y, y = ls.getD k [] := ⟨_, rfl⟩
      have hyk : ls[k]? = some y := by
        rw [hy, List.getD_eq_getElem?_getD, List.getElem?_eq_getElem (by rw [HLS.out]; exact hlt)]; rfl
      rw [← hy] at hxr
      have hyl : y.length = xn := hxr.length
      have HT := Lib.hid (flat_take hyk)
      have HFL := Lib.hid hfl
      have HYL := Lib.hid hyl
      have HXR := Lib.hid (hxr.below hb)
      have hxs := hxr.small
      simp only at hxs
      clear hc hy hyk hxe hhs hyl hfl hxr
      by_cases h1 : L + xn > 5000
      · have h1' : (5000 : Int) < (L : Int) + (xn : Int) := by omega
        go_wp2
        go_ret
        exact ⟨rfl, hb⟩
      · have h1' : ¬ (5000 : Int) < (L : Int) + (xn : Int) := by omega
        by_cases h2 : k > 100
        · have h2' : (100 : Int) < (k : Int) := by omega
          go_wp2
          go_ret
          exact ⟨rfl, hb⟩
        · have h2' : ¬ (100 : Int) < (k : Int) := by omega
          go_wp2_with (first | (at_builtin; refine Hid.out ?_))
          refine Lib.hid ?_
          refine wpList_append_row rfl (.tmp 28) (.tmp 32) 24 rfl W.heap.size 5 i0 (.int .u8 0) 1 Tryd.underlying24 hi hz0 hz1 hz2 rfl _ _ _ rfl hown xa xn xc (y.map bv) rfl HXR.out.row HXR.out.nil (bv_one y) (by simp [maxLen]; omega) (by omega) hbs ?_
          intro v1 w1 hown1 hgrow1 _
          have hb1 := below_grown hb hgrow1 (ownBlock_ge hown)
          obtain ⟨a1, c1, rfl, -⟩ := ownsRow_parts hown1
          clear hgrow1
          go_wp2
          go_roundw
          case rel =>
            refine ⟨k + 1, a1, c1, L + xn, by omega, by omega, by omega, ?_, by go_num, rfl, ?_, hb1⟩
            · rw [HT.out, List.length_append, HFL.out, HYL.out]
            · rw [HT.out, List.map_append]; exact hown1
          case measure => simp [intOf] <;> omega
    · obtain rfl : k = n0 := by omega
      rw [List.take_of_length_le (by rw [HLS.out]; exact Nat.le_refl _)] at hown hfl
      have HFL := Lib.hid hfl
      have HOWN := Lib.hid hown
      have HB := Lib.hid hb
      have KC := copyRows_any a0 k c0 hs ls wr (HV0.out.below hb) s0 (HR0.out.below hb)
      clear hfl hown hb
      go_wp2_with fail
      (with_reducible refine KC.mono ?_)
      rintro e w1 ⟨ad, cap, js, rfl, o1, i1, b1⟩
      clear KC
      rw [HLS.out] at o1 ⊢
      have hm : ∀ l ∈ ls, Bytes l ∧ l.length ≤ 140737488355328 := HR0.out.mem
      obtain ⟨ad', cap', e, hcase, -, -, hrow⟩ := ownsRow_parts o1
      simp only [Value.slice.injEq] at e
      obtain ⟨rfl, -, rfl⟩ := e
      have hnil : ad = none → cap = 0 := fun e => by
        rcases hcase with ⟨-, -, h⟩ | ⟨g, h, -⟩
        · exact h
        · rw [h] at e; cases e
      have HCP := Lib.hid (And.intro hrow (And.intro (i1.rowsV hm) (And.intro hnil (HB.out.trans (b1.mono hbs)))))
      have hB1 := b1.size
      have own2 : w1.ownsRow W.heap.size 5 1 (.slice a L c) L (ls.flatten.map bv) := HOWN.out.kept (grownBy_of_below b1 none) (by cases e : (Value.slice a L c).ownBlock with | none => exact .inl rfl | some g => exact .inr (by simp))
      have hby := bytesV_of_owns own2 (bytes_flat fun l hl => (hm l hl).1) (by omega)
      have HBY := Lib.hid hby
      clear o1 i1 b1 hcase hrow hnil own2 hby
      go_wp2_with fail
      (with_reducible refine (sum_any ad k cap js ls w1 HCP.out.1 (by omega) HCP.out.2.2.1 HCP.out.2.1 (by rw [HFL.out]; omega) (HG.out.1.below HCP.out.2.2.2 (Nat.le_refl _)) (HG.out.2.below HCP.out.2.2.2 (Nat.le_refl _))).mono ?_)
      rintro e w2 ⟨a2, c2, rfl, o2, b2⟩
      have hl32 : (shaR ls.flatten).length = 32 := shaR_len _
      have HD := Lib.hid (bytesV_of_owns o2 (shaR_bytes _) (by rw [hl32]; decide))
      rw [hl32]
      have hs2 := b2.size
      have HCP2 := Lib.hid (And.intro (HCP.out.1.below b2) (And.intro (HCP.out.2.1.below b2) (HCP.out.2.2.2.trans (b2.mono (by omega)))))
      have HBY2 := Lib.hid (HBY.out.below b2)
      clear o2 HCP HBY b2
      go_wp2_with fail
      (with_reducible refine (refSum6_any a L c ls.flatten w2 HBY2.out (by omega)).mono ?_)
      rintro e w3 ⟨a3, c3, rfl, o3, b3⟩
      have HD3 := Lib.hid (bytesV_of_owns o3 (shaR_bytes _) (by rw [hl32]; decide))
      have HD2 := Lib.hid (HD.out.below b3)
      rw [hl32] at HD2 HD3 ⊢
      have hs3 := b3.size
      have HCP3 := Lib.hid (And.intro (HCP2.out.1.below b3) (And.intro (HCP2.out.2.1.below b3) (HCP2.out.2.2.trans (b3.mono (by omega)))))
      clear o3 HCP2 HBY2 b3 HD hl32
      have KB := sameBytes_any a2 32 c2 (shaR ls.flatten) a3 32 c3 (shaR ls.flatten) w3 HD2.out HD3.out
      rw [decide_eq_true rfl] at KB
      go_wp2_with fail
      (with_reducible refine KB.mono ?_)
      rintro e w4 ⟨rfl, b4⟩
      clear KB
      have KS := sameRows_any ad k cap js ls a0 k c0 hs ls w4 (HCP3.out.1.below b4) (HCP3.out.2.1.below b4) (HV0.out.below (HCP3.out.2.2.trans (b4.mono (by omega)))) (HR0.out.below (HCP3.out.2.2.trans (b4.mono (by omega)))) (by omega)
      rw [decide_eq_true rfl] at KS
      have HB4 := Lib.hid (HCP3.out.2.2.trans (b4.mono (by omega)))
      clear b4
      go_wp2_with fail
      (with_reducible refine KS.mono ?_)
      rintro e w5 ⟨rfl, b5⟩
      clear KS
      go_wp2
      go_ret
      exact ⟨rfl, HB4.out.trans (b5.mono HB4.out.size)⟩
end Go.Proofs.YthofndobmiamjaaDoor
