/-
  rilllaw07: FrameLinear.
-/
import Derived.Test.YtkepdjbgfkoobaaFrH
import Derived.Deep.AppendLies
import Derived.Deep.RegionLaw
namespace Go.Proofs.Ytkepdjbgfkoobaa
open Go.RowKit

theorem drop_drew {w w' : World} {r : Option Nat} (h : w.drew.grownBy w' r) : w.grownBy w' r := ⟨h.os, h.tape, h.output, h.size, h.block⟩
theorem ret_boolF {a b : Bool} (h : a = b) : Ending.returned (.bool a) = .returned (.bool b) := by rw [h]
theorem crcFrom_xor3 : ∀ (a b c : List Nat) (s t u : Nat), a.length = b.length → a.length = c.length → crcFrom (s ^^^ t ^^^ u) (List.zipWith (· ^^^ ·) (List.zipWith (· ^^^ ·) a b) c) = crcFrom s a ^^^ crcFrom t b ^^^ crcFrom u c
  | [], [], [], s, t, u, _, _ => rfl
  | x :: a, y :: b, z :: c, s, t, u, h1, h2 => by
    simp only [List.zipWith_cons_cons]
    show crcFrom (laidN (s ^^^ t ^^^ u) (x ^^^ y ^^^ z)) _ = crcFrom (laidN s x) a ^^^ crcFrom (laidN t y) b ^^^ crcFrom (laidN u z) c
    rw [laidN_xor, laidN_xor]
    exact crcFrom_xor3 a b c _ _ _ (by simpa using h1) (by simpa using h2)
  | [], y :: b, c, s, t, u, h1, _ => by simp at h1
  | x :: a, [], c, s, t, u, h1, _ => by simp at h1
  | [], [], z :: c, s, t, u, _, h2 => by simp at h2
  | x :: a, y :: b, [], s, t, u, _, h2 => by simp at h2
def xor3 (a b c : List Nat) : List Nat := List.zipWith (· ^^^ ·) (List.zipWith (· ^^^ ·) a b) c
theorem crcN_xor3 {a b c : List Nat} (h1 : a.length = b.length) (h2 : a.length = c.length) : crcN (xor3 a b c) = crcN a ^^^ crcN b ^^^ crcN c := by
  have := crcFrom_xor3 a b c 4294967295 4294967295 4294967295 h1 h2
  have e : 4294967295 ^^^ 4294967295 ^^^ 4294967295 = 4294967295 := by decide
  rw [e] at this
  unfold crcN xor3
  rw [this]
  generalize crcFrom 4294967295 a = x
  generalize crcFrom 4294967295 b = y
  generalize crcFrom 4294967295 c = z
  have e2 : ∀ F : Nat, x ^^^ y ^^^ z ^^^ F = x ^^^ F ^^^ (y ^^^ F) ^^^ (z ^^^ F) := fun F => by
    have h1 : x ^^^ F ^^^ (y ^^^ F) = x ^^^ y := by
      rw [Nat.xor_assoc, ← Nat.xor_assoc F, Nat.xor_comm F y, Nat.xor_assoc y, Nat.xor_self, Nat.xor_zero]
    rw [h1, Nat.xor_assoc]
  exact e2 _
theorem xor3_take (a b c : List Nat) (k : Nat) : xor3 (a.take k) (b.take k) (c.take k) = (xor3 a b c).take k := by simp [xor3, List.take_zipWith]
theorem xor3_length {a b c : List Nat} (h1 : a.length = b.length) (h2 : a.length = c.length) : (xor3 a b c).length = a.length := by simp [xor3]; omega
theorem xor3_getD {a b c : List Nat} (h1 : a.length = b.length) (h2 : a.length = c.length) {k : Nat} (hk : k < a.length) : (xor3 a b c).getD k 0 = a.getD k 0 ^^^ b.getD k 0 ^^^ c.getD k 0 := by
  simp [xor3, List.getD_eq_getElem?_getD, List.getElem?_zipWith, List.getElem?_eq_getElem hk, List.getElem?_eq_getElem (show k < b.length by omega), List.getElem?_eq_getElem (show k < c.length by omega)]
theorem xor_lt8 {a b : Nat} (ha : a < 256) (hb : b < 256) : a ^^^ b < 256 := Nat.xor_lt_two_pow (n := 8) ha hb
theorem xor3_bytes {a b c : List Nat} (h1 : a.length = b.length) (h2 : a.length = c.length) (ha : Bytes a) (hb : Bytes b) (hc : Bytes c) : Bytes (xor3 a b c) :=
  Bytes.of_getD fun i hi => by
    rw [xor3_length h1 h2] at hi
    rw [xor3_getD h1 h2 hi]
    exact xor_lt8 (xor_lt8 (ha.getD i) (hb.getD i)) (hc.getD i)

set_option maxRecDepth 100000 in
set_option maxHeartbeats 4000000 in
theorem frameLinear_walk (a1 : Option Addr) (n1 c1 : Nat) (la : List Nat) (a2 : Option Addr) (n2 c2 : Nat) (lb : List Nat) (a3 : Option Addr) (n3 c3 : Nat) (lc : List Nat) (w : World)
    (h1 : BytesV w (a1, n1, c1) la) (_s1 : n1 ≤ 140737488351232) (h2 : BytesV w (a2, n2, c2) lb) (_s2 : n2 ≤ 140737488351232) (h3 : BytesV w (a3, n3, c3) lc) (_s3 : n3 ≤ 140737488351232) :
    Calls Try.prog 9 #[.slice a1 n1 c1, .slice a2 n2 c2, .slice a3 n3 c3] w fun e w' => e = .returned (.bool true) ∧ Below w.heap.size w w' := by
  have KA := alive_any
  obtain ⟨i0, hi, hz0, hz1, hz2⟩ := info_parts Try.info5
  by_cases e2 : n1 = n2
  case neg =>
    have e2' : ((n1 : Int) != (n2 : Int)) = true := by rw [bne_iff_ne]; omega
    go_enter Try.func9, Try.ntmps9
    go_wp2_with (go_at_call 10; (with_reducible refine (KA _).mono ?_); rintro e w1 ⟨rfl, hb1⟩)
    go_ret
    exact ⟨rfl, hb1⟩
  subst e2
  by_cases e3 : n1 = n3
  case neg =>
    have e3' : ((n1 : Int) != (n3 : Int)) = true := by rw [bne_iff_ne]; omega
    go_enter Try.func9, Try.ntmps9
    go_wp2_with (go_at_call 10; (with_reducible refine (KA _).mono ?_); rintro e w1 ⟨rfl, hb1⟩)
    go_ret
    exact ⟨rfl, hb1⟩
  subst e3
  by_cases e4 : 50000 < n1
  · go_enter Try.func9, Try.ntmps9
    go_wp2_with (go_at_call 10; (with_reducible refine (KA _).mono ?_); rintro e w1 ⟨rfl, hb1⟩)
    go_ret
    exact ⟨rfl, hb1⟩
  have l1 : la.length = n1 := h1.length
  have l2 : lb.length = n1 := h2.length
  have l3 : lc.length = n1 := h3.length
  have b1 := h1.bytes
  have b2 := h2.bytes
  have b3 := h3.bytes
  have hX := xor3_bytes (l1.trans l2.symm) (l1.trans l3.symm) b1 b2 b3
  have lX := xor3_length (l1.trans l2.symm) (l1.trans l3.symm)
  have hCR := crcN_xor3 (l1.trans l2.symm) (l1.trans l3.symm)
  have LX : Hid ((xor3 la lb lc).length = n1) := lX.trans l1
  have HCR := Lib.hid hCR
  have L1 := Lib.hid l1
  have L2 := Lib.hid l2
  have L3 := Lib.hid l3
  clear l1 l2 l3 lX hCR
  go_enter Try.func9, Try.ntmps9
  go_wp2_with (go_at_call 10; (with_reducible refine (KA _).mono ?_); rintro e w1 ⟨rfl, hb1⟩)
  have hown1 := World.ownsRow_made (base := w.heap.size) (e := 5) (size := 1) w1 #[] 0 hb1.size (by simp [maxLen]) rfl
  have hb2 := hb1.alloc hb1.size (.cells #[] 5)
  clear hb1 KA
  go_loopw [7, 8] (fun v i wr => ∃ (k : Nat) (ad : Option Addr) (cap : Nat), k ≤ n1 ∧ i = .int .i64 k ∧ v = .slice ad k cap ∧ wr.ownsRow w.heap.size 5 1 (.slice ad k cap) k (((xor3 la lb lc).take k).map bv) ∧ Below w.heap.size w wr) (fun _ i _ => n1 - (intOf i).toNat)
  case atStart => exact ⟨0, _, 0, Nat.zero_le _, rfl, rfl, hown1, hb2⟩
  case round =>
    clear hown1 hb2
    obtain ⟨k, ad, cap, hk, rfl, rfl, hown, hb⟩ := hrel
    have hbs := hb.size
    by_cases hlt : k < n1
    · obtain ⟨p1, o1, e1, d1⟩ := (h1.row.below hb).2 (by simp; omega)
      obtain ⟨p2, o2, e2, d2⟩ := (h2.row.below hb).2 (by simp; omega)
      obtain ⟨p3, o3, e3, d3⟩ := (h3.row.below hb).2 (by simp; omega)
      simp only at e1 e2 e3
      subst e1 e2 e3
      replace d1 := (d1 k hlt).trans (bv_getD (by rw [L1.out]; exact hlt))
      replace d2 := (d2 k hlt).trans (bv_getD (by rw [L2.out]; exact hlt))
      replace d3 := (d3 k hlt).trans (bv_getD (by rw [L3.out]; exact hlt))
      have hg := xor3_getD (L1.out.trans L2.out.symm) (L1.out.trans L3.out.symm) (k := k) (by rw [L1.out]; exact hlt)
      have v1 := b1.getD k
      have v2 := b2.getD k
      have v3 := b3.getD k
      obtain ⟨x, hx⟩ : ∃ x, x = la.getD k 0 := ⟨_, rfl⟩
      obtain ⟨y, hy⟩ : ∃ y, y = lb.getD k 0 := ⟨_, rfl⟩
      obtain ⟨z, hz⟩ : ∃ z, z = lc.getD k 0 := ⟨_, rfl⟩
      rw [← hx] at d1 v1 hg
      rw [← hy] at d2 v2 hg
      rw [← hz] at d3 v3 hg
      have q1 := u8_xor_nat x y v1 v2
      have v4 := xor_lt8 v1 v2
      obtain ⟨r, hr⟩ : ∃ r, r = x ^^^ y := ⟨_, rfl⟩
      rw [← hr] at q1 v4 hg
      have q2 := u8_xor_nat r z v4 v3
      have v5 := xor_lt8 v4 v3
      obtain ⟨s, hs⟩ : ∃ s, s = r ^^^ z := ⟨_, rfl⟩
      rw [← hs] at q2 v5 hg
      have HS : Hid ((xor3 la lb lc).take (k + 1) = (xor3 la lb lc).take k ++ [s]) := by
        show (xor3 la lb lc).take (k + 1) = (xor3 la lb lc).take k ++ [s]
        have hkl : k < (xor3 la lb lc).length := by rw [LX.out]; exact hlt
        rw [List.take_succ_eq_append_getElem hkl, ← hg, List.getD_eq_getElem?_getD, List.getElem?_eq_getElem hkl]; rfl
      clear hx hy hz hr hs hg
      go_wp2
      go_region_law (first
        | (refine step_append_lies _ rfl (.tmp 35) (.tmp 50) 22 rfl w.heap.size 5 i0 (.int .u8 0) 1 1 Try.underlying22 hi hz0 hz1 hz2 rfl (by decide) (.slice ad k cap) k (((xor3 la lb lc).take k).map bv) (by rfl) (hown.alloc _) ⟨wr.heap.size, 0, none⟩ 1 1 [.int .u8 (s : Nat)] (by rfl) (by rfl) (World.news_of_block (heap_alloc_new wr _)) (by intro u hu; simp at hu; subst hu; rfl) (by decide) (by simp [maxLen]; omega) (by omega) (by simp; omega) _ rfl ?_; intro g2 cap2 w4 hown4 hgrow4 hat _))
      all_goals
        have hb4 := grow_step hb _ hown (drop_drew hgrow4)
        have HO := Lib.hid hown4
        clear hgrow4 hat hown4 hown hb
        go_wp2
        go_roundw
        case rel =>
          refine ⟨k + 1, _, cap2, by omega, by go_num, rfl, ?_, hb4⟩
          rw [HS.out, List.map_append]
          exact HO.out
        case measure => simp [intOf]; omega
    · obtain rfl : k = n1 := by omega
      rw [List.take_of_length_le (by rw [LX.out]; exact Nat.le_refl _)] at hown
      have hB := bytesV_of_owns hown hX (by omega)
      clear hown
      have K1 := fun w h => check_one ad k cap (xor3 la lb lc) w h
      have S1 := h1.small
      have HSM : la.length ≤ 140737488355328 ∧ lb.length ≤ 140737488355328 ∧ lc.length ≤ 140737488355328 := by
        rw [L1.out, L2.out, L3.out]; omega
      have HSM := Lib.hid HSM
      obtain ⟨x, hx⟩ : ∃ x, x = crcN la := ⟨_, rfl⟩
      obtain ⟨y, hy⟩ : ∃ y, y = crcN lb := ⟨_, rfl⟩
      obtain ⟨z, hz⟩ : ∃ z, z = crcN lc := ⟨_, rfl⟩
      have vx : x < 4294967296 := by rw [hx]; exact crcN_lt b1
      have vy : y < 4294967296 := by rw [hy]; exact crcN_lt b2
      have vz : z < 4294967296 := by rw [hz]; exact crcN_lt b3
      have q1 := u32_xor_nat x y vx vy
      have v4 := xor4_lt vx vy
      have HCR2 : Hid (crcN (xor3 la lb lc) = x ^^^ y ^^^ z) := by rw [hx, hy, hz]; exact HCR.out
      obtain ⟨r, hr⟩ : ∃ r, r = x ^^^ y := ⟨_, rfl⟩
      rw [← hr] at q1 v4 HCR2
      have q2 := u32_xor_nat r z v4 vz
      obtain ⟨s, hs⟩ : ∃ s, s = r ^^^ z := ⟨_, rfl⟩
      rw [← hs] at q2 HCR2
      have HX := Lib.hid hx
      have HY := Lib.hid hy
      have HZ := Lib.hid hz
      clear hx hy hz hr hs v4
      go_wp2_with fail
      (with_reducible refine (check_one ad k cap (xor3 la lb lc) wr hB).mono ?_)
      rintro e w2 ⟨rfl, rfl⟩
      rw [HCR2.out]
      have hb2 := hb.alloc hbs (.cells #[.slice ad k cap] 22)
      go_wp2_with fail
      (with_reducible refine (copyBytes_any _ _ _ la _ (h1.below hb2)).mono ?_)
      rintro e w3 ⟨a3, c3, rfl, o3, b3⟩
      have hb3 := hb2.trans (b3.mono hb2.size)
      have hC3 := bytesV_of_owns o3 b1 HSM.out.1
      clear o3 b3
      go_wp2_with fail
      (with_reducible refine (check_one _ _ _ la w3 hC3).mono ?_)
      rintro e w4 ⟨rfl, rfl⟩
      rw [← HX.out]
      have hb4 := hb3.alloc hb3.size (.cells #[.slice a3 la.length c3] 22)
      go_wp2_with fail
      (with_reducible refine (copyBytes_any _ _ _ lb _ (h2.below hb4)).mono ?_)
      rintro e w5 ⟨a5, c5, rfl, o5, b5⟩
      have hb5 := hb4.trans (b5.mono hb4.size)
      have hC5 := bytesV_of_owns o5 b2 HSM.out.2.1
      clear o5 b5
      go_wp2_with fail
      (with_reducible refine (check_one _ _ _ lb w5 hC5).mono ?_)
      rintro e w6 ⟨rfl, rfl⟩
      rw [← HY.out]
      have hb6 := hb5.alloc hb5.size (.cells #[.slice a5 lb.length c5] 22)
      go_wp2_with fail
      (with_reducible refine (copyBytes_any _ _ _ lc _ (h3.below hb6)).mono ?_)
      rintro e w7 ⟨a7, c7, rfl, o7, b7⟩
      have hb7 := hb6.trans (b7.mono hb6.size)
      have hC7 := bytesV_of_owns o7 b3 HSM.out.2.2
      clear o7 b7
      go_wp2_with fail
      (with_reducible refine (check_one _ _ _ lc w7 hC7).mono ?_)
      rintro e w8 ⟨rfl, rfl⟩
      rw [← HZ.out]
      have hb8 := hb7.alloc hb7.size (.cells #[.slice a7 lc.length c7] 22)
      go_wp2
      go_ret
      exact ⟨rfl, hb8⟩
end Go.Proofs.Ytkepdjbgfkoobaa
