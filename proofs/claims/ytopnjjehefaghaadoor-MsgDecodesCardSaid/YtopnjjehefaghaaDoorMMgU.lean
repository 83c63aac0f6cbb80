/-
  msg's reader: bytes taken; slices.Backward.
-/
import Derived.Test.YtopnjjehefaghaaDoorMBase
import Derived.Test.YtopnjjehefaghaaDoorMMgA
import Derived.Test.YtopnjjehefaghaaDoorMRgF
namespace Go.Proofs.YtopnjjehefaghaaDoor
open Go.RowKit Go.Shelf
attribute [local go_sem] Oper.semAt_some

abbrev BX24 : TypeId := 24
theorem back_any (ad : Option Addr) (n c : Nat) (w : World) :
    Calls Tryd.prog 66 #[.slice ad n c] w fun e w' => e = .returned (.func (.func 69) #[] #[.pointer (some ⟨w.heap.size, 0, none⟩)]) ∧ w' = w.alloc (.cells #[.slice ad n c] BX24) := by
  go_enter Tryd.func66, Tryd.ntmps66
  go_wp2
  go_ret
  exact ⟨rfl, rfl⟩
set_option maxRecDepth 100000 in
set_option maxHeartbeats 4000000 in
/-- the iterator of bytes from behind. -/
theorem backIt_any (l pb n c : Nat) (ad : Option Addr) (L : List Nat) (W : World) (T : TypeId) (J : Nat → World → Prop) (X : Nat → Prop)
    (hp : W.heap[pb]? = some (.cells #[.slice ad n c] T (0, 0))) (hpX : ¬ X pb) (hn : n ≤ 140737488355328)
    (hkeep : ∀ W2, KeepR X W W2 → BytesV W2 (ad, n, c) L)
    (hY : ∀ k W1, k < n → J k W1 → KeepR X W W1 → YieldAt Fence.wide 0 Tryd.prog l #[.int .i64 ((n - 1 - k : Nat) : Int), .int .u8 ((L.getD (n - 1 - k) 0 : Nat) : Int)] W1 fun e W' => e = .returned (.bool true) ∧ J (k + 1) W' ∧ KeepR X W1 W')
    (h0 : J 0 W) :
    Calls Tryd.prog 69 #[.func (.yield l) #[] #[], .pointer (some ⟨pb, 0, none⟩)] W fun e W' => (∃ v, e = .returned v) ∧ J n W' ∧ KeepR X W W' := by
  have hK0 : KeepR X W W := KeepR.refl X W
  have hLl : L.length = n := (hkeep W hK0).length
  have HLL := Lib.hid hLl
  have HKEEP := Lib.hid hkeep
  have HY := Lib.hid hY
  have hpc : W.cell? ⟨pb, 0, none⟩ = some (.slice ad n c) := cell_of_row _ _ 0 _ _ _ hp
  have HPC := Lib.hid hpc
  have H0 := Lib.hid (And.intro h0 hK0)
  clear hLl hkeep hY hp h0 hK0
  go_enter Tryd.func69, Tryd.ntmps69
  go_wp2
  clear hpc
  go_loopw [3] (fun vi wr => ∃ m k : Nat, m + k = n ∧ vi = .int .i64 ((m : Int) - 1) ∧ Hid (J k wr ∧ KeepR X W wr)) (fun vi _ => (intOf vi + 1).toNat)
  case atStart => exact ⟨n, 0, by omega, rfl, H0⟩
  case round =>
    clear H0
    obtain ⟨m, k, hmk, rfl, HS⟩ := hrel
    rename World => wr
    by_cases hlt : 0 < m
    · obtain ⟨j, rfl⟩ : ∃ j, m = j + 1 := ⟨m - 1, by omega⟩
      have hj1 : (((j + 1 : Nat) : Int) - 1) = (j : Int) := by omega
      rw [hj1]
      have hjn : j < n := by omega
      have hby := HKEEP.out wr HS.out.2
      obtain ⟨g, o, rfl, hrow⟩ := hby.row.2 (by simp only; omega)
      simp only at hrow
      have hx := hrow j hjn
      rw [bv_getD (by rw [HLL.out]; exact hjn)] at hx
      obtain ⟨x, hxx⟩ : ∃ x, x = L.getD j 0 := ⟨_, rfl⟩
      rw [← hxx] at hx
      have hpc : wr.cell? ⟨pb, 0, none⟩ = some (.slice (some ⟨g, o, none⟩) n c) := HS.out.2.cell HPC.out hpX
      have hjk : n - 1 - k = j := by omega
      have HYY := HY.out k wr (by omega) HS.out.1 HS.out.2
      rw [hjk, ← hxx] at HYY
      obtain ⟨fn, tmps, assign, body, hy, hR⟩ := HYY
      have HR := Lib.hid hR
      have HYe := Lib.hid hy
      have HJK := Lib.hid hmk
      have j0 : (0 : Int) ≤ (j : Int) := by omega
      have j1 : (j : Int) < (n : Int) := by omega
      clear hby hrow hj1 hjk hxx hR hy hmk
      go_upto_region 3 with fail
      refine (wpIn_wide (n := 0)).1 ?_
      have hy := HYe.out
      gi_wp2
      refine ⟨rfl, HR.out.mono ?_⟩
      rintro e W4 ⟨rfl, hJ4, hK4⟩
      have HS4 := Lib.hid (And.intro hJ4 (HS.out.2.trans hK4))
      clear hy hJ4 hK4 hx hpc
      gi_wp2
      go_wp2
      go_roundw
      case rel => exact ⟨j, k + 1, by have := HJK.out; omega, rfl, HS4⟩
      case measure => simp [intOf] <;> omega
    · obtain rfl : m = 0 := by omega
      obtain rfl : k = n := by omega
      have HE := Lib.hid HS.out
      clear HS hmk
      go_wp2
      go_end0
      exact ⟨⟨_, rfl⟩, HE.out.1, HE.out.2⟩
end Go.Proofs.YtopnjjehefaghaaDoor
