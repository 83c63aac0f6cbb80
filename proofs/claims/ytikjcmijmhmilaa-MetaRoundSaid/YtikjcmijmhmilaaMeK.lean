/-
  rillref09: Earlier, Next, Later; tags appended; MetaTags.
-/
import Derived.Test.YtikjcmijmhmilaaMeJ
import Derived.Laws.AppendOwn
import Derived.Laws.OwnMore
namespace Go.Proofs.Ytikjcmijmhmilaa
open Go.RowKit

set_option maxRecDepth 10000 in
set_option maxHeartbeats 1000000 in
theorem refEarlier_any (n c m d : Int) (w : World) : Calls Try.prog 14 #[.agg #[.int .i64 n, .int .i64 c], .agg #[.int .i64 m, .int .i64 d]] w fun e w' => e = .returned (.bool (decide (lt (n, c) (m, d)))) ∧ Below w.heap.size w w' := by
  have hbF : ∀ o p : Obj, Below w.heap.size w ((w.alloc o).alloc p) := fun o p => (below_alloc w o).alloc (by simp) p
  by_cases h1 : n < m
  · go_enter Try.func14, Try.ntmps14
    go_wp2
    go_ret
    exact ⟨ret_boolM (decide_eq_true (Or.inl h1)).symm, hbF _ _⟩
  · by_cases h2 : n = m
    · subst h2
      by_cases h3 : c < d
      · go_enter Try.func14, Try.ntmps14
        go_wp2
        go_ret
        exact ⟨ret_boolM (by rw [decide_eq_true (show lt (n, c) (n, d) from Or.inr ⟨rfl, h3⟩)]), hbF _ _⟩
      · have h4 : d ≤ c := by omega
        go_enter Try.func14, Try.ntmps14
        go_wp2
        go_ret
        exact ⟨ret_boolM (by rw [decide_eq_false (show ¬ lt (n, c) (n, d) from fun h => by simp only [lt] at h; omega)]), hbF _ _⟩
    · have h3 : m < n := by omega
      have h4 : (n == m) = false := by simpa using h2
      go_enter Try.func14, Try.ntmps14
      go_wp2
      go_ret
      exact ⟨ret_boolM (by rw [decide_eq_false (show ¬ lt (n, c) (m, d) from fun h => by simp only [lt] at h; omega)]), hbF _ _⟩


theorem results_nextR (tmps : Array Value) (w : World) (g : Nat) (cs : Array Value) (hp : tmps.getD 4 undef = .pointer (some ⟨g, 0, none⟩)) (hg : w.heap[g]? = some (.cells cs 25 (0, 0))) (hs : cs.size = 2) :
    (results Try.f12 tmps).run Try.prog w = .ok (.agg cs) w := by
  have hp' : tmps[4]?.getD undef = .pointer (some ⟨g, 0, none⟩) := by simpa using hp
  simp [results, Try.results12, hp', asAddr, loadVar_tag w g cs hg hs]
theorem results_laterR (tmps : Array Value) (w : World) (g : Nat) (cs : Array Value) (hp : tmps.getD 2 undef = .pointer (some ⟨g, 0, none⟩)) (hg : w.heap[g]? = some (.cells cs 25 (0, 0))) (hs : cs.size = 2) :
    (results Try.f10 tmps).run Try.prog w = .ok (.agg cs) w := by
  have hp' : tmps[2]?.getD undef = .pointer (some ⟨g, 0, none⟩) := by simpa using hp
  simp [results, Try.results10, hp', asAddr, loadVar_tag w g cs hg hs]
set_option maxRecDepth 10000 in
set_option maxHeartbeats 1000000 in
theorem refNext_any (n c k : Int) (w : World) : Calls Try.prog 12 #[.agg #[.int .i64 n, .int .i64 c], .int .i64 k] w fun e w' => e = .returned (.agg #[.int .i64 (nextN n), .int .i64 k]) ∧ Below w.heap.size w w' := by
  have hbF : ∀ o p : Obj, Below w.heap.size w ((w.alloc o).alloc p) := fun o p => (below_alloc w o).alloc (by simp) p
  rcases (by omega : n < 0 ∨ 2147483647 ≤ n ∨ (0 ≤ n ∧ n < 2147483647)) with h | h | h
  · rw [show nextN n = 1 by unfold nextN; omega]
    go_enter Try.func12, Try.ntmps12
    go_wp2
    exact bodyPost_ret (v := .agg #[.int .i64 1, .int .i64 k]) (results_nextR _ _ _ _ rfl (two_allocM _ _ _) rfl) rfl ⟨rfl, hbF _ _⟩
  · rw [show nextN n = 2147483648 by unfold nextN; omega]
    have h0 : ¬ n < 0 := by omega
    go_enter Try.func12, Try.ntmps12
    go_wp2
    exact bodyPost_ret (v := .agg #[.int .i64 2147483648, .int .i64 k]) (results_nextR _ _ _ _ rfl (two_allocM _ _ _) rfl) rfl ⟨rfl, hbF _ _⟩
  · rw [show nextN n = n + 1 by unfold nextN; omega]
    obtain ⟨h1, h2⟩ := h
    have h0 : ¬ n < 0 := by omega
    have h3 : ¬ 2147483647 ≤ n := by omega
    go_enter Try.func12, Try.ntmps12
    go_wp2
    exact bodyPost_ret (v := .agg #[.int .i64 (n + 1), .int .i64 k]) (results_nextR _ _ _ _ rfl (two_allocM _ _ _) rfl) rfl ⟨rfl, hbF _ _⟩
set_option maxRecDepth 10000 in
set_option maxHeartbeats 4000000 in
theorem refLater_any (ad : Option Addr) (n c : Nat) (L : Nat → Int × Int) (w : World) (hL : TagsV w ad n c L) :
    Calls Try.prog 10 #[.slice ad n c] w fun e w' => e = .returned (.agg #[.int .i64 (latest L n).1, .int .i64 (latest L n).2]) ∧ Below w.heap.size w w' := by
  have hsm := hL.small
  unfold maxLen at hsm
  obtain ⟨w2, hw2⟩ : ∃ w2, w2 = (w.alloc (.cells #[.int .i64 0, .int .i64 0] 25)).alloc (.cells #[.int .i64 0, .int .i64 0] 25) := ⟨_, rfl⟩
  have hA : w2.heap[w.heap.size]? = some (.cells #[.int .i64 0, .int .i64 0] 25 (0, 0)) := by
    rw [hw2, heap_alloc_old _ _ (by simp)]; exact heap_alloc_new _ _
  have hB : w2.heap[w.heap.size + 1]? = some (.cells #[.int .i64 0, .int .i64 0] 25 (0, 0)) := by rw [hw2]; exact two_allocM _ _ _
  have hb2 : Below w.heap.size w w2 := by rw [hw2]; exact (below_alloc _ _).alloc (by simp) _
  go_enter Try.func10, Try.ntmps10
  go_wp2
  rw [← hw2]
  clear hw2
  go_loopw [4] (fun i wr => ∃ k : Nat, k ≤ n ∧ i = .int .i64 k ∧ Hid (wr.heap[w.heap.size]? = some (.cells #[.int .i64 0, .int .i64 0] 25 (0, 0))) ∧ Hid (wr.heap[w.heap.size + 1]? = some (.cells #[.int .i64 (latest L k).1, .int .i64 (latest L k).2] 25 (0, 0))) ∧ Below w.heap.size w wr) (fun i _ => n - (intOf i).toNat)
  case atStart => exact ⟨0, Nat.zero_le _, rfl, Lib.hid hA, Lib.hid hB, hb2⟩
  case round =>
    clear hA hB hb2
    obtain ⟨k, hk, rfl, HA, HB, hb⟩ := hrel
    have hcap := hL.cap
    by_cases hkn : k < n
    · obtain ⟨b, o, e, hlt, hc⟩ := hL.row (by omega)
      subst e
      obtain ⟨d0, d1⟩ := hc k hkn
      have t0 := (hb.cell (p := ⟨b, o + k * 2, none⟩) hlt).trans d0
      have t1 := (hb.cell (p := ⟨b, o + k * 2 + 1, none⟩) hlt).trans d1
      have hS : latest L (k + 1) = if k = 0 ∨ lt (latest L k) (L k) then L k else latest L k := rfl
      obtain ⟨x, hx⟩ : ∃ x, x = L k := ⟨_, rfl⟩
      obtain ⟨y, hy⟩ : ∃ y, y = latest L k := ⟨_, rfl⟩
      rw [← hx] at t0 t1
      rw [← hx, ← hy] at hS
      rw [← hy] at HB
      obtain ⟨x0, x1⟩ := x
      obtain ⟨y0, y1⟩ := y
      simp only at t0 t1 HB
      have hlb := Nat.lt_of_lt_of_le hlt hb.size
      have HP := Lib.hid (show ∀ w3, Below wr.heap.size wr w3 → w3.cell? ⟨w.heap.size + 1, 0, none⟩ = some (.int .i64 y0) ∧ w3.cell? ⟨w.heap.size + 1, 1, none⟩ = some (.int .i64 y1) ∧ w3.cell? ⟨b, o + k * 2, none⟩ = some (.int .i64 x0) ∧ w3.cell? ⟨b, o + k * 2 + 1, none⟩ = some (.int .i64 x1) from fun w3 h3 => by
        have e3 := (h3.block (w.heap.size + 1) (Array.getElem?_eq_some_iff.1 HB.out).1).trans HB.out
        exact ⟨(cells2M e3).1, (cells2M e3).2.1, (h3.cell (p := ⟨b, o + k * 2, none⟩) hlb).trans t0, (h3.cell (p := ⟨b, o + k * 2 + 1, none⟩) hlb).trans t1⟩)
      clear hc d0 d1 hx hy
      obtain ⟨p0, p1, pF⟩ := cells2M HB.out
      have hsz := (Array.getElem?_eq_some_iff.1 HB.out).1
      have hkI : (k : Int) < (n : Int) := by omega
      by_cases hk0 : k = 0
      · subst hk0
        rw [if_pos (Or.inl rfl)] at hS
        simp only [Nat.zero_mul, Nat.add_zero] at t0 t1
        have HS := Lib.hid hS
        clear hS
        go_wp2_with fail
        have P0Z : wr.drew.cell? ⟨w.heap.size + 1, 0, none⟩ = some (.int .i64 y0) ∧ wr.drew.cell? ⟨w.heap.size + 1, 1, none⟩ = some (.int .i64 y1) ∧ wr.drew.cell? ⟨b, o + 0 * 2, none⟩ = some (.int .i64 x0) ∧ wr.drew.cell? ⟨b, o + 0 * 2 + 1, none⟩ = some (.int .i64 x1) := HP.out wr.drew ⟨rfl, rfl, rfl, Nat.le_refl _, fun _ _ => rfl⟩
        refine GoX.start 9 (fun w' => w'.cell? ⟨w.heap.size + 1, 0, none⟩ = some (.int .i64 y0) ∧ w'.cell? ⟨w.heap.size + 1, 1, none⟩ = some (.int .i64 y1) ∧ w'.cell? ⟨b, o + 0 * 2, none⟩ = some (.int .i64 x0) ∧ w'.cell? ⟨b, o + 0 * 2 + 1, none⟩ = some (.int .i64 x1)) (by kernel_rfl) ?_
        refine GoX.take 0 rfl (by kernel_rfl) (by kernel_rfl) (by rfl) (fun _ _ _ h => h) (v := ?tv0Z) P0Z ?ty0Z ?tr0Z
        case ty0Z => (intro w hSw; (try dsimp only at hSw); go_simp; first | done | with_reducible rfl)
        simp only [Act.put, List.setIfInBounds_toArray, List.set_cons_zero, List.set_cons_succ]
        refine GoX.take 1 rfl (by kernel_rfl) (by kernel_rfl) (by rfl) (fun _ _ _ h => h) (v := ?tv1Z) P0Z ?ty1Z ?tr1Z
        case ty1Z => (intro w hSw; (try dsimp only at hSw); go_simp; first | done | with_reducible rfl)
        simp only [Act.put, List.setIfInBounds_toArray, List.set_cons_zero, List.set_cons_succ]
        refine GoX.take 2 rfl (by kernel_rfl) (by kernel_rfl) (by rfl) (fun _ _ _ h => h) (v := ?tv2Z) P0Z ?ty2Z ?tr2Z
        case ty2Z => (intro w hSw; (try dsimp only at hSw); go_simp; first | done | with_reducible rfl)
        simp only [Act.put, List.setIfInBounds_toArray, List.set_cons_zero, List.set_cons_succ]
        refine GoX.skip 3 rfl (by kernel_rfl) (by kernel_rfl) (by rfl) (fun _ _ _ h => h) P0Z ?_
        simp only [Act.put, List.setIfInBounds_toArray, List.set_cons_zero, List.set_cons_succ]
        refine GoX.skip 4 rfl (by kernel_rfl) (by kernel_rfl) (by rfl) (fun _ _ _ h => h) P0Z ?_
        simp only [Act.put, List.setIfInBounds_toArray, List.set_cons_zero, List.set_cons_succ]
        refine GoX.skip 5 rfl (by kernel_rfl) (by kernel_rfl) (by rfl) (fun _ _ _ h => h) P0Z ?_
        simp only [Act.put, List.setIfInBounds_toArray, List.set_cons_zero, List.set_cons_succ]
        refine GoX.skip 6 rfl (by kernel_rfl) (by kernel_rfl) (by rfl) (fun _ _ _ h => h) P0Z ?_
        simp only [Act.put, List.setIfInBounds_toArray, List.set_cons_zero, List.set_cons_succ]
        refine GoX.skip 7 rfl (by kernel_rfl) (by kernel_rfl) (by rfl) (fun _ _ _ h => h) P0Z ?_
        simp only [Act.put, List.setIfInBounds_toArray, List.set_cons_zero, List.set_cons_succ]
        refine GoX.skip 8 rfl (by kernel_rfl) (by kernel_rfl) (by rfl) (fun _ _ _ h => h) P0Z ?_
        simp only [Act.put, List.setIfInBounds_toArray, List.set_cons_zero, List.set_cons_succ]
        refine GoX.last 9 rfl (by kernel_rfl) (by kernel_rfl) (by decide) ?_
        rw [if_pos (by rfl)]
        go_simp
        have q0 : wr.drew.cell? ⟨b, o, none⟩ = some (.int .i64 x0) := t0
        have q1 : wr.drew.cell? ⟨b, o + 1, none⟩ = some (.int .i64 x1) := t1
        go_wp2
        refine ⟨⟨1, hkn, rfl, Lib.hid ((set2_other _ _ (by omega)).trans HA.out), Lib.hid ?_, set2_below hb.drew (Nat.le_succ _) _ _⟩, by simp [intOf]; omega⟩
        rw [HS.out]
        exact set2_same _ _ HB.out
      · have hk0' : ((k : Int) == 0) = false := by simpa using hk0
        have HS := Lib.hid hS
        clear hS
        by_cases hlt2 : lt (y0, y1) (x0, x1)
        · have KE : ∀ w, Calls Try.prog 14 #[.agg #[.int .i64 y0, .int .i64 y1], .agg #[.int .i64 x0, .int .i64 x1]] w fun e w' => e = .returned (.bool true) ∧ Below w.heap.size w w' := by
            intro w; have := refEarlier_any y0 y1 x0 x1 w; rwa [decide_eq_true hlt2] at this
          go_wp2_with fail
          have P0L : wr.drew.cell? ⟨w.heap.size + 1, 0, none⟩ = some (.int .i64 y0) ∧ wr.drew.cell? ⟨w.heap.size + 1, 1, none⟩ = some (.int .i64 y1) ∧ wr.drew.cell? ⟨b, o + k * 2, none⟩ = some (.int .i64 x0) ∧ wr.drew.cell? ⟨b, o + k * 2 + 1, none⟩ = some (.int .i64 x1) := HP.out wr.drew ⟨rfl, rfl, rfl, Nat.le_refl _, fun _ _ => rfl⟩
          refine GoX.start 9 (fun w' => w'.cell? ⟨w.heap.size + 1, 0, none⟩ = some (.int .i64 y0) ∧ w'.cell? ⟨w.heap.size + 1, 1, none⟩ = some (.int .i64 y1) ∧ w'.cell? ⟨b, o + k * 2, none⟩ = some (.int .i64 x0) ∧ w'.cell? ⟨b, o + k * 2 + 1, none⟩ = some (.int .i64 x1)) (by kernel_rfl) ?_
          refine GoX.take 0 rfl (by kernel_rfl) (by kernel_rfl) (by rfl) (fun _ _ _ h => h) (v := ?tv0L) P0L ?ty0L ?tr0L
          case ty0L => (intro w hSw; (try dsimp only at hSw); go_simp; first | done | with_reducible rfl)
          simp only [Act.put, List.setIfInBounds_toArray, List.set_cons_zero, List.set_cons_succ]
          refine GoX.take 1 rfl (by kernel_rfl) (by kernel_rfl) (by rfl) (fun _ _ _ h => h) (v := ?tv1L) P0L ?ty1L ?tr1L
          case ty1L => (intro w hSw; (try dsimp only at hSw); go_simp; first | done | with_reducible rfl)
          simp only [Act.put, List.setIfInBounds_toArray, List.set_cons_zero, List.set_cons_succ]
          refine GoX.take 2 rfl (by kernel_rfl) (by kernel_rfl) (by rfl) (fun _ _ _ h => h) (v := ?tv2L) P0L ?ty2L ?tr2L
          case ty2L => (intro w hSw; (try dsimp only at hSw); go_simp; first | done | with_reducible rfl)
          simp only [Act.put, List.setIfInBounds_toArray, List.set_cons_zero, List.set_cons_succ]
          refine GoX.take 3 rfl (by kernel_rfl) (by kernel_rfl) (by rfl) (fun _ _ _ h => h) (v := ?tv3L) P0L ?ty3L ?tr3L
          case ty3L => (intro w hSw; (try dsimp only at hSw); go_simp; first | done | with_reducible rfl)
          simp only [Act.put, List.setIfInBounds_toArray, List.set_cons_zero, List.set_cons_succ]
          refine GoX.take 4 rfl (by kernel_rfl) (by kernel_rfl) (by rfl) (fun _ _ _ h => h) (v := ?tv4L) P0L ?ty4L ?tr4L
          case ty4L => (intro w hSw; (try dsimp only at hSw); go_simp; first | done | with_reducible rfl)
          simp only [Act.put, List.setIfInBounds_toArray, List.set_cons_zero, List.set_cons_succ]
          refine GoX.take 5 rfl (by kernel_rfl) (by kernel_rfl) (by rfl) (fun _ _ _ h => h) (v := ?tv5L) P0L ?ty5L ?tr5L
          case ty5L => (intro w hSw; (try dsimp only at hSw); go_simp; first | done | with_reducible rfl)
          simp only [Act.put, List.setIfInBounds_toArray, List.set_cons_zero, List.set_cons_succ]
          refine GoX.take 6 rfl (by kernel_rfl) (by kernel_rfl) (by rfl) (fun _ _ _ h => h) (v := ?tv6L) P0L ?ty6L ?tr6L
          case ty6L => (intro w hSw; (try dsimp only at hSw); go_simp; first | done | with_reducible rfl)
          simp only [Act.put, List.setIfInBounds_toArray, List.set_cons_zero, List.set_cons_succ]
          refine GoX.take 7 rfl (by kernel_rfl) (by kernel_rfl) (by rfl) (fun _ _ _ h => h) (v := ?tv7L) P0L ?ty7L ?tr7L
          case ty7L => (intro w hSw; (try dsimp only at hSw); go_simp; first | done | with_reducible rfl)
          simp only [Act.put, List.setIfInBounds_toArray, List.set_cons_zero, List.set_cons_succ]
          refine GoX.one 8 rfl (by kernel_rfl) (by decide) (fun K hK => ?_)
          rw [if_pos (by rfl)]
          go_simp
          (with_reducible refine (KE _).mono ?_)
          rintro e wL1 ⟨rfl, hd⟩
          have hd3 : Below wr.heap.size wr wL1 := ⟨hd.os, hd.tape, hd.output, hd.size, hd.block⟩
          have HB3 := Lib.hid (hb.trans (hd3.mono hb.size))
          have HH3 := Lib.hid ((hd3.block (w.heap.size + 1) hsz).trans HB.out)
          have HA3 := Lib.hid ((hd3.block w.heap.size (by omega)).trans HA.out)
          have PL1 := HP.out wL1 hd3
          clear hd hd3
          refine hK.out _ _ PL1 (fun _ => ?_)
          clear hK K
          refine GoX.last 9 rfl (by kernel_rfl) (by kernel_rfl) (by decide) ?_
          rw [if_pos (by rfl)]
          go_simp
          obtain ⟨-, -, s0, s1⟩ := PL1
          obtain ⟨v0, v1, vF⟩ := cells2M HH3.out
          go_wp2
          go_roundw
          case rel =>
            refine ⟨k + 1, by omega, by go_num, Lib.hid ((set2_other _ _ (by omega)).trans HA3.out), ?_, set2_below HB3.out (Nat.le_succ _) _ _⟩
            rw [HS.out, if_pos (Or.inr hlt2)]
            exact Lib.hid (set2_same _ _ HH3.out)
          case measure => simp [intOf]; omega
        · have KE : ∀ w, Calls Try.prog 14 #[.agg #[.int .i64 y0, .int .i64 y1], .agg #[.int .i64 x0, .int .i64 x1]] w fun e w' => e = .returned (.bool false) ∧ Below w.heap.size w w' := by
            intro w; have := refEarlier_any y0 y1 x0 x1 w; rwa [decide_eq_false hlt2] at this
          go_wp2_with fail
          have P0K : wr.drew.cell? ⟨w.heap.size + 1, 0, none⟩ = some (.int .i64 y0) ∧ wr.drew.cell? ⟨w.heap.size + 1, 1, none⟩ = some (.int .i64 y1) ∧ wr.drew.cell? ⟨b, o + k * 2, none⟩ = some (.int .i64 x0) ∧ wr.drew.cell? ⟨b, o + k * 2 + 1, none⟩ = some (.int .i64 x1) := HP.out wr.drew ⟨rfl, rfl, rfl, Nat.le_refl _, fun _ _ => rfl⟩
          refine GoX.start 9 (fun w' => w'.cell? ⟨w.heap.size + 1, 0, none⟩ = some (.int .i64 y0) ∧ w'.cell? ⟨w.heap.size + 1, 1, none⟩ = some (.int .i64 y1) ∧ w'.cell? ⟨b, o + k * 2, none⟩ = some (.int .i64 x0) ∧ w'.cell? ⟨b, o + k * 2 + 1, none⟩ = some (.int .i64 x1)) (by kernel_rfl) ?_
          refine GoX.take 0 rfl (by kernel_rfl) (by kernel_rfl) (by rfl) (fun _ _ _ h => h) (v := ?tv0K) P0K ?ty0K ?tr0K
          case ty0K => (intro w hSw; (try dsimp only at hSw); go_simp; first | done | with_reducible rfl)
          simp only [Act.put, List.setIfInBounds_toArray, List.set_cons_zero, List.set_cons_succ]
          refine GoX.take 1 rfl (by kernel_rfl) (by kernel_rfl) (by rfl) (fun _ _ _ h => h) (v := ?tv1K) P0K ?ty1K ?tr1K
          case ty1K => (intro w hSw; (try dsimp only at hSw); go_simp; first | done | with_reducible rfl)
          simp only [Act.put, List.setIfInBounds_toArray, List.set_cons_zero, List.set_cons_succ]
          refine GoX.take 2 rfl (by kernel_rfl) (by kernel_rfl) (by rfl) (fun _ _ _ h => h) (v := ?tv2K) P0K ?ty2K ?tr2K
          case ty2K => (intro w hSw; (try dsimp only at hSw); go_simp; first | done | with_reducible rfl)
          simp only [Act.put, List.setIfInBounds_toArray, List.set_cons_zero, List.set_cons_succ]
          refine GoX.take 3 rfl (by kernel_rfl) (by kernel_rfl) (by rfl) (fun _ _ _ h => h) (v := ?tv3K) P0K ?ty3K ?tr3K
          case ty3K => (intro w hSw; (try dsimp only at hSw); go_simp; first | done | with_reducible rfl)
          simp only [Act.put, List.setIfInBounds_toArray, List.set_cons_zero, List.set_cons_succ]
          refine GoX.take 4 rfl (by kernel_rfl) (by kernel_rfl) (by rfl) (fun _ _ _ h => h) (v := ?tv4K) P0K ?ty4K ?tr4K
          case ty4K => (intro w hSw; (try dsimp only at hSw); go_simp; first | done | with_reducible rfl)
          simp only [Act.put, List.setIfInBounds_toArray, List.set_cons_zero, List.set_cons_succ]
          refine GoX.take 5 rfl (by kernel_rfl) (by kernel_rfl) (by rfl) (fun _ _ _ h => h) (v := ?tv5K) P0K ?ty5K ?tr5K
          case ty5K => (intro w hSw; (try dsimp only at hSw); go_simp; first | done | with_reducible rfl)
          simp only [Act.put, List.setIfInBounds_toArray, List.set_cons_zero, List.set_cons_succ]
          refine GoX.take 6 rfl (by kernel_rfl) (by kernel_rfl) (by rfl) (fun _ _ _ h => h) (v := ?tv6K) P0K ?ty6K ?tr6K
          case ty6K => (intro w hSw; (try dsimp only at hSw); go_simp; first | done | with_reducible rfl)
          simp only [Act.put, List.setIfInBounds_toArray, List.set_cons_zero, List.set_cons_succ]
          refine GoX.take 7 rfl (by kernel_rfl) (by kernel_rfl) (by rfl) (fun _ _ _ h => h) (v := ?tv7K) P0K ?ty7K ?tr7K
          case ty7K => (intro w hSw; (try dsimp only at hSw); go_simp; first | done | with_reducible rfl)
          simp only [Act.put, List.setIfInBounds_toArray, List.set_cons_zero, List.set_cons_succ]
          refine GoX.one 8 rfl (by kernel_rfl) (by decide) (fun K hK => ?_)
          rw [if_pos (by rfl)]
          go_simp
          (with_reducible refine (KE _).mono ?_)
          rintro e wK1 ⟨rfl, hd⟩
          have hd3 : Below wr.heap.size wr wK1 := ⟨hd.os, hd.tape, hd.output, hd.size, hd.block⟩
          have HB3 := Lib.hid (hb.trans (hd3.mono hb.size))
          have HH3 := Lib.hid ((hd3.block (w.heap.size + 1) hsz).trans HB.out)
          have HA3 := Lib.hid ((hd3.block w.heap.size (by omega)).trans HA.out)
          have PK1 := HP.out wK1 hd3
          clear hd hd3
          refine hK.out _ _ PK1 (fun _ => ?_)
          clear hK K
          refine GoX.last 9 rfl (by kernel_rfl) (by kernel_rfl) (by decide) ?_
          rw [if_pos (by rfl)]
          go_simp
          go_wp2
          go_roundw
          case rel =>
            refine ⟨k + 1, by omega, by go_num, HA3, ?_, HB3.out⟩
            rw [HS.out, if_neg (fun h => by rcases h with h | h; exact hk0 h; exact hlt2 h)]
            exact HH3
          case measure => simp [intOf]; omega
    · have hke : k = n := by omega
      subst hke
      obtain ⟨p0, p1, pF⟩ := cells2M HB.out
      have hsz := (Array.getElem?_eq_some_iff.1 HB.out).1
      obtain ⟨z0, z1, zF⟩ := cells2M HA.out
      go_wp2
      exact bodyPost_ret (v := .agg #[.int .i64 (latest L k).1, .int .i64 (latest L k).2]) (results_laterR _ _ _ _ rfl (set2_same _ _ HA.out) rfl) rfl ⟨rfl, set2_below hb (Nat.le_refl _) _ _⟩
end Go.Proofs.Ytikjcmijmhmilaa
