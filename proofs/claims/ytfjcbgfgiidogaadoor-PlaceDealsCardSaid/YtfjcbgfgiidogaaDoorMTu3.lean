/-
  Tu3: TuB TuP
-/
import Derived.Deep.LoopGhost
import Derived.Test.YtfjcbgfgiidogaaDoorMTu1
import Derived.Test.YtfjcbgfgiidogaaDoorMTu2
namespace Go.Proofs.YtfjcbgfgiidogaaDoor
open Go.RowKit

theorem pr_small {n : Nat} (h : n < 2) : pr n = false := by
  unfold pr
  have : Nat.blt 1 n = false := by
    cases hb : Nat.blt 1 n with
    | false => rfl
    | true => have := bltI.1 hb; omega
  rw [this]; rfl
theorem pr_all {n : Nat} (h : 2 ≤ n) (hn : ∀ e, 2 ≤ e → e < n → n % e ≠ 0) : pr n = true := by
  unfold pr
  rw [bltI.2 (show 1 < n by omega), Bool.true_and, List.all_eq_true]
  intro e he
  simp at he
  by_cases h2 : e < 2
  · rw [bltI.2 h2]; rfl
  · have := hn e (by omega) he
    cases hb : Nat.beq (n % e) 0 with
    | false => simp
    | true => exact absurd (Nat.eq_of_beq_eq_true hb) this
theorem pr_no {n d : Nat} (h2 : 2 ≤ d) (hd : d < n) (h : n % d = 0) : pr n = false := by
  cases hp : pr n with
  | false => rfl
  | true =>
    simp only [pr, Bool.and_eq_true] at hp
    have := allR hp.2 d hd
    simp only [Bool.or_eq_true] at this
    rcases this with h1 | h1
    · have := bltI.1 h1; omega
    · rw [h] at h1; cases h1

set_option maxRecDepth 10000 in
set_option maxHeartbeats 400000 in
theorem refPrime_any (n : Nat) (w : World) (hn : n < 64) :
    Calls Tryd.prog 104 #[.int .i64 (n : Int)] w fun e w' => e = .returned (.bool (pr n)) ∧ w = w' := by
  by_cases h2 : n < 2
  · have hp := pr_small h2
    go_enter Tryd.func104, Tryd.ntmps104
    go_wp2
    go_ret
    exact ⟨ret_bool hp.symm, rfl⟩
  · go_enter Tryd.func104, Tryd.ntmps104
    go_wp2
    go_loop [3] (fun i => ∃ d : Nat, 2 ≤ d ∧ d ≤ n ∧ i = .int .i64 d ∧ ∀ e, 2 ≤ e → e < d → n % e ≠ 0) (fun i => (n - intOf i).toNat)
    case atStart => exact ⟨2, by omega, by omega, rfl, fun e h1 h2 => by omega⟩
    case round =>
      obtain ⟨d, hd2, hd, rfl, hno⟩ := hrel
      have HN := Lib.hid hno
      clear hno
      by_cases hlt : d < n
      · by_cases hm : n % d = 0
        · have ht : (((n : Int) % (d : Int)) == 0) = true := by rw [beq_iff_eq]; omega
          have HM := Lib.hid hm
          clear hm
          go_wp2
          go_ret
          exact ⟨ret_bool (pr_no hd2 hlt HM.out).symm, rfl⟩
        · have ht : (((n : Int) % (d : Int)) == 0) = false := by rw [beq_eq_false_iff_ne]; omega
          have HM := Lib.hid hm
          clear hm
          go_wp2
          go_round
          case rel =>
            refine ⟨d + 1, by omega, by omega, by go_num, fun e h1 h2 => ?_⟩
            by_cases h : e = d
            · subst h; exact HM.out
            · exact HN.out e h1 (by omega)
          case measure => simp [intOf]; omega
      · obtain rfl : d = n := by omega
        go_wp2
        go_ret
        exact ⟨ret_bool (pr_all (by omega) HN.out).symm, rfl⟩
theorem refPrime_int (x : Int) (n : Nat) (b : Bool) (hx : x = n) (hb : pr n = b) (w : World) (hn : n < 64) :
    Calls Tryd.prog 104 #[.int .i64 x] w fun e w' => e = .returned (.bool b) ∧ w = w' := by
  subst hx hb; exact refPrime_any n w hn

def codeW (w : World) (a b c d e f g h i j : Int) : World :=
  (w.alloc (.cells #[.int .i64 0, .int .i64 0, .int .i64 0, .int .i64 0, .int .i64 0, .int .i64 0, .int .i64 0, .int .i64 0, .int .i64 0, .int .i64 0] 106)).alloc
    (.cells #[.int .i64 a, .int .i64 b, .int .i64 c, .int .i64 d, .int .i64 e, .int .i64 f, .int .i64 g, .int .i64 h, .int .i64 i, .int .i64 j] 106)

set_option maxRecDepth 10000 in
set_option maxHeartbeats 2000000 in
theorem refParams_any (k : Nat) (w : World) (h1 : 1 ≤ k) (hk : k ≤ 32) :
    Calls Tryd.prog 79 #[.int .i64 (k : Int)] w fun e w' => e = .returned (.tuple #[codeV k, .int .i64 0]) ∧ Below w.heap.size w w' := by
  obtain ⟨f1, f2, f3, f4, f5, f6, f7, f8, f9, f10, f11, f12, f13, f14⟩ := code_facts h1 hk
  obtain ⟨p1, p2, p3, p4⟩ := pfrom_facts (n := 2 + cKp k / 4) (by omega)
  obtain ⟨q1, q2, q3, q4⟩ := pup_facts (n := cKp k + cS k) (by omega) (by omega)
  obtain ⟨r1, r2, r3, r4⟩ := pfrom_facts (n := cP k) (by omega)
  change 2 + cKp k / 4 ≤ cS k at p1
  change pr (cS k) = true at p3
  change pr (cW k) = true at q3
  change pr (cP1 k) = true at r3
  change ∀ m, 2 + cKp k / 4 ≤ m → m < cS k → pr m = false at p4
  change ∀ m, cW k < m → m ≤ cKp k + cS k → pr m = false at q4
  change ∀ m, cP k ≤ m → m < cP1 k → pr m = false at r4
  clear p2 q1 q2 r1 r2
  have P4 := Lib.hid p4
  have Q4 := Lib.hid q4
  have R4 := Lib.hid r4
  have P3 := Lib.hid p3
  have Q3 := Lib.hid q3
  have R3 := Lib.hid r3
  have K4 : cKp k % 4 = 0 := by unfold cKp; omega
  have H4 := Lib.hid K4
  clear p3 p4 q3 q4 r3 r4 K4
  have H14 := Lib.hid f14
  clear f14
  have hB : ((cB k : Nat) : Int) = ((cW k : Nat) : Int) - ((cS k : Nat) : Int) := by unfold cB; omega
  have HB := Lib.hid hB
  clear hB
  have hL : ((cL k : Nat) : Int) = ((cKp k : Nat) : Int) + ((cS k : Nat) : Int) + 4 := by unfold cL; omega
  have HL := Lib.hid hL
  clear hL
  go_enter Tryd.func79, Tryd.ntmps79
  go_wp2
  go_loopg [] (cKp k - k) (fun gk wr => ∃ m : Nat, k ≤ m ∧ m + gk = cKp k ∧ wr = codeW w k m 0 4 0 0 0 0 0 0)
  case atStart => exact ⟨k, by omega, by omega, rfl⟩
  case round =>
    obtain ⟨m, hm1, hm2, rfl⟩ := hrel
    have HM2 := Lib.hid hm2
    unfold codeW
    by_cases hlt : m < cKp k
    · have hmm : m ≤ 32 := by omega
      have ht : (((m : Int) % 4) != 0) = true := by
        rw [bne_iff_ne]; have := H4.out; have : cKp k < k + 4 := f3; omega
      clear hm2
      go_wp2
      go_roundg (gk - 1)
      case measure => have := HM2.out; omega
      case rel => exact ⟨m + 1, by omega, by have := HM2.out; omega, by simp only [codeW]; first | rfl | (congr 5; omega)⟩
    · obtain rfl : m = cKp k := by omega
      have ht : ((((cKp k : Nat) : Int) % 4) != 0) = false := by
        have := H4.out
        have : (((cKp k : Nat) : Int) % 4) = 0 := by omega
        rw [this]; rfl
      clear hm2
      go_wp2
      go_loopg [] (cS k - (2 + cKp k / 4)) (fun gk wr => ∃ m : Nat, 2 + cKp k / 4 ≤ m ∧ m + gk = cS k ∧ wr = codeW w k (cKp k : Nat) m 4 0 0 0 0 0 0)
      case atStart => exact ⟨2 + cKp k / 4, by omega, by omega, by simp only [codeW]; first | rfl | (congr 5; omega)⟩
      case round =>
        obtain ⟨m, hm1, hm2, rfl⟩ := hrel
        have HM2 := Lib.hid hm2
        unfold codeW
        by_cases hlt : m < cS k
        · have hp := P4.out m hm1 hlt
          clear hm2
          go_wp2_with (first | (go_at_call 104; (with_reducible refine (refPrime_int _ m false rfl hp _ (by omega)).mono ?_); rintro e w' ⟨rfl, rfl⟩))
          go_roundg (gk - 1)
          case measure => have := HM2.out; omega
          case rel => exact ⟨m + 1, by omega, by have := HM2.out; omega, by simp only [codeW]; first | rfl | (congr 5; omega)⟩
        · obtain rfl : m = cS k := by omega
          have hp := P3.out
          clear hm2
          go_wp2_with (first | (go_at_call 104; (with_reducible refine (refPrime_int _ (cS k) true rfl hp _ (by omega)).mono ?_); rintro e w' ⟨rfl, rfl⟩))
          go_loopg [] (cKp k + cS k - cW k) (fun gk wr => ∃ m : Nat, cW k ≤ m ∧ m ≤ cKp k + cS k ∧ m = cW k + gk ∧ wr = codeW w k (cKp k : Nat) (cS k : Nat) 4 (((cKp k : Nat) : Int) + ((cS k : Nat) : Int) + 4) m 0 0 0 0)
          case atStart => exact ⟨cKp k + cS k, by omega, by omega, by omega, by simp only [codeW]; first | rfl | (congr 5; omega)⟩
          case round =>
            obtain ⟨m, hm1, hm3, hm2, rfl⟩ := hrel
            have HM2 := Lib.hid hm2
            unfold codeW
            by_cases hlt : cW k < m
            · have hp := Q4.out m hlt hm3
              clear hm2
              go_wp2_with (first | (go_at_call 104; (with_reducible refine (refPrime_int _ m false rfl hp _ (by omega)).mono ?_); rintro e w' ⟨rfl, rfl⟩))
              go_roundg (gk - 1)
              case measure => have := HM2.out; omega
              case rel => exact ⟨m - 1, by omega, by omega, by have := HM2.out; omega, by simp only [codeW]; rw [show ((m : Int) - 1) = ((m - 1 : Nat) : Int) from by omega]⟩
            · obtain rfl : m = cW k := by omega
              have hp := Q3.out
              have hP : ((((cKp k : Nat) : Int) + ((cS k : Nat) : Int) + 4) - ((cW k : Nat) : Int)) = ((cP k : Nat) : Int) := by have := H14.out; have := HL.out; omega
              have HP := Lib.hid hP
              clear hm2 hP
              go_wp2_with (first | (go_at_call 104; (with_reducible refine (refPrime_int _ (cW k) true rfl hp _ (by omega)).mono ?_); rintro e w' ⟨rfl, rfl⟩))
              go_loopg [] (cP1 k - cP k) (fun gk wr => ∃ m : Nat, cP k ≤ m ∧ m + gk = cP1 k ∧ wr = codeW w k (cKp k : Nat) (cS k : Nat) 4 (((cKp k : Nat) : Int) + ((cS k : Nat) : Int) + 4) (cW k : Nat) ((((cKp k : Nat) : Int) + ((cS k : Nat) : Int) + 4) - ((cW k : Nat) : Int)) m 0 0)
              case atStart => exact ⟨cP k, by omega, by omega, by simp only [codeW]; rw [← HP.out]⟩
              case round =>
                obtain ⟨m, hm1, hm2, rfl⟩ := hrel
                have HM2 := Lib.hid hm2
                unfold codeW
                by_cases hlt : m < cP1 k
                · have hp := R4.out m hm1 hlt
                  clear hm2
                  go_wp2_with (first | (go_at_call 104; (with_reducible refine (refPrime_int _ m false rfl hp _ (by omega)).mono ?_); rintro e w' ⟨rfl, rfl⟩))
                  go_roundg (gk - 1)
                  case measure => have := HM2.out; omega
                  case rel => exact ⟨m + 1, by omega, by have := HM2.out; omega, by simp only [codeW]; first | rfl | (congr 10; omega)⟩
                · obtain rfl : m = cP1 k := by omega
                  have hp := R3.out
                  obtain ⟨t, ht, hj⟩ : ∃ t : Bool, (((cKp k : Nat) : Int) == 4) = t ∧ cJ k = if t then 2 else 0 := by
                    refine ⟨_, rfl, ?_⟩
                    unfold cJ
                    by_cases h : cKp k = 4
                    · simp [h]
                    · have : (((cKp k : Nat) : Int) == 4) = false := beq_eq_false_iff_ne.2 (by omega)
                      simp [this, h]
                  have HJ := Lib.hid hj
                  clear hm2 hj
                  cases t
                  · go_wp2_with (first | (go_at_call 104; (with_reducible refine (refPrime_int _ (cP1 k) true rfl hp _ (by omega)).mono ?_); rintro e w' ⟨rfl, rfl⟩))
                    refine bodyPost_ret (v := .tuple #[.agg #[.int .i64 (k : Nat), .int .i64 (cKp k : Nat), .int .i64 (cS k : Nat), .int .i64 4, .int .i64 (((cKp k : Nat) : Int) + ((cS k : Nat) : Int) + 4), .int .i64 (cW k : Nat), .int .i64 (((cKp k : Nat) : Int) + ((cS k : Nat) : Int) + 4 - ((cW k : Nat) : Int)), .int .i64 (cP1 k : Nat), .int .i64 (((cW k : Nat) : Int) - ((cS k : Nat) : Int)), .int .i64 0], .int .i64 0]) (by simp [results, Tryd.results79, go_sem]) rfl ⟨?_, (((Below.refl _ _).alloc (Nat.le_refl _) _).alloc (by simp) _)⟩
                    have e1 := HL.out
                    have e2 := HB.out
                    have e3 : ((cP k : Nat) : Int) = ((cKp k : Nat) : Int) + ((cS k : Nat) : Int) + 4 - ((cW k : Nat) : Int) := by have := H14.out; omega
                    have e4 : ((cJ k : Nat) : Int) = 0 := by rw [HJ.out]; rfl
                    unfold codeV
                    rw [e1, e2, e3, e4]
                  · go_wp2_with (first | (go_at_call 104; (with_reducible refine (refPrime_int _ (cP1 k) true rfl hp _ (by omega)).mono ?_); rintro e w' ⟨rfl, rfl⟩))
                    refine bodyPost_ret (v := .tuple #[.agg #[.int .i64 (k : Nat), .int .i64 (cKp k : Nat), .int .i64 (cS k : Nat), .int .i64 4, .int .i64 (((cKp k : Nat) : Int) + ((cS k : Nat) : Int) + 4), .int .i64 (cW k : Nat), .int .i64 (((cKp k : Nat) : Int) + ((cS k : Nat) : Int) + 4 - ((cW k : Nat) : Int)), .int .i64 (cP1 k : Nat), .int .i64 (((cW k : Nat) : Int) - ((cS k : Nat) : Int)), .int .i64 2], .int .i64 0]) (by simp [results, Tryd.results79, go_sem]) rfl ⟨?_, (((Below.refl _ _).alloc (Nat.le_refl _) _).alloc (by simp) _)⟩
                    have e1 := HL.out
                    have e2 := HB.out
                    have e3 : ((cP k : Nat) : Int) = ((cKp k : Nat) : Int) + ((cS k : Nat) : Int) + 4 - ((cW k : Nat) : Int) := by have := H14.out; omega
                    have e4 : ((cJ k : Nat) : Int) = 2 := by rw [HJ.out]; rfl
                    unfold codeV
                    rw [e1, e2, e3, e4]

set_option maxRecDepth 10000 in
set_option maxHeartbeats 1000000 in
theorem refParams_bad (k : Int) (w : World) (h : k < 1 ∨ 32 < k) :
    Calls Tryd.prog 79 #[.int .i64 k] w fun e w' => e = .returned (.tuple #[codeZ, .int .i64 30]) ∧ Below w.heap.size w w' := by
  by_cases h1 : k < 1
  · go_enter Tryd.func79, Tryd.ntmps79
    go_wp2
    exact bodyPost_ret (v := .tuple #[codeZ, .int .i64 30]) (by simp [results, Tryd.results79, go_sem, codeZ]) rfl ⟨rfl, (Below.refl _ _).alloc (Nat.le_refl _) _⟩
  · have h2 : 32 < k := by omega
    clear h
    go_enter Tryd.func79, Tryd.ntmps79
    go_wp2
    exact bodyPost_ret (v := .tuple #[codeZ, .int .i64 30]) (by simp [results, Tryd.results79, go_sem, codeZ]) rfl ⟨rfl, (Below.refl _ _).alloc (Nat.le_refl _) _⟩

end Go.Proofs.YtfjcbgfgiidogaaDoor
namespace Go.Proofs.YtfjcbgfgiidogaaDoor
open Go.RowKit

theorem refRand_is (y i m r : Int) (hm : 1 ≤ m) (hm2 : m ≤ 9223372036854775807) (hr : r = rz y i % m) (w : World) :
    Calls Tryd.prog 125 #[.int .i64 y, .int .i64 i, .int .i64 m] w fun e w' => e = .returned (.int .i64 r) ∧ w = w' := by
  rw [hr]
  exact refRand_any y i m w hm hm2
theorem refDegree_is (v x d : Int) (hx0 : -9223372036854775808 ≤ x) (hx1 : x ≤ 9223372036854775807) (hd : d = degS v x) (w : World) :
    Calls Tryd.prog 124 #[.int .i64 v, .int .i64 x] w fun e w' => e = .returned (.int .i64 d) ∧ Below w.heap.size w w' := by
  rw [hd]
  exact refDegree_any v x w ⟨hx0, hx1⟩
theorem gen_world (P : World → Prop) (W0 : World) (b g : Nat) (w : World) (cs old : Array Value) (h1 : W0.heap[b]? = some (.cells cs 125 (0, 0))) (h2 : W0.heap[g]? = some (.cells old 125 (0, 0))) (h3 : Below g w W0)
    (h : ∀ W5, W5.heap[b]? = some (.cells cs 125 (0, 0)) → W5.heap[g]? = some (.cells old 125 (0, 0)) → Below g w W5 → P W5) : P W0 := h W0 h1 h2 h3
theorem results_rtup (tmps : Array Value) (w : World) (g : Nat) (cs : Array Value) (n : Int) (hp : tmps.getD 4 undef = .pointer (some ⟨g, 0, none⟩)) (h5 : tmps.getD 5 undef = .int .i64 n) (hg : w.heap[g]? = some (.cells cs 125 (0, 0))) (hs : cs.size = 6) :
    (results Tryd.f105 tmps).run Tryd.prog w = .ok (.tuple #[.agg cs, .int .i64 n]) w := by
  have hp' : tmps[4]?.getD undef = .pointer (some ⟨g, 0, none⟩) := by simpa using hp
  have h5' : tmps[5]?.getD undef = .int .i64 n := by simpa using h5
  simp [results, Tryd.results105, hp', h5', asAddr, loadVar_tup w g cs hg hs]

end Go.Proofs.YtfjcbgfgiidogaaDoor
