/-
  Ci3: CiI CiK CiL
-/
import Derived.Deep.RegionHeld3
import Derived.Test.YtfjcbgfgiidogaaDoorMCi2
import Derived.Test.YtfjcbgfgiidogaaDoorMCiC
import Derived.Test.YtfjcbgfgiidogaaDoorMCh6
import Derived.Test.YtfjcbgfgiidogaaDoorMPl4
namespace Go.Proofs.YtfjcbgfgiidogaaDoor
open Go.RowKit

theorem and_7 (a : Int) : ∃ i : Nat, bits .and .i64 a 7 = (i : Int) ∧ i < 8 := by
  have h : (BitVec.ofInt 64 a &&& BitVec.ofInt 64 7).toNat < 8 := by
    rw [BitVec.toNat_and]
    exact Nat.lt_of_le_of_lt Nat.and_le_right (by decide)
  refine ⟨(BitVec.ofInt 64 a &&& BitVec.ofInt 64 7).toNat, ?_, h⟩
  show IntKind.i64.wrap ((BitVec.ofInt 64 a &&& BitVec.ofInt 64 7).toNat : Int) = _
  generalize (BitVec.ofInt 64 a &&& BitVec.ofInt 64 7).toNat = m at h ⊢
  unfold IntKind.wrap
  simp [IntKind.bits, IntKind.signed]
  omega
set_option maxRecDepth 100000 in
set_option maxHeartbeats 4000000 in
theorem deal_badc (n u r c t s : Int) (va : Option Addr) (vn vc : Nat) (w : World) (hG : ¬ Good n u r c t s) (hu : -9223372036854775808 ≤ u ∧ u ≤ 9223372036854775807) (hr : -9223372036854775808 ≤ r ∧ r ≤ 9223372036854775807) :
    Calls Tryd.prog 35 #[cfg n u r c t s, .slice va vn vc] w fun e w' => e = .returned (.tuple #[.slice none 0 0, .int .i64 130]) ∧ Below w.heap.size w w' := by
  have HC := fun w => check_any n u r c t s w hu hr
  rw [chk_bad hG] at HC
  clear hG
  unfold cfg at HC ⊢
  go_enter Tryd.func35, Tryd.ntmps35
  go_wp2_with fail
  (with_reducible refine (HC _).mono ?_)
  rintro e w1 ⟨rfl, hb1⟩
  obtain ⟨-, -, -, hbw⟩ := after_callP _ _ _ hb1
  clear HC hb1
  go_wp2
  go_ret2
  exact ⟨rfl, hbw⟩
set_option maxRecDepth 100000 in
set_option maxHeartbeats 4000000 in
theorem deal_bads (n u r c t s : Int) (va : Option Addr) (vn vc : Nat) (w : World) (hG : Good n u r c t s) (hsz : ¬ sizeC (vn : Int) t = 0) :
    Calls Tryd.prog 35 #[cfg n u r c t s, .slice va vn vc] w fun e w' => e = .returned (.tuple #[.slice none 0 0, .int .i64 (sizeC (vn : Int) t)]) ∧ Below w.heap.size w w' := by
  have HC := fun w => check_any n u r c t s w ⟨by have := hG; unfold Good at this; omega, by have := hG; unfold Good at this; omega⟩ ⟨by have := hG; unfold Good at this; omega, by have := hG; unfold Good at this; omega⟩
  rw [chk_good hG] at HC
  have KP := fun w => parts_any (vn : Int) t w
  unfold partsR at KP
  rw [if_neg hsz] at KP
  have hcb : (sizeC (vn : Int) t != 0) = true := by rw [bne_iff_ne]; exact hsz
  generalize sizeC (vn : Int) t = code at KP hcb ⊢
  clear hG hsz
  unfold cfg at HC ⊢
  go_enter Tryd.func35, Tryd.ntmps35
  go_wp2_with fail
  (with_reducible refine (HC _).mono ?_)
  rintro e w1 ⟨rfl, hb1⟩
  obtain ⟨-, -, hold, hbw⟩ := after_callP _ _ _ hb1
  have c4 : w1.cell? ⟨w.heap.size, 4, none⟩ = some (.int .i64 t) := cell_of_row _ _ 4 _ _ _ hold
  clear HC hb1 hold
  go_wp2_with fail
  (with_reducible refine (KP _).mono ?_)
  rintro e w2 ⟨a2, c2, rfl, -, b2⟩
  have hb := hbw.trans (b2.mono hbw.size)
  clear KP b2 c4 hbw
  go_wp2
  go_ret2
  exact ⟨rfl, hb⟩
/-! what a deal has of each block -/
theorem share_block (v : List Nat) (T N i m q b : Nat) : (ofBlock (shareL v T N i m q) b).length = if i = b then q else 0 := by
  unfold shareL
  induction q with
  | zero => simp [ofBlock]
  | succ q ih =>
    rw [List.range_succ, List.map_append, ofBlock_append, List.length_append, ih]
    have h1 : ofBlock ([q].map fun j => gen v T i (((m + N * j : Nat) : Nat) : Int)) b = if i = b then [(gen v T i (((m + N * q : Nat) : Nat) : Int)).2] else [] := by
      simp only [List.map_cons, List.map_nil]
      rw [ofBlock_one]
      have : (gen v T i (((m + N * q : Nat) : Nat) : Int)).1 = (i : Int) := rfl
      rw [this]
      by_cases e : i = b
      · rw [if_pos (by omega), if_pos e]
      · rw [if_neg (by omega), if_neg e]
    rw [h1]
    by_cases e : i = b
    · simp [e]
    · simp [e]
theorem dealTo_block (v : List Nat) (T N : Nat) (sh : Nat → Nat) (m b : Nat) : ∀ i, (ofBlock (dealTo v T N sh m i) b).length = if b < i then sh b else 0
  | 0 => by simp [dealTo, ofBlock]
  | i + 1 => by
    rw [dealTo, ofBlock_append, List.length_append, dealTo_block v T N sh m b i, share_block]
    by_cases h : b < i
    · rw [if_pos h, if_neg (by omega), if_pos (by omega)]; rfl
    · rw [if_neg h]
      by_cases e : i = b
      · subst e; rw [if_pos rfl, if_pos (by omega), Nat.zero_add]
      · rw [if_neg e, if_neg (by omega)]
theorem dealTo_len {v : List Nat} {T N : Nat} {sh : Nat → Nat} {m : Nat} : ∀ {i : Nat}, (∀ b, b < i → sh b ≤ 33) → (dealTo v T N sh m i).length ≤ i * 33
  | 0, _ => by simp [dealTo]
  | i + 1, h => by
    have h1 := dealTo_len (v := v) (T := T) (N := N) (m := m) (i := i) (fun b hb => h b (by omega))
    have h2 := h i (by omega)
    have h3 : (shareL v T N i m (sh i)).length = sh i := by simp [shareL]
    rw [dealTo, List.length_append, h3]
    omega
theorem dealTo_gen {v : List Nat} {T N : Nat} {sh : Nat → Nat} {m : Nat} (hN : N ≤ 8) (hm : m < N) : ∀ {i : Nat}, (∀ b, b < i → sh b ≤ 33) → i ≤ chZ (chN v.length T) → ∀ s ∈ dealTo v T N sh m i, Genuine v T s
  | 0, _, _, s, hs => by simp [dealTo] at hs
  | i + 1, h, hi, s, hs => by
    rw [dealTo] at hs
    rcases List.mem_append.1 hs with hs | hs
    · exact dealTo_gen hN hm (fun b hb => h b (by omega)) (by omega) s hs
    · unfold shareL at hs
      obtain ⟨j, hj, rfl⟩ := List.mem_map.1 hs
      have hj := List.mem_range.1 hj
      have h2 := h i (by omega)
      have h3 : N * j ≤ 8 * 33 := Nat.mul_le_mul hN (by omega)
      refine ⟨i, _, by omega, ?_, rfl⟩
      unfold okE
      simp only [Bool.and_eq_true, decide_eq_true_iff]
      omega
/-- a node's share is enough. -/
theorem shr_enough {N M k : Nat} {u r : Int} (hM : u + r - (N : Int) = (M : Int)) (h1 : 1 ≤ M) (h8 : M ≤ 8) (hk1 : 1 ≤ k) (hk : k ≤ 32) : k < M * (shr (N : Int) u r (k : Int)).toNat ∧ M * (shr (N : Int) u r (k : Int)).toNat ≤ 47 ∧ (shr (N : Int) u r (k : Int)).toNat ≤ 33 := by
  unfold shr
  rw [hM]
  have e1 : (k : Int) + (M : Int) - 1 = ((k + M - 1 : Nat) : Int) := by omega
  rw [e1, ← Int.natCast_ediv]
  obtain ⟨D, hD⟩ : ∃ D, D = (k + M - 1) / M := ⟨_, rfl⟩
  rw [← hD]
  have e2 : (((D : Nat) : Int) + 1).toNat = D + 1 := by omega
  rw [e2]
  have d1 : M * D ≤ k + M - 1 := by rw [hD]; exact Nat.mul_div_le _ _
  have d2 : k + M - 1 < M * D + M := by rw [hD]; exact Nat.lt_mul_div_succ _ (by omega)
  have d3 : D ≤ k := by
    have : D * 1 ≤ k := by
      rw [hD, Nat.mul_one]
      refine Nat.div_le_of_le_mul ?_
      obtain ⟨M', rfl⟩ : ∃ M', M = M' + 1 := ⟨M - 1, by omega⟩
      obtain ⟨k', rfl⟩ : ∃ k', k = k' + 1 := ⟨k - 1, by omega⟩
      rw [Nat.add_mul, Nat.mul_add]
      omega
    omega
  rw [Nat.mul_add, Nat.mul_one]
  omega
end Go.Proofs.YtfjcbgfgiidogaaDoor
namespace Go.Proofs.YtfjcbgfgiidogaaDoor
open Go.RowKit

/-- rows of symbols in a row, all of the call's own. -/
def OwnYs (w : World) (B : Nat) (a : Option Addr) (n c : Nat) (qs : List (List Sy)) : Prop :=
  qs.length = n ∧ ∃ hs : List HdT, w.ownsRow B YT 1 (.slice a n c) n (hs.map SV) ∧ hs.length = n ∧ ∀ (i : Nat) x q, hs[i]? = some x → qs[i]? = some q → OwnS w B x.1 x.2.1 x.2.2 q
theorem OwnYs.below {w w' : World} {B n c : Nat} {a : Option Addr} {qs : List (List Sy)} (h : OwnYs w B a n c qs) (hb : Below w.heap.size w w') : OwnYs w' B a n c qs := by
  obtain ⟨h1, hs, h2, h3, h4⟩ := h
  exact ⟨h1, hs, h2.kept (grownBy_of_below hb none) (by cases (Value.slice a n c).ownBlock <;> simp), h3, fun i x q p k => (h4 i x q p k).below hb⟩
theorem OwnYs.rebase {w : World} {B B' n c : Nat} {a : Option Addr} {qs : List (List Sy)} (h : OwnYs w B a n c qs) (hb : B' ≤ B) : OwnYs w B' a n c qs := by
  obtain ⟨h1, hs, h2, h3, h4⟩ := h
  exact ⟨h1, hs, ownsRow_base h2 hb, h3, fun i x q p k => (h4 i x q p k).rebase hb⟩
theorem OwnY.ys {w : World} {B g n c : Nat} {hs : List HdT} {qs : List (List Sy)} (h : OwnY w B g n c hs qs) : OwnYs w B (some ⟨g, 0, none⟩) n c qs := ⟨h.1, hs, h.2.1, h.2.2.1, h.2.2.2.1⟩
theorem OwnYs.at {w : World} {B : Nat} {a : Option Addr} {n c i : Nat} {qs : List (List Sy)} (h : OwnYs w B a n c qs) (hi : i < n) : ∃ g x, a = some ⟨g, 0, none⟩ ∧ w.cell? ⟨g, i, none⟩ = some (SV x) ∧ OwnS w B x.1 x.2.1 x.2.2 (qs.getD i []) := by
  obtain ⟨h0, hs, h1, h2, h3⟩ := h
  obtain ⟨g, rfl⟩ := own_some h1 (by omega)
  obtain ⟨x, hx⟩ : ∃ x, hs[i]? = some x := ⟨_, List.getElem?_eq_getElem (by omega)⟩
  obtain ⟨ls, hl⟩ : ∃ ls, qs[i]? = some ls := ⟨_, List.getElem?_eq_getElem (by omega)⟩
  refine ⟨g, x, rfl, ?_, ?_⟩
  · have := h1.cellAt i (by omega)
    rw [List.getElem?_map, hx] at this
    exact this
  · rw [List.getD_eq_getElem?_getD, hl]
    exact h3 i x ls hx hl
theorem OwnYs.append {wm w' : World} {B n : Nat} {a : Option Addr} {c : Nat} {qs : List (List Sy)} {v' : Value} {x : HdT} {q : List Sy} (h0 : qs.length = n) {hs : List HdT} (h1 : wm.ownsRow B YT 1 (.slice a n c) n (hs.map SV)) (h2 : hs.length = n) (h3 : ∀ (i : Nat) x q, hs[i]? = some x → qs[i]? = some q → OwnS wm B x.1 x.2.1 x.2.2 q)
    (hE : w'.ownsRow B YT 1 v' (n + 1) (hs.map SV ++ [SV x])) (g : wm.grownBy w' (Value.slice a n c).ownBlock) (hx : OwnS wm B x.1 x.2.1 x.2.2 q) : ∃ a' c', v' = .slice a' (n + 1) c' ∧ OwnYs w' B a' (n + 1) c' (qs ++ [q]) := by
  obtain ⟨a', c', rfl, -⟩ := ownsRow_parts hE
  refine ⟨a', c', rfl, by simp [h0], hs ++ [x], by rw [List.map_append]; exact hE, by simp [h2], fun i y m p k => ?_⟩
  have key : ∀ {y : HdT} {m : List Sy}, OwnS wm B y.1 y.2.1 y.2.2 m → OwnS w' B y.1 y.2.1 y.2.2 m := fun k => k.keepT g (own_rowY h1)
  by_cases hi : i < n
  · rw [List.getElem?_append_left (by omega)] at p
    rw [List.getElem?_append_left (by omega)] at k
    exact key (h3 i y m p k)
  · rw [List.getElem?_append_right (by omega)] at p
    rw [List.getElem?_append_right (by omega), h0, ← h2] at k
    have hi0 := (List.getElem?_eq_some_iff.1 p).1
    simp only [List.length_cons, List.length_nil] at hi0
    have e0 : i - hs.length = 0 := by omega
    rw [e0] at p k
    simp at p k
    subst p k
    exact key hx
def dealK (v : List Nat) (T N : Nat) (sh : Nat → Nat) (z m : Nat) : List (List Sy) := (List.range m).map fun x => dealTo v T N sh x z
theorem dealK_succ (v : List Nat) (T N : Nat) (sh : Nat → Nat) (z m : Nat) : dealK v T N sh z (m + 1) = dealK v T N sh z m ++ [dealTo v T N sh m z] := by unfold dealK; rw [List.range_succ, List.map_append]; rfl
theorem dealK_end (v : List Nat) (T N : Nat) (sh : Nat → Nat) (z : Nat) : dealK v T N sh z N = dealQ v T N sh z 0 := by
  unfold dealK dealQ
  apply List.map_congr_left
  intro m _
  simp [dturn]
theorem esis_share (v : List Nat) (T N b m q : Nat) : (esisL (m : Int) (N : Int) (q : Int) 0 q).map (gen v T b) = shareL v T N b m q := by
  unfold esisL shareL
  rw [List.map_map]
  apply List.map_congr_left
  intro j _
  show gen v T b _ = gen v T b _
  congr 1
  show (m : Int) + (N : Int) * ((q : Int) * 0 + (j : Int)) = ((m + N * j : Nat) : Int)
  rw [Int.mul_zero, Int.zero_add]
  push_cast
  rfl
theorem esis_ok {m N q : Nat} (hm : m ≤ 8) (hN : N ≤ 8) (hq : q ≤ 33) : (esisL (m : Int) (N : Int) (q : Int) 0 q).all okE = true := List.all_eq_true.2 fun e he => by
  unfold esisL at he
  obtain ⟨j, hj, rfl⟩ := List.mem_map.1 he
  have hj := List.mem_range.1 hj
  have h3 : N * j ≤ 8 * 33 := Nat.mul_le_mul hN (by omega)
  have e1 : (m : Int) + (N : Int) * ((q : Int) * 0 + (j : Int)) = ((m + N * j : Nat) : Int) := by
    rw [Int.mul_zero, Int.zero_add]; push_cast; rfl
  rw [e1]
  unfold okE
  simp only [Bool.and_eq_true, decide_eq_true_iff]
  omega
theorem refEsis_zero (N m q : Nat) (u r c t s k : Int) (w : World) (h : Good (N : Int) u r c t s) (hqd : (q : Int) = shr (N : Int) u r k) (hk : 1 ≤ k ∧ k ≤ 32) (hm : m < N) :
    Calls Tryd.prog 53 #[cfg (N : Int) u r c t s, .int .i64 (m : Int), .int .i64 k, .int .i64 0] w fun x w' => ∃ ad cap, x = .returned (.tuple #[.slice ad q cap, .int .i64 0]) ∧ IntsV w' (ad, q, cap) (esisL (m : Int) (N : Int) (q : Int) 0 q) ∧ Below w.heap.size w w' := by
  have hr := shr_range h hk.1 hk.2
  rw [← hqd] at hr
  have hN : (N : Int) ≤ 8 := (show _ ∧ _ from h).2.1
  refine (refEsis_in (N : Int) u r c t s (m : Int) k 0 q w h hqd hk ⟨by omega, by omega⟩ ⟨by omega, by omega⟩).mono fun x w' hx => ?_
  obtain ⟨hb, ⟨hf, -⟩ | ⟨-, ad, cap, e, hI⟩⟩ := hx
  · exfalso
    have e1 : (q : Int) * (0 + 1) - 1 = ((q - 1 : Nat) : Int) := by omega
    rw [e1] at hf
    have h3 : N * (q - 1) ≤ 8 * 33 := Nat.mul_le_mul (by omega) (by omega)
    rw [← Int.natCast_mul] at hf
    omega
  · exact ⟨ad, cap, e, hI, hb⟩
end Go.Proofs.YtfjcbgfgiidogaaDoor
namespace Go.Proofs.YtfjcbgfgiidogaaDoor
open Go.RowKit

set_option maxRecDepth 100000 in
set_option maxHeartbeats 16000000 in
theorem refDeal_good (n0 u r c t s : Int) (va : Option Addr) (vn vc : Nat) (v : List Nat) (w : World) (hG : Good n0 u r c t s) (hv : BytesV w (va, vn, vc) v) (hsz : sizeC (vn : Int) t = 0) :
    Calls Tryd.prog 36 #[cfg n0 u r c t s, .slice va vn vc] w fun e w' => ∃ (a : Option Addr) (c' : Nat), e = .returned (.tuple #[.slice a n0.toNat c', .int .i64 0]) ∧ OwnYs w' w.heap.size a n0.toNat c' (dealQ v t.toNat n0.toNat (shN n0 u r (chN vn t.toNat)) (chZ (chN vn t.toNat)) 0) ∧ Below w.heap.size w w' := by
  obtain ⟨j0, hj, hy0, hy1, hy2⟩ := info_parts (show (Tryd.prog.info? YT).map (fun i => (i.zero, i.size, i.bytes)) = some (some (.slice none 0 0), 1, 24) by kernel_rfl)
  have HC := fun w => refCheck_any n0 u r c t s w ⟨by have := hG; unfold Good at this; omega, by have := hG; unfold Good at this; omega⟩ ⟨by have := hG; unfold Good at this; omega, by have := hG; unfold Good at this; omega⟩
  rw [chk_good hG] at HC
  have HSR := Lib.hid (fun k (h1 : 1 ≤ k) (h2 : k ≤ 32) => shr_range (k := k) hG h1 h2)
  obtain ⟨g0, g1, g2, g3, g4, g5, g6, g7, g8, g9, g10, g11, g12⟩ := (show _ ∧ _ from hG)
  obtain ⟨N, rfl⟩ : ∃ N : Nat, n0 = (N : Nat) := ⟨n0.toNat, by omega⟩
  obtain ⟨T, rfl⟩ : ∃ T : Nat, t = (T : Nat) := ⟨t.toNat, by omega⟩
  have KES := fun (m q : Nat) (k : Int) W h1 h2 h3 => refEsis_zero N m q u r c (T : Int) s k W hG h1 h2 h3
  clear hG
  unfold cfg at HC KES ⊢
  simp only [Int.toNat_natCast]
  obtain ⟨h1, h2⟩ := sizeC_zero.1 hsz
  obtain ⟨s1, s2⟩ := okS_iff.1 h1
  obtain ⟨t1, t2⟩ := okT_iff.1 h2
  have KP := fun w => refParts_any (vn : Int) (T : Int) w
  unfold partsR at KP
  rw [if_pos hsz, Int.toNat_natCast, Int.toNat_natCast] at KP
  obtain ⟨n1, n2, -, -⟩ := chN_facts (size := vn) (t := T) (by omega) (by omega) (by omega)
  have HVL := Lib.hid (show v.length = vn from hv.length)
  have HVB := Lib.hid hv.bytes
  have HV := Lib.hid hv
  have HSYM := Lib.hid (fun (i m q : Nat) (hi : i < chZ (chN vn T)) (hm : m ≤ 8) (hq : q ≤ 33) => (show symbolsR v (T : Int) (i : Int) (esisL (m : Int) (N : Int) (q : Int) 0 q) = (shareL v T N i m q, 0) by
    rw [symbols_val HVB.out (by rw [HVL.out]; omega) (by rw [HVL.out]; omega) (by omega) (by omega), HVL.out, if_pos (inZ_iff.2 ⟨by omega, by omega⟩), if_pos (esis_ok hm (by omega) hq), Int.toNat_natCast, esis_share]))
  clear hsz h1 h2 hv
  obtain ⟨n, hn⟩ : ∃ n, n = chN vn T := ⟨_, rfl⟩
  rw [← hn] at n1 n2 KP HSYM ⊢
  clear hn
  obtain ⟨z1, z2, -, -, z3⟩ := chZ_facts n1 n2
  have HKF := Lib.hid (fun i (h : i < chZ n) => chK_facts n1 n2 h)
  have hPL : (partsL n).length = chZ n := partsL_length n
  have HPK : Hid (∀ i, i < chZ n → ((partsL n).map nv')[i]? = some (.int .i64 ((chK n i : Nat) : Int))) := Lib.hid (fun i h => by
    unfold partsL
    rw [List.map_map, List.getElem?_map, List.getElem?_range h]
    rfl)
  unfold GivesN at KP
  simp only [hPL] at KP
  have HSH := Lib.hid (show ∀ i, shN (N : Int) u r n i = (shr (N : Int) u r (chK n i : Nat)).toNat from fun i => rfl)
  obtain ⟨SH, hSH⟩ : ∃ f, f = shN (N : Int) u r n := ⟨_, rfl⟩
  rw [← hSH] at HSH ⊢
  obtain ⟨PL, hPLL⟩ : ∃ P, P = partsL n := ⟨_, rfl⟩
  rw [← hPLL] at KP HPK
  have HDE := Lib.hid (dealK_end v T N SH (chZ n))
  have HDS := Lib.hid (fun m => dealK_succ v T N SH (chZ n) m)
  have HLE := Lib.hid (fun (m i : Nat) (hi : i ≤ chZ n) => dealTo_len (v := v) (T := T) (N := N) (sh := SH) (m := m) (i := i) (fun b hb => by
    have hk := chK_facts n1 n2 (show b < chZ n by omega)
    have := HSR.out ((chK n b : Nat) : Int) (by omega) (by omega)
    rw [HSH.out]; omega))
  obtain ⟨z, hz⟩ : ∃ z, z = chZ n := ⟨_, rfl⟩
  rw [← hz] at z1 z2 z3 KP HKF HPK HSYM HDE HLE ⊢
  simp only [← hz] at HDS
  obtain ⟨DQ, hDQ⟩ : ∃ D, D = dealQ v T N SH z 0 := ⟨_, rfl⟩
  rw [← hDQ] at HDE ⊢
  clear hz hPLL hPL hSH hDQ
  go_enter Tryd.func36, Tryd.ntmps36
  go_wp2_with fail
  (with_reducible refine (HC _).mono ?_)
  rintro e w1 ⟨rfl, hb1⟩
  obtain ⟨-, -, hold, hbw⟩ := after_callP _ _ _ hb1
  have K1 : w1.cell? ⟨w.heap.size, 0, none⟩ = some (.int .i64 (N : Int)) ∧ w1.cell? ⟨w.heap.size, 1, none⟩ = some (.int .i64 u) ∧ w1.cell? ⟨w.heap.size, 2, none⟩ = some (.int .i64 r) ∧ w1.cell? ⟨w.heap.size, 3, none⟩ = some (.int .i64 c) ∧ w1.cell? ⟨w.heap.size, 4, none⟩ = some (.int .i64 (T : Int)) ∧ w1.cell? ⟨w.heap.size, 5, none⟩ = some (.int .i64 s) := ⟨cell_of_row _ _ 0 _ _ _ hold, cell_of_row _ _ 1 _ _ _ hold, cell_of_row _ _ 2 _ _ _ hold, cell_of_row _ _ 3 _ _ _ hold, cell_of_row _ _ 4 _ _ _ hold, cell_of_row _ _ 5 _ _ _ hold⟩
  have HCF := Lib.hid (fun (wr : World) (hb : Below w1.heap.size w1 wr) => (show wr.cell? ⟨w.heap.size, 0, none⟩ = some (.int .i64 (N : Int)) ∧ wr.cell? ⟨w.heap.size, 1, none⟩ = some (.int .i64 u) ∧ wr.cell? ⟨w.heap.size, 2, none⟩ = some (.int .i64 r) ∧ wr.cell? ⟨w.heap.size, 3, none⟩ = some (.int .i64 c) ∧ wr.cell? ⟨w.heap.size, 4, none⟩ = some (.int .i64 (T : Int)) ∧ wr.cell? ⟨w.heap.size, 5, none⟩ = some (.int .i64 s) from ⟨cell_below K1.1 hb, cell_below K1.2.1 hb, cell_below K1.2.2.1 hb, cell_below K1.2.2.2.1 hb, cell_below K1.2.2.2.2.1 hb, cell_below K1.2.2.2.2.2 hb⟩))
  have HBW := Lib.hid hbw
  have hs1 := hbw.size
  obtain ⟨d0, d1, d2, d3, d4, d5⟩ := K1
  clear HC hb1 hold hbw
  go_wp2_with fail
  (with_reducible refine (KP _).mono ?_)
  rintro e w2 ⟨a2, c2, rfl, o2, b2⟩
  obtain ⟨q, rfl⟩ := own_some o2 (by omega)
  have HCP : Hid (∀ i, i < z → w2.cell? ⟨q, i, none⟩ = some (.int .i64 ((chK n i : Nat) : Int))) := Lib.hid (fun i hi => (o2.cellAt i (by omega)).trans (HPK.out i hi))
  have HB2 := Lib.hid b2
  have hs2 := b2.size
  have HO0 : Hid (OwnYs (w2.alloc (.cells #[] YT)) w2.heap.size (some ⟨w2.heap.size, 0, none⟩) 0 0 (dealK v T N SH z 0)) := Lib.hid ⟨rfl, [], World.ownsRow_made (base := w2.heap.size) (e := YT) (size := 1) w2 #[] 0 (Nat.le_refl _) (by simp [maxLen]) rfl, rfl, fun i x q h => by simp at h⟩
  have HBA := Lib.hid (below_alloc w2 (.cells #[] YT))
  clear KP o2 b2 HPK d0 d1 d2 d3 d4 d5
  go_wp2_with fail
  go_loopw [8, 9] (fun vo vm wr => ∃ (m : Nat) (av : Option Addr) (cv : Nat), m ≤ N ∧ vm = .int .i64 (m : Nat) ∧ vo = .slice av m cv ∧ Hid (OwnYs wr w2.heap.size av m cv (dealK v T N SH z m)) ∧ Hid (Below w2.heap.size w2 wr)) (fun _ vm _ => (N - intOf vm).toNat)
  case atStart => exact ⟨0, _, _, Nat.zero_le _, rfl, rfl, HO0, HBA⟩
  case round =>
    clear HO0 HBA
    obtain ⟨m, av, cv, hm, rfl, rfl, HO, HB⟩ := hrel
    obtain ⟨wo, hwo⟩ : ∃ x, x = wr := ⟨_, rfl⟩
    subst hwo
    have hsr := HB.out.size
    obtain ⟨d0, d1, d2, d3, d4, d5⟩ := HCF.out wo (HB2.out.trans (HB.out.mono hs2))
    by_cases hlt : m < N
    · have HA0 : Hid (OwnS (wo.alloc (.cells #[] ST3)) wo.heap.size (some ⟨wo.heap.size, 0, none⟩) 0 0 (dealTo v T N SH m 0)) := Lib.hid (OwnS.madeS (Nat.le_refl _))
      have HBA := Lib.hid (below_alloc wo (.cells #[] ST3))
      have HDSM := Lib.hid (HDS.out m)
      go_wp2_with fail
      go_loopw [10, 11] (fun va' vb wr => ∃ (b p : Nat) (av : Option Addr) (cv : Nat), b ≤ z ∧ vb = .int .i64 (b : Nat) ∧ va' = .slice av p cv ∧ Hid (OwnS wr wo.heap.size av p cv (dealTo v T N SH m b)) ∧ Hid (Below wo.heap.size wo wr)) (fun _ vb _ => (z - intOf vb).toNat)
      case atStart => exact ⟨0, 0, _, _, Nat.zero_le _, rfl, rfl, HA0, HBA⟩
      case round =>
        clear HA0 HBA d0 d1 d2 d3 d4 d5
        obtain ⟨b, p, xv, yc, hb, rfl, rfl, HA, HBB⟩ := hrel
        have hsb := HBB.out.size
        by_cases hbz : b < z
        · have hp : p ≤ 1056 := by
            have h1 := HA.out.len
            have h2 := HLE.out m b hb
            omega
          obtain ⟨k1, k2, -, -⟩ := HKF.out b hbz
          obtain ⟨q0, q1⟩ := HSR.out ((chK n b : Nat) : Int) (by omega) (by omega)
          have HSI := Lib.hid (HSH.out b)
          have hDT : dealTo v T N SH m (b + 1) = dealTo v T N SH m b ++ shareL v T N b m (SH b) := rfl
          obtain ⟨h, hh⟩ : ∃ h, h = SH b := ⟨_, rfl⟩
          rw [← hh] at HSI hDT
          have hmi : (h : Int) = shr (N : Int) u r ((chK n b : Nat) : Int) := by rw [HSI.out]; omega
          have hh33 : h ≤ 33 := by omega
          have HDT := Lib.hid hDT
          have KE := fun W => KES m h ((chK n b : Nat) : Int) W hmi ⟨by omega, by omega⟩ hlt
          have hsym := HSYM.out b m h hbz (by omega) (by omega)
          have KSY := fun ea ec W h1 (h0 : vn ≤ 100000) h2 => refSyms_any va vn vc v (T : Int) (b : Nat) ea h ec (esisL (m : Int) (N : Int) (h : Int) 0 h) W h1 h0 h2 (by omega)
          simp only [hsym] at KSY
          have hSL : (shareL v T N b m h).length = h := by simp [shareL]
          unfold GivesS at KSY
          simp only [hSL] at KSY
          have hBWW := HB2.out.trans ((HB.out.trans (HBB.out.mono hsr)).mono hs2)
          have K0 : (wr.cell? ⟨w.heap.size, 0, none⟩ = some (.int .i64 (N : Int)) ∧ wr.cell? ⟨w.heap.size, 1, none⟩ = some (.int .i64 u) ∧ wr.cell? ⟨w.heap.size, 2, none⟩ = some (.int .i64 r) ∧ wr.cell? ⟨w.heap.size, 3, none⟩ = some (.int .i64 c) ∧ wr.cell? ⟨w.heap.size, 4, none⟩ = some (.int .i64 (T : Int)) ∧ wr.cell? ⟨w.heap.size, 5, none⟩ = some (.int .i64 s)) ∧ wr.cell? ⟨q, b, none⟩ = some (.int .i64 ((chK n b : Nat) : Int)) := ⟨HCF.out wr hBWW, cell_below (HCP.out b hbz) (HB.out.trans (HBB.out.mono hsr))⟩
          have HBWW := Lib.hid (HBW.out.trans (hBWW.mono hs1))
          obtain ⟨k, hk⟩ : ∃ k, k = chK n b := ⟨_, rfl⟩
          rw [← hk] at K0 k1 k2
          simp only [← hk] at KE
          have hb0 : (0 : Int) ≤ (b : Int) := by omega
          have hb1 : (b : Int) < (z : Int) := by omega
          clear hmi hh hk hDT hsym hSL hBWW q0
          go_wp2_with fail
          go_region_held3 (fun w' => (w'.cell? ⟨w.heap.size, 0, none⟩ = some (.int .i64 (N : Int)) ∧ w'.cell? ⟨w.heap.size, 1, none⟩ = some (.int .i64 u) ∧ w'.cell? ⟨w.heap.size, 2, none⟩ = some (.int .i64 r) ∧ w'.cell? ⟨w.heap.size, 3, none⟩ = some (.int .i64 c) ∧ w'.cell? ⟨w.heap.size, 4, none⟩ = some (.int .i64 (T : Int)) ∧ w'.cell? ⟨w.heap.size, 5, none⟩ = some (.int .i64 s)) ∧ w'.cell? ⟨q, b, none⟩ = some (.int .i64 (k : Int))) (first | exact K0 | exact K5 | go_keep)
            (first
              | (go_at_call 53; (with_reducible refine (KE _).mono ?_); rintro e w5 ⟨a5, c5, rfl, I5, e5⟩; have b5 : Below wr.heap.size wr w5 := ⟨e5.os, e5.tape, e5.output, e5.size, e5.block⟩; have K5 : (w5.cell? ⟨w.heap.size, 0, none⟩ = some (.int .i64 (N : Int)) ∧ w5.cell? ⟨w.heap.size, 1, none⟩ = some (.int .i64 u) ∧ w5.cell? ⟨w.heap.size, 2, none⟩ = some (.int .i64 r) ∧ w5.cell? ⟨w.heap.size, 3, none⟩ = some (.int .i64 c) ∧ w5.cell? ⟨w.heap.size, 4, none⟩ = some (.int .i64 (T : Int)) ∧ w5.cell? ⟨w.heap.size, 5, none⟩ = some (.int .i64 s)) ∧ w5.cell? ⟨q, b, none⟩ = some (.int .i64 (k : Int)) := ⟨⟨cell_below K0.1.1 b5, cell_below K0.1.2.1 b5, cell_below K0.1.2.2.1 b5, cell_below K0.1.2.2.2.1 b5, cell_below K0.1.2.2.2.2.1 b5, cell_below K0.1.2.2.2.2.2 b5⟩, cell_below K0.2 b5⟩; have H5 := Lib.hid I5))
          have HB5 := Lib.hid (HBB.out.trans (b5.mono hsb))
          have hs5 := b5.size
          have HA5 := Lib.hid (HA.out.below b5)
          have HV5 := Lib.hid (HV.out.below (HBWW.out.trans (b5.mono HBWW.out.size)))
          obtain ⟨⟨d0, d1, d2, d3, d4, d5⟩, d6⟩ := K5
          clear e5 b5 I5 K0 KE HA d0 d1 d2 d3 d5 d6 HBWW
          go_wp2_with fail
          (with_reducible refine (KSY _ _ _ HV5.out (by omega) H5.out).mono ?_)
          rintro e w6 ⟨a6, c6, rfl, o6, b6⟩
          have HB6 := Lib.hid (HB5.out.trans (b6.mono HB5.out.size))
          have hs6 := HB6.out.size
          have HA6 := Lib.hid (HA5.out.below b6)
          have HO6 := Lib.hid (o6.rebase (show wo.heap.size ≤ w5.heap.size by omega))
          clear KSY b6 o6 HA5 HV5 H5 d4
          go_wp2_with (first | (at_builtin; refine Hid.out ?_))
          refine Lib.hid ?_
          refine wpList_append_sy rfl _ _ rfl wo.heap.size xv p yc (dealTo v T N SH m b) rfl HA6.out a6 h c6 (shareL v T N b m h) rfl HO6.out (by omega) hs6 ?_
          intro a9 c9 w9 hO9 g9
          have HB9 := Lib.hid (below_grown HB6.out g9 (fun k hk => by
            obtain ⟨-, xs, -, h3, -⟩ := HA6.out
            exact ownBlock_ge h3 k hk))
          rw [← HDT.out] at hO9
          have HA9 := Lib.hid hO9
          clear hO9 g9 HA6 HO6
          go_wp2
          go_roundw
          case rel => exact ⟨b + 1, p + h, a9, c9, by omega, by go_num, rfl, HA9, HB9⟩
          case measure => simp [intOf]; omega
        · obtain rfl : b = z := by omega
          have hR5 := (HA.out.rebase (show w2.heap.size ≤ wo.heap.size by omega)).below (below_alloc wr (.cells #[.slice xv p yc] YT))
          obtain ⟨p0, phs, p1, p2⟩ := (HO.out.below HBB.out).below (below_alloc wr (.cells #[.slice xv p yc] YT))
          obtain ⟨p2, p3⟩ := p2
          have hbw := (HB.out.trans (HBB.out.mono hsr))
          have hb5 := hbw.alloc hbw.size (.cells #[.slice xv p yc] YT)
          have hb5s := hb5.size
          clear hbw HA HO
          go_wp2_with (first | (at_builtin; refine Hid.out ?_))
          refine Lib.hid ?_
          refine wpList_append_row rfl _ _ 62 rfl w2.heap.size YT j0 (.slice none 0 0) 24 Tryd.underlying62 hj hy0 hy1 hy2 rfl _ _ _ rfl p1 (some ⟨wr.heap.size, 0, none⟩) 1 1 [SV (xv, p, yc)] rfl (rowV_lit wr _ _ _ 1 _ rfl rfl rfl) (fun h => by cases h) (SV_one [(xv, p, yc)]) (by simp [maxLen]; omega) (by omega) hb5s ?_
          intro v9 w9 hE9 g9 _
          have hb9 := below_grown hb5 g9 (ownBlock_ge p1)
          obtain ⟨a9, c9, rfl, h9⟩ := OwnYs.append (x := (xv, p, yc)) p0 p1 p2 p3 hE9 g9 hR5
          rw [← HDSM.out] at h9
          have HO9 := Lib.hid h9
          have HB9 := Lib.hid hb9
          clear hE9 g9 hb9 h9 hb5 hR5 p1 p2 p3
          go_wp2
          go_roundw
          case rel => exact ⟨m + 1, a9, c9, by omega, by go_num, rfl, HO9, HB9⟩
          case measure => simp [intOf]; omega
    · obtain rfl : m = N := by omega
      have hO := HO.out
      rw [HDE.out] at hO
      have HO' := Lib.hid hO
      clear hO HO
      go_wp2
      go_ret2
      exact ⟨_, _, rfl, HO'.out.rebase (by omega), HBW.out.trans ((HB2.out.trans (HB.out.mono hs2)).mono hs1)⟩
end Go.Proofs.YtfjcbgfgiidogaaDoor
