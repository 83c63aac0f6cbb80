/-
  msg, plainly: what was written is read.
-/
import Derived.Test.YtopnjjehefaghaaDoorMMhA
namespace Go.Proofs.YtopnjjehefaghaaDoor
open Go.RowKit

theorem leN_numLE : ∀ (W n : Nat), n < 256 ^ W → leN (numLE n W) = n
  | 0, n, h => by
    have : n = 0 := by simpa using h
    subst this; rfl
  | W + 1, n, h => by
    have e : numLE n (W + 1) = n % 256 :: numLE (n / 256) W := by
      unfold numLE
      rw [List.range_succ_eq_map, List.map_cons, List.map_map]
      congr 1
      · simp
      · apply List.map_congr_left
        intro t _
        show n / 256 ^ (t + 1) % 256 = n / 256 / 256 ^ t % 256
        rw [Nat.pow_succ, Nat.mul_comm, Nat.div_div_eq_div_mul]
    rw [e]
    simp only [leN]
    rw [leN_numLE W (n / 256) (by rw [Nat.pow_succ] at h; omega)]
    omega
theorem Sd.num_app (n W : Nat) (r : List Nat) (h : n < 256 ^ W) : (⟨false, numLE n W ++ r⟩ : Sd).num W = ⟨false, r⟩ ∧ (⟨false, numLE n W ++ r⟩ : Sd).val W = n := by
  have hl := numLE_len n W
  have hnl : ¬ (numLE n W ++ r).length < W := by rw [List.length_append, hl]; omega
  constructor
  · unfold Sd.num
    rw [if_neg hnl]
    simp only
    rw [List.drop_append_of_le_length (by rw [hl]; exact Nat.le_refl _), List.drop_eq_nil_of_le (by rw [hl]; exact Nat.le_refl _), List.nil_append]
  · unfold Sd.val Sd.tk
    rw [if_neg hnl]
    simp only
    rw [List.take_append_of_le_length (by rw [hl]; exact Nat.le_refl _), List.take_of_length_le (by rw [hl]; exact Nat.le_refl _), leN_numLE W n h]
theorem Sd.text_app (t r : List Nat) (h : t.length < 256) : (⟨false, (numLE t.length 1 ++ t) ++ r⟩ : Sd).text = ⟨false, r⟩ ∧ (⟨false, (numLE t.length 1 ++ t) ++ r⟩ : Sd).bytes = t := by
  rw [List.append_assoc]
  obtain ⟨h1, h2⟩ := Sd.num_app t.length 1 (t ++ r) (by simpa using h)
  have hnl : ¬ (t ++ r).length < t.length := by rw [List.length_append]; omega
  constructor
  · unfold Sd.text
    rw [h1, h2]
    unfold Sd.num
    rw [if_neg hnl]
    simp
  · unfold Sd.bytes
    rw [h1, h2]
    unfold Sd.tk
    rw [if_neg hnl]
    simp
theorem Sd.meta_app {m : MeR} (hf : MeFits m) (r : List Nat) : (⟨false, metaLE m ++ r⟩ : Sd).meta = ⟨false, r⟩ ∧ (⟨false, metaLE m ++ r⟩ : Sd).metaV = m := by
  obtain ⟨N, c, s, t, d, l⟩ := m
  have h0 := hf.N0
  have h1 := hf.N1
  have h2 := hf.c0
  have h3 := hf.c1
  have h4 := hf.s0
  have h5 := hf.s1
  have h6 := hf.t0
  have h7 := hf.t1
  have h8 := hf.l32
  simp only at h0 h1 h2 h3 h4 h5 h6 h7 h8
  have hd : (if d = true then 1 else 0 : Nat) < 256 ^ 1 := by cases d <;> decide
  have e1 : (256 : Nat) ^ 1 = 256 := rfl
  have e4 : (256 : Nat) ^ 4 = 4294967296 := rfl
  have e : metaLE ⟨N, c, s, t, d, l⟩ ++ r = numLE N.toNat 4 ++ (numLE s.toNat 4 ++ (numLE c.toNat 1 ++ (numLE t.toNat 1 ++ (numLE (if d = true then 1 else 0) 1 ++ ((numLE l.length 1 ++ l) ++ r))))) := by
    simp only [metaLE, List.append_assoc]
  rw [e]
  obtain ⟨a1, b1⟩ := Sd.num_app N.toNat 4 (numLE s.toNat 4 ++ (numLE c.toNat 1 ++ (numLE t.toNat 1 ++ (numLE (if d = true then 1 else 0) 1 ++ ((numLE l.length 1 ++ l) ++ r))))) (by omega)
  obtain ⟨a2, b2⟩ := Sd.num_app s.toNat 4 (numLE c.toNat 1 ++ (numLE t.toNat 1 ++ (numLE (if d = true then 1 else 0) 1 ++ ((numLE l.length 1 ++ l) ++ r)))) (by omega)
  obtain ⟨a3, b3⟩ := Sd.num_app c.toNat 1 (numLE t.toNat 1 ++ (numLE (if d = true then 1 else 0) 1 ++ ((numLE l.length 1 ++ l) ++ r))) (by omega)
  obtain ⟨a4, b4⟩ := Sd.num_app t.toNat 1 (numLE (if d = true then 1 else 0) 1 ++ ((numLE l.length 1 ++ l) ++ r)) (by omega)
  obtain ⟨a5, b5⟩ := Sd.num_app (if d = true then 1 else 0) 1 ((numLE l.length 1 ++ l) ++ r) hd
  obtain ⟨a6, b6⟩ := Sd.text_app l r (by omega)
  constructor
  · unfold Sd.meta Sd.m6
    rw [a1, a2, a3, a4, a5, a6]
  · unfold Sd.metaV Sd.m6
    rw [b1, a1, b2, a2, b3, a3, b4, a4, b5, a5, b6]
    congr 1
    · omega
    · omega
    · omega
    · omega
    · cases d <;> rfl
theorem Sd.sym_app {p : Sy} (h0 : 0 ≤ p.1) (h1 : p.1 ≤ 1023) (h2 : 0 ≤ p.2.1) (h3 : p.2.1 < 16777216) (h4 : p.2.2.length ≤ 64) (r : List Nat) : (⟨false, symLE p ++ r⟩ : Sd).sym = ⟨false, r⟩ ∧ (⟨false, symLE p ++ r⟩ : Sd).symV = p := by
  obtain ⟨z, e, l⟩ := p
  simp only at h0 h1 h2 h3 h4
  have e2 : (256 : Nat) ^ 2 = 65536 := rfl
  have e3 : (256 : Nat) ^ 3 = 16777216 := rfl
  have ee : symLE (z, e, l) ++ r = numLE z.toNat 2 ++ (numLE e.toNat 3 ++ ((numLE l.length 1 ++ l) ++ r)) := by simp only [symLE, List.append_assoc]
  rw [ee]
  obtain ⟨a1, b1⟩ := Sd.num_app z.toNat 2 (numLE e.toNat 3 ++ ((numLE l.length 1 ++ l) ++ r)) (by omega)
  obtain ⟨a2, b2⟩ := Sd.num_app e.toNat 3 ((numLE l.length 1 ++ l) ++ r) (by omega)
  obtain ⟨a6, b6⟩ := Sd.text_app l r (by omega)
  constructor
  · unfold Sd.sym
    rw [a1, a2, a6]
  · unfold Sd.symV
    rw [b1, a1, b2, a2, b6, Int.toNat_of_nonneg h0, Int.toNat_of_nonneg h2]
theorem Sd.item_app {i : ItR} (hk : i.key.size ≤ 32) (hf : MeFits i.m) (r : List Nat) : (⟨false, itemLE i ++ r⟩ : Sd).item = ⟨false, r⟩ ∧ (⟨false, itemLE i ++ r⟩ : Sd).itemV = i := by
  obtain ⟨key, m⟩ := i
  simp only at hk hf
  have hkl : (keyL key).length = key.size := by unfold keyL; simp
  have ee : itemLE ⟨key, m⟩ ++ r = (numLE (keyL key).length 1 ++ keyL key) ++ (metaLE m ++ r) := by rw [hkl]; simp only [itemLE, List.append_assoc]
  rw [ee]
  obtain ⟨a1, b1⟩ := Sd.text_app (keyL key) (metaLE m ++ r) (by omega)
  obtain ⟨a2, b2⟩ := Sd.meta_app hf r
  constructor
  · unfold Sd.item
    rw [a1, a2]
  · unfold Sd.itemV
    rw [b1, a1, b2, strOf_keyLM]
theorem Sd.many_app {α : Type} {f : Sd → Sd} {v : Sd → α} {g : α → List Nat} : ∀ (l : List α) (r : List Nat), (∀ x ∈ l, ∀ r, f ⟨false, g x ++ r⟩ = ⟨false, r⟩ ∧ v ⟨false, g x ++ r⟩ = x) →
    Sd.many f v l.length ⟨false, (l.map g).flatten ++ r⟩ = (⟨false, r⟩, l)
  | [], r, _ => rfl
  | x :: l, r, h => by
    obtain ⟨h1, h2⟩ := h x (List.mem_cons_self ..) ((l.map g).flatten ++ r)
    rw [List.length_cons, List.map_cons, List.flatten_cons, List.append_assoc]
    simp only [Sd.many, Bool.false_eq_true, if_false]
    rw [h1, h2, Sd.many_app l r (fun y hy => h y (List.mem_cons_of_mem _ hy))]
theorem Sd.msg_app {M : MsR} (hf : MsFits M) (r : List Nat) : (⟨false, msgLE M ++ r⟩ : Sd).fin = ⟨false, r⟩ ∧ (⟨false, msgLE M ++ r⟩ : Sd).msgV = M := by
  obtain ⟨k, f, t, op, cd, key, m, sy, it⟩ := M
  have h0 := hf.k0
  have h1 := hf.k1
  have h2 := hf.f0
  have h3 := hf.f1
  have h4 := hf.t0
  have h5 := hf.t1
  have h6 := hf.o0
  have h7 := hf.o1
  have h8 := hf.d0
  have h9 := hf.d1
  have hks := hf.ks
  have hsn := hf.sn
  have hin := hf.inn
  simp only at h0 h1 h2 h3 h4 h5 h6 h7 h8 h9 hks hsn hin
  have e1 : (256 : Nat) ^ 1 = 256 := rfl
  have e2 : (256 : Nat) ^ 2 = 65536 := rfl
  have e4 : (256 : Nat) ^ 4 = 4294967296 := rfl
  have hkl : (keyL key).length = key.size := by unfold keyL; simp
  obtain ⟨r9, hr9⟩ : ∃ x, x = (it.map itemLE).flatten ++ r := ⟨_, rfl⟩
  obtain ⟨r8, hr8⟩ : ∃ x, x = numLE it.length 1 ++ r9 := ⟨_, rfl⟩
  obtain ⟨r7, hr7⟩ : ∃ x, x = (sy.map symLE).flatten ++ r8 := ⟨_, rfl⟩
  obtain ⟨r6, hr6⟩ : ∃ x, x = numLE sy.length 2 ++ r7 := ⟨_, rfl⟩
  obtain ⟨r5, hr5⟩ : ∃ x, x = metaLE m ++ r6 := ⟨_, rfl⟩
  obtain ⟨r4, hr4⟩ : ∃ x, x = (numLE (keyL key).length 1 ++ keyL key) ++ r5 := ⟨_, rfl⟩
  obtain ⟨r3, hr3⟩ : ∃ x, x = numLE cd.toNat 4 ++ r4 := ⟨_, rfl⟩
  obtain ⟨r2, hr2⟩ : ∃ x, x = numLE op.toNat 4 ++ r3 := ⟨_, rfl⟩
  obtain ⟨r1, hr1⟩ : ∃ x, x = numLE t.toNat 1 ++ r2 := ⟨_, rfl⟩
  obtain ⟨r0, hr0⟩ : ∃ x, x = numLE f.toNat 1 ++ r1 := ⟨_, rfl⟩
  have ee : msgLE ⟨k, f, t, op, cd, key, m, sy, it⟩ ++ r = numLE k.toNat 1 ++ r0 := by
    rw [hr0, hr1, hr2, hr3, hr4, hr5, hr6, hr7, hr8, hr9, hkl]
    simp only [msgLE, headLE, List.append_assoc]
  rw [ee]
  obtain ⟨a0, b0⟩ := Sd.num_app k.toNat 1 r0 (by omega)
  obtain ⟨a1, b1⟩ := Sd.num_app f.toNat 1 r1 (by omega)
  obtain ⟨a2, b2⟩ := Sd.num_app t.toNat 1 r2 (by omega)
  obtain ⟨a3, b3⟩ := Sd.num_app op.toNat 4 r3 (by omega)
  obtain ⟨a4, b4⟩ := Sd.num_app cd.toNat 4 r4 (by omega)
  obtain ⟨a5, b5⟩ := Sd.text_app (keyL key) r5 (by omega)
  obtain ⟨a6, b6⟩ := Sd.meta_app hf.mf r6
  obtain ⟨a7, b7⟩ := Sd.num_app sy.length 2 r7 (by omega)
  have a8 := Sd.many_app (f := Sd.sym) (v := Sd.symV) (g := symLE) sy r8 (fun p hp r => by
    obtain ⟨q0, q1, q2, q3, q4⟩ := hf.sf p hp
    exact Sd.sym_app q0 q1 q2 q3 q4 r)
  obtain ⟨a9, b9⟩ := Sd.num_app it.length 1 r9 (by omega)
  have a10 := Sd.many_app (f := Sd.item) (v := Sd.itemV) (g := itemLE) it r (fun i hi r => by
    obtain ⟨q0, q1⟩ := hf.jf i hi
    exact Sd.item_app q0 q1 r)
  rw [← hr0] at a1 b1
  rw [← hr1] at a2 b2
  rw [← hr2] at a3 b3
  rw [← hr3] at a4 b4
  rw [← hr4] at a5 b5
  rw [← hr5] at a6 b6
  rw [← hr6] at a7 b7
  rw [← hr7] at a8
  rw [← hr8] at a9 b9
  rw [← hr9] at a10
  obtain ⟨s, hs⟩ : ∃ s : Sd, s = ⟨false, numLE k.toNat 1 ++ r0⟩ := ⟨_, rfl⟩
  rw [← hs] at a0 b0 ⊢
  clear hs ee hr0 hr1 hr2 hr3 hr4 hr5 hr6 hr7 hr8 hr9
  have H1 : s.h1 = ⟨false, r0⟩ := a0
  have H2 : s.h2 = ⟨false, r1⟩ := by unfold Sd.h2; rw [H1, a1]
  have H3 : s.h3 = ⟨false, r2⟩ := by unfold Sd.h3; rw [H2, a2]
  have H4 : s.h4 = ⟨false, r3⟩ := by unfold Sd.h4; rw [H3, a3]
  have H5 : s.h5 = ⟨false, r4⟩ := by unfold Sd.h5; rw [H4, a4]
  have H6 : s.h6 = ⟨false, r5⟩ := by unfold Sd.h6; rw [H5, a5]
  have H7 : s.h7 = ⟨false, r6⟩ := by unfold Sd.h7; rw [H6, a6]
  have H8 : s.h8 = ⟨false, r7⟩ := by unfold Sd.h8; rw [H7, a7]
  have V7 : s.h7.val 2 = sy.length := by rw [H7, b7]
  have H9 : s.h9 = ⟨false, r8⟩ := by unfold Sd.h9; rw [V7, H8, a8]
  have H10 : s.h10 = ⟨false, r9⟩ := by unfold Sd.h10; rw [H9, a9]
  have V9 : s.h9.val 1 = it.length := by rw [H9, b9]
  constructor
  · unfold Sd.fin
    rw [V9, H10, a10]
  · unfold Sd.msgV
    rw [b0, H1, b1, H2, b2, H3, b3, H4, b4, H5, b5, H6, b6, V7, H8, a8, V9, H10, a10, strOf_keyLM, Int.toNat_of_nonneg (by omega), Int.toNat_of_nonneg h2, Int.toNat_of_nonneg h4, Int.toNat_of_nonneg h6, Int.toNat_of_nonneg h8]
theorem enc_ok {M : MsR} (h : (encM M).2 = 0) : MsFits M ∧ (encM M).1 = msgLE M ∧ (msgLE M).length ≤ 65536 := by
  unfold encM at h ⊢
  split at h
  · rename_i hc
    rw [if_pos hc]
    rw [Bool.and_eq_true] at hc
    exact ⟨right_fits hc.1, rfl, of_decide_eq_true hc.2⟩
  · cases h
theorem dec_of_enc {M : MsR} (h : (encM M).2 = 0) : decM (encM M).1 = (M, 0) := by
  obtain ⟨hf, he, -⟩ := enc_ok h
  have hr := Sd.msg_app hf []
  rw [List.append_nil] at hr
  have h1 : readM (msgLE M) = M := hr.2
  have h2 : badM (msgLE M) = false := by unfold badM; rw [hr.1]
  unfold decM
  rw [he, h1, h2, if_pos ⟨rfl, h, he⟩]
theorem dec_ok {l : List Nat} (h : (decM l).2 = 0) : (encM (decM l).1).2 = 0 ∧ (encM (decM l).1).1 = l := by
  unfold decM at h ⊢
  split at h
  · rename_i hc
    rw [if_pos hc]
    exact hc.2
  · cases h
theorem dec_code (l : List Nat) : (decM l).2 = 0 ∨ ((decM l).2 = 110 ∧ (decM l).1 = zeroM) := by
  unfold decM
  split
  · exact .inl rfl
  · exact .inr ⟨rfl, rfl⟩
/-- no bytes of a message go on with those of another. -/
theorem dec_apart {M : MsR} (h : (encM M).2 = 0) (r : List Nat) : (decM ((encM M).1 ++ r)).2 = 0 ↔ r = [] := by
  constructor
  · intro hd
    obtain ⟨hn1, hn2⟩ := dec_ok hd
    obtain ⟨N, hN⟩ : ∃ N, N = (decM ((encM M).1 ++ r)).1 := ⟨_, rfl⟩
    rw [← hN] at hn1 hn2
    obtain ⟨hf, he, -⟩ := enc_ok h
    obtain ⟨hg, hge, -⟩ := enc_ok hn1
    have e1 := (Sd.msg_app hf r).1
    have e2 := (Sd.msg_app hg []).1
    rw [List.append_nil, ← hge, hn2, he, e1] at e2
    exact (Sd.mk.inj e2).2
  · intro hr
    rw [hr, List.append_nil, dec_of_enc h]
theorem dec_cut {M : MsR} (h : (encM M).2 = 0) {k : Nat} (hk : k < (encM M).1.length) : (decM ((encM M).1.take k)).2 = 110 ∧ (decM ((encM M).1.take k)).1 = zeroM := by
  rcases dec_code ((encM M).1.take k) with hd | hd
  · exfalso
    obtain ⟨hn1, hn2⟩ := dec_ok hd
    obtain ⟨N, hN⟩ : ∃ N, N = (decM ((encM M).1.take k)).1 := ⟨_, rfl⟩
    rw [← hN] at hn1 hn2
    have h1 := dec_apart hn1 ((encM M).1.drop k)
    rw [hn2, List.take_append_drop, dec_of_enc h] at h1
    have h2 := h1.1 rfl
    have h3 := congrArg List.length h2
    rw [List.length_drop] at h3
    simp at h3
    omega
  · exact hd
end Go.Proofs.YtopnjjehefaghaaDoor
