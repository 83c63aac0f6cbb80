/-
  frame.Next.
-/
import Derived.Test.YtkepdjbgfkoobaaFrE
import Derived.Deep.RegionHeld3
namespace Go.Proofs.Ytkepdjbgfkoobaa
open Go.RowKit

theorem RowV.heap {w w' : World} {ad : Option Addr} {len : Nat} {vs : List Value} (h : RowV w ad len vs) (e : w'.heap = w.heap) : RowV w' ad len vs := h.kept fun _ _ => by rw [e]
theorem BytesV.heap {w w' : World} {x : Option Addr × Nat × Nat} {l : List Nat} (h : BytesV w x l) (e : w'.heap = w.heap) : BytesV w' x l := ⟨h.row.heap e, h.bytes, h.small, h.cap, h.nil⟩
theorem BytesV.push {w w' : World} {x : Option Addr × Nat × Nat} {l : List Nat} {o : Obj} (h : BytesV w x l) (e : w'.heap = w.heap.push o) : BytesV w' x l := (h.alloc (o := o)).heap (e.trans rfl)
theorem rowV_push {w w' : World} {v : Value} {T : TypeId} (e : w'.heap = w.heap.push (.cells #[v] T (0, 0))) : RowV w' (some ⟨w.heap.size, 0, none⟩) 1 [v] := (rowV_one w v T).heap (e.trans rfl)

/-- a part of a slice, not at its capacity. -/
theorem bytesV_sub {w : World} {b o n c : Nat} {l : List Nat} (h : BytesV w (some ⟨b, o, none⟩, n, c) l) (i m : Nat) (hm : i + m ≤ n) : BytesV w (some ⟨b, o + i, none⟩, m, c - i) ((l.drop i).take m) := by
  have hl : l.length = n := h.length
  have hc : n ≤ c := h.cap
  have hs : n ≤ 140737488355328 := h.small
  refine ⟨⟨by simp; omega, fun h0 => ?_⟩, fun x hx => h.bytes x (List.mem_of_mem_drop (List.mem_of_mem_take hx)), ?_, ?_, fun e => by cases e⟩
  · simp only at h0
    obtain ⟨b', o', e, hcell⟩ := h.row.2 (by simp; omega)
    simp only at e hcell
    cases e
    refine ⟨b, o + i, rfl, fun j hj => ?_⟩
    simp only at hj
    have := hcell (i + j) (by omega)
    rw [Nat.add_assoc, this]
    simp [hj]
  · simp only; omega
  · simp only; omega
theorem check_at (g : Nat) (a : Option Addr) (n c : Nat) (l : List Nat) (w : World) (hv : RowV w (some ⟨g, 0, none⟩) 1 [.slice a n c]) (h : BytesV w (a, n, c) l) :
    Calls Try.prog 15 #[.slice (some ⟨g, 0, none⟩) 1 1] w fun e w' => e = .returned (.int .u32 (crcN l : Nat)) ∧ w' = w := by
  have := check_any (some ⟨g, 0, none⟩) 1 1 [(a, n, c)] [l] (by omega) w hv (rowsV_cons h (rowsV_nil _))
  simpa using this

def NextGives (w : World) (q : List Nat × Nat × Int) (e : Ending) (w' : World) : Prop :=
  ∃ ad cap, e = .returned (.tuple #[.slice ad q.1.length cap, .int .i64 q.2.1, .int .i64 q.2.2]) ∧ w'.ownsRow w.heap.size 5 1 (.slice ad q.1.length cap) q.1.length (q.1.map bv) ∧ Below w.heap.size w w'
theorem nextGives_none (w : World) (k : Int) {w' : World} (hb : Below w.heap.size w w') : NextGives w ([], 0, k) (.returned (.tuple #[.slice none 0 0, .int .i64 0, .int .i64 k])) w' :=
  ⟨none, 0, rfl, World.ownsRow_nil _ _ _ _, hb⟩

theorem nextGives_some (w : World) {p : List Nat} {N F B cap : Nat} {ad : Option Addr} {w5 : World} (hl : p.length = N) (hown : w5.ownsRow B 5 1 (.slice ad N cap) N (p.map bv)) (hB : w.heap.size ≤ B) (hb : Below w.heap.size w w5) :
    NextGives w (p, F, 0) (.returned (.tuple #[.slice ad N cap, .int .i64 (F : Nat), .int .i64 0])) w5 := by
  subst hl
  exact ⟨ad, cap, rfl, ownsRow_base hown hB, hb⟩

set_option maxRecDepth 100000 in
set_option maxHeartbeats 4000000 in
theorem next_any (ad : Option Addr) (n c : Nat) (l : List Nat) (w : World) (h : BytesV w (ad, n, c) l) :
    Calls Try.prog 18 #[.slice ad n c] w (NextGives w (nextN l)) := by
  have hl : l.length = n := h.length
  have hsm : n ≤ 140737488355328 := h.small
  by_cases h0 : n = 0
  · subst h0
    have e : nextN l = ([], 0, 0) := by unfold nextN; rw [if_pos hl]
    rw [e]
    clear e hl
    go_enter Try.func18, Try.ntmps18
    go_wp2
    go_ret3
    exact nextGives_none _ _ (Below.refl _ _)
  have hc : n ≤ c := h.cap
  have hby := h.bytes
  obtain ⟨b, o, e, hcell⟩ := h.row.2 (by simp; omega)
  simp only at e hcell
  subst e
  have hc0 := (hcell 0 (by omega)).trans (bv_getD (by omega))
  rw [Nat.add_zero] at hc0
  have h0' : ((n : Int) == 0) = false := by simpa using h0
  have hlt0 : 0 < n := by omega
  by_cases h1 : l.getD 0 0 = 90
  case neg =>
    have e : nextN l = ([], 0, 70) := by unfold nextN; rw [if_neg (by omega), if_pos h1]
    rw [e]
    obtain ⟨x, hx⟩ : ∃ x, x = l.getD 0 0 := ⟨_, rfl⟩
    rw [← hx] at h1 hc0
    have h1' : ((x : Int) != 90) = true := by rw [bne_iff_ne]; omega
    clear e hl hx
    go_enter Try.func18, Try.ntmps18
    go_wp2
    go_ret3
    exact nextGives_none _ _ (Below.refl _ _)
  rw [h1] at hc0
  by_cases h2 : n < 4
  · have e : nextN l = ([], 0, 0) := by unfold nextN; rw [if_neg (by omega), if_neg (by simpa using h1), if_pos (by omega)]
    rw [e]
    clear e hl h1
    go_enter Try.func18, Try.ntmps18
    go_wp2
    go_ret3
    exact nextGives_none _ _ (Below.refl _ _)
  have hs1 := bytesV_sub h 1 3 (by omega)
  obtain ⟨m, hm⟩ : ∃ m, m = numN ((l.drop 1).take 3) := ⟨_, rfl⟩
  have KN : Calls Try.prog 26 #[.slice (some ⟨b, o + 1, none⟩) 3 (c - 1)] w fun e w' => e = .returned (.int .i64 (m : Nat)) ∧ w' = w := by rw [hm]; exact number_any _ 3 _ _ (by omega) w hs1
  have hmlt : m < 4294967296 := by rw [hm]; exact numN_lt _ hs1.bytes (by simp; omega)
  by_cases h3 : 32768 < m
  · have e : nextN l = ([], 0, 70) := by unfold nextN; rw [← hm, if_neg (by omega), if_neg (by simpa using h1), if_neg (by omega), if_pos h3]
    rw [e]
    clear e hl h1 hm
    go_enter Try.func18, Try.ntmps18
    go_wp2_with (go_at_call 26; (with_reducible refine KN.mono ?_); rintro e w' ⟨rfl, rfl⟩)
    go_ret3
    exact nextGives_none _ _ (Below.refl _ _)
  by_cases h4 : n < m + 8
  · have e : nextN l = ([], 0, 0) := by unfold nextN; rw [← hm, if_neg (by omega), if_neg (by simpa using h1), if_neg (by omega), if_neg h3, if_pos (by omega)]
    rw [e]
    clear e hl h1 hm
    go_enter Try.func18, Try.ntmps18
    go_wp2_with (go_at_call 26; (with_reducible refine KN.mono ?_); rintro e w' ⟨rfl, rfl⟩)
    go_ret3
    exact nextGives_none _ _ (Below.refl _ _)
  obtain ⟨E, hE⟩ : ∃ E, E = m + 4 := ⟨_, rfl⟩
  obtain ⟨F, hF⟩ : ∃ F, F = E + 4 := ⟨_, rfl⟩
  have hs2 := bytesV_sub h E (F - E) (by omega)
  have hs3 := bytesV_sub h 0 E (by omega)
  have hs4 := bytesV_sub h 4 (E - 4) (by omega)
  rw [Nat.add_zero, List.drop_zero, Nat.sub_zero] at hs3
  obtain ⟨s, hs⟩ : ∃ s, s = numN ((l.drop E).take (F - E)) := ⟨_, rfl⟩
  obtain ⟨v, hv⟩ : ∃ v, v = crcN (l.take E) := ⟨_, rfl⟩
  have hslt : s < 4294967296 := by rw [hs]; exact numN_lt _ hs2.bytes (by simp; omega)
  have hvlt : v < 4294967296 := by rw [hv]; exact crcN_lt hs3.bytes
  have K2 : ∀ w', BytesV w' (some ⟨b, o + E, none⟩, F - E, c - E) ((l.drop E).take (F - E)) → Calls Try.prog 26 #[.slice (some ⟨b, o + E, none⟩) (F - E) (c - E)] w' fun e w'' => e = .returned (.int .i64 (s : Nat)) ∧ w'' = w' := fun w' hh => by rw [hs]; exact number_any _ _ _ _ (by omega) w' hh
  have K3 : ∀ w', RowV w' (some ⟨w.heap.size, 0, none⟩) 1 [.slice (some ⟨b, o, none⟩) E c] → BytesV w' (some ⟨b, o, none⟩, E, c) (l.take E) → Calls Try.prog 15 #[.slice (some ⟨w.heap.size, 0, none⟩) 1 1] w' fun e w'' => e = .returned (.int .u32 (v : Nat)) ∧ w'' = w' := fun w' h1 h2 => by rw [hv]; exact check_at _ _ _ _ _ w' h1 h2
  have e2 : nextN l = if s = v then ((l.drop 4).take m, m + 8, 0) else ([], 0, 70) := by
    have hFE : F - E = 4 := by omega
    rw [hFE] at hs
    unfold nextN; rw [← hm, ← hE, ← hs, ← hv, if_neg (by omega), if_neg (by simpa using h1), if_neg (by omega), if_neg h3, if_neg (by omega)]
    by_cases hh : s = v
    · rw [if_pos hh, if_neg (by simpa using hh)]
    · rw [if_neg hh, if_pos hh]
  have q1 : (4 : Int) + (m : Int) = (E : Int) := by omega
  have q2 : IntKind.i64.wrap ((E : Int) + 4) = (F : Int) := by rw [IntKind.wrap_i64]; omega
  have q3 : (0 : Int) ≤ (E : Int) := by omega
  have q4 : (E : Int) ≤ (F : Int) := by omega
  have q5 : (F : Int) ≤ (c : Int) := by omega
  have q6 : (E : Int) ≤ (c : Int) := by omega
  have q7 : (F : Int) ≤ (n : Int) := by omega
  have q8 : (E : Int) ≤ 32772 := by omega
  have q9 : E ≤ F := by omega
  have q10 : F ≤ n := by omega
  have q11 : F = E + 4 := hF
  have q13 : IntKind.i64.wrap (v : Int) = (v : Int) := by rw [IntKind.wrap_i64]; omega
  have q12 : (c = E) = False := eq_false (by omega)
  have HE := Lib.hid hE
  have HF := Lib.hid hF
  clear hE hF hcell
  by_cases h5 : s = v
  · rw [if_pos h5] at e2
    rw [e2]
    have hmE : m = E - 4 := by omega
    have hF8 : m + 8 = F := by omega
    have hlen : ((l.drop 4).take (E - 4)).length = E - 4 := by simp; omega
    rw [hF8, hmE]
    obtain ⟨p, hp⟩ : ∃ p, p = (l.drop 4).take (E - 4) := ⟨_, rfl⟩
    rw [← hp] at hs4 hlen ⊢
    have KC := clone_any (some ⟨b, o + 4, none⟩) (E - 4) (c - 4) p
    have q14 : (4 : Int) ≤ (E : Int) := by omega
    have q15 : (c = 4) = False := eq_false (by omega)
    have q16 : 4 ≤ E := by omega
    have HQ := Lib.hid q11
    have HLEN := Lib.hid hlen
    subst h5
    clear e2 hl h1 hm hs hv q11 hmE hF8 hlen hp
    go_enter Try.func18, Try.ntmps18
    go_wp2_with (go_at_call 26; (with_reducible refine KN.mono ?_); rintro e w' ⟨rfl, rfl⟩)
    go_region_held3 (fun w' => True) (exact trivial)
      (first
        | (go_at_call 26; (with_reducible refine (K2 _ ?hh).mono ?_); (case hh => first | exact hs2.heap rfl | exact hs2.push rfl); rintro e w' ⟨rfl, rfl⟩)
        | (go_at_call 15; (with_reducible refine (K3 _ ?h1 ?h2).mono ?_); (case h1 => exact rowV_push rfl); (case h2 => exact hs3.push rfl); rintro e w' ⟨rfl, rfl⟩))
    all_goals go_wp2_with (go_at_call 27; (with_reducible refine (KC _ (hs4.push rfl)).mono ?_); rintro e w5 ⟨ad5, cap5, rfl, hown5, hb5⟩)
    all_goals rw [HLEN.out] at hown5 ⊢
    all_goals go_wp2
    all_goals go_ret3
    all_goals exact nextGives_some _ HLEN.out hown5 (by simp) (((below_alloc _ _).drew).trans (hb5.mono (by simp)))
  · rw [if_neg h5] at e2
    rw [e2]
    have h5' : ((s : Int) != (v : Int)) = true := by rw [bne_iff_ne]; omega
    have HQ := Lib.hid q11
    clear e2 hl h1 hm hs hv q11
    go_enter Try.func18, Try.ntmps18
    go_wp2_with (go_at_call 26; (with_reducible refine KN.mono ?_); rintro e w' ⟨rfl, rfl⟩)
    go_region_held3 (fun w' => True) (exact trivial)
      (first
        | (go_at_call 26; (with_reducible refine (K2 _ ?hh).mono ?_); (case hh => first | exact hs2.heap rfl | exact hs2.push rfl); rintro e w' ⟨rfl, rfl⟩)
        | (go_at_call 15; (with_reducible refine (K3 _ ?h1 ?h2).mono ?_); (case h1 => exact rowV_push rfl); (case h2 => exact hs3.push rfl); rintro e w' ⟨rfl, rfl⟩))
    all_goals go_wp2
    all_goals go_ret3
    all_goals exact nextGives_none _ _ ((below_alloc _ _).drew)
end Go.Proofs.Ytkepdjbgfkoobaa
