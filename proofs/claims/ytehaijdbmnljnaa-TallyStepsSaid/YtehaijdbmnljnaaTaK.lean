/-
  tally: all nodes have said yes, or no, or nothing.
-/
import Derived.Test.YtehaijdbmnljnaaTaJ
namespace Go.Proofs.Ytehaijdbmnljnaa
open Go.RowKit

/-- nothing, yes or no. -/
def Fair (said : List Int) : Prop := ∀ i, i < said.length → said.getD i 0 = 0 ∨ said.getD i 0 = 1 ∨ said.getD i 0 = 2
theorem fair_zeros : Fair zeros := fun i _ => Or.inl (zeros_getD i)
theorem fair_step {N : Nat} {x a : Int} {said : List Int} (hx : x = 1 ∨ x = 2) (h : Fair said) : Fair (step1 N x said a) := by
  intro i hi
  rw [step1_length] at hi
  unfold step1
  split
  · by_cases e : a.toNat = i
    · subst e
      have : (said.set a.toNat x).getD a.toNat 0 = x := by simp [List.getD_eq_getElem?_getD, hi]
      rw [this]
      exact Or.inr hx
    · have : (said.set a.toNat x).getD i 0 = said.getD i 0 := by simp [List.getD_eq_getElem?_getD, e]
      rw [this]
      exact h i hi
  · exact h i hi
theorem fair_steps {N : Nat} {x : Int} (hx : x = 1 ∨ x = 2) : ∀ (l : List Int) {said : List Int}, Fair said → Fair (steps N x said l)
  | [], _, h => h
  | a :: l, said, h => fair_steps hx l (said := step1 N x said a) (fair_step hx h)
theorem cnt_all (said : List Int) (h : Fair said) : ∀ N, N ≤ said.length → cnt said N 1 + cnt said N 2 + (silent said N).length = N
  | 0, _ => by simp [cnt, silent]
  | N + 1, hN => by
    have ih := cnt_all said h N (by omega)
    rw [cnt_succ said N 1 (by omega), cnt_succ said N 2 (by omega)]
    simp only [silent, List.length_append]
    rcases h N (by omega) with e | e | e <;> rw [e] <;> simp <;> omega
theorem silent_mem (said : List Int) : ∀ N, ∀ z ∈ silent said N, 0 ≤ z ∧ z < N
  | 0, z, h => by cases h
  | N + 1, z, h => by
    simp only [silent, List.mem_append] at h
    rcases h with h | h
    · have := silent_mem said N z h; omega
    · split at h
      · simp at h; omega
      · cases h
theorem silent_range (said : List Int) (N p : Nat) (hp : p < (silent said N).length) : 0 ≤ (silent said N).getD p 0 ∧ (silent said N).getD p 0 < N := by
  apply silent_mem said N
  rw [List.getD_eq_getElem?_getD, List.getElem?_eq_getElem hp]
  exact List.getElem_mem hp
theorem silent_rises (said : List Int) : ∀ N p, p + 1 < (silent said N).length → (silent said N).getD p 0 < (silent said N).getD (p + 1) 0
  | 0, p, h => by simp [silent] at h
  | N + 1, p, h => by
    simp only [silent, List.length_append] at h
    simp only [silent, List.getD_eq_getElem?_getD]
    by_cases h1 : p + 1 < (silent said N).length
    · have := silent_rises said N p h1
      simp only [List.getD_eq_getElem?_getD] at this
      rw [List.getElem?_append_left (by omega), List.getElem?_append_left h1]
      exact this
    · have h0 : said.getD N 0 = 0 := by
        by_cases e : said.getD N 0 = 0
        · exact e
        · rw [if_neg e] at h; simp at h; omega
      rw [if_pos h0] at h
      simp at h
      have hp : p < (silent said N).length := by omega
      have hr := silent_range said N p hp
      simp only [List.getD_eq_getElem?_getD] at hr
      have h0' : said[N]?.getD 0 = 0 := by simpa [List.getD_eq_getElem?_getD] using h0
      rw [List.getElem?_append_left hp, List.getElem?_append_right (by omega), if_pos h0']
      have : p + 1 - (silent said N).length = 0 := by omega
      rw [this]
      simp
      simpa using hr.2

theorem first_of {w : World} {base : Nat} {T : TypeId} {ad : Option Addr} {cap n : Nat} {l : List Int} (h : w.ownsRow base T 1 (.slice ad n cap) n (l.map iv)) (h0 : 0 < n) (hx : l.getD 0 0 < 99) : ∃ g : Nat, ad = some ⟨g, 0, none⟩ ∧ ∃ x : Int, w.cell? ⟨g, 0, none⟩ = some (.int .i64 x) ∧ (x < 99) = True := by
  obtain ⟨ad', cap', e, hcase, _, _, hrow⟩ := ownsRow_parts h
  cases e
  obtain ⟨b, o, e1, hc⟩ := hrow.2 h0
  rcases hcase with ⟨_, h9, _⟩ | ⟨g, hg, _⟩
  · omega
  · have hl : l.length = n := by have := hrow.1; simpa using this
    have e2 := hg.symm.trans e1
    cases e2
    exact ⟨b, e1, _, (hc 0 h0).trans (iv_getD (by omega)), eq_true hx⟩

set_option maxRecDepth 10000 in
theorem waiting_is {b : Nat} {need : Int} {said : List Int} {N : Nat} {w : World} (hT : TallyI w b need said N) (K : Nat) (hK : (silent said N).length = K) :
    Calls Try.prog 21 #[.pointer (some ⟨b, 0, none⟩)] w fun e w' => ∃ ad cap, e = .returned (.slice ad K cap) ∧ w'.ownsRow w.heap.size 3 1 (.slice ad K cap) K ((silent said N).map iv) ∧ Below w.heap.size w w' := by
  subst hK
  exact waiting_any b need said N w hT

set_option maxRecDepth 10000 in
set_option maxHeartbeats 8000000 in
theorem tallySum_walk (nodes need : Int) (a0 : Option Addr) (n0 c0 : Nat) (Y : Nat → Bool) (Hd : Nat → Option Addr × Nat × Nat) (LL : Nat → List Int) (w : World) (_w0 : (Lit.int .i64 nodes).wf = true) (_w1 : (Lit.int .i64 need).wf = true) (hS : SaysV w a0 n0 c0 Y Hd LL) :
    Calls Try.prog 7 #[.int .i64 nodes, .int .i64 need, .slice a0 n0 c0] w fun x w' => x = .returned (.bool true) ∧ Below w.heap.size w w' := by
  have KA := alive_any
  obtain ⟨N, hN⟩ : ∃ N, nodesOf nodes = N := ⟨_, rfl⟩
  have HNN := Lib.hid hN
  clear hN
  go_enter Try.func7, Try.ntmps7
  go_wp2_with (first
    | (go_at_call 8; (with_reducible refine (KA _).mono ?_); rintro e w1 ⟨rfl, hb1⟩)
    | (go_at_call 9; (with_reducible refine (new_any nodes need w1).mono ?_); rw [HNN.out]; rintro e w2 ⟨rfl, hT2, hd2⟩; have hb2 := trans_belowT hb1 hd2 hb1.size)
    | (go_at_call 11; (with_reducible refine (cut_any _ _ _ Y Hd LL w2 (hS.below hb2)).mono ?_); rintro e w3 ⟨m, hm, hmn, rfl, _, rfl⟩))
  have hSm := hS.cut hmn
  have hbs := hb1.size
  clear hS hd2 KA
  generalize hbb : w1.heap.size = b at hT2 hbs ⊢
  go_loopw [8] (fun i wr => ∃ k : Nat, k ≤ m ∧ i = .int .i64 k ∧ (∃ (sd : List Int), TallyI wr b need sd N ∧ Hid (Fair sd)) ∧ Below w.heap.size w wr) (fun i _ => m - (intOf i).toNat)
  case atStart => exact ⟨0, Nat.zero_le _, rfl, ⟨zeros, hT2, Lib.hid fair_zeros⟩, hb2⟩
  case round =>
    clear hT2 hb1 hb2
    obtain ⟨k, hk, rfl, ⟨sd, hT, HF⟩, hb⟩ := hrel
    have hSr := hSm.below hb
    by_cases hkm : k < m
    · obtain ⟨b2, o2, e2, hlt2, hc⟩ := hSr.row (by omega)
      subst e2
      obtain ⟨cy, cs, hI⟩ := hc k hkm
      have hsm := hSr.small
      clear hc
      generalize Hd k = hd at cs hI
      obtain ⟨ad, n, c⟩ := hd
      simp only at cs hI
      by_cases hn : n ≤ 100
      · have hI2 := hI hn
        generalize LL k = ls at hI2
        generalize Y k = y at cy
        have HF2 := Lib.hid (fair_steps (N := N) (whatOf_is y) ls HF.out)
        clear hI
        go_wp2_with (first
          | (go_at_call 12; (with_reducible refine (saylaw_any b need sd N y _ _ _ ls wr hT hI2 hn).mono ?_); rintro e w20 ⟨rfl, hT20, hg20⟩; have hb20 := grow_more hb hg20 hbs hb.size))
        go_roundw
        case rel => exact ⟨k + 1, by omega, by go_num, ⟨_, hT20, HF2⟩, hb20⟩
        case measure => simp [intOf]; omega
      · have hn2 : 100 < n := by omega
        clear hI hn
        go_wp2
        go_ret
        exact ⟨rfl, hb⟩
    · obtain rfl : k = m := by omega
      have hall := cnt_all sd HF.out N (by rw [hT.len]; exact hT.le)
      have hN8 := hT.le
      have hr1 := silent_range sd N
      have hr2 := silent_rises sd N
      clear hSr HF hkm hk hm hmn
      rcases (by omega : nodes < 0 ∨ 8 < nodes ∨ (0 ≤ nodes ∧ nodes ≤ 8)) with hz | hz | hz
      · have hNv : N = 0 := by rw [← HNN.out]; unfold nodesOf; omega
        subst hNv
        obtain ⟨K, hK⟩ : ∃ K, (silent sd 0).length = K := ⟨_, rfl⟩
        rw [hK] at hall hr1 hr2
        obtain ⟨C1, hc1⟩ : ∃ C1 : Int, (cnt sd 0 1 : Int) = C1 := ⟨_, rfl⟩
        obtain ⟨C2, hc2⟩ : ∃ C2 : Int, (cnt sd 0 2 : Int) = C2 := ⟨_, rfl⟩
        have hs : C1 + C2 + (K : Int) = 0 := by omega
        have hC1 : 0 ≤ C1 ∧ C1 ≤ 8 := by omega
        have hC2 : 0 ≤ C2 ∧ C2 ≤ 8 := by omega
        have hK8 : K ≤ 8 := by omega
        have hKA : K = 0 := by omega
        obtain ⟨u1, u2⟩ := hC1
        obtain ⟨u3, u4⟩ := hC2
        have HSUM := Lib.hid hs
        clear hall hs
        have HR1 := Lib.hid hr1
        have HR2 := Lib.hid hr2
        clear hr1 hr2
        go_wp2_with (first
          | (go_at_call 14; (with_reducible refine (count_is hT C1 C2 hc1 hc2).mono ?_); rintro e w30 ⟨rfl, hd30⟩; have hb30 := trans_belowT hb hd30 hb.size; have hT30 := hT.below hd30)
          | (go_at_call 21; (with_reducible refine (waiting_is hT30 K hK).mono ?_); rintro e w31 ⟨ad, cap, rfl, hown, hd31⟩; have hb31 := trans_belowT hb30 hd31 hb30.size; have hT31 := hT30.below hd31))
        obtain ⟨hI31, hB31⟩ := intsV_own hown (by omega)
        have hbk : ∀ a, ad = some a → b < a.block := fun a ha => Nat.lt_of_lt_of_le hT30.v.lt (hB31 a ha)
        have HOWN := Lib.hid hown
        clear hd30 hd31 hb30 hown hT hb hT30 hc1 hc2
        go_loopw [14] (fun i wr => ∃ p : Nat, p ≤ K ∧ i = .int .i64 p ∧ ∃ q, wr = w31.drewN q) (fun i _ => K - (intOf i).toNat)
        case atStart => exact ⟨0, Nat.zero_le _, rfl, 0, rfl⟩
        case round =>
          obtain ⟨p, hp, rfl, hq⟩ := hrel
          have hbr : Below w31.heap.size w31 wr := by obtain ⟨q, rfl⟩ := hq; exact below_drewNt (Below.refl _ _) _
          have HQ := Lib.hid hq
          clear hq
          by_cases hpK : p < K
          · exfalso; omega
          · obtain rfl : p = K := by omega
            have hb32 : Below w.heap.size w wr := by obtain ⟨q, rfl⟩ := HQ.out; exact below_drewNt hb31 _
            have hT32 := hT31.below hbr
            have hrow : 0 < p → ∃ g : Nat, ad = some ⟨g, 0, none⟩ ∧ b < g ∧ ∃ cur : Array Value, wr.heap[g]? = some (.cells cur 3 (0, 0)) ∧ p ≤ cur.size := by
              intro h0
              rcases HOWN.out.2 with ⟨_, h9⟩ | ⟨g, cp, cur, hv, hgb, hgg, hnc, hcm, hcs, htk⟩
              · omega
              · cases hv
                exact ⟨g, rfl, hbk _ rfl, cur, (hbr.block g (Array.getElem?_eq_some_iff.1 hgg).1).trans hgg, by omega⟩
            have HROW := Lib.hid hrow
            have HBR := Lib.hid (trans_belowT hb31 hbr hb31.size).size
            clear hrow hbr HQ hT31 hbk HOWN hpK hp
            go_wp2
            go_loopw [15] (fun i wr => ∃ q : Nat, q ≤ p ∧ i = .int .i64 q ∧ TallyI wr b need sd 0 ∧ Hid (0 < p → ∃ g : Nat, ad = some ⟨g, 0, none⟩ ∧ b < g ∧ ∃ cur : Array Value, wr.heap[g]? = some (.cells cur 3 (0, 0)) ∧ p ≤ cur.size) ∧ Below w.heap.size w wr) (fun i _ => p - (intOf i).toNat)
            case atStart => exact ⟨0, Nat.zero_le _, rfl, hT32, HROW, hb32⟩
            case round =>
              clear HROW hT32 hb32 HBR
              obtain ⟨q, hq, rfl, hT, HROW, hb⟩ := hrel
              by_cases hqp : q < p
              · exfalso; omega
              · have hqe : q = p := by omega
                subst hqe
                clear HROW
                have e6 : (C1 + C2 + (q : Int) == 0) = true := by rw [HSUM.out]; exact beq_self_eq_true _
                rcases Nat.eq_zero_or_pos q with hq0 | hq0
                · have e5 : ((q : Int) == 0) = true := by rw [hq0]; rfl
                  have e7 : (C1 + C2 == 0) = true := by have := HSUM.out; rw [beq_iff_eq]; omega
                  have e8 : (C1 + C2 = 0) = True := eq_true (by have := HSUM.out; omega)
                  go_wp2_with (first
                  | (go_at_call 21; (with_reducible refine (waiting_is hT q hK).mono ?_); rintro e w40 ⟨ad4, cap4, rfl, hown4, hd40⟩; have hb40 := trans_belowT hb hd40 hb.size; skip))
                  go_ret
                  exact ⟨rfl, hb40⟩
                · exfalso; omega
      · have hNv : N = 8 := by rw [← HNN.out]; unfold nodesOf; omega
        subst hNv
        obtain ⟨K, hK⟩ : ∃ K, (silent sd 8).length = K := ⟨_, rfl⟩
        rw [hK] at hall hr1 hr2
        obtain ⟨C1, hc1⟩ : ∃ C1 : Int, (cnt sd 8 1 : Int) = C1 := ⟨_, rfl⟩
        obtain ⟨C2, hc2⟩ : ∃ C2 : Int, (cnt sd 8 2 : Int) = C2 := ⟨_, rfl⟩
        have hs : C1 + C2 + (K : Int) = 8 := by omega
        have hC1 : 0 ≤ C1 ∧ C1 ≤ 8 := by omega
        have hC2 : 0 ≤ C2 ∧ C2 ≤ 8 := by omega
        have hK8 : K ≤ 8 := by omega
        have hKA : K ≤ 8 := hK8
        obtain ⟨u1, u2⟩ := hC1
        obtain ⟨u3, u4⟩ := hC2
        have HSUM := Lib.hid hs
        clear hall hs
        have HR1 := Lib.hid hr1
        have HR2 := Lib.hid hr2
        clear hr1 hr2
        go_wp2_with (first
          | (go_at_call 14; (with_reducible refine (count_is hT C1 C2 hc1 hc2).mono ?_); rintro e w30 ⟨rfl, hd30⟩; have hb30 := trans_belowT hb hd30 hb.size; have hT30 := hT.below hd30)
          | (go_at_call 21; (with_reducible refine (waiting_is hT30 K hK).mono ?_); rintro e w31 ⟨ad, cap, rfl, hown, hd31⟩; have hb31 := trans_belowT hb30 hd31 hb30.size; have hT31 := hT30.below hd31))
        obtain ⟨hI31, hB31⟩ := intsV_own hown (by omega)
        have hbk : ∀ a, ad = some a → b < a.block := fun a ha => Nat.lt_of_lt_of_le hT30.v.lt (hB31 a ha)
        have HOWN := Lib.hid hown
        clear hd30 hd31 hb30 hown hT hb hT30 hc1 hc2
        go_loopw [14] (fun i wr => ∃ p : Nat, p ≤ K ∧ i = .int .i64 p ∧ ∃ q, wr = w31.drewN q) (fun i _ => K - (intOf i).toNat)
        case atStart => exact ⟨0, Nat.zero_le _, rfl, 0, rfl⟩
        case round =>
          obtain ⟨p, hp, rfl, hq⟩ := hrel
          have hbr : Below w31.heap.size w31 wr := by obtain ⟨q, rfl⟩ := hq; exact below_drewNt (Below.refl _ _) _
          have HQ := Lib.hid hq
          clear hq
          by_cases hpK : p < K
          · obtain ⟨b3, o3, e3, hc3⟩ := (hI31.below hbr).row.2 (by simp; omega)
            simp only at e3
            subst e3
            have d1 := (hc3 p hpK).trans (iv_getD (by rw [hI31.length]; exact hpK))
            obtain ⟨r0, r1⟩ := HR1.out p hpK
            rcases Nat.eq_zero_or_pos p with rfl | hp0
            · clear hc3
              rw [Nat.add_zero] at d1
              obtain ⟨x, hx⟩ : ∃ x, x = (silent sd 8).getD 0 0 := ⟨_, rfl⟩
              rw [← hx] at d1 r0 r1
              clear hx
              have e1 : (x < 0) = False := eq_false (by omega)
              have e2 : (8 ≤ x) = False := eq_false (by omega)
              go_wp2
              go_quiet (fail)
              all_goals go_wp2
              all_goals go_roundw
              case rel => exact ⟨1, by omega, rfl, by obtain ⟨q, hq⟩ := HQ.out; exact ⟨q + nq, by rw [hq, World.drewN_drewN]⟩⟩
              case measure => simp [intOf] <;> omega
            · obtain ⟨j, rfl⟩ : ∃ j, p = j + 1 := ⟨p - 1, by omega⟩
              have d2 := (hc3 j (by simp; omega)).trans (iv_getD (by rw [hI31.length]; simp; omega))
              have r2 := HR2.out j hpK
              clear hc3
              obtain ⟨x, hx⟩ : ∃ x, x = (silent sd 8).getD (j + 1) 0 := ⟨_, rfl⟩
              obtain ⟨y, hy⟩ : ∃ y, y = (silent sd 8).getD j 0 := ⟨_, rfl⟩
              rw [← hx] at d1 r0 r1 r2
              rw [← hy] at d2 r2
              clear hx hy
              have e1 : (x < 0) = False := eq_false (by omega)
              have e2 : (8 ≤ x) = False := eq_false (by omega)
              have e3 : (x ≤ y) = False := eq_false (by omega)
              go_wp2
              go_quiet (fail)
              all_goals go_wp2
              all_goals go_roundw
              case rel => exact ⟨j + 1 + 1, by omega, by go_num, by obtain ⟨q, hq⟩ := HQ.out; exact ⟨q + nq, by rw [hq, World.drewN_drewN]⟩⟩
              case measure => simp [intOf] <;> omega
          · obtain rfl : p = K := by omega
            have hb32 : Below w.heap.size w wr := by obtain ⟨q, rfl⟩ := HQ.out; exact below_drewNt hb31 _
            have hT32 := hT31.below hbr
            have hrow : 0 < p → ∃ g : Nat, ad = some ⟨g, 0, none⟩ ∧ b < g ∧ ∃ cur : Array Value, wr.heap[g]? = some (.cells cur 3 (0, 0)) ∧ p ≤ cur.size := by
              intro h0
              rcases HOWN.out.2 with ⟨_, h9⟩ | ⟨g, cp, cur, hv, hgb, hgg, hnc, hcm, hcs, htk⟩
              · omega
              · cases hv
                exact ⟨g, rfl, hbk _ rfl, cur, (hbr.block g (Array.getElem?_eq_some_iff.1 hgg).1).trans hgg, by omega⟩
            have HROW := Lib.hid hrow
            have HBR := Lib.hid (trans_belowT hb31 hbr hb31.size).size
            clear hrow hbr HQ hT31 hbk HOWN hpK hp
            go_wp2
            go_loopw [15] (fun i wr => ∃ q : Nat, q ≤ p ∧ i = .int .i64 q ∧ TallyI wr b need sd 8 ∧ Hid (0 < p → ∃ g : Nat, ad = some ⟨g, 0, none⟩ ∧ b < g ∧ ∃ cur : Array Value, wr.heap[g]? = some (.cells cur 3 (0, 0)) ∧ p ≤ cur.size) ∧ Below w.heap.size w wr) (fun i _ => p - (intOf i).toNat)
            case atStart => exact ⟨0, Nat.zero_le _, rfl, hT32, HROW, hb32⟩
            case round =>
              clear HROW hT32 hb32 HBR
              obtain ⟨q, hq, rfl, hT, HROW, hb⟩ := hrel
              by_cases hqp : q < p
              · obtain ⟨g, e1, hbg, cur, hg, hcs⟩ := HROW.out (by omega)
                subst e1
                obtain ⟨o, ho⟩ : ∃ o, cur[q]? = some o := ⟨_, Array.getElem?_eq_getElem (by omega)⟩
                have k2 : wr.cell? ⟨g, q, none⟩ = some o := by rw [cell_of_row _ _ _ _ _ _ hg, ho]
                have k3 : wr.frozen? ⟨g, q, none⟩ = false := frozen_of_row _ _ _ _ _ hg
                have HG := Lib.hid hg
                clear hg ho
                go_wp2
                go_roundw
                case rel =>
                  refine ⟨q + 1, by omega, by go_num, hT.other (grownBy_setCell _ _ _) (Nat.ne_of_lt hbg), Lib.hid (fun _ => ⟨g, rfl, hbg, _, heap_setCell_same _ g q cur _ _ HG.out, by simpa using hcs⟩), hb.setCell (p := ⟨g, q, none⟩) (by simp only; omega) _⟩
                case measure => simp [intOf]; omega
              · have hqe : q = p := by omega
                subst hqe
                clear HROW
                have e6 : (C1 + C2 + (q : Int) == 8) = true := by rw [HSUM.out]; exact beq_self_eq_true _
                rcases Nat.eq_zero_or_pos q with hq0 | hq0
                · have e5 : ((q : Int) == 0) = true := by rw [hq0]; rfl
                  have e7 : (C1 + C2 == 8) = true := by have := HSUM.out; rw [beq_iff_eq]; omega
                  have e8 : (C1 + C2 = 8) = True := eq_true (by have := HSUM.out; omega)
                  go_wp2_with (first
                  | (go_at_call 21; (with_reducible refine (waiting_is hT q hK).mono ?_); rintro e w40 ⟨ad4, cap4, rfl, hown4, hd40⟩; have hb40 := trans_belowT hb hd40 hb.size; skip))
                  go_ret
                  exact ⟨rfl, hb40⟩
                · have e5 : ((q : Int) == 0) = false := by
                    have : ¬ (q : Int) = 0 := by omega
                    simpa using this
                  have hr0 := (HR1.out 0 hq0)
                  have hx9 : (silent sd 8).getD 0 0 < 99 := by omega
                  have HX9 := Lib.hid hx9
                  clear hr0 hx9
                  go_wp2_with (first
                  | (go_at_call 21; (with_reducible refine (waiting_is hT q hK).mono ?_); rintro e w40 ⟨ad4, cap4, rfl, hown4, hd40⟩; have hb40 := trans_belowT hb hd40 hb.size; obtain ⟨g4, rfl, x, hx4, hx5⟩ := first_of hown4 hq0 HX9.out))
                  go_ret
                  exact ⟨rfl, hb40⟩
      · have hNv : nodes = (N : Int) := by rw [← HNN.out]; unfold nodesOf; omega
        subst hNv
        obtain ⟨K, hK⟩ : ∃ K, (silent sd N).length = K := ⟨_, rfl⟩
        rw [hK] at hall hr1 hr2
        obtain ⟨C1, hc1⟩ : ∃ C1 : Int, (cnt sd N 1 : Int) = C1 := ⟨_, rfl⟩
        obtain ⟨C2, hc2⟩ : ∃ C2 : Int, (cnt sd N 2 : Int) = C2 := ⟨_, rfl⟩
        have hs : C1 + C2 + (K : Int) = (N : Int) := by omega
        have hC1 : 0 ≤ C1 ∧ C1 ≤ 8 := by omega
        have hC2 : 0 ≤ C2 ∧ C2 ≤ 8 := by omega
        have hK8 : K ≤ 8 := by omega
        have hKA : K ≤ 8 := hK8
        obtain ⟨u1, u2⟩ := hC1
        obtain ⟨u3, u4⟩ := hC2
        have HSUM := Lib.hid hs
        clear hall hs
        have HR1 := Lib.hid hr1
        have HR2 := Lib.hid hr2
        clear hr1 hr2
        go_wp2_with (first
          | (go_at_call 14; (with_reducible refine (count_is hT C1 C2 hc1 hc2).mono ?_); rintro e w30 ⟨rfl, hd30⟩; have hb30 := trans_belowT hb hd30 hb.size; have hT30 := hT.below hd30)
          | (go_at_call 21; (with_reducible refine (waiting_is hT30 K hK).mono ?_); rintro e w31 ⟨ad, cap, rfl, hown, hd31⟩; have hb31 := trans_belowT hb30 hd31 hb30.size; have hT31 := hT30.below hd31))
        obtain ⟨hI31, hB31⟩ := intsV_own hown (by omega)
        have hbk : ∀ a, ad = some a → b < a.block := fun a ha => Nat.lt_of_lt_of_le hT30.v.lt (hB31 a ha)
        have HOWN := Lib.hid hown
        clear hd30 hd31 hb30 hown hT hb hT30 hc1 hc2
        go_loopw [14] (fun i wr => ∃ p : Nat, p ≤ K ∧ i = .int .i64 p ∧ ∃ q, wr = w31.drewN q) (fun i _ => K - (intOf i).toNat)
        case atStart => exact ⟨0, Nat.zero_le _, rfl, 0, rfl⟩
        case round =>
          obtain ⟨p, hp, rfl, hq⟩ := hrel
          have hbr : Below w31.heap.size w31 wr := by obtain ⟨q, rfl⟩ := hq; exact below_drewNt (Below.refl _ _) _
          have HQ := Lib.hid hq
          clear hq
          by_cases hpK : p < K
          · obtain ⟨b3, o3, e3, hc3⟩ := (hI31.below hbr).row.2 (by simp; omega)
            simp only at e3
            subst e3
            have d1 := (hc3 p hpK).trans (iv_getD (by rw [hI31.length]; exact hpK))
            obtain ⟨r0, r1⟩ := HR1.out p hpK
            rcases Nat.eq_zero_or_pos p with rfl | hp0
            · clear hc3
              rw [Nat.add_zero] at d1
              obtain ⟨x, hx⟩ : ∃ x, x = (silent sd N).getD 0 0 := ⟨_, rfl⟩
              rw [← hx] at d1 r0 r1
              clear hx
              have e1 : (x < 0) = False := eq_false (by omega)
              have e2 : ((N : Int) ≤ x) = False := eq_false (by omega)
              go_wp2
              go_quiet (fail)
              all_goals go_wp2
              all_goals go_roundw
              case rel => exact ⟨1, by omega, rfl, by obtain ⟨q, hq⟩ := HQ.out; exact ⟨q + nq, by rw [hq, World.drewN_drewN]⟩⟩
              case measure => simp [intOf] <;> omega
            · obtain ⟨j, rfl⟩ : ∃ j, p = j + 1 := ⟨p - 1, by omega⟩
              have d2 := (hc3 j (by simp; omega)).trans (iv_getD (by rw [hI31.length]; simp; omega))
              have r2 := HR2.out j hpK
              clear hc3
              obtain ⟨x, hx⟩ : ∃ x, x = (silent sd N).getD (j + 1) 0 := ⟨_, rfl⟩
              obtain ⟨y, hy⟩ : ∃ y, y = (silent sd N).getD j 0 := ⟨_, rfl⟩
              rw [← hx] at d1 r0 r1 r2
              rw [← hy] at d2 r2
              clear hx hy
              have e1 : (x < 0) = False := eq_false (by omega)
              have e2 : ((N : Int) ≤ x) = False := eq_false (by omega)
              have e3 : (x ≤ y) = False := eq_false (by omega)
              go_wp2
              go_quiet (fail)
              all_goals go_wp2
              all_goals go_roundw
              case rel => exact ⟨j + 1 + 1, by omega, by go_num, by obtain ⟨q, hq⟩ := HQ.out; exact ⟨q + nq, by rw [hq, World.drewN_drewN]⟩⟩
              case measure => simp [intOf] <;> omega
          · obtain rfl : p = K := by omega
            have hb32 : Below w.heap.size w wr := by obtain ⟨q, rfl⟩ := HQ.out; exact below_drewNt hb31 _
            have hT32 := hT31.below hbr
            have hrow : 0 < p → ∃ g : Nat, ad = some ⟨g, 0, none⟩ ∧ b < g ∧ ∃ cur : Array Value, wr.heap[g]? = some (.cells cur 3 (0, 0)) ∧ p ≤ cur.size := by
              intro h0
              rcases HOWN.out.2 with ⟨_, h9⟩ | ⟨g, cp, cur, hv, hgb, hgg, hnc, hcm, hcs, htk⟩
              · omega
              · cases hv
                exact ⟨g, rfl, hbk _ rfl, cur, (hbr.block g (Array.getElem?_eq_some_iff.1 hgg).1).trans hgg, by omega⟩
            have HROW := Lib.hid hrow
            have HBR := Lib.hid (trans_belowT hb31 hbr hb31.size).size
            clear hrow hbr HQ hT31 hbk HOWN hpK hp
            go_wp2
            go_loopw [15] (fun i wr => ∃ q : Nat, q ≤ p ∧ i = .int .i64 q ∧ TallyI wr b need sd N ∧ Hid (0 < p → ∃ g : Nat, ad = some ⟨g, 0, none⟩ ∧ b < g ∧ ∃ cur : Array Value, wr.heap[g]? = some (.cells cur 3 (0, 0)) ∧ p ≤ cur.size) ∧ Below w.heap.size w wr) (fun i _ => p - (intOf i).toNat)
            case atStart => exact ⟨0, Nat.zero_le _, rfl, hT32, HROW, hb32⟩
            case round =>
              clear HROW hT32 hb32 HBR
              obtain ⟨q, hq, rfl, hT, HROW, hb⟩ := hrel
              by_cases hqp : q < p
              · obtain ⟨g, e1, hbg, cur, hg, hcs⟩ := HROW.out (by omega)
                subst e1
                obtain ⟨o, ho⟩ : ∃ o, cur[q]? = some o := ⟨_, Array.getElem?_eq_getElem (by omega)⟩
                have k2 : wr.cell? ⟨g, q, none⟩ = some o := by rw [cell_of_row _ _ _ _ _ _ hg, ho]
                have k3 : wr.frozen? ⟨g, q, none⟩ = false := frozen_of_row _ _ _ _ _ hg
                have HG := Lib.hid hg
                clear hg ho
                go_wp2
                go_roundw
                case rel =>
                  refine ⟨q + 1, by omega, by go_num, hT.other (grownBy_setCell _ _ _) (Nat.ne_of_lt hbg), Lib.hid (fun _ => ⟨g, rfl, hbg, _, heap_setCell_same _ g q cur _ _ HG.out, by simpa using hcs⟩), hb.setCell (p := ⟨g, q, none⟩) (by simp only; omega) _⟩
                case measure => simp [intOf]; omega
              · have hqe : q = p := by omega
                subst hqe
                clear HROW
                have e6 : (C1 + C2 + (q : Int) == (N : Int)) = true := by rw [HSUM.out]; exact beq_self_eq_true _
                rcases Nat.eq_zero_or_pos q with hq0 | hq0
                · have e5 : ((q : Int) == 0) = true := by rw [hq0]; rfl
                  have e7 : (C1 + C2 == (N : Int)) = true := by have := HSUM.out; rw [beq_iff_eq]; omega
                  have e8 : (C1 + C2 = (N : Int)) = True := eq_true (by have := HSUM.out; omega)
                  go_wp2_with (first
                  | (go_at_call 21; (with_reducible refine (waiting_is hT q hK).mono ?_); rintro e w40 ⟨ad4, cap4, rfl, hown4, hd40⟩; have hb40 := trans_belowT hb hd40 hb.size; skip))
                  go_ret
                  exact ⟨rfl, hb40⟩
                · have e5 : ((q : Int) == 0) = false := by
                    have : ¬ (q : Int) = 0 := by omega
                    simpa using this
                  have hr0 := (HR1.out 0 hq0)
                  have hx9 : (silent sd N).getD 0 0 < 99 := by omega
                  have HX9 := Lib.hid hx9
                  clear hr0 hx9
                  go_wp2_with (first
                  | (go_at_call 21; (with_reducible refine (waiting_is hT q hK).mono ?_); rintro e w40 ⟨ad4, cap4, rfl, hown4, hd40⟩; have hb40 := trans_belowT hb hd40 hb.size; obtain ⟨g4, rfl, x, hx4, hx5⟩ := first_of hown4 hq0 HX9.out))
                  go_ret
                  exact ⟨rfl, hb40⟩
end Go.Proofs.Ytehaijdbmnljnaa
