/-
  rillref11's scan: a number, a text.
-/
import Derived.Test.YtopnjjehefaghaaDoorMMhA
namespace Go.Proofs.YtopnjjehefaghaaDoor
open Go.RowKit

abbrev SC2 : TypeId := 68
theorem set2M {w : World} {g : Nat} {u0 u1 : Value} {T : TypeId} (x0 x1 : Value) (h : w.heap[g]? = some (.cells #[u0, u1] T (0, 0))) : ((w.setCell ⟨g, 0, none⟩ x0).setCell ⟨g, 1, none⟩ x1).heap[g]? = some (.cells #[x0, x1] T (0, 0)) := by
  have h0 : (w.setCell ⟨g, 0, none⟩ x0).heap[g]? = some (.cells #[x0, u1] T (0, 0)) := heap_setCell_same w g 0 _ _ _ h
  exact heap_setCell_same _ g 1 _ _ _ h0
theorem results_scanM {fn : Func} {p u : Tmp} (hf : fn.results = #[.cell p SC2, .tmp u]) {w : World} {g : Nat} {v0 v1 : Value} (k : w.heap[g]? = some (.cells #[v0, v1] SC2 (0, 0))) (tmps : Array Value) (hp : tmps.getD p undef = .pointer (some ⟨g, 0, none⟩)) : (results fn tmps).run Tryd.prog w = .ok (.tuple #[.agg #[v0, v1], tmps.getD u undef]) w := by
  rw [results_cell_tmp hf, hp]
  simp only [asAddr, Sem.run_pure, Result.andThen_ok]
  rw [run_loadVar_row w g SC2 SC2 #[v0, v1] (0, 0) _ k Tryd.underlying68 rfl (by kernel_rfl)]
  rfl
theorem cells2R {w : World} {g : Nat} {u0 u1 : Value} {T : TypeId} (h : w.heap[g]? = some (.cells #[u0, u1] T (0, 0))) : w.cell? ⟨g, 0, none⟩ = some u0 ∧ w.cell? ⟨g, 1, none⟩ = some u1 ∧ ∀ j, w.frozen? ⟨g, j, none⟩ = false :=
  ⟨cell_of_row _ _ 0 _ _ _ h, cell_of_row _ _ 1 _ _ _ h, fun _ => frozen_of_row _ _ _ _ _ h⟩
/-- what a reading of a number gives. -/
def GivesN (u w : World) (s : Sd) (v : Nat) (e : Ending) (w' : World) : Prop := ∃ a' n' c', e = .returned (.tuple #[.agg #[.slice a' n' c', .bool s.bad], .int .i64 (v : Nat)]) ∧ BytesV u (a', n', c') s.l ∧ Below w.heap.size w w'
set_option maxRecDepth 100000 in
set_option maxHeartbeats 8000000 in
theorem rnum_any (m : Nat) (ad : Option Addr) (n c : Nat) (s : Sd) (u w : World) (hu : Below u.heap.size u w) (h : BytesV u (ad, n, c) s.l) (hm : m ≤ 4) :
    Calls Tryd.prog 38 #[.agg #[.slice ad n c, .bool s.bad], .int .i64 m] w (GivesN u w (s.num m) (s.val m)) := by
  obtain ⟨bad, l⟩ := s
  simp only at h ⊢
  have hln : l.length = n := h.length
  have hnc : n ≤ c := h.cap
  obtain ⟨b, hb⟩ : ∃ b, b = w.heap.size := ⟨_, rfl⟩
  obtain ⟨w1, hw1⟩ : ∃ x, x = w.alloc (.cells #[.slice ad n c, .bool bad] SC2) := ⟨_, rfl⟩
  have hs1 : w1.heap.size = b + 1 := by rw [hw1, hb]; simp
  obtain ⟨w2, hw2⟩ : ∃ x, x = w1.alloc (.cells #[.slice none 0 0, .bool false] SC2) := ⟨_, rfl⟩
  have k1 : w1.heap[b]? = some (.cells #[.slice ad n c, .bool bad] SC2 (0, 0)) := by rw [hw1, hb]; exact heap_alloc_new w _
  have k2 : w2.heap[b]? = some (.cells #[.slice ad n c, .bool bad] SC2 (0, 0)) := by rw [hw2, heap_alloc_old _ _ (by omega)]; exact k1
  have k3 : w2.heap[b + 1]? = some (.cells #[.slice none 0 0, .bool false] SC2 (0, 0)) := by rw [hw2, ← hs1]; exact heap_alloc_new w1 _
  have b2 : Below w.heap.size w w2 := by rw [hw2, hw1]; exact (below_alloc w _).trans ((below_alloc _ _).mono (by simp))
  have HW1 := Lib.hid hw1
  have HW2 := Lib.hid hw2
  have HBB := Lib.hid hb
  have K3 := Lib.hid k3
  have K2 := Lib.hid k2
  have B2 := Lib.hid b2
  have HL := Lib.hid h
  have HU := Lib.hid hu
  have HLN := Lib.hid hln
  have hb1 : w.heap.size ≤ b := Nat.le_of_eq hb.symm
  obtain ⟨c0, c1, hfz⟩ := cells2R k2
  obtain ⟨d0, d1, hfz1⟩ := cells2R k3
  clear hw1 hw2 hb k1 k2 k3 b2 h hs1 hu hln
  by_cases hlt : n < m
  · have hn : (⟨bad, l⟩ : Sd).num m = ⟨true, l⟩ := by unfold Sd.num; rw [if_pos (by simp only; have := HLN.out; omega)]
    have hv : (⟨bad, l⟩ : Sd).val m = 0 := by unfold Sd.val Sd.tk; rw [if_pos (by simp only; have := HLN.out; omega)]; rfl
    rw [hn, hv]
    clear hn hv
    go_enter Tryd.func38, Tryd.ntmps38
    go_upto_region 1 with fail
    rw [← HBB.out, ← HW1.out, ← HW2.out]
    go_wp2
    clear HW1 HW2
    have hbe : Below w.heap.size w (((w2.setCell ⟨b, 1, none⟩ (.bool true)).setCell ⟨b + 1, 0, none⟩ (.slice ad n c)).setCell ⟨b + 1, 1, none⟩ (.bool true)) := (((B2.out.setCell (p := ⟨b, 1, none⟩) hb1 _).setCell (p := ⟨b + 1, 0, none⟩) (by show w.heap.size ≤ b + 1; omega) _).setCell (p := ⟨b + 1, 1, none⟩) (by show w.heap.size ≤ b + 1; omega) _)
    exact bodyPost_ret (results_scanM rfl (g := b + 1) (v0 := .slice ad n c) (v1 := .bool true) (set2M _ _ ((heap_setCell_other w2 ⟨b, 1, none⟩ (b + 1) _ (by simp)).trans K3.out)) _ rfl) rfl ⟨ad, n, c, rfl, HL.out, hbe⟩
  · have hn : (⟨bad, l⟩ : Sd).num m = ⟨bad, l.drop m⟩ := by unfold Sd.num; rw [if_neg (by simp only; have := HLN.out; omega)]
    have hv : (⟨bad, l⟩ : Sd).val m = leN (l.take m) := by unfold Sd.val Sd.tk; rw [if_neg (by simp only; have := HLN.out; omega)]
    rw [hn, hv]
    obtain ⟨L, hL⟩ : ∃ L, L = l.take m := ⟨_, rfl⟩
    have hLl : L.length = m := by rw [hL, List.length_take]; have := HLN.out; omega
    rw [← hL]
    have HLL := Lib.hid hL
    have HLM := Lib.hid hLl
    have HLB : Hid (Bytes L) := Lib.hid (by rw [hL]; exact fun x hx => HL.out.bytes x (List.mem_of_mem_take hx))
    clear hn hv hL hLl
    have hnm : ¬ (n : Int) < (m : Int) := by omega
    go_enter Tryd.func38, Tryd.ntmps38
    go_upto_region 1 with fail
    rw [← HBB.out, ← HW1.out, ← HW2.out]
    go_wp2_with fail
    go_loopw [6, 7] (fun vv vi wr => ∃ j : Nat, j ≤ m ∧ vi = .int .i64 ((j : Int) - 1) ∧ vv = .int .i64 (leN (L.drop j) : Nat) ∧ wr = w2) (fun _ vi _ => (intOf vi + 1).toNat)
    case atStart => exact ⟨m, Nat.le_refl _, rfl, by rw [List.drop_eq_nil_of_le (by rw [HLM.out]; exact Nat.le_refl _)]; rfl, rfl⟩
    case round =>
      obtain ⟨j', hj, rfl, rfl, rfl⟩ := hrel
      by_cases h0 : 0 < j'
      · obtain ⟨j, rfl⟩ : ∃ j, j' = j + 1 := ⟨j' - 1, by omega⟩
        have hj1 : (((j + 1 : Nat) : Int) - 1) = (j : Int) := by omega
        rw [hj1]
        have hjn : j < n := by omega
        obtain ⟨g, o, rfl, hrow⟩ := HL.out.row.2 (by simp only; omega)
        simp only at hrow
        have hx := hrow j hjn
        rw [bv_getD (by have := HLN.out; omega)] at hx
        obtain ⟨x, hxx⟩ : ∃ x, x = l.getD j 0 := ⟨_, rfl⟩
        rw [← hxx] at hx
        have hgl : g < u.heap.size := World.block_lt_of_cell? u _ hx
        have hx1 : wr.cell? ⟨g, o + j, none⟩ = some (.int .u8 (x : Nat)) := ((HU.out.trans (B2.out.mono HU.out.size)).cell (p := ⟨g, o + j, none⟩) hgl).trans hx
        have hx8 : x < 256 := by rw [hxx]; exact HL.out.bytes.getD j
        have hstep := leN_drop (L := L) (j := j) (by rw [HLM.out]; omega)
        have hxL : L.getD j 0 = x := by
          rw [hxx, HLL.out, List.getD_eq_getElem?_getD, List.getD_eq_getElem?_getD, List.getElem?_take, if_pos (by omega)]
        rw [hxL] at hstep
        obtain ⟨V, hV⟩ : ∃ V, V = leN (L.drop (j + 1)) := ⟨_, rfl⟩
        have hv1 : V < 16777216 := by
          rw [hV]
          have h1 := leN_lt (l := L.drop (j + 1)) (fun y hy => HLB.out y (List.mem_of_mem_drop hy))
          have h2 : (L.drop (j + 1)).length ≤ 3 := by rw [List.length_drop, HLM.out]; omega
          have h3 : 256 ^ (L.drop (j + 1)).length ≤ 256 ^ 3 := Nat.pow_le_pow_right (by decide) h2
          have h4 : (256 : Nat) ^ 3 = 16777216 := by decide
          omega
        rw [← hV] at hstep ⊢
        have HST := Lib.hid hstep
        have j0 : (0 : Int) ≤ (j : Int) := by omega
        have j1 : (j : Int) < (n : Int) := by omega
        clear hx hxx hrow hstep hxL hV hj1
        go_wp2
        go_roundw
        case rel => exact ⟨j, by omega, rfl, by rw [HST.out]; go_num, trivial⟩
        case measure => simp [intOf] <;> omega
      · obtain rfl : j' = 0 := by omega
        rw [List.drop_zero]
        have HKK := Lib.hid (And.intro c0 c1)
        by_cases hc1 : c = m
        · have hn1 : n = m := by omega
          subst hc1 hn1
          go_wp2
          clear HW1 HW2
          refine (?_ : ∀ (WF : World), WF.heap[b + 1]? = some (.cells #[.slice _ _ _, .bool bad] SC2 (0, 0)) → Below w.heap.size w WF → bodyPost _ _ _ _ _ WF) _ (set2M _ _ ((heap_setCell_other wr ⟨b, 0, none⟩ (b + 1) _ (by simp)).trans K3.out)) (((B2.out.setCell (p := ⟨b, 0, none⟩) hb1 _).setCell (p := ⟨b + 1, 0, none⟩) (by show w.heap.size ≤ b + 1; omega) _).setCell (p := ⟨b + 1, 1, none⟩) (by show w.heap.size ≤ b + 1; omega) _)
          intro WF hh hbe
          refine bodyPost_ret (results_scanM rfl hh _ rfl) rfl ⟨_, _, _, rfl, ?_, hbe⟩
          exact bytesV_noneM (List.drop_eq_nil_of_le (by have := HLN.out; omega)) (fun _ => by first | rfl | omega)
        · obtain ⟨x, rfl⟩ : ∃ x, ad = some x := by
            cases h1 : ad with
            | some x => exact ⟨x, rfl⟩
            | none => have := HL.out.nil h1; simp only at this; omega
          go_wp2
          clear HW1 HW2
          refine (?_ : ∀ (WF : World), WF.heap[b + 1]? = some (.cells #[.slice _ _ _, .bool bad] SC2 (0, 0)) → Below w.heap.size w WF → bodyPost _ _ _ _ _ WF) _ (set2M _ _ ((heap_setCell_other wr ⟨b, 0, none⟩ (b + 1) _ (by simp)).trans K3.out)) (((B2.out.setCell (p := ⟨b, 0, none⟩) hb1 _).setCell (p := ⟨b + 1, 0, none⟩) (by show w.heap.size ≤ b + 1; omega) _).setCell (p := ⟨b + 1, 1, none⟩) (by show w.heap.size ≤ b + 1; omega) _)
          intro WF hh hbe
          refine bodyPost_ret (results_scanM rfl hh _ rfl) rfl ⟨_, _, _, rfl, ?_, hbe⟩
          exact bytesV_dropM HL.out rfl (by omega)
theorem rnum_is (m : Nat) (ad : Option Addr) (n c : Nat) (s : Sd) (u w : World) (hu : Below u.heap.size u w) (h : BytesV u (ad, n, c) s.l) (hm : m ≤ 4) (v : Int) (hv : (m : Int) = v) :
    Calls Tryd.prog 38 #[.agg #[.slice ad n c, .bool s.bad], .int .i64 v] w (GivesN u w (s.num m) (s.val m)) :=
  hv ▸ rnum_any m ad n c s u w hu h hm
set_option maxRecDepth 100000 in
set_option maxHeartbeats 8000000 in
theorem rtextM_any (ad : Option Addr) (n c : Nat) (s : Sd) (u w : World) (hu : Below u.heap.size u w) (h : BytesV u (ad, n, c) s.l) :
    Calls Tryd.prog 39 #[.agg #[.slice ad n c, .bool s.bad]] w fun e w' => ∃ a' n' c' ta tc, e = .returned (.tuple #[.agg #[.slice a' n' c', .bool s.text.bad], .slice ta s.bytes.length tc]) ∧ BytesV u (a', n', c') s.text.l ∧ w'.ownsRow w.heap.size 5 1 (.slice ta s.bytes.length tc) s.bytes.length (s.bytes.map bv) ∧ Bytes s.bytes ∧ s.bytes.length ≤ 255 ∧ Below w.heap.size w w' := by
  obtain ⟨b, hb⟩ : ∃ b, b = w.heap.size := ⟨_, rfl⟩
  obtain ⟨w1, hw1⟩ : ∃ x, x = w.alloc (.cells #[.slice ad n c, .bool s.bad] SC2) := ⟨_, rfl⟩
  have hs1 : w1.heap.size = b + 1 := by rw [hw1, hb]; simp
  obtain ⟨w2, hw2⟩ : ∃ x, x = w1.alloc (.cells #[.slice none 0 0, .bool false] SC2) := ⟨_, rfl⟩
  have k1 : w1.heap[b]? = some (.cells #[.slice ad n c, .bool s.bad] SC2 (0, 0)) := by rw [hw1, hb]; exact heap_alloc_new w _
  have k2 : w2.heap[b]? = some (.cells #[.slice ad n c, .bool s.bad] SC2 (0, 0)) := by rw [hw2, heap_alloc_old _ _ (by omega)]; exact k1
  have k3 : w2.heap[b + 1]? = some (.cells #[.slice none 0 0, .bool false] SC2 (0, 0)) := by rw [hw2, ← hs1]; exact heap_alloc_new w1 _
  have b2 : Below w.heap.size w w2 := by rw [hw2, hw1]; exact (below_alloc w _).trans ((below_alloc _ _).mono (by simp))
  have KN := rnum_is 1 ad n c s u w2 (hu.trans (b2.mono hu.size)) h (by decide) 1 rfl
  have hv := Sd.val_lt (s := s) h.bytes 1
  have hby := Sd.tk_bytes (Sd.num_bytes (s := s) h.bytes 1) (s.val 1)
  have hln := Sd.tk_len (s.num 1) (s.val 1)
  obtain ⟨T, hT⟩ : ∃ T, T = s.val 1 := ⟨_, rfl⟩
  have htx : s.text = (s.num 1).num T := by rw [hT]; rfl
  have hbs : s.bytes = (s.num 1).tk T := by rw [hT]; rfl
  rw [htx, hbs]
  rw [← hT] at KN hv hby hln
  obtain ⟨s1, hs1d⟩ : ∃ x, x = s.num 1 := ⟨_, rfl⟩
  rw [← hs1d] at KN hby hln ⊢
  have hT255 : T ≤ 255 := by
    have : (256 : Nat) ^ 1 = 256 := rfl
    omega
  have HW1 := Lib.hid hw1
  have HW2 := Lib.hid hw2
  have HBB := Lib.hid hb
  have K3 := Lib.hid k3
  have B2 := Lib.hid b2
  have HU := Lib.hid hu
  have HBY := Lib.hid (And.intro hby (Nat.le_trans hln hT255))
  have hb1 : w.heap.size ≤ b := Nat.le_of_eq hb.symm
  have hblt : b + 1 < w2.heap.size := (Array.getElem?_eq_some_iff.1 k3).1
  obtain ⟨c0, c1, hfz⟩ := cells2R k2
  have K2 := Lib.hid k2
  clear hw1 hw2 hb k1 k2 k3 b2 h hs1 hu hT htx hbs hs1d hby hln hv
  go_enter Tryd.func39, Tryd.ntmps39
  go_upto_region 1 with fail
  rw [← HBB.out, ← HW1.out, ← HW2.out]
  go_wp2_with fail
  (with_reducible refine KN.mono ?_)
  rintro e w3 ⟨a3, n3, c3, rfl, hb3, b3⟩
  have k2 := (b3.block b (by omega)).trans K2.out
  have k3 := (b3.block (b + 1) hblt).trans K3.out
  have B3 := Lib.hid (B2.out.trans (b3.mono B2.out.size))
  have HB3 := Lib.hid hb3
  obtain ⟨e0, e1, ez⟩ := cells2R k2
  clear KN b3 hb3 c0 c1 hfz HW1 HW2 K2 K3
  go_upto_region 2 with fail
  have hset := set2M (.slice a3 n3 c3) (.bool s1.bad) k2
  have hoth : ((w3.setCell ⟨b, 0, none⟩ (.slice a3 n3 c3)).setCell ⟨b, 1, none⟩ (.bool s1.bad)).heap[b + 1]? = some (.cells #[.slice none 0 0, .bool false] SC2 (0, 0)) := (heap_setCell_other _ ⟨b, 1, none⟩ (b + 1) _ (by simp)).trans ((heap_setCell_other w3 ⟨b, 0, none⟩ (b + 1) _ (by simp)).trans k3)
  have hbl := (B3.out.setCell (p := ⟨b, 0, none⟩) hb1 (.slice a3 n3 c3)).setCell (p := ⟨b, 1, none⟩) hb1 (.bool s1.bad)
  have HS := Lib.hid (And.intro hset (And.intro hoth hbl))
  refine (?_ : ∀ W4 : World, Hid (W4.heap[b]? = some (.cells #[.slice a3 n3 c3, .bool s1.bad] SC2 (0, 0)) ∧ W4.heap[b + 1]? = some (.cells #[.slice none 0 0, .bool false] SC2 (0, 0)) ∧ Below w.heap.size w W4) → Code.wp Tryd.prog _ _ _ W4) _ HS
  clear HS hset hoth hbl e0 e1 ez k2 k3 B3
  intro W4 HS
  obtain ⟨e0, e1, ez⟩ := cells2R HS.out.1
  obtain ⟨d0, d1, dz⟩ := cells2R HS.out.2.1
  have hl3 : s1.l.length = n3 := HB3.out.length
  have hc3 : n3 ≤ c3 := HB3.out.cap
  have HL3 := Lib.hid hl3
  have hW4 := (Array.getElem?_eq_some_iff.1 HS.out.2.1).1
  clear hl3
  by_cases hlt : n3 < T
  · have hn : s1.num T = ⟨true, s1.l⟩ := by unfold Sd.num; rw [if_pos (by have := HL3.out; omega)]
    have ht : s1.tk T = [] := by unfold Sd.tk; rw [if_pos (by have := HL3.out; omega)]
    have HN := Lib.hid hn
    have HT := Lib.hid ht
    clear hn ht
    go_wp2
    refine (?_ : ∀ (WF : World), WF.heap[b + 1]? = some (.cells #[.slice _ _ _, .bool true] SC2 (0, 0)) → Below w.heap.size w WF → bodyPost _ _ _ _ _ WF) _ (set2M _ _ ((heap_setCell_other W4 ⟨b, 1, none⟩ (b + 1) _ (by simp)).trans HS.out.2.1)) (((HS.out.2.2.setCell (p := ⟨b, 1, none⟩) hb1 _).setCell (p := ⟨b + 1, 0, none⟩) (by show w.heap.size ≤ b + 1; omega) _).setCell (p := ⟨b + 1, 1, none⟩) (by show w.heap.size ≤ b + 1; omega) _)
    intro WF hh hbe
    refine bodyPost_ret (results_scanM rfl hh _ rfl) rfl ?_
    rw [HN.out, HT.out]
    exact ⟨a3, n3, c3, none, 0, rfl, HB3.out, ⟨rfl, .inl ⟨rfl, rfl⟩⟩, fun x hx => (nomatch hx), Nat.zero_le _, hbe⟩
  · have hn : s1.num T = ⟨s1.bad, s1.l.drop T⟩ := by unfold Sd.num; rw [if_neg (by have := HL3.out; omega)]
    have ht : s1.tk T = s1.l.take T := by unfold Sd.tk; rw [if_neg (by have := HL3.out; omega)]
    rw [ht] at HBY
    have HN := Lib.hid hn
    obtain ⟨L, hL⟩ : ∃ L, L = s1.l.take T := ⟨_, rfl⟩
    have hLl : L.length = T := by rw [hL, List.length_take]; have := HL3.out; omega
    have hLv : BytesV u (a3, T, c3) L := by rw [hL]; exact bytesV_takeM HB3.out (by omega)
    rw [← hL] at HBY ht
    have HT := Lib.hid ht
    have HLl := Lib.hid hLl
    have KC := copyBytes_any a3 T c3 L W4 (hLv.below (HU.out.trans (HS.out.2.2.mono HU.out.size)))
    clear hL hLl hLv hn ht
    have hnT : ¬ (n3 : Int) < (T : Int) := by omega
    have hTn : T ≤ n3 := by omega
    have hTi : (T : Int) ≤ (n3 : Int) := by omega
    have hT3 : (T : Int) ≤ (c3 : Int) := by omega
    have hTc : T ≤ c3 := by omega
    clear hlt
    go_upto_region 5 with fail
    clear hnT
    by_cases hc1 : c3 = T
    · have hn1 : n3 = T := by omega
      subst hc1 hn1
      go_wp2_with fail
      (with_reducible refine KC.mono ?_)
      rintro e W5 ⟨a5, c5, rfl, o5, b5⟩
      rw [HLl.out] at o5 ⊢
      have k5 := (b5.block b (by omega)).trans HS.out.1
      have j5 := (b5.block (b + 1) hW4).trans HS.out.2.1
      have B5 := Lib.hid (HS.out.2.2.trans (b5.mono HS.out.2.2.size))
      have HO5 := Lib.hid (ownsRow_base o5 (show b + 2 ≤ W4.heap.size by omega))
      obtain ⟨e0, e1, ez⟩ := cells2R k5
      obtain ⟨d0, d1, dz⟩ := cells2R j5
      have K5 := Lib.hid k5
      have J5 := Lib.hid j5
      clear KC o5 b5 k5 j5
      go_wp2
      refine (?_ : ∀ (WF : World), WF.heap[b + 1]? = some (.cells #[.slice _ _ _, .bool s1.bad] SC2 (0, 0)) → W5.grownBy WF none ∨ True → Below w.heap.size w WF → WF.ownsRow (b + 2) 5 1 (.slice a5 _ c5) _ (L.map bv) → bodyPost _ _ _ _ _ WF) _ (set2M _ _ ((heap_setCell_other W5 ⟨b, 0, none⟩ (b + 1) _ (by simp)).trans J5.out)) (.inr trivial) (((B5.out.setCell (p := ⟨b, 0, none⟩) hb1 _).setCell (p := ⟨b + 1, 0, none⟩) (by show w.heap.size ≤ b + 1; omega) _).setCell (p := ⟨b + 1, 1, none⟩) (by show w.heap.size ≤ b + 1; omega) _) (((HO5.out.kept (grownBy_setCellM W5 ⟨b, 0, none⟩ _) (.inr (fun e => by have := (HO5.out.lt b e).1; omega))).kept (grownBy_setCellM _ ⟨b + 1, 0, none⟩ _) (.inr (fun e => by have := (HO5.out.lt (b + 1) e).1; omega))).kept (grownBy_setCellM _ ⟨b + 1, 1, none⟩ _) (.inr (fun e => by have := (HO5.out.lt (b + 1) e).1; omega)))
      intro WF hh _ hbe hown
      refine bodyPost_ret (results_scanM rfl hh _ rfl) rfl ?_
      rw [HN.out, HT.out]
      simp only [HLl.out]
      exact ⟨_, _, _, a5, c5, rfl, bytesV_noneM (List.drop_eq_nil_of_le (by have := HL3.out; omega)) (fun _ => by first | rfl | omega), ownsRow_base hown (by omega), HBY.out.1, by have := HBY.out.2; rw [HLl.out] at this; exact this, hbe⟩
    · obtain ⟨x, rfl⟩ : ∃ x, a3 = some x := by
        cases h1 : a3 with
        | some x => exact ⟨x, rfl⟩
        | none => have := HB3.out.nil h1; simp only at this; omega
      go_wp2_with fail
      (with_reducible refine KC.mono ?_)
      rintro e W5 ⟨a5, c5, rfl, o5, b5⟩
      rw [HLl.out] at o5 ⊢
      have k5 := (b5.block b (by omega)).trans HS.out.1
      have j5 := (b5.block (b + 1) hW4).trans HS.out.2.1
      have B5 := Lib.hid (HS.out.2.2.trans (b5.mono HS.out.2.2.size))
      have HO5 := Lib.hid (ownsRow_base o5 (show b + 2 ≤ W4.heap.size by omega))
      obtain ⟨e0, e1, ez⟩ := cells2R k5
      obtain ⟨d0, d1, dz⟩ := cells2R j5
      have K5 := Lib.hid k5
      have J5 := Lib.hid j5
      clear KC o5 b5 k5 j5
      go_wp2
      refine (?_ : ∀ (WF : World), WF.heap[b + 1]? = some (.cells #[.slice _ _ _, .bool s1.bad] SC2 (0, 0)) → W5.grownBy WF none ∨ True → Below w.heap.size w WF → WF.ownsRow (b + 2) 5 1 (.slice a5 _ c5) _ (L.map bv) → bodyPost _ _ _ _ _ WF) _ (set2M _ _ ((heap_setCell_other W5 ⟨b, 0, none⟩ (b + 1) _ (by simp)).trans J5.out)) (.inr trivial) (((B5.out.setCell (p := ⟨b, 0, none⟩) hb1 _).setCell (p := ⟨b + 1, 0, none⟩) (by show w.heap.size ≤ b + 1; omega) _).setCell (p := ⟨b + 1, 1, none⟩) (by show w.heap.size ≤ b + 1; omega) _) (((HO5.out.kept (grownBy_setCellM W5 ⟨b, 0, none⟩ _) (.inr (fun e => by have := (HO5.out.lt b e).1; omega))).kept (grownBy_setCellM _ ⟨b + 1, 0, none⟩ _) (.inr (fun e => by have := (HO5.out.lt (b + 1) e).1; omega))).kept (grownBy_setCellM _ ⟨b + 1, 1, none⟩ _) (.inr (fun e => by have := (HO5.out.lt (b + 1) e).1; omega)))
      intro WF hh _ hbe hown
      refine bodyPost_ret (results_scanM rfl hh _ rfl) rfl ?_
      rw [HN.out, HT.out]
      simp only [HLl.out]
      exact ⟨_, _, _, a5, c5, rfl, bytesV_dropM HB3.out rfl (by omega), ownsRow_base hown (by omega), HBY.out.1, by have := HBY.out.2; rw [HLl.out] at this; exact this, hbe⟩
end Go.Proofs.YtopnjjehefaghaaDoor
