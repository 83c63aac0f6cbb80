/-
  msg's reader: a symbol, an item.
-/
import Derived.Laws.IdiomStrings
import Derived.Test.YtopnjjehefaghaaDoorMMgW
namespace Go.Proofs.YtopnjjehefaghaaDoor
open Go.RowKit

def strOfM (l : List Nat) : ByteArray := ⟨(l.map UInt8.ofNat).toArray⟩
theorem keyL_strOfM {l : List Nat} (h : Bytes l) : keyL (strOfM l) = l := by
  unfold keyL strOfM
  simp only [List.map_map]
  exact (List.map_congr_left (fun x hx => by show (UInt8.ofNat x).toNat = id x; have := h x hx; simp; omega)).trans (List.map_id l)
theorem strOf_keyLM (s : ByteArray) : strOfM (keyL s) = s := by
  unfold keyL strOfM
  have e : (s.data.toList.map UInt8.toNat).map UInt8.ofNat = s.data.toList := by
    rw [List.map_map]
    exact (List.map_congr_left (fun x _ => by show UInt8.ofNat x.toNat = id x; simp)).trans (List.map_id _)
  rw [e]
theorem strOf_eqM {l m : List Nat} (h : Bytes l) (k : Bytes m) : strOfM l = strOfM m ↔ l = m :=
  ⟨fun e => by rw [← keyL_strOfM h, ← keyL_strOfM k, e], fun e => by rw [e]⟩
theorem strOf_sizeM (l : List Nat) : (strOfM l).size = l.length := by simp [strOfM, ByteArray.size]
theorem conv_anyM (w : World) (a : Option Addr) (n c : Nat) (l : List Nat) (h : BytesV w (a, n, c) l) : (convert 24 9 (.slice a n c)).run Tryd.prog w = .ok (.string (strOfM l)) w := by
  have hl : l.length = n := h.length
  cases a with
  | none =>
    have h0 : c = 0 := h.nil rfl
    have h1 : n ≤ c := h.cap
    obtain rfl : n = 0 := by omega
    obtain rfl : l = [] := List.eq_nil_of_length_eq_zero hl
    rw [run_convert_bytes_string w 24 9 5 none 0 c Tryd.underlying24 Tryd.underlying5 Tryd.underlying9]
    simp [Conv.bytesToString]
    rfl
  | some x =>
    have := run_convert_bytes_back (P := Tryd.prog) w 24 9 5 x c (l.map UInt8.ofNat) Tryd.underlying24 Tryd.underlying5 Tryd.underlying9 (fun j hj => by
      have hj2 : j < l.length := by simpa using hj
      obtain ⟨b, o, e, hc⟩ := h.row.2 (by simp only; omega)
      injection e with e
      subst e
      have h2 := hc j (by simp only; omega)
      rw [List.getElem?_map, List.getElem?_eq_getElem hj2] at h2
      have h3 := h.bytes _ (List.getElem_mem hj2)
      rw [show (⟨b, o, none⟩ : Addr).add j = ⟨b, o + j, none⟩ by unfold Addr.add; split <;> simp_all]
      refine h2.trans ?_
      rw [List.getElem_map]
      show some (Value.int .u8 _) = _
      congr 2
      simp
      omega)
    rw [List.length_map, hl] at this
    exact this
set_option maxRecDepth 100000 in
set_option maxHeartbeats 4000000 in
theorem bytesEqual_anyM (a : Option Addr) (n c : Nat) (l : List Nat) (b : Option Addr) (m d : Nat) (k : List Nat) (w : World) (h1 : BytesV w (a, n, c) l) (h2 : BytesV w (b, m, d) k) :
    Calls Tryd.prog 37 #[.slice a n c, .slice b m d] w fun e w' => e = .returned (.bool (decide (l = k))) ∧ w' = w := by
  have k1 := conv_anyM w a n c l h1
  have k2 := conv_anyM w b m d k h2
  have he : ((strOfM l).toList == (strOfM k).toList) = decide (l = k) := by
    rw [ByteArray.toList_eq, ByteArray.toList_eq]
    by_cases e : l = k
    · subst e; rw [decide_eq_true rfl, beq_iff_eq]
    · rw [decide_eq_false e]
      exact beq_eq_false_iff_ne.2 (fun h => e ((strOf_eqM h1.bytes h2.bytes).1 (by
        have h2 : (strOfM l).data = (strOfM k).data := Array.toList_inj.1 h
        cases hl : strOfM l; cases hk : strOfM k; rw [hl, hk] at h2; simpa using h2)))
  have HE := Lib.hid he
  clear h1 h2 he
  go_enter Tryd.func37, Tryd.ntmps37
  go_wp2
  go_ret
  exact ⟨by show Ending.returned (.bool ((strOfM l).toList == (strOfM k).toList)) = _; rw [HE.out], rfl⟩
theorem setRow_sameM {w : World} {g : Nat} {old cs : Array Value} {T : TypeId} {fr : Nat × Nat} (h : w.heap[g]? = some (.cells old T fr)) : (w.setRow g cs).heap[g]? = some (.cells cs T fr) := by
  unfold World.setRow
  simp [Array.getElem?_modify, h]
theorem own_ne_low {w : World} {base n b c : Nat} {T : TypeId} {ad : Option Addr} {xs : List Value} (h : w.ownsRow base T 1 (.slice ad n c) n xs) (hb : b < base) : 0 < n → ∀ a, ad = some a → a.block ≠ b := by
  intro h0 a ha e
  obtain ⟨ad', cap', e', hcase, -⟩ := ownsRow_parts h
  injection e' with e1 e2 e3
  subst e1
  rcases hcase with ⟨h1, -⟩ | ⟨g, h1, h2, -⟩
  · rw [h1] at ha; cases ha
  · rw [h1] at ha
    injection ha with ha
    subst ha
    simp only at e
    omega
def Sd.sym (s : Sd) : Sd := ((s.num 2).num 3).text
def Sd.symV (s : Sd) : Sy := ((s.val 2 : Nat), ((s.num 2).val 3 : Nat), ((s.num 2).num 3).bytes)
def Sd.item (s : Sd) : Sd := s.text.meta
def Sd.itemV (s : Sd) : ItR := ⟨strOfM s.bytes, s.text.metaV⟩
abbrev ST3X : TypeId := 49
set_option maxRecDepth 100000 in
set_option maxHeartbeats 8000000 in
theorem symM_any (b : Nat) (s : Sd) (u w : World) (hu : Below u.heap.size u w) (hub : u.heap.size ≤ b) (hr : RdM u w b s) :
    Calls Tryd.prog 59 #[.pointer (some ⟨b, 0, none⟩)] w fun e w' => ∃ ta tc, e = .returned (.agg #[.int .i64 s.symV.1, .int .i64 s.symV.2.1, .slice ta s.symV.2.2.length tc]) ∧ w'.ownsRow w.heap.size 5 1 (.slice ta s.symV.2.2.length tc) s.symV.2.2.length (s.symV.2.2.map bv) ∧ Bytes s.symV.2.2 ∧ s.symV.2.2.length ≤ 255 ∧ RdM u w' b s.sym ∧ w.grownBy w' (some b) := by
  have hbw := hr.lt
  obtain ⟨q, hq⟩ : ∃ q, q = w.heap.size := ⟨_, rfl⟩
  obtain ⟨w1, hw1⟩ : ∃ x, x = w.alloc (.cells #[.int .i64 0, .int .i64 0, .slice none 0 0] ST3X) := ⟨_, rfl⟩
  have k1 : w1.heap[q]? = some (.cells #[.int .i64 0, .int .i64 0, .slice none 0 0] ST3X (0, 0)) := by rw [hw1, hq]; exact heap_alloc_new w _
  have b1 : Below w.heap.size w w1 := by rw [hw1]; exact below_alloc w _
  have hg1 := grownBy_of_below b1 (some b)
  have K1 := numM_is b 2 s u w1 (below_onM hu hub hg1) hub (hr.of_block (b1.block b hbw)) (by decide) 2 rfl
  have HW1 := Lib.hid hw1
  have HQ := Lib.hid hq
  have HU := Lib.hid hu
  have C1 := Lib.hid k1
  have G1 := Lib.hid hg1
  have hbq : b < q := by omega
  have hqw1 : w.heap.size ≤ q := Nat.le_of_eq hq.symm
  clear hq hw1 k1 b1 hg1 hr hu
  go_enter Tryd.func59, Tryd.ntmps59
  go_upto_region 1 with fail
  rw [← HQ.out, ← HW1.out]
  obtain ⟨v1, hv1⟩ : ∃ v, v = s.val 2 := ⟨_, rfl⟩
  rw [← hv1] at K1
  have V1 := Lib.hid hv1
  clear hv1
  go_wp2_with fail
  (with_reducible refine K1.mono ?_)
  rintro e w2 ⟨rfl, hr, hg⟩
  have C2 := Lib.hid ((hg.block q (Array.getElem?_eq_some_iff.1 C1.out).1 (fun e => by injection e with e; omega)).trans C1.out)
  have hg2 := G1.out.trans hg
  have G2 := Lib.hid hg2
  have K2 := numM_is b 3 (s.num 2) u w2 (below_onM HU.out hub hg2) hub hr (by decide) 3 rfl
  obtain ⟨v2, hv2⟩ : ∃ v, v = (s.num 2).val 3 := ⟨_, rfl⟩
  rw [← hv2] at K2
  have V2 := Lib.hid hv2
  clear K1 hg hg2 hr hv2
  go_wp2_with fail
  (with_reducible refine K2.mono ?_)
  rintro e w3 ⟨rfl, hr, hg⟩
  have C3 := Lib.hid ((hg.block q (Array.getElem?_eq_some_iff.1 C2.out).1 (fun e => by injection e with e; omega)).trans C2.out)
  have hg3 := G2.out.trans hg
  have G3 := Lib.hid hg3
  have K3 := textM_any b ((s.num 2).num 3) u w3 (below_onM HU.out hub hg3) hub hr
  obtain ⟨L, hL⟩ : ∃ L, L = ((s.num 2).num 3).bytes := ⟨_, rfl⟩
  rw [← hL] at K3
  have HL := Lib.hid hL
  obtain ⟨n, hn⟩ : ∃ n, n = L.length := ⟨_, rfl⟩
  rw [← hn] at K3
  have HN := Lib.hid hn
  clear K2 hg hg3 hr hL hn
  go_wp2_with fail
  (with_reducible refine K3.mono ?_)
  rintro e w4 ⟨ta, tc, rfl, ho, hby, h255, hr, hg⟩
  have hq3 := (Array.getElem?_eq_some_iff.1 C3.out).1
  have hc4 := (hg.block q hq3 (fun e => by injection e with e; omega)).trans C3.out
  have C4 := Lib.hid hc4
  have G4 := Lib.hid (G3.out.trans hg)
  have HO := Lib.hid ho
  have HR := Lib.hid (And.intro hby (And.intro h255 hr))
  have hfz : ∀ j, w4.frozen? ⟨q, j, none⟩ = false := fun _ => frozen_of_row _ _ _ _ _ hc4
  have d0 : w4.cell? ⟨q, 0, none⟩ = some (.int .i64 0) := cell_of_row _ _ 0 _ _ _ hc4
  have d1 : w4.cell? ⟨q, 1, none⟩ = some (.int .i64 0) := cell_of_row _ _ 1 _ _ _ hc4
  have d2 : w4.cell? ⟨q, 2, none⟩ = some (.slice none 0 0) := cell_of_row _ _ 2 _ _ _ hc4
  have hsz := G3.out.size
  have hbw4 := hr.lt
  clear K3 ho hby h255 hr hg hc4
  go_wp2
  clear hfz d0 d1 d2
  have hh := heap_setsFrom 0 [.int .i64 (v1 : Nat), .int .i64 (v2 : Nat), .slice ta n tc] C4.out (l' := [.int .i64 (v1 : Nat), .int .i64 (v2 : Nat), .slice ta n tc]) rfl
  have hgr := grown_setsFrom (g := q) [.int .i64 (v1 : Nat), .int .i64 (v2 : Nat), .slice ta n tc] 0 w4
  refine (?_ : ∀ WF : World, WF.heap[q]? = some (.cells #[.int .i64 (v1 : Nat), .int .i64 (v2 : Nat), .slice ta n tc] ST3X (0, 0)) → w4.grownBy WF (some q) → bodyPost _ _ _ _ _ WF) _ hh hgr
  clear hh hgr
  intro WF hh hgr
  have HE1 : Hid (s.symV = (((v1 : Nat) : Int), ((v2 : Nat) : Int), L)) := Lib.hid (by rw [V1.out, V2.out, HL.out]; rfl)
  have HGR := Lib.hid hgr
  clear hgr
  refine bodyPost_ret (results_cell_row rfl _ _ q ST3X #[.int .i64 (v1 : Nat), .int .i64 (v2 : Nat), .slice ta n tc] (0, 0) _ rfl hh Tryd.underlying49 rfl (by kernel_rfl)) (by rfl) ?_
  rw [HE1.out]
  simp only [← HN.out]
  have hgr := HGR.out
  have hR := HR.out
  exact ⟨ta, tc, rfl, ownsRow_base (HO.out.kept hgr (.inr (fun e => by have := (HO.out.lt q e).1; omega))) hsz, hR.1, hR.2.1, hR.2.2.of_block (hgr.block b hbw4 (fun e => by injection e with e; omega)), grown_newM G4.out hgr hqw1⟩
abbrev Z7 : Array Value := #[.string ⟨#[]⟩, .int .i64 0, .int .i64 0, .int .i64 0, .int .i64 0, .bool false, .slice none 0 0]
set_option maxRecDepth 100000 in
set_option maxHeartbeats 8000000 in
theorem itemM_any (b : Nat) (s : Sd) (u w : World) (hu : Below u.heap.size u w) (hub : u.heap.size ≤ b) (hr : RdM u w b s) :
    Calls Tryd.prog 61 #[.pointer (some ⟨b, 0, none⟩)] w fun e w' => ∃ ta tc, e = .returned (.agg #[.string s.itemV.key, .int .i64 s.itemV.m.N, .int .i64 s.itemV.m.c, .int .i64 s.itemV.m.s, .int .i64 s.itemV.m.t, .bool s.itemV.m.d, .slice ta s.itemV.m.l.length tc]) ∧ w'.ownsRow w.heap.size 5 1 (.slice ta s.itemV.m.l.length tc) s.itemV.m.l.length (s.itemV.m.l.map bv) ∧ Bytes s.itemV.m.l ∧ s.itemV.m.l.length ≤ 255 ∧ RdM u w' b s.item ∧ w.grownBy w' (some b) := by
  have hbw := hr.lt
  obtain ⟨q, hq⟩ : ∃ q, q = w.heap.size := ⟨_, rfl⟩
  obtain ⟨w1, hw1⟩ : ∃ x, x = w.alloc (.cells Z7 IT7) := ⟨_, rfl⟩
  have k1 : w1.heap[q]? = some (.cells Z7 IT7 (0, 0)) := by rw [hw1, hq]; exact heap_alloc_new w _
  have b1 : Below w.heap.size w w1 := by rw [hw1]; exact below_alloc w _
  have hg1 := grownBy_of_below b1 (some b)
  have hb1d : Below w.heap.size w w1.drew := ⟨b1.os, b1.tape, b1.output, b1.size, b1.block⟩
  have hr1 : RdM u w1.drew b s := hr.of_block (b1.block b hbw)
  have hg1d : w.grownBy w1.drew (some b) := grownBy_of_below hb1d _
  have K1 := textM_any b s u w1.drew (below_onM hu hub hg1d) hub hr1
  have HW1 := Lib.hid hw1
  have HQ := Lib.hid hq
  have HU := Lib.hid hu
  have C1 := Lib.hid (show w1.drew.heap[q]? = _ from k1)
  have G1 := Lib.hid hg1d
  have hbq : b < q := by omega
  have hqw1 : w.heap.size ≤ q := Nat.le_of_eq hq.symm
  obtain ⟨KB, hKB⟩ : ∃ L, L = s.bytes := ⟨_, rfl⟩
  rw [← hKB] at K1
  obtain ⟨kn, hkn⟩ : ∃ n, n = KB.length := ⟨_, rfl⟩
  rw [← hkn] at K1
  have HKB := Lib.hid hKB
  have HKN := Lib.hid hkn
  have HK1 := Lib.hid K1
  clear hq hw1 k1 b1 hg1 hr hu hKB hkn K1 hb1d hr1 hg1d
  go_enter Tryd.func61, Tryd.ntmps61
  go_upto_region 1 with fail
  rw [← HQ.out, ← HW1.out]
  refine GoX.start 6 (fun w' => True) (by kernel_rfl) ?_
  refine GoX.take 0 rfl (by kernel_rfl) (by kernel_rfl) (by rfl) (fun _ _ _ h => h) (v := ?tv0g1) trivial ?ty0g1 ?tr0g1
  case ty0g1 => (intro w hSw; (try dsimp only at hSw); go_simp; first | done | with_reducible rfl)
  simp only [Act.put, List.setIfInBounds_toArray, List.set_cons_zero, List.set_cons_succ]
  refine GoX.take 3 rfl (by kernel_rfl) (by kernel_rfl) (by rfl) (fun _ _ _ h => h) (v := ?tv3g2) trivial ?ty3g2 ?tr3g2
  case ty3g2 => (intro w hSw; (try dsimp only at hSw); go_simp; first | done | with_reducible rfl)
  simp only [Act.put, List.setIfInBounds_toArray, List.set_cons_zero, List.set_cons_succ]
  refine GoX.one 1 rfl (by kernel_rfl) (by decide) (fun K hK => ?_)
  rw [if_pos (by rfl)]
  go_simp
  (with_reducible refine HK1.out.mono ?_)
  rintro e w2 ⟨ta, tc, rfl, ho, hby, h255, hr, hg⟩
  have hkb : BytesV w2 (ta, kn, tc) KB := bytesV_own (x := (ta, kn, tc)) (by rw [HKN.out] at ho ⊢; exact ho) HKN.out hby (by rw [← HKN.out]; omega)
  have P2 := conv_anyM w2 ta kn tc KB hkb
  have C2 := Lib.hid ((hg.block q (Array.getElem?_eq_some_iff.1 C1.out).1 (fun e => by injection e with e; omega)).trans C1.out)
  have hg2 := G1.out.trans hg
  have G2 := Lib.hid hg2
  have HKV := Lib.hid hkb
  have hap : Hid (0 < kn → ∀ a, ta = some a → a.block ≠ b) := Lib.hid (own_ne_low ho (by have := G1.out.size; omega))
  have K2 := metaM_any b s.text u w2 (below_onM HU.out hub hg2) hub hr
  obtain ⟨m, hm⟩ : ∃ m, m = s.text.metaV := ⟨_, rfl⟩
  rw [← hm] at K2
  have HM := Lib.hid hm
  obtain ⟨mn, hmn⟩ : ∃ n, n = m.l.length := ⟨_, rfl⟩
  rw [← hmn] at K2
  have HMN := Lib.hid hmn
  have HK2 := Lib.hid K2
  clear HK1 ho hby h255 hr hg hkb hg2 hm hmn K2
  refine hK.out _ _ trivial (fun _ => ?_)
  clear hK K
  refine GoX.more (S' := fun w' => (convert 24 9 (.slice ta kn tc)).run Tryd.prog w' = .ok (.string (strOfM KB)) w') (fun _ h => trivial) ?_
  refine GoX.take 2 rfl (by kernel_rfl) (by kernel_rfl) (by rfl) (fun _ _ _ h => h) (v := ?tv2g3) P2 ?ty2g3 ?tr2g3
  case ty2g3 => (intro w hSw; (try dsimp only at hSw); go_simp; first | done | with_reducible rfl)
  simp only [Act.put, List.setIfInBounds_toArray, List.set_cons_zero, List.set_cons_succ]
  refine GoX.one 4 rfl (by kernel_rfl) (by decide) (fun K hK => ?_)
  rw [if_pos (by rfl)]
  go_simp
  simp only [MC] at HK2
  (with_reducible refine HK2.out.mono ?_)
  rintro e w3 ⟨sa, sc, rfl, ho, hby, h255, hr, hg⟩
  have P3 := conv_anyM w3 ta kn tc KB (HKV.out.keptR (fun h0 a ha => hg.block a.block (HKV.out.row.lt h0 ha) (fun e => by injection e with e; exact hap.out h0 a ha e)))
  have hc3 := (hg.block q (Array.getElem?_eq_some_iff.1 C2.out).1 (fun e => by injection e with e; omega)).trans C2.out
  have C3 := Lib.hid hc3
  have G3 := Lib.hid (G2.out.trans hg)
  have HO := Lib.hid ho
  have HR := Lib.hid (And.intro hby (And.intro h255 hr))
  have hsz := G2.out.size
  have hq2 := (Array.getElem?_eq_some_iff.1 C2.out).1
  have hbw4 := hr.lt
  clear HK2 ho hby h255 hr hg hc3
  refine hK.out _ _ P3 (fun _ => ?_)
  clear hK K
  refine GoX.take 5 rfl (by kernel_rfl) (by kernel_rfl) (by rfl) (fun _ _ _ h => h) (v := ?tv5g4) P3 ?ty5g4 ?tr5g4
  case ty5g4 => (intro w hSw; (try dsimp only at hSw); go_simp; first | done | with_reducible rfl)
  simp only [Act.put, List.setIfInBounds_toArray, List.set_cons_zero, List.set_cons_succ]
  refine GoX.last 6 rfl (by kernel_rfl) (by kernel_rfl) (by decide) ?_
  rw [if_pos (by rfl)]
  refine wp_store_row IT7 (.tmp 2) (.tmp 8) rfl q #[.string (strOfM KB), .int .i64 m.N, .int .i64 m.c, .int .i64 m.s, .int .i64 m.t, .bool m.d, .slice sa mn sc] (by rfl) (by rfl) IT7 _ C3.out (by kernel_rfl) rfl (by simp [Value.oneCell']) ?_
  clear P3
  have hh : (w3.setRow q #[.string (strOfM KB), .int .i64 m.N, .int .i64 m.c, .int .i64 m.s, .int .i64 m.t, .bool m.d, .slice sa mn sc]).heap[q]? = some (.cells #[.string (strOfM KB), .int .i64 m.N, .int .i64 m.c, .int .i64 m.s, .int .i64 m.t, .bool m.d, .slice sa mn sc] IT7 (0, 0)) := setRow_sameM C3.out
  have hgr : w3.grownBy (w3.setRow q #[.string (strOfM KB), .int .i64 m.N, .int .i64 m.c, .int .i64 m.s, .int .i64 m.t, .bool m.d, .slice sa mn sc]) (some q) := ⟨rfl, rfl, rfl, by simp, fun k hk hn => _root_.Go.setRow_other w3 q k _ (fun e => hn (by rw [e]))⟩
  go_wp2_with fail
  refine (?_ : ∀ WF : World, WF.heap[q]? = some (.cells #[.string (strOfM KB), .int .i64 m.N, .int .i64 m.c, .int .i64 m.s, .int .i64 m.t, .bool m.d, .slice sa mn sc] IT7 (0, 0)) → w3.grownBy WF (some q) → bodyPost _ _ _ _ _ WF) _ hh hgr
  clear hh hgr
  intro WF hh hgr
  have HE1 : Hid (s.itemV = ⟨strOfM KB, m⟩) := Lib.hid (by rw [HKB.out, HM.out]; rfl)
  have HGR := Lib.hid hgr
  clear hgr
  refine bodyPost_ret (results_cell_row rfl _ _ q IT7 #[.string (strOfM KB), .int .i64 m.N, .int .i64 m.c, .int .i64 m.s, .int .i64 m.t, .bool m.d, .slice sa mn sc] (0, 0) _ rfl hh Tryd.underlying53 rfl (by kernel_rfl)) (by rfl) ?_
  rw [HE1.out]
  simp only [← HMN.out]
  have hgr := HGR.out
  have hR := HR.out
  exact ⟨sa, sc, rfl, ownsRow_base (HO.out.kept hgr (.inr (fun e => by have := (HO.out.lt q e).1; omega))) hsz, hR.1, hR.2.1, hR.2.2.of_block (hgr.block b hbw4 (fun e => by injection e with e; omega)), grown_newM G3.out hgr hqw1⟩
end Go.Proofs.YtopnjjehefaghaaDoor
