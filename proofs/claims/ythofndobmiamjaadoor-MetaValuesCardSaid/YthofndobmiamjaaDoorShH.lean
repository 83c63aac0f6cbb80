/-
  sha: the iterator of `blocks`, walked.
-/
import Derived.Test.YthofndobmiamjaaDoorShG
namespace Go.Proofs.YthofndobmiamjaaDoor
open Go.RowKit
attribute [local go_sem] Oper.semAt_some

theorem slice_box (g f : Nat) (hf : f < 64) (w : World) : (Instr.sliceAt BT64 (.pointer (some ⟨g, 0, none⟩)) (some (.int .i64 (f : Nat))) none none).run Tryd.prog w = .ok (.slice (some ⟨g, f, none⟩) (64 - f) (64 - f)) w := by
  have hn : ¬ (64 = f) := by omega
  have hb : (Instr.sliceBound (.int .i64 (f : Nat)) 64 .sliceB).run Tryd.prog w = .ok f w := by
    rw [Go.run_sliceBound w .i64 (f : Nat) 64 .sliceB (by omega) (by omega)]
    simp
  simp [Instr.sliceAt, Instr.sliceBounds, run_underlying Tryd.underlying54, Sem.run_bind, Instr.sureAddr, hb, hn, Addr.add]
  exact fun h => h.symm
theorem flat_drop (ls : List (List Nat)) (i : Nat) (li : List Nat) (h : ls[i]? = some li) (p nn : Nat) (hp : p + nn ≤ li.length) : (ls.flatten.drop ((ls.take i).flatten.length + p)).take nn = (li.drop p).take nn := by
  have hi := (List.getElem?_eq_some_iff.1 h).1
  have hg := (List.getElem?_eq_some_iff.1 h).2
  have e : ls.flatten = (ls.take i).flatten ++ (li ++ (ls.drop (i + 1)).flatten) := by
    conv => lhs; rw [← List.take_append_drop i ls, List.drop_eq_getElem_cons hi, hg]
    rw [List.flatten_append, List.flatten_cons]
  rw [e, ← List.drop_drop, List.drop_left, List.drop_append_of_le_length (by omega), List.take_append_of_le_length (by simp; omega)]
theorem wpListIn_load_rowS {F : Fence} {n : Nat} {P : Program} {ops : Array Oper} {rest : List Oper} {o : Oper} {a : Act} {w : World} {Q : Exit → Act → World → Prop} (hgd : o.guard = none) (ty : TypeId) (x : Operand) (ho : o.op = .load ty x)
    (g : Nat) (hx : a.eval x = .pointer (some ⟨g, 0, none⟩)) (t : TypeId) (cs : Array Value) (fr : Nat × Nat) (d : TypeDesc) (hg : w.heap[g]? = some (.cells cs t fr))
    (hu : P.underlying ty = some d) (hd : (match d with | .struct _ | .array _ _ => true | _ => false) = true) (hi : (P.info? ty).map (·.size) = some cs.size)
    (h : wpListIn F n P ops Q rest (a.put o.dst (.agg cs)) w) : wpListIn F n P ops Q (o :: rest) a w :=
  wpListIn_plain hgd fun K hK => by
    unfold Oper.wpIn
    refine ⟨by simp [Oper.about, ho], ?_⟩
    rw [Oper.semAt_plain F _ _ (by rw [ho]; intro c hc'; cases hc'), exec_load_row ty x ho g hx t cs fr d hg hu hd hi]
    exact hK _ _ h
def partA (x : Addr) (c n : Nat) : Option Addr := if c = n then some x else some (x.add n)
theorem slice_part (x : Addr) (m c n : Nat) (hn : n ≤ m) (w : World) : (Instr.slice 24 (.slice (some x) m c) (some (.int .i64 (n : Nat))) none none).run Tryd.prog w = .ok (.slice (partA x c n) (m - n) (c - n)) w := by
  have hb : (Instr.sliceBound (.int .i64 (n : Nat)) m .sliceB).run Tryd.prog w = .ok n w := by
    rw [Go.run_sliceBound w .i64 (n : Nat) m .sliceB (by omega) (by omega)]
    simp
  simp [Instr.slice, Instr.sliceBounds, run_underlying Tryd.underlying24, Sem.run_bind, hb, partA]
theorem BytesV.part {w : World} {x : Addr} {n c m : Nat} {l : List Nat} (h : BytesV w (some x, n, c) l) (hm : m ≤ n) : BytesV w (partA x c m, n - m, c - m) (l.drop m) := by
  have hc : n ≤ c := h.cap
  have hl : l.length = n := h.length
  unfold partA
  split
  · have e1 : n - m = 0 := by omega
    have e2 : c - m = 0 := by omega
    rw [e1, e2]
    exact bytesV_noneS (List.drop_eq_nil_of_le (by omega))
  · exact h.dropS hm
set_option maxRecDepth 100000 in
set_option maxHeartbeats 4000000 in
theorem blocksIt_any (l pb m c : Nat) (ad : Option Addr) (hs : List Hd3) (ls : List (List Nat)) (W : World) (T : TypeId) (J : Nat → World → Prop) (X : Nat → Prop) (hX : ∀ k, X k → k < W.heap.size)
    (hp : W.heap[pb]? = some (.cells #[.slice ad m c] T (0, 0))) (hpX : ¬ X pb) (hm : m ≤ 140737488355328)
    (hkeep : ∀ W2, KeepX X W W2 → RowV W2 ad m (hs.map SV) ∧ RowsV W2 hs ls)
    (hJ : ∀ k W1 W2, J k W1 → Below W.heap.size W1 W2 → J k W2)
    (hY : ∀ k W1, k < ls.flatten.length / 64 → J k W1 → KeepX X W W1 → YieldAt Fence.wide 0 Tryd.prog l #[.agg ((blockS ls.flatten k).map bv).toArray] W1 fun e W' => e = .returned (.bool true) ∧ J (k + 1) W' ∧ KeepX X W1 W')
    (h0 : J 0 W) :
    Calls Tryd.prog 42 #[.func (.yield l) #[] #[], .pointer (some ⟨pb, 0, none⟩)] W fun e W' => (∃ v, e = .returned v) ∧ J (ls.flatten.length / 64) W' ∧ KeepX X W W' := by
  have hK0 : KeepX X W W := KeepX.refl X W
  have hhs : hs.length = m := by have := (hkeep W hK0).1.1; simpa using this
  have hls : ls.length = m := by rw [← (hkeep W hK0).2.1, hhs]
  have HLS := Lib.hid hls
  have HHS := Lib.hid hhs
  have HX := Lib.hid hX
  have HKEEP := Lib.hid hkeep
  have HJ := Lib.hid hJ
  have HY := Lib.hid hY
  have hpc : W.cell? ⟨pb, 0, none⟩ = some (.slice ad m c) := cell_of_row _ _ 0 _ _ _ hp
  have HPC := Lib.hid hpc
  have H0 := Lib.hid h0
  have hplt : pb < W.heap.size := (Array.getElem?_eq_some_iff.1 hp).1
  clear hls hhs hX hkeep hJ hY hp h0 hK0
  go_enter Tryd.func42, Tryd.ntmps42
  go_upto_region 2 with fail
  refine (?_ : ∀ W1, (BX W1 W.heap.size ls.flatten 0 ∧ J 0 W1 ∧ KeepX X W W1) → Code.wp Tryd.prog _ _ _ W1) _ ⟨⟨List.replicate 64 0, heap_alloc_new _ _, rfl, by intro x hx; simp at hx; omega, rfl⟩, HJ.out 0 _ _ H0.out (below_alloc W (.cells ((List.replicate 64 0).map bv).toArray BT64)), .of_below (below_alloc _ _)⟩
  clear hpc H0
  intro W1 h1
  have hc1 : W1.cell? ⟨pb, 0, none⟩ = some (.slice ad m c) := h1.2.2.cell HPC.out hpX
  have HS := Lib.hid h1
  clear h1
  go_wp2
  clear hc1
  go_loopw [4, 10] (fun vf vi wr => ∃ i q : Nat, i ≤ m ∧ vi = .int .i64 (i : Nat) ∧ vf = .int .i64 ((q % 64 : Nat) : Int) ∧ q = (ls.take i).flatten.length ∧ Hid (BX wr W.heap.size ls.flatten q ∧ J (q / 64) wr ∧ KeepX X W wr)) (fun _ vi _ => (m - intOf vi).toNat)
  case atStart => exact ⟨0, 0, Nat.zero_le _, rfl, rfl, rfl, HS⟩
  case round =>
    clear HS
    obtain ⟨i, q, hi, rfl, rfl, hq, HS⟩ := hrel
    rename World => wr
    have HQ := Lib.hid hq
    clear hq
    by_cases hlt : i < m
    · obtain ⟨hrw, hrows⟩ := HKEEP.out wr HS.out.2.2
      obtain ⟨b, off, rfl, hc⟩ := hrw.2 (by omega)
      obtain ⟨x, hxe, hxr⟩ := hrows.at i (by rw [HHS.out]; exact hlt)
      obtain ⟨a0, l0, c0⟩ := x
      have hcell : wr.cell? ⟨b, off + i, none⟩ = some (.slice a0 l0 c0) := by rw [hc i hlt, List.getElem?_map, hxe]; rfl
      have HXE := Lib.hid hxe
      obtain ⟨li, hli⟩ : ∃ y, y = ls.getD i [] := ⟨_, rfl⟩
      have HLI : Hid (ls[i]? = some li) := Lib.hid (by
        rw [hli, List.getD_eq_getElem?_getD, List.getElem?_eq_getElem (by rw [HLS.out]; exact hlt)]; rfl)
      have hll : li.length = l0 := by rw [hli]; exact hxr.length
      have HLL := Lib.hid hll
      have HPT : Hid (∀ W2, KeepX X W W2 → BytesV W2 (a0, l0, c0) (li.drop 0)) := Lib.hid (fun W2 hk => by
        obtain ⟨x2, hx2, hr2⟩ := (HKEEP.out W2 hk).2.at i (by rw [HHS.out]; exact hlt)
        rw [HXE.out] at hx2
        injection hx2 with hx2
        subst hx2
        rw [hli]
        exact hr2)
      clear hrw hrows hc hxe hxr hli hll
      go_wp2
      clear hcell
      go_loopw [4, 6] (fun vf vp wq => ∃ (p : Nat) (ya : Option Addr) (yn yc : Nat), p ≤ l0 ∧ vp = .slice ya yn yc ∧ vf = .int .i64 (((q + p) % 64 : Nat) : Int) ∧ Hid (∀ W2, KeepX X W W2 → BytesV W2 (ya, yn, yc) (li.drop p)) ∧ Hid (BX wq W.heap.size ls.flatten (q + p) ∧ J ((q + p) / 64) wq ∧ KeepX X W wq)) (fun _ vp _ => match vp with | .slice _ n _ => n | _ => 0)
      case atStart => exact ⟨0, a0, l0, c0, Nat.zero_le _, rfl, rfl, HPT, HS⟩
      case round =>
        clear HS HPT
        rename World => wq
        obtain ⟨p, ya, yn, yc, hp, rfl, rfl, HPT, HS⟩ := hrel
        have hyv := HPT.out wq HS.out.2.2
        have hyn : yn = l0 - p := by have := hyv.length; simp only [List.length_drop, HLL.out] at this; exact this.symm
        have HYN := Lib.hid hyn
        have hyc : yn ≤ yc := hyv.cap
        have hys : yn ≤ 140737488355328 := hyv.small
        by_cases hlt2 : 0 < yn
        · obtain ⟨f, hf⟩ : ∃ f, f = (q + p) % 64 := ⟨_, rfl⟩
          have hf64 : f < 64 := by omega
          have HF := Lib.hid hf
          rw [← hf]
          obtain ⟨xb, xo, rfl, hxc⟩ := hyv.row.2 hlt2
          obtain ⟨nn, hnn⟩ : ∃ z, z = Nat.min yn (64 - f) := ⟨_, rfl⟩
          have HNN := Lib.hid hnn
          have hsl := fun w => slice_box W.heap.size f hf64 w
          clear hf hyn hyv hnn
          go_wp2_with (first | ((with_reducible show wpList _ _ _ (⟨some 20, _, _, _, _, _⟩ :: _) _ _); refine Hid.out ?_))
          refine Lib.hid ?_
          obtain ⟨bb, hbx, hbl, hbB, hbt⟩ := HS.out.1
          obtain ⟨P, hP⟩ : ∃ P, P = (li.drop p).take nn := ⟨_, rfl⟩
          have hnn2 : nn ≤ yn ∧ nn ≤ 64 - f ∧ 0 < nn ∧ (nn = yn ∨ nn = 64 - f) := by
            have := HNN.out
            change nn = min yn (64 - f) at this
            rw [Nat.min_def] at this
            split at this <;> omega
          have hyv := HPT.out wq HS.out.2.2
          have hdl : (li.drop p).length = yn := hyv.length
          have hPl : P.length = nn := by rw [hP, List.length_take, hdl]; omega
          have hPB : Bytes P := by rw [hP]; exact fun z hz => hyv.bytes z (List.mem_of_mem_take hz)
          refine wpList_plain rfl fun _ hK => wp_copy_row (.tmp 18) (.tmp 19) 24 24 rfl 5 Tryd.underlying24 (by kernel_rfl) W.heap.size f (64 - f) (64 - f) ⟨xb, xo, none⟩ yn yc rfl rfl (bb.map bv).toArray BT64 hbx (P.map bv) (by rw [List.length_map, hPl, HNN.out]) ?hsrc (by simp [hbl, hPl]; omega) (bv_one P) (hK _ _ ?_)
          case hsrc =>
            intro j v hj
            have hjn : j < nn := by have := (List.getElem?_eq_some_iff.1 hj).1; simpa [hPl] using this
            rw [show (⟨xb, xo, none⟩ : Addr).add j = ⟨xb, xo + j, none⟩ by unfold Addr.add; split <;> simp_all, hxc j (by omega), ← hj, hP, List.getElem?_map, List.getElem?_map, List.getElem?_take, if_pos hjn]
          clear hK
          rw [row_bytes bb P f nn hPl, List.length_map, hPl]
          have HPN : Hid (∀ W2, KeepX X W W2 → BytesV W2 (partA ⟨xb, xo, none⟩ yc nn, yn - nn, yc - nn) (li.drop (p + nn))) := Lib.hid (fun W2 hk => by
            have := (HPT.out W2 hk).part hnn2.1
            rw [List.drop_drop] at this
            exact this)
          have hfq : (ls.flatten.drop (q + p)).take nn = P := by
            rw [HQ.out, hP]
            exact flat_drop ls i li HLI.out p nn (by have := HLL.out; have := HYN.out; omega)
          have hJ2 : J ((q + p) / 64) (wq.setRow W.heap.size ((bb.take f ++ (P ++ bb.drop (f + nn))).map bv).toArray) := HJ.out _ _ _ HS.out.2.1 (below_setRow (Below.refl _ _) (Nat.le_refl _) _)
          have hK2 : KeepX X W (wq.setRow W.heap.size ((bb.take f ++ (P ++ bb.drop (f + nn))).map bv).toArray) := HS.out.2.2.setRow (Nat.le_refl _) _
          have hsl2 := fun w => slice_part ⟨xb, xo, none⟩ yn yc nn hnn2.1 w
          by_cases hfull : f + nn < 64
          · have hB2 := BX.fill hbl hbB hbt hbx hfq hPl hPB (by rw [← HF.out]; exact hfull)
            rw [← HF.out] at hB2
            have hq1 : (q + p + nn) / 64 = (q + p) / 64 := by have := HF.out; omega
            have hq2 : (q + p + nn) % 64 = f + nn := by have := HF.out; omega
            have HS2 := Lib.hid (And.intro hB2 (And.intro hJ2 hK2))
            refine (?_ : ∀ W3, Hid (BX W3 W.heap.size ls.flatten (q + p + nn) ∧ J ((q + p) / 64) W3 ∧ KeepX X W W3) → wpList Tryd.prog _ _ _ _ W3) _ HS2
            clear hB2 HS2 hJ2 hK2 hfq hbx hbt hbl hbB hPl hPB hP hyv hdl hxc HS HPT
            intro W3 HS3
            go_wp2
            go_roundw
            case rel =>
              refine ⟨p + nn, _, yn - nn, yc - nn, by have := HYN.out; omega, rfl, ?_, HPN, ?_⟩
              · rw [← Nat.add_assoc, hq2]; go_num
              · rw [← Nat.add_assoc, hq1]; exact HS3
            case measure => simp <;> omega
          · have hfull2 : f + nn = 64 := by omega
            have hB2 := full_eq hbt hbl hfq hPl (by rw [← HF.out]; exact hfull2)
            rw [← HF.out] at hB2
            rw [hB2]
            rw [hB2] at hJ2 hK2
            have hg2 : (wq.setRow W.heap.size ((blockS ls.flatten ((q + p) / 64)).map bv).toArray).heap[W.heap.size]? = some (.cells ((blockS ls.flatten ((q + p) / 64)).map bv).toArray BT64 (0, 0)) := setRow_heap _ _ _ _ _ _ hbx
            have hqT : (q + p) / 64 < ls.flatten.length / 64 := by
              have h1 : q + li.length ≤ ls.flatten.length := by
                have := flat_take_le ls (i + 1)
                rw [take_flat ls i li HLI.out, List.length_append, ← HQ.out] at this
                exact this
              have := HLL.out
              have := HYN.out
              have := HF.out
              omega
            have HS2 := Lib.hid (And.intro hg2 (And.intro hJ2 hK2))
            obtain ⟨k, hk⟩ : ∃ k, k = (q + p) / 64 := ⟨_, rfl⟩
            rw [← hk] at HS2 hqT ⊢
            have hbk : (blockS ls.flatten k).length = 64 := by
              unfold blockS
              rw [List.length_take, List.length_drop]
              omega
            have HK := Lib.hid hk
            refine (?_ : ∀ W3, Hid (W3.heap[W.heap.size]? = some (.cells ((blockS ls.flatten k).map bv).toArray BT64 (0, 0)) ∧ J k W3 ∧ KeepX X W W3) → wpList Tryd.prog _ _ _ _ W3) _ HS2
            clear hB2 HS2 hJ2 hK2 hfq hbx hbt hbl hbB hPl hPB hP hyv hdl hxc HS HPT hg2 hk
            intro W3 HS3
            obtain ⟨A, hA⟩ : ∃ A, A = ((blockS ls.flatten k).map bv).toArray := ⟨_, rfl⟩
            obtain ⟨fn, tmps, assign, body, hy, hR⟩ := HY.out k W3 hqT HS3.out.2.1 HS3.out.2.2
            have h3 := HS3.out.1
            rw [← hA] at h3 hy
            have hAs : A.size = 64 := by rw [hA]; simp [hbk]
            have hiA : (Tryd.prog.info? BT64).map (·.size) = some A.size := by rw [hAs]; exact infoB64
            clear hA
            go_upto_region 9 with fail
            refine (wpIn_wide (n := 0)).1 ?_
            gi_wp2_with (first | (refine wpListIn_load_rowS rfl BT64 _ rfl W.heap.size rfl BT64 A (0, 0) _ h3 Tryd.underlying54 rfl hiA ?_))
            refine ⟨rfl, hR.mono ?_⟩
            rintro e W4 ⟨rfl, hJ4, hK4⟩
            gi_wp2
            have hqk : q + p + nn = 64 * (k + 1) := by have := HK.out; have := HF.out; omega
            have HS4 : Hid (BX W4 W.heap.size ls.flatten (q + p + nn) ∧ J ((q + p + nn) / 64) W4 ∧ KeepX X W W4) := Lib.hid (by
              have hnX : ¬ X W.heap.size := fun h => Nat.lt_irrefl _ (HX.out _ h)
              have e1 : (q + p + nn) / 64 = k + 1 := by omega
              have e2 : (q + p + nn) % 64 = 0 := by omega
              have hBB : Bytes (blockS ls.flatten k) := fun z hz => by
                have hz2 := List.mem_of_mem_drop (List.mem_of_mem_take hz)
                simp only [List.mem_flatten] at hz2
                obtain ⟨li2, hm2, hz3⟩ := hz2
                obtain ⟨i2, hi2, he2⟩ := List.getElem_of_mem hm2
                have hrv := (HKEEP.out W (KeepX.refl X W)).2
                have hi3 : i2 < hs.length := by rw [hrv.1]; exact hi2
                exact (hrv.2 i2 hs[i2] li2 (List.getElem?_eq_getElem hi3) (by rw [List.getElem?_eq_getElem hi2, he2])).bytes z hz3
              refine ⟨⟨blockS ls.flatten k, ?_, hbk, hBB, ?_⟩, by rw [e1]; exact hJ4, HS3.out.2.2.trans hK4⟩
              · rw [hK4.block _ (Array.getElem?_eq_some_iff.1 HS3.out.1).1 hnX]; exact HS3.out.1
              · rw [e2]; rfl)
            clear hJ4 hK4 hR hy h3 hiA hAs HS3
            go_wp2
            go_roundw
            case rel =>
              refine ⟨p + nn, _, yn - nn, yc - nn, by have := HYN.out; omega, rfl, ?_, HPN, ?_⟩
              · rw [← Nat.add_assoc, hqk, Nat.mul_mod_right]; rfl
              · rw [← Nat.add_assoc]; exact HS4
            case measure => simp <;> omega
        · obtain rfl : p = l0 := by have := HYN.out; omega
          obtain rfl : yn = 0 := by omega
          have hq2 : q + p = (ls.take (i + 1)).flatten.length := by rw [take_flat ls i li HLI.out, List.length_append, ← HQ.out, HLL.out]
          have HQ2 := Lib.hid hq2
          clear hq2 hp hyc hys hlt2 HYN HPT hyn hyv
          go_wp2
          go_roundw
          case rel => exact ⟨i + 1, q + p, by omega, by go_num, rfl, HQ2.out, HS⟩
          case measure => simp [intOf]; omega
    · obtain rfl : i = m := by omega
      have hqT : q = ls.flatten.length := by
        have := HQ.out
        rw [List.take_of_length_le (by rw [HLS.out]; omega)] at this
        exact this
      have HE := Lib.hid (And.intro HS.out.2.1 HS.out.2.2)
      rw [hqT] at HE
      clear hqT
      go_wp2
      go_end0
      exact ⟨⟨_, rfl⟩, HE.out.1, HE.out.2⟩
end Go.Proofs.YthofndobmiamjaaDoor
