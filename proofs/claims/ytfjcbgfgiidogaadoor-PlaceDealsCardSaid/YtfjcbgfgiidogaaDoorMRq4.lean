/-
  Rq4: RqJ RqK
-/
import Derived.Test.YtfjcbgfgiidogaaDoorMRq3
namespace Go.Proofs.YtfjcbgfgiidogaaDoor
open Go.RowKit

theorem step_append_none {P : Program} {w : World} {ops : Array Oper} {o : Oper} {a : Act} {K : Act → World → Prop} {Q : Exit → Act → World → Prop} {E : Prop} (hgd : o.guard = none) (s x : Operand) (t : TypeId)
    (ho : o.op = .call { callee := .builtin .append, args := #[s, x], argTypes := #[t, t] })
    (base : Nat) (e : TypeId) (i : TypeInfo) (size : Nat) (ht : P.underlying t = some (.slice e)) (hi : P.info? e = some i)
    (v : Value) (n : Nat) (xs : List Value) (hs : a.eval s = v) (hown : w.ownsRow base e size v n xs) (hx : a.eval x = .slice none 0 0)
    (h : K (a.put o.dst v) w) : if Region.wanted o (yielded ops a.tmps) = true then Oper.wp P o a w K Q else E := by
  have hw : Region.wanted o (yielded ops a.tmps) = true := by simp [Region.wanted, hgd]
  rw [if_pos hw]
  have hrun := run_append_owned_none (P := P) (w := w) base t o.type e i size ht hi v n xs hown
  unfold Oper.wp
  simp [execOp, ho, resolve, invoke, builtin, hs, hx, hrun, Result.andThen]
  exact h
theorem own_keptB {w w' : World} {B : Nat} {T : TypeId} {v : Value} {n : Nat} {xs : List Value} (h : w.ownsRow B T 1 v n xs) (hb : Below w.heap.size w w') : w'.ownsRow B T 1 v n xs :=
  h.kept (grownBy_of_below hb none) (by cases v.ownBlock <;> simp)
theorem hd_appendN {wm w' : World} {B n m N : Nat} {a : Option Addr} {c : Nat} {hs ks : List HdT} {ls xs : List (List Nat)} {v' : Value} (eN : n + m = N) (ho : wm.ownsRow B 22 1 (.slice a n c) n (hs.map SV)) (hl : hs.length = ls.length) (hr : ∀ (i : Nat) x l, hs[i]? = some x → ls[i]? = some l → RowAt wm B x l)
    (kl : ks.length = xs.length) (km : ks.length = m) (kr : ∀ (i : Nat) x l, ks[i]? = some x → xs[i]? = some l → RowAt wm B x l)
    (hE : w'.ownsRow B 22 1 v' N (hs.map SV ++ ks.map SV)) (g : wm.grownBy w' (Value.slice a n c).ownBlock) : ∃ a' c', v' = .slice a' N c' ∧ HdV w' B a' N c' (ls ++ xs) := by
  subst eN
  exact hd_append ho hl hr kl km kr hE g
theorem rep_succ {α : Type} (j : Nat) (x : α) : List.replicate j x ++ [x] = List.replicate (j + 1) x := (List.replicate_succ' (n := j) (a := x)).symm

set_option maxRecDepth 100000 in
set_option maxHeartbeats 8000000 in
theorem solve_mat (B p k t : Nat) (a : Option Addr) (d c : Nat) (ls : List (List Nat)) (xa : Option Addr) (xn xc : Nat) (last : List (List Nat)) (w : World) (hM : MatV w B p k a (d + xn) c ls) (hx : RD w xa xn last) (hnil : (xa = none ∧ xn = 0 ∧ xc = 0) ∨ 0 < xn) (ht : t ≤ 64) (hn : d + xn ≤ 400) (hw : ∀ l ∈ last, l.length ≤ 100000) :
    Calls Tryd.prog 66 #[.pointer (some ⟨p, 0, none⟩), .int .i64 (t : Int), .slice xa xn xc] w (GivesR w (solveR ((cL k : Nat) : Int) ls (List.replicate d (zs t) ++ last))) := by
  obtain ⟨i0, hi, hz0, hz1, hz2⟩ := info_parts Tryd.info22
  obtain ⟨j0, hj, hy0, hy1, hy2⟩ := info_parts Tryd.info5
  have q4 := hM.c.cells.2.2.2.2.1
  have q10 := hM.rows
  have HM := Lib.hid hM
  have HX := Lib.hid hx
  have HN := Lib.hid hnil
  have HW := Lib.hid hw
  have HLEN := Lib.hid (show (List.replicate d (zs t) ++ last).length = d + xn by rw [List.length_append, List.length_replicate, hx.1])
  clear hM hx hnil hw
  go_enter Tryd.func66, Tryd.ntmps66
  go_wp2_with (first | (at_make; refine Hid.out ?_))
  refine Lib.hid ?_
  refine wpList_make_own _ rfl _ _ 35 rfl w.heap.size 22 i0 (.slice none 0 0) 1 Tryd.underlying35 hi hz0 hz1 _ _ _ (d + xn) rfl rfl rfl (by rw [hz2]; omega) (by unfold maxLen; omega) (Nat.le_refl _) ?_
  intro w2 hown2 hgrow2
  have hb2 := below_grown (Below.refl _ _) hgrow2 (fun k e => by cases e)
  have HV : Hid (HdV w2 w.heap.size (some ⟨w.heap.size, 0, none⟩) 0 (d + xn) (List.replicate 0 (zs t))) := Lib.hid ⟨rfl, [], hown2, rfl, fun i x l h => by simp at h⟩
  have HB2 := Lib.hid hb2
  have q10' := cell_below q10 hb2
  clear hown2 hgrow2 hb2
  go_wp2_with fail
  go_loopw [8, 23] (fun vv vj wr => ∃ (j : Nat) (av : Option Addr) (cv : Nat), j ≤ d ∧ vj = .int .i64 (j : Nat) ∧ vv = .slice av j cv ∧ Hid (HdV wr w.heap.size av j cv (List.replicate j (zs t))) ∧ Hid (Below w.heap.size w wr)) (fun _ vj _ => ((d : Int) - intOf vj).toNat)
  case atStart => exact ⟨0, _, _, Nat.zero_le _, rfl, rfl, HV, HB2⟩
  case round =>
    clear HV HB2 q10'
    obtain ⟨j, av, cv, hjn, rfl, rfl, hV, hB⟩ := hrel
    have hsz := hB.out.size
    by_cases hlt : j < d
    · go_wp2_with (first | (at_make; refine Hid.out ?_))
      refine Lib.hid ?_
      refine wpList_make_full _ rfl _ _ 22 rfl w.heap.size 5 j0 (.int .u8 0) 1 Tryd.underlying22 hj hy0 hy1 _ _ _ _ t rfl rfl rfl rfl (by rw [hy2]; omega) (by unfold maxLen; omega) hsz ?_
      intro w3 hown3 hgrow3
      rw [show (Value.int .u8 0).cells = #[.int .u8 0] from rfl, Nat.mul_one, toList_madeCells_one, ← bv_zs] at hown3
      have hB3 := below_grown hB.out hgrow3 (fun k e => by cases e)
      have hV3 := hV.out.below (by exact ⟨hgrow3.os, hgrow3.tape, hgrow3.output, hgrow3.size, fun i hi => hgrow3.block i hi (by simp)⟩)
      have hat : RowAt (w3.alloc (.cells #[.slice (some ⟨wr.heap.size, 0, none⟩) t t] 22)) w.heap.size (some ⟨wr.heap.size, 0, none⟩, t, t) (zs t) := own_at (b := w.heap.size) (by rw [zs_length]; exact hown3.alloc _) (zs_length t).symm (zs_bytes t) (by rw [zs_length]; omega)
      have hV4 := hV3.below (below_alloc w3 (.cells #[.slice (some ⟨wr.heap.size, 0, none⟩) t t] 22))
      have hB4 := hB3.alloc hB3.size (.cells #[.slice (some ⟨wr.heap.size, 0, none⟩) t t] 22)
      obtain ⟨hl4, hs, ho, hsl, hrs⟩ := hV4
      have HS1 := Lib.hid hsl
      have HS2 := Lib.hid hrs
      have HAT := Lib.hid hat
      clear hown3 hgrow3 hV3 hB3 hV hB hat hsl hrs hl4
      go_wp2_with (first | (at_builtin; refine Hid.out ?_))
      refine Lib.hid ?_
      refine wpList_append_row rfl _ _ 35 rfl w.heap.size 22 i0 (.slice none 0 0) 24 Tryd.underlying35 hi hz0 hz1 hz2 rfl _ _ _ rfl ho (some ⟨w3.heap.size, 0, none⟩) 1 1 [SV (some ⟨wr.heap.size, 0, none⟩, t, t)] rfl (rowV_lit w3 _ _ _ 1 _ rfl rfl rfl) (fun h => by cases h) (SV_one [(some ⟨wr.heap.size, 0, none⟩, t, t)]) (by simp [maxLen]; omega) (by omega) hB4.size ?_
      intro v' w9 hE9 g9 _
      have hB9 := below_grown hB4 g9 (ownBlock_ge ho)
      obtain ⟨a9, c9, rfl, hV9⟩ := hd_append (ks := [(some ⟨wr.heap.size, 0, none⟩, t, t)]) (xs := [zs t]) (m := 1) ho HS1.out HS2.out rfl rfl (one_at HAT.out) hE9 g9
      rw [rep_succ] at hV9
      have HV9 := Lib.hid hV9
      have HB9 := Lib.hid hB9
      clear ho hB4 hE9 g9 hV9 hB9 hsz
      go_wp2
      go_roundw
      case rel => exact ⟨j + 1, a9, c9, by omega, by go_num, rfl, HV9, HB9⟩
      case measure => simp [intOf] <;> omega
    · obtain rfl : j = d := by omega
      have hM' := HM.out.below hB.out
      have k4 := cell_below q4 hB.out
      have k10 := cell_below q10 hB.out
      obtain ⟨V, hVV⟩ : ∃ V, V = List.replicate j (zs t) ++ last := ⟨_, rfl⟩
      have hVl : V.length = j + xn := by rw [hVV]; exact HLEN.out
      have hwd : ∀ l ∈ V, l.length ≤ 100000 := fun l hl => by
        rw [hVV] at hl
        rcases List.mem_append.1 hl with h | h
        · rw [List.eq_of_mem_replicate h, zs_length]; omega
        · exact HW.out l h
      have KS : ∀ (W : World) (av : Option Addr) (cv : Nat), Below w.heap.size w W → HdV W w.heap.size av (j + xn) cv V → Calls Tryd.prog 86 #[.int .i64 ((cL k : Nat) : Int), .slice a (j + xn) c, .slice av (j + xn) cv] W (GivesR w (solveR ((cL k : Nat) : Int) ls V)) := fun W av cv hb hv =>
        (solve_rd ((cL k : Nat) : Int) a (j + xn) c ls av (j + xn) cv V W (HM.out.below hb).2.1.rd hv.rd (by omega) (by omega) (fun _ => width_le hwd)).mono fun e w' ⟨a1, c1, h1, h2, h3⟩ => ⟨a1, c1, h1, h2, hb.trans (h3.mono hb.size)⟩
      have HKS := Lib.hid KS
      have K0 : wr.cell? ⟨p, 4, none⟩ = some (.int .i64 ((cL k : Nat) : Int)) ∧ wr.cell? ⟨p, 10, none⟩ = some (.slice a (j + xn) c) := ⟨k4, k10⟩
      have HVV := Lib.hid hVV
      obtain ⟨hl4, hs, ho, hsl, hrs⟩ := hV.out
      have HS1 := Lib.hid hsl
      have HS2 := Lib.hid hrs
      have hBs := hB.out.size
      clear KS hVV hVl hwd hM' hl4 hsl hrs hV
      by_cases h0 : 0 < xn
      · obtain ⟨ks, kl, kr, kat⟩ := rd_rows HX.out (Nat.le_refl _) hB.out
        have hkn : ks.length = xn := by have := kr.1; simpa using this
        obtain ⟨xb, xo, exa, -⟩ := kr.2 h0
        subst exa
        have HKL := Lib.hid kl
        have HKN := Lib.hid hkn
        have HKAT := Lib.hid kat
        have HKR := Lib.hid kr
        clear kl hkn kat kr
        have hod : wr.drew.ownsRow w.heap.size 22 1 (.slice av j cv) j (hs.map SV) := own_keptB ho ⟨rfl, rfl, rfl, Nat.le_refl _, fun _ _ => rfl⟩
        have hnews : ∀ j u, (ks.map SV)[j]? = some u → wr.drew.cell? ((⟨xb, xo, none⟩ : Addr).add j) = some u := news_of_row (HKR.out.below ⟨rfl, rfl, rfl, Nat.le_refl _, fun _ _ => rfl⟩)
        have hnl : (ks.map SV).length = xn * 1 := by rw [List.length_map, HKN.out, Nat.mul_one]
        have hmx : j + xn ≤ maxLen := by unfold maxLen; omega
        have hmb : (j + xn) * 24 ≤ 140737488355328 := by omega
        have HOD := Lib.hid hod
        have HNW := Lib.hid hnews
        have HNL := Lib.hid hnl
        have HMX := Lib.hid hmx
        have HMB := Lib.hid hmb
        clear hod hnews hnl hmx hmb
        have KA : ∀ (ops : Array Oper) (o : Oper) (act : Act) (K : Act → World → Prop) (Q : Exit → Act → World → Prop) (E : Prop), o.guard = none → o.op = .call { callee := .builtin .append, args := #[.tmp 40, .tmp 41], argTypes := #[35, 35] } → act.eval (.tmp 40) = .slice av j cv → act.eval (.tmp 41) = .slice (some ⟨xb, xo, none⟩) xn xc →
            (∀ g8 cap8 w8, HdV w8 w.heap.size (some ⟨g8, 0, none⟩) (j + xn) cap8 V → Below w.heap.size w w8 → K (act.put o.dst (.slice (some ⟨g8, 0, none⟩) (j + xn) cap8)) w8) → if Region.wanted o (yielded ops act.tmps) = true then Oper.wp Tryd.prog o act wr.drew K Q else E := fun ops o act K Q E hg ho' h40 h41 hK => by
          refine step_append_lies _ hg (.tmp 40) (.tmp 41) 35 ho' w.heap.size 22 i0 (.slice none 0 0) 1 24 Tryd.underlying35 hi hz0 hz1 hz2 rfl (by decide) (.slice av j cv) j (hs.map SV) h40 HOD.out ⟨xb, xo, none⟩ xn xc (ks.map SV) h41 HNL.out HNW.out (SV_one ks) h0 HMX.out HMB.out hBs _ rfl ?_
          intro g8 cap8 w8 hE8 g8' _ _
          obtain ⟨a8, c8, e8, hV8⟩ := hd_append (wm := wr.drew) HOD.out HS1.out (fun i x l u v => (HS2.out i x l u v).below ⟨rfl, rfl, rfl, Nat.le_refl _, fun _ _ => rfl⟩) HKL.out HKN.out (fun i x l u v => (HKAT.out i x l u v).below ⟨rfl, rfl, rfl, Nat.le_refl _, fun _ _ => rfl⟩) hE8 g8'
          cases e8
          rw [← HVV.out] at hV8
          exact hK _ _ _ hV8 (below_grown (w := wr.drew) (hB.out.trans ⟨rfl, rfl, rfl, Nat.le_refl _, fun _ _ => rfl⟩) g8' (fun k hk => (ho.lt k hk).1))
        have HKA := Lib.hid KA
        clear KA
        go_wp2_with fail
        go_region_held3 (fun w' => w'.cell? ⟨p, 4, none⟩ = some (.int .i64 ((cL k : Nat) : Int)) ∧ w'.cell? ⟨p, 10, none⟩ = some (.slice a (j + xn) c)) (first | exact K0 | exact K2 | exact K3 | go_keep)
          (first
            | (go_at_call 86; (with_reducible refine (HKS.out _ _ _ ?h1 ?h2).mono ?_); (case h1 => exact hb8.trans ⟨rfl, rfl, rfl, Nat.le_refl _, fun _ _ => rfl⟩); (case h2 => exact hV8.below ⟨rfl, rfl, rfl, Nat.le_refl _, fun _ _ => rfl⟩); rintro e w9 ⟨a9, c9, rfl, h9, b9⟩; have K3 : w9.cell? ⟨p, 4, none⟩ = some (.int .i64 ((cL k : Nat) : Int)) ∧ w9.cell? ⟨p, 10, none⟩ = some (.slice a (j + xn) c) := ⟨cell_below q4 b9, cell_below q10 b9⟩)
            | (refine HKA.out _ _ _ _ _ _ rfl rfl (by rfl) (by rfl) ?_; intro g8 cap8 w8 hV8 hb8; have K2 : w8.cell? ⟨p, 4, none⟩ = some (.int .i64 ((cL k : Nat) : Int)) ∧ w8.cell? ⟨p, 10, none⟩ = some (.slice a (j + xn) c) := ⟨cell_below q4 hb8, cell_below q10 hb8⟩))
        clear K2 K3
        go_wp2
        go_ret2
        rw [← HVV.out]
        exact ⟨a9, c9, rfl, h9, b9⟩
      · obtain ⟨rfl, rfl, rfl⟩ : xa = none ∧ xn = 0 ∧ xc = 0 := by
          rcases HN.out with h | h
          · exact h
          · exact absurd h h0
        have hks := HKS.out
        simp only [Nat.add_zero] at hks K0 q10
        have HKS2 := Lib.hid hks
        clear hks HKS
        have hl0 : last = [] := List.eq_nil_of_length_eq_zero HX.out.1
        have hVj : V = List.replicate j (zs t) := by rw [HVV.out, hl0, List.append_nil]
        have KA : ∀ (ops : Array Oper) (o : Oper) (act : Act) (K : Act → World → Prop) (Q : Exit → Act → World → Prop) (E : Prop), o.guard = none → o.op = .call { callee := .builtin .append, args := #[.tmp 40, .tmp 41], argTypes := #[35, 35] } → act.eval (.tmp 40) = .slice av j cv → act.eval (.tmp 41) = .slice none 0 0 →
            (∀ w8, HdV w8 w.heap.size av j cv V → Below w.heap.size w w8 → K (act.put o.dst (.slice av j cv)) w8) → if Region.wanted o (yielded ops act.tmps) = true then Oper.wp Tryd.prog o act wr.drew K Q else E := fun ops o act K Q E hg ho' h40 h41 hK => by
          refine step_append_none hg (.tmp 40) (.tmp 41) 35 ho' w.heap.size 22 i0 1 Tryd.underlying35 hi (.slice av j cv) j (hs.map SV) h40 (own_keptB ho ⟨rfl, rfl, rfl, Nat.le_refl _, fun _ _ => rfl⟩) h41 ?_
          refine hK _ ?_ (hB.out.trans ⟨rfl, rfl, rfl, Nat.le_refl _, fun _ _ => rfl⟩)
          rw [hVj]
          refine ⟨by simp, hs, own_keptB ho ⟨rfl, rfl, rfl, Nat.le_refl _, fun _ _ => rfl⟩, HS1.out, fun i x l u v => (HS2.out i x l u v).below ⟨rfl, rfl, rfl, Nat.le_refl _, fun _ _ => rfl⟩⟩
        have HKA := Lib.hid KA
        clear KA hVj hl0
        go_wp2_with fail
        go_region_held3 (fun w' => w'.cell? ⟨p, 4, none⟩ = some (.int .i64 ((cL k : Nat) : Int)) ∧ w'.cell? ⟨p, 10, none⟩ = some (.slice a j c)) (first | exact K0 | exact K2 | exact K3 | go_keep)
          (first
            | (go_at_call 86; (with_reducible refine (HKS2.out _ _ _ ?h1 ?h2).mono ?_); (case h1 => exact hb8.trans ⟨rfl, rfl, rfl, Nat.le_refl _, fun _ _ => rfl⟩); (case h2 => exact hV8.below ⟨rfl, rfl, rfl, Nat.le_refl _, fun _ _ => rfl⟩); rintro e w9 ⟨a9, c9, rfl, h9, b9⟩; have K3 : w9.cell? ⟨p, 4, none⟩ = some (.int .i64 ((cL k : Nat) : Int)) ∧ w9.cell? ⟨p, 10, none⟩ = some (.slice a j c) := ⟨cell_below q4 b9, cell_below q10 b9⟩)
            | (refine HKA.out _ _ _ _ _ _ rfl rfl (by rfl) (by rfl) ?_; intro w8 hV8 hb8; have K2 : w8.cell? ⟨p, 4, none⟩ = some (.int .i64 ((cL k : Nat) : Int)) ∧ w8.cell? ⟨p, 10, none⟩ = some (.slice a j c) := ⟨cell_below q4 hb8, cell_below q10 hb8⟩))
        clear K2 K3
        go_wp2
        go_ret2
        rw [← HVV.out]
        exact ⟨a9, c9, rfl, h9, b9⟩
end Go.Proofs.YtfjcbgfgiidogaaDoor
namespace Go.Proofs.YtfjcbgfgiidogaaDoor
open Go.RowKit

def placesL (k m : Nat) : List (List Nat) := (List.range m).map (placeR k)
theorem placesL_succ (k m : Nat) : placesL k (m + 1) = placesL k m ++ [placeR k m] := by unfold placesL; rw [List.range_succ]; simp
theorem placesL_length (k m : Nat) : (placesL k m).length = m := by simp [placesL]
theorem placesL_all (k m : Nat) : AllL (cL k) (placesL k m) := fun l hl => by
  obtain ⟨i, -, rfl⟩ := List.mem_map.1 hl
  exact ⟨placeR_bytes _ _, placeR_length _ _⟩
/-- the system of a source. -/
def innerS (src : List (List Nat)) : List (List Nat) × Int := solveR ((cL src.length : Nat) : Int) (fixedL src.length ++ placesL src.length src.length) (List.replicate (cL src.length - src.length) (zs (widthB src)) ++ src)
def innerR (src : List (List Nat)) : List (List Nat) × Int :=
  if okK (src.length : Int) = true then (if 1 ≤ widthB src ∧ widthB src ≤ 64 then (if evenB src (widthB src : Nat) = true then innerS src else ([], 41)) else ([], 30)) else ([], 30)

set_option maxRecDepth 100000 in
set_option maxHeartbeats 8000000 in
theorem inner_rd (sa : Option Addr) (sn sc : Nat) (src : List (List Nat)) (w : World) (h : RD w sa sn src) (hg : Bnd w) : Calls Tryd.prog 54 #[.slice sa sn sc] w (GivesR w (innerR src)) := by
  have hel : src.length = sn := h.1
  have HEL := Lib.hid hel
  have HS := Lib.hid h
  have HG := Lib.hid hg
  unfold innerR
  rw [hel]
  by_cases hk0 : okK (sn : Int) = true
  rotate_left 1
  · rw [if_neg hk0]
    have KM := newMatrix_bad (sn : Int) w (okK_bad hk0)
    clear h hg hk0 hel
    go_enter Tryd.func54, Tryd.ntmps54
    go_wp2_with fail
    (with_reducible refine KM.mono ?_)
    rintro e w1 ⟨rfl, hb⟩
    go_wp2
    go_ret2
    exact givesR_nil hb
  rw [if_pos hk0]
  obtain ⟨m, e1, -, h1, hk⟩ := okK_nat hk0
  obtain rfl : sn = m := by omega
  have KM := newMatrix_ok sn w h1 hk hg
  obtain ⟨b, off, xa, t, xc, r, rfl, hc0, hr, hB0⟩ := h.at (i := 0) (by omega)
  have hrl : r.length = t := hB0.length
  have hwid : widthB src = t := by unfold widthB; rw [List.getD_eq_getElem?_getD, hr]; exact hrl
  have HWID := Lib.hid hwid
  rw [hwid]
  have hsn0 : 0 < sn := by omega
  have i0' : (0 : Int) < (sn : Int) := by omega
  clear hk0 e1 hr hB0 hrl hwid hg hel
  by_cases ht : 1 ≤ t ∧ t ≤ 64
  rotate_left 1
  · rw [if_neg ht]
    by_cases ht1 : t < 1
    · clear h
      go_enter Tryd.func54, Tryd.ntmps54
      go_wp2_with fail
      (with_reducible refine KM.mono ?_)
      rintro e w1 ⟨p, a, c, rfl, hM, hb⟩
      have hc1 := cell_below hc0 hb
      rw [Nat.add_zero] at hc1
      have HM := Lib.hid hM
      clear hM KM
      go_wp2
      go_ret2
      exact givesR_nil hb
    · have ht2 : 64 < t := by omega
      clear h ht
      go_enter Tryd.func54, Tryd.ntmps54
      go_wp2_with fail
      (with_reducible refine KM.mono ?_)
      rintro e w1 ⟨p, a, c, rfl, hM, hb⟩
      have hc1 := cell_below hc0 hb
      rw [Nat.add_zero] at hc1
      have HM := Lib.hid hM
      clear hM KM
      go_wp2
      go_ret2
      exact givesR_nil hb
  rw [if_pos ht]
  obtain ⟨ht1, ht2⟩ := ht
  obtain ⟨f1, f2, f3⟩ := cL_facts h1 hk
  have HFL := Lib.hid (fixed_length (k := sn) (code_facts h1 hk).2.2.2.1)
  obtain ⟨OUT, hO⟩ : ∃ O, O = (if evenB src ((t : Nat) : Int) = true then innerS src else ([], 41)) := ⟨_, rfl⟩
  rw [← hO]
  have HOUT := Lib.hid hO
  clear h hO
  go_enter Tryd.func54, Tryd.ntmps54
  go_wp2_with fail
  (with_reducible refine KM.mono ?_)
  rintro e w1 ⟨p, a, c, rfl, hM, hb⟩
  have hc1 := cell_below hc0 hb
  rw [Nat.add_zero] at hc1
  have HM : Hid (MatV w1 w.heap.size p sn a (cL sn - sn + 0) c (fixedL sn ++ placesL sn 0)) := Lib.hid (by simpa [placesL] using hM)
  have HB := Lib.hid hb
  clear hM KM hb hc0
  go_wp2_with fail
  go_loopw [30] (fun vi wr => ∃ (i : Nat) (a : Option Addr) (c : Nat), i ≤ sn ∧ vi = .int .i64 (i : Nat) ∧ Hid (MatV wr w.heap.size p sn a (cL sn - sn + i) c (fixedL sn ++ placesL sn i)) ∧ Hid (Below w.heap.size w wr) ∧ Hid (∀ (j : Nat) l, j < i → src[j]? = some l → l.length = t)) (fun vi _ => (sn - intOf vi).toNat)
  case atStart => exact ⟨0, a, c, Nat.zero_le _, rfl, HM, HB, Lib.hid (fun j e h => absurd h (Nat.not_lt_zero _))⟩
  case round =>
    clear HM HB hc1
    obtain ⟨i, a, c, hi, rfl, hM, hB, HZ⟩ := hrel
    by_cases hlt : i < sn
    · obtain ⟨b', off', ya, yn, yc, l, e, hcl, hl, hBl⟩ := HS.out.at hlt
      injection e with e
      injection e with e1 e2
      subst e1 e2
      have hc := cell_below hcl hB.out
      have HL := Lib.hid hl
      have HLL := Lib.hid (show l.length = yn from hBl.length)
      have hsz := hB.out.size
      clear hcl hl hBl
      by_cases hy : yn = t
      · have KR := row_own p sn i wr h1 hk (by omega) hM.out.c (HG.out.below hB.out)
        have HY := Lib.hid hy
        have hy' : ((yn : Int) != (t : Int)) = false := by simp [hy]
        clear hy
        go_wp2_with fail
        (with_reducible refine KR.mono ?_)
        rintro e w7 ⟨a8, c8, rfl, o8, b7⟩
        have hM7 := (hM.out.below b7).below (below_alloc w7 (.cells #[.slice a8 (placeR sn i).length c8] 22))
        have hb7 := hB.out.trans (b7.mono hsz)
        have hb8 := hb7.alloc hb7.size (.cells #[.slice a8 (placeR sn i).length c8] 22)
        have hat : RowAt (w7.alloc (.cells #[.slice a8 (placeR sn i).length c8] 22)) w.heap.size (a8, (placeR sn i).length, c8) (placeR sn i) := own_at (b := wr.heap.size) (o8.alloc _) rfl (placeR_bytes _ _) (by rw [placeR_length]; omega)
        have hrow : RowV (w7.alloc (.cells #[.slice a8 (placeR sn i).length c8] 22)) (some ⟨w7.heap.size, 0, none⟩) 1 ([(a8, (placeR sn i).length, c8)].map SV) := rowV_lit w7 _ _ _ 1 _ rfl rfl rfl
        have KA := add_mat w.heap.size p sn _ _ c _ ⟨w7.heap.size, 0, none⟩ 1 1 [(a8, (placeR sn i).length, c8)] [placeR sn i] _ hM7 rfl hrow (one_at hat) (by omega) (by omega) hb8.size
        clear KR o8 b7 hb7 hM hB hat hrow
        go_wp2_with fail
        (with_reducible refine KA.mono ?_)
        rintro e w9 ⟨g9, c9, rfl, hM9, hA⟩
        have hb9 := hA.below hM7 (Nat.le_refl _) hb8
        rw [List.append_assoc, ← placesL_succ] at hM9
        have HM9 := Lib.hid hM9
        have HB9 := Lib.hid hb9
        clear KA hA hM7 hb8 hM9 hb9 hc
        go_wp2
        go_roundw
        case rel => exact ⟨i + 1, _, c9, by omega, by go_num, HM9, HB9, Lib.hid (fun j l' hj he => (by
          by_cases e1 : j = i
          · rw [e1, HL.out] at he
            rw [← Option.some.inj he, HLL.out]; exact HY.out
          · exact HZ.out j l' (by omega) he))⟩
        case measure => simp [intOf] <;> omega
      · have hy' : ((yn : Int) != (t : Int)) = true := by rw [bne_iff_ne]; omega
        have hev : evenB src ((t : Nat) : Int) = false := by
          cases h : evenB src ((t : Nat) : Int) with
          | false => rfl
          | true => exact absurd (by have := evenB_iff.1 h l (List.mem_of_getElem? HL.out); rw [HLL.out] at this; omega) hy
        have HEV := Lib.hid hev
        clear hy hev
        go_wp2
        go_ret2
        rw [HOUT.out, HEV.out, if_neg (by simp)]
        exact givesR_nil hB.out
    · obtain rfl : i = sn := by omega
      have hev : evenB src ((t : Nat) : Int) = true := evenB_iff.2 fun l hl => by
        obtain ⟨j, hj⟩ := List.getElem?_of_mem hl
        rw [HZ.out j l (by have := (List.getElem?_eq_some_iff.1 hj).1; rw [HEL.out] at this; exact this) hj]
      have HEV := Lib.hid hev
      have hlen : ∀ l ∈ src, l.length ≤ 100000 := fun l hl => by have := evenB_iff.1 hev l hl; omega
      have KS := solve_mat w.heap.size p i t a (cL i - i) c (fixedL i ++ placesL i i) (some ⟨b, off, none⟩) i sc src wr hM.out (HS.out.below hB.out) (.inr hsn0) ht2 (by omega) hlen
      have HIN := Lib.hid (show innerS src = solveR ((cL i : Nat) : Int) (fixedL i ++ placesL i i) (List.replicate (cL i - i) (zs t) ++ src) by unfold innerS; rw [HEL.out, HWID.out])
      have hBs := hB.out.size
      clear hev hlen hM
      go_wp2_with fail
      (with_reducible refine KS.mono ?_)
      rintro e w9 ⟨a9, c9, rfl, h9, b9⟩
      clear KS
      go_wp2
      go_ret2
      rw [HOUT.out, HEV.out, if_pos rfl, HIN.out]
      exact ⟨a9, c9, rfl, h9, hB.out.trans (b9.mono hBs)⟩
end Go.Proofs.YtfjcbgfgiidogaaDoor
