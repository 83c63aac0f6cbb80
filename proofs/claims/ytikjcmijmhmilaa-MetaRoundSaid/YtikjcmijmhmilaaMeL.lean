/-
  rilllaw09: MetaTags.
-/
import Derived.Test.YtikjcmijmhmilaaMeK
namespace Go.Proofs.Ytikjcmijmhmilaa
open Go.RowKit

def tcells (l : List (Int × Int)) : List Value := l.flatMap (fun p => [.int .i64 p.1, .int .i64 p.2])
theorem tcells_len (l : List (Int × Int)) : (tcells l).length = l.length * 2 := by
  induction l with
  | nil => rfl
  | cons x xs ih => simp only [tcells, List.flatMap_cons, List.length_append, List.length_cons, List.length_nil] at *; omega
theorem tcells_at : ∀ (l : List (Int × Int)) (i : Nat) (x : Int × Int), l[i]? = some x → (tcells l)[i * 2]? = some (.int .i64 x.1) ∧ (tcells l)[i * 2 + 1]? = some (.int .i64 x.2)
  | [], i, x, h => by simp at h
  | y :: ys, 0, x, h => by
    simp at h
    subst h
    exact ⟨rfl, rfl⟩
  | y :: ys, i + 1, x, h => by
    have := tcells_at ys i x (by simpa using h)
    simp only [tcells, List.flatMap_cons]
    rw [show (i + 1) * 2 = i * 2 + 2 by omega, show i * 2 + 2 + 1 = i * 2 + 1 + 2 by omega]
    exact this
theorem tcells_one (l : List (Int × Int)) : ∀ u ∈ tcells l, u.oneCell' = true := by
  intro u hu
  simp only [tcells, List.mem_flatMap, List.mem_cons, List.not_mem_nil, or_false] at hu
  obtain ⟨x, -, rfl | rfl⟩ := hu <;> rfl
theorem tagsV_news {w : World} {b o n c : Nat} {L : Nat → Int × Int} (h : TagsV w (some ⟨b, o, none⟩) n c L) : ∀ j u, (tcells ((List.range n).map L))[j]? = some u → w.cell? ((⟨b, o, none⟩ : Addr).add j) = some u := by
  intro j u hj
  have hlt := (List.getElem?_eq_some_iff.1 hj).1
  rw [tcells_len, List.length_map, List.length_range] at hlt
  obtain ⟨b', o', e, -, hc⟩ := h.row (by omega)
  injection e with e
  injection e with e1 e2
  subst e1 e2
  have ha : (⟨b, o, none⟩ : Addr).add j = ⟨b, o + j, none⟩ := by unfold Addr.add; split <;> simp_all
  rw [ha]
  have hq : j / 2 < n := by omega
  obtain ⟨c0, c1⟩ := hc (j / 2) hq
  have hx : ((List.range n).map L)[j / 2]? = some (L (j / 2)) := by simp [hq]
  obtain ⟨t0, t1⟩ := tcells_at _ _ _ hx
  rcases Nat.mod_two_eq_zero_or_one j with hm | hm
  · have hj2 : j / 2 * 2 = j := by omega
    rw [hj2] at t0 c0
    rw [t0] at hj
    rw [c0, ← hj]
  · have hj2 : j / 2 * 2 + 1 = j := by omega
    rw [hj2] at t1
    rw [show o + j / 2 * 2 + 1 = o + j by omega] at c1
    rw [t1] at hj
    rw [c1, ← hj]
theorem tagsV_own {w : World} {B n cap : Nat} {ad : Option Addr} {L : Nat → Int × Int} (h : w.ownsRow B 25 2 (.slice ad n cap) n (tcells ((List.range n).map L))) : TagsV w ad n cap L := by
  rcases h.2 with ⟨e, e0⟩ | ⟨g, cp, cur, e, hB, hh, hc, hcm, -, -⟩
  · injection e with e1 e2 e3
    subst e2 e3
    exact ⟨by simp [maxLen], Nat.le_refl _, by simp [maxLen], fun h => absurd h (by omega)⟩
  · injection e with e1 e2 e3
    subst e1 e3
    refine ⟨Nat.le_trans hc hcm, hc, hcm, fun h0 => ⟨g, 0, rfl, (Array.getElem?_eq_some_iff.1 hh).1, fun i hi => ?_⟩⟩
    have hx : ((List.range n).map L)[i]? = some (L i) := by simp [hi]
    obtain ⟨t0, t1⟩ := tcells_at _ _ _ hx
    rw [Nat.zero_add]
    exact ⟨(h.cellAt (i * 2) (by omega)).trans t0, (h.cellAt (i * 2 + 1) (by omega)).trans t1⟩
theorem Try.infoTag : (Try.prog.info? 25).map (fun i => (i.zero, i.size, i.bytes)) = some (some (.agg #[.int .i64 0, .int .i64 0]), 2, 16) := by kernel_rfl
theorem ownBlock_geM {w : World} {base : Nat} {e : TypeId} {size : Nat} {v : Value} {n : Nat} {xs : List Value} (h : w.ownsRow base e size v n xs) : ∀ k, v.ownBlock = some k → base ≤ k := fun k hk => ownBlock_ge h k hk
/-- tags appended to none. -/
theorem wpList_append_tags {w : World} {ops : Array Oper} {rest : List Oper} {o : Oper} {a : Act} {Q : Exit → Act → World → Prop} (hw : Region.wanted o (yielded ops a.tmps) = true) (s x' : Operand)
    (ho : o.op = .call { callee := .builtin .append, args := #[s, x'], argTypes := #[22, 22] }) (base : Nat) (v : Value) (hs : a.eval s = v) (hown : w.ownsRow base 25 2 v 0 [])
    (ad : Option Addr) (m c : Nat) (L : Nat → Int × Int) (hx : a.eval x' = .slice ad m c) (hL : TagsV w ad m c L) (hnil : ad = none → c = 0) (hm : m ≤ 1000000) (hbase : base ≤ w.heap.size)
    (h : ∀ ad' c' w', TagsV w' ad' m c' L → w.grownBy w' v.ownBlock → wpList Try.prog ops Q rest (a.put o.dst (.slice ad' m c')) w') : wpList Try.prog ops Q (o :: rest) a w := by
  obtain ⟨i0, hi, hz0, hz1, hz2⟩ := info_partsM Try.infoTag
  have hl : (tcells ((List.range m).map L)).length = m * 2 := by rw [tcells_len]; simp
  refine wpList_step fun K hK => ?_
  rw [if_pos hw]
  cases ad with
  | none =>
    have hc := hnil rfl
    have hcap := hL.cap
    obtain rfl : m = 0 := by omega
    subst hc
    have hrun := run_append_owned_none (P := Try.prog) (w := w) base 22 o.type 25 i0 2 Try.underlying22 hi v 0 [] hown
    obtain ⟨ad', c', e⟩ : ∃ ad' c', v = .slice ad' 0 c' := by
      rcases hown.2 with ⟨q, _⟩ | ⟨g, cp, cur, q, -⟩
      · exact ⟨none, 0, q⟩
      · exact ⟨_, _, q⟩
    unfold Oper.wp execOp
    simp only [ho, resolve, invoke, builtin, Sem.run_bind, Sem.run_pure, Result.andThen_ok, List.map_toArray, List.map_cons, List.map_nil, hs, hx, hrun]
    subst e
    exact hK _ _ (h ad' c' w (tagsV_own (show w.ownsRow base 25 2 (.slice ad' 0 c') 0 (tcells ((List.range 0).map L)) from hown)) (World.grownBy_refl _ _))
  | some x =>
    obtain ⟨b, off, sp⟩ := x
    rcases Nat.eq_zero_or_pos m with h0 | h0
    · subst h0
      refine wp_append_own w s x' 22 ho base 25 i0 _ 2 16 Try.underlying22 hi hz0 hz1 hz2 rfl (by decide) v 0 [] hs hown ⟨b, off, sp⟩ 0 c [] hx rfl (fun j u hj => by simp at hj) (fun u hu => by simp at hu) (by simp [maxLen]) (by simp) hbase ?_
      intro v' w' hown' hg _
      obtain ⟨ad', c', e⟩ : ∃ ad' c', v' = .slice ad' 0 c' := by
        rcases hown'.2 with ⟨q, _⟩ | ⟨g, cp, cur, q, -⟩
        · exact ⟨none, 0, q⟩
        · exact ⟨_, _, q⟩
      subst e
      exact hK _ _ (h ad' c' w' (tagsV_own (show w'.ownsRow base 25 2 (.slice ad' 0 c') 0 (tcells ((List.range 0).map L)) from hown')) hg)
    · obtain ⟨b', o', e, -, -⟩ := hL.row h0
      injection e with e
      injection e with e1 e2 e3
      subst e1 e2 e3
      refine wp_append_own w s x' 22 ho base 25 i0 _ 2 16 Try.underlying22 hi hz0 hz1 hz2 rfl (by decide) v 0 [] hs hown ⟨b, off, none⟩ m c (tcells ((List.range m).map L)) hx hl (tagsV_news hL) (tcells_one _) (by unfold maxLen; omega) (by omega) hbase ?_
      intro v' w' hown' hg _
      rw [Nat.zero_add, List.nil_append] at hown'
      obtain ⟨ad', c', e⟩ : ∃ ad' c', v' = .slice ad' m c' := by
        rcases hown'.2 with ⟨q, q0⟩ | ⟨g, cp, cur, q, -⟩
        · exact absurd q0 (by omega)
        · exact ⟨_, _, q⟩
      subst e
      exact hK _ _ (h ad' c' w' (tagsV_own hown') hg)
set_option maxRecDepth 100000 in
set_option maxHeartbeats 8000000 in
theorem metaTags_walk (ta : Option Addr) (n c : Nat) (L : Nat → Int × Int) (client : Int) (w : World) (hL : TagsV w ta n c L) (hnil : ta = none → c = 0) (_hwf : ∀ i, i < n → (Lit.int .i64 (L i).1).wf = true ∧ (Lit.int .i64 (L i).2).wf = true) (_wk : (Lit.int .i64 client).wf = true) :
    Calls Try.prog 3 #[.slice ta n c, .int .i64 client] w fun e w' => e = .returned (.bool true) ∧ Below w.heap.size w w' := by
  have KA := alive_any
  have hcap := hL.cap
  have hsm := hL.small
  unfold maxLen at hsm
  have HL := Lib.hid hL
  have HN := Lib.hid hnil
  clear hL hnil
  go_enter Try.func3, Try.ntmps3
  go_wp2_with fail
  (with_reducible refine (KA _).mono ?_)
  rintro e w1 ⟨rfl, b1⟩
  clear KA
  have HB1 := Lib.hid b1
  clear b1
  by_cases h100 : 100 < n
  · have hI : (100 : Int) < (n : Int) := by omega
    go_wp2
    go_ret
    exact ⟨rfl, HB1.out⟩
  have hI : decide ((100 : Int) < (n : Int)) = false := decide_eq_false (by omega)
  have hown0 := World.ownsRow_made (base := w1.heap.size) (e := 25) (size := 2) w1 #[] 0 (Nat.le_refl _) (by simp [maxLen]) rfl
  have bA := below_alloc w1 (.cells #[] 25)
  have HL1 := Lib.hid ((HL.out.below HB1.out).below bA)
  have HO0 := Lib.hid hown0
  have HBA := Lib.hid bA
  clear hown0 bA
  go_wp2_with (first | (at_builtin; refine Hid.out ?_))
  refine Lib.hid ?_
  refine wpList_append_tags (by rfl) (.tmp 12) (.tmp 13) rfl w1.heap.size _ (by rfl) HO0.out ta n c L (by rfl) HL1.out HN.out (by omega) (by simp) ?_
  intro a2 c2 w2 hT2 hg2
  have hb2 : Below w1.heap.size w1 w2 := HBA.out.grown hg2 (by simp) (ownBlock_geM HO0.out)
  have HB2 := Lib.hid (HB1.out.trans (hb2.mono HB1.out.size))
  have KL := later_any a2 n c2 L w2 hT2
  obtain ⟨x, hx⟩ : ∃ x, x = latest L n := ⟨_, rfl⟩
  have KR := fun w3 (b3 : Below w.heap.size w w3) => refLater_any ta n c L w3 (HL.out.below b3)
  rw [← hx] at KL
  simp only [← hx] at KR
  obtain ⟨x0, x1⟩ := x
  have hneq : ∀ w : World, (binOp .neq 25 (.agg #[.int .i64 x0, .int .i64 x1]) (.agg #[.int .i64 x0, .int .i64 x1])).run Try.prog w = .ok (.bool false) w := fun w => by rw [neqTag, decide_eq_true rfl]; rfl
  have HKR := Lib.hid KR
  clear KR hx hT2 hg2 hb2
  go_wp2_with fail
  (with_reducible refine KL.mono ?_)
  rintro e w3 ⟨rfl, hd⟩
  have HB3 := Lib.hid (HB2.out.trans (hd.mono HB2.out.size))
  clear KL hd
  have KR := HKR.out w3 HB3.out
  go_wp2_with fail
  (with_reducible refine KR.mono ?_)
  rintro e w4 ⟨rfl, hd⟩
  have HB4 := Lib.hid (HB3.out.trans (hd.mono HB3.out.size))
  clear KR hd
  go_wp2_with fail
  go_loopw [5] (fun vi wr => ∃ i : Nat, i ≤ n ∧ vi = .int .i64 (i : Nat) ∧ Hid (Below w.heap.size w wr)) (fun vi _ => (n - intOf vi).toNat)
  case atStart => exact ⟨0, Nat.zero_le _, rfl, HB4⟩
  case round =>
    clear hneq
    obtain ⟨i, hi, rfl, hB⟩ := hrel
    by_cases hlt : i < n
    · obtain ⟨b, o, e, hlb, hc⟩ := HL.out.row (by omega)
      subst e
      obtain ⟨d0, d1⟩ := hc i hlt
      obtain ⟨z0, z1⟩ := hc 0 (by omega)
      rw [Nat.zero_mul, Nat.add_zero] at z0 z1
      obtain ⟨x, hx⟩ : ∃ x, x = L i := ⟨_, rfl⟩
      obtain ⟨y, hy⟩ : ∃ y, y = L 0 := ⟨_, rfl⟩
      rw [← hx] at d0 d1
      rw [← hy] at z0 z1
      obtain ⟨x0, x1⟩ := x
      obtain ⟨y0, y1⟩ := y
      simp only at d0 d1 z0 z1
      have HP := Lib.hid (show ∀ w3, Below wr.heap.size wr w3 → w3.cell? ⟨b, o + i * 2, none⟩ = some (.int .i64 x0) ∧ w3.cell? ⟨b, o + i * 2 + 1, none⟩ = some (.int .i64 x1) ∧ w3.cell? ⟨b, o, none⟩ = some (.int .i64 y0) ∧ w3.cell? ⟨b, o + 1, none⟩ = some (.int .i64 y1) from fun w3 h3 => by
        have hb3 := hB.out.trans (h3.mono hB.out.size)
        exact ⟨(hb3.cell (p := ⟨b, o + i * 2, none⟩) hlb).trans d0, (hb3.cell (p := ⟨b, o + i * 2 + 1, none⟩) hlb).trans d1, (hb3.cell (p := ⟨b, o, none⟩) hlb).trans z0, (hb3.cell (p := ⟨b, o + 1, none⟩) hlb).trans z1⟩)
      obtain ⟨B, hBB⟩ : ∃ B, B = decide (lt (y0, y1) (x0, x1)) := ⟨_, rfl⟩
      have KE1 := earlier_any y0 y1 x0 x1
      have KE2 := refEarlier_any y0 y1 x0 x1
      simp only [← hBB] at KE1 KE2
      have KX := next_any x0 x1 client
      have KY := refNext_any x0 x1 client
      obtain ⟨N, hN⟩ : ∃ N, N = nextN x0 := ⟨_, rfl⟩
      simp only [← hN] at KX KY
      have hneq : ∀ w : World, (binOp .neq 25 (.agg #[.int .i64 N, .int .i64 client]) (.agg #[.int .i64 N, .int .i64 client])).run Try.prog w = .ok (.bool false) w := fun w => by rw [neqTag, decide_eq_true rfl]; rfl
      have hiI : (i : Int) < (n : Int) := by omega
      have hi0 : (0 : Int) < (n : Int) := by omega
      have hi00 : 0 < n := by omega
      have hnI : (n : Int) ≤ (c : Int) := by omega
      clear hBB hN hx hy hc d0 d1 z0 z1
      go_wp2_with fail
      have P0M : wr.drew.cell? ⟨b, o + i * 2, none⟩ = some (.int .i64 x0) ∧ wr.drew.cell? ⟨b, o + i * 2 + 1, none⟩ = some (.int .i64 x1) ∧ wr.drew.cell? ⟨b, o, none⟩ = some (.int .i64 y0) ∧ wr.drew.cell? ⟨b, o + 1, none⟩ = some (.int .i64 y1) := HP.out wr.drew ⟨rfl, rfl, rfl, Nat.le_refl _, fun _ _ => rfl⟩
      refine GoX.start 31 (fun w' => w'.cell? ⟨b, o + i * 2, none⟩ = some (.int .i64 x0) ∧ w'.cell? ⟨b, o + i * 2 + 1, none⟩ = some (.int .i64 x1) ∧ w'.cell? ⟨b, o, none⟩ = some (.int .i64 y0) ∧ w'.cell? ⟨b, o + 1, none⟩ = some (.int .i64 y1)) (by kernel_rfl) ?_
      refine GoX.take 0 rfl (by kernel_rfl) (by kernel_rfl) (by rfl) (fun _ _ _ h => h) (v := ?tv0M) P0M ?ty0M ?tr0M
      case ty0M => (intro w hSw; (try dsimp only at hSw); go_simp; first | done | with_reducible rfl)
      simp only [Act.put, List.setIfInBounds_toArray, List.set_cons_zero, List.set_cons_succ]
      refine GoX.take 1 rfl (by kernel_rfl) (by kernel_rfl) (by rfl) (fun _ _ _ h => h) (v := ?tv1M) P0M ?ty1M ?tr1M
      case ty1M => (intro w hSw; (try dsimp only at hSw); go_simp; first | done | with_reducible rfl)
      simp only [Act.put, List.setIfInBounds_toArray, List.set_cons_zero, List.set_cons_succ]
      refine GoX.take 2 rfl (by kernel_rfl) (by kernel_rfl) (by rfl) (fun _ _ _ h => h) (v := ?tv2M) P0M ?ty2M ?tr2M
      case ty2M => (intro w hSw; (try dsimp only at hSw); go_simp; first | done | with_reducible rfl)
      simp only [Act.put, List.setIfInBounds_toArray, List.set_cons_zero, List.set_cons_succ]
      refine GoX.take 3 rfl (by kernel_rfl) (by kernel_rfl) (by rfl) (fun _ _ _ h => h) (v := ?tv3M) P0M ?ty3M ?tr3M
      case ty3M => (intro w hSw; (try dsimp only at hSw); go_simp; first | done | with_reducible rfl)
      simp only [Act.put, List.setIfInBounds_toArray, List.set_cons_zero, List.set_cons_succ]
      refine GoX.take 4 rfl (by kernel_rfl) (by kernel_rfl) (by rfl) (fun _ _ _ h => h) (v := ?tv4M) P0M ?ty4M ?tr4M
      case ty4M => (intro w hSw; (try dsimp only at hSw); go_simp; first | done | with_reducible rfl)
      simp only [Act.put, List.setIfInBounds_toArray, List.set_cons_zero, List.set_cons_succ]
      refine GoX.take 6 rfl (by kernel_rfl) (by kernel_rfl) (by rfl) (fun _ _ _ h => h) (v := ?tv6M) P0M ?ty6M ?tr6M
      case ty6M => (intro w hSw; (try dsimp only at hSw); go_simp; first | done | with_reducible rfl)
      simp only [Act.put, List.setIfInBounds_toArray, List.set_cons_zero, List.set_cons_succ]
      refine GoX.take 7 rfl (by kernel_rfl) (by kernel_rfl) (by rfl) (fun _ _ _ h => h) (v := ?tv7M) P0M ?ty7M ?tr7M
      case ty7M => (intro w hSw; (try dsimp only at hSw); go_simp; first | done | with_reducible rfl)
      simp only [Act.put, List.setIfInBounds_toArray, List.set_cons_zero, List.set_cons_succ]
      refine GoX.take 8 rfl (by kernel_rfl) (by kernel_rfl) (by rfl) (fun _ _ _ h => h) (v := ?tv8M) P0M ?ty8M ?tr8M
      case ty8M => (intro w hSw; (try dsimp only at hSw); go_simp; first | done | with_reducible rfl)
      simp only [Act.put, List.setIfInBounds_toArray, List.set_cons_zero, List.set_cons_succ]
      refine GoX.take 9 rfl (by kernel_rfl) (by kernel_rfl) (by rfl) (fun _ _ _ h => h) (v := ?tv9M) P0M ?ty9M ?tr9M
      case ty9M => (intro w hSw; (try dsimp only at hSw); go_simp; first | done | with_reducible rfl)
      simp only [Act.put, List.setIfInBounds_toArray, List.set_cons_zero, List.set_cons_succ]
      refine GoX.take 10 rfl (by kernel_rfl) (by kernel_rfl) (by rfl) (fun _ _ _ h => h) (v := ?tv10M) P0M ?ty10M ?tr10M
      case ty10M => (intro w hSw; (try dsimp only at hSw); go_simp; first | done | with_reducible rfl)
      simp only [Act.put, List.setIfInBounds_toArray, List.set_cons_zero, List.set_cons_succ]
      refine GoX.one 5 rfl (by kernel_rfl) (by decide) (fun K hK => ?_)
      rw [if_pos (by rfl)]
      go_simp
      (with_reducible refine (KX _).mono ?_)
      rintro e wM1 ⟨rfl, hd⟩
      have hq1 : Below wr.heap.size wr wM1 := ⟨hd.os, hd.tape, hd.output, hd.size, hd.block⟩
      have PM1 := HP.out wM1 hq1
      clear hd
      refine hK.out _ _ PM1 (fun _ => ?_)
      clear hK K
      refine GoX.one 11 rfl (by kernel_rfl) (by decide) (fun K hK => ?_)
      rw [if_pos (by rfl)]
      go_simp
      (with_reducible refine (KY _).mono ?_)
      rintro e wM2 ⟨rfl, hd⟩
      have hq2 := hq1.trans (hd.mono hq1.size)
      have PM2 := HP.out wM2 hq2
      clear hd
      refine hK.out _ _ PM2 (fun _ => ?_)
      clear hK K
      refine GoX.take 12 rfl (by kernel_rfl) (by kernel_rfl) (by rfl) (fun _ _ _ h => h) (v := ?tv12M) PM2 ?ty12M ?tr12M
      case ty12M => (intro w hSw; (try dsimp only at hSw); go_simp; first | done | with_reducible rfl)
      simp only [Act.put, List.setIfInBounds_toArray, List.set_cons_zero, List.set_cons_succ]
      refine GoX.take 13 rfl (by kernel_rfl) (by kernel_rfl) (by rfl) (fun _ _ _ h => h) (v := ?tv13M) PM2 ?ty13M ?tr13M
      case ty13M => (intro w hSw; (try dsimp only at hSw); go_simp; first | done | with_reducible rfl)
      simp only [Act.put, List.setIfInBounds_toArray, List.set_cons_zero, List.set_cons_succ]
      refine GoX.take 14 rfl (by kernel_rfl) (by kernel_rfl) (by rfl) (fun _ _ _ h => h) (v := ?tv14M) PM2 ?ty14M ?tr14M
      case ty14M => (intro w hSw; (try dsimp only at hSw); go_simp; first | done | with_reducible rfl)
      simp only [Act.put, List.setIfInBounds_toArray, List.set_cons_zero, List.set_cons_succ]
      refine GoX.take 15 rfl (by kernel_rfl) (by kernel_rfl) (by rfl) (fun _ _ _ h => h) (v := ?tv15M) PM2 ?ty15M ?tr15M
      case ty15M => (intro w hSw; (try dsimp only at hSw); go_simp; first | done | with_reducible rfl)
      simp only [Act.put, List.setIfInBounds_toArray, List.set_cons_zero, List.set_cons_succ]
      refine GoX.take 16 rfl (by kernel_rfl) (by kernel_rfl) (by rfl) (fun _ _ _ h => h) (v := ?tv16M) PM2 ?ty16M ?tr16M
      case ty16M => (intro w hSw; (try dsimp only at hSw); go_simp; first | done | with_reducible rfl)
      simp only [Act.put, List.setIfInBounds_toArray, List.set_cons_zero, List.set_cons_succ]
      refine GoX.take 17 rfl (by kernel_rfl) (by kernel_rfl) (by rfl) (fun _ _ _ h => h) (v := ?tv17M) PM2 ?ty17M ?tr17M
      case ty17M => (intro w hSw; (try dsimp only at hSw); go_simp; first | done | with_reducible rfl)
      simp only [Act.put, List.setIfInBounds_toArray, List.set_cons_zero, List.set_cons_succ]
      refine GoX.take 18 rfl (by kernel_rfl) (by kernel_rfl) (by rfl) (fun _ _ _ h => h) (v := ?tv18M) PM2 ?ty18M ?tr18M
      case ty18M => (intro w hSw; (try dsimp only at hSw); go_simp; first | done | with_reducible rfl)
      simp only [Act.put, List.setIfInBounds_toArray, List.set_cons_zero, List.set_cons_succ]
      refine GoX.take 19 rfl (by kernel_rfl) (by kernel_rfl) (by rfl) (fun _ _ _ h => h) (v := ?tv19M) PM2 ?ty19M ?tr19M
      case ty19M => (intro w hSw; (try dsimp only at hSw); go_simp; first | done | with_reducible rfl)
      simp only [Act.put, List.setIfInBounds_toArray, List.set_cons_zero, List.set_cons_succ]
      refine GoX.take 20 rfl (by kernel_rfl) (by kernel_rfl) (by rfl) (fun _ _ _ h => h) (v := ?tv20M) PM2 ?ty20M ?tr20M
      case ty20M => (intro w hSw; (try dsimp only at hSw); go_simp; first | done | with_reducible rfl)
      simp only [Act.put, List.setIfInBounds_toArray, List.set_cons_zero, List.set_cons_succ]
      refine GoX.take 22 rfl (by kernel_rfl) (by kernel_rfl) (by rfl) (fun _ _ _ h => h) (v := ?tv22M) PM2 ?ty22M ?tr22M
      case ty22M => (intro w hSw; (try dsimp only at hSw); go_simp; first | done | with_reducible rfl)
      simp only [Act.put, List.setIfInBounds_toArray, List.set_cons_zero, List.set_cons_succ]
      refine GoX.take 23 rfl (by kernel_rfl) (by kernel_rfl) (by rfl) (fun _ _ _ h => h) (v := ?tv23M) PM2 ?ty23M ?tr23M
      case ty23M => (intro w hSw; (try dsimp only at hSw); go_simp; first | done | with_reducible rfl)
      simp only [Act.put, List.setIfInBounds_toArray, List.set_cons_zero, List.set_cons_succ]
      refine GoX.take 24 rfl (by kernel_rfl) (by kernel_rfl) (by rfl) (fun _ _ _ h => h) (v := ?tv24M) PM2 ?ty24M ?tr24M
      case ty24M => (intro w hSw; (try dsimp only at hSw); go_simp; first | done | with_reducible rfl)
      simp only [Act.put, List.setIfInBounds_toArray, List.set_cons_zero, List.set_cons_succ]
      refine GoX.take 25 rfl (by kernel_rfl) (by kernel_rfl) (by rfl) (fun _ _ _ h => h) (v := ?tv25M) PM2 ?ty25M ?tr25M
      case ty25M => (intro w hSw; (try dsimp only at hSw); go_simp; first | done | with_reducible rfl)
      simp only [Act.put, List.setIfInBounds_toArray, List.set_cons_zero, List.set_cons_succ]
      refine GoX.take 26 rfl (by kernel_rfl) (by kernel_rfl) (by rfl) (fun _ _ _ h => h) (v := ?tv26M) PM2 ?ty26M ?tr26M
      case ty26M => (intro w hSw; (try dsimp only at hSw); go_simp; first | done | with_reducible rfl)
      simp only [Act.put, List.setIfInBounds_toArray, List.set_cons_zero, List.set_cons_succ]
      refine GoX.take 27 rfl (by kernel_rfl) (by kernel_rfl) (by rfl) (fun _ _ _ h => h) (v := ?tv27M) PM2 ?ty27M ?tr27M
      case ty27M => (intro w hSw; (try dsimp only at hSw); go_simp; first | done | with_reducible rfl)
      simp only [Act.put, List.setIfInBounds_toArray, List.set_cons_zero, List.set_cons_succ]
      refine GoX.take 28 rfl (by kernel_rfl) (by kernel_rfl) (by rfl) (fun _ _ _ h => h) (v := ?tv28M) PM2 ?ty28M ?tr28M
      case ty28M => (intro w hSw; (try dsimp only at hSw); go_simp; first | done | with_reducible rfl)
      simp only [Act.put, List.setIfInBounds_toArray, List.set_cons_zero, List.set_cons_succ]
      refine GoX.one 21 rfl (by kernel_rfl) (by decide) (fun K hK => ?_)
      rw [if_pos (by rfl)]
      go_simp
      (with_reducible refine (KE1 _).mono ?_)
      rintro e wM3 ⟨rfl, hd⟩
      have hq3 := hq2.trans (hd.mono hq2.size)
      have PM3 := HP.out wM3 hq3
      clear hd
      refine hK.out _ _ PM3 (fun _ => ?_)
      clear hK K
      refine GoX.one 29 rfl (by kernel_rfl) (by decide) (fun K hK => ?_)
      rw [if_pos (by rfl)]
      go_simp
      (with_reducible refine (KE2 _).mono ?_)
      rintro e wM4 ⟨rfl, hd⟩
      have hq4 := hq3.trans (hd.mono hq3.size)
      have PM4 := HP.out wM4 hq4
      clear hd
      refine hK.out _ _ PM4 (fun _ => ?_)
      clear hK K
      refine GoX.take 30 rfl (by kernel_rfl) (by kernel_rfl) (by rfl) (fun _ _ _ h => h) (v := ?tv30M) PM4 ?ty30M ?tr30M
      case ty30M => (intro w hSw; (try dsimp only at hSw); go_simp; first | done | with_reducible rfl)
      simp only [Act.put, List.setIfInBounds_toArray, List.set_cons_zero, List.set_cons_succ]
      refine GoX.last 31 rfl (by kernel_rfl) (by kernel_rfl) (by decide) ?_
      rw [if_pos (by rfl)]
      go_simp
      have HBF := Lib.hid (hB.out.trans (hq4.mono hB.out.size))
      go_wp2
      go_roundw
      case rel => exact ⟨i + 1, hlt, by go_num, HBF⟩
      case measure => simp [intOf]; omega
    · go_wp2
      go_ret
      exact ⟨rfl, hB.out⟩
end Go.Proofs.Ytikjcmijmhmilaa
