/-
  msg's reader: lists of symbols and of items.
-/
import Derived.Test.YtopnjjehefaghaaDoorMMgX
namespace Go.Proofs.YtopnjjehefaghaaDoor
open Go.RowKit

/-- so many parts, each read in the same way, till there is too little. -/
def Sd.many {α : Type} (f : Sd → Sd) (v : Sd → α) : Nat → Sd → Sd × List α
  | 0, s => (s, [])
  | n + 1, s => if s.bad = true then (s, []) else ((Sd.many f v n (f s)).1, v s :: (Sd.many f v n (f s)).2)
theorem Sd.many_len {α : Type} (f : Sd → Sd) (v : Sd → α) : ∀ (n : Nat) (s : Sd), (Sd.many f v n s).2.length ≤ n
  | 0, s => Nat.le_refl _
  | n + 1, s => by
    simp only [Sd.many]
    split
    · exact Nat.zero_le _
    · simp only [List.length_cons]
      have := Sd.many_len f v n (f s)
      omega
theorem Sd.many_bad {α : Type} {f : Sd → Sd} {v : Sd → α} {s : Sd} (h : s.bad = true) : ∀ n, Sd.many f v n s = (s, [])
  | 0 => rfl
  | n + 1 => by simp only [Sd.many]; rw [if_pos h]
theorem Sd.many_step {α : Type} {f : Sd → Sd} {v : Sd → α} {s0 s : Sd} {P : List α} {N k : Nat} (h : Sd.many f v N s0 = ((Sd.many f v (N - k) s).1, P ++ (Sd.many f v (N - k) s).2)) (hk : k < N) (hb : s.bad = false) :
    Sd.many f v N s0 = ((Sd.many f v (N - (k + 1)) (f s)).1, (P ++ [v s]) ++ (Sd.many f v (N - (k + 1)) (f s)).2) := by
  rw [h, show N - k = (N - (k + 1)) + 1 by omega]
  simp only [Sd.many, hb, Bool.false_eq_true, if_false, List.append_assoc, List.singleton_append]
set_option maxRecDepth 100000 in
set_option maxHeartbeats 8000000 in
theorem listS_any (b N : Nat) (s0 : Sd) (u w : World) (hu : Below u.heap.size u w) (hub : u.heap.size ≤ b) (hr : RdM u w b s0) (hN : N ≤ 70000) :
    Calls Tryd.prog 58 #[.pointer (some ⟨b, 0, none⟩), .int .i64 N, .func (.func 59) #[.pointer (some ⟨b, 0, none⟩)] #[]] w fun e w' => (∃ a c, e = .returned (.slice a (Sd.many Sd.sym Sd.symV N s0).2.length c) ∧ OwnS w' w.heap.size a (Sd.many Sd.sym Sd.symV N s0).2.length c (Sd.many Sd.sym Sd.symV N s0).2) ∧ RdM u w' b (Sd.many Sd.sym Sd.symV N s0).1 ∧ w.grownBy w' (some b) := by
  obtain ⟨i0, hpi, hz0, hz1, hz2⟩ := info_parts sinfo
  have hbw := hr.lt
  have HU := Lib.hid hu
  obtain ⟨R, hR⟩ : ∃ R, R = Sd.many Sd.sym Sd.symV N s0 := ⟨_, rfl⟩
  rw [← hR]
  have HR0 := Lib.hid hR
  have H0 := Lib.hid hr
  clear hu hr hR
  go_enter Tryd.func58, Tryd.ntmps58
  go_wp2
  go_loopw [7, 9] (fun vp vi wr => ∃ (k : Nat) (av : Option Addr) (cv : Nat) (XS : List Sy) (s : Sd), k ≤ N ∧ vi = .int .i64 (k : Nat) ∧ vp = .slice av k cv ∧ Hid (XS.length = k) ∧ Hid (Sd.many Sd.sym Sd.symV N s0 = ((Sd.many Sd.sym Sd.symV (N - k) s).1, XS ++ (Sd.many Sd.sym Sd.symV (N - k) s).2)) ∧ Hid (OwnS wr w.heap.size av k cv XS) ∧ Hid (RdM u wr b s) ∧ Hid (w.grownBy wr (some b))) (fun _ vi _ => N - (intOf vi).toNat)
  case atStart => exact ⟨0, none, 0, [], s0, Nat.zero_le _, rfl, rfl, Lib.hid rfl, Lib.hid (by simp), Lib.hid (OwnS.nil _ _), H0, Lib.hid (World.grownBy_refl _ _)⟩
  case round =>
    clear H0
    obtain ⟨k, av, cv, XS, s, hk, rfl, rfl, HL, HM, HO, HRD, HG⟩ := hrel
    have hrb := HRD.out
    obtain ⟨ad, n, c, hby, hh⟩ := hrb
    have c1 : wr.cell? ⟨b, 1, none⟩ = some (.bool s.bad) := cell_of_row _ _ 1 _ _ _ hh
    obtain ⟨B, hB⟩ : ∃ B, B = s.bad := ⟨_, rfl⟩
    rw [← hB] at c1
    have HB := Lib.hid hB
    clear hby hh hB
    by_cases hlt : k < N
    · cases B with
      | true =>
        have hm := HM.out
        rw [Sd.many_bad HB.out.symm] at hm
        simp only [List.append_nil] at hm
        have HRR := Lib.hid (HR0.out.trans hm)
        clear hm
        go_wp2
        go_ret
        (rw [HRR.out]; have hl := HL.out; subst hl; exact ⟨⟨av, cv, rfl, HO.out⟩, HRD.out, HG.out⟩)
      | false =>
        have hst := Sd.many_step HM.out hlt HB.out.symm
        have HST := Lib.hid hst
        have KS := symM_any b s u wr (below_onM HU.out hub HG.out) hub HRD.out
        have hgs := HG.out.size
        clear hst
        obtain ⟨⟨z1, z2, l⟩, hv⟩ : ∃ v, v = s.symV := ⟨_, rfl⟩
        rw [← hv] at KS HST
        simp only at KS
        obtain ⟨n1, hn1⟩ : ∃ n, n = l.length := ⟨_, rfl⟩
        rw [← hn1] at KS
        have HN1 := Lib.hid hn1
        clear hv hn1
        go_wp2_with (first | (go_at_call 59; (with_reducible refine KS.mono ?_); rintro e w5 ⟨ta, tc, rfl, ho, hby, h255, hr5, hg5⟩) | (at_builtin; refine Hid.out ?_))
        refine Lib.hid ?_
        clear c1
        have ho5 := HO.out.grown hg5 hbw
        have hb5 := hg5.size
        have hs5 := HG.out.trans hg5
        have hbb := below_alloc w5 (.cells #[.int .i64 z1, .int .i64 z2, .slice ta n1 tc] ST3)
        have ho6 := ho5.below hbb
        have hy6 := ownsRow_base (ho.alloc (.cells #[.int .i64 z1, .int .i64 z2, .slice ta n1 tc] ST3)) hgs
        obtain ⟨h1, xs, h2, h3, h4⟩ := ho6
        refine wpList_append_lies _ rfl (.tmp 15) (.tmp 18) 27 rfl w.heap.size ST3 i0 (.agg #[.int .i64 0, .int .i64 0, .slice none 0 0]) 3 40 Tryd.underlying27 hpi hz0 hz1 hz2 rfl (by decide) (.slice av k cv) k (scells xs) rfl h3 ⟨w5.heap.size, 0, none⟩ 1 1 [.int .i64 z1, .int .i64 z2, SV (ta, n1, tc)] rfl rfl (World.news_of_block (heap_alloc_new w5 _)) (by intro u hu; simp at hu; rcases hu with rfl | rfl | rfl <;> rfl) (by decide) (by simp [maxLen]; omega) (by omega) (by simp; omega) _ rfl ?_
        intro g9 c9 w9 hE9 g9' lie9 _
        have hO := sy_append h2 h1 h3 h4 (y := (ta, n1, tc)) (l := l) (z := z1) (e := z2) (by rw [← HN1.out]; exact hy6) HN1.out ⟨hby, by rw [← HN1.out]; omega⟩ hE9 g9'
        have hnb : ∀ i, i < w.heap.size → some i ≠ (Value.slice av k cv).ownBlock := fun i hi e => by have := (h3.lt i e.symm).1; omega
        have hrd9 := hr5.of_block ((g9'.block b (by have := hr5.lt; simp; omega) (hnb b hbw)).trans (heap_alloc_old _ _ hr5.lt))
        have hg9 : w.grownBy w9 (some b) := ⟨g9'.os.trans hs5.os, g9'.tape.trans hs5.tape, g9'.output.trans hs5.output, by have h1 := g9'.size; have h2 := hs5.size; simp at h1; omega, fun i hi hne => (g9'.block i (by have := hs5.size; simp; omega) (hnb i hi)).trans ((heap_alloc_old _ _ (by have := hs5.size; omega)).trans (hs5.block i hi hne))⟩
        have HO9 := Lib.hid hO
        have HR9 := Lib.hid hrd9
        have HG9 := Lib.hid hg9
        have HL9 : Hid ((XS ++ [(z1, z2, l)]).length = k + 1) := Lib.hid (by rw [List.length_append, HL.out]; rfl)
        clear hO hrd9 hg9 hnb hE9 g9' lie9 ho5 hb5 hs5 hbb hy6 ho hby h255 hr5 hg5 KS h1 h2 h3 h4
        go_wp2
        go_roundw
        case rel => exact ⟨k + 1, some ⟨g9, 0, none⟩, c9, XS ++ [(z1, z2, l)], s.sym, by omega, by go_num, rfl, HL9, HST, HO9, HR9, HG9⟩
        case measure => simp [intOf] <;> omega
    · obtain rfl : k = N := by omega
      have hm := HM.out
      rw [Nat.sub_self] at hm
      simp only [Sd.many, List.append_nil] at hm
      have HRR := Lib.hid (HR0.out.trans hm)
      clear hm c1
      go_wp2
      go_ret
      (rw [HRR.out]; have hl := HL.out; subst hl; exact ⟨⟨av, cv, rfl, HO.out⟩, HRD.out, HG.out⟩)
set_option maxRecDepth 100000 in
set_option maxHeartbeats 8000000 in
theorem listI_any (b N : Nat) (s0 : Sd) (u w : World) (hu : Below u.heap.size u w) (hub : u.heap.size ≤ b) (hr : RdM u w b s0) (hN : N ≤ 70000) :
    Calls Tryd.prog 60 #[.pointer (some ⟨b, 0, none⟩), .int .i64 N, .func (.func 61) #[.pointer (some ⟨b, 0, none⟩)] #[]] w fun e w' => (∃ a c xs, e = .returned (.slice a (Sd.many Sd.item Sd.itemV N s0).2.length c) ∧ xs.map Prod.fst = (Sd.many Sd.item Sd.itemV N s0).2 ∧ OwI w' w.heap.size a c xs) ∧ RdM u w' b (Sd.many Sd.item Sd.itemV N s0).1 ∧ w.grownBy w' (some b) := by
  obtain ⟨i0, hpi, hz0, hz1, hz2⟩ := info_partsM iinfo
  have hbw := hr.lt
  have HU := Lib.hid hu
  obtain ⟨R, hR⟩ : ∃ R, R = Sd.many Sd.item Sd.itemV N s0 := ⟨_, rfl⟩
  rw [← hR]
  have HR0 := Lib.hid hR
  have H0 := Lib.hid hr
  clear hu hr hR
  go_enter Tryd.func60, Tryd.ntmps60
  go_wp2
  go_loopw [7, 9] (fun vp vi wr => ∃ (k : Nat) (av : Option Addr) (cv : Nat) (XS : List (ItR × HdT)) (s : Sd), k ≤ N ∧ vi = .int .i64 (k : Nat) ∧ vp = .slice av k cv ∧ Hid (XS.length = k) ∧ Hid (Sd.many Sd.item Sd.itemV N s0 = ((Sd.many Sd.item Sd.itemV (N - k) s).1, XS.map Prod.fst ++ (Sd.many Sd.item Sd.itemV (N - k) s).2)) ∧ Hid (OwI wr w.heap.size av cv XS) ∧ Hid (RdM u wr b s) ∧ Hid (w.grownBy wr (some b))) (fun _ vi _ => N - (intOf vi).toNat)
  case atStart => exact ⟨0, none, 0, [], s0, Nat.zero_le _, rfl, rfl, Lib.hid rfl, Lib.hid (by simp), Lib.hid (OwI.nil _ _), H0, Lib.hid (World.grownBy_refl _ _)⟩
  case round =>
    clear H0
    obtain ⟨k, av, cv, XS, s, hk, rfl, rfl, HL, HM, HO, HRD, HG⟩ := hrel
    have hrb := HRD.out
    obtain ⟨ad, n, c, hby, hh⟩ := hrb
    have c1 : wr.cell? ⟨b, 1, none⟩ = some (.bool s.bad) := cell_of_row _ _ 1 _ _ _ hh
    obtain ⟨B, hB⟩ : ∃ B, B = s.bad := ⟨_, rfl⟩
    rw [← hB] at c1
    have HB := Lib.hid hB
    clear hby hh hB
    by_cases hlt : k < N
    · cases B with
      | true =>
        have hm := HM.out
        rw [Sd.many_bad HB.out.symm] at hm
        simp only [List.append_nil] at hm
        have HRR := Lib.hid (HR0.out.trans hm)
        clear hm
        go_wp2
        go_ret
        (rw [HRR.out]; have hl := HL.out; subst hl; exact ⟨⟨av, cv, XS, by simp, rfl, HO.out⟩, HRD.out, HG.out⟩)
      | false =>
        have hst := Sd.many_step HM.out hlt HB.out.symm
        have HST := Lib.hid hst
        have KS := itemM_any b s u wr (below_onM HU.out hub HG.out) hub HRD.out
        have hgs := HG.out.size
        clear hst
        obtain ⟨⟨key, m⟩, hv⟩ : ∃ v, v = s.itemV := ⟨_, rfl⟩
        rw [← hv] at KS HST
        simp only at KS
        obtain ⟨n1, hn1⟩ : ∃ n, n = m.l.length := ⟨_, rfl⟩
        rw [← hn1] at KS
        have HN1 := Lib.hid hn1
        clear hv hn1
        go_wp2_with (first | (go_at_call 61; (with_reducible refine KS.mono ?_); rintro e w5 ⟨ta, tc, rfl, ho, hby, h255, hr5, hg5⟩) | (at_builtin; refine Hid.out ?_))
        refine Lib.hid ?_
        clear c1
        have ho5 := HO.out.grown hg5 hbw
        have hb5 := hg5.size
        have hs5 := HG.out.trans hg5
        have hbb := below_alloc w5 (.cells #[.string key, .int .i64 m.N, .int .i64 m.c, .int .i64 m.s, .int .i64 m.t, .bool m.d, .slice ta n1 tc] IT7)
        have ho6 := ho5.below hbb
        have hy6 := ownsRow_base (ho.alloc (.cells #[.string key, .int .i64 m.N, .int .i64 m.c, .int .i64 m.s, .int .i64 m.t, .bool m.d, .slice ta n1 tc] IT7)) hgs
        have h3 := ho6.own
        rw [HL.out] at h3
        refine wpList_append_lies _ rfl (.tmp 15) (.tmp 18) 28 rfl w.heap.size IT7 i0 (.agg #[.string ⟨#[]⟩, .int .i64 0, .int .i64 0, .int .i64 0, .int .i64 0, .bool false, .slice none 0 0]) 7 80 Tryd.underlying28 hpi hz0 hz1 hz2 rfl (by decide) (.slice av k cv) k (icells XS) rfl h3 ⟨w5.heap.size, 0, none⟩ 1 1 [.string key, .int .i64 m.N, .int .i64 m.c, .int .i64 m.s, .int .i64 m.t, .bool m.d, SV (ta, n1, tc)] rfl rfl (World.news_of_block (heap_alloc_new w5 _)) (by intro u hu; simp at hu; rcases hu with rfl | rfl | rfl | rfl | rfl | rfl | rfl <;> rfl) (by decide) (by simp [maxLen]; omega) (by omega) (by simp; omega) _ rfl ?_
        intro g9 c9 w9 hE9 g9' lie9 _
        have hO := ho6.snoc (it := ⟨key, m⟩) (y := (ta, n1, tc)) (by show _ ; rw [show (ItR.mk key m).m.l.length = n1 from HN1.out.symm]; exact hy6) HN1.out ⟨hby, by rw [← HN1.out]; omega⟩ (by rw [HL.out]; exact hE9) (by rw [HL.out]; exact g9')
        have hnb : ∀ i, i < w.heap.size → some i ≠ (Value.slice av k cv).ownBlock := fun i hi e => by have := (h3.lt i e.symm).1; omega
        have hrd9 := hr5.of_block ((g9'.block b (by have := hr5.lt; simp; omega) (hnb b hbw)).trans (heap_alloc_old _ _ hr5.lt))
        have hg9 : w.grownBy w9 (some b) := ⟨g9'.os.trans hs5.os, g9'.tape.trans hs5.tape, g9'.output.trans hs5.output, by have h1 := g9'.size; have h2 := hs5.size; simp at h1; omega, fun i hi hne => (g9'.block i (by have := hs5.size; simp; omega) (hnb i hi)).trans ((heap_alloc_old _ _ (by have := hs5.size; omega)).trans (hs5.block i hi hne))⟩
        have HO9 := Lib.hid hO
        have HR9 := Lib.hid hrd9
        have HG9 := Lib.hid hg9
        have HL9 : Hid ((XS ++ [((⟨key, m⟩ : ItR), ((ta, n1, tc) : HdT))]).length = k + 1) := Lib.hid (by rw [List.length_append, HL.out]; rfl)
        clear hO hrd9 hg9 hnb hE9 g9' lie9 ho5 hb5 hs5 hbb hy6 ho hby h255 hr5 hg5 KS h3
        go_wp2
        go_roundw
        case rel => exact ⟨k + 1, some ⟨g9, 0, none⟩, c9, XS ++ [((⟨key, m⟩ : ItR), ((ta, n1, tc) : HdT))], s.item, by omega, by go_num, rfl, HL9, Lib.hid (by have := HST.out; rw [List.map_append]; exact this), HO9, HR9, HG9⟩
        case measure => simp [intOf] <;> omega
    · obtain rfl : k = N := by omega
      have hm := HM.out
      rw [Nat.sub_self] at hm
      simp only [Sd.many, List.append_nil] at hm
      have HRR := Lib.hid (HR0.out.trans hm)
      clear hm c1
      go_wp2
      go_ret
      (rw [HRR.out]; have hl := HL.out; subst hl; exact ⟨⟨av, cv, XS, by simp, rfl, HO.out⟩, HRD.out, HG.out⟩)

end Go.Proofs.YtopnjjehefaghaaDoor
