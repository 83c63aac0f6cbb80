/-
  rilllaw05: ChunkMore.
-/
import Derived.Maps.AppendAt
import Derived.Test.YtfjcbgfgiidogaaDoorMCiC
namespace Go.Proofs.YtfjcbgfgiidogaaDoor
open Go.RowKit

theorem OwnS.lt {w : World} {B : Nat} {a : Option Addr} {n c : Nat} {ss : List Sy} (h : OwnS w B a n c ss) : ∀ g, (Value.slice a n c).ownBlock = some g → B ≤ g ∧ g < w.heap.size := fun g hg => by
  obtain ⟨-, xs, -, h3, -⟩ := h
  exact h3.lt g hg
theorem OwnS.keepS {w w' : World} {B B2 : Nat} {a a2 : Option Addr} {n c n2 c2 : Nat} {ss tt : List Sy} (h : OwnS w B a n c ss) (h' : OwnS w B2 a2 n2 c2 tt) (hg : w.grownBy w' (Value.slice a2 n2 c2).ownBlock) (hne : (Value.slice a n c).ownBlock = none ∨ (Value.slice a n c).ownBlock ≠ (Value.slice a2 n2 c2).ownBlock) : OwnS w' B a n c ss := by
  obtain ⟨h1, xs, h2, h3, h4⟩ := h
  obtain ⟨-, ys, -, k3, -⟩ := h'
  refine ⟨h1, xs, h2, h3.kept hg hne, fun i x p a b => ?_⟩
  obtain ⟨q0, q1, q2, q3, q4, q5⟩ := h4 i x p a b
  exact ⟨q0, q1, q2, q3.kept hg (own_ne q3 k3 (by decide)), q4, q5⟩
theorem wpList_append_sy2 {w : World} {ops : Array Oper} {rest : List Oper} {o : Oper} {a : Act} {Q : Exit → Act → World → Prop} (hgd : o.guard = none) (s x : Operand)
    (ho : o.op = .call { callee := .builtin .append, args := #[s, x], argTypes := #[37, 37] })
    (B : Nat) (a1 : Option Addr) (n c : Nat) (ss : List Sy) (hs : a.eval s = .slice a1 n c) (h1 : OwnS w B a1 n c ss) (a2 : Option Addr) (m c2 : Nat) (tt : List Sy) (hx : a.eval x = .slice a2 m c2) (h2 : OwnS w B a2 m c2 tt)
    (hn : n + m ≤ 1000000) (hB : B ≤ w.heap.size)
    (h : ∀ a9 c9 w', OwnS w' B a9 (n + m) c9 (ss ++ tt) → w.grownBy w' (Value.slice a1 n c).ownBlock → ((Value.slice a9 (n + m) c9).ownBlock = (Value.slice a1 n c).ownBlock ∨ (Value.slice a9 (n + m) c9).ownBlock = some w.heap.size) → wpList Tryd.prog ops Q rest (a.put o.dst (.slice a9 (n + m) c9)) w') : wpList Tryd.prog ops Q (o :: rest) a w := by
  obtain ⟨i0, hpi, hz0, hz1, hz2⟩ := info_parts sinfo
  obtain ⟨e1, xs, e2, e3, e4⟩ := h1
  obtain ⟨f1, ys, f2, f3, f4⟩ := h2
  have hyl := scells_length ys
  have fin : ∀ v' w', w'.ownsRow B ST3 3 v' (n + m) (scells xs ++ scells ys) → w.grownBy w' (Value.slice a1 n c).ownBlock → (v'.ownBlock = (Value.slice a1 n c).ownBlock ∨ v'.ownBlock = some w.heap.size) → wpList Tryd.prog ops Q rest (a.put o.dst v') w' := fun v' w' hE hg hl => by
    obtain ⟨a9, c9, rfl⟩ : ∃ a9 c9, v' = .slice a9 (n + m) c9 := by
      rcases hE.2 with ⟨e, h0⟩ | ⟨g, cap, cur, e, _⟩
      · exact ⟨none, 0, by rw [e, h0]⟩
      · exact ⟨_, cap, e⟩
    exact h a9 c9 w' (OwnS.joined e2 e1 e3 e4 f2 f1 f4 hE hg) hg hl
  rcases f3.2 with ⟨e, h0⟩ | ⟨g, cap, cur, e, _, hg, _⟩
  · injection e with q1 q2 q3
    subst q1 q2 q3
    have hy : ys = [] := List.eq_nil_of_length_eq_zero f2
    subst hy
    refine wpList_append_own_none hgd s x 37 ho B ST3 i0 3 Tryd.underlying37 hpi _ n (scells xs) hs e3 hx (fin _ w ?_ (World.grownBy_refl _ _) (.inl rfl))
    simpa [scells] using e3
  · injection e with q1 q2 q3
    subst q1 q3
    refine wpList_append_own_at w hgd s x 37 ho B ST3 i0 (.agg #[.int .i64 0, .int .i64 0, .slice none 0 0]) 3 40 Tryd.underlying37 hpi hz0 hz1 hz2 rfl (by decide) _ n (scells xs) hs e3 ⟨g, 0, none⟩ m c2 (scells ys) hx (by rw [hyl, f2]) (fun j u hj => ?_) (scells_one ys) (by simp [maxLen]; omega) (by omega) hB (fun v' w' hE hg _ hl => fin v' w' hE hg hl)
    have hjm : j < m * 3 := by have := (List.getElem?_eq_some_iff.1 hj).1; omega
    have hc := f3.cellAt j hjm
    rw [hj] at hc
    rw [← hc]
    unfold Addr.add
    split
    · rename_i e0; subst e0; rfl
    · simp
set_option maxRecDepth 100000 in
set_option maxHeartbeats 16000000 in
theorem chunkMore_walk (va : Option Addr) (vn vc : Nat) (v : List Nat) (t : Int) (la : Option Addr) (ln lc : Nat) (Y : Nat → Int) (Hd : Nat → Option Addr × Nat × Nat) (L : Nat → List Int) (w : World) (hg : Bnd w) (hv : BytesV w (va, vn, vc) v) (_s0 : vn ≤ 140737488351232) (_w1 : (Lit.int .i64 t).wf = true) (hl : TakesV w la ln lc Y Hd L) :
    Calls Tryd.prog 10 #[.slice va vn vc, .int .i64 t, .slice la ln lc] w fun e w' => e = .returned (.bool true) ∧ Below w.heap.size w w' := by
  have KA := alive5_any w hg
  have HG := Lib.hid hg
  have HVL := Lib.hid (show v.length = vn from hv.length)
  have HVB := Lib.hid hv.bytes
  have HV := Lib.hid hv
  have HTK := Lib.hid hl
  clear hg hv _w1 hl
  by_cases q1 : (vn : Int) < 1
  · go_enter Tryd.func10, Tryd.ntmps10
    go_wp2_with fail
    (with_reducible refine KA.mono ?_)
    rintro e w1 ⟨rfl, b1⟩
    clear KA
    go_wp2
    go_ret
    exact ⟨rfl, b1⟩
  by_cases q2 : (200 : Int) < (vn : Int)
  · go_enter Tryd.func10, Tryd.ntmps10
    go_wp2_with fail
    (with_reducible refine KA.mono ?_)
    rintro e w1 ⟨rfl, b1⟩
    clear KA
    go_wp2
    go_ret
    exact ⟨rfl, b1⟩
  by_cases q3 : t < 1
  · go_enter Tryd.func10, Tryd.ntmps10
    go_wp2_with fail
    (with_reducible refine KA.mono ?_)
    rintro e w1 ⟨rfl, b1⟩
    clear KA
    go_wp2
    go_ret
    exact ⟨rfl, b1⟩
  by_cases q4 : 64 < t
  · go_enter Tryd.func10, Tryd.ntmps10
    go_wp2_with fail
    (with_reducible refine KA.mono ?_)
    rintro e w1 ⟨rfl, b1⟩
    clear KA
    go_wp2
    go_ret
    exact ⟨rfl, b1⟩
  by_cases q5 : (10 : Int) < (ln : Int)
  · go_enter Tryd.func10, Tryd.ntmps10
    go_wp2_with fail
    (with_reducible refine KA.mono ?_)
    rintro e w1 ⟨rfl, b1⟩
    clear KA
    go_wp2
    go_ret
    exact ⟨rfl, b1⟩
  obtain ⟨T, rfl⟩ : ∃ T : Nat, t = (T : Nat) := ⟨t.toNat, by omega⟩
  have HTRI := Lib.hid (fun (b : Int) (es : List Int) => syms_tri (v := v) (t := T) (b := b) HVB.out (by rw [HVL.out]; omega) (by rw [HVL.out]; omega) (by omega) (by omega) es)
  have HGA := Lib.hid (fun (ss : List Sy) (h : ∀ s ∈ ss, Genuine v T s) (hc : ss.length ≤ 128) => by
    have := gather_gen (v := v) (t := T) HVB.out (by rw [HVL.out]; omega) (by rw [HVL.out]; omega) (by omega) (by omega) h (fun i _ => Nat.le_trans (ofBlock_count ss i) hc)
    rw [HVL.out] at this
    exact this)
  have HMO := Lib.hid (fun (ss tt : List Sy) (hs : ∀ s ∈ ss, Genuine v T s) (ht : ∀ s ∈ tt, Genuine v T s) (hsub : ∀ s ∈ ss, s ∈ tt) (hc : tt.length ≤ 128) (h : readyB (vn : Int) (T : Int) ss = true) => by
    have := ready_more (v := v) (t := T) HVB.out (by rw [HVL.out]; omega) (by rw [HVL.out]; omega) (by omega) (by omega) hs ht hsub (fun i _ => Nat.le_trans (ofBlock_count tt i) hc) (by rw [HVL.out]; exact h)
    rw [HVL.out] at this
    exact this)
  go_enter Tryd.func10, Tryd.ntmps10
  go_wp2_with fail
  (with_reducible refine KA.mono ?_)
  rintro e w2 ⟨rfl, hb⟩
  have HB := Lib.hid hb
  have hs2 := hb.size
  have HO0 : Hid (OwnS ((w2.alloc (.cells #[] ST3)).alloc (.cells #[] ST3)) w2.heap.size (some ⟨w2.heap.size, 0, none⟩) 0 0 []) := Lib.hid ((OwnS.madeS (Nat.le_refl _)).below (below_alloc _ _))
  have HP0 : Hid (OwnS ((w2.alloc (.cells #[] ST3)).alloc (.cells #[] ST3)) w2.heap.size (some ⟨w2.heap.size + 1, 0, none⟩) 0 0 []) := Lib.hid (by
    have := OwnS.madeS (w := w2.alloc (.cells #[] ST3)) (B := w2.heap.size) (by simp)
    simpa using this)
  have HD0 : Hid (∀ g, (Value.slice (some ⟨w2.heap.size, 0, none⟩) 0 0).ownBlock = some g → (Value.slice (some ⟨w2.heap.size + 1, 0, none⟩) 0 0).ownBlock ≠ some g) := Lib.hid (fun g h => by
    simp [Value.ownBlock] at h ⊢; omega)
  have HBA := Lib.hid ((below_alloc w2 (.cells #[] ST3)).alloc (by simp) (.cells #[] ST3))
  have HG0 : Hid ((∀ s ∈ ([] : List Sy), Genuine v T s) ∧ ∀ s ∈ ([] : List Sy), s ∈ ([] : List Sy)) := Lib.hid ⟨fun s h => by (cases h), fun s h => by (cases h)⟩
  clear KA hb
  go_wp2_with fail
  go_loopw [7, 8, 9] (fun vs va' vi wr => ∃ (i p m : Nat) (sv : Option Addr) (sc : Nat) (av : Option Addr) (cv : Nat) (SS AS : List Sy), i ≤ ln ∧ p ≤ i * 12 ∧ m ≤ i * 12 ∧ vi = .int .i64 (i : Nat) ∧ vs = .slice sv p sc ∧ va' = .slice av m cv ∧ Hid ((∀ s ∈ AS, Genuine v T s) ∧ ∀ s ∈ SS, s ∈ AS) ∧ Hid (OwnS wr w2.heap.size sv p sc SS) ∧ Hid (OwnS wr w2.heap.size av m cv AS) ∧ Hid (∀ g, (Value.slice sv p sc).ownBlock = some g → (Value.slice av m cv).ownBlock ≠ some g) ∧ Hid (Below w2.heap.size w2 wr)) (fun _ _ vi _ => (ln - intOf vi).toNat)
  case atStart => exact ⟨0, 0, 0, _, _, _, _, [], [], Nat.zero_le _, Nat.le_refl _, Nat.le_refl _, rfl, rfl, rfl, HG0, HO0, HP0, HD0, HBA⟩
  case round =>
    clear HG0 HO0 HP0 HD0 HBA
    obtain ⟨i, p, m, sv, sc, av, cv, SS, AS, hil, hp, hm, rfl, rfl, rfl, HGN, HS, HO, HD, HBR⟩ := hrel
    have hsr := HBR.out.size
    have HBW := Lib.hid (HB.out.trans (HBR.out.mono hs2))
    by_cases hlt : i < ln
    · obtain ⟨lb, lo, rfl, -, hcell⟩ := (HTK.out.below HBW.out).row (by omega)
      obtain ⟨k0, k1, k2⟩ := hcell i hlt
      obtain ⟨y, hy⟩ : ∃ y, y = Y i := ⟨_, rfl⟩
      obtain ⟨X, hX⟩ : ∃ X, X = Hd i := ⟨_, rfl⟩
      obtain ⟨es, hes⟩ : ∃ x, x = L i := ⟨_, rfl⟩
      rw [← hy] at k0
      rw [← hX] at k1 k2
      rw [← hes] at k2
      obtain ⟨ea, en, ec⟩ := X
      simp only at k1 k2
      clear hy hX hes hcell
      by_cases h40 : (12 : Int) < (en : Int)
      · clear k0 k2
        go_wp2
        go_ret
        exact ⟨rfl, HBW.out⟩
      have K0 : wr.cell? ⟨lb, lo + i * 2, none⟩ = some (.int .i64 y) ∧ wr.cell? ⟨lb, lo + i * 2 + 1, none⟩ = some (.slice ea en ec) := ⟨k0, k1⟩
      have hI := k2 (by omega)
      have HEL := Lib.hid (show es.length = en from hI.length)
      have HI := Lib.hid hI
      have HVR := Lib.hid (HV.out.below HBW.out)
      have HGR := Lib.hid (HG.out.below HBW.out)
      have KS := fun a5 c5 a6 c6 W h k g => syms_any a5 vn c5 v (T : Int) y a6 en c6 es W h k (by omega) g
      have htri := HTRI.out y es
      obtain ⟨S, hS⟩ : ∃ S, S = symbolsR v (T : Int) y es := ⟨_, rfl⟩
      simp only [← hS] at KS htri
      obtain ⟨SL, scode⟩ := S
      simp only at htri
      rw [HEL.out] at htri
      have HTR := Lib.hid htri
      have hi0 : (0 : Int) ≤ (i : Int) := by omega
      have hi1 : (i : Int) < (ln : Int) := by omega
      clear hS hI k0 k2 htri
      go_wp2_with fail
      go_region_held3 (fun w' => w'.cell? ⟨lb, lo + i * 2, none⟩ = some (.int .i64 y) ∧ w'.cell? ⟨lb, lo + i * 2 + 1, none⟩ = some (.slice ea en ec)) (first | exact K0 | exact K5 | exact K6 | exact K7 | go_keep)
        (first
          | (go_at_call 33; (with_reducible refine (copyBytes_any va vn vc v _ ?hh).mono ?_); (case hh => exact HVR.out.below ⟨rfl, rfl, rfl, Nat.le_refl _, fun _ _ => rfl⟩); rintro e w5 ⟨a5, c5, rfl, o5, d5⟩; have b5 : Below wr.heap.size wr w5 := ⟨d5.os, d5.tape, d5.output, d5.size, d5.block⟩; rw [HVL.out] at o5 ⊢; have H5 := Lib.hid (bytesV_of_owns o5 HVB.out (by omega)); have K5 : w5.cell? ⟨lb, lo + i * 2, none⟩ = some (.int .i64 y) ∧ w5.cell? ⟨lb, lo + i * 2 + 1, none⟩ = some (.slice ea en ec) := ⟨cell_below K0.1 b5, cell_below K0.2 b5⟩)
          | (go_at_call 24; (with_reducible refine (copyInts_rd ea en ec es _ ?hh (by omega)).mono ?_); (case hh => exact (HI.out.below b5).below ⟨rfl, rfl, rfl, Nat.le_refl _, fun _ _ => rfl⟩); rintro e w6 ⟨a6, c6, rfl, o6, d6⟩; have b6 : Below w5.heap.size w5 w6 := ⟨d6.os, d6.tape, d6.output, d6.size, d6.block⟩; rw [HEL.out] at o6 ⊢; have H6 := Lib.hid (intsV_ownQ o6 (by omega)); have K6 : w6.cell? ⟨lb, lo + i * 2, none⟩ = some (.int .i64 y) ∧ w6.cell? ⟨lb, lo + i * 2 + 1, none⟩ = some (.slice ea en ec) := ⟨cell_below K5.1 b6, cell_below K5.2 b6⟩)
          | (go_at_call 23; (with_reducible refine (KS a5 c5 a6 c6 _ ?hv ?he ?hg).mono ?_); (case hv => exact (H5.out.below b6).below ⟨rfl, rfl, rfl, Nat.le_refl _, fun _ _ => rfl⟩); (case he => exact H6.out.below ⟨rfl, rfl, rfl, Nat.le_refl _, fun _ _ => rfl⟩); (case hg => exact (HGR.out.below (b5.trans (b6.mono b5.size))).below ⟨rfl, rfl, rfl, Nat.le_refl _, fun _ _ => rfl⟩); rintro e w7 ⟨a7, c7, rfl, o7, d7⟩; have b7 : Below w6.heap.size w6 w7 := ⟨d7.os, d7.tape, d7.output, d7.size, d7.block⟩; have K7 : w7.cell? ⟨lb, lo + i * 2, none⟩ = some (.int .i64 y) ∧ w7.cell? ⟨lb, lo + i * 2 + 1, none⟩ = some (.slice ea en ec) := ⟨cell_below K6.1 b7, cell_below K6.2 b7⟩; have O7 : OwnS w7 w6.heap.size a7 SL.length c7 SL := o7; simp only))
      have hb7 := b5.trans ((b6.trans (b7.mono b6.size)).mono b5.size)
      have HB7 := Lib.hid (HBR.out.trans (hb7.mono hsr))
      have HBW7 := Lib.hid (HB.out.trans (HB7.out.mono hs2))
      have h67 : wr.heap.size ≤ w6.heap.size := by have h1 := b5.size; have h2 := b6.size; omega
      have HO7 := Lib.hid (O7.rebase (show w2.heap.size ≤ w6.heap.size by omega))
      have O7L := Lib.hid O7.lt
      have HOA := Lib.hid (HO.out.below hb7)
      have HSA := Lib.hid (HS.out.below hb7)
      have HSL := Lib.hid HS.out.lt
      have hs7 := HB7.out.size
      clear hb7 b5 b6 b7 d5 d6 d7 o5 o6 o7 O7 H5 H6 K0 K5 K6 K7 KS HI HVR HGR HO HS HBR HBW k1
      rcases HTR.out with ⟨rfl, hnil, -⟩ | ⟨rfl, hnil⟩ | ⟨rfl, hgen, hlen⟩
      · subst hnil
        clear HTR HO7 HOA HSA O7L HSL HD
        go_wp2
        go_ret
        exact ⟨rfl, HBW7.out⟩
      · subst hnil
        clear HTR HO7 HOA HSA O7L HSL HD
        go_wp2
        go_ret
        exact ⟨rfl, HBW7.out⟩
      · have HGE := Lib.hid hgen
        obtain ⟨sl, hsl⟩ : ∃ x, x = SL.length := ⟨_, rfl⟩
        rw [← hsl] at hlen HO7 O7L ⊢
        have hsl12 : sl ≤ 12 := by omega
        have hwl : wrap64 ((ln : Int) - 1) = (ln : Int) - 1 := IntWalk.wrap64_in _ (by omega)
        clear HTR hgen hsl hlen
        by_cases hlast : (i : Int) < (ln : Int) - 1
        · have HG9 : Hid ((∀ s ∈ SL ++ AS, Genuine v T s) ∧ ∀ s ∈ SS ++ SL, s ∈ SL ++ AS) := Lib.hid ⟨fun s hs => by
            rcases List.mem_append.1 hs with h | h
            · exact HGE.out s h
            · exact HGN.out.1 s h, fun s hs => by
            rcases List.mem_append.1 hs with h | h
            · exact List.mem_append_right _ (HGN.out.2 s h)
            · exact List.mem_append_left _ h⟩
          go_wp2_with (first | (at_builtin; refine Hid.out ?_))
          refine Lib.hid ?_
          refine wpList_append_sy2 rfl _ _ rfl w2.heap.size sv p sc SS rfl HSA.out a7 sl c7 SL rfl HO7.out (by omega) hs7 ?_
          intro a8 c8 w8 hS8 g8 l8
          have HB8 := Lib.hid (below_grown HB7.out g8 (fun k hk => (HSA.out.lt k hk).1))
          have hs8 := HB8.out.size
          have HS8 := Lib.hid hS8
          have HA8 := Lib.hid (HOA.out.keepS HSA.out g8 (by
            cases hk : (Value.slice sv p sc).ownBlock with
            | none => cases hk2 : (Value.slice av m cv).ownBlock with
              | none => exact .inl rfl
              | some g => exact .inr (by simp)
            | some g => exact .inr (HD.out g hk)))
          have HO8 := Lib.hid (HO7.out.keepS HSA.out g8 (by
            cases hk2 : (Value.slice a7 sl c7).ownBlock with
            | none => exact .inl rfl
            | some g =>
              refine .inr (fun e => ?_)
              have h1 := (O7L.out g hk2).1
              have h2 := (HSL.out g e.symm).2
              omega))
          have HN8 : Hid (∀ g, (Value.slice a8 (p + sl) c8).ownBlock = some g → (Value.slice a7 sl c7).ownBlock ≠ some g) := Lib.hid (fun g hk e => by
            have h1 := O7L.out g e
            rcases l8 with h | h
            · have h2 := (HSL.out g (by rw [← h]; exact hk)).2
              omega
            · rw [h] at hk
              injection hk with hk
              omega)
          clear hS8 g8 l8 HB7 HSL
          go_wp2_with (first | (at_builtin; refine Hid.out ?_))
          refine Lib.hid ?_
          refine wpList_append_sy2 rfl _ _ rfl w2.heap.size a7 sl c7 SL rfl HO8.out av m cv AS rfl HA8.out (by omega) hs8 ?_
          intro a9 c9 w9 hO9 g9 l9
          have HB9 := Lib.hid (below_grown HB8.out g9 (fun k hk => (HO8.out.lt k hk).1))
          have HS9 := Lib.hid (HS8.out.keepS HO8.out g9 (by
            cases hk : (Value.slice a8 (p + sl) c8).ownBlock with
            | none => exact .inl rfl
            | some g => exact .inr (fun e => HN8.out g hk (by rw [← e]))))
          have HD9 : Hid (∀ g, (Value.slice a8 (p + sl) c8).ownBlock = some g → (Value.slice a9 (sl + m) c9).ownBlock ≠ some g) := Lib.hid (fun g hk e => by
            rcases l9 with h | h
            · exact HN8.out g hk (by rw [← h]; exact e)
            · rw [h] at e
              have h2 := (HS8.out.lt g hk).2
              injection e with e
              omega)
          have HO9 := Lib.hid hO9
          clear hO9 g9 l9 HO8 HA8 HS8 HN8 HO7 HOA HSA O7L HD
          go_wp2
          go_roundw
          case rel => exact ⟨i + 1, (p + sl), sl + m, a8, c8, a9, c9, SS ++ SL, SL ++ AS, by omega, by omega, by omega, by go_num, rfl, rfl, HG9, HS9, HO9, HD9, HB9⟩
          case measure => simp [intOf]; omega
        · have HG9 : Hid ((∀ s ∈ SL ++ AS, Genuine v T s) ∧ ∀ s ∈ SS, s ∈ SL ++ AS) := Lib.hid ⟨fun s hs => by
            rcases List.mem_append.1 hs with h | h
            · exact HGE.out s h
            · exact HGN.out.1 s h, fun s hs => List.mem_append_right _ (HGN.out.2 s hs)⟩
          have HN8 : Hid (∀ g, (Value.slice sv p sc).ownBlock = some g → (Value.slice a7 sl c7).ownBlock ≠ some g) := Lib.hid (fun g hk e => by
            have h1 := (O7L.out g e).1
            have h2 := (HSL.out g hk).2
            omega)
          have HB8 := HB7
          have hs8 := hs7
          have HS8 := HSA
          have HA8 := HOA
          have HO8 := HO7
          clear HB7 HSL
          go_wp2_with (first | (at_builtin; refine Hid.out ?_))
          refine Lib.hid ?_
          refine wpList_append_sy2 rfl _ _ rfl w2.heap.size a7 sl c7 SL rfl HO8.out av m cv AS rfl HA8.out (by omega) hs8 ?_
          intro a9 c9 w9 hO9 g9 l9
          have HB9 := Lib.hid (below_grown HB8.out g9 (fun k hk => (HO8.out.lt k hk).1))
          have HS9 := Lib.hid (HS8.out.keepS HO8.out g9 (by
            cases hk : (Value.slice sv p sc).ownBlock with
            | none => exact .inl rfl
            | some g => exact .inr (fun e => HN8.out g hk (by rw [← e]))))
          have HD9 : Hid (∀ g, (Value.slice sv p sc).ownBlock = some g → (Value.slice a9 (sl + m) c9).ownBlock ≠ some g) := Lib.hid (fun g hk e => by
            rcases l9 with h | h
            · exact HN8.out g hk (by rw [← h]; exact e)
            · rw [h] at e
              have h2 := (HS8.out.lt g hk).2
              injection e with e
              omega)
          have HO9 := Lib.hid hO9
          clear hO9 g9 l9 HO8 HA8 HS8 HN8 HO7 HOA HSA O7L HD
          go_wp2
          go_roundw
          case rel => exact ⟨i + 1, p, sl + m, sv, sc, a9, c9, SS, SL ++ AS, by omega, by omega, by omega, by go_num, rfl, rfl, HG9, HS9, HO9, HD9, HB9⟩
          case measure => simp [intOf]; omega
    · obtain rfl : i = ln := by omega
      have HSY := Lib.hid HS.out.sy
      have HAY := Lib.hid HO.out.sy
      have HAL := Lib.hid HO.out.len
      have HGS := Lib.hid (show ∀ s ∈ SS, Genuine v T s from fun s hs => HGN.out.1 s (HGN.out.2 s hs))
      have hrm := HMO.out SS AS HGS.out HGN.out.1 HGN.out.2 (by rw [HAL.out]; omega)
      have hga := HGA.out AS HGN.out.1 (by rw [HAL.out]; omega)
      have KR1 := fun a c W h g => ready_any (vn : Int) (T : Int) a p c SS W h (by omega) g
      have KR2 := fun W h g => ready_any (vn : Int) (T : Int) av m cv AS W h (by omega) g
      have KG := fun W h g => gather_any (vn : Int) (T : Int) av m cv AS W h (by omega) g
      obtain ⟨R1, hR1⟩ : ∃ R, R = readyB (vn : Int) (T : Int) SS := ⟨_, rfl⟩
      simp only [← hR1] at KR1 hrm
      have HRM := Lib.hid hrm
      have HGAA := Lib.hid hga
      clear HTRI HTK HGA HMO HS HO HD hR1 hrm hga HGN HGS
      go_wp2_with fail
      (with_reducible refine (copySyms_own sv p sc SS _ HSY.out (by omega)).mono ?_)
      rintro e w3 ⟨a3, c3, rfl, o3, b3⟩
      have HB3 := Lib.hid (HBW.out.trans (b3.mono HBW.out.size))
      have HA3 := Lib.hid (HAY.out.below b3)
      have HS3 := Lib.hid o3.sy
      clear b3 o3 HSY HAY
      go_wp2_with fail
      (with_reducible refine (KR1 _ _ _ HS3.out (HG.out.below HB3.out)).mono ?_)
      rintro e w4 ⟨rfl, b4⟩
      have HB4 := Lib.hid (HB3.out.trans (b4.mono HB3.out.size))
      have HA4 := Lib.hid (HA3.out.below b4)
      clear b4 KR1 HS3 HA3
      cases R1 with
      | false =>
        go_wp2
        go_ret
        exact ⟨rfl, HB4.out⟩
      | true =>
        have hR2 := HRM.out rfl
        have hg2 := HGAA.out
        rw [hR2] at hg2
        rw [if_pos rfl] at hg2
        simp only [hR2] at KR2
        simp only [hg2] at KG
        clear HRM HGAA hR2 hg2
        go_wp2_with fail
        (with_reducible refine (KG _ HA4.out (HG.out.below HB4.out)).mono ?_)
        rintro e w5 ⟨a5, c5, rfl, o5, b5⟩
        simp only [HVL.out] at o5 ⊢
        have HB5 := Lib.hid (HB4.out.trans (b5.mono HB4.out.size))
        have HA5 := Lib.hid (HA4.out.below b5)
        have HO5 := Lib.hid o5
        clear KG b5 o5 HA4
        go_wp2_with fail
        (with_reducible refine (KR2 _ HA5.out (HG.out.below HB5.out)).mono ?_)
        rintro e w6 ⟨rfl, b6⟩
        have HB6 := Lib.hid (HB5.out.trans (b6.mono HB5.out.size))
        have KQ := sameBytes_any a5 vn c5 v va vn vc v w6 (HO5.out.below b6) (HV.out.below HB6.out)
        rw [decide_eq_true rfl] at KQ
        clear KR2 b6 HA5 HO5
        go_wp2_with fail
        (with_reducible refine KQ.mono ?_)
        rintro e w7 ⟨rfl, b7⟩
        go_wp2
        go_ret
        exact ⟨rfl, HB6.out.trans (b7.mono HB6.out.size)⟩
end Go.Proofs.YtfjcbgfgiidogaaDoor
