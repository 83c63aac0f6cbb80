/-
  rilllaw02: rows of the call's own; LinGrows.
-/
import Derived.Test.YtgnnfpnkhemimaaLjA
namespace Go.Proofs.Ytgnnfpnkhemimaa
open Go.RowKit

/-- rows that the call made itself. -/
def OwnRs (w : World) (B : Nat) (a : Option Addr) (n c : Nat) (ls : List (List Nat)) : Prop :=
  ls.length = n ∧ ∃ hs, w.ownsRow B 34 1 (.slice a n c) n (hs.map SV) ∧ OwnsRows w B 5 hs ls ∧ Mem ls
theorem OwnRs.rd {w : World} {B : Nat} {a : Option Addr} {n c : Nat} {ls : List (List Nat)} (h : OwnRs w B a n c ls) : RD w a n ls := by
  obtain ⟨_, hs, h1, h2, h3⟩ := h
  exact rd_of_owns h1 h2 h3
theorem OwnRs.below {w w' : World} {B : Nat} {a : Option Addr} {n c : Nat} {ls : List (List Nat)} (h : OwnRs w B a n c ls) (hb : Below w.heap.size w w') : OwnRs w' B a n c ls := by
  obtain ⟨h0, hs, h1, h2, h3⟩ := h
  exact ⟨h0, hs, h1.kept (grownBy_of_below hb none) (by cases (Value.slice a n c).ownBlock <;> simp), h2.below hb, h3⟩
theorem OwnRs.alloc {w : World} {B : Nat} {a : Option Addr} {n c : Nat} {ls : List (List Nat)} (h : OwnRs w B a n c ls) (o : Obj) : OwnRs (w.alloc o) B a n c ls := h.below (below_alloc _ _)
theorem OwnRs.rebase {w : World} {B B' : Nat} {a : Option Addr} {n c : Nat} {ls : List (List Nat)} (h : OwnRs w B a n c ls) (hb : B' ≤ B) : OwnRs w B' a n c ls := by
  obtain ⟨h0, hs, h1, h2, h3⟩ := h
  exact ⟨h0, hs, ownsRow_base h1 hb, ⟨h2.1, fun i x l a b => ⟨(h2.2 i x l a b).1, ownsRow_base (h2.2 i x l a b).2 hb⟩⟩, h3⟩
theorem copyRows_own (a : Option Addr) (n c : Nat) (ls : List (List Nat)) (w : World) (h : RD w a n ls) (hn : n * 24 ≤ 140737488351232) :
    Calls Try.prog 14 #[.slice a n c] w fun e w' => ∃ a' c', e = .returned (.slice a' n c') ∧ OwnRs w' w.heap.size a' n c' ls ∧ Below w.heap.size w w' := by
  have hb := h.mem
  obtain ⟨h1, hs, h2, h3⟩ := h
  subst h1
  exact (copyRows_any a _ c hs ls w h2 hn h3).mono fun e w' ⟨ad, cap, hs', he, ho, hO, hbl⟩ => ⟨ad, cap, he, ⟨rfl, hs', ho, hO, hb⟩, hbl⟩
/-- behind append of one row. -/
theorem append_rd {wm w' : World} {B n : Nat} {a : Option Addr} {c : Nat} {hs : List HdT} {ls : List (List Nat)} {v' : Value} {x : HdT} {l : List Nat} (ho : wm.ownsRow B 34 1 (.slice a n c) n (hs.map SV)) (hO : OwnsRows wm B 5 hs ls) (hm : Mem ls)
    (hE : w'.ownsRow B 34 1 v' (n + 1) (hs.map SV ++ [SV x])) (g : wm.grownBy w' (Value.slice a n c).ownBlock) (hx : BytesV w' x l) : ∃ a' c', v' = .slice a' (n + 1) c' ∧ RD w' a' (n + 1) (ls ++ [l]) := by
  obtain ⟨a', c', rfl, -, -, -, hrow⟩ := ownsRow_parts hE
  have hn : hs.length = n := by have := ho.1; simpa using this
  have hls : ls.length = n := by rw [← hO.1, hn]
  have hO' : OwnsRows w' B 5 hs ls := hO.kept g fun i y m h1 h2 => own_ne (hO.2 i y m h1 h2).2 ho (by decide)
  refine ⟨a', c', rfl, by simp [hls], hs ++ [x], by rw [List.map_append]; exact hrow, by simp [hO.1], fun i y m h1 h2 => ?_⟩
  have hR := hO'.rowsV hm
  by_cases hi : i < hs.length
  · rw [List.getElem?_append_left hi] at h1
    rw [List.getElem?_append_left (by rw [← hO.1]; exact hi)] at h2
    exact hR.2 i y m h1 h2
  · rw [List.getElem?_append_right (by omega)] at h1
    rw [List.getElem?_append_right (by rw [← hO.1]; omega), ← hO.1] at h2
    have hi0 := (List.getElem?_eq_some_iff.1 h1).1
    simp only [List.length_cons, List.length_nil] at hi0
    have e0 : i - hs.length = 0 := by omega
    rw [e0] at h1 h2
    simp at h1 h2
    subst h1 h2
    exact hx
theorem append_own {wm w' : World} {B n : Nat} {a : Option Addr} {c : Nat} {hs : List HdT} {ls : List (List Nat)} {v' : Value} {x : HdT} {l : List Nat} (ho : wm.ownsRow B 34 1 (.slice a n c) n (hs.map SV)) (hO : OwnsRows wm B 5 hs ls) (hm : Mem ls)
    (hE : w'.ownsRow B 34 1 v' (n + 1) (hs.map SV ++ [SV x])) (g : wm.grownBy w' (Value.slice a n c).ownBlock) (hx : wm.ownsRow B 5 1 (SV x) l.length (l.map bv)) (hxl : x.2.1 = l.length) (hl : Bytes l ∧ l.length ≤ 140737488355328) : ∃ a' c', v' = .slice a' (n + 1) c' ∧ OwnRs w' B a' (n + 1) c' (ls ++ [l]) := by
  obtain ⟨a', c', rfl, -⟩ := ownsRow_parts hE
  have hn : hs.length = n := by have := ho.1; simpa using this
  have hls : ls.length = n := by rw [← hO.1, hn]
  have hO' : OwnsRows w' B 5 hs ls := hO.kept g fun i y m h1 h2 => own_ne (hO.2 i y m h1 h2).2 ho (by decide)
  have hx' := hx.kept g (own_ne hx ho (by decide))
  refine ⟨a', c', rfl, by simp [hls], hs ++ [x], by rw [List.map_append]; exact hE, hO'.snoc hxl hx', fun m hm' => ?_⟩
  rcases List.mem_append.1 hm' with h | h
  · exact hm m h
  · simp only [List.mem_singleton] at h
    subst h
    exact hl

theorem grows_all {cols : Int} {rows : List (List Nat)} {row : List Nat} (hr : Mem rows) (hw : Bytes row) (hn : rows.length ≤ 255) :
    (rightB cols rows = false ∧ rankR cols rows = (0, 20)) ∨
    (rightB cols rows = true ∧ (row.length : Int) ≠ cols ∧ rankR cols rows = (rankOf cols.toNat rows, 0) ∧ rankR cols (rows ++ [row]) = (0, 20)) ∨
    (rightB cols rows = true ∧ (row.length : Int) = cols ∧ rankR cols rows = (rankOf cols.toNat rows, 0) ∧ rankR cols (rows ++ [row]) = (rankOf cols.toNat (rows ++ [row]), 0) ∧ rankOf cols.toNat rows ≤ rows.length ∧ (rankOf cols.toNat rows : Int) ≤ cols ∧ rankOf cols.toNat rows ≤ rankOf cols.toNat (rows ++ [row]) ∧ rankOf cols.toNat (rows ++ [row]) ≤ rankOf cols.toNat rows + 1) := by
  by_cases hB : rightB cols rows = true
  · right
    obtain ⟨k1, k2, k3, k4, k5⟩ := right_rws hB hr
    have hc := right_pos hB
    have e1 : rankR cols rows = (rankOf cols.toNat rows, 0) := by unfold rankR; rw [if_pos hB]
    obtain ⟨b1, b2, b3, b4⟩ := rightB_iff.1 hB
    by_cases hl : (row.length : Int) = cols
    · right
      have hB2 : rightB cols (rows ++ [row]) = true := rightB_iff.2 ⟨b1, b2, by simp; omega, fun r hr' => by
        rcases List.mem_append.1 hr' with h | h
        · exact b4 r h
        · simp only [List.mem_singleton] at h; subst h; exact hl⟩
      have hw2 : Rws (rows ++ [row]) cols.toNat := fun r hr' => by
        rcases List.mem_append.1 hr' with h | h
        · exact k1 r h
        · simp only [List.mem_singleton] at h; subst h; exact ⟨hw, by omega⟩
      have hst := count_to_step cols.toNat hw2 rows.length
      have hmo := count_to_mono cols.toNat (rows ++ [row]) rows.length
      have hsame : sysTo cols.toNat (rows ++ [row]) rows.length = sysTo cols.toNat rows rows.length := by
        unfold sysTo; rw [List.take_append_of_le_length (Nat.le_refl _)]
      rw [hsame] at hst hmo
      refine ⟨hB, hl, e1, by unfold rankR; rw [if_pos hB2], (rank_le k1).2, by have := (rank_le k1).1; omega, ?_, ?_⟩
      · unfold rankOf; rw [List.length_append, List.length_singleton]; exact hmo
      · unfold rankOf; rw [List.length_append, List.length_singleton]; exact hst
    · left
      refine ⟨hB, hl, e1, ?_⟩
      unfold rankR
      rw [if_neg (fun h => hl ((rightB_iff.1 h).2.2.2 row (by simp)))]
  · left
    exact ⟨by simpa using hB, by unfold rankR; rw [if_neg hB]⟩

set_option maxRecDepth 100000 in
set_option maxHeartbeats 8000000 in
theorem linGrows_walk (cols : Int) (a1 : Option Addr) (n1 c1 : Nat) (s1 : List HdT) (l1 : List (List Nat)) (a2 : Option Addr) (n2 c2 : Nat) (l2 : List Nat) (w : World) (_w0 : (Lit.int .i64 cols).wf = true)
    (v1 : RowV w a1 n1 (s1.map SV)) (r1 : RowsV w s1 l1) (t1 : n1 * 24 ≤ 140737488351232) (h2 : BytesV w (a2, n2, c2) l2) (_t2 : n2 ≤ 140737488351232) :
    Calls Try.prog 10 #[.int .i64 cols, .slice a1 n1 c1, .slice a2 n2 c2] w fun e w' => e = .returned (.bool true) ∧ Below w.heap.size w w' := by
  obtain ⟨i0, hi, hz0, hz1, hz2⟩ := info_parts Try.info34
  have h1 : RD w a1 n1 l1 := ⟨by rw [← r1.1]; have := v1.1; simpa using this, s1, v1, r1⟩
  have HE1 := Lib.hid h1.1
  have HM1 := Lib.hid h1.mem
  have H1 := Lib.hid h1
  have H2 := Lib.hid h2
  have HL2 := Lib.hid h2.length
  have hsm2 := h2.small
  simp only at hsm2
  clear h1 h2 v1 r1
  go_enter Try.func10, Try.ntmps10
  go_wp2_with fail
  (with_reducible refine (alive_any _).mono ?_)
  rintro e w1 ⟨rfl, hb1⟩
  go_wp2_with fail
  (with_reducible refine (copyRows_own _ _ _ l1 _ (H1.out.below hb1) t1).mono ?_)
  rintro e w2 ⟨a3, c3, rfl, ⟨-, hs2, ho2, hO2, hm2⟩, b2⟩
  have hb2 := hb1.trans (b2.mono hb1.size)
  have hs1 := b2.size
  go_wp2_with (first | (at_builtin; refine Hid.out ?_))
  refine Lib.hid ?_
  refine wpList_append_row rfl _ _ 22 rfl w1.heap.size 34 i0 (.slice none 0 0) 24 Try.underlying22 hi hz0 hz1 hz2 rfl _ _ _ rfl (ho2.alloc _) (some ⟨w2.heap.size, 0, none⟩) 1 1 [SV (a2, n2, c2)] rfl (rowV_lit w2 _ _ _ 1 _ rfl rfl rfl) (fun h => by cases h) (SV_one [(a2, n2, c2)]) (by simp [maxLen]; omega) (by omega) (by simp; omega) ?_
  intro v' w3 hE3 g3 _
  have hb3 := below_grown (hb2.alloc hb2.size (.cells #[.slice a2 n2 c2] 34)) g3 (fun k hk => by have := (ho2.lt k hk).1; have := hb1.size; omega)
  obtain ⟨a4, c4, rfl, h4⟩ := append_rd (ho2.alloc (.cells #[.slice a2 n2 c2] 34)) (hO2.below (below_alloc _ _)) hm2 hE3 g3 (H2.out.below hb3)
  clear ho2 hO2 hm2 b2 hb1 hb2 hs1 hE3 g3 hs2
  go_wp2_with fail
  (with_reducible refine (great_rd _ _ _ (l1 ++ [l2]) none 0 0 [] _ h4 (RD.nil _ _)).mono ?_)
  rintro e w4 ⟨t, rfl, b4, hg⟩
  have hb4 := hb3.trans (b4.mono hb3.size)
  clear b4 hb3 h4
  cases t with
  | true =>
    clear hg
    go_wp2
    go_ret
    exact ⟨rfl, hb4⟩
  | false =>
    have hn1 : n1 ≤ 299 := by have := (hg rfl).1; rw [List.length_append, HE1.out] at this; simp at this; omega
    clear hg
    by_cases hn : 255 < n1
    · go_wp2
      go_ret
      exact ⟨rfl, hb4⟩
    · have hn' : n1 ≤ 255 := by omega
      go_wp2_with fail
      (with_reducible refine (copyRows_rd _ _ _ l1 _ (H1.out.below hb4) (by omega)).mono ?_)
      rintro e w5 ⟨a5, c5, rfl, h5, b5⟩
      have hb5 := hb4.trans (b5.mono hb4.size)
      clear b5 hb4
      have KR := rank_rd cols a5 n1 c5 l1 w5 h5 (by omega)
      have KR2 := fun a c w h => rank_rd cols a (n1 + 1) c (l1 ++ [l2]) w h (by omega)
      rcases grows_all (cols := cols) HM1.out H2.out.bytes (by rw [HE1.out]; exact hn') with ⟨k0, k1⟩ | ⟨k0, k1, k2, k3⟩ | ⟨k0, k1, k2, k3, k4, k5, k6, k7⟩
      · rw [k1] at KR
        clear k0 k1 KR2
        go_wp2_with fail
        (with_reducible refine KR.mono ?_)
        rintro e w6 ⟨rfl, b6⟩
        simp only
        clear KR
        go_wp2
        go_ret
        exact ⟨rfl, hb5.trans (b6.mono hb5.size)⟩
      · rw [k2] at KR
        rw [k3] at KR2
        rw [HL2.out] at k1
        have k1' : ((n2 : Int) != cols) = true := by rw [bne_iff_ne]; exact k1
        obtain ⟨R, hR⟩ : ∃ R, R = rankOf cols.toNat l1 := ⟨_, rfl⟩
        rw [← hR] at KR
        clear k0 k1 k2 k3 hR h5
        go_wp2_with fail
        (with_reducible refine KR.mono ?_)
        rintro e w6 ⟨rfl, b6⟩
        have hb6 := hb5.trans (b6.mono hb5.size)
        clear KR b6 hb5
        go_wp2_with fail
        (with_reducible refine (copyRows_own _ _ _ l1 _ (H1.out.below hb6) (by omega)).mono ?_)
        rintro e w7 ⟨a7, c7, rfl, ⟨-, hs7, ho7, hO7, hm7⟩, b7⟩
        have hb7 := hb6.trans (b7.mono hb6.size)
        go_wp2_with fail
        (with_reducible refine (copyBytes_any _ _ _ l2 _ (H2.out.below hb7)).mono ?_)
        rintro e w8 ⟨a8, c8, rfl, o8, b8⟩
        rw [HL2.out] at o8 ⊢
        have hb8 := hb7.trans (b8.mono hb7.size)
        have ho8 := ho7.kept (grownBy_of_below b8 none) (by cases (Value.slice a7 n1 c7).ownBlock <;> simp)
        have hO8 := hO7.below b8
        have hx8 := bytesV_of_owns o8 H2.out.bytes hsm2
        have hsz := b7.size
        have hsz2 := b8.size
        go_wp2_with (first | (at_builtin; refine Hid.out ?_))
        refine Lib.hid ?_
        refine wpList_append_row rfl _ _ 22 rfl w6.heap.size 34 i0 (.slice none 0 0) 24 Try.underlying22 hi hz0 hz1 hz2 rfl _ _ _ rfl (ho8.alloc _) (some ⟨w8.heap.size, 0, none⟩) 1 1 [SV (a8, n2, c8)] rfl (rowV_lit w8 _ _ _ 1 _ rfl rfl rfl) (fun h => by cases h) (SV_one [(a8, n2, c8)]) (by simp [maxLen]; omega) (by omega) (by simp; omega) ?_
        intro v' w9 hE9 g9 _
        have hb9 := below_grown (hb8.alloc hb8.size (.cells #[.slice a8 n2 c8] 34)) g9 (fun k hk => by have := (ho8.lt k hk).1; have := hb6.size; omega)
        have o8' := ownsRow_base (base' := w6.heap.size) o8 hsz
        rw [← HL2.out] at o8'
        obtain ⟨a9, c9, rfl, h9⟩ := append_own (x := (a8, l2.length, c8)) (ho8.alloc (.cells #[.slice a8 n2 c8] 34)) (hO8.below (below_alloc _ _)) hm7 (by rw [HL2.out]; exact hE9) g9 (o8'.alloc _) rfl ⟨H2.out.bytes, by rw [HL2.out]; exact hsm2⟩
        have h9' := h9.rd
        clear ho7 hO7 hm7 b7 b8 ho8 hO8 hx8 hE9 g9 o8 o8' h9 hb6 hb7 hb8 hsz hsz2
        go_wp2_with fail
        (with_reducible refine (KR2 _ _ _ h9').mono ?_)
        rintro e w10 ⟨rfl, b10⟩
        simp only
        clear KR2 h9'
        go_wp2
        go_ret
        exact ⟨rfl, hb9.trans (b10.mono hb9.size)⟩
      · rw [k2] at KR
        rw [k3] at KR2
        rw [HL2.out] at k1
        rw [HE1.out] at k4
        obtain ⟨R, hR⟩ : ∃ R, R = rankOf cols.toNat l1 := ⟨_, rfl⟩
        rw [← hR] at KR k4 k5 k6 k7
        obtain ⟨R2, hR2⟩ : ∃ R, R = rankOf cols.toNat (l1 ++ [l2]) := ⟨_, rfl⟩
        rw [← hR2] at KR2 k6 k7
        subst k1
        clear k0 k2 k3 hR hR2 h5
        go_wp2_with fail
        (with_reducible refine KR.mono ?_)
        rintro e w6 ⟨rfl, b6⟩
        have hb6 := hb5.trans (b6.mono hb5.size)
        clear KR b6 hb5
        go_wp2_with fail
        (with_reducible refine (copyRows_own _ _ _ l1 _ (H1.out.below hb6) (by omega)).mono ?_)
        rintro e w7 ⟨a7, c7, rfl, ⟨-, hs7, ho7, hO7, hm7⟩, b7⟩
        have hb7 := hb6.trans (b7.mono hb6.size)
        go_wp2_with fail
        (with_reducible refine (copyBytes_any _ _ _ l2 _ (H2.out.below hb7)).mono ?_)
        rintro e w8 ⟨a8, c8, rfl, o8, b8⟩
        rw [HL2.out] at o8 ⊢
        have hb8 := hb7.trans (b8.mono hb7.size)
        have ho8 := ho7.kept (grownBy_of_below b8 none) (by cases (Value.slice a7 n1 c7).ownBlock <;> simp)
        have hO8 := hO7.below b8
        have hsz := b7.size
        have hsz2 := b8.size
        go_wp2_with (first | (at_builtin; refine Hid.out ?_))
        refine Lib.hid ?_
        refine wpList_append_row rfl _ _ 22 rfl w6.heap.size 34 i0 (.slice none 0 0) 24 Try.underlying22 hi hz0 hz1 hz2 rfl _ _ _ rfl (ho8.alloc _) (some ⟨w8.heap.size, 0, none⟩) 1 1 [SV (a8, n2, c8)] rfl (rowV_lit w8 _ _ _ 1 _ rfl rfl rfl) (fun h => by cases h) (SV_one [(a8, n2, c8)]) (by simp [maxLen]; omega) (by omega) (by simp; omega) ?_
        intro v' w9 hE9 g9 _
        have hb9 := below_grown (hb8.alloc hb8.size (.cells #[.slice a8 n2 c8] 34)) g9 (fun k hk => by have := (ho8.lt k hk).1; have := hb6.size; omega)
        have o8' := ownsRow_base (base' := w6.heap.size) o8 hsz
        rw [← HL2.out] at o8'
        obtain ⟨a9, c9, rfl, h9⟩ := append_own (x := (a8, l2.length, c8)) (ho8.alloc (.cells #[.slice a8 n2 c8] 34)) (hO8.below (below_alloc _ _)) hm7 (by rw [HL2.out]; exact hE9) g9 (o8'.alloc _) rfl ⟨H2.out.bytes, by rw [HL2.out]; exact hsm2⟩
        have h9' := h9.rd
        clear ho7 hO7 hm7 b7 b8 ho8 hO8 hE9 g9 o8 o8' h9 hb6 hb7 hb8 hsz hsz2
        go_wp2_with fail
        (with_reducible refine (KR2 _ _ _ h9').mono ?_)
        rintro e w10 ⟨rfl, b10⟩
        simp only
        clear KR2 h9'
        have k5' : R ≤ n2 := by omega
        have k7' : (R2 : Int) ≤ (R : Int) + 1 := by omega
        clear k5 k7
        go_wp2
        go_ret
        exact ⟨rfl, hb9.trans (b10.mono hb9.size)⟩
end Go.Proofs.Ytgnnfpnkhemimaa
