/-
  Ch2: ChE ChF ChG ChH
-/
import Derived.Test.YtfjcbgfgiidogaaDoorMLj3
import Derived.Test.YtfjcbgfgiidogaaDoorMRq5
import Derived.Test.YtfjcbgfgiidogaaDoorMCh1
namespace Go.Proofs.YtfjcbgfgiidogaaDoor
open Go.RowKit

def OwnB (w : World) (B : Nat) (a : Option Addr) (n c : Nat) (bs : List (List (List Nat))) : Prop :=
  bs.length = n ∧ ∃ hs : List HdT, w.ownsRow B 35 1 (.slice a n c) n (hs.map SV) ∧ hs.length = bs.length ∧ ∀ (i : Nat) x ls, hs[i]? = some x → bs[i]? = some ls → OwnRs w B x.1 x.2.1 x.2.2 ls
theorem OwnRs.keep {w w' : World} {B : Nat} {a : Option Addr} {n c : Nat} {ls : List (List Nat)} {row : Option Nat} (h : OwnRs w B a n c ls) (hg : w.grownBy w' row) (hr : ∀ k, row = some k → ∃ cs T fr, w.heap[k]? = some (.cells cs T fr) ∧ T ≠ 5 ∧ T ≠ 22) : OwnRs w' B a n c ls := by
  obtain ⟨h0, hs, h1, h2, h3⟩ := h
  have key : ∀ {T : TypeId} {v : Value} {m : Nat} {xs : List Value}, T = 5 ∨ T = 22 → w.ownsRow B T 1 v m xs → v.ownBlock = none ∨ v.ownBlock ≠ row := fun {T v m xs} hT ho => by
    cases hk : v.ownBlock with
    | none => exact .inl rfl
    | some q =>
      right
      intro e
      obtain ⟨cs, T', fr, hh, k1, k2⟩ := hr q e.symm
      rcases ho.2 with ⟨rfl, _⟩ | ⟨g', cap', cur, rfl, _, hh2, _⟩
      · cases hk
      · simp [Value.ownBlock] at hk
        subst hk
        rw [hh2] at hh
        injection hh with hh
        injection hh with _ ht
        rcases hT with e | e
        · exact k1 (by rw [← ht, e])
        · exact k2 (by rw [← ht, e])
  exact ⟨h0, hs, h1.kept hg (key (.inr rfl) h1), h2.kept hg (fun i x l a b => key (.inl rfl) (h2.2 i x l a b).2), h3⟩
theorem own_rowB {w : World} {B : Nat} {v : Value} {n : Nat} {xs : List Value} (h : w.ownsRow B 35 1 v n xs) : ∀ k, v.ownBlock = some k → ∃ cs T fr, w.heap[k]? = some (.cells cs T fr) ∧ T ≠ 5 ∧ T ≠ 22 := fun k hk => by
  rcases h.2 with ⟨rfl, _⟩ | ⟨g, cap, cur, rfl, _, hh, _⟩
  · cases hk
  · simp [Value.ownBlock] at hk
    subst hk
    exact ⟨_, _, _, hh, by decide, by decide⟩
theorem OwnD.keepB {w w' : World} {B g n c : Nat} {hs : List HdT} {ls : List (List Nat)} {row : Option Nat} (h : OwnD w B g n c hs ls) (hg : w.grownBy w' row) (hr : ∀ k, row = some k → ∃ cs T fr, w.heap[k]? = some (.cells cs T fr) ∧ T ≠ 5 ∧ T ≠ 22) : OwnD w' B g n c hs ls := by
  obtain ⟨h1, h2, h3, h4⟩ := h
  have key : ∀ {T : TypeId} {v : Value} {m : Nat} {xs : List Value}, T = 5 ∨ T = 22 → w.ownsRow B T 1 v m xs → v.ownBlock = none ∨ v.ownBlock ≠ row := fun {T v m xs} hT ho => by
    cases hk : v.ownBlock with
    | none => exact .inl rfl
    | some q =>
      right
      intro e
      obtain ⟨cs, T', fr, hh, k1, k2⟩ := hr q e.symm
      rcases ho.2 with ⟨rfl, _⟩ | ⟨g', cap', cur, rfl, _, hh2, _⟩
      · cases hk
      · simp [Value.ownBlock] at hk
        subst hk
        rw [hh2] at hh
        injection hh with hh
        injection hh with _ ht
        rcases hT with e | e
        · exact k1 (by rw [← ht, e])
        · exact k2 (by rw [← ht, e])
  exact ⟨h1.kept hg (key (.inr rfl) h1), h2.kept hg (fun i x l a b => key (.inl rfl) (h2.2 i x l a b).2), h3, h4⟩
theorem grown_fresh {w w' : World} {r : Option Nat} (h : w.grownBy w' r) {g : Nat} (hg : w.heap.size ≤ g) (i : Nat) (v : Value) : w.grownBy (w'.setCell ⟨g, i, none⟩ v) r :=
  ⟨h.os, h.tape, h.output, by simpa [World.setCell] using h.size, fun k hk hn => (heap_setCell_other _ ⟨g, i, none⟩ k _ (by show k ≠ g; omega)).trans (h.block k hk hn)⟩
theorem grown_below {w w' w2 : World} {r : Option Nat} (h : w.grownBy w' r) (hb : Below w'.heap.size w' w2) : w.grownBy w2 r := grownBy_trans h (grownBy_of_below hb r)
theorem OwnB.below {w w' : World} {B : Nat} {a : Option Addr} {n c : Nat} {bs : List (List (List Nat))} (h : OwnB w B a n c bs) (hb : Below w.heap.size w w') : OwnB w' B a n c bs := by
  obtain ⟨h0, hs, h1, h2, h3⟩ := h
  exact ⟨h0, hs, h1.kept (grownBy_of_below hb none) (by cases (Value.slice a n c).ownBlock <;> simp), h2, fun i x ls a b => (h3 i x ls a b).below hb⟩
theorem OwnB.rebase {w : World} {B B' : Nat} {a : Option Addr} {n c : Nat} {bs : List (List (List Nat))} (h : OwnB w B a n c bs) (hB : B' ≤ B) : OwnB w B' a n c bs := by
  obtain ⟨h0, hs, h1, h2, h3⟩ := h
  exact ⟨h0, hs, ownsRow_base h1 hB, h2, fun i x ls a b => (h3 i x ls a b).rebase hB⟩
theorem ownRs_none (w : World) (B : Nat) : OwnRs w B none 0 0 [] := ⟨rfl, [], ⟨rfl, .inl ⟨rfl, rfl⟩⟩, ⟨rfl, fun i x l h => by simp at h⟩, fun m h => by simp at h⟩
theorem OwnB.nil (w : World) (B : Nat) : OwnB w B none 0 0 [] := ⟨rfl, [], ⟨rfl, .inl ⟨rfl, rfl⟩⟩, rfl, fun i x ls h => by simp at h⟩
theorem OwnB.made {w : World} {B g n : Nat} (h : w.ownsRow B 35 1 (.slice (some ⟨g, 0, none⟩) n n) n (List.replicate n NilS)) : OwnB w B (some ⟨g, 0, none⟩) n n (List.replicate n []) := by
  refine ⟨by simp, List.replicate n (none, 0, 0), by rw [List.map_replicate]; exact h, by simp, fun i x ls a b => ?_⟩
  rw [List.getElem?_replicate] at a b
  by_cases hi : i < n
  · rw [if_pos hi] at a b
    injection a with a
    injection b with b
    subst a b
    exact ownRs_none _ _
  · rw [if_neg hi] at a
    cases a
theorem OwnB.next {w w' : World} {B g n c i : Nat} {hs : List HdT} {bs : List (List (List Nat))} {x : HdT} {ls : List (List Nat)} (h0 : bs.length = n) (h1 : w.ownsRow B 35 1 (.slice (some ⟨g, 0, none⟩) n c) n (hs.map SV)) (h2 : hs.length = bs.length) (h3 : ∀ (i : Nat) x ls, hs[i]? = some x → bs[i]? = some ls → OwnRs w B x.1 x.2.1 x.2.2 ls)
    (hg : w.grownBy w' (some g)) (ho : w'.ownsRow B 35 1 (.slice (some ⟨g, 0, none⟩) n c) n ((hs.set i x).map SV)) (hx : OwnRs w' B x.1 x.2.1 x.2.2 ls) : OwnB w' B (some ⟨g, 0, none⟩) n c (bs.set i ls) := by
  refine ⟨by rw [List.length_set]; exact h0, hs.set i x, ho, by rw [List.length_set, List.length_set]; exact h2, fun j y m a b => ?_⟩
  rw [List.getElem?_set] at a b
  by_cases e : i = j
  · rw [if_pos e] at a b
    split at a
    · split at b
      · injection a with a
        injection b with b
        subst a b
        exact hx
      · cases b
    · cases a
  · rw [if_neg e] at a b
    exact (h3 j y m a b).keep hg (fun k hk => own_rowB h1 k (by injection hk with hk; subst hk; rfl))
/-- a block of them. -/
theorem OwnB.at {w : World} {B : Nat} {a : Option Addr} {n c i : Nat} {bs : List (List (List Nat))} (h : OwnB w B a n c bs) (hi : i < n) : ∃ g x, a = some ⟨g, 0, none⟩ ∧ w.cell? ⟨g, i, none⟩ = some (SV x) ∧ OwnRs w B x.1 x.2.1 x.2.2 (bs.getD i []) := by
  obtain ⟨h0, hs, h1, h2, h3⟩ := h
  obtain ⟨g, rfl⟩ := own_some h1 (by omega)
  obtain ⟨x, hx⟩ : ∃ x, hs[i]? = some x := ⟨_, List.getElem?_eq_getElem (by omega)⟩
  obtain ⟨ls, hl⟩ : ∃ ls, bs[i]? = some ls := ⟨_, List.getElem?_eq_getElem (by omega)⟩
  refine ⟨g, x, rfl, ?_, ?_⟩
  · have := h1.cellAt i (by omega)
    rw [List.getElem?_map, hx] at this
    exact this
  · rw [List.getD_eq_getElem?_getD, hl]
    exact h3 i x ls hx hl
/-- blocks and an error. -/
def GivesBk (w : World) (o : List (List (List Nat)) × Int) (e : Ending) (w' : World) : Prop := ∃ a c, e = .returned (.tuple #[.slice a o.1.length c, .int .i64 o.2]) ∧ OwnB w' w.heap.size a o.1.length c o.1 ∧ Below w.heap.size w w'
theorem givesBk_nil {w w' : World} {code : Int} (hb : Below w.heap.size w w') : GivesBk w ([], code) (.returned (.tuple #[.slice none 0 0, .int .i64 code])) w' := ⟨none, 0, rfl, .nil _ _, hb⟩
end Go.Proofs.YtfjcbgfgiidogaaDoor
namespace Go.Proofs.YtfjcbgfgiidogaaDoor
open Go.RowKit

def rowsTo (v : List Nat) (t s k j : Nat) : List (List Nat) := (List.range j).map (fun m => symOf v t (s + m)) ++ List.replicate (k - j) []
def blocksTo (v : List Nat) (t n i : Nat) : List (List (List Nat)) := (List.range i).map (blockL v t n) ++ List.replicate (chZ n - i) []
theorem rowsTo_step {v : List Nat} {t s k j : Nat} (h : j < k) : (rowsTo v t s k j).set j (symOf v t (s + j)) = rowsTo v t s k (j + 1) := by
  unfold rowsTo
  rw [List.set_append_right _ _ (by simp), List.length_map, List.length_range, Nat.sub_self, show k - j = (k - (j + 1)) + 1 by omega, List.replicate_succ, List.range_succ, List.map_append, List.append_assoc]
  rfl
theorem rowsTo_length {v : List Nat} {t s k j : Nat} (h : j ≤ k) : (rowsTo v t s k j).length = k := by unfold rowsTo; simp; omega
theorem blocksTo_step {v : List Nat} {t n i : Nat} (h : i < chZ n) : (blocksTo v t n i).set i (blockL v t n i) = blocksTo v t n (i + 1) := by
  unfold blocksTo
  rw [List.set_append_right _ _ (by simp), List.length_map, List.length_range, Nat.sub_self, show chZ n - i = (chZ n - (i + 1)) + 1 by omega, List.replicate_succ, List.range_succ, List.map_append, List.append_assoc]
  rfl
theorem blocksTo_length {v : List Nat} {t n i : Nat} (h : i ≤ chZ n) : (blocksTo v t n i).length = chZ n := by unfold blocksTo; simp; omega
theorem blocksTo_end (v : List Nat) (t n : Nat) : blocksTo v t n (chZ n) = blocksL v t n := by unfold blocksTo blocksL; simp
theorem rowsTo_end (v : List Nat) (t n i : Nat) : rowsTo v t (chS n i) (chK n i) (chK n i) = blockL v t n i := by unfold rowsTo blockL; simp
theorem drop_sym (v : List Nat) (t s : Nat) : (v.drop (s * t)).drop ((v.drop (s * t)).take t).length = v.drop ((s + 1) * t) := by
  rw [List.length_take, List.length_drop, List.drop_drop, Nat.add_mul, Nat.one_mul]
  rcases Nat.le_total t (v.length - s * t) with h | h
  · rw [Nat.min_eq_left h]
  · rw [Nat.min_eq_right h, List.drop_of_length_le (by omega), List.drop_of_length_le (by omega)]
theorem splice_sym (u : List Nat) (t : Nat) : splice ((zs t).map bv) 0 ((u.take t).map bv) = (u.take t ++ zs (t - (u.take t).length)).map bv := by
  unfold splice
  rw [List.take_zero, List.nil_append, List.map_append, List.length_map, Nat.zero_add, ← List.map_drop]
  congr 2
  unfold zs
  rw [List.drop_replicate]
theorem own_full {w : World} {B g n : Nat} {T : TypeId} {xs : List Value} (h : w.ownsRow B T 1 (.slice (some ⟨g, 0, none⟩) n n) n xs) : w.heap[g]? = some (.cells xs.toArray T (0, 0)) := by
  rcases h.2 with ⟨e, _⟩ | ⟨g', cap, cur, e, _, hh, _, _, hs, ht⟩
  · cases e
  · injection e with e1 e2 e3
    injection e1 with e1
    injection e1 with e1
    subst e1 e3
    rw [hh, ← ht, List.take_of_length_le (by simp; omega)]
theorem own_fill {w : World} {B g n : Nat} {T : TypeId} {xs : List Value} (h : w.heap[g]? = some (.cells xs.toArray T (0, 0))) (hB : B ≤ g) (hl : xs.length = n) (hn : n ≤ maxLen) : w.ownsRow B T 1 (.slice (some ⟨g, 0, none⟩) n n) n xs :=
  ⟨by simpa using hl, .inr ⟨g, n, xs.toArray, rfl, hB, h, Nat.le_refl _, hn, by simpa using hl, by simp [List.take_of_length_le, hl]⟩⟩
theorem bytes_drop' {w : World} {a : Option Addr} {n c k : Nat} {l : List Nat} (h : BytesV w (a, n, c) l) (hk : k ≤ n) (h0 : 0 < n) : ∃ b off, a = some ⟨b, off, none⟩ ∧ BytesV w (some ⟨b, off + k, none⟩, n - k, c - k) (l.drop k) := by
  obtain ⟨b, off, e, -⟩ := h.row.2 h0
  simp only at e
  subst e
  exact ⟨b, off, rfl, h.dropped hk⟩

theorem addr_add0 (b off m : Nat) : (⟨b, off, none⟩ : Addr).add m = ⟨b, off + m, none⟩ := by
  by_cases h : m = 0
  · subst h; simp [Addr.add]
  · simp [Addr.add, h]
theorem binfo : (Tryd.prog.info? 35).map (fun i => (i.zero, i.size, i.bytes)) = some (some (.slice none 0 0), 1, 24) := by kernel_rfl
set_option maxRecDepth 100000 in
set_option maxHeartbeats 8000000 in
theorem split_any (va : Option Addr) (vn vc : Nat) (v : List Nat) (t : Int) (w : World) (hv : BytesV w (va, vn, vc) v) : Calls Tryd.prog 19 #[.slice va vn vc, .int .i64 t] w (GivesBk w (splitR v t)) := by
  obtain ⟨i0, hi, hz0, hz1, hz2⟩ := info_parts binfo
  obtain ⟨j0, hj, hy0, hy1, hy2⟩ := info_parts Tryd.info5
  obtain ⟨k0, hk, hx0, hx1, hx2⟩ := info_parts Tryd.info22
  have hvl : v.length = vn := hv.length
  have KP := parts_any (vn : Int) t w
  unfold partsR at KP
  unfold splitR
  rw [hvl]
  by_cases hc : sizeC (vn : Int) t = 0
  rotate_left 1
  · rw [if_neg hc] at KP ⊢
    have hcb : (sizeC (vn : Int) t != 0) = true := by rw [bne_iff_ne]; exact hc
    generalize sizeC (vn : Int) t = code at KP hcb ⊢
    clear hc hv
    go_enter Tryd.func19, Tryd.ntmps19
    go_wp2_with fail
    (with_reducible refine KP.mono ?_)
    rintro e w1 ⟨a1, c1, rfl, -, b1⟩
    clear KP
    go_wp2
    go_ret2
    exact givesBk_nil b1
  rw [if_pos hc] at KP ⊢
  obtain ⟨g1, g2⟩ := sizeC_zero.1 hc
  obtain ⟨s1, s2⟩ := okS_iff.1 g1
  obtain ⟨t1, t2⟩ := okT_iff.1 g2
  clear hc g1 g2
  obtain ⟨T, rfl⟩ : ∃ T : Nat, t = (T : Nat) := ⟨t.toNat, by omega⟩
  rw [Int.toNat_natCast] at KP ⊢
  rw [Int.toNat_natCast] at KP
  obtain ⟨n1, n2, -, -⟩ := chN_facts (size := vn) (t := T) (by omega) (by omega) (by omega)
  obtain ⟨n, hn⟩ : ∃ n, n = chN vn T := ⟨_, rfl⟩
  rw [← hn] at n1 n2 KP ⊢
  clear hn
  obtain ⟨z1, z2, -, -, z3⟩ := chZ_facts n1 n2
  have HK := Lib.hid (fun i (h : i < chZ n) => chK_facts n1 n2 h)
  have HS := Lib.hid (chS_succ n)
  have HS0 := Lib.hid (chS_zero n)
  have HBS := Lib.hid (fun i (h : i < chZ n) => blocksTo_step (v := v) (t := T) h)
  have HBE := Lib.hid (blocksTo_end v T n)
  have HB0 := Lib.hid (show blocksTo v T n 0 = List.replicate (chZ n) [] by simp [blocksTo])
  have HBL := Lib.hid (fun i (h : i ≤ chZ n) => blocksTo_length (v := v) (t := T) h)
  have HRE := Lib.hid (fun i => rowsTo_end v T n i)
  have hLL : (blocksL v T n).length = chZ n := blocksL_length v T n
  have hPL : (partsL n).length = chZ n := partsL_length n
  have HPK : Hid (∀ i, i < chZ n → ((partsL n).map nv')[i]? = some (.int .i64 ((chK n i : Nat) : Int))) := Lib.hid (fun i h => by
    unfold partsL
    rw [List.map_map, List.getElem?_map, List.getElem?_range h]
    rfl)
  have HV := Lib.hid hv
  have HVL := Lib.hid hvl
  have hVB := Lib.hid hv.bytes
  clear hv hvl
  unfold GivesN at KP
  simp only at KP
  rw [hPL] at KP
  unfold GivesBk
  simp only
  rw [hLL]
  clear hPL hLL
  obtain ⟨z, hz⟩ : ∃ z, z = chZ n := ⟨_, rfl⟩
  rw [← hz] at z1 z2 z3 HK HBS HBE HB0 HBL HPK KP ⊢
  clear hz
  obtain ⟨PL, hPLd⟩ : ∃ P, P = partsL n := ⟨_, rfl⟩
  rw [← hPLd] at KP HPK
  clear hPLd
  go_enter Tryd.func19, Tryd.ntmps19
  go_wp2_with fail
  (with_reducible refine KP.mono ?_)
  rintro e w1 ⟨a1, c1, rfl, o1, b1⟩
  clear KP
  obtain ⟨q1, rfl⟩ := own_some o1 z1
  have HO1 := Lib.hid o1
  have HB1 := Lib.hid b1
  have hs1 := b1.size
  clear o1 b1
  go_wp2_with (first | (at_make; refine Hid.out ?_))
  refine Lib.hid ?_
  refine wpList_make_full _ rfl _ _ 30 rfl w.heap.size 35 i0 (.slice none 0 0) 1 Tryd.underlying30 hi hz0 hz1 _ _ _ _ z rfl rfl rfl rfl (by rw [hz2]; omega) (by unfold maxLen; omega) hs1 ?_
  intro w2 hown2 hgrow2
  rw [show (Value.slice none 0 0).cells = #[.slice none 0 0] from rfl, Nat.mul_one, toList_madeCells_one] at hown2
  have hD := OwnB.made hown2
  rw [← HB0.out] at hD
  have HD := Lib.hid hD
  have hb2 : Below w1.heap.size w1 w2 := ⟨hgrow2.os, hgrow2.tape, hgrow2.output, hgrow2.size, fun i hi => hgrow2.block i hi (by simp)⟩
  have HB2 := Lib.hid hb2
  obtain ⟨b, off, e, -⟩ := HV.out.row.2 (show 0 < vn by omega)
  simp only at e
  subst e
  have HV0 : Hid (BytesV w (some ⟨b, off, none⟩, vn, vc) (v.drop (chS n 0 * T))) := Lib.hid (by rw [HS0.out, Nat.zero_mul, List.drop_zero]; exact HV.out)
  clear hD hown2 hgrow2 hb2
  go_wp2_with fail
  go_loopw [0, 28] (fun v0 vi wr => ∃ (i b off vn vc : Nat), i ≤ z ∧ v0 = .slice (some ⟨b, off, none⟩) vn vc ∧ vi = .int .i64 (i : Nat) ∧ Hid (BytesV w (some ⟨b, off, none⟩, vn, vc) (v.drop (chS n i * T))) ∧ Hid (OwnB wr w.heap.size (some ⟨w1.heap.size, 0, none⟩) z z (blocksTo v T n i)) ∧ Hid (Below w1.heap.size w1 wr)) (fun _ vi _ => (z - intOf vi).toNat)
  case atStart => exact ⟨0, b, off, vn, vc, Nat.zero_le _, rfl, rfl, HV0, HD, HB2⟩
  case round =>
    clear HV0 HD HB2
    obtain ⟨i, b, off, vn, vc, hi, rfl, rfl, hV, hD, hB⟩ := hrel
    obtain ⟨wo, hwo⟩ : ∃ x, x = wr := ⟨_, rfl⟩
    subst hwo
    by_cases hlt : i < z
    · obtain ⟨k1, k2, -, -⟩ := HK.out i hlt
      have hck : wo.cell? ⟨q1, i, none⟩ = some (.int .i64 ((chK n i : Nat) : Int)) := cell_below ((HO1.out.cellAt i (by omega)).trans (HPK.out i hlt)) hB.out
      have hsucc := HS.out i
      have hre := HRE.out i
      have hbs := HBS.out i hlt
      obtain ⟨k, hkd⟩ : ∃ k, k = chK n i := ⟨_, rfl⟩
      obtain ⟨s, hsd⟩ : ∃ s, s = chS n i := ⟨_, rfl⟩
      obtain ⟨s', hsd'⟩ : ∃ s, s = chS n (i + 1) := ⟨_, rfl⟩
      obtain ⟨bs, hbd⟩ : ∃ b, b = blocksTo v T n i := ⟨_, rfl⟩
      obtain ⟨bl, hbl⟩ : ∃ b, b = blockL v T n i := ⟨_, rfl⟩
      obtain ⟨bs', hbd'⟩ : ∃ b, b = blocksTo v T n (i + 1) := ⟨_, rfl⟩
      rw [← hkd] at k1 k2 hck hsucc hre
      rw [← hsd] at hV hsucc hre
      rw [← hsd'] at hsucc
      rw [← hbd] at hD hbs
      rw [← hbl] at hbs hre
      rw [← hbd'] at hbs
      have HRE' := Lib.hid hre
      have HBS' := Lib.hid hbs
      have HSD := Lib.hid hsd'
      have HBD := Lib.hid hbd'
      have hR0 : rowsTo v T s k 0 = List.replicate k [] := by simp [rowsTo]
      have HR0 := Lib.hid hR0
      obtain ⟨hD0, hs, hD1, hD2, hD3⟩ := hD.out
      have HDD := Lib.hid (And.intro hD0 (And.intro hD1 (And.intro hD2 hD3)))
      have hsz := hB.out.size
      have hwz : w.heap.size ≤ wo.heap.size := Nat.le_trans hs1 hsz
      have hg0 : w1.heap.size < wo.heap.size := (hD1.lt _ rfl).2
      clear hkd hsd hsd' hbd hbl hbd' hre hbs hR0 hD hD0 hD1 hD2 hD3
      go_wp2_with (first | (at_make; refine Hid.out ?_))
      refine Lib.hid ?_
      refine wpList_make_full _ rfl _ _ 35 rfl w.heap.size 22 k0 (.slice none 0 0) 1 Tryd.underlying35 hk hx0 hx1 _ _ _ _ k rfl rfl rfl rfl (by rw [hx2]; omega) (by unfold maxLen; omega) hwz ?_
      intro w3 hown3 hgrow3
      rw [show (Value.slice none 0 0).cells = #[.slice none 0 0] from rfl, Nat.mul_one, toList_madeCells_one] at hown3
      have hR := OwnD.made hown3
      rw [← HR0.out] at hR
      have b3 : Below wo.heap.size wo w3 := ⟨hgrow3.os, hgrow3.tape, hgrow3.output, hgrow3.size, fun i hi => hgrow3.block i hi (by simp)⟩
      obtain ⟨hD0, hD1, hD2, hD3⟩ := HDD.out
      have hD1' := hD1.kept (grownBy_of_below b3 none) (by simp [Value.ownBlock])
      obtain ⟨v3, c3, f3⟩ : ∃ v, w3.cell? ⟨w1.heap.size, i, none⟩ = some v ∧ w3.frozen? ⟨w1.heap.size, i, none⟩ = false := by
        have h := hD1'.cellAt i (by omega)
        rw [List.getElem?_eq_getElem (by rw [hD1'.1]; omega)] at h
        exact ⟨_, h, hD1'.frozenAt i⟩
      have o4 := own_set' hD1' i (SV (some ⟨wo.heap.size, 0, none⟩, k, k))
      rw [← List.map_set] at o4
      have r4 := hR.keepB (grown_set4 w3 w1.heap.size i (SV (some ⟨wo.heap.size, 0, none⟩, k, k))) (fun q hq => own_rowB hD1' q (by injection hq with hq; subst hq; rfl))
      have g4 : wo.grownBy (w3.setCell ⟨w1.heap.size, i, none⟩ (SV (some ⟨wo.heap.size, 0, none⟩, k, k))) (some w1.heap.size) := grownBy_trans (grownBy_of_below b3 _) (grown_set4 _ _ _ _)
      have b4 : Below w1.heap.size w1 (w3.setCell ⟨w1.heap.size, i, none⟩ (SV (some ⟨wo.heap.size, 0, none⟩, k, k))) := (hB.out.trans (b3.mono hsz)).setCell (p := ⟨w1.heap.size, i, none⟩) (Nat.le_refl _) _
      have c4 : (w3.setCell ⟨w1.heap.size, i, none⟩ (.slice (some ⟨wo.heap.size, 0, none⟩) k k)).cell? ⟨w1.heap.size, i, none⟩ = some (.slice (some ⟨wo.heap.size, 0, none⟩) k k) := by
        have h := o4.cellAt i (by omega)
        rw [List.getElem?_map, List.getElem?_set, if_pos rfl, if_pos (by rw [hD2, hD0]; exact hlt)] at h
        exact h
      have O4 := Lib.hid o4
      have R4 := Lib.hid r4
      have G4 := Lib.hid g4
      have B4 := Lib.hid b4
      clear hD0 hD1 hD2 hD3 hD1' hR hown3 hgrow3 b3 o4 r4 g4 b4 hB
      have HV4 : Hid (BytesV w (some ⟨b, off, none⟩, vn, vc) (v.drop ((s + 0) * T))) := hV
      go_wp2_with fail
      go_loopw [0, 43] (fun v0 vj wq => ∃ (j b off vn vc : Nat) (hs2 : List HdT), j ≤ k ∧ v0 = .slice (some ⟨b, off, none⟩) vn vc ∧ vj = .int .i64 (j : Nat) ∧ Hid (BytesV w (some ⟨b, off, none⟩, vn, vc) (v.drop ((s + j) * T))) ∧ Hid (OwnD wq w.heap.size wo.heap.size k k hs2 (rowsTo v T s k j)) ∧ Hid (wq.ownsRow w.heap.size 35 1 (.slice (some ⟨w1.heap.size, 0, none⟩) z z) z ((hs.set i (some ⟨wo.heap.size, 0, none⟩, k, k)).map SV)) ∧ Hid (wo.grownBy wq (some w1.heap.size)) ∧ Hid (Below w1.heap.size w1 wq)) (fun _ vj _ => (k - intOf vj).toNat)
      case atStart => exact ⟨0, b, off, vn, vc, _, Nat.zero_le _, rfl, rfl, HV4, R4, O4, G4, B4⟩
      case round =>
        clear HV4 R4 O4 G4 B4 hV c4 c3 f3
        obtain ⟨j, b, off, vn, vc, hs2, hj', rfl, rfl, hV, hR, hO, hG, hB⟩ := hrel
        by_cases hlt2 : j < k
        · have hbw := HB1.out.trans (hB.out.mono hs1)
          have hwq := hbw.size
          go_wp2_with (first | (at_make; refine Hid.out ?_))
          refine Lib.hid ?_
          refine wpList_make_full _ rfl _ _ 22 rfl w.heap.size 5 j0 (.int .u8 0) 1 Tryd.underlying22 hj hy0 hy1 _ _ _ _ T rfl rfl rfl rfl (by rw [hy2]; omega) (by unfold maxLen; omega) hwq ?_
          intro w5 hown5 hgrow5
          rw [show (Value.int .u8 0).cells = #[.int .u8 0] from rfl, Nat.mul_one, toList_madeCells_one, ← bv_zs] at hown5
          have hfull := own_full hown5
          have b5 : Below wr.heap.size wr w5 := ⟨hgrow5.os, hgrow5.tape, hgrow5.output, hgrow5.size, fun i hi => hgrow5.block i hi (by simp)⟩
          have hV5 := (hV.out.below hbw).below b5
          obtain ⟨u, hu⟩ : ∃ u, u = v.drop ((s + j) * T) := ⟨_, rfl⟩
          obtain ⟨cs, hcs⟩ : ∃ c, c = (u.take T).map bv := ⟨_, rfl⟩
          obtain ⟨cur, hcur⟩ : ∃ c, c = (zs T).map bv := ⟨_, rfl⟩
          rw [← hu] at hV5
          rw [← hcur] at hfull
          have hul : u.length = vn := hV5.length
          have hcl : cs.length = Nat.min vn T := by rw [hcs, List.length_map, List.length_take, hul, Nat.min_comm]
          have hcurl : cur.length = T := by rw [hcur, List.length_map, zs_length]
          have hcT : cs.length ≤ T := by rw [hcl]; exact Nat.min_le_right _ _
          have hcv : cs.length ≤ vn := by rw [hcl]; exact Nat.min_le_left _ _
          have HCS := Lib.hid hcs
          have HCU := Lib.hid hcur
          have HU := Lib.hid hu
          have HFULL := Lib.hid hfull
          have HV5 := Lib.hid hV5
          have HB5 := Lib.hid b5
          clear hown5 hgrow5 hfull b5 hV5 hu hcs hcur
          go_wp2_with (first | ((with_reducible show wpList _ _ _ (⟨some 51, _, _, _, _, _⟩ :: _) _ _); refine Hid.out ?_))
          refine Lib.hid ?_
          refine wpList_copy_splice rfl (.tmp 49) (.tmp 50) 22 22 rfl 5 Tryd.underlying22 (by rw [hj]; simp [hy1]) (some ⟨wr.heap.size, 0, none⟩) (some ⟨b, off, none⟩) T T vn vc (by rfl) (by rfl) wr.heap.size 0 cur 5 HFULL.out cs hcl ?hpos (by omega) ?hone wr.heap.size wr HB5.out (Nat.le_refl _) ?_
          case hpos =>
            intro h0
            obtain ⟨b', off', e, hc⟩ := HV5.out.row.2 (show 0 < vn by omega)
            refine ⟨rfl, _, rfl, fun m x hx => ?_⟩
            injection e with e
            injection e with e1 e2
            subst e1 e2
            rw [HCS.out, List.map_take, List.getElem?_take] at hx
            split at hx
            · have hm := (List.getElem?_eq_some_iff.1 hx).1
              rw [List.length_map, hul] at hm
              exact (show w5.cell? ((⟨b, off, none⟩ : Addr).add m) = _ by rw [addr_add0]; exact hc m hm).trans hx
            · cases hx
          case hone => rw [HCS.out]; exact bv_one _
          intro w6 hG6 hb6
          have hsp : splice cur 0 cs = (symOf v T (s + j)).map bv := by rw [HCU.out, HCS.out, splice_sym, HU.out]; rfl
          have hsl := symOf_length v T (s + j)
          have hsb := symOf_bytes (hVB.out) T (s + j)
          have hG6' := hG6.out
          rw [hsp] at hG6'
          have o6 := own_fill (B := w.heap.size) (n := T) hG6' hwq (by rw [List.length_map]; exact hsl) (by unfold maxLen; omega)
          have hR6 := hR.out.below hb6
          have hO6 := hO.out.kept (grownBy_of_below hb6 none) (by simp [Value.ownBlock])
          have hg6 := grown_below hG.out hb6
          have hB6 := hB.out.trans (hb6.mono hB.out.size)
          have hV' := hV.out.dropped hcv
          rw [show cs.length = ((v.drop ((s + j) * T)).take T).length by rw [HCS.out, List.length_map, HU.out], drop_sym, show s + j + 1 = s + (j + 1) by omega] at hV'
          rw [show ((v.drop ((s + j) * T)).take T).length = cs.length by rw [HCS.out, List.length_map, HU.out]] at hV'
          generalize cs.length = m at hcT hcv hV' ⊢
          clear hcl
          have hcap : vn ≤ vc := hV.out.cap
          have cO : w6.cell? ⟨w1.heap.size, i, none⟩ = some (.slice (some ⟨wo.heap.size, 0, none⟩) k k) := by
            have h := hO6.cellAt i (by omega)
            rw [List.getElem?_map, List.getElem?_set, if_pos rfl, if_pos (by have := HDD.out.1; have := HDD.out.2.2.1; omega)] at h
            exact h
          obtain ⟨v6, c6, f6⟩ : ∃ v, w6.cell? ⟨wo.heap.size, j, none⟩ = some v ∧ w6.frozen? ⟨wo.heap.size, j, none⟩ = false := by
            have h := hR6.1.cellAt j (by omega)
            rw [List.getElem?_eq_getElem (by rw [hR6.1.1]; omega)] at h
            exact ⟨_, h, hR6.1.frozenAt j⟩
          have hR7 := hR6.fresh (i := j) (x := (some ⟨wr.heap.size, 0, none⟩, T, T)) (l := symOf v T (s + j)) (by rw [hsl]; exact o6) hsl.symm ⟨hsb, by rw [hsl]; omega⟩ (fun q y hy => by
            right
            intro e
            have hjl : q < (rowsTo v T s k j).length := by rw [← hR6.2.1.1]; exact (List.getElem?_eq_some_iff.1 hy).1
            have := (hR.out.2.1.2 q y _ hy (List.getElem?_eq_getElem hjl)).2.lt wr.heap.size (by unfold SV; rw [e]; rfl)
            omega)
          rw [rowsTo_step hlt2] at hR7
          have hO7 := hO6.kept (grown_set4 w6 wo.heap.size j (SV (some ⟨wr.heap.size, 0, none⟩, T, T))) (by have := own_ne hO6 hR6.1 (by decide); simpa [Value.ownBlock] using this)
          have hg7 := grown_fresh hg6 (Nat.le_refl _) j (SV (some ⟨wr.heap.size, 0, none⟩, T, T))
          have hB7 := hB6.setCell (p := ⟨wo.heap.size, j, none⟩) (Nat.le_of_lt hg0) (SV (some ⟨wr.heap.size, 0, none⟩, T, T))
          have HR7 := Lib.hid hR7
          have HO7 := Lib.hid hO7
          have HG7 := Lib.hid hg7
          have HB7 := Lib.hid hB7
          have HV' := Lib.hid hV'
          clear hR7 hO7 hg7 hB7 hV' hR6 hO6 hg6 hB6 o6 hG6 hG6' hsp hsl hsb hb6 HFULL HV5 HB5 HCS HCU HU hul hcurl hR hO hG hB hbw hV
          by_cases hmc : m = vc
          · have hnil : v.drop ((s + (j + 1)) * T) = [] := List.eq_nil_of_length_eq_zero (by have := HV'.out.length; simp only at this; omega)
            have HNIL := Lib.hid hnil
            clear hnil
            go_wp2
            go_roundw
            case rel => exact ⟨j + 1, b, off, 0, 0, _, by omega, by go_num, by go_num, Lib.hid (by rw [HNIL.out]; exact bytesV_nil0 _ _ (by simp)), HR7, HO7, HG7, HB7⟩
            case measure => simp [intOf] <;> omega
          · have hmc' : ¬ vc = m := fun e => hmc e.symm
            go_wp2
            go_roundw
            case rel => exact ⟨j + 1, b, off + m, vn - m, vc - m, _, by omega, rfl, by go_num, HV', HR7, HO7, HG7, HB7⟩
            case measure => simp [intOf] <;> omega
        · obtain rfl : j = k := by omega
          have hR' := hR.out
          have hre := HRE'.out
          rw [hre] at hR'
          have hD' := OwnB.next HDD.out.1 HDD.out.2.1 HDD.out.2.2.1 HDD.out.2.2.2 hG.out hO.out hR'.own
          rw [HBS'.out, HBD.out] at hD'
          have HD' := Lib.hid hD'
          have HV' : Hid (BytesV w (some ⟨b, off, none⟩, vn, vc) (v.drop (chS n (i + 1) * T))) := by rw [← HSD.out, hsucc]; exact hV
          clear hre hR' hD' hR hO hG
          go_wp2
          go_roundw
          case rel => exact ⟨i + 1, b, off, vn, vc, by omega, by go_num, by go_num, HV', HD', hB⟩
          case measure => simp [intOf] <;> omega
    · obtain rfl : i = z := by omega
      have hD' := hD.out
      rw [HBE.out] at hD'
      have HD' := Lib.hid hD'
      clear hD' hD
      go_wp2
      go_ret2
      exact ⟨_, _, rfl, HD'.out, HB1.out.trans (hB.out.mono hs1)⟩
end Go.Proofs.YtfjcbgfgiidogaaDoor
namespace Go.Proofs.YtfjcbgfgiidogaaDoor
open Go.RowKit

abbrev ST3 : TypeId := 55
abbrev SH := Int × Int × HdT
def scells : List SH → List Value
  | [] => []
  | x :: xs => .int .i64 x.1 :: .int .i64 x.2.1 :: SV x.2.2 :: scells xs
theorem scells_length : ∀ xs : List SH, (scells xs).length = xs.length * 3
  | [] => rfl
  | x :: xs => by simp [scells, scells_length xs]; omega
theorem scells_append : ∀ xs ys : List SH, scells (xs ++ ys) = scells xs ++ scells ys
  | [], ys => rfl
  | x :: xs, ys => by simp [scells, scells_append xs ys]
theorem scells_one (xs : List SH) : ∀ u ∈ scells xs, u.oneCell' = true := by
  induction xs with
  | nil => intro u hu; cases hu
  | cons x xs ih =>
    intro u hu
    simp only [scells, List.mem_cons] at hu
    rcases hu with rfl | rfl | rfl | hu
    · rfl
    · rfl
    · rfl
    · exact ih u hu
theorem scells_get (xs : List SH) : ∀ (i : Nat) (x : SH), xs[i]? = some x → (scells xs)[i * 3]? = some (.int .i64 x.1) ∧ (scells xs)[i * 3 + 1]? = some (.int .i64 x.2.1) ∧ (scells xs)[i * 3 + 2]? = some (SV x.2.2) := by
  induction xs with
  | nil => intro i x h; simp at h
  | cons y xs ih =>
    intro i x h
    cases i with
    | zero => simp at h; subst h; exact ⟨rfl, rfl, rfl⟩
    | succ i =>
      simp at h
      have := ih i x h
      rw [show (i + 1) * 3 = i * 3 + 3 by omega]
      exact this
theorem scells_set (xs : List SH) : ∀ (i : Nat) (x : SH), i < xs.length → scells (xs.set i x) = (((scells xs).set (i * 3) (.int .i64 x.1)).set (i * 3 + 1) (.int .i64 x.2.1)).set (i * 3 + 2) (SV x.2.2) := by
  induction xs with
  | nil => intro i x h; simp at h
  | cons y xs ih =>
    intro i x h
    cases i with
    | zero => rfl
    | succ i =>
      have := ih i x (by simpa using h)
      rw [show (i + 1) * 3 = i * 3 + 3 by omega]
      simp only [List.set_cons_succ, scells, this]
theorem sinfo : (Tryd.prog.info? 55).map (fun i => (i.zero, i.size, i.bytes)) = some (some (.agg #[.int .i64 0, .int .i64 0, .slice none 0 0]), 3, 40) := by kernel_rfl

/-- a slice of symbols reads as these. -/
structure SyV (w : World) (a : Option Addr) (n : Nat) (ss : List Sy) : Prop where
  len : ss.length = n
  ex : ∃ xs : List SH, xs.length = n ∧ (0 < n → ∃ b off, a = some ⟨b, off, none⟩ ∧ ∀ i x, xs[i]? = some x → w.cell? ⟨b, off + i * 3, none⟩ = some (.int .i64 x.1) ∧ w.cell? ⟨b, off + i * 3 + 1, none⟩ = some (.int .i64 x.2.1) ∧ w.cell? ⟨b, off + i * 3 + 2, none⟩ = some (SV x.2.2)) ∧ ∀ (i : Nat) x p, xs[i]? = some x → ss[i]? = some p → x.1 = p.1 ∧ x.2.1 = p.2.1 ∧ BytesV w x.2.2 p.2.2
theorem SyV.below {w w' : World} {a : Option Addr} {n : Nat} {ss : List Sy} (h : SyV w a n ss) (hb : Below w.heap.size w w') : SyV w' a n ss := by
  obtain ⟨h1, xs, h2, h3, h4⟩ := h
  refine ⟨h1, xs, h2, fun h0 => ?_, fun i x p a b => ⟨(h4 i x p a b).1, (h4 i x p a b).2.1, (h4 i x p a b).2.2.below hb⟩⟩
  obtain ⟨b, off, e, hc⟩ := h3 h0
  exact ⟨b, off, e, fun i x hx => ⟨cell_below (hc i x hx).1 hb, cell_below (hc i x hx).2.1 hb, cell_below (hc i x hx).2.2 hb⟩⟩
theorem SyV.nil (w : World) (a : Option Addr) : SyV w a 0 [] := ⟨rfl, [], rfl, fun h => absurd h (Nat.lt_irrefl _), fun i x p h => by simp at h⟩
theorem SyV.at {w : World} {a : Option Addr} {n i : Nat} {ss : List Sy} (h : SyV w a n ss) (hi : i < n) : ∃ b off z e a2 n2 c2 l, a = some ⟨b, off, none⟩ ∧ w.cell? ⟨b, off + i * 3, none⟩ = some (.int .i64 z) ∧ w.cell? ⟨b, off + i * 3 + 1, none⟩ = some (.int .i64 e) ∧ w.cell? ⟨b, off + i * 3 + 2, none⟩ = some (.slice a2 n2 c2) ∧ ss[i]? = some (z, e, l) ∧ BytesV w (a2, n2, c2) l := by
  obtain ⟨h1, xs, h2, h3, h4⟩ := h
  obtain ⟨b, off, e, hc⟩ := h3 (by omega)
  obtain ⟨⟨z1, e1, a2, n2, c2⟩, hx⟩ : ∃ x, xs[i]? = some x := ⟨_, List.getElem?_eq_getElem (by omega)⟩
  obtain ⟨⟨z2, e2, l⟩, hp⟩ : ∃ p, ss[i]? = some p := ⟨_, List.getElem?_eq_getElem (by omega)⟩
  have k := h4 i _ _ hx hp
  simp only at k
  obtain ⟨rfl, rfl, k⟩ := k
  exact ⟨b, off, z1, e1, a2, n2, c2, l, e, (hc i _ hx).1, (hc i _ hx).2.1, (hc i _ hx).2.2, hp, k⟩
/-- symbols of the call's own. -/
structure OwnS (w : World) (B : Nat) (a : Option Addr) (n c : Nat) (ss : List Sy) : Prop where
  len : ss.length = n
  ex : ∃ xs : List SH, xs.length = n ∧ w.ownsRow B ST3 3 (.slice a n c) n (scells xs) ∧ ∀ (i : Nat) x p, xs[i]? = some x → ss[i]? = some p → x.1 = p.1 ∧ x.2.1 = p.2.1 ∧ x.2.2.2.1 = p.2.2.length ∧ w.ownsRow B 5 1 (SV x.2.2) p.2.2.length (p.2.2.map bv) ∧ Bytes p.2.2 ∧ p.2.2.length ≤ 140737488355328
theorem OwnS.below {w w' : World} {B : Nat} {a : Option Addr} {n c : Nat} {ss : List Sy} (h : OwnS w B a n c ss) (hb : Below w.heap.size w w') : OwnS w' B a n c ss := by
  obtain ⟨h1, xs, h2, h3, h4⟩ := h
  refine ⟨h1, xs, h2, h3.kept (grownBy_of_below hb none) (by cases (Value.slice a n c).ownBlock <;> simp), fun i x p a b => ?_⟩
  obtain ⟨k0, k1, k2, k3, k4, k5⟩ := h4 i x p a b
  exact ⟨k0, k1, k2, k3.kept (grownBy_of_below hb none) (by cases (SV x.2.2).ownBlock <;> simp), k4, k5⟩
theorem OwnS.rebase {w : World} {B B' : Nat} {a : Option Addr} {n c : Nat} {ss : List Sy} (h : OwnS w B a n c ss) (hB : B' ≤ B) : OwnS w B' a n c ss := by
  obtain ⟨h1, xs, h2, h3, h4⟩ := h
  exact ⟨h1, xs, h2, ownsRow_base h3 hB, fun i x p a b => by
    obtain ⟨k0, k1, k2, k3, k4⟩ := h4 i x p a b
    exact ⟨k0, k1, k2, ownsRow_base k3 hB, k4⟩⟩
theorem OwnS.nil (w : World) (B : Nat) : OwnS w B none 0 0 [] := ⟨rfl, [], rfl, ⟨rfl, .inl ⟨rfl, rfl⟩⟩, fun i x p h => by simp at h⟩
theorem OwnS.sy {w : World} {B : Nat} {a : Option Addr} {n c : Nat} {ss : List Sy} (h : OwnS w B a n c ss) : SyV w a n ss := by
  obtain ⟨h1, xs, h2, h3, h4⟩ := h
  refine ⟨h1, xs, h2, fun h0 => ?_, fun i x p a b => ?_⟩
  · rcases h3.2 with ⟨_, e⟩ | ⟨g, cap, cur, e, _, hg, _, _, _, ht⟩
    · omega
    · injection e with e1 e2 e3
      subst e1
      refine ⟨g, 0, rfl, fun i x hx => ?_⟩
      have hi : i < n := by have := (List.getElem?_eq_some_iff.1 hx).1; omega
      have k := scells_get xs i x hx
      have q1 := h3.cellAt (i * 3) (by omega)
      have q2 := h3.cellAt (i * 3 + 1) (by omega)
      have q3 := h3.cellAt (i * 3 + 2) (by omega)
      rw [Nat.zero_add]
      exact ⟨q1.trans k.1, q2.trans k.2.1, q3.trans k.2.2⟩
  · obtain ⟨k0, k1, k2, k3, k4, k5⟩ := h4 i x p a b
    obtain ⟨x0, x1, xa, xn, xc⟩ := x
    simp only at k2
    subst k2
    exact ⟨k0, k1, bytesV_of_owns k3 k4 k5⟩
/-- symbols and an error. -/
def GivesS (w : World) (o : List Sy × Int) (e : Ending) (w' : World) : Prop := ∃ a c, e = .returned (.tuple #[.slice a o.1.length c, .int .i64 o.2]) ∧ OwnS w' w.heap.size a o.1.length c o.1 ∧ Below w.heap.size w w'
theorem givesS_nil {w w' : World} {code : Int} (hb : Below w.heap.size w w') : GivesS w ([], code) (.returned (.tuple #[.slice none 0 0, .int .i64 code])) w' := ⟨none, 0, rfl, .nil _ _, hb⟩
end Go.Proofs.YtfjcbgfgiidogaaDoor
namespace Go.Proofs.YtfjcbgfgiidogaaDoor
open Go.RowKit

def zS : SH := (0, 0, none, 0, 0)
theorem made3 (n : Nat) : (madeCells #[.int .i64 0, .int .i64 0, .slice none 0 0] (n * 3)).toList = scells (List.replicate n zS) := by
  apply List.ext_getElem?
  intro j
  by_cases hj : j < n * 3
  · have hq : j / 3 < n := by omega
    have hx : (List.replicate n zS)[j / 3]? = some zS := by rw [List.getElem?_replicate, if_pos hq]
    obtain ⟨a, b, c⟩ := scells_get _ _ _ hx
    have hl : (madeCells #[.int .i64 0, .int .i64 0, .slice none 0 0] (n * 3)).toList[j]? = some ((#[Value.int .i64 0, .int .i64 0, .slice none 0 0] : Array Value)[j % 3]!) := by
      unfold madeCells
      rw [Array.getElem?_toList, Array.getElem?_map, Array.getElem?_range, if_pos hj]
      rfl
    rw [hl]
    have h3 : j % 3 = 0 ∨ j % 3 = 1 ∨ j % 3 = 2 := by omega
    rcases h3 with e | e | e
    · rw [e, show j = j / 3 * 3 by omega] ; rw [a]; rfl
    · rw [e, show j = j / 3 * 3 + 1 by omega]; rw [b]; rfl
    · rw [e, show j = j / 3 * 3 + 2 by omega]; rw [c]; rfl
  · rw [List.getElem?_eq_none (by simp [madeCells]; omega), List.getElem?_eq_none (by rw [scells_length]; simp; omega)]
theorem OwnS.made {w : World} {B g n : Nat} (h : w.ownsRow B ST3 3 (.slice (some ⟨g, 0, none⟩) n n) n (scells (List.replicate n zS))) : OwnS w B (some ⟨g, 0, none⟩) n n (List.replicate n (0, 0, [])) := by
  refine ⟨by simp, List.replicate n zS, by simp, h, fun i x p a b => ?_⟩
  rw [List.getElem?_replicate] at a b
  by_cases hi : i < n
  · rw [if_pos hi] at a b
    injection a with a
    injection b with b
    subst a b
    exact ⟨rfl, rfl, rfl, ⟨rfl, .inl ⟨rfl, rfl⟩⟩, fun x hx => by simp at hx, by simp⟩
  · rw [if_neg hi] at a
    cases a
theorem OwnS.put {w : World} {B g n c i : Nat} {ss : List Sy} {x : SH} {p : Sy} (h : OwnS w B (some ⟨g, 0, none⟩) n c ss) (hi : i < n) (hx : x.1 = p.1 ∧ x.2.1 = p.2.1 ∧ x.2.2.2.1 = p.2.2.length ∧ w.ownsRow B 5 1 (SV x.2.2) p.2.2.length (p.2.2.map bv) ∧ Bytes p.2.2 ∧ p.2.2.length ≤ 140737488355328) :
    OwnS (((w.setCell ⟨g, i * 3, none⟩ (.int .i64 x.1)).setCell ⟨g, i * 3 + 1, none⟩ (.int .i64 x.2.1)).setCell ⟨g, i * 3 + 2, none⟩ (SV x.2.2)) B (some ⟨g, 0, none⟩) n c (ss.set i p) := by
  obtain ⟨h1, xs, h2, h3, h4⟩ := h
  have k1 := (((h3.stored (i * 3) (.int .i64 x.1)).1.stored (i * 3 + 1) (.int .i64 x.2.1)).1.stored (i * 3 + 2) (SV x.2.2)).1
  rw [← scells_set xs i x (by omega)] at k1
  have hg : w.grownBy (((w.setCell ⟨g, i * 3, none⟩ (.int .i64 x.1)).setCell ⟨g, i * 3 + 1, none⟩ (.int .i64 x.2.1)).setCell ⟨g, i * 3 + 2, none⟩ (SV x.2.2)) (some g) := grownBy_trans (grownBy_trans (grown_set4 _ _ _ _) (grown_set4 _ _ _ _)) (grown_set4 _ _ _ _)
  have key : ∀ {y : HdT} {m : Nat} {ys : List Value}, w.ownsRow B 5 1 (SV y) m ys → (((w.setCell ⟨g, i * 3, none⟩ (.int .i64 x.1)).setCell ⟨g, i * 3 + 1, none⟩ (.int .i64 x.2.1)).setCell ⟨g, i * 3 + 2, none⟩ (SV x.2.2)).ownsRow B 5 1 (SV y) m ys := fun k => k.kept hg (by have := own_ne k h3 (by decide); simpa [Value.ownBlock] using this)
  refine ⟨by rw [List.length_set]; exact h1, xs.set i x, by rw [List.length_set]; exact h2, k1, fun j y q a b => ?_⟩
  rw [List.getElem?_set] at a b
  by_cases e : i = j
  · rw [if_pos e] at a b
    split at a
    · split at b
      · injection a with a
        injection b with b
        subst a b
        obtain ⟨e1, e2, e3, e4, e5⟩ := hx
        exact ⟨e1, e2, e3, key e4, e5⟩
      · cases b
    · cases a
  · rw [if_neg e] at a b
    obtain ⟨e1, e2, e3, e4, e5⟩ := h4 j y q a b
    exact ⟨e1, e2, e3, key e4, e5⟩
def symsTo (b : Int) (ps : List Pc) (i : Nat) : List Sy := (ps.take i).map (symOfPc b) ++ List.replicate (ps.length - i) (0, 0, [])
theorem symsTo_step {b : Int} {ps : List Pc} {i : Nat} {e : Int} {l : List Nat} (h : ps[i]? = some (e, l)) : (symsTo b ps i).set i (b, e, l) = symsTo b ps (i + 1) := by
  have hi := (List.getElem?_eq_some_iff.1 h).1
  unfold symsTo
  rw [take_step ps i _ h, List.map_append, List.set_append_right _ _ (by simp; omega), List.length_map, List.length_take, Nat.min_eq_left (by omega), Nat.sub_self, show ps.length - i = (ps.length - (i + 1)) + 1 by omega, List.replicate_succ, List.append_assoc]
  rfl
theorem symsTo_length {b : Int} {ps : List Pc} {i : Nat} (h : i ≤ ps.length) : (symsTo b ps i).length = ps.length := by unfold symsTo; simp; omega
theorem symsTo_end (b : Int) (ps : List Pc) : symsTo b ps ps.length = ps.map (symOfPc b) := by unfold symsTo; simp
set_option maxRecDepth 100000 in
set_option maxHeartbeats 8000000 in
theorem syms_any (va : Option Addr) (vn vc : Nat) (v : List Nat) (t b : Int) (ea : Option Addr) (en ec : Nat) (es : List Int) (w : World) (hv : BytesV w (va, vn, vc) v) (he : IntsV w (ea, en, ec) es) (hen : en ≤ 1000) (hg : Bnd w) :
    Calls Tryd.prog 23 #[.slice va vn vc, .int .i64 t, .int .i64 b, .slice ea en ec] w (GivesS w (symbolsR v t b es)) := by
  obtain ⟨i0, hi, hz0, hz1, hz2⟩ := info_parts sinfo
  have KS := split_any va vn vc v t w hv
  unfold splitR at KS
  unfold symbolsR
  have HE := Lib.hid he
  have HEL := Lib.hid (show es.length = en from he.length)
  have HG := Lib.hid hg
  have HVL := Lib.hid (show v.length = vn from hv.length)
  clear hv he hg
  by_cases hc : sizeC (v.length : Int) t = 0
  rotate_left 1
  · rw [if_neg hc] at KS ⊢
    have hcb : (sizeC (v.length : Int) t != 0) = true := by rw [bne_iff_ne]; exact hc
    generalize sizeC (v.length : Int) t = code at KS hcb ⊢
    clear hc
    go_enter Tryd.func23, Tryd.ntmps23
    go_wp2_with fail
    (with_reducible refine KS.mono ?_)
    rintro e w1 ⟨a1, c1, rfl, -, b1⟩
    clear KS
    go_wp2
    go_ret2
    exact givesS_nil b1
  rw [if_pos hc] at KS ⊢
  obtain ⟨g1, g2⟩ := sizeC_zero.1 hc
  obtain ⟨s1, s2⟩ := okS_iff.1 g1
  obtain ⟨t1, t2⟩ := okT_iff.1 g2
  clear hc g1 g2
  obtain ⟨T, rfl⟩ : ∃ T : Nat, t = (T : Nat) := ⟨t.toNat, by omega⟩
  rw [Int.toNat_natCast] at KS ⊢
  obtain ⟨n1, n2, -, -⟩ := chN_facts (size := v.length) (t := T) (by omega) (by omega) (by omega)
  obtain ⟨n, hn⟩ : ∃ n, n = chN v.length T := ⟨_, rfl⟩
  rw [← hn] at n1 n2 KS ⊢
  clear hn
  obtain ⟨z1, z2, -, -, z3⟩ := chZ_facts n1 n2
  unfold GivesBk at KS
  simp only at KS
  rw [blocksL_length] at KS
  have HBA := Lib.hid (fun i (h : i < chZ n) => blocksL_at (v := v) (t := T) h)
  obtain ⟨z, hz⟩ : ∃ z, z = chZ n := ⟨_, rfl⟩
  rw [← hz] at z1 z2 z3 KS HBA ⊢
  clear hz
  by_cases hb : 0 ≤ b ∧ b < (z : Nat)
  rotate_left 1
  · rw [if_neg hb]
    have hb' : b < 0 ∨ (z : Int) ≤ b := by omega
    clear hb
    rcases hb' with h | h
    · go_enter Tryd.func23, Tryd.ntmps23
      go_wp2_with fail
      (with_reducible refine KS.mono ?_)
      rintro e w1 ⟨a1, c1, rfl, -, b1⟩
      clear KS
      go_wp2
      go_ret2
      exact givesS_nil b1
    · have h0 : ¬ b < 0 := by omega
      have h0' : 0 ≤ b := by omega
      go_enter Tryd.func23, Tryd.ntmps23
      go_wp2_with fail
      (with_reducible refine KS.mono ?_)
      rintro e w1 ⟨a1, c1, rfl, -, b1⟩
      clear KS
      go_wp2
      go_ret2
      exact givesS_nil b1
  rw [if_pos hb]
  obtain ⟨i, rfl⟩ : ∃ i : Nat, b = (i : Nat) := ⟨b.toNat, by omega⟩
  have hiz : i < z := by omega
  rw [Int.toNat_natCast]
  clear hb
  have hbl : (blocksL v T n).getD i [] = blockL v T n i := by rw [List.getD_eq_getElem?_getD, HBA.out i hiz]; rfl
  have HBL := Lib.hid hbl
  clear hbl
  obtain ⟨bl, hbl⟩ : ∃ x, x = blockL v T n i := ⟨_, rfl⟩
  obtain ⟨bs, hbs⟩ : ∃ x, x = blocksL v T n := ⟨_, rfl⟩
  rw [← hbs] at KS HBL
  rw [← hbl] at HBL ⊢
  clear hbs hbl HBA
  have hel : (encodeR bl es).1.length ≤ 1000 := by
    unfold encodeR
    split
    · split
      · rw [List.length_map, HEL.out]; exact hen
      · simp
    · simp
  have hPn : (encodeR bl es).2 ≠ 0 → (encodeR bl es).1 = [] := fun h => by
    unfold encodeR at h ⊢
    split
    · rename_i h2
      rw [if_pos h2] at h
      split
      · rename_i h3
        rw [if_pos h3] at h
        exact absurd rfl h
      · rfl
    · rfl
  have hPnil := Lib.hid hPn
  clear hPn
  obtain ⟨P, hPd⟩ : ∃ P, P = encodeR bl es := ⟨_, rfl⟩
  rw [← hPd] at hel hPnil ⊢
  have HPD := Lib.hid hPd
  clear hPd
  obtain ⟨ps, code⟩ := P
  simp only at hel hPnil ⊢
  go_enter Tryd.func23, Tryd.ntmps23
  go_wp2_with fail
  (with_reducible refine KS.mono ?_)
  rintro e w1 ⟨a1, c1, rfl, hB, b1⟩
  clear KS
  obtain ⟨g, ⟨xa, xn, xc⟩, rfl, hcell, hR⟩ := hB.at hiz
  rw [HBL.out] at hR
  have hcell' : w1.cell? ⟨g, i, none⟩ = some (.slice xa xn xc) := hcell
  have KE := encode_rd xa xn xc bl ea en ec es w1 hR.rd (HE.out.below b1) hen (HG.out.below b1)
  have hs1 := b1.size
  have HB1 := Lib.hid b1
  rw [← HPD.out] at KE
  clear hB hR hcell b1
  go_wp2_with fail
  (with_reducible refine KE.mono ?_)
  rintro e w2 ⟨a2, c2, rfl, hP, b2⟩
  simp only at hP ⊢
  clear KE
  have hbw := HB1.out.trans (b2.mono hs1)
  have hsw := hbw.size
  by_cases hc : code = 0
  rotate_left 1
  · have hcb : (code != 0) = true := by rw [bne_iff_ne]; exact hc
    have hps : ps = [] := hPnil.out hc
    clear hc hP b2
    go_wp2
    go_ret2
    rw [hps]
    exact givesS_nil hbw
  subst hc
  have HP := Lib.hid hP.pi
  obtain ⟨hpl, px, hxl, hxo, hxs⟩ := hP
  have HPX := Lib.hid hxs
  have HXL := Lib.hid hxl
  have HXO := Lib.hid hxo
  have HBW := Lib.hid hbw
  have HB2 := Lib.hid b2
  clear b2 hbw hpl hxl hxo hxs
  obtain ⟨m, hm⟩ : ∃ m, m = ps.length := ⟨_, rfl⟩
  rw [← hm] at hel HP HXL HXO ⊢
  have HM := Lib.hid hm
  clear hm
  go_wp2_with (first | (at_make; refine Hid.out ?_))
  refine Lib.hid ?_
  refine wpList_make_full _ rfl _ _ 37 rfl w.heap.size ST3 i0 (.agg #[.int .i64 0, .int .i64 0, .slice none 0 0]) 3 Tryd.underlying37 hi hz0 hz1 _ _ _ _ m rfl rfl rfl rfl (by rw [hz2]; omega) (by unfold maxLen; omega) hsw ?_
  intro w3 hown3 hgrow3
  rw [show (Value.agg #[.int .i64 0, .int .i64 0, .slice none 0 0]).cells = #[.int .i64 0, .int .i64 0, .slice none 0 0] from rfl, made3] at hown3
  have hS := OwnS.made hown3
  have hS' : OwnS w3 w.heap.size (some ⟨w2.heap.size, 0, none⟩) m m (symsTo (i : Int) ps 0) := by
    have : symsTo (i : Int) ps 0 = List.replicate m (0, 0, []) := by unfold symsTo; rw [← HM.out]; simp
    rw [this]; exact hS
  have b3 : Below w2.heap.size w2 w3 := ⟨hgrow3.os, hgrow3.tape, hgrow3.output, hgrow3.size, fun i hi => hgrow3.block i hi (by simp)⟩
  have HS := Lib.hid hS'
  have HB3 := Lib.hid b3
  clear hS hS' hown3 hgrow3 b3
  go_wp2_with fail
  go_loopw [50] (fun vj wr => ∃ j : Nat, j ≤ m ∧ vj = .int .i64 (j : Nat) ∧ Hid (OwnS wr w.heap.size (some ⟨w2.heap.size, 0, none⟩) m m (symsTo (i : Int) ps j)) ∧ Hid (Below w2.heap.size w2 wr)) (fun vj _ => (m - intOf vj).toNat)
  case atStart => exact ⟨0, Nat.zero_le _, rfl, HS, HB3⟩
  case round =>
    clear HS HB3
    obtain ⟨j, hj, rfl, hS, hB⟩ := hrel
    by_cases hlt : j < m
    · obtain ⟨⟨e, a3, n3, c3⟩, hx⟩ : ∃ x, px[j]? = some x := ⟨_, List.getElem?_eq_getElem (by rw [HXL.out]; exact hlt)⟩
      obtain ⟨⟨e', l⟩, hpj⟩ : ∃ x, ps[j]? = some x := ⟨_, List.getElem?_eq_getElem (by rw [← HM.out]; exact hlt)⟩
      obtain ⟨r1, r2, r3, r4⟩ := HPX.out j _ _ hx hpj
      simp only at r1 r2
      subst r1 r2
      obtain ⟨pb, rfl⟩ : ∃ q, a2 = some ⟨q, 0, none⟩ := by
        rcases HXO.out.2 with ⟨_, h⟩ | ⟨g', _, _, h, _⟩
        · omega
        · injection h with h
          exact ⟨g', h⟩
      have q0 : wr.cell? ⟨pb, j * 2, none⟩ = some (.int .i64 e) := cell_below ((HXO.out.cellAt (j * 2) (by omega)).trans (pcells_get px j _ hx).1) hB.out
      have q1 : wr.cell? ⟨pb, j * 2 + 1, none⟩ = some (.slice a3 l.length c3) := cell_below ((HXO.out.cellAt (j * 2 + 1) (by omega)).trans (pcells_get px j _ hx).2) hB.out
      have HPJ := Lib.hid hpj
      have hsz := hB.out.size
      have b4 := hB.out.alloc hsz (.cells #[.int .i64 e, .slice a3 l.length c3] PT)
      have hS1 := hS.out.below (below_alloc wr (.cells #[.int .i64 e, .slice a3 l.length c3] PT))
      have r5 := r3.kept (grownBy_of_below b4 none) (by cases (SV (a3, l.length, c3)).ownBlock <;> simp)
      have r6 := ownsRow_base r5 hs1
      have o3 := hS1.ex
      obtain ⟨sx, -, ho, -⟩ := o3
      have hln := ho.1
      obtain ⟨v0, x0, y0⟩ : ∃ v, (wr.alloc (.cells #[.int .i64 e, .slice a3 l.length c3] PT)).cell? ⟨w2.heap.size, j * 3, none⟩ = some v ∧ (wr.alloc (.cells #[.int .i64 e, .slice a3 l.length c3] PT)).frozen? ⟨w2.heap.size, j * 3, none⟩ = false := by
        have h := ho.cellAt (j * 3) (by omega)
        rw [List.getElem?_eq_getElem (by omega)] at h
        exact ⟨_, h, ho.frozenAt (j * 3)⟩
      obtain ⟨v1, x1, y1⟩ : ∃ v, (wr.alloc (.cells #[.int .i64 e, .slice a3 l.length c3] PT)).cell? ⟨w2.heap.size, j * 3 + 1, none⟩ = some v ∧ (wr.alloc (.cells #[.int .i64 e, .slice a3 l.length c3] PT)).frozen? ⟨w2.heap.size, j * 3 + 1, none⟩ = false := by
        have h := ho.cellAt (j * 3 + 1) (by omega)
        rw [List.getElem?_eq_getElem (by omega)] at h
        exact ⟨_, h, ho.frozenAt (j * 3 + 1)⟩
      obtain ⟨v2, x2, y2⟩ : ∃ v, (wr.alloc (.cells #[.int .i64 e, .slice a3 l.length c3] PT)).cell? ⟨w2.heap.size, j * 3 + 2, none⟩ = some v ∧ (wr.alloc (.cells #[.int .i64 e, .slice a3 l.length c3] PT)).frozen? ⟨w2.heap.size, j * 3 + 2, none⟩ = false := by
        have h := ho.cellAt (j * 3 + 2) (by omega)
        rw [List.getElem?_eq_getElem (by omega)] at h
        exact ⟨_, h, ho.frozenAt (j * 3 + 2)⟩
      have hput := hS1.put (i := j) (x := ((i : Int), e, a3, l.length, c3)) (p := ((i : Int), e, l)) hlt ⟨rfl, rfl, rfl, r6, r4⟩
      rw [symsTo_step HPJ.out] at hput
      have hb5 := ((b4.setCell (p := ⟨w2.heap.size, j * 3, none⟩) (Nat.le_refl _) (.int .i64 (i : Int))).setCell (p := ⟨w2.heap.size, j * 3 + 1, none⟩) (Nat.le_refl _) (.int .i64 e)).setCell (p := ⟨w2.heap.size, j * 3 + 2, none⟩) (Nat.le_refl _) (.slice a3 l.length c3)
      have HPUT := Lib.hid hput
      have HB5 := Lib.hid hb5
      clear hput hb5 ho hln b4 hS1 r3 r5 r6 r4 hpj hx hS hB
      go_wp2
      go_roundw
      case rel => exact ⟨j + 1, by omega, by go_num, HPUT, HB5⟩
      case measure => simp [intOf] <;> omega
    · obtain rfl : j = m := by omega
      have hS' := hS.out
      rw [HM.out] at hS'
      have hln : (ps.map (symOfPc (i : Int))).length = j := by rw [List.length_map]; exact HM.out.symm
      have hS2 : OwnS wr w.heap.size (some ⟨w2.heap.size, 0, none⟩) j j (ps.map (symOfPc (i : Int))) := by
        have := hS'
        rw [symsTo_end, ← HM.out] at this
        exact this
      have HS2 := Lib.hid hS2
      have HLN := Lib.hid hln
      clear hS' hS2 hln hS
      go_wp2
      go_ret2
      have hp := HS2.out
      have hm := HLN.out
      generalize ps.map (symOfPc (i : Int)) = D at hp hm ⊢
      exact ⟨_, _, by simp only [hm]; rfl, by rw [hm]; exact hp, HBW.out.trans (hB.out.mono hsw)⟩
end Go.Proofs.YtfjcbgfgiidogaaDoor
