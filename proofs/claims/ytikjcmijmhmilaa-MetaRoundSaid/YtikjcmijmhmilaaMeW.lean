/-
  places copied.
-/
import Derived.Test.YtikjcmijmhmilaaMeV
import Derived.Test.YtikjcmijmhmilaaUse2
namespace Go.Proofs.Ytikjcmijmhmilaa
open Go.RowKit

def pcells (P : Nat → PlR) : Nat → List Value
  | 0 => []
  | m + 1 => pcells P m ++ [.int .i64 (P m).b, .int .i64 (P m).e, .int .i64 (P m).s, SV (P m).x]
theorem pcells_len (P : Nat → PlR) : ∀ n, (pcells P n).length = n * 4
  | 0 => rfl
  | m + 1 => by simp only [pcells, List.length_append, List.length_cons, List.length_nil, pcells_len P m]; omega
theorem pcells_ext {P P' : Nat → PlR} : ∀ n, (∀ i, i < n → P i = P' i) → pcells P n = pcells P' n
  | 0, _ => rfl
  | m + 1, h => by simp only [pcells]; rw [pcells_ext m (fun i hi => h i (by omega)), h m (by omega)]
theorem pcells_at (P : Nat → PlR) : ∀ (n i : Nat), i < n → (pcells P n)[i * 4]? = some (.int .i64 (P i).b) ∧ (pcells P n)[i * 4 + 1]? = some (.int .i64 (P i).e) ∧ (pcells P n)[i * 4 + 2]? = some (.int .i64 (P i).s) ∧ (pcells P n)[i * 4 + 3]? = some (SV (P i).x)
  | 0, i, h => absurd h (Nat.not_lt_zero _)
  | m + 1, i, h => by
    have hl := pcells_len P m
    by_cases e : i = m
    · subst e
      simp only [pcells]
      refine ⟨?_, ?_, ?_, ?_⟩ <;> rw [List.getElem?_append_right (by omega)] <;> simp [hl]
    · have := pcells_at P m i (by omega)
      simp only [pcells]
      rw [List.getElem?_append_left (by omega), List.getElem?_append_left (by omega), List.getElem?_append_left (by omega), List.getElem?_append_left (by omega)]
      exact this
theorem infoPlace : (Try.prog.info? 60).map (fun i => (i.zero, i.size, i.bytes)) = some (some (.agg #[.int .i64 0, .int .i64 0, .int .i64 0, .slice none 0 0]), 4, 48) := by kernel_rfl
/-- the same place, wherever its digest lies. -/
structure SameP (p q : PlR) : Prop where
  b : p.b = q.b
  e : p.e = q.e
  s : p.s = q.s
  l : p.l = q.l
  n : p.x.2.1 = q.x.2.1
/-- places of the call's own. -/
structure OwnP (w : World) (B : Nat) (a : Option Addr) (n c : Nat) (P : Nat → PlR) : Prop where
  row : w.ownsRow B PT4 4 (.slice a n c) n (pcells P n)
  dig : ∀ i, i < n → (P i).x.2.1 = (P i).l.length ∧ w.ownsRow B 5 1 (SV (P i).x) (P i).l.length ((P i).l.map bv) ∧ Bytes (P i).l ∧ (P i).l.length ≤ 140737488355328
theorem OwnP.below {w w' : World} {B : Nat} {a : Option Addr} {n c : Nat} {P : Nat → PlR} (h : OwnP w B a n c P) (hb : Below w.heap.size w w') : OwnP w' B a n c P :=
  ⟨h.row.kept (grownBy_of_below hb none) (by cases (Value.slice a n c).ownBlock <;> simp), fun i hi => by
    obtain ⟨k0, k1, k2⟩ := h.dig i hi
    exact ⟨k0, k1.kept (grownBy_of_below hb none) (by cases (SV (P i).x).ownBlock <;> simp), k2⟩⟩
theorem OwnP.kept {w w' : World} {B : Nat} {a : Option Addr} {n c : Nat} {P : Nat → PlR} {r : Option Nat} (h : OwnP w B a n c P) (hg : w.grownBy w' r) (h1 : (Value.slice a n c).ownBlock = none ∨ (Value.slice a n c).ownBlock ≠ r) (h2 : ∀ j, j < n → (SV (P j).x).ownBlock = none ∨ (SV (P j).x).ownBlock ≠ r) : OwnP w' B a n c P :=
  ⟨h.row.kept hg h1, fun i hi => by
    obtain ⟨k0, k1, k2⟩ := h.dig i hi
    exact ⟨k0, k1.kept hg (h2 i hi), k2⟩⟩
theorem OwnP.made {w : World} {B : Nat} (P : Nat → PlR) (hB : B ≤ w.heap.size) : OwnP (w.alloc (.cells #[] PT4)) B (some ⟨w.heap.size, 0, none⟩) 0 0 P :=
  ⟨World.ownsRow_made (base := B) (e := PT4) (size := 4) w #[] 0 hB (by simp [maxLen]) rfl, fun i hi => absurd hi (Nat.not_lt_zero _)⟩
theorem OwnP.places {w : World} {B : Nat} {a : Option Addr} {n c : Nat} {P : Nat → PlR} (h : OwnP w B a n c P) (hn : n ≤ maxLen) : PlacesV w a n c P := by
  have hd : ∀ i, i < n → BytesV w ((P i).x.1, (P i).x.2.1, (P i).x.2.2) (P i).l := fun i hi => by
    obtain ⟨k0, k1, k2, k3⟩ := h.dig i hi
    rw [← k0] at k1 k3
    exact bytesV_of_owns k1 k2 k3
  rcases h.row.2 with ⟨e, e0⟩ | ⟨g, cp, cur, e, hB, hh, hc, hcm, -, -⟩
  · injection e with e1 e2 e3
    subst e2 e3
    exact ⟨by simp [maxLen], Nat.le_refl _, fun _ => rfl, fun h => absurd h (by omega)⟩
  · injection e with e1 e2 e3
    subst e1 e3
    have hr := h.row
    refine ⟨hn, hc, (fun e => by cases e), fun h0 => ⟨g, 0, rfl, (Array.getElem?_eq_some_iff.1 hh).1, fun i hi => ?_⟩⟩
    obtain ⟨t0, t1, t2, t3⟩ := pcells_at P n i hi
    rw [Nat.zero_add]
    exact ⟨(hr.cellAt (i * 4) (by omega)).trans t0, (hr.cellAt (i * 4 + 1) (by omega)).trans t1, (hr.cellAt (i * 4 + 2) (by omega)).trans t2, (hr.cellAt (i * 4 + 3) (by omega)).trans t3, hd i hi⟩
theorem OwnP.append {wm w' : World} {B n : Nat} {a : Option Addr} {c : Nat} {P : Nat → PlR} {p : PlR} (h : OwnP wm B a n c P) (hp : p.x.2.1 = p.l.length ∧ wm.ownsRow B 5 1 (SV p.x) p.l.length (p.l.map bv) ∧ Bytes p.l ∧ p.l.length ≤ 140737488355328) {g cap : Nat}
    (hE : w'.ownsRow B PT4 4 (.slice (some ⟨g, 0, none⟩) (n + 1) cap) (n + 1) (pcells P n ++ [.int .i64 p.b, .int .i64 p.e, .int .i64 p.s, SV p.x])) (hg : wm.grownBy w' (Value.slice a n c).ownBlock) : OwnP w' B (some ⟨g, 0, none⟩) (n + 1) cap (fun j => if j = n then p else P j) := by
  have key : ∀ {x : Option Addr × Nat × Nat} {m : List Nat}, wm.ownsRow B 5 1 (SV x) m.length (m.map bv) → w'.ownsRow B 5 1 (SV x) m.length (m.map bv) := fun k => k.kept hg (own_ne k h.row (by decide))
  refine ⟨?_, fun i hi => ?_⟩
  · have e : pcells (fun j => if j = n then p else P j) (n + 1) = pcells P n ++ [.int .i64 p.b, .int .i64 p.e, .int .i64 p.s, SV p.x] := by
      simp only [pcells, if_pos]
      rw [pcells_ext n (P' := P) (fun i hi => by rw [if_neg (by omega)])]
    rw [e]
    exact hE
  · by_cases e : i = n
    · simp only [if_pos e]
      exact ⟨hp.1, key hp.2.1, hp.2.2⟩
    · simp only [if_neg e]
      obtain ⟨k0, k1, k2⟩ := h.dig i (by omega)
      exact ⟨k0, key k1, k2⟩
theorem news4 {w : World} {g : Nat} {v0 v1 v2 v3 : Value} {T : TypeId} {fr : Nat × Nat} (h : w.heap[g]? = some (.cells #[v0, v1, v2, v3] T fr)) : ∀ j u, [v0, v1, v2, v3][j]? = some u → w.cell? ((⟨g, 0, none⟩ : Addr).add j) = some u := World.news_of_block h
set_option maxRecDepth 100000 in
set_option maxHeartbeats 8000000 in
theorem copyPlaces_own (pa : Option Addr) (pn pc : Nat) (P : Nat → PlR) (w : World) (h : PlacesV w pa pn pc P) (hpn : pn ≤ 100000) :
    Calls Try.prog 26 #[.slice pa pn pc] w fun e w' => ∃ a c P', e = .returned (.slice a pn c) ∧ (∀ i, i < pn → SameP (P' i) (P i)) ∧ OwnP w' w.heap.size a pn c P' ∧ Below w.heap.size w w' := by
  obtain ⟨i0, hin, hz0, hz1, hz2⟩ := info_partsM infoPlace
  have HS := Lib.hid h
  have HP : Hid (OwnP (w.alloc (.cells #[] PT4)) w.heap.size (some ⟨w.heap.size, 0, none⟩) 0 0 P) := Lib.hid (OwnP.made P (Nat.le_refl _))
  have HB := Lib.hid (below_alloc w (.cells #[] PT4))
  clear h
  go_enter Try.func26, Try.ntmps26
  go_upto_block 0 with fail
  generalize w.alloc (.cells #[] PT4) = w2 at HP HB ⊢
  go_wp2_with fail
  go_loopw [3, 4] (fun vp vi wr => ∃ (i : Nat) (av : Option Addr) (cv : Nat) (Q : Nat → PlR), i ≤ pn ∧ vi = .int .i64 (i : Nat) ∧ vp = .slice av i cv ∧ Hid (∀ j, j < i → SameP (Q j) (P j)) ∧ Hid (OwnP wr w.heap.size av i cv Q) ∧ Hid (Below w.heap.size w wr)) (fun _ vi _ => (pn - intOf vi).toNat)
  case atStart => exact ⟨0, _, _, P, Nat.zero_le _, rfl, rfl, Lib.hid (fun j h => absurd h (Nat.not_lt_zero _)), HP, HB⟩
  case round =>
    clear HP HB
    obtain ⟨i, av, cv, Q, hip, rfl, rfl, HQS, HO, HBr⟩ := hrel
    by_cases hlt : i < pn
    · obtain ⟨g, off, rfl, hlg, hat0⟩ := HS.out.row (by omega)
      have hat := (hat0 i hlt).below hlg HBr.out
      obtain ⟨pl, hpl⟩ : ∃ p, p = P i := ⟨_, rfl⟩
      rw [← hpl] at hat
      have HPI := Lib.hid hpl
      obtain ⟨pb, pe, ps, ⟨xa, xn, xc⟩, pm⟩ := pl
      obtain ⟨z0, z1, z2, z3, hxb⟩ := hat
      simp only at z0 z1 z2 z3 hxb
      have HXB := Lib.hid hxb
      have hxl : pm.length = xn := hxb.length
      have hpi : (i : Int) < (pn : Int) := by omega
      clear hat0 hpl hxb
      obtain ⟨q, hq⟩ : ∃ q, q = wr.heap.size := ⟨_, rfl⟩
      obtain ⟨v0, hv0⟩ : ∃ x, x = wr.alloc (.cells #[.int .i64 pb, .int .i64 pe, .int .i64 ps, .slice xa xn xc] PT4) := ⟨_, rfl⟩
      have hbq : Below wr.heap.size wr v0 := by rw [hv0]; exact below_alloc wr _
      have hsr : w.heap.size ≤ wr.heap.size := HBr.out.size
      have GQ0 := Lib.hid (show v0.heap[q]? = some (.cells #[.int .i64 pb, .int .i64 pe, .int .i64 ps, .slice xa xn xc] PT4 (0, 0)) by rw [hv0, hq]; exact heap_alloc_new wr _)
      have GO0 := Lib.hid (HO.out.below hbq)
      have HNE := Lib.hid (show (Value.slice av i cv).ownBlock ≠ some q ∧ ∀ j, j < i → (SV (Q j).x).ownBlock ≠ some q from ⟨fun e => by have := (HO.out.row.lt q e).2; omega, fun j hj e => by have := ((HO.out.dig j hj).2.1.lt q e).2; omega⟩)
      have gB0 := Lib.hid (HBr.out.trans (hbq.mono hsr))
      have HX0 := Lib.hid (HXB.out.below hbq)
      obtain ⟨q0, q1, q2, q3⟩ := cells4M GQ0.out
      have HV0 := Lib.hid hv0
      have HQ := Lib.hid hq
      have hqw : w.heap.size ≤ q := by rw [hq]; exact hsr
      clear hbq hv0 hq HO HBr HXB
      go_upto_region 6 with fail
      rw [← HV0.out, ← HQ.out]
      clear z0 z1 z2 z3
      have KC := copyBytes_any xa xn xc pm v0 HX0.out
      go_wp2_with fail
      (with_reducible refine KC.mono ?_)
      rintro e v1 ⟨a5, c5, rfl, o5, b5⟩
      rw [hxl] at o5
      have gq0 : q < v0.heap.size := (Array.getElem?_eq_some_iff.1 GQ0.out).1
      have GQ1 := Lib.hid ((b5.block q gq0).trans GQ0.out)
      have gB1 := gB0.out.trans (b5.mono (Nat.le_trans hqw (Nat.le_of_lt gq0)))
      have GO1 := GO0.out.below b5
      have o6 := ownsRow_base o5 (Nat.le_trans hqw (Nat.le_of_lt gq0))
      obtain ⟨q0, q1, q2, q3⟩ := cells4M GQ1.out
      have HNX := Lib.hid (show (Value.slice a5 xn c5).ownBlock ≠ some q from fun e => by have := (o5.lt q e).1; omega)
      obtain ⟨v2, hv2⟩ : ∃ x, x = v1.setCell ⟨q, 3, none⟩ (.slice a5 xn c5) := ⟨_, rfl⟩
      have hg2 : v1.grownBy v2 (some q) := by rw [hv2]; exact grownBy_setCellM v1 ⟨q, 3, none⟩ _
      have GQ2 := Lib.hid (show v2.heap[q]? = some (.cells #[.int .i64 pb, .int .i64 pe, .int .i64 ps, .slice a5 xn c5] PT4 (0, 0)) by rw [hv2]; exact heap_setCell_same v1 q 3 _ _ _ GQ1.out)
      have GO2 := Lib.hid (GO1.kept hg2 (.inr HNE.out.1) (fun j hj => .inr (HNE.out.2 j hj)))
      have HO2 := Lib.hid (o6.kept hg2 (.inr HNX.out))
      have hB2 : Below w.heap.size w v2 := by rw [hv2]; exact gB1.setCell (p := ⟨q, 3, none⟩) hqw _
      have HV2 := Lib.hid hv2
      rw [hxl]
      clear o5 o6 b5 gB1 GO1 KC hv2 hg2
      have gq1 : v1.frozen? ⟨q, 3, none⟩ = false := frozen_of_row _ _ _ _ _ GQ1.out
      go_upto_region 7 with fail
      rw [← HV2.out]
      clear gq1 q0 q1 q2 q3
      obtain ⟨q0, q1, q2, q3⟩ := cells4M GQ2.out
      have hsb2 : w.heap.size ≤ v2.heap.size := hB2.size
      go_wp2_with (first | (at_builtin; refine wpList_append_lies _ rfl (.tmp 21) (.tmp 23) 35 rfl w.heap.size PT4 i0 (.agg #[.int .i64 0, .int .i64 0, .int .i64 0, .slice none 0 0]) 4 48 Try.underlying35 hin hz0 hz1 hz2 rfl (by decide) (.slice av i cv) i (pcells Q i) rfl (GO2.out.below (below_alloc v2 _)).row ⟨v2.heap.size, 0, none⟩ 1 1 [.int .i64 pb, .int .i64 pe, .int .i64 ps, .slice a5 xn c5] rfl rfl (news4 (heap_alloc_new v2 _)) (by intro u hu; simp at hu; rcases hu with rfl | rfl | rfl | rfl <;> rfl) (by decide) (by simp [maxLen]; omega) (by omega) (by simp; omega) _ rfl ?_; intro g9 c9 v9 hE9 hg9 _ _; refine Hid.out ?_))
      refine Lib.hid ?_
      have hO9 := OwnP.append (p := ⟨pb, pe, ps, (a5, xn, c5), pm⟩) (GO2.out.below (below_alloc v2 _)) ⟨hxl.symm, by show World.ownsRow _ _ _ _ (.slice a5 xn c5) pm.length (pm.map bv); rw [hxl]; exact HO2.out.kept (grownBy_of_below (below_alloc v2 _) none) (by cases (Value.slice a5 xn c5).ownBlock <;> simp), HX0.out.bytes, by show pm.length ≤ _; rw [hxl]; exact HX0.out.small⟩ hE9 hg9
      have hB9 := Lib.hid ((hB2.alloc hsb2 _).grown hg9 (by simp; omega) (fun k hk => ownBlock_ge GO2.out.row k hk))
      have HO9 := Lib.hid hO9
      have HQ9 := Lib.hid (show ∀ j, j < i + 1 → SameP ((fun j => if j = i then (⟨pb, pe, ps, (a5, xn, c5), pm⟩ : PlR) else Q j) j) (P j) from fun j hj => by
        by_cases e : j = i
        · subst e
          simp only [if_pos]
          rw [← HPI.out]
          exact ⟨rfl, rfl, rfl, rfl, rfl⟩
        · simp only [if_neg e]
          exact HQS.out j (by omega))
      clear hO9 hE9 hg9 hB2 q0 q1 q2 q3
      go_wp2
      go_roundw
      case rel => exact ⟨i + 1, _, _, _, by omega, by go_num, rfl, HQ9, HO9, hB9⟩
      case measure => simp [intOf] <;> omega
    · obtain rfl : i = pn := by omega
      go_wp2
      go_ret
      exact ⟨_, _, Q, rfl, HQS.out, HO.out, HBr.out⟩
end Go.Proofs.Ytikjcmijmhmilaa
