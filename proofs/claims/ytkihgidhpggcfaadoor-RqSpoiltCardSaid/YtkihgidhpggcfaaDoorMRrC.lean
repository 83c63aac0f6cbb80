/-
  rilllaw04: RqSpoilt: pieces whose bytes share no memory.
-/
import Derived.Test.YtkihgidhpggcfaaDoorMRrA
namespace Go.Proofs.YtkihgidhpggcfaaDoor
open Go.RowKit

/-- which blocks hold which bytes: no two the same, all below a bound. -/
def Apart (U : Nat) (xs : List (Int × HdT)) : Prop := (∀ (i : Nat) x b, xs[i]? = some x → (SV x.2).ownBlock = some b → b < U) ∧ ∀ (i j : Nat) x y b, i ≠ j → xs[i]? = some x → xs[j]? = some y → (SV x.2).ownBlock = some b → (SV y.2).ownBlock ≠ some b
/-- pieces of the call's own, that share no memory. -/
def OwnU (w : World) (B U : Nat) (a : Option Addr) (n c : Nat) (ps : List Pc) : Prop := ps.length = n ∧ ∃ xs : List (Int × HdT), xs.length = n ∧ w.ownsRow B PT 2 (.slice a n c) n (pcells xs) ∧ (∀ (i : Nat) x p, xs[i]? = some x → ps[i]? = some p → x.1 = p.1 ∧ x.2.2.1 = p.2.length ∧ w.ownsRow B 5 1 (SV x.2) p.2.length (p.2.map bv) ∧ Bytes p.2 ∧ p.2.length ≤ 140737488355328) ∧ Apart U xs
theorem OwnU.ownP {w : World} {B U : Nat} {a : Option Addr} {n c : Nat} {ps : List Pc} (h : OwnU w B U a n c ps) : OwnP w B a n c ps := by
  obtain ⟨h1, xs, h2, h3, h4, -⟩ := h
  exact ⟨h1, xs, h2, h3, h4⟩
theorem OwnU.below {w w' : World} {B U : Nat} {a : Option Addr} {n c : Nat} {ps : List Pc} (h : OwnU w B U a n c ps) (hb : Below w.heap.size w w') : OwnU w' B U a n c ps := by
  obtain ⟨h1, xs, h2, h3, h4, h5⟩ := h
  refine ⟨h1, xs, h2, h3.kept (grownBy_of_below hb none) (by cases (Value.slice a n c).ownBlock <;> simp), fun i x p a b => ?_, h5⟩
  obtain ⟨k1, k2, k3, k4, k5⟩ := h4 i x p a b
  exact ⟨k1, k2, k3.kept (grownBy_of_below hb none) (by cases (SV x.2).ownBlock <;> simp), k4, k5⟩
theorem OwnU.up {w : World} {B U U' : Nat} {a : Option Addr} {n c : Nat} {ps : List Pc} (h : OwnU w B U a n c ps) (hU : U ≤ U') : OwnU w B U' a n c ps := by
  obtain ⟨h1, xs, h2, h3, h4, h5, h6⟩ := h
  exact ⟨h1, xs, h2, h3, h4, fun i x b k1 k2 => Nat.lt_of_lt_of_le (h5 i x b k1 k2) hU, h6⟩
theorem OwnU.rebase {w : World} {B B' U : Nat} {a : Option Addr} {n c : Nat} {ps : List Pc} (h : OwnU w B U a n c ps) (hB : B' ≤ B) : OwnU w B' U a n c ps := by
  obtain ⟨h1, xs, h2, h3, h4, h5⟩ := h
  exact ⟨h1, xs, h2, ownsRow_base h3 hB, fun i x p a b => by
    obtain ⟨k1, k2, k3, k4⟩ := h4 i x p a b
    exact ⟨k1, k2, ownsRow_base k3 hB, k4⟩, h5⟩
theorem OwnU.start {w : World} {B U : Nat} {a : Option Addr} {c : Nat} (h : w.ownsRow B PT 2 (.slice a 0 c) 0 []) : OwnU w B U a 0 c [] := ⟨rfl, [], rfl, h, fun i x p h => by simp at h, fun i x b h => by simp at h, fun i j x y b _ h => by simp at h⟩
theorem pu_append {wm w' : World} {B U n : Nat} {a : Option Addr} {c : Nat} {xs : List (Int × HdT)} {ps : List Pc} {e : Int} {y : HdT} {l : List Nat} (h2 : xs.length = n) (h1 : ps.length = n) (h3 : wm.ownsRow B PT 2 (.slice a n c) n (pcells xs))
    (h4 : ∀ (i : Nat) x p, xs[i]? = some x → ps[i]? = some p → x.1 = p.1 ∧ x.2.2.1 = p.2.length ∧ wm.ownsRow B 5 1 (SV x.2) p.2.length (p.2.map bv) ∧ Bytes p.2 ∧ p.2.length ≤ 140737488355328) (h5 : Apart U xs) (hU : ∀ k, (SV y).ownBlock = some k → U ≤ k)
    (hy : wm.ownsRow B 5 1 (SV y) l.length (l.map bv)) (hyl : y.2.1 = l.length) (hl : Bytes l ∧ l.length ≤ 140737488355328) {g cap : Nat}
    (hE : w'.ownsRow B PT 2 (.slice (some ⟨g, 0, none⟩) (n + 1) cap) (n + 1) (pcells xs ++ [.int .i64 e, SV y])) (hg : wm.grownBy w' (Value.slice a n c).ownBlock) : OwnU w' B w'.heap.size (some ⟨g, 0, none⟩) (n + 1) cap (ps ++ [(e, l)]) := by
  have key : ∀ {x : HdT} {m : List Nat}, wm.ownsRow B 5 1 (SV x) m.length (m.map bv) → w'.ownsRow B 5 1 (SV x) m.length (m.map bv) := fun k => k.kept hg (own_ne k h3 (by decide))
  have hlt : ∀ (i : Nat) x b, xs[i]? = some x → (SV x.2).ownBlock = some b → b < wm.heap.size := fun i x b hx hb => by
    have hi := (List.getElem?_eq_some_iff.1 hx).1
    obtain ⟨p, hp⟩ : ∃ p, ps[i]? = some p := ⟨_, List.getElem?_eq_getElem (by omega)⟩
    exact ((h4 i x p hx hp).2.2.1.lt b hb).2
  have hsz := hg.size
  refine ⟨by simp [h1], xs ++ [(e, y)], by simp [h2], by rw [pcells_append]; exact hE, fun i x p a b => ?_, fun i x b hx hb => ?_, fun i j x z b hij hx hz hb => ?_⟩
  · rcases snoc_at a with ⟨a, k1⟩ | ⟨k1, rfl⟩ <;> rcases snoc_at b with ⟨b, k2⟩ | ⟨k2, rfl⟩
    · obtain ⟨k1, k2, k3, k4, k5⟩ := h4 i x p a b
      exact ⟨k1, k2, key k3, k4, k5⟩
    · omega
    · omega
    · exact ⟨rfl, hyl, key hy, hl⟩
  · rcases snoc_at hx with ⟨hx, k1⟩ | ⟨k1, rfl⟩
    · have := hlt i x b hx hb; omega
    · have := (hy.lt b hb).2; omega
  · rcases snoc_at hx with ⟨hx, k1⟩ | ⟨k1, rfl⟩ <;> rcases snoc_at hz with ⟨hz, k2⟩ | ⟨k2, rfl⟩
    · exact h5.2 i j x z b hij hx hz hb
    · intro e
      have := h5.1 i x b hx hb
      have := hU b e
      omega
    · intro e
      have := h5.1 j z b hz e
      have := hU b hb
      omega
    · omega
/-- pieces and an error. -/
def GivesU (w : World) (o : List Pc × Int) (e : Ending) (w' : World) : Prop := ∃ a c, e = .returned (.tuple #[.slice a o.1.length c, .int .i64 o.2]) ∧ OwnU w' w.heap.size w'.heap.size a o.1.length c o.1 ∧ Below w.heap.size w w'
theorem givesU_nil {w w' : World} {code : Int} (hb : Below w.heap.size w w') : GivesU w ([], code) (.returned (.tuple #[.slice none 0 0, .int .i64 code])) w' := ⟨none, 0, rfl, .start ⟨rfl, .inl ⟨rfl, rfl⟩⟩, hb⟩
theorem pc_set {ps : List Pc} {i j : Nat} {p q : Pc} (h : (ps.set i q)[j]? = some p) : (j ≠ i ∧ ps[j]? = some p) ∨ (j = i ∧ p = q) := by
  rw [List.getElem?_set] at h
  by_cases e : i = j
  · rw [if_pos e] at h
    split at h
    · exact .inr ⟨e.symm, (Option.some.inj h).symm⟩
    · cases h
  · rw [if_neg e] at h
    exact .inl ⟨fun k => e k.symm, h⟩
/-- one byte of one piece is stored to. -/
theorem OwnU.turn {w : World} {B U i j n c : Nat} {a : Option Addr} {ps : List Pc} {e : Int} {l : List Nat} (h : OwnU w B U a n c ps) (hp : ps[i]? = some (e, l)) (hj : j < l.length) :
    ∃ g q cx, a = some ⟨g, 0, none⟩ ∧ w.cell? ⟨g, i * 2 + 1, none⟩ = some (.slice (some ⟨q, 0, none⟩) l.length cx) ∧ w.cell? ⟨q, j, none⟩ = some (.int .u8 (l.getD j 0 : Nat)) ∧ w.frozen? ⟨q, j, none⟩ = false ∧ B ≤ q ∧ q < w.heap.size ∧ Bytes l ∧ l.length ≤ 140737488355328 ∧ ∀ z : Nat, z < 256 → PiV (w.setCell ⟨q, j, none⟩ (.int .u8 (z : Nat))) a n (ps.set i (e, l.set j z)) := by
  obtain ⟨h1, xs, h2, h3, h4, h5⟩ := h
  have hi := (List.getElem?_eq_some_iff.1 hp).1
  obtain ⟨x, hx⟩ : ∃ x, xs[i]? = some x := ⟨_, List.getElem?_eq_getElem (by omega)⟩
  obtain ⟨k1, k2, k3, k4, k5⟩ := h4 i x _ hx hp
  obtain ⟨x1, xa, xn, xc⟩ := x
  simp only at k1 k2 k3 k4 k5
  subst k1 k2
  replace k3 : w.ownsRow B 5 1 (.slice xa l.length xc) l.length (l.map bv) := k3
  obtain ⟨q, rfl⟩ := own_some k3 (by omega)
  rcases h3.2 with ⟨_, e0⟩ | ⟨g, cap, cur, e0, _, hg, _⟩
  · omega
  injection e0 with e1 e2 e3
  subst e1
  have hc1 := h3.cellAt (i * 2 + 1) (by have := h2; have := h1; omega)
  have hc2 := k3.cellAt j (by omega)
  have hgq : (Value.slice (some ⟨g, 0, none⟩) n c).ownBlock ≠ some q := by
    rcases own_ne h3 k3 (by decide) with h | h
    · cases h
    · exact h
  refine ⟨g, q, xc, rfl, hc1.trans (pcells_get xs i _ hx).2, hc2.trans (bv_getD hj), k3.frozenAt j, (k3.lt q rfl).1, (k3.lt q rfl).2, k4, k5, fun z hz => ?_⟩
  have hgr := grown_set4 w q j (.int .u8 (z : Nat))
  have k3' := own_set' k3 j (.int .u8 (z : Nat))
  rw [show (l.map bv).set j (.int .u8 (z : Nat)) = (l.set j z).map bv by rw [List.map_set]; rfl] at k3'
  have h3' := h3.kept hgr (.inr hgq)
  have hzv : Bytes (l.set j z) := fun x hx => by
    rcases List.mem_or_eq_of_mem_set hx with h | h
    · exact k4 x h
    · rw [h]; exact hz
  have key : OwnP (w.setCell ⟨q, j, none⟩ (.int .u8 (z : Nat))) B (some ⟨g, 0, none⟩) n c (ps.set i (x1, l.set j z)) := by
    refine ⟨by rw [List.length_set]; exact h1, xs, h2, h3', fun m y p hy hp => ?_⟩
    rcases pc_set hp with ⟨hm, hp⟩ | ⟨rfl, rfl⟩
    · obtain ⟨r1, r2, r3, r4, r5⟩ := h4 m y p hy hp
      refine ⟨r1, r2, r3.kept hgr ?_, r4, r5⟩
      exact .inr (h5.2 i m _ y q (fun e => hm e.symm) hx hy rfl)
    · obtain rfl : y = _ := Option.some.inj (hy.symm.trans hx)
      exact ⟨rfl, by simp, by rw [List.length_set]; exact k3', hzv, by simpa using k5⟩
  exact key.pi
set_option maxRecDepth 100000 in
set_option maxHeartbeats 8000000 in
theorem encode_pu (sa : Option Addr) (sn sc : Nat) (src : List (List Nat)) (ea : Option Addr) (en ec : Nat) (es : List Int) (w : World) (h : RD w sa sn src) (he : IntsV w (ea, en, ec) es) (hen : en ≤ 1000) (hg : Bnd w) :
    Calls Tryd.prog 25 #[.slice sa sn sc, .slice ea en ec] w (GivesU w (encodeR src es)) := by
  obtain ⟨i0, hpi, hz0, hz1, hz2⟩ := info_parts pinfo
  have hel : es.length = en := he.length
  have KI := inner_rd sa sn sc src w h hg
  have HEL := Lib.hid hel
  have HE := Lib.hid he
  have HG := Lib.hid hg
  have HSL := Lib.hid h.1
  obtain ⟨OUT, hO⟩ : ∃ O, O = encodeR src es := ⟨_, rfl⟩
  rw [← hO]
  have HOK := Lib.hid (inner_ok (src := src))
  unfold encodeR at hO
  obtain ⟨S, hS⟩ : ∃ S, S = innerR src := ⟨_, rfl⟩
  have hXl := inner_len src
  rw [← hS] at KI hO HOK hXl
  have HOUT := Lib.hid hO
  clear h he hg hel hO hS
  obtain ⟨X, code⟩ := S
  simp only at HOUT HOK hXl
  go_enter Tryd.func25, Tryd.ntmps25
  go_wp2_with fail
  (with_reducible refine KI.mono ?_)
  rintro e w1 ⟨ax, cx, rfl, hX, b1⟩
  simp only at hX ⊢
  clear KI
  by_cases hc : code = 0
  rotate_left 1
  · have hcb : (code != 0) = true := by rw [bne_iff_ne]; exact hc
    have HC := Lib.hid hc
    clear hc hX
    go_wp2
    go_ret2
    rw [HOUT.out, if_neg HC.out]
    exact givesU_nil b1
  subst hc
  obtain ⟨m, e1, -, h1, hk⟩ := okK_nat (HOK.out rfl)
  rw [HSL.out] at e1
  obtain rfl : sn = m := by omega
  have HX := Lib.hid hX
  have HXM := Lib.hid (hX.mem)
  have hs1 := b1.size
  have HB1 := Lib.hid b1
  clear e1 hX b1
  go_wp2_with (first | (at_make; refine Hid.out ?_))
  refine Lib.hid ?_
  refine wpList_make_own _ rfl _ _ 38 rfl w1.heap.size PT i0 (.agg #[.int .i64 0, .slice none 0 0]) 2 Tryd.underlying38 hpi hz0 hz1 _ _ _ en rfl rfl rfl (by rw [hz2]; omega) (by unfold maxLen; omega) (Nat.le_refl _) ?_
  intro w2 hown2 hgrow2
  have HP : Hid (OwnU w2 w1.heap.size w2.heap.size (some ⟨w1.heap.size, 0, none⟩) 0 en ((es.take 0).map (pieceOf sn X))) := Lib.hid (.start hown2)
  have HB2 : Hid (Below w1.heap.size w1 w2) := Lib.hid ⟨hgrow2.os, hgrow2.tape, hgrow2.output, hgrow2.size, fun i hi => hgrow2.block i hi (by simp)⟩
  clear hown2 hgrow2
  go_wp2_with fail
  go_loopw [8, 26] (fun vp vi wr => ∃ (i : Nat) (av : Option Addr) (cv : Nat), i ≤ en ∧ vi = .int .i64 (i : Nat) ∧ vp = .slice av i cv ∧ Hid (OwnU wr w1.heap.size wr.heap.size av i cv ((es.take i).map (pieceOf sn X))) ∧ Hid (Below w1.heap.size w1 wr) ∧ Hid (∀ (j : Nat) e, j < i → es[j]? = some e → okE e = true)) (fun _ vi _ => (en - intOf vi).toNat)
  case atStart => exact ⟨0, _, _, Nat.zero_le _, rfl, rfl, HP, HB2, Lib.hid (fun j e h => absurd h (Nat.not_lt_zero _))⟩
  case round =>
    clear HP HB2
    obtain ⟨i, av, cv, hi, rfl, rfl, hP, hB1, HZ⟩ := hrel
    have hB := Lib.hid (HB1.out.trans (hB1.out.mono hs1))
    have hX := Lib.hid (HX.out.below hB1.out)
    by_cases hlt : i < en
    · obtain ⟨b, off, e1, hc1⟩ := (HE.out.row.below hB.out).2 (by show 0 < en; omega)
      simp only at e1
      subst e1
      have hc := hc1 i hlt
      obtain ⟨z, hz⟩ : ∃ z, es[i]? = some z := ⟨_, List.getElem?_eq_getElem (by rw [HEL.out]; exact hlt)⟩
      rw [List.getElem?_map, hz] at hc
      have hc' : wr.cell? ⟨b, off + i, none⟩ = some (.int .i64 z) := hc
      have HZI := Lib.hid hz
      clear hc hc1 hz
      have KR := row_rd (sn : Int) z wr (HG.out.below hB.out)
      unfold rowR at KR
      rw [if_pos (okK_iff.2 ⟨by omega, by omega⟩), Int.toNat_natCast] at KR
      by_cases hz2 : okE z = true
      rotate_left 1
      · rw [if_neg hz2] at KR
        have hall : es.all okE = false := by
          cases h : es.all okE with
          | false => rfl
          | true => exact absurd (List.all_eq_true.1 h z (List.mem_of_getElem? HZI.out)) hz2
        have HHA := Lib.hid hall
        have hsz := hB.out.size
        clear hz2 hall
        go_wp2_with fail
        (with_reducible refine KR.mono ?_)
        rintro e w6 ⟨a6, c6, rfl, -, b6⟩
        clear KR
        go_wp2
        go_ret2
        rw [HOUT.out, if_pos trivial, HHA.out, if_neg (by simp)]
        exact givesU_nil (hB.out.trans (b6.mono hsz))
      rw [if_pos hz2] at KR
      have HT := Lib.hid (pieces_take sn X HZI.out)
      have HZ2 := Lib.hid hz2
      obtain ⟨r, hr⟩ : ∃ r, r = symR sn z.toNat := ⟨_, rfl⟩
      have hrb : Bytes r := by rw [hr]; exact symR_bytes _ _
      have hrl : r.length ≤ 100 := by rw [hr, symR_length]; have := (cL_facts h1 hk).2.1; omega
      have hpc : pieceOf sn X z = (z, mixS X r) := by rw [hr]; rfl
      have HPC := Lib.hid hpc
      rw [← hr] at KR
      have hsz := hB1.out.size
      have HRB := Lib.hid hrb
      clear hr hz2 hpc hrb
      go_wp2_with fail
      (with_reducible refine KR.mono ?_)
      rintro e w6 ⟨a6, c6, rfl, o6, b6⟩
      simp only at o6 ⊢
      have hb6 := hB1.out.trans (b6.mono hsz)
      have hs6w := b6.size
      have hX6 := hX.out.below b6
      have hP6 := (hP.out.below b6).up hs6w
      have KM := mix_rd a6 r.length c6 r ax X.length cx X w6 (bytesV_of_owns o6 HRB.out (by omega)) hX6 hXl
      have hmm := mixS_mem hX6.mem HRB.out
      obtain ⟨y, hy⟩ : ∃ y, y = mixS X r := ⟨_, rfl⟩
      rw [← hy] at KM hmm HPC
      have HMM := Lib.hid hmm
      have hs6 := hb6.size
      clear KR hP hB hB1 hX o6 b6 hmm hy hc'
      go_wp2_with fail
      (with_reducible refine KM.mono ?_)
      rintro e w7 ⟨a7, c7, rfl, o7, b7⟩
      have hb7 := hb6.trans (b7.mono hs6)
      have hP7 := hP6.below b7
      have o7' := ownsRow_base (base' := w1.heap.size) o7 hs6
      have hb8 := hb7.alloc hb7.size (.cells #[.int .i64 z, .slice a7 y.length c7] PT)
      have hP8 := hP7.below (below_alloc w7 (.cells #[.int .i64 z, .slice a7 y.length c7] PT))
      have o8 := o7'.alloc (.cells #[.int .i64 z, .slice a7 y.length c7] PT)
      obtain ⟨hpl, xs, hxl, hxo, hxs, hxu⟩ := hP8
      have HXS := Lib.hid hxs
      have HXU := Lib.hid hxu
      have HGE := Lib.hid (ownBlock_ge o7)
      have HXL := Lib.hid hxl
      have HPL := Lib.hid hpl
      have HO8 := Lib.hid o8
      have hbs8 := hb8.size
      clear KM hb6 hX6 hP6 hb7 hP7 o7 o7' b7 hxs hxl hpl o8 hxu hs6w
      go_wp2_with (first | (at_builtin; refine Hid.out ?_))
      refine Lib.hid ?_
      refine wpList_append_lies _ rfl _ _ 38 rfl w1.heap.size PT i0 (.agg #[.int .i64 0, .slice none 0 0]) 2 32 Tryd.underlying38 hpi hz0 hz1 hz2 rfl (by decide) _ _ _ rfl hxo ⟨w7.heap.size, 0, none⟩ 1 1 [.int .i64 z, SV (a7, y.length, c7)] rfl rfl (World.news_of_block (heap_alloc_new w7 _)) (by intro u hu; simp at hu; rcases hu with rfl | rfl <;> rfl) (by decide) (by unfold maxLen; omega) (by omega) hbs8 _ rfl ?_
      intro g9 c9 w9 hE9 g9' _ _
      have hb9 := below_grown hb8 g9' (fun k e => ownBlock_ge hxo k e)
      have hP9 := pu_append (y := (a7, y.length, c7)) (l := y) (e := z) HXL.out HPL.out hxo HXS.out HXU.out HGE.out HO8.out rfl HMM.out hE9 g9'
      rw [← HPC.out, ← HT.out] at hP9
      have HP9 := Lib.hid hP9
      have HB9 := Lib.hid hb9
      clear hxo hE9 g9' hb8 hP9 hb9
      go_wp2
      go_roundw
      case rel => exact ⟨i + 1, _, c9, by omega, by go_num, rfl, HP9, HB9, Lib.hid (fun j e hj he => (by
        by_cases e1 : j = i
        · rw [e1, HZI.out] at he
          exact (congrArg okE (Option.some.inj he)).symm.trans HZ2.out
        · exact HZ.out j e (by omega) he))⟩
      case measure => simp [intOf] <;> omega
    · obtain rfl : i = en := by omega
      have hall : es.all okE = true := List.all_eq_true.2 fun e he => by
        obtain ⟨j, hj⟩ := List.getElem?_of_mem he
        exact HZ.out j e (by have := (List.getElem?_eq_some_iff.1 hj).1; rw [HEL.out] at this; exact this) hj
      have hP' := hP.out
      rw [List.take_of_length_le (by rw [HEL.out]; exact Nat.le_refl _)] at hP'
      have HHA := Lib.hid hall
      have HP' := Lib.hid hP'
      have hml : (es.map (pieceOf sn X)).length = i := by rw [List.length_map]; exact HEL.out
      have HML := Lib.hid hml
      clear hall hP' hP hml
      go_wp2
      go_ret2
      rw [HOUT.out, if_pos trivial, HHA.out, if_pos rfl, HSL.out]
      have hp := HP'.out
      have hm := HML.out
      generalize es.map (pieceOf sn X) = D at hp hm ⊢
      exact ⟨av, cv, by simp only [hm]; rfl, by show OwnU wr w.heap.size wr.heap.size av D.length cv D; rw [hm]; exact hp.rebase hs1, hB.out⟩
end Go.Proofs.YtkihgidhpggcfaaDoor
