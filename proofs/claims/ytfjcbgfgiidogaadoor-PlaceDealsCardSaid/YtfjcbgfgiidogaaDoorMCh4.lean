/-
  Ch4: ChK ChL ChM
-/
import Derived.Test.YtfjcbgfgiidogaaDoorMRq7
import Derived.Test.YtfjcbgfgiidogaaDoorMCh3
namespace Go.Proofs.YtfjcbgfgiidogaaDoor
open Go.RowKit

theorem decodeR_shape {k t : Int} {ps : List Pc} (hm : ∀ l ∈ ps.map Prod.snd, Bytes l ∧ l.length ≤ 140737488355328) (h : (decodeR k t ps).2 = 0) : (decodeR k t ps).1.length = k.toNat ∧ Rws (decodeR k t ps).1 t.toNat := by
  unfold decodeR at h ⊢
  by_cases h1 : okK k = true
  rotate_left 1
  · rw [if_neg h1] at h; exact absurd h (by decide)
  rw [if_pos h1] at h ⊢
  by_cases h2 : okT t = true
  rotate_left 1
  · rw [if_neg h2] at h; exact absurd h (by decide)
  rw [if_pos h2] at h ⊢
  by_cases h3 : ps.length ≤ 128
  rotate_left 1
  · rw [if_neg h3] at h; exact absurd h (by decide)
  rw [if_pos h3] at h ⊢
  by_cases h4 : badB ps = true
  · rw [if_pos h4] at h; exact absurd h (by decide)
  rw [if_neg h4] at h ⊢
  by_cases h5 : evenP t ps = true
  rotate_left 1
  · rw [if_neg h5] at h; exact absurd h (by decide)
  rw [if_pos h5] at h ⊢
  obtain ⟨m, rfl, em, m1, m2⟩ := okK_nat h1
  obtain ⟨T, rfl, eT, T1, T2⟩ := okT_nat h2
  rw [Int.toNat_natCast, Int.toNat_natCast] at h ⊢
  unfold decodeT at h ⊢
  by_cases h6 : (decodeS m T ps).2 = 0
  rotate_left 1
  · rw [if_neg h6] at h; exact absurd h h6
  rw [if_pos h6] at h ⊢
  obtain ⟨f1, f2, f3⟩ := cL_facts m1 m2
  have hR : AllL (cL m) (fixedL m ++ symsL m (ps.map Prod.fst)) := all_app (fixed_all m) (syms_rws m _)
  have hV : Rws (List.replicate (cL m - m) (zs T) ++ ps.map Prod.snd) T := fun l hl => by
    rcases List.mem_append.1 hl with hl | hl
    · obtain ⟨-, rfl⟩ := List.mem_replicate.1 hl
      exact ⟨zs_bytes _, zs_length _⟩
    · obtain ⟨p, hp, rfl⟩ := List.mem_map.1 hl
      have := evenP_iff.1 h5 p hp
      exact ⟨(hm _ (List.mem_map.2 ⟨p, hp, rfl⟩)).1, by omega⟩
  unfold decodeS at h6 h ⊢
  obtain ⟨V, hVd⟩ : ∃ V, V = List.replicate (cL m - m) (zs T) ++ ps.map Prod.snd := ⟨_, rfl⟩
  obtain ⟨R, hRd⟩ : ∃ R, R = fixedL m ++ symsL m (ps.map Prod.fst) := ⟨_, rfl⟩
  rw [← hVd] at hV h6 h ⊢
  rw [← hRd] at hR h6 h ⊢
  clear hVd hRd
  have h7 : ∃ X, solveR ((cL m : Nat) : Int) R V = (X, 0) := ⟨(solveR ((cL m : Nat) : Int) R V).1, by rw [← h6]⟩
  obtain ⟨X, hX⟩ := h7
  rw [hX] at h ⊢
  simp only at h ⊢
  unfold solveR at hX
  split at hX
  · rename_i hok
    obtain ⟨b1, b2, b3⟩ := solveOK_iff.1 hok
    rw [Int.toNat_natCast] at hX
    obtain ⟨s1, s2, -⟩ := solve_told f1 b2 (all_rws hR) hV hX rfl
    unfold applyR at h ⊢
    split at h
    · rename_i hap
      rw [if_pos hap]
      exact ⟨by unfold applyOf; rw [List.length_map, placesL_length], apply_rws f1 s1 (all_rws (placesL_all m m)) s2⟩
    · cases h
  · cases hX
theorem gathTo_shape {n : Nat} {t : Int} {ss : List Sy} (hm : ∀ s ∈ ss, Bytes s.2.2 ∧ s.2.2.length ≤ 140737488355328) : ∀ i, (gathTo n t ss i).2 = 0 → Bytes (gathTo n t ss i).1 ∧ (gathTo n t ss i).1.length = chS n i * t.toNat
  | 0, _ => by simp [gathTo, chS_zero, Bytes]
  | i + 1, h => by
    simp only [gathTo] at h ⊢
    by_cases h1 : (gathTo n t ss i).2 = 0
    rotate_left 1
    · rw [if_neg h1] at h; exact absurd h h1
    rw [if_pos h1] at h ⊢
    by_cases h2 : (decodeR (chK n i : Nat) t (ofBlock ss i)).2 = 0
    rotate_left 1
    · rw [if_neg h2] at h; exact absurd h h2
    rw [if_pos h2] at h ⊢
    obtain ⟨k1, k2⟩ := gathTo_shape hm i h1
    obtain ⟨d1, d2⟩ := decodeR_shape (fun l hl => by
      obtain ⟨p, hp, rfl⟩ := List.mem_map.1 hl
      exact hm _ (mem_ofBlock.1 hp)) h2
    rw [Int.toNat_natCast] at d1
    have hfl : ∀ (L : List (List Nat)), Rws L t.toNat → L.flatten.length = L.length * t.toNat := fun L hL => by
      induction L with
      | nil => simp
      | cons l L ih =>
        rw [List.flatten_cons, List.length_append, ih (fun r hr => hL r (List.mem_cons_of_mem _ hr)), (hL l List.mem_cons_self).2, List.length_cons, Nat.add_mul, Nat.one_mul, Nat.add_comm]
    refine ⟨fun x hx => ?_, ?_⟩
    · rcases List.mem_append.1 hx with hx | hx
      · exact k1 x hx
      · obtain ⟨l, hl, hx⟩ := List.mem_flatten.1 hx
        exact (d2 l hl).1 x hx
    · simp only
      rw [List.length_append, k2, hfl _ d2, d1, chS_succ, Nat.add_mul]
theorem SyV.mem {w : World} {a : Option Addr} {n : Nat} {ss : List Sy} (h : SyV w a n ss) : ∀ s ∈ ss, Bytes s.2.2 ∧ s.2.2.length ≤ 140737488355328 := fun s hs => by
  obtain ⟨i, hi⟩ := List.getElem?_of_mem hs
  have hlt := (List.getElem?_eq_some_iff.1 hi).1
  obtain ⟨b, off, z, e, a2, n2, c2, l, -, -, -, -, hs2, hb⟩ := h.at (i := i) (by rw [← h.len]; exact hlt)
  rw [hi] at hs2
  injection hs2 with hs2
  subst hs2
  have := hb.length
  have := hb.small
  simp only at *
  exact ⟨hb.bytes, by omega⟩
/-- bytes that are read, and an error. -/
def GivesG (w : World) (o : List Nat × Int) (e : Ending) (w' : World) : Prop := ∃ a c, e = .returned (.tuple #[.slice a o.1.length c, .int .i64 o.2]) ∧ BytesV w' (a, o.1.length, c) o.1 ∧ Below w.heap.size w w'
theorem givesG_nil {w w' : World} {code : Int} (hb : Below w.heap.size w w') : GivesG w ([], code) (.returned (.tuple #[.slice none 0 0, .int .i64 code])) w' :=
  ⟨none, 0, rfl, bytesV_of_owns (base := 0) (T := 5) ⟨rfl, .inl ⟨rfl, rfl⟩⟩ (fun x hx => by cases hx) (by simp), hb⟩
/-- what byBlock answers, as it is read. -/
def ReadQ (w : World) (a g : Nat) (n z : Nat) (ss : List Sy) : Prop := ∀ i, i < z → w.cell? ⟨a, i, none⟩ = some (.int .i64 ((chK n i : Nat) : Int)) ∧ ∃ xa xn xc, w.cell? ⟨g, i, none⟩ = some (.slice xa xn xc) ∧ PiV w xa xn (ofBlock ss i)
theorem ReadQ.below {w w' : World} {a g n z : Nat} {ss : List Sy} (h : ReadQ w a g n z ss) (hb : Below w.heap.size w w') : ReadQ w' a g n z ss := fun i hi => by
  obtain ⟨c, xa, xn, xc, k1, k2⟩ := h i hi
  exact ⟨cell_below c hb, xa, xn, xc, cell_below k1 hb, k2.below hb⟩
theorem readQ_of {w w' : World} {a : Option Addr} {c g c2 n z : Nat} {hs : List HdT} {ss : List Sy} (hz : z = chZ n) (h0 : 0 < z) (ho : w'.ownsRow w.heap.size 3 1 (.slice a z c) z ((partsL n).map nv')) (hq : OwnQ w w' w.heap.size g z c2 hs (qsTo ss z ss.length)) (hb : Below w.heap.size w w') : ∃ q, a = some ⟨q, 0, none⟩ ∧ ReadQ w' q g n z ss := by
  subst hz
  obtain ⟨q, rfl⟩ := own_some ho h0
  refine ⟨q, rfl, fun i hi => ⟨?_, ?_⟩⟩
  · have := ho.cellAt i (by omega)
    unfold partsL at this
    rw [List.getElem?_map, List.getElem?_map, List.getElem?_range hi] at this
    exact this
  · obtain ⟨⟨xa, xn, xc⟩, -, hc, -, -, hr⟩ := hq.at hi
    have e : (qsTo ss (chZ n) ss.length).getD i [] = ofBlock ss i := by
      rw [List.getD_eq_getElem?_getD, qsTo_at hi, List.take_of_length_le (Nat.le_refl _)]; rfl
    rw [e] at hr
    exact ⟨xa, xn, xc, hc, hr.pi hb⟩
theorem gathTo_fail {n : Nat} {t : Int} {ss : List Sy} {i : Nat} (h : (gathTo n t ss i).2 ≠ 0) : ∀ j, i ≤ j → gathTo n t ss j = gathTo n t ss i := by
  intro j hj
  induction hj with
  | refl => rfl
  | step _ ih => simp only [gathTo]; rw [ih, if_neg h]
theorem own_range {w w' : World} {B : Nat} {T : TypeId} {s n : Nat} {v : Value} {xs : List Value} (h : w.ownsRow B T s v n xs) (hk : ∀ b, B ≤ b → b < w.heap.size → w'.heap[b]? = w.heap[b]?) : w'.ownsRow B T s v n xs := by
  refine ⟨h.1, ?_⟩
  rcases h.2 with hn | ⟨g, cap, cur, rfl, hg, hh, rest⟩
  · exact .inl hn
  · refine .inr ⟨g, cap, cur, rfl, hg, (hk g hg ?_).trans hh, rest⟩
    exact (Array.getElem?_eq_some_iff.1 hh).1
theorem OwnRs.range {w w' : World} {B : Nat} {a : Option Addr} {n c : Nat} {ls : List (List Nat)} (h : OwnRs w B a n c ls) (hk : ∀ b, B ≤ b → b < w.heap.size → w'.heap[b]? = w.heap[b]?) : OwnRs w' B a n c ls := by
  obtain ⟨h0, hs, h1, h2, h3⟩ := h
  exact ⟨h0, hs, own_range h1 hk, ⟨h2.1, fun i x l a b => ⟨(h2.2 i x l a b).1, own_range (h2.2 i x l a b).2 hk⟩⟩, h3⟩
theorem RowV.takeC {w : World} {ad : Option Addr} {n m : Nat} {vs : List Value} (h : RowV w ad n vs) (hm : m ≤ n) : RowV w ad m (vs.take m) := by
  have hl := h.1
  refine ⟨by simp; omega, fun h0 => ?_⟩
  obtain ⟨b, off, e, hc⟩ := h.2 (by omega)
  exact ⟨b, off, e, fun i hi => by rw [hc i (by omega), List.getElem?_take, if_pos hi]⟩

theorem BytesV.takeC {w : World} {ad : Option Addr} {n c m : Nat} {l : List Nat} (h : BytesV w (ad, n, c) l) (hm : m ≤ n) : BytesV w (ad, m, c) (l.take m) := by
  refine ⟨?_, fun x hx => h.bytes x (List.mem_of_mem_take hx), ?_, ?_, h.nil⟩
  · have := h.row.takeC hm
    rwa [← List.map_take] at this
  · have := h.small; simp only at this ⊢; omega
  · have := h.cap; simp only at this ⊢; omega
set_option maxRecDepth 100000 in
set_option maxHeartbeats 8000000 in
theorem gather_n (s t : Int) (sa : Option Addr) (sn sc : Nat) (ss : List Sy) (w : World) (h : SyV w sa sn ss) (hsn : sn ≤ 100000) (hx : ∀ i, (ofBlock ss i).length ≤ 1000) (hg : Bnd w) :
    Calls Tryd.prog 29 #[.int .i64 s, .int .i64 t, .slice sa sn sc] w (GivesG w (gatherR s t ss)) := by
  obtain ⟨i0, hi, hz0, hz1, hz2⟩ := info_parts Tryd.info5
  have KB := byBlock_any s t sa sn sc ss w h hsn
  have HL := Lib.hid h.len
  have HM := Lib.hid h.mem
  have HG := Lib.hid hg
  have HXN := Lib.hid hx
  clear h hg hx
  obtain ⟨G, hG⟩ : ∃ G, G = gatherR s t ss := ⟨_, rfl⟩
  have HGE := Lib.hid hG
  rw [← hG]
  clear hG
  go_enter Tryd.func29, Tryd.ntmps29
  go_wp2_with fail
  (with_reducible refine KB.mono ?_)
  clear KB
  rintro e w1 ⟨b1, ⟨hc, rfl⟩ | ⟨hc, hbz, rfl⟩ | ⟨hc, hbz, a, c, g, c2, hs, rfl, ho, hq⟩⟩
  · have hcb : (sizeC s t != 0) = true := by rw [bne_iff_ne]; exact hc
    have HX := Lib.hid (show G = ([], sizeC s t) by rw [HGE.out]; unfold gatherR; rw [if_neg hc])
    clear HGE hc
    generalize sizeC s t = code at hcb HX ⊢
    go_wp2
    go_ret2
    rw [HX.out]
    exact givesG_nil b1
  · have HX := Lib.hid (show G = ([], 51) by rw [HGE.out]; unfold gatherR; rw [if_pos hc, if_pos hbz])
    clear HGE hc hbz
    go_wp2
    go_ret2
    rw [HX.out]
    exact givesG_nil b1
  obtain ⟨g1, g2⟩ := sizeC_zero.1 hc
  obtain ⟨s1, s2⟩ := okS_iff.1 g1
  obtain ⟨t1, t2⟩ := okT_iff.1 g2
  obtain ⟨n1, n2, n3, -⟩ := chN_facts (size := s.toNat) (t := t.toNat) (by omega) (by omega) (by omega)
  have HX := Lib.hid (show G = if (gathTo (chN s.toNat t.toNat) t ss (chZ (chN s.toNat t.toNat))).2 = 0 then ((gathTo (chN s.toNat t.toNat) t ss (chZ (chN s.toNat t.toNat))).1.take s.toNat, 0) else ([], (gathTo (chN s.toNat t.toNat) t ss (chZ (chN s.toNat t.toNat))).2) by
    rw [HGE.out]; unfold gatherR; rw [if_pos hc, if_neg (by rw [hbz]; decide)])
  clear HGE hc hbz g1 g2
  obtain ⟨n, hn⟩ : ∃ n, n = chN s.toNat t.toNat := ⟨_, rfl⟩
  rw [← hn] at n1 n2 n3 HX ho hq ⊢
  clear hn
  obtain ⟨z1, z2, -, -, z3⟩ := chZ_facts n1 n2
  have HCE := Lib.hid (chS_end (n := n))
  have HKF := Lib.hid (fun i (h : i < chZ n) => chK_facts n1 n2 h)
  have HSM := Lib.hid (fun i (h : i ≤ chZ n) => (show chS n i ≤ n by have := chS_mono n h; rw [chS_end] at this; exact this))
  obtain ⟨z, hz⟩ : ∃ z, z = chZ n := ⟨_, rfl⟩
  rw [← hz] at z1 z2 z3 HX HCE HKF HSM ho hq ⊢
  obtain ⟨q, rfl, hR⟩ := readQ_of hz (by omega) ho hq b1
  have HR := Lib.hid hR
  have HB1 := Lib.hid b1
  have hs1 := b1.size
  obtain ⟨S, rfl⟩ : ∃ S : Nat, s = (S : Nat) := ⟨s.toNat, by omega⟩
  obtain ⟨T, rfl⟩ : ∃ T : Nat, t = (T : Nat) := ⟨t.toNat, by omega⟩
  rw [Int.toNat_natCast] at n3 HX
  rw [Int.toNat_natCast] at n3
  have HN3 := Lib.hid n3
  clear hz ho hq hR b1 n3
  go_wp2_with fail
  go_loopw [11, 31] (fun vv vi wr => ∃ (i m : Nat) (va : Option Addr) (vc : Nat) (gl : List Nat), i ≤ z ∧ vi = .int .i64 (i : Nat) ∧ vv = .slice va m vc ∧ Hid (gathTo n (T : Nat) ss i = (gl, 0)) ∧ Hid (gl.length = m) ∧ Hid (wr.ownsRow w1.heap.size 5 1 (.slice va m vc) m (gl.map bv)) ∧ Hid (Below w1.heap.size w1 wr)) (fun _ vi _ => (z - intOf vi).toNat)
  case atStart => exact ⟨0, 0, none, 0, [], Nat.zero_le _, rfl, rfl, Lib.hid rfl, Lib.hid rfl, Lib.hid ⟨rfl, .inl ⟨rfl, rfl⟩⟩, Lib.hid (Below.refl _ _)⟩
  case round =>
    obtain ⟨i, m, va, vc, gl, hi', rfl, rfl, HGL, HLN, HO, HB⟩ := hrel
    by_cases hlt : i < z
    · obtain ⟨ca, xa, xn, xc, cb, hP⟩ := (HR.out.below HB.out) i hlt
      have hxn : xn ≤ 1000 := by
        have h1 := hP.len
        have h2 := HXN.out i
        omega
      have hb' := HB1.out.trans (HB.out.mono hs1)
      have KD := decode_ro ((chK n i : Nat) : Int) (T : Nat) xa xn xc (ofBlock ss i) wr hP hxn (HG.out.below hb')
      obtain ⟨D, hD⟩ : ∃ D, D = decodeR ((chK n i : Nat) : Int) (T : Nat) (ofBlock ss i) := ⟨_, rfl⟩
      have hSH : D.2 = 0 → D.1.length = chK n i ∧ Rws D.1 T := fun h => by
        rw [hD] at h ⊢
        have := decodeR_shape (fun l hl => by
          obtain ⟨p, hp, rfl⟩ := List.mem_map.1 hl
          exact HM.out _ (mem_ofBlock.1 hp)) h
        rw [Int.toNat_natCast, Int.toNat_natCast] at this
        exact this
      have hST : gathTo n (T : Nat) ss (i + 1) = if D.2 = 0 then (gl ++ D.1.flatten, 0) else ([], D.2) := by
        simp only [gathTo]
        rw [HGL.out, if_pos rfl, ← hD]
      have hLE := (gathTo_shape (t := (T : Nat)) HM.out i (by rw [HGL.out])).2
      have hGB := (gathTo_shape (t := (T : Nat)) HM.out i (by rw [HGL.out])).1
      rw [HGL.out, Int.toNat_natCast] at hLE
      rw [HGL.out] at hGB
      have hm' : m ≤ 65536 := by
        rw [HLN.out] at hLE
        have h1 := HSM.out i hi'
        have h2 : chS n i * T ≤ 1024 * 64 := Nat.mul_le_mul (by omega) (by omega)
        omega
      rw [← hD] at KD
      have HSH := Lib.hid hSH
      have HST := Lib.hid hST
      have HGB := Lib.hid hGB
      have hkk := (HKF.out i hlt).2.1
      obtain ⟨k, hk⟩ : ∃ k, k = chK n i := ⟨_, rfl⟩
      rw [← hk] at ca KD hkk HSH
      have hbs := HB.out.size
      have HKK := Lib.hid hkk
      have HM65 := Lib.hid hm'
      have HBW := Lib.hid hb'
      clear hSH hST hD hLE hGB hk hP hb'
      obtain ⟨rows, code⟩ := D
      simp only at HSH HST KD
      go_wp2_with fail
      (with_reducible refine KD.mono ?_)
      rintro e w5 ⟨a5, c5, rfl, -, h5, b5⟩
      simp only at h5 ⊢
      clear KD
      have hb5 := HBW.out.trans (b5.mono HBW.out.size)
      by_cases hc : code = 0
      rotate_left 1
      · have hcb : (code != 0) = true := by rw [bne_iff_ne]; exact hc
        have HE : Hid (G = ([], code)) := Lib.hid (by
          have h1 : gathTo n (T : Nat) ss (i + 1) = ([], code) := by rw [HST.out, if_neg hc]
          have h2 : gathTo n (T : Nat) ss z = ([], code) := by rw [gathTo_fail (by rw [h1]; exact hc) z (by omega), h1]
          rw [HX.out, h2, if_neg hc])
        clear hc h5
        go_wp2
        go_ret2
        rw [HE.out]
        exact givesG_nil hb5
      subst hc
      obtain ⟨hRl, hRw⟩ := HSH.out rfl
      have HRW := Lib.hid hRw
      have hO5 := h5 rfl
      rw [hRl] at hO5
      have HO5 := Lib.hid hO5
      have ho5 := HO.out.kept (grownBy_of_below b5 none) (by cases (Value.slice va m vc).ownBlock <;> simp)
      have hlow : ∀ g, (Value.slice va m vc).ownBlock = some g → g < wr.heap.size ∨ w5.heap.size ≤ g := fun g hg => .inl (HO.out.lt g hg).2
      have HO1 : Hid (w5.ownsRow w1.heap.size 5 1 (.slice va m vc) m ((gl ++ (rows.take 0).flatten).map bv)) := Lib.hid (by simpa using ho5)
      have HLO := Lib.hid hlow
      have HB5 := Lib.hid (HB.out.trans (b5.mono hbs))
      have hbs5 := b5.size
      have HLL := Lib.hid (show (gl ++ (rows.take 0).flatten).length = m by simpa using HLN.out)
      have HS2 : Hid (∀ j, j ≤ k → (gl ++ (rows.take j).flatten).length ≤ m + j * T) := Lib.hid (fun j hj => by
        rw [List.length_append, HLN.out]
        have : ∀ (L : List (List Nat)), Rws L T → L.flatten.length = L.length * T := fun L hL => by
          induction L with
          | nil => simp
          | cons l L ih =>
            rw [List.flatten_cons, List.length_append, ih (fun r hr => hL r (List.mem_cons_of_mem _ hr)), (hL l List.mem_cons_self).2, List.length_cons, Nat.add_mul, Nat.one_mul, Nat.add_comm]
        rw [this _ (fun r hr => HRW.out r (List.mem_of_mem_take hr)), List.length_take]
        have := Nat.mul_le_mul_right T (Nat.min_le_left j rows.length)
        omega)
      rw [hRl]
      have HRL := Lib.hid hRl
      clear h5 hO5 ho5 hlow hRl hRw HSH HO
      obtain ⟨wo, hwo⟩ : ∃ x, x = wr := ⟨_, rfl⟩
      subst hwo
      go_wp2_with fail
      go_loopw [11, 51] (fun vv vj wr => ∃ (j mm : Nat) (ya : Option Addr) (yc : Nat), j ≤ k ∧ vj = .int .i64 (j : Nat) ∧ vv = .slice ya mm yc ∧ Hid ((gl ++ (rows.take j).flatten).length = mm) ∧ Hid (wr.ownsRow w1.heap.size 5 1 (.slice ya mm yc) mm ((gl ++ (rows.take j).flatten).map bv)) ∧ Hid (∀ g, (Value.slice ya mm yc).ownBlock = some g → g < wo.heap.size ∨ w5.heap.size ≤ g) ∧ Hid (∀ b, wo.heap.size ≤ b → b < w5.heap.size → wr.heap[b]? = w5.heap[b]?) ∧ Hid (Below w1.heap.size w1 wr) ∧ w5.heap.size ≤ wr.heap.size) (fun _ vj _ => (k - intOf vj).toNat)
      case atStart => exact ⟨0, m, va, vc, Nat.zero_le _, rfl, rfl, HLL, HO1, HLO, Lib.hid (fun _ _ _ => rfl), HB5, Nat.le_refl _⟩
      case round =>
        clear HLL HO1 HLO HB5
        obtain ⟨j, mm, ya, yc, hj', rfl, rfl, HLL, HO1, HLO, HK, HBS, hss⟩ := hrel
        by_cases hjk : j < k
        · have hRD := (HO5.out.range HK.out).rd
          obtain ⟨rb, ro, a2, m2, c2', l, rfl, rc, hl, hby⟩ := hRD.at hjk
          obtain ⟨-, hlT⟩ := HRW.out l (List.mem_of_getElem? hl)
          have hm2 : m2 = T := by have := hby.length; simp only at this; omega
          subst hm2
          obtain ⟨b2, o2, rfl, hcs⟩ := hby.row.2 (by simp only; omega)
          simp only at hcs
          have hl1 := hby.row.1
          simp only at hl1
          have HST2 := Lib.hid (show gl ++ (rows.take (j + 1)).flatten = (gl ++ (rows.take j).flatten) ++ l by rw [take_step rows j l hl, List.flatten_append, List.append_assoc]; simp)
          have hmm : mm ≤ 70000 := by
            have h1 := HS2.out j hj'
            rw [HLL.out] at h1
            have h2 : j * m2 ≤ 32 * 64 := Nat.mul_le_mul (by have := HKK.out; omega) (by omega)
            have h3 := HM65.out
            omega
          have hown := HO1.out
          have hbb := HBS.out.size
          have HNEW := Lib.hid (show ∀ x u, (l.map bv)[x]? = some u → wr.cell? ((⟨b2, o2, none⟩ : Addr).add x) = some u from fun x u hu => by
            have hx : x < m2 := by have := (List.getElem?_eq_some_iff.1 hu).1; omega
            rw [← hu, ← hcs x hx]
            unfold Addr.add
            split
            · rename_i e0; subst e0; rfl
            · rfl)
          have HLT := Lib.hid hl1
          have HLl := Lib.hid hlT
          clear hRD hl hby hcs hl1 hlT
          go_wp2_with (first | (at_builtin; refine Hid.out ?_))
          refine Lib.hid ?_
          refine wpList_append_lies _ rfl _ _ 22 rfl w1.heap.size 5 i0 (.int .u8 0) 1 1 Tryd.underlying22 hi hz0 hz1 hz2 rfl (by decide) _ mm _ rfl hown ⟨b2, o2, none⟩ m2 c2' (l.map bv) rfl (by rw [HLT.out, Nat.mul_one]) HNEW.out (bv_one l) (by omega) (by simp [maxLen]; omega) (by omega) hbb _ rfl ?_
          intro g9 c9 w9 hE9 g9' lie9 _
          have hb9 := below_grown HBS.out g9' (ownBlock_ge hown)
          rw [← List.map_append, ← HST2.out] at hE9
          have HO9 := Lib.hid hE9
          have HB9 := Lib.hid hb9
          have HL9 := Lib.hid (show (gl ++ (rows.take (j + 1)).flatten).length = mm + m2 by rw [HST2.out, List.length_append, HLL.out, HLl.out])
          have HLO9 := Lib.hid (show ∀ g, (Value.slice (some ⟨g9, 0, none⟩) (mm + m2) c9).ownBlock = some g → g < wo.heap.size ∨ w5.heap.size ≤ g from fun g hg => by
            simp [Value.ownBlock] at hg
            subst hg
            rcases lie9 with h | h
            · exact HLO.out _ h
            · right; omega)
          have HK9 := Lib.hid (show ∀ b, wo.heap.size ≤ b → b < w5.heap.size → w9.heap[b]? = w5.heap[b]? from fun b h1 h2 => by
            rw [g9'.block b (by omega) (fun e => by
              rcases HLO.out b e.symm with h | h <;> omega)]
            exact HK.out b h1 h2)
          have hs9 := g9'.size
          clear hown hE9 g9' lie9 hb9 HO1 HLO HK HNEW
          go_wp2
          go_roundw
          case rel => exact ⟨j + 1, mm + m2, _, c9, by omega, by go_num, rfl, HL9, HO9, HLO9, HK9, HB9, by omega⟩
          case measure => simp [intOf]; omega
        · obtain rfl : j = k := by omega
          have HGT : Hid (gathTo n (T : Nat) ss (i + 1) = (gl ++ (rows.take j).flatten, 0)) := Lib.hid (by
            rw [HST.out, List.take_of_length_le (by rw [HRL.out]; exact Nat.le_refl _)]; simp)
          clear HO5 HK HLO
          go_wp2
          go_roundw
          case rel => exact ⟨i + 1, mm, ya, yc, _, by omega, by go_num, rfl, HGT, HLL, HO1, HBS⟩
          case measure => simp [intOf]; omega
    · obtain rfl : i = z := by omega
      obtain ⟨hGB, hLE⟩ := gathTo_shape (t := (T : Nat)) HM.out i (by rw [HGL.out])
      rw [HGL.out] at hGB hLE
      rw [HLN.out, HCE.out, Int.toNat_natCast] at hLE
      have hSm : S ≤ m := by have := HN3.out; omega
      have hm' : m ≤ 65536 := by
        have h2 : n * T ≤ 1024 * 64 := Nat.mul_le_mul (by omega) (by omega)
        omega
      have hV := bytesV_of_owns HO.out hGB (by omega)
      have hmc := hV.cap
      simp only at hmc
      have HE := Lib.hid (show G = (gl.take S, 0) by rw [HX.out, HGL.out, if_pos rfl])
      have HV := Lib.hid (hV.takeC hSm)
      have HLT := Lib.hid (show (gl.take S).length = S by rw [List.length_take, HLN.out]; omega)
      clear hGB hLE hV HO HGL
      go_wp2
      go_ret2
      rw [HE.out]
      exact ⟨va, vc, by simp only [HLT.out]; rfl, by simp only [HLT.out]; exact HV.out, HB1.out.trans (HB.out.mono hs1)⟩
theorem gather_any (s t : Int) (sa : Option Addr) (sn sc : Nat) (ss : List Sy) (w : World) (h : SyV w sa sn ss) (hsn : sn ≤ 1000) (hg : Bnd w) :
    Calls Tryd.prog 29 #[.int .i64 s, .int .i64 t, .slice sa sn sc] w (GivesG w (gatherR s t ss)) :=
  gather_n s t sa sn sc ss w h (by omega) (fun i => Nat.le_trans (ofBlock_count ss i) (by rw [h.len]; exact hsn)) hg
end Go.Proofs.YtfjcbgfgiidogaaDoor
namespace Go.Proofs.YtfjcbgfgiidogaaDoor
open Go.RowKit

theorem intsV_ownsC {w : World} {base : Nat} {T : TypeId} {ad : Option Addr} {cap n : Nat} {l : List Int} (h : w.ownsRow base T 1 (.slice ad n cap) n (l.map iv)) (hs : n ≤ 140737488355328) : IntsV w (ad, n, cap) l := by
  obtain ⟨ad', cap', e, hcase, hnc, _, hrow⟩ := ownsRow_parts h
  cases e
  exact ⟨hrow, hs, hnc, fun e => by rcases hcase with ⟨_, _, hc⟩ | ⟨g, hg, _⟩; exact hc; rw [hg] at e; cases e⟩
set_option maxRecDepth 100000 in
set_option maxHeartbeats 8000000 in
theorem ready_n (s t : Int) (sa : Option Addr) (sn sc : Nat) (ss : List Sy) (w : World) (h : SyV w sa sn ss) (hsn : sn ≤ 100000) (hx : ∀ i, (ofBlock ss i).length ≤ 1000) (hg : Bnd w) :
    Calls Tryd.prog 31 #[.int .i64 s, .int .i64 t, .slice sa sn sc] w fun e w' => e = .returned (.bool (readyB s t ss)) ∧ Below w.heap.size w w' := by
  obtain ⟨i0, hi, hz0, hz1, hz2⟩ := info_parts iinfo
  have KB := byBlock_any s t sa sn sc ss w h hsn
  have HL := Lib.hid h.len
  have HG := Lib.hid hg
  have HXN := Lib.hid hx
  clear h hg hx
  obtain ⟨G, hG⟩ : ∃ G, G = readyB s t ss := ⟨_, rfl⟩
  have HGE := Lib.hid hG
  rw [← hG]
  clear hG
  go_enter Tryd.func31, Tryd.ntmps31
  go_wp2_with fail
  (with_reducible refine KB.mono ?_)
  clear KB
  rintro e w1 ⟨b1, ⟨hc, rfl⟩ | ⟨hc, hbz, rfl⟩ | ⟨hc, hbz, a, c, g, c2, hs, rfl, ho, hq⟩⟩
  · have hcb : (sizeC s t != 0) = true := by rw [bne_iff_ne]; exact hc
    have HX := Lib.hid (show G = false by rw [HGE.out]; unfold readyB; rw [decide_eq_false hc, Bool.false_and])
    clear HGE hc
    generalize sizeC s t = code at hcb ⊢
    go_wp2
    go_ret
    exact ⟨by rw [HX.out]; rfl, b1⟩
  · have HX := Lib.hid (show G = false by rw [HGE.out]; unfold readyB; rw [hbz, Bool.not_true, Bool.false_and, Bool.and_false])
    clear HGE hc hbz
    go_wp2
    go_ret
    exact ⟨by rw [HX.out]; rfl, b1⟩
  obtain ⟨g1, g2⟩ := sizeC_zero.1 hc
  obtain ⟨s1, s2⟩ := okS_iff.1 g1
  obtain ⟨t1, t2⟩ := okT_iff.1 g2
  obtain ⟨n1, n2, n3, -⟩ := chN_facts (size := s.toNat) (t := t.toNat) (by omega) (by omega) (by omega)
  have HX := Lib.hid (show G = (List.range (chZ (chN s.toNat t.toNat))).all (enZ (chN s.toNat t.toNat) ss) by
    rw [HGE.out]; unfold readyB; rw [decide_eq_true hc, hbz, Bool.not_false, Bool.true_and, Bool.true_and])
  clear HGE hc hbz g1 g2
  obtain ⟨n, hn⟩ : ∃ n, n = chN s.toNat t.toNat := ⟨_, rfl⟩
  rw [← hn] at n1 n2 n3 HX ho hq ⊢
  clear hn
  obtain ⟨z1, z2, -, -, z3⟩ := chZ_facts n1 n2
  obtain ⟨z, hz⟩ : ∃ z, z = chZ n := ⟨_, rfl⟩
  rw [← hz] at z1 z2 z3 HX ho hq ⊢
  obtain ⟨q, rfl, hR⟩ := readQ_of hz (by omega) ho hq b1
  have HR := Lib.hid hR
  have HB1 := Lib.hid b1
  have hs1 := b1.size
  clear hz ho hq hR b1 n3
  go_wp2_with fail
  go_loopw [27] (fun vi wr => ∃ (i : Nat), i ≤ z ∧ vi = .int .i64 (i : Nat) ∧ Hid ((List.range i).all (enZ n ss) = true) ∧ Hid (Below w1.heap.size w1 wr)) (fun vi _ => (z - intOf vi).toNat)
  case atStart => exact ⟨0, Nat.zero_le _, rfl, Lib.hid rfl, Lib.hid (Below.refl _ _)⟩
  case round =>
    obtain ⟨i, hi', rfl, HEN, HB⟩ := hrel
    by_cases hlt : i < z
    · obtain ⟨ca0, xa, xn, xc, cb0, hP⟩ := HR.out i hlt
      have hxn : xn ≤ 1000 := by
        have h1 := hP.len
        have h2 := HXN.out i
        omega
      have ca := cell_below ca0 HB.out
      have cb := cell_below cb0 HB.out
      have hes : enZ n ss i = enoughB ((chK n i : Nat) : Int) ((ofBlock ss i).map Prod.fst) := rfl
      have HPL := Lib.hid hP.len
      obtain ⟨ps, hps⟩ : ∃ ps, ps = ofBlock ss i := ⟨_, rfl⟩
      obtain ⟨k, hk⟩ : ∃ k, k = chK n i := ⟨_, rfl⟩
      rw [← hps] at hP hes HPL
      rw [← hk] at hes ca ca0
      have HES := Lib.hid hes
      have HP := Lib.hid hP
      have hbs := HB.out.size
      have HO0 : Hid (wr.ownsRow w1.heap.size 3 1 (.slice none 0 0) 0 (((ps.take 0).map Prod.fst).map iv)) := Lib.hid ⟨rfl, .inl ⟨rfl, rfl⟩⟩
      clear hes hP hps hk ca0 cb0
      obtain ⟨wo, hwo⟩ : ∃ x, x = wr := ⟨_, rfl⟩
      subst hwo
      go_wp2_with fail
      go_loopw [12, 37] (fun ve vj wr => ∃ (j : Nat) (ea : Option Addr) (ec : Nat), j ≤ xn ∧ vj = .int .i64 (j : Nat) ∧ ve = .slice ea j ec ∧ Hid (wr.ownsRow w1.heap.size 3 1 (.slice ea j ec) j (((ps.take j).map Prod.fst).map iv)) ∧ Hid (Below w1.heap.size w1 wr)) (fun _ vj _ => (xn - intOf vj).toNat)
      case atStart => exact ⟨0, none, 0, Nat.zero_le _, rfl, rfl, HO0, HB⟩
      case round =>
        clear HO0
        obtain ⟨j, ea, ec, hj', rfl, rfl, HO, HBS⟩ := hrel
        by_cases hjx : j < xn
        · obtain ⟨b, off, z0, a2, n2', c2', l, rfl, q0, q1, hpj, -⟩ := (HP.out.below HBS.out).at hjx
          have HPJ := Lib.hid (show ((ps.take (j + 1)).map Prod.fst).map iv = ((ps.take j).map Prod.fst).map iv ++ [iv z0] by rw [take_step ps j _ hpj]; simp)
          have hbb := HBS.out.size
          have hb7 := (HBS.out.alloc hbb (.cells #[.int .i64 z0, .slice a2 n2' c2'] PT))
          have o7 := (HO.out.alloc (.cells #[.int .i64 z0, .slice a2 n2' c2'] PT))
          have o8 := o7.alloc (.cells #[.int .i64 z0] 3)
          have hb8 := hb7.alloc hb7.size (.cells #[.int .i64 z0] 3)
          clear hpj o7
          go_wp2_with (first | (at_builtin; refine Hid.out ?_))
          refine Lib.hid ?_
          refine wpList_append_row rfl _ _ 24 rfl w1.heap.size 3 i0 (.int .i64 0) 8 Tryd.underlying24 hi hz0 hz1 hz2 rfl _ _ _ rfl o8 (some ⟨wr.heap.size + 1, 0, none⟩) 1 1 ([z0].map iv) rfl (rowV_lit (wr.alloc (.cells #[.int .i64 z0, .slice a2 n2' c2'] PT)) _ _ _ 1 _ (by simp) rfl rfl) (fun h => by cases h) (iv_oneQ _) (by unfold maxLen; omega) (by omega) hb8.size ?_
          intro v9 w9 hE9 g9 _
          have hb9 := below_grown hb8 g9 (ownBlock_ge o8)
          obtain ⟨a9, c9, rfl, -⟩ := ownsRow_parts hE9
          rw [List.map_cons, List.map_nil, ← HPJ.out] at hE9
          have HO9 := Lib.hid hE9
          have HB9 := Lib.hid hb9
          clear hE9 g9 hb9 o8 hb8 hb7 HO q0 q1
          go_wp2
          go_roundw
          case rel => exact ⟨j + 1, a9, c9, by omega, by go_num, rfl, HO9, HB9⟩
          case measure => simp [intOf]; omega
        · obtain rfl : j = xn := by omega
          have hO := HO.out
          rw [List.take_of_length_le (by rw [HPL.out]; exact Nat.le_refl _)] at hO
          have hI := intsV_ownsC hO (by omega)
          have hbw := HB1.out.trans (HBS.out.mono hs1)
          have KE := enough_rd ((k : Nat) : Int) ea j ec (ps.map Prod.fst) wr hI (HG.out.below hbw)
          rw [← HES.out] at KE
          have hbb := HBS.out.size
          clear hO hI HO hbw
          go_wp2_with fail
          (with_reducible refine KE.mono ?_)
          rintro e w9 ⟨rfl, b9⟩
          clear KE
          have hb9 := HBS.out.trans (b9.mono hbb)
          have HB9 := Lib.hid hb9
          clear b9 hb9
          cases he : enZ n ss i
          · have HX2 := Lib.hid (show G = false by
              rw [HX.out, ← Bool.not_eq_true, List.all_eq_true]
              intro h
              have := h i (List.mem_range.2 hlt)
              rw [he] at this; cases this)
            clear he
            go_wp2
            go_ret
            exact ⟨by rw [HX2.out]; rfl, HB1.out.trans (HB9.out.mono hs1)⟩
          · have HEN2 := Lib.hid (show (List.range (i + 1)).all (enZ n ss) = true by
              rw [List.range_succ, List.all_append, HEN.out, Bool.true_and, List.all_cons, he]; rfl)
            clear he
            go_wp2
            go_roundw
            case rel => exact ⟨i + 1, by omega, by go_num, HEN2, HB9⟩
            case measure => simp [intOf]; omega
    · obtain rfl : i = z := by omega
      have HX2 := Lib.hid (show G = true by rw [HX.out, HEN.out])
      go_wp2
      go_ret
      exact ⟨by rw [HX2.out]; rfl, HB1.out.trans (HB.out.mono hs1)⟩
theorem ready_any (s t : Int) (sa : Option Addr) (sn sc : Nat) (ss : List Sy) (w : World) (h : SyV w sa sn ss) (hsn : sn ≤ 1000) (hg : Bnd w) :
    Calls Tryd.prog 31 #[.int .i64 s, .int .i64 t, .slice sa sn sc] w fun e w' => e = .returned (.bool (readyB s t ss)) ∧ Below w.heap.size w w' :=
  ready_n s t sa sn sc ss w h (by omega) (fun i => Nat.le_trans (ofBlock_count ss i) (by rw [h.len]; exact hsn)) hg
end Go.Proofs.YtfjcbgfgiidogaaDoor
namespace Go.Proofs.YtfjcbgfgiidogaaDoor
open Go.RowKit

def vA : List Nat := [97, 98, 99, 100, 101]
theorem vA_bytes : Bytes vA := bytes_of (by decide)
theorem alive_ch : ∃ ss : List Sy, ss.length = 3 ∧ symbolsR vA 2 0 [0, 1, 2] = (ss, 0) ∧ gatherR 5 2 ss = (vA, 0) := by
  have h := symbols_val (v := vA) (t := 2) (b := 0) vA_bytes (by decide) (by decide) (by omega) (by omega) [0, 1, 2]
  rw [if_pos (by decide), if_pos (by decide)] at h
  refine ⟨_, ?_, h, ?_⟩
  · rfl
  have hg : ∀ s ∈ ([0, 1, 2] : List Int).map (gen vA 2 (0 : Int).toNat), Genuine vA 2 s := fun s hs => by
    obtain ⟨e, he, rfl⟩ := List.mem_map.1 hs
    refine ⟨0, e, by decide, ?_, rfl⟩
    simp at he
    rcases he with rfl | rfl | rfl <;> decide
  have hc := gather_gen (v := vA) (t := 2) vA_bytes (by decide) (by decide) (by omega) (by omega) hg (fun i _ => Nat.le_trans (ofBlock_count _ _) (by simp))
  have hr : readyB vA.length 2 (([0, 1, 2] : List Int).map (gen vA 2 (0 : Int).toNat)) = true := by
    refine (ready_parts (v := vA) (t := 2) (by decide) (by decide) (by omega) (by omega) hg).2 fun i hi => ?_
    have hi0 : i = 0 := by
      have : chZ (chN vA.length 2) = 1 := by decide
      omega
    subst hi0
    unfold enZ
    have he : (ofBlock (([0, 1, 2] : List Int).map (gen vA 2 (0 : Int).toNat)) 0).map Prod.fst = [0, 1, 2] := by
      simp [ofBlock, gen, pieceOf]
    rw [he]
    exact alive_en3
  have hr' : readyB ((vA.length : Nat) : Int) ((2 : Nat) : Int) (([0, 1, 2] : List Int).map (gen vA 2 (0 : Int).toNat)) = true := hr
  rw [if_pos hr'] at hc
  exact hc
theorem conv_vA (w : World) (a : Option Addr) (c : Nat) (h : BytesV w (a, 5, c) vA) : (convert 22 9 (.slice a 5 c)).run Tryd.prog w = .ok (.string { data := #[97, 98, 99, 100, 101] }) w := by
  obtain ⟨b, o, e, hc⟩ := h.row.2 (by simp)
  simp only at e hc
  subst e
  have := run_convert_bytes_back (P := Tryd.prog) w 22 9 5 ⟨b, o, none⟩ c [97, 98, 99, 100, 101] Tryd.underlying22 Tryd.underlying5 Tryd.underlying9 (fun j hj => by
    have hj2 : j < 5 := by simpa using hj
    have := hc j hj2
    rcases (by omega : j = 0 ∨ j = 1 ∨ j = 2 ∨ j = 3 ∨ j = 4) with rfl | rfl | rfl | rfl | rfl
    · simpa [bv, Addr.add, vA] using this
    · simpa [bv, Addr.add, vA] using this
    · simpa [bv, Addr.add, vA] using this
    · simpa [bv, Addr.add, vA] using this
    · simpa [bv, Addr.add, vA] using this)
  exact this
set_option maxRecDepth 100000 in
set_option maxHeartbeats 8000000 in
theorem alive5_any (w : World) (hg : Bnd w) : Calls Tryd.prog 14 #[] w fun e w' => e = .returned (.bool true) ∧ Below w.heap.size w w' := by
  have kc := fun (w : World) (C : Array Value) (n c : Nat) => Lib.run_convert_bytes_const (P := Tryd.prog) w 22 5 C n c Tryd.underlying22 Tryd.underlying5
  have KP := parts_any 33 1 w
  rw [show partsR 33 1 = ([17, 16], 0) by decide +kernel] at KP
  obtain ⟨ss, hs3, hsy, hga⟩ := alive_ch
  have HS3 := Lib.hid hs3
  have HSY := Lib.hid hsy
  have HGA := Lib.hid hga
  have HG := Lib.hid hg
  clear hs3 hsy hga hg
  go_enter Tryd.func14, Tryd.ntmps14
  go_wp2_with fail
  (with_reducible refine KP.mono ?_)
  rintro e w1 ⟨a1, c1, rfl, o1, b1⟩
  simp only [List.length_cons, List.length_nil, Nat.zero_add, Nat.reduceAdd] at o1 ⊢
  clear KP
  have hb1 := (b1.alloc b1.size (.cells #[.int .u8 97, .int .u8 98, .int .u8 99, .int .u8 100, .int .u8 101] 5 (5, 6)))
  have hb2 := hb1.alloc hb1.size (.cells #[.int .i64 0, .int .i64 1, .int .i64 2] 3)
  have hA := bytesV_litG w1 #[.int .u8 97, .int .u8 98, .int .u8 99, .int .u8 100, .int .u8 101] 5 (5, 6) 5 vA rfl rfl vA_bytes (by omega)
  have hI := intsV_litG (w1.alloc (.cells #[.int .u8 97, .int .u8 98, .int .u8 99, .int .u8 100, .int .u8 101] 5 (5, 6))) #[.int .i64 0, .int .i64 1, .int .i64 2] (w1.heap.size + 1) 3 [0, 1, 2] (by simp) rfl rfl (by omega)
  have KS := syms_any (some ⟨w1.heap.size, 0, none⟩) 5 5 vA 2 0 (some ⟨w1.heap.size + 1, 0, none⟩) 3 3 [0, 1, 2] _ (hA.below (below_alloc _ (.cells #[.int .i64 0, .int .i64 1, .int .i64 2] 3))) hI (by omega) (HG.out.below hb2)
  rw [HSY.out] at KS
  have hI1 : IntsV w1 (a1, 2, c1) [17, 16] := intsV_ownsC (l := [17, 16]) o1 (by omega)
  have HI1 := Lib.hid (hI1.below ((below_alloc w1 (.cells #[.int .u8 97, .int .u8 98, .int .u8 99, .int .u8 100, .int .u8 101] 5 (5, 6))).trans ((below_alloc _ (.cells #[.int .i64 0, .int .i64 1, .int .i64 2] 3)).mono (by simp))))
  have HB2 := Lib.hid hb2
  clear o1 b1 hb1 hb2 hA hI hI1
  go_wp2_with fail
  (with_reducible refine KS.mono ?_)
  rintro e w2 ⟨a2, c2, rfl, hS, b2⟩
  simp only [HS3.out] at hS ⊢
  clear KS
  have hb3 := HB2.out.trans (b2.mono HB2.out.size)
  have hb4 := hb3.alloc hb3.size (.cells #[.int .i64 17, .int .i64 16] 3)
  have KI := sameInts_any a1 2 c1 [17, 16] (some ⟨w2.heap.size, 0, none⟩) 2 2 [17, 16] _ ((HI1.out.below b2).below (below_alloc w2 (.cells #[.int .i64 17, .int .i64 16] 3))) (intsV_litG w2 #[.int .i64 17, .int .i64 16] w2.heap.size 2 [17, 16] rfl rfl rfl (by omega))
  rw [decide_eq_true rfl] at KI
  have HS := Lib.hid (hS.sy.below (below_alloc w2 (.cells #[.int .i64 17, .int .i64 16] 3)))
  have HB4 := Lib.hid hb4
  clear hS b2 hb3 hb4
  go_wp2_with fail
  (with_reducible refine KI.mono ?_)
  rintro e w3 ⟨rfl, b3⟩
  clear KI
  have hb5 := HB4.out.trans (b3.mono HB4.out.size)
  have KG := gather_any 5 2 a2 3 c2 ss w3 (HS.out.below b3) (by omega) (HG.out.below hb5)
  rw [HGA.out] at KG
  have HB5 := Lib.hid hb5
  clear b3 hb5
  go_wp2_with fail
  (with_reducible refine KG.mono ?_)
  rintro e w4 ⟨a4, c4, rfl, hv, b4⟩
  clear KG
  have hconv := conv_vA w4 a4 c4 hv
  have hl5 : vA.length = 5 := rfl
  simp only [hl5]
  have hb6 := HB5.out.trans (b4.mono HB5.out.size)
  clear hv b4 hl5
  go_wp2
  go_ret
  exact ⟨rfl, hb6⟩
end Go.Proofs.YtfjcbgfgiidogaaDoor
