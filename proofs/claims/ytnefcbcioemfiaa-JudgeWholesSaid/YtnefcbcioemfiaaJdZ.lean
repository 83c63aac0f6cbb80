/-
  The walk of JudgeKeys.
-/
import Derived.Test.YtnefcbcioemfiaaJdX
namespace Go.Proofs.Ytnefcbcioemfiaa
open Go Go.RowKit

theorem partK_succ {xs : List ActR} {i : Nat} {A : ActR} (hA : xs[i]? = some A) (key : ByteArray) : partK (xs.take (i + 1)) key = partK (xs.take i) key ++ (if A.key = key then [A] else []) := by
  obtain ⟨hl, e⟩ := List.getElem?_eq_some_iff.1 hA
  unfold partK
  rw [List.take_succ_eq_append_getElem hl, List.filter_append, e]
  by_cases h : A.key = key <;> simp [h]
/-- the acts of one key so far. -/
structure PartI (W wK : World) (xs : List ActR) (key : ByteArray) (i : Nat) (av : Option Addr) (n cv : Nat) (ys : List YA) : Prop where
  own : OwA W 0 av cv ys
  len : ys.length = n
  val : ys.map Prod.fst = partK (xs.take i) key
  low : Below wK.heap.size wK W
  hi : ∀ g, ofB av = some g → wK.heap.size ≤ g
theorem PartI.start {W wK : World} (xs : List ActR) (key : ByteArray) (h : Below wK.heap.size wK W) : PartI (W.alloc (.cells #[] ActT)) wK xs key 0 (some ⟨W.heap.size, 0, none⟩) 0 0 [] :=
  ⟨(OwA.made (Nat.le_refl _)).low0, rfl, rfl, h.trans ((below_alloc W _).mono h.size), fun g e => by
    have : W.heap.size = g := by simpa [ofB, Value.ownBlock] using e
    have := h.size
    omega⟩
theorem PartI.below {W W' wK : World} {xs : List ActR} {key : ByteArray} {i : Nat} {av : Option Addr} {n cv : Nat} {ys : List YA} (h : PartI W wK xs key i av n cv ys) (hb : Below W.heap.size W W') : PartI W' wK xs key i av n cv ys := ⟨h.own.below hb, h.len, h.val, h.low.trans (hb.mono h.low.size), h.hi⟩
theorem PartI.skip {W wK : World} {xs : List ActR} {key : ByteArray} {i : Nat} {av : Option Addr} {n cv : Nat} {ys : List YA} (h : PartI W wK xs key i av n cv ys) {A : ActR} (hA : xs[i]? = some A) (hk : ¬ A.key = key) : PartI W wK xs key (i + 1) av n cv ys := ⟨h.own, h.len, by rw [partK_succ hA, if_neg hk, List.append_nil]; exact h.val, h.low, h.hi⟩
theorem PartI.more {W w' wK : World} {xs : List ActR} {key : ByteArray} {i : Nat} {av : Option Addr} {n cv : Nat} {ys : List YA} (h : PartI W wK xs key i av n cv ys) {A : ActR} (hA : xs[i]? = some A) (hk : A.key = key) {x y z : SH3} (hs : ActS wK A x y z) {g cap : Nat}
    (hE : w'.ownsRow 0 ActT 15 (.slice (some ⟨g, 0, none⟩) (n + 1) cap) (n + 1) (acells ys ++ [.int .i64 A.cl, .int .i64 A.d, .int .i64 A.st, .int .i64 A.en, .string A.key, .slice x.1 x.2.1 x.2.2, .int .i64 A.rop, .int .i64 A.rdo, .string A.rkey, .slice y.1 y.2.1 y.2.2, .int .i64 A.tn, .int .i64 A.tc, .int .i64 A.code, .bool A.found, .slice z.1 z.2.1 z.2.2])) (hg : W.grownBy w' (Value.slice av n cv).ownBlock) (hl : (Value.slice av n cv).ownBlock = some g ∨ g = W.heap.size) : PartI w' wK xs key (i + 1) (some ⟨g, 0, none⟩) (n + 1) cap (ys ++ [(A, x, y, z)]) := by
  obtain ⟨ho, hlen, hv, hlow, hhi⟩ := h
  subst hlen
  have hg2 := hg
  have hl2 := hl
  rw [ofB_eq] at hg2 hl2
  refine ⟨ho.snoc (hs.below hlow) (far_low (fun h0 p hp => hs.v.row.lt h0 hp) hhi) (far_low (fun h0 p hp => hs.r.row.lt h0 hp) hhi) (far_low (fun h0 p hp => hs.k.row.lt h0 hp) hhi) ⟨fun _ _ _ => Nat.zero_le _, fun _ _ _ => Nat.zero_le _, fun _ _ _ => Nat.zero_le _⟩ hE hg hl, by simp, ?_, hlow.grown hg2 hlow.size hhi, fun g' e => ?_⟩
  · rw [List.map_append, hv, partK_succ hA, if_pos hk]; rfl
  · have e2 : g = g' := by simpa [ofB, Value.ownBlock] using e
    subst e2
    rcases hl2 with h1 | h1
    · exact hhi _ h1
    · have := hlow.size; omega
theorem PartI.le {W wK : World} {xs : List ActR} {key : ByteArray} {i : Nat} {av : Option Addr} {n cv : Nat} {ys : List YA} (h : PartI W wK xs key i av n cv ys) : n ≤ i := by
  have h1 := congrArg List.length h.val
  rw [List.length_map, h.len] at h1
  have h2 : (partK (xs.take i) key).length ≤ (xs.take i).length := List.length_filter_le _ _
  rw [List.length_take] at h2
  omega
theorem PartI.cap {W wK : World} {xs : List ActR} {key : ByteArray} {i : Nat} {av : Option Addr} {n cv : Nat} {ys : List YA} (h : PartI W wK xs key i av n cv ys) : n ≤ cv := by
  have h1 := h.own.own
  rw [h.len] at h1
  rcases h1.2 with ⟨e1, e2⟩ | ⟨g, cap, cu, e, -, -, hnc, -⟩
  · omega
  · injection e with e1 e2 e3; omega
theorem PartI.acts {W wK : World} {xs : List ActR} {key : ByteArray} {i : Nat} {av : Option Addr} {n cv : Nat} {ys : List YA} (h : PartI W wK xs key i av n cv ys) (hi : xs.length ≤ i) : ActsV W av n (partK xs key) := by
  have h1 := h.own.acts
  rw [h.len, h.val, List.take_of_length_le hi] at h1
  exact h1
theorem str_beqJ (a b : ByteArray) : (a.toList == b.toList) = decide (a = b) := by
  rw [ByteArray.toList_eq, ByteArray.toList_eq]
  by_cases e : a = b
  · subst e; simp
  · rw [decide_eq_false e]
    exact beq_eq_false_iff_ne.2 (fun h => e (by
      have h2 : a.data = b.data := Array.toList_inj.1 h
      cases a; cases b; simp only at h2; rw [h2]))
def GivesKeys (xs : List ActR) (w : World) (e : Ending) (w' : World) : Prop :=
  ∃ (a : Option Addr) (n c : Nat) (ks : List ByteArray), e = .returned (.slice a n c) ∧ RowV w' a n (ks.map Value.string) ∧ (∀ k, k ∈ ks ↔ k ∈ keyList xs) ∧ n ≤ 1000000 ∧ Below w.heap.size w w'
theorem all_take {α : Type} {f : α → Bool} {l : List α} {k : Nat} {q : α} (hq : l[k]? = some q) : (l.take (k + 1)).all f = ((l.take k).all f && f q) := by
  obtain ⟨hl, e⟩ := List.getElem?_eq_some_iff.1 hq
  rw [List.take_succ_eq_append_getElem hl, List.all_append, e]
  simp

set_option maxRecDepth 100000 in
set_option maxHeartbeats 16000000 in
theorem judgeKeys_walkK (HKS : ∀ (aa : Option Addr) (an ac : Nat) (xs : List ActR) (w : World), ActsV w aa an xs → an ≤ ac → an ≤ 1000000 → KOk xs → Calls Try.prog 14 #[.slice aa an ac] w (GivesKeys xs w))
    (aa : Option Addr) (an ac : Nat) (xs : List ActR) (w : World) (h : ActsV w aa an xs) (hkk : KOk xs) (hac : an ≤ ac) (hn : an ≤ 140737488355328) :
    Calls Try.prog 8 #[.slice aa an ac] w fun e w' => e = .returned (.bool true) ∧ Below w.heap.size w w' := by
  obtain ⟨i0, hi, hz0, hz1, hz2⟩ := info_parts ainfo
  have KA := alive_any w
  have H := Lib.hid h
  have HKK := Lib.hid hkk
  have HQ := Lib.hid HKS
  have hxl : xs.length = an := h.len
  have HXL := Lib.hid hxl
  clear h hkk HKS hxl
  go_enter Try.func8, Try.ntmps8
  go_wp2_with fail
  (with_reducible refine KA.mono ?_)
  rintro e w1 ⟨rfl, b1⟩
  have KG := great_any aa an ac xs w1 (H.out.below b1) hac hn
  have B1 := Lib.hid b1
  clear KA b1
  go_wp2_with fail
  (with_reducible refine KG.mono ?_)
  rintro e w2 ⟨b2, ⟨rfl, h60⟩ | rfl⟩
  rotate_left 1
  · have B2 := Lib.hid (B1.out.trans (b2.mono B1.out.size))
    clear KG b2
    go_wp2
    go_ret
    exact ⟨rfl, B2.out⟩
  have B2 := Lib.hid (B1.out.trans (b2.mono B1.out.size))
  clear KG b2
  have KC := copyActs_rd aa an ac xs w2 (H.out.below B2.out) hac (by omega)
  go_wp2_with fail
  (with_reducible refine KC.mono ?_)
  rintro e x1 ⟨a8, c8, rfl, hv8, hc8, b8⟩
  have X1 := Lib.hid (B2.out.trans (b8.mono B2.out.size))
  have KW := check_any a8 an c8 xs x1 hv8 hc8 (by omega) HKK.out
  obtain ⟨cz, hcz⟩ : ∃ c, c = checkR xs := ⟨_, rfl⟩
  rw [← hcz] at KW
  have HCZ := Lib.hid hcz
  clear KC b8 hv8 hcz
  go_wp2_with fail
  (with_reducible refine KW.mono ?_)
  rintro e x2 ⟨rfl, b9⟩
  have X2 := Lib.hid (X1.out.trans (b9.mono X1.out.size))
  clear KW b9
  by_cases hc0 : cz = 0
  case neg =>
    go_wp2
    go_ret
    exact ⟨rfl, X2.out⟩
  subst hc0
  have KC := copyActs_rd aa an ac xs x2 (H.out.below X2.out) hac (by omega)
  go_wp2_with fail
  (with_reducible refine KC.mono ?_)
  rintro e x3 ⟨a9, c9, rfl, hv9, hc9, b10⟩
  have X3 := Lib.hid (X2.out.trans (b10.mono X2.out.size))
  have KQ := HQ.out a9 an c9 xs x3 hv9 hc9 (by omega) HKK.out
  unfold GivesKeys at KQ
  clear KC b10 hv9
  go_wp2_with fail
  (with_reducible refine KQ.mono ?_)
  rintro e wK ⟨ka, kn, kc, ks, rfl, hrow, hmem, hkn, b11⟩
  have X := Lib.hid (X3.out.trans (b11.mono X3.out.size))
  have HKR := Lib.hid hrow
  have HM := Lib.hid hmem
  have hkl : ks.length = kn := by have := hrow.1; simpa using this
  have HKL := Lib.hid hkl
  clear KQ b11 hrow hmem hkl
  go_wp2_with fail
  go_loopw [3, 5] (fun vb vk wr => ∃ (k : Nat) (all : Bool), k ≤ kn ∧ vk = .int .i64 (k : Nat) ∧ vb = .bool all ∧ Hid (all = (ks.take k).all fun q => wholeR (partK xs q)) ∧ Hid (Below wK.heap.size wK wr)) (fun _ vk _ => kn - (intOf vk).toNat)
  case atStart => exact ⟨0, true, Nat.zero_le _, rfl, rfl, Lib.hid rfl, Lib.hid (Below.refl _ _)⟩
  case round =>
    obtain ⟨k, all, hk, rfl, rfl, HAL, HB⟩ := hrel
    by_cases hlt : k < kn
    · obtain ⟨kb, ko, ekk, hkc⟩ := HKR.out.2 (by omega)
      subst ekk
      obtain ⟨key, hkey⟩ : ∃ q, ks[k]? = some q := ⟨_, List.getElem?_eq_getElem (by rw [HKL.out]; exact hlt)⟩
      have HC : Hid (∀ W, Below wK.heap.size wK W → W.cell? ⟨kb, ko + k, none⟩ = some (.string key)) := Lib.hid fun W hW => by
        have h1 := hkc k hlt
        rw [List.getElem?_map, hkey, Option.map_some] at h1
        exact cellBelow h1 hW
      have HKEY := Lib.hid hkey
      have hk0 : (0 : Int) ≤ (k : Int) := by omega
      have hk1 : (k : Int) < (kn : Int) := by omega
      have I1 := Lib.hid (PartI.start xs key HB.out)
      clear hkc hkey
      go_wp2_with fail
      go_loopw [6, 7] (fun vp vi wi => ∃ (i : Nat) (av : Option Addr) (n cv : Nat) (ys : List YA), i ≤ an ∧ vi = .int .i64 (i : Nat) ∧ vp = .slice av n cv ∧ Hid (PartI wi wK xs key i av n cv ys)) (fun _ vi _ => an - (intOf vi).toNat)
      case atStart => exact ⟨0, _, 0, 0, [], Nat.zero_le _, rfl, rfl, I1⟩
      case round =>
        clear I1
        rename World => wi
        obtain ⟨i, av, n, cv, ys, hin, rfl, rfl, HP⟩ := hrel
        by_cases hil : i < an
        · have hi0 : (0 : Int) ≤ (i : Int) := by omega
          have hi1 : (i : Int) < (an : Int) := by omega
          have hni : n ≤ i := HP.out.le
          have hncv : n ≤ cv := HP.out.cap
          obtain ⟨b, o, A, x, y, z, eaa, hA1, hA, at0⟩ := H.out.at hil
          have at1 := at0.below (X.out.trans (HP.out.low.mono X.out.size))
          have HAT0 := Lib.hid at0
          obtain ⟨c0, c1, c2, c3, c4, c5, c6, c7, c8, c9, ca, cb, cc, cd, ce, -⟩ := at1
          have ck := HC.out wi HP.out.low
          have HA := Lib.hid hA1
          subst eaa
          obtain ⟨q, hq⟩ : ∃ q, q = decide (A.key = key) := ⟨_, rfl⟩
          have HQE := Lib.hid hq
          clear hA1 hA at0 hq
          go_upto_region 14 with fail
          go_cut [43] (fun v wx => v = .bool q ∧ Hid (Below wi.heap.size wi wx))
          case first =>
            have P0 : wi.drew.cell? ⟨b, o + i * 15 + 4, none⟩ = some (.string A.key) ∧ wi.drew.cell? ⟨kb, ko + k, none⟩ = some (.string key) := ⟨c4, ck⟩
            clear c0 c1 c2 c3 c4 c5 c6 c7 c8 c9 ca cb cc cd ce ck
            refine GoX.start 9 (fun w' => w'.cell? ⟨b, o + i * 15 + 4, none⟩ = some (.string A.key) ∧ w'.cell? ⟨kb, ko + k, none⟩ = some (.string key)) (by kernel_rfl) ?_
            refine GoX.take 0 rfl (by kernel_rfl) (by kernel_rfl) (by rfl) (fun _ _ _ h => h) (v := ?tv0g34) P0 ?ty0g34 ?tr0g34
            case ty0g34 => (intro w hSw; (try dsimp only at hSw); go_simp; first | done | with_reducible rfl)
            simp only [Act.put, List.setIfInBounds_toArray, List.set_cons_zero, List.set_cons_succ]
            refine GoX.take 1 rfl (by kernel_rfl) (by kernel_rfl) (by rfl) (fun _ _ _ h => h) (v := ?tv1g35) P0 ?ty1g35 ?tr1g35
            case ty1g35 => (intro w hSw; (try dsimp only at hSw); go_simp; first | done | with_reducible rfl)
            simp only [Act.put, List.setIfInBounds_toArray, List.set_cons_zero, List.set_cons_succ]
            refine GoX.take 2 rfl (by kernel_rfl) (by kernel_rfl) (by rfl) (fun _ _ _ h => h) (v := ?tv2g36) P0 ?ty2g36 ?tr2g36
            case ty2g36 => (intro w hSw; (try dsimp only at hSw); go_simp; first | done | with_reducible rfl)
            simp only [Act.put, List.setIfInBounds_toArray, List.set_cons_zero, List.set_cons_succ]
            refine GoX.take 3 rfl (by kernel_rfl) (by kernel_rfl) (by rfl) (fun _ _ _ h => h) (v := ?tv3g37) P0 ?ty3g37 ?tr3g37
            case ty3g37 => (intro w hSw; (try dsimp only at hSw); go_simp; first | done | with_reducible rfl)
            simp only [Act.put, List.setIfInBounds_toArray, List.set_cons_zero, List.set_cons_succ]
            refine GoX.take 4 rfl (by kernel_rfl) (by kernel_rfl) (by rfl) (fun _ _ _ h => h) (v := ?tv4g38) P0 ?ty4g38 ?tr4g38
            case ty4g38 => (intro w hSw; (try dsimp only at hSw); go_simp; first | done | with_reducible rfl)
            simp only [Act.put, List.setIfInBounds_toArray, List.set_cons_zero, List.set_cons_succ]
            refine GoX.take 5 rfl (by kernel_rfl) (by kernel_rfl) (by rfl) (fun _ _ _ h => h) (v := ?tv5g39) P0 ?ty5g39 ?tr5g39
            case ty5g39 => (intro w hSw; (try dsimp only at hSw); go_simp; first | done | with_reducible rfl)
            simp only [Act.put, List.setIfInBounds_toArray, List.set_cons_zero, List.set_cons_succ]
            refine GoX.take 6 rfl (by kernel_rfl) (by kernel_rfl) (by rfl) (fun _ _ _ h => h) (v := ?tv6g40) P0 ?ty6g40 ?tr6g40
            case ty6g40 => (intro w hSw; (try dsimp only at hSw); go_simp; first | done | with_reducible rfl)
            simp only [Act.put, List.setIfInBounds_toArray, List.set_cons_zero, List.set_cons_succ]
            refine GoX.take 7 rfl (by kernel_rfl) (by kernel_rfl) (by rfl) (fun _ _ _ h => h) (v := ?tv7g41) P0 ?ty7g41 ?tr7g41
            case ty7g41 => (intro w hSw; (try dsimp only at hSw); go_simp; first | done | with_reducible rfl)
            simp only [Act.put, List.setIfInBounds_toArray, List.set_cons_zero, List.set_cons_succ]
            refine GoX.take 8 rfl (by kernel_rfl) (by kernel_rfl) (by rfl) (fun _ _ _ h => h) (v := ?tv8g42) P0 ?ty8g42 ?tr8g42
            case ty8g42 => (intro w hSw; (try dsimp only at hSw); go_simp; first | done | with_reducible rfl)
            simp only [Act.put, List.setIfInBounds_toArray, List.set_cons_zero, List.set_cons_succ]
            refine GoX.last 9 rfl (by kernel_rfl) (by kernel_rfl) (by decide) ?_
            clear P0
            go_wp2_with fail
            go_meet
            exact ⟨by rw [HQE.out, str_beqJ], Lib.hid (Below.refl _ _).drew⟩
          case rest =>
          obtain ⟨rfl, BX⟩ := hcut
          clear c0 c1 c2 c3 c4 c5 c6 c7 c8 c9 ca cb cc cd ce ck
          have HPC := Lib.hid (HP.out.below BX.out)
          obtain ⟨c0, c1, c2, c3, c4, c5, c6, c7, c8, c9, ca, cb, cc, cd, ce, -⟩ := HAT0.out.below (X.out.trans (HPC.out.low.mono X.out.size))
          have HAT := Lib.hid (HAT0.out.s.below X.out)
          clear HP BX HAT0
          by_cases hke : A.key = key
          · have hqt : q = true := by rw [HQE.out]; exact decide_eq_true hke
            have HKE := Lib.hid hke
            clear hke
            subst hqt
            rename World => wj
            go_wp2_with (first | (at_builtin; refine Hid.out ?_))
            refine Lib.hid ?_
            have P8 := HPC.out.below (below_alloc wj (.cells #[.int .i64 A.cl, .int .i64 A.d, .int .i64 A.st, .int .i64 A.en, .string A.key, .slice x.1 x.2.1 x.2.2, .int .i64 A.rop, .int .i64 A.rdo, .string A.rkey, .slice y.1 y.2.1 y.2.2, .int .i64 A.tn, .int .i64 A.tc, .int .i64 A.code, .bool A.found, .slice z.1 z.2.1 z.2.2] ActT))
            have o8o := P8.own.own
            rw [P8.len] at o8o
            refine wpList_append_lies _ rfl (.tmp 44) (.tmp 49) 22 rfl 0 ActT i0 (.agg #[.int .i64 0, .int .i64 0, .int .i64 0, .int .i64 0, .string ⟨#[]⟩, .slice none 0 0, .int .i64 0, .int .i64 0, .string ⟨#[]⟩, .slice none 0 0, .int .i64 0, .int .i64 0, .int .i64 0, .bool false, .slice none 0 0]) 15 184 Try.underlying22 hi hz0 hz1 hz2 rfl (by decide) (.slice av n cv) n (acells ys) rfl o8o ⟨wj.heap.size, 0, none⟩ 1 1 [.int .i64 A.cl, .int .i64 A.d, .int .i64 A.st, .int .i64 A.en, .string A.key, .slice x.1 x.2.1 x.2.2, .int .i64 A.rop, .int .i64 A.rdo, .string A.rkey, .slice y.1 y.2.1 y.2.2, .int .i64 A.tn, .int .i64 A.tc, .int .i64 A.code, .bool A.found, .slice z.1 z.2.1 z.2.2] rfl rfl (World.news_of_block (heap_alloc_new wj _)) (by intro u hu; simp at hu; rcases hu with rfl | rfl | rfl | rfl | rfl | rfl | rfl | rfl | rfl | rfl | rfl | rfl | rfl | rfl | rfl <;> rfl) (by decide) (by simp [maxLen]; omega) (by omega) (Nat.zero_le _) _ rfl ?_
            intro g9 cF w9 hE9 g9' lie9 _
            have gg : (wj.alloc (.cells #[.int .i64 A.cl, .int .i64 A.d, .int .i64 A.st, .int .i64 A.en, .string A.key, .slice x.1 x.2.1 x.2.2, .int .i64 A.rop, .int .i64 A.rdo, .string A.rkey, .slice y.1 y.2.1 y.2.2, .int .i64 A.tn, .int .i64 A.tc, .int .i64 A.code, .bool A.found, .slice z.1 z.2.1 z.2.2] ActT)).grownBy w9 (Value.slice av n cv).ownBlock := ⟨g9'.os, g9'.tape, g9'.output, g9'.size, g9'.block⟩
            have HN := Lib.hid (P8.more HA.out HKE.out HAT.out hE9 gg lie9)
            clear P8 o8o hE9 g9' lie9 gg c0 c1 c2 c3 c4 c5 c6 c7 c8 c9 ca cb cc cd ce
            go_wp2
            go_roundw
            case rel => exact ⟨i + 1, _, n + 1, cF, _, by omega, by go_num, rfl, HN⟩
            case measure => simp [intOf]; omega
          · have hqf : q = false := by rw [HQE.out]; exact decide_eq_false hke
            have HN := Lib.hid (HPC.out.skip HA.out hke)
            clear hke
            subst hqf
            go_wp2
            go_roundw
            case rel => exact ⟨i + 1, av, n, cv, ys, by omega, by go_num, rfl, HN⟩
            case measure => simp [intOf]; omega
        · obtain rfl : i = an := by omega
          have hni : n ≤ i := HP.out.le
          have hncv : n ≤ cv := HP.out.cap
          have V1 := Lib.hid (HP.out.acts (by rw [HXL.out]; exact Nat.le_refl _))
          have HLO := Lib.hid HP.out.low
          have HKP : Hid (KOk (partK xs key)) := Lib.hid fun a ha => HKK.out a (List.mem_filter.1 ha).1
          clear HP HC
          cases all with
          | true =>
            have KC := copyActs_rd av n cv (partK xs key) wi V1.out hncv (by omega)
            go_wp2_with fail
            (with_reducible refine KC.mono ?_)
            rintro e y1 ⟨a8, c8, rfl, hv8, hc8, b8⟩
            have Y1 := Lib.hid (HLO.out.trans (b8.mono HLO.out.size))
            have KW := whole_any a8 n c8 (partK xs key) y1 hv8 hc8 (by omega) HKP.out
            obtain ⟨R, hR⟩ : ∃ R, R = wholeR (partK xs key) := ⟨_, rfl⟩
            rw [← hR] at KW
            have HR := Lib.hid hR
            clear KC b8 hv8 hR
            go_wp2_with fail
            (with_reducible refine KW.mono ?_)
            rintro e y2 ⟨rfl, b9⟩
            have Y2 := Lib.hid (Y1.out.trans (b9.mono Y1.out.size))
            clear KW b9
            go_wp2
            go_roundw
            case rel => exact ⟨k + 1, R, by omega, by go_num, rfl, Lib.hid (by rw [all_take HKEY.out, ← HAL.out, HR.out]; rfl), Y2⟩
            case measure => simp [intOf]; omega
          | false =>
            go_wp2
            go_roundw
            case rel => exact ⟨k + 1, false, by omega, by go_num, rfl, Lib.hid (by rw [all_take HKEY.out, ← HAL.out]; rfl), HLO⟩
            case measure => simp [intOf]; omega
    · obtain rfl : k = kn := by omega
      have Y0 := Lib.hid (X.out.trans (HB.out.mono X.out.size))
      have hfin : wholeR xs = all := by
        rw [HAL.out, List.take_of_length_le (by rw [HKL.out]; exact Nat.le_refl _)]
        exact whole_parts HCZ.out.symm HM.out
      have HF := Lib.hid hfin
      have haa : (all == all) = true := by cases all <;> rfl
      have KC := copyActs_rd aa an ac xs wr (H.out.below Y0.out) hac (by omega)
      clear hfin HAL
      go_wp2_with fail
      (with_reducible refine KC.mono ?_)
      rintro e y1 ⟨a8, c8, rfl, hv8, hc8, b8⟩
      have Y1 := Lib.hid (Y0.out.trans (b8.mono Y0.out.size))
      have KW := whole_any a8 an c8 xs y1 hv8 hc8 (by omega) HKK.out
      rw [HF.out] at KW
      clear KC b8 hv8
      go_wp2_with fail
      (with_reducible refine KW.mono ?_)
      rintro e y2 ⟨rfl, b9⟩
      have Y2 := Lib.hid (Y1.out.trans (b9.mono Y1.out.size))
      clear KW b9
      go_wp2
      go_ret
      exact ⟨by simp, Y2.out⟩
end Go.Proofs.Ytnefcbcioemfiaa
