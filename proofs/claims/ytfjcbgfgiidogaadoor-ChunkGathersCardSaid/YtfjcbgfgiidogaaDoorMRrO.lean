/-
  rillref04: Encode.
-/
import Derived.Test.YtfjcbgfgiidogaaDoorMRq5
import Derived.Test.YtfjcbgfgiidogaaDoorMRrN
namespace Go.Proofs.YtfjcbgfgiidogaaDoor
open Go.RowKit

theorem refMixS_rd (adk : Option Addr) (lk ck : Nat) (ks : List Nat) (a : Option Addr) (n c : Nat) (xs : List (List Nat)) (w : World) (hks : BytesV w (adk, lk, ck) ks) (h : RD w a n xs) (hn : n ≤ 1000) :
    Calls Tryd.prog 59 #[.slice adk lk ck, .slice a n c] w (GivesBytes 5 w (mixS xs ks)) := refMix_rd adk lk ck ks a n c xs w hks h hn
theorem OwnP.made {w : World} {B : Nat} (hB : B ≤ w.heap.size) : OwnP (w.alloc (.cells #[] PT)) B (some ⟨w.heap.size, 0, none⟩) 0 0 [] :=
  .start (World.ownsRow_made (base := B) (e := PT) (size := 2) w #[] 0 hB (by simp [maxLen]) rfl)

set_option maxRecDepth 100000 in
set_option maxHeartbeats 8000000 in
theorem refEncode_rd (sa : Option Addr) (sn sc : Nat) (src : List (List Nat)) (ea : Option Addr) (en ec : Nat) (es : List Int) (w : World) (h : RD w sa sn src) (he : IntsV w (ea, en, ec) es) (hen : en ≤ 1000) :
    Calls Tryd.prog 39 #[.slice sa sn sc, .slice ea en ec] w (GivesP w (encodeR src es)) := by
  obtain ⟨i0, hpi, hz0, hz1, hz2⟩ := info_parts pinfo
  have hel : es.length = en := he.length
  have KI := refInner_rd sa sn sc src w h
  have HEL := Lib.hid hel
  have HE := Lib.hid he
  have HSL := Lib.hid h.1
  obtain ⟨OUT, hO⟩ : ∃ O, O = encodeR src es := ⟨_, rfl⟩
  rw [← hO]
  have HOK := Lib.hid (inner_ok (src := src))
  unfold encodeR at hO
  obtain ⟨S, hS⟩ : ∃ S, S = innerR src := ⟨_, rfl⟩
  have hXl := inner_len src
  rw [← hS] at KI hO HOK hXl
  have HOUT := Lib.hid hO
  clear h he hel hO hS
  obtain ⟨X, code⟩ := S
  simp only at HOUT HOK hXl
  go_enter Tryd.func39, Tryd.ntmps39
  go_wp2_with fail
  (with_reducible refine KI.mono ?_)
  rintro e w1 ⟨ax, cx, rfl, hX, b1⟩
  simp only at hX ⊢
  clear KI
  by_cases hc : code = 0
  rotate_left 1
  · have hcb : (code != 0) = true := by rw [bne_iff_ne]; exact hc
    have HC := Lib.hid hc
    clear hc hX
    go_wp2
    go_ret2
    rw [HOUT.out, if_neg HC.out]
    exact givesP_nil b1
  subst hc
  obtain ⟨m, e1, -, h1, hk⟩ := okK_nat (HOK.out rfl)
  rw [HSL.out] at e1
  obtain rfl : sn = m := by omega
  have hs1 := b1.size
  have HX := Lib.hid hX
  have HP : Hid (OwnP (w1.alloc (.cells #[] PT)) w1.heap.size (some ⟨w1.heap.size, 0, none⟩) 0 0 ((es.take 0).map (pieceOf sn X))) := Lib.hid (OwnP.made (Nat.le_refl _))
  have HB1 := Lib.hid (below_alloc w1 (.cells #[] PT))
  have HB0 := Lib.hid b1
  clear e1 hX b1
  go_upto_block 0 with fail
  generalize w1.alloc (.cells #[] PT) = w2 at HP HB1 ⊢
  go_wp2_with fail
  go_loopw [8, 9] (fun vp vi wr => ∃ (i : Nat) (av : Option Addr) (cv : Nat), i ≤ en ∧ vi = .int .i64 (i : Nat) ∧ vp = .slice av i cv ∧ Hid (OwnP wr w1.heap.size av i cv ((es.take i).map (pieceOf sn X))) ∧ Hid (Below w1.heap.size w1 wr) ∧ Hid (∀ (j : Nat) e, j < i → es[j]? = some e → okE e = true)) (fun _ vi _ => (en - intOf vi).toNat)
  case atStart => exact ⟨0, _, _, Nat.zero_le _, rfl, rfl, HP, HB1, Lib.hid (fun j e h => absurd h (Nat.not_lt_zero _))⟩
  case round =>
    clear HP HB1
    obtain ⟨i, av, cv, hi, rfl, rfl, hP, hB1, HZ⟩ := hrel
    have hB := Lib.hid (HB0.out.trans (hB1.out.mono hs1))
    have hX := Lib.hid (HX.out.below hB1.out)
    by_cases hlt : i < en
    · obtain ⟨b, off, e1, hc1⟩ := HE.out.row.2 (by show 0 < en; omega)
      simp only at e1
      subst e1
      have hc := hc1 i hlt
      obtain ⟨z, hz⟩ : ∃ z, es[i]? = some z := ⟨_, List.getElem?_eq_getElem (by rw [HEL.out]; exact hlt)⟩
      rw [List.getElem?_map, hz] at hc
      have hcw : w.cell? ⟨b, off + i, none⟩ = some (.int .i64 z) := hc
      have hc' := cell_below hcw hB.out
      have HCW := Lib.hid hcw
      have HZI := Lib.hid hz
      clear hc hc1 hz hcw
      have KR := refRow_rd (sn : Int) z wr
      unfold rowR at KR
      rw [if_pos (okK_iff.2 ⟨by omega, by omega⟩), Int.toNat_natCast] at KR
      have hsz := hB.out.size
      by_cases hz2 : okE z = true
      rotate_left 1
      · rw [if_neg hz2] at KR
        have hall : es.all okE = false := by
          cases h : es.all okE with
          | false => rfl
          | true => exact absurd (List.all_eq_true.1 h z (List.mem_of_getElem? HZI.out)) hz2
        have HHA := Lib.hid hall
        clear hz2 hall
        go_wp2_with fail
        (with_reducible refine KR.mono ?_)
        rintro e w6 ⟨a6, c6, rfl, -, b6⟩
        clear KR
        go_wp2
        go_ret2
        rw [HOUT.out, if_pos trivial, HHA.out, if_neg (by simp)]
        exact givesP_nil (hB.out.trans (b6.mono hsz))
      rw [if_pos hz2] at KR
      have HT := Lib.hid (pieces_take sn X HZI.out)
      have HZ2 := Lib.hid hz2
      obtain ⟨r, hr⟩ : ∃ r, r = symR sn z.toNat := ⟨_, rfl⟩
      have hrb : Bytes r := by rw [hr]; exact symR_bytes _ _
      have hrl : r.length ≤ 100 := by rw [hr, symR_length]; have := (cL_facts h1 hk).2.1; omega
      have hpc : pieceOf sn X z = (z, mixS X r) := by rw [hr]; rfl
      have HPC := Lib.hid hpc
      rw [← hr] at KR
      have HRB := Lib.hid hrb
      clear hr hz2 hpc hrb
      go_wp2_with fail
      (with_reducible refine KR.mono ?_)
      rintro e w6 ⟨a6, c6, rfl, o6, b6⟩
      simp only at o6 ⊢
      have hsz1 := hB1.out.size
      have hb6 := hB1.out.trans (b6.mono hsz1)
      have hX6 := hX.out.below b6
      have hP6 := hP.out.below b6
      have hmm := mixS_mem hX6.mem HRB.out
      have x6 := bytesV_of_owns o6 HRB.out (by omega)
      obtain ⟨y, hy⟩ : ∃ y, y = mixS X r := ⟨_, rfl⟩
      have KM := fun W h1 h2 => refMixS_rd a6 r.length c6 r ax X.length cx X W h1 h2 hXl
      rw [← hy] at KM hmm HPC
      have HMM := Lib.hid hmm
      have HX6 := Lib.hid hX6
      have HP6 := Lib.hid hP6
      have HB6 := Lib.hid hb6
      have X6 := Lib.hid x6
      have hs6 := hb6.size
      have p6 := cell_below hc' b6
      clear KR hP hB hB1 hX o6 b6 hmm hy hc' hX6 hP6 hb6 x6 hsz1
      go_wp2_with fail
      go_region_held3 (fun w' => w'.cell? ⟨b, off + i, none⟩ = some (.int .i64 z)) (first | exact p6 | exact p7 | exact p7b | exact p9)
        (first
          | (go_at_call 59; (with_reducible refine (KM _ ?hh ?hk).mono ?_); (case hh => exact X6.out.below ⟨rfl, rfl, rfl, Nat.le_refl _, fun _ _ => rfl⟩); (case hk => exact HX6.out.below ⟨rfl, rfl, rfl, Nat.le_refl _, fun _ _ => rfl⟩); rintro e w7 ⟨a7, c7, rfl, o7, d7⟩; have b7 : Below w6.heap.size w6 w7 := ⟨d7.os, d7.tape, d7.output, d7.size, d7.block⟩; have p7 := cell_below p6 b7; have p7b := cell_below p7 (below_alloc w7 (.cells #[.int .i64 z, .slice a7 y.length c7] PT)); have o8 := (ownsRow_base (base' := w1.heap.size) o7 hs6).alloc (.cells #[.int .i64 z, .slice a7 y.length c7] PT); have hb8 := (HB6.out.trans (b7.mono hs6)).alloc (HB6.out.trans (b7.mono hs6)).size (.cells #[.int .i64 z, .slice a7 y.length c7] PT); obtain ⟨hpl, xs, hxl, hxo, hxs⟩ := (HP6.out.below b7).below (below_alloc w7 (.cells #[.int .i64 z, .slice a7 y.length c7] PT)); have hbs8 := hb8.size; have HXS := Lib.hid hxs; have HXL := Lib.hid hxl; have HPL := Lib.hid hpl; clear hxs hxl hpl)
          | (refine step_append_lies _ rfl (.tmp 40) (.tmp 49) 68 rfl w1.heap.size PT i0 (.agg #[.int .i64 0, .slice none 0 0]) 2 32 Tryd.underlying68 hpi hz0 hz1 hz2 rfl (by decide) (.slice av i cv) i (pcells xs) (by rfl) hxo ⟨w7.heap.size, 0, none⟩ 1 1 [.int .i64 z, SV (a7, y.length, c7)] (by rfl) (by rfl) (World.news_of_block (heap_alloc_new w7 _)) (by intro u hu; simp at hu; rcases hu with rfl | rfl <;> rfl) (by decide) (by simp [maxLen]; omega) (by omega) hbs8 _ rfl ?_; intro g9 c9 w9 hE9 g9' _ _; have hb9 := below_grown hb8 g9' (fun k e => ownBlock_ge hxo k e); have p9 := cell_below HCW.out (HB0.out.trans (hb9.mono hs1))))
      all_goals
        have hP9 := pc_append (y := (a7, y.length, c7)) (l := y) (e := z) HXL.out HPL.out hxo HXS.out o8 rfl HMM.out hE9 g9'
        rw [← HPC.out, ← HT.out] at hP9
        have HP9 := Lib.hid hP9
        have HB9 := Lib.hid hb9
        clear hxo hE9 g9' hb8 hP9 hb9 d7 b7 o7 o8 p6 p7 p7b p9 hbs8
        go_wp2
        go_roundw
        case rel => exact ⟨i + 1, _, c9, by omega, by go_num, rfl, HP9, HB9, Lib.hid (fun j e hj he => (by
          by_cases e1 : j = i
          · rw [e1, HZI.out] at he
            exact (congrArg okE (Option.some.inj he)).symm.trans HZ2.out
          · exact HZ.out j e (by omega) he))⟩
        case measure => simp [intOf] <;> omega
    · obtain rfl : i = en := by omega
      have hall : es.all okE = true := List.all_eq_true.2 fun e he => by
        obtain ⟨j, hj⟩ := List.getElem?_of_mem he
        exact HZ.out j e (by have := (List.getElem?_eq_some_iff.1 hj).1; rw [HEL.out] at this; exact this) hj
      have hP' := hP.out
      rw [List.take_of_length_le (by rw [HEL.out]; exact Nat.le_refl _)] at hP'
      have HHA := Lib.hid hall
      have HP' := Lib.hid hP'
      have hml : (es.map (pieceOf sn X)).length = i := by rw [List.length_map]; exact HEL.out
      have HML := Lib.hid hml
      clear hall hP' hP hml
      go_wp2
      go_ret2
      rw [HOUT.out, if_pos trivial, HHA.out, if_pos rfl, HSL.out]
      have hp := HP'.out
      have hm := HML.out
      generalize es.map (pieceOf sn X) = D at hp hm ⊢
      exact ⟨av, cv, by simp only [hm]; rfl, by show OwnP wr w.heap.size av D.length cv D; rw [hm]; exact hp.rebase hs1, hB.out⟩
end Go.Proofs.YtfjcbgfgiidogaaDoor
