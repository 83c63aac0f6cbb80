/-
  rilllaw08: same.
-/
import Derived.Deep.RegionHeld3
import Derived.Test.YtdidalcflkphnaaMDs4
import Derived.Test.YtdidalcflkphnaaMDjU
import Derived.Test.YtdidalcflkphnaaMDkE
namespace Go.Proofs.Ytdidalcflkphnaa
open Go.RowKit

theorem sameBytes_self (a1 : Option Addr) (n1 c1 : Nat) (a2 : Option Addr) (n2 c2 : Nat) (l : List Nat) (w : World) (h1 : BytesV w (a1, n1, c1) l) (h2 : BytesV w (a2, n2, c2) l) :
    Calls Try.prog 27 #[.slice a1 n1 c1, .slice a2 n2 c2] w fun e w' => e = .returned (.bool true) ∧ ∃ m, w' = w.drewN m :=
  (sameBytes_quiet a1 n1 c1 l a2 n2 c2 l w h1 h2).mono fun _ _ ⟨he, hm⟩ => ⟨by rw [he]; simp, hm⟩
set_option maxRecDepth 100000 in
set_option maxHeartbeats 16000000 in
theorem same_any (w0 w : World) (F : Nat → Prop) (g : Nat) (R : Nat → Prop) (h : RefH) (d : DV) (M : Nat) (k : Pr w0 w F g R h d M) (hM : M ≤ 1000000000) :
    Calls Try.prog 15 #[.pointer (some ⟨g, 0, none⟩), h.v] w (fun e w' => e = .returned (.bool true) ∧ Below w.heap.size w w') := by
  obtain ⟨t, ht⟩ : ∃ t, t = w.heap.size := ⟨_, rfl⟩
  obtain ⟨W, hW⟩ : ∃ W, W = w.alloc (.cells h.cells RT) := ⟨_, rfl⟩
  have bW : Below w.heap.size w W := by rw [hW]; exact below_alloc w _
  have eW : W.heap[t]? = some (.cells h.cells RT (0, 0)) := by rw [hW, ht]; exact heap_alloc_self w _
  have hzW : W.heap.size = w.heap.size + 1 := by rw [hW]; simp
  have hno := k.b.no.len
  simp only [List.length_map] at hno
  obtain ⟨n, hn⟩ : ∃ n, n = d.sl.length := ⟨_, rfl⟩
  rw [← hn] at hno
  have hs2 := k.sz.s2
  have hrd := k.sz.rd
  rw [← hn] at hs2
  have hbD : Bytes d.read := k.bytes
  have HKD := Lib.hid (show ∀ w2, Below W.heap.size W w2 → DL w0.heap.size w2 F g d from fun w2 b2 => (k.a.below bW).below b2)
  have HKR := Lib.hid (show ∀ w2, Below W.heap.size W w2 → RefD w2 R h d from fun w2 b2 => (k.b.below bW).below b2)
  have hUW : ∀ w2, Below W.heap.size W w2 → w2.heap[t]? = some (.cells h.cells RT (0, 0)) := fun w2 b2 => (b2.block t (by omega)).trans eW
  have HUW := Lib.hid hUW
  have HBW := Lib.hid bW
  have HN := Lib.hid hn
  have HT := Lib.hid ht
  have HBD := Lib.hid hbD
  have HKD0 := HKD.out W.drew ⟨rfl, rfl, rfl, Nat.le_refl _, fun _ _ => rfl⟩
  have KS := slots_any F g d W.drew HKD0.m
  have KL := log_any F g d W.drew HKD0.m
  have KRL := fun (w2 : World) (b2 : Below W.heap.size W w2) => refLog_any R h d w2 (HKR.out w2 b2)
  have KRD := fun (i : Int) (w2 : World) (b2 : Below W.heap.size W w2) => refRead_any R h d i w2 (HKR.out w2 b2)
  have KPD := fun (i : Int) (w2 : World) (b2 : Below W.heap.size W w2) => read_l w0.heap.size F g d i w2 (HKD.out w2 b2)
  rw [← HN.out] at KS
  obtain ⟨p, ⟨sa1, sa2, sa3⟩, laid, ⟨ba1, ba2, ba3⟩, ⟨mo1, mo2, mo3⟩, ⟨st1, st2, st3⟩, ⟨no1, no2, no3⟩, ⟨fr1, fr2, fr3⟩, op⟩ := h
  unfold RefH.v RefH.cells at KRL KRD ⊢
  unfold RefH.cells at hW
  simp only at KRL KRD hno ⊢
  subst hno
  have HKL := Lib.hid KL
  have HKRL := Lib.hid KRL
  have HKRD := Lib.hid KRD
  have HKPD := Lib.hid KPD
  have HW := Lib.hid hW
  obtain ⟨⟨m0, m1, m2, m3, m4, m5, m6, m7, m8⟩, -⟩ := cells9D eW
  simp only at m0 m1 m2 m3 m4 m5 m6 m7 m8
  clear hn hUW hbD bW hzW eW k ht HKD0 KL KRL KRD KPD hW
  go_enter Try.func15, Try.ntmps15
  go_upto_region 1 with fail
  rw [← HW.out, ← HT.out]
  have P0 : W.cell? ⟨t, 0, none⟩ = some (.int .i64 p) ∧ W.cell? ⟨t, 1, none⟩ = some (.slice sa1 sa2 sa3) ∧ W.cell? ⟨t, 2, none⟩ = some (.bool laid) ∧ W.cell? ⟨t, 3, none⟩ = some (.slice ba1 ba2 ba3) ∧ W.cell? ⟨t, 4, none⟩ = some (.slice mo1 mo2 mo3) ∧ W.cell? ⟨t, 5, none⟩ = some (.slice st1 st2 st3) ∧ W.cell? ⟨t, 6, none⟩ = some (.slice no1 no2 no3) ∧ W.cell? ⟨t, 7, none⟩ = some (.slice fr1 fr2 fr3) ∧ W.cell? ⟨t, 8, none⟩ = some (.bool op) := ⟨m0, m1, m2, m3, m4, m5, m6, m7, m8⟩
  have HPC := Lib.hid (show ∀ w2, Below W.heap.size W w2 → w2.cell? ⟨t, 0, none⟩ = some (.int .i64 p) ∧ w2.cell? ⟨t, 1, none⟩ = some (.slice sa1 sa2 sa3) ∧ w2.cell? ⟨t, 2, none⟩ = some (.bool laid) ∧ w2.cell? ⟨t, 3, none⟩ = some (.slice ba1 ba2 ba3) ∧ w2.cell? ⟨t, 4, none⟩ = some (.slice mo1 mo2 mo3) ∧ w2.cell? ⟨t, 5, none⟩ = some (.slice st1 st2 st3) ∧ w2.cell? ⟨t, 6, none⟩ = some (.slice no1 no2 no3) ∧ w2.cell? ⟨t, 7, none⟩ = some (.slice fr1 fr2 fr3) ∧ w2.cell? ⟨t, 8, none⟩ = some (.bool op) from fun w2 b2 => (cells9D (HUW.out w2 b2)).1)
  clear m0 m1 m2 m3 m4 m5 m6 m7 m8
  go_region_held3 (fun w' => w'.cell? ⟨t, 0, none⟩ = some (.int .i64 p) ∧ w'.cell? ⟨t, 1, none⟩ = some (.slice sa1 sa2 sa3) ∧ w'.cell? ⟨t, 2, none⟩ = some (.bool laid) ∧ w'.cell? ⟨t, 3, none⟩ = some (.slice ba1 ba2 ba3) ∧ w'.cell? ⟨t, 4, none⟩ = some (.slice mo1 mo2 mo3) ∧ w'.cell? ⟨t, 5, none⟩ = some (.slice st1 st2 st3) ∧ w'.cell? ⟨t, 6, none⟩ = some (.slice no1 no2 no3) ∧ w'.cell? ⟨t, 7, none⟩ = some (.slice fr1 fr2 fr3) ∧ w'.cell? ⟨t, 8, none⟩ = some (.bool op)) (first | exact P0 | exact P3 | exact P4 | exact P5)
    (first
      | (go_at_call 30; (with_reducible refine KS.mono ?_); rintro e w2 ⟨rfl, hw2⟩; subst hw2)
      | (go_at_call 26; (with_reducible refine HKL.out.mono ?_); rintro e w3 ⟨a3, c3, rfl, o3, b3e⟩; have b3 : Below W.heap.size W w3 := ⟨b3e.os, b3e.tape, b3e.output, b3e.size, b3e.block⟩; have P3 := HPC.out w3 b3; have HB3 := Lib.hid b3; have V3 := Lib.hid (bytesV_of_owns o3 HBD.out (by omega)); have KL3 := Lib.hid (HKRL.out w3 b3); clear b3e b3 o3)
      | (go_at_call 37; (with_reducible refine KL3.out.mono ?_); rintro e w4 ⟨a4, c4, rfl, o4, b4⟩; have P4 := HPC.out w4 (below_trans' HB3.out b4); have HB4 := Lib.hid (below_trans' HB3.out b4); have KSB := Lib.hid (sameBytes_self a3 d.read.length c3 a4 d.read.length c4 d.read w4 (V3.out.below b4) (bytesV_of_owns o4 HBD.out (by omega))); clear b4 o4)
      | (go_at_call 27; (with_reducible refine KSB.out.mono ?_); rintro e w5 ⟨rfl, hm5⟩; have b5 : Below W.heap.size W w5 := (by obtain ⟨m5, rfl⟩ := hm5; exact below_drewN HB4.out m5); have P5 := HPC.out w5 b5; have HB5 := Lib.hid b5; clear hm5 b5))
  clear P3 P4 P0
  have HP5 := Lib.hid P5
  clear P5 KS
  go_wp2_with fail
  go_loopw [5] (fun vi wr => ∃ i : Int, -1 ≤ i ∧ i ≤ (no2 : Int) + 1 ∧ vi = .int .i64 i ∧ Hid (Below W.heap.size W wr)) (fun vi _ => ((no2 : Int) + 1 - intOf vi).toNat)
  case atStart => exact ⟨-1, by omega, by omega, rfl, HB5⟩
  case round =>
    clear HP5 HB5 HB3 HB4 V3 KL3 KSB
    obtain ⟨i, hi0, hi1, rfl, hB⟩ := hrel
    obtain ⟨m0, m1, m2, m3, m4, m5, m6, m7, m8⟩ := HPC.out wr hB.out
    by_cases hle : i ≤ (no2 : Int)
    · have KA := HKPD.out i wr hB.out
      obtain ⟨X, hX⟩ : ∃ X, X = (readV d i).1 := ⟨_, rfl⟩
      obtain ⟨E, hE⟩ : ∃ E, E = (readV d i).2 := ⟨_, rfl⟩
      have KBB := fun w2 b2 => HKRD.out i w2 b2
      rw [← hX, ← hE] at KA
      simp only [← hX, ← hE] at KBB
      have hXB : Bytes X ∧ X.length ≤ 1000000000 := by
        rw [hX]
        unfold readV
        split
        · exact (HKR.out wr hB.out).no.bytes _ (by
            simp only
            rename_i hc
            have hlt : i.toNat < d.sl.length := by omega
            rw [List.getD_eq_getElem?_getD, List.getElem?_eq_getElem hlt]
            exact List.mem_map.2 ⟨_, List.getElem_mem hlt, rfl⟩)
        · exact ⟨fun x hx => (nomatch hx), by simp⟩
      have HXB := Lib.hid hXB
      have HKBB := Lib.hid KBB
      clear hX hE hXB KBB
      go_wp2_with fail
      (with_reducible refine KA.mono ?_)
      rintro e w3 ⟨a3, c3, rfl, o3, b3⟩
      have hB3 := below_trans' hB.out b3
      have KC := HKBB.out w3 hB3
      have V3 := Lib.hid (bytesV_of_owns o3 HXB.out.1 (by have := HXB.out.2; omega))
      obtain ⟨m0, m1, m2, m3, m4, m5, m6, m7, m8⟩ := HPC.out w3 hB3
      have HB3 := Lib.hid hB3
      clear KA o3 b3 hB3
      go_wp2_with fail
      (with_reducible refine KC.mono ?_)
      rintro e w4 ⟨a4, c4, rfl, o4, b4⟩
      have hB4 := below_trans' HB3.out b4
      have KSB := sameBytes_self a3 X.length c3 a4 X.length c4 X w4 (V3.out.below b4) (bytesV_of_owns o4 HXB.out.1 (by have := HXB.out.2; omega))
      have HB4 := Lib.hid hB4
      clear KC o4 b4 hB4
      go_wp2_with fail
      (with_reducible refine KSB.mono ?_)
      rintro e w5 ⟨rfl, hm5⟩
      have hB5 : Below W.heap.size W w5 := by obtain ⟨m5, rfl⟩ := hm5; exact below_drewN HB4.out m5
      have HB5 := Lib.hid hB5
      clear KSB hm5 hB5 m0 m1 m2 m3 m4 m5 m6 m7 m8
      go_wp2
      go_roundw
      case rel => exact ⟨i + 1, by omega, by omega, rfl, HB5⟩
      case measure => simp [intOf]; omega
    · go_wp2
      go_ret
      exact ⟨rfl, below_trans' HBW.out hB.out⟩
end Go.Proofs.Ytdidalcflkphnaa
