/- P3.1, P3.2: what is bad stays so: the law. -/
import Derived.Test.YtebadbnlihbecaaCFew
namespace Go.Proofs.Ytebadbnlihbecaa
open Go.RowKit

theorem Tape.kept {w w' : World} {t t' : Nat} {T : TypeId} {st : Option ByteArray} (h : Tape w t T st) (hk : Kept1 t' w w') (hne : t ≠ t') : Tape w' t T st := h.on (hk.block _ h.lt hne)
theorem flag_none : flagM none = (false, none) := by unfold flagM; rw [numM_none]; rfl
theorem text_none (m : Int) : inTextM none m = (⟨#[]⟩, none) := by
  unfold inTextM
  rw [numM_none]
  split <;> rfl
theorem raw_none : (rawV none).2 = none := by
  unfold rawV
  rw [numM_none]
  rfl
theorem val_none : valOk none = false := by unfold valOk; rw [raw_none]; simp
theorem readS_none : readS none = none := by unfold readS; rw [raw_none]; split <;> rfl
theorem uns256 : unsM (some ⟨#[]⟩) 256 1 = none := by decide +kernel
theorem take_more (l : List UInt8) : takeM (some ⟨l.toArray⟩) ((l.length : Int) + 1) = (⟨#[]⟩, none) := takeM_no (by
  intro h
  have h2 := h.2
  have : (tapeB (some ⟨l.toArray⟩)).size = l.length := by show l.toArray.size = _; simp
  rw [this] at h2
  omega)

set_option maxRecDepth 100000 in
set_option maxHeartbeats 1000000 in
theorem bad_big (w : World) (ps : List (PartV × List Val)) (ad : Option Addr) (g o cp : Nat) (hl : PList w ad g o ps) (hm : ps.length ≤ maxLen) (ab : Option Addr) (n cb : Nat) (_hn : n ≤ maxLen) (hbig : (((ps.take 100).all smallP && decide ((ps.length : Int) ≤ 20)) && decide ((n : Int) ≤ 300)) = false) :
    Calls Try.prog 7 #[.slice ad ps.length cp, .slice ab n cb] w fun e w' => e = .returned (.bool true) ∧ Below w.heap.size w w' := by
  obtain ⟨sm, hsm⟩ : ∃ sm, ((ps.take 100).all smallP && decide ((ps.length : Int) ≤ 20)) = sm := ⟨_, rfl⟩
  have HF : Hid (∀ W, Below w.heap.size w W → Calls Try.prog 9 #[.slice ad ps.length cp, .int .i64 20] W fun e w' => e = .returned (.bool sm) ∧ Below W.heap.size W w') := Lib.hid (by
    intro W hW; rw [← hsm]; exact few3_any W ps ad g o cp 20 (hl.below hW) hm)
  rw [hsm] at hbig
  clear hl hsm
  unfold maxLen at _hn hm
  go_enter Try.func7, Try.ntmps7
  go_wp2_with fail
  refine (awake_any w).mono ?_
  rintro e w1 ⟨rfl, hb⟩
  have HB1 := Lib.hid hb
  clear hb
  go_wp2_with fail
  refine (HF.out _ HB1.out).mono ?_
  rintro e w2 ⟨rfl, hb⟩
  have HB2 := Lib.hid (HB1.out.trans (hb.mono HB1.out.size))
  clear hb HB1 HF
  cases sm
  · go_wp2_with fail
    refine (awake_any _).mono ?_
    rintro e w3 ⟨rfl, hb⟩
    have HB3 := Lib.hid (HB2.out.trans (hb.mono HB2.out.size))
    clear hb HB2
    go_wp2_with fail
    go_ret
    exact ⟨rfl, HB3.out⟩
  · have hgt : (300 : Int) < n := by simp at hbig; omega
    go_wp2_with fail
    refine (awake_any _).mono ?_
    rintro e w3 ⟨rfl, hb⟩
    have HB3 := Lib.hid (HB2.out.trans (hb.mono HB2.out.size))
    clear hb HB2
    go_wp2_with fail
    go_ret
    exact ⟨rfl, HB3.out⟩

set_option maxRecDepth 100000 in
set_option maxHeartbeats 4000000 in
theorem bad_small (w : World) (ps : List (PartV × List Val)) (ad : Option Addr) (g o cp : Nat) (hl : PList w ad g o ps) (hm : ps.length ≤ maxLen) (ab : Option Addr) (cb : Nat) (l : List UInt8) (hv : BSrc w (.slice ab l.length cb) l) (hsm : ((ps.take 100).all smallP && decide ((ps.length : Int) ≤ 20)) = true) (hn : l.length ≤ 300) :
    Calls Try.prog 7 #[.slice ad ps.length cp, .slice ab l.length cb] w fun e w' => e = .returned (.bool true) ∧ Below w.heap.size w w' := by
  have h20 : ps.length ≤ 20 := by rw [Bool.and_eq_true] at hsm; have := of_decide_eq_true hsm.2; omega
  have HF : Hid (∀ W, Below w.heap.size w W → Calls Try.prog 9 #[.slice ad ps.length cp, .int .i64 20] W fun e w' => e = .returned (.bool true) ∧ Below W.heap.size W w') := Lib.hid (by
    intro W hW; rw [← hsm]; exact few3_any W ps ad g o cp 20 (hl.below hW) hm)
  have HL := Lib.hid hl
  have HV := Lib.hid hv
  clear hl hsm hv hm
  go_enter Try.func7, Try.ntmps7
  go_wp2_with fail
  refine (awake_any w).mono ?_
  rintro e w1 ⟨rfl, hb⟩
  have HB1 := Lib.hid hb
  clear hb
  go_wp2_with fail
  refine (HF.out _ HB1.out).mono ?_
  rintro e w2 ⟨rfl, hb⟩
  have HB2 := Lib.hid (HB1.out.trans (hb.mono HB1.out.size))
  clear hb HB1 HF
  have hle : ¬ (300 : Int) < l.length := by omega
  obtain ⟨W3, hW3⟩ : ∃ W3, w2.alloc (.cells #[.string ⟨#[]⟩, .bool false] 28) = W3 := ⟨_, rfl⟩
  have hb3 : Below w2.heap.size w2 W3 := by rw [← hW3]; exact (Below.refl _ _).alloc (Nat.le_refl _) _
  have ht3 : Tape W3 w2.heap.size 28 (some ⟨#[]⟩) := ⟨by rw [← hW3]; exact heap_alloc_new _ _, fun s e => by cases e; exact Nat.zero_le _⟩
  have U := outU8_any W3 w2.heap.size 28 (some ⟨#[]⟩) 256 (by decide) ht3
  rw [uns256] at U
  have HU := Lib.hid U
  have HW3 := Lib.hid hW3
  have HB3 := Lib.hid (HB2.out.trans (hb3.mono HB2.out.size))
  have hs2 := HB2.out.size
  clear hW3 hb3 ht3 U
  go_wp2_with fail
  rw [HW3.out]
  refine HU.out.mono ?_
  rintro e w4 ⟨rfl, ht4, hk4⟩
  obtain ⟨t1, ht1e⟩ : ∃ t1, w2.heap.size = t1 := ⟨_, rfl⟩
  rw [ht1e] at ht4 hk4 ⊢
  have HT4 := Lib.hid ht4
  have HB4 : Hid (Below w.heap.size w w4) := Lib.hid (kept_below HB3.out (by omega) hk4)
  have hl4 : t1 < w4.heap.size := ht4.lt
  clear ht4 hk4 HU HW3 HB3
  have RD := Lib.hid (read_any w4 _ l (by unfold maxLen; omega) (HV.out.below HB4.out))
  go_wp2_with fail
  refine RD.out.mono ?_
  rintro e w5 ⟨rfl, ht5, hb5⟩
  obtain ⟨t2, ht2e⟩ : ∃ t2, w4.heap.size = t2 := ⟨_, rfl⟩
  have HB5 := Lib.hid (HB4.out.trans (hb5.mono HB4.out.size))
  have HT5o := Lib.hid (HT4.out.below hb5)
  rw [ht2e] at ht5 ⊢
  have hne : t1 < t2 := by omega
  have hw1 : w.heap.size ≤ t1 := by omega
  have HT5 := Lib.hid ht5
  clear ht5 hb5 RD HT4 HB4 hl4 ht2e ht1e hs2
  have RW := inRaw_any w5 t2 69 (some ⟨l.toArray⟩) ((l.length : Int) + 1) HT5.out
  rw [take_more] at RW
  have HRW := Lib.hid RW
  clear RW
  go_wp2_with fail
  refine HRW.out.mono ?_
  rintro e w6 ⟨rv, rfl, hsrc, ht6, hk6⟩
  have HT6 := Lib.hid ht6
  have HT6o := Lib.hid (HT5o.out.kept hk6 (by omega))
  have HB6 : Hid (Below w.heap.size w w6) := Lib.hid (kept_below HB5.out (by omega) hk6)
  clear hsrc ht6 hk6 HRW HT5 HT5o HB5
  go_wp2_with fail
  go_loopw [7] (fun i wr => ∃ k : Nat, k ≤ ps.length ∧ i = .int .i64 k ∧ Hid (Tape wr t1 28 none) ∧ Hid (Tape wr t2 69 none) ∧ Hid (Below w.heap.size w wr)) (fun i _ => ps.length - (intOf i).toNat)
  case atStart => exact ⟨0, by omega, rfl, HT6o, HT6, HB6⟩
  case round =>
    clear HT6o HT6 HB6
    obtain ⟨k, hk, rfl, HTo, HTi, HB⟩ := hrel
    by_cases hlt : k < ps.length
    · have hne' : ps ≠ [] := by intro e; subst e; simp at hlt
      obtain rfl := HL.out.at' hne'
      have HLr := HL.out.below HB.out
      have c0 := HLr.c0 k hlt
      have c1 := HLr.c1 k hlt
      have c2 := HLr.c2 k hlt
      have c3 := HLr.c3 k hlt
      have c4 := HLr.c4 k hlt
      have c5 := HLr.c5 k hlt
      have c6 := HLr.c6 k hlt
      have P := lawPut_any w wr t1 28 none ps[k].1 ps[k].2 (HL.out.ok _ (List.getElem_mem hlt)) (HL.out.full _ (List.getElem_mem hlt)) HB.out hw1 HTo.out
      rw [partM_none] at P
      unfold PartV.val at P
      generalize ps[k] = p at *
      have HP := Lib.hid P
      have hgw : g < wr.heap.size := block_lt_of_cell c0
      clear HLr P
      go_wp2_with fail
      refine HP.out.mono ?_
      rintro e w7 ⟨rfl, ht, hk7⟩
      have HT7 := Lib.hid ht
      have HT7i := Lib.hid (HTi.out.kept hk7 (by omega))
      have HB7 : Hid (Below w.heap.size w w7) := Lib.hid (kept_below HB.out hw1 hk7)
      clear ht hk7 HP c0 c1 c2 c3 c4 c5 c6
      go_wp2_with fail
      go_roundw
      case rel => exact ⟨k + 1, by omega, by go_num, HT7, HT7i, HB7⟩
      case measure => simp [intOf]; omega
    · have EN := Lib.hid (end_any wr t1 28 none HTo.out)
      go_wp2_with fail
      refine EN.out.mono ?_
      rintro e w7 ⟨x, rfl, hs7, hb7⟩
      have HT7 := Lib.hid (HTi.out.below hb7)
      have HB7 := Lib.hid (HB.out.trans (hb7.mono HB.out.size))
      obtain ⟨xa, xc, rfl⟩ := hs7.shape
      have e0 : (tapeB none).data.toList.length = 0 := rfl
      rw [e0]
      clear hs7 hb7 EN HTo HTi HB
      have hl7 : t2 < w7.heap.size := HT7.out.lt
      have e3 : (if (none : Option ByteArray).isSome then (0 : Int) else 3) = 3 := rfl
      rw [e3]
      clear e3 e0
      have C := inU8_any w7 t2 69 none HT7.out
      rw [numM_none] at C
      have HC := Lib.hid C
      clear C
      go_wp2_with fail
      refine HC.out.mono ?_
      rintro e w8 ⟨rfl, ht, hk⟩
      have HT8 := Lib.hid ht
      have HB8 : Hid (Below w.heap.size w w8) := Lib.hid (kept_below HB7.out (by omega) hk)
      have hl8 : t2 < w8.heap.size := ht.lt
      clear ht hk HC HT7 HB7 hl7
      have C := inU32_any w8 t2 69 none HT8.out
      rw [numM_none] at C
      have HC := Lib.hid C
      clear C
      go_wp2_with fail
      refine HC.out.mono ?_
      rintro e w9 ⟨rfl, ht, hk⟩
      have HT9 := Lib.hid ht
      have HB9 : Hid (Below w.heap.size w w9) := Lib.hid (kept_below HB8.out (by omega) hk)
      have hl9 : t2 < w9.heap.size := ht.lt
      clear ht hk HC HT8 HB8 hl8
      have C := inI64_any w9 t2 69 none HT9.out
      rw [numM_none, show wrap64 ((0 : Nat) : Int) = 0 by decide +kernel] at C
      have HC := Lib.hid C
      clear C
      go_wp2_with fail
      refine HC.out.mono ?_
      rintro e w10 ⟨rfl, ht, hk⟩
      have HT10 := Lib.hid ht
      have HB10 : Hid (Below w.heap.size w w10) := Lib.hid (kept_below HB9.out (by omega) hk)
      have hl10 : t2 < w10.heap.size := ht.lt
      clear ht hk HC HT9 HB9 hl9
      have C := inFlag_any w10 t2 69 none HT10.out
      rw [flag_none] at C
      have HC := Lib.hid C
      clear C
      go_wp2_with fail
      refine HC.out.mono ?_
      rintro e w11 ⟨rfl, ht, hk⟩
      have HT11 := Lib.hid ht
      have HB11 : Hid (Below w.heap.size w w11) := Lib.hid (kept_below HB10.out (by omega) hk)
      have hl11 : t2 < w11.heap.size := ht.lt
      clear ht hk HC HT10 HB10 hl10
      have C := inText_any w11 t2 69 none 9 HT11.out
      rw [text_none] at C
      have HC := Lib.hid C
      clear C
      go_wp2_with fail
      refine HC.out.mono ?_
      rintro e w12 ⟨rfl, ht, hk⟩
      have HT12 := Lib.hid ht
      have HB12 : Hid (Below w.heap.size w w12) := Lib.hid (kept_below HB11.out (by omega) hk)
      have hl12 : t2 < w12.heap.size := ht.lt
      clear ht hk HC HT11 HB11 hl11
      have C := inRaw_any w12 t2 69 none 0 HT12.out
      have HC := Lib.hid C
      clear C
      go_wp2_with fail
      refine HC.out.mono ?_
      rintro e w13 ⟨rv2, rfl, hs13, ht, hk⟩
      obtain ⟨ra, rc, rfl⟩ := hs13.shape
      have HT13 : Hid (Tape w13 t2 69 none) := Lib.hid ht
      have HB13 : Hid (Below w.heap.size w w13) := Lib.hid (kept_below HB12.out (by omega) hk)
      have hl13 : t2 < w13.heap.size := ht.lt
      have e4 : (takeM none 0).1.data.toList.length = 0 := rfl
      rw [e4]
      clear ht hk HC hs13 HT12 HB12 hl12 e4
      have C := inValue_any w13 t2 69 none HT13.out
      rw [readS_none] at C
      have HC := Lib.hid C
      clear C
      go_wp2_with fail
      refine HC.out.mono ?_
      rintro e w14 ⟨y, ly, rfl, hfl, _, hno, _, ht, hk⟩
      obtain ⟨rfl, rfl⟩ := hno val_none
      have HT14 := Lib.hid ht
      have HB14 : Hid (Below w.heap.size w w14) := Lib.hid (kept_below HB13.out (by omega) hk)
      have hl14 : t2 < w14.heap.size := ht.lt
      have S := same_any w14 ⟨0, 0, ⟨#[]⟩, none, 0, 0⟩ ⟨0, 0, ⟨#[]⟩, none, 0, 0⟩ [] [] (full_zero _) (full_zero _)
      rw [show sameB (⟨0, 0, ⟨#[]⟩, none, 0, 0⟩ : Val) [] ⟨0, 0, ⟨#[]⟩, none, 0, 0⟩ [] = true by simp [sameB, headS]] at S
      have HSM := Lib.hid S
      clear ht hk hfl hno HC HT13 HB13 hl13 S
      go_wp2_with fail
      refine HSM.out.mono ?_
      rintro e w15 ⟨rfl, hb⟩
      have HT15 := Lib.hid (HT14.out.below hb)
      have HB15 := Lib.hid (HB14.out.trans (hb.mono HB14.out.size))
      clear hb HSM HT14 HB14
      have O := over_any w15 t2 69 none HT15.out
      rw [show overM none = false from rfl] at O
      have HO := Lib.hid O
      clear O
      go_wp2_with fail
      refine HO.out.mono ?_
      rintro e w16 ⟨rfl, rfl⟩
      go_wp2_with fail
      go_ret
      exact ⟨rfl, HB15.out⟩
end Go.Proofs.Ytebadbnlihbecaa
