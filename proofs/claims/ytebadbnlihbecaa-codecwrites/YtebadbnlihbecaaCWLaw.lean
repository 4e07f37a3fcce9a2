/- P3.1, P3.2: of all parts the bytes are the chapter's, or they are bad; what is written is read as it was: the law. -/
import Derived.Test.YtebadbnlihbecaaCWMath
namespace Go.Proofs.Ytebadbnlihbecaa
open Go.RowKit

/-- what is written of the first parts -/
def putsM (ps : List (PartV × List Val)) (k : Nat) : Option ByteArray := (ps.take k).foldl (fun st p => partM st p.1 p.2) (TT [])
theorem putsM_step (ps : List (PartV × List Val)) (k : Nat) (h : k < ps.length) : putsM ps (k + 1) = partM (putsM ps k) ps[k].1 ps[k].2 := by
  unfold putsM
  rw [List.take_succ_eq_append_getElem h, List.foldl_append]
  rfl
theorem putsM_all (ps : List (PartV × List Val)) (h : ∀ p ∈ ps, p.1.s.size ≤ 5000 ∧ p.2.length = p.1.v.n) : putsM ps ps.length = (allB ps).bind TT := by
  unfold putsM
  rw [List.take_length]
  exact parts_all ps h
theorem flatB_drop (ps : List (PartV × List Val)) (k : Nat) (h : k < ps.length) : flatB (ps.drop k) = bytesB ps[k].1 ps[k].2 ++ flatB (ps.drop (k + 1)) := by
  unfold flatB
  rw [List.drop_eq_getElem_cons h, List.flatMap_cons]
theorem over_nil : overM (TT []) = true := by decide +kernel

set_option maxRecDepth 100000 in
set_option maxHeartbeats 1000000 in
theorem writes_big (w : World) (ps : List (PartV × List Val)) (ad : Option Addr) (g o cp : Nat) (hl : PList w ad g o ps) (hm : ps.length ≤ maxLen) (hsm : ((ps.take 100).all smallP && decide ((ps.length : Int) ≤ 30)) = false) :
    Calls Try.prog 3 #[.slice ad ps.length cp] w fun e w' => e = .returned (.bool true) ∧ Below w.heap.size w w' := by
  have HF : Hid (∀ W, Below w.heap.size w W → Calls Try.prog 9 #[.slice ad ps.length cp, .int .i64 30] W fun e w' => e = .returned (.bool false) ∧ Below W.heap.size W w') := Lib.hid (by
    intro W hW; rw [← hsm]; exact few3_any W ps ad g o cp 30 (hl.below hW) hm)
  clear hl hsm hm
  go_enter Try.func3, Try.ntmps3
  go_wp2_with fail
  refine (awake_any w).mono ?_
  rintro e w1 ⟨rfl, hb⟩
  have HB1 := Lib.hid hb
  clear hb
  go_wp2_with fail
  refine (HF.out _ HB1.out).mono ?_
  rintro e w2 ⟨rfl, hb⟩
  have HB2 := Lib.hid (HB1.out.trans (hb.mono HB1.out.size))
  clear hb HB1 HF
  go_wp2_with fail
  refine (awake_any _).mono ?_
  rintro e w3 ⟨rfl, hb⟩
  have HB3 := Lib.hid (HB2.out.trans (hb.mono HB2.out.size))
  clear hb HB2
  go_wp2_with fail
  go_ret
  exact ⟨rfl, HB3.out⟩

set_option maxRecDepth 100000 in
set_option maxHeartbeats 4000000 in
theorem writes_small (w : World) (ps : List (PartV × List Val)) (ad : Option Addr) (g o cp : Nat) (hl : PList w ad g o ps) (hm : ps.length ≤ maxLen) (hpo : ∀ p ∈ ps, PartOk w p.1 p.2) (hsm : ((ps.take 100).all smallP && decide ((ps.length : Int) ≤ 30)) = true) :
    Calls Try.prog 3 #[.slice ad ps.length cp] w fun e w' => e = .returned (.bool true) ∧ Below w.heap.size w w' := by
  have h30 : ps.length ≤ 30 := by rw [Bool.and_eq_true] at hsm; have := of_decide_eq_true hsm.2; omega
  have HF : Hid (∀ W, Below w.heap.size w W → Calls Try.prog 9 #[.slice ad ps.length cp, .int .i64 30] W fun e w' => e = .returned (.bool true) ∧ Below W.heap.size W w') := Lib.hid (by
    intro W hW; rw [← hsm]; exact few3_any W ps ad g o cp 30 (hl.below hW) hm)
  have HL := Lib.hid hl
  have HPO := Lib.hid hpo
  have HM := Lib.hid hm
  have HPA := Lib.hid (putsM_all ps fun p hp => ⟨(hpo p hp).s, (hpo p hp).full.len⟩)
  clear hl hsm hm hpo
  go_enter Try.func3, Try.ntmps3
  go_wp2_with fail
  refine (awake_any w).mono ?_
  rintro e w1 ⟨rfl, hb⟩
  have HB1 := Lib.hid hb
  clear hb
  go_wp2_with fail
  refine (HF.out _ HB1.out).mono ?_
  rintro e w2 ⟨rfl, hb⟩
  have HB2 := Lib.hid (HB1.out.trans (hb.mono HB1.out.size))
  clear hb HB1 HF
  go_wp2_with fail
  generalize hW3 : World.alloc w2 _ = W3
  have hb3 : Below w2.heap.size w2 W3 := by rw [← hW3]; exact (Below.refl _ _).alloc (Nat.le_refl _) _
  have HT3 : Hid (Tape W3 w2.heap.size 28 (putsM ps 0)) := Lib.hid ⟨by rw [← hW3]; exact heap_alloc_new _ _, fun s e => by cases e; exact Nat.zero_le _⟩
  have HB3 := Lib.hid (HB2.out.trans (hb3.mono HB2.out.size))
  have hs2 := HB2.out.size
  obtain ⟨t1, ht1e⟩ : ∃ t1, w2.heap.size = t1 := ⟨_, rfl⟩
  rw [ht1e] at HT3 hs2 ⊢
  clear hW3 hb3 ht1e
  go_loopw [4] (fun i wr => ∃ k : Nat, k ≤ ps.length ∧ i = .int .i64 k ∧ Hid (Tape wr t1 28 (putsM ps k)) ∧ Hid (Below w.heap.size w wr)) (fun i _ => ps.length - (intOf i).toNat)
  case atStart => exact ⟨0, by omega, rfl, HT3, HB3⟩
  case round =>
    clear HT3 HB3
    obtain ⟨k, hk, rfl, HTo, HB⟩ := hrel
    by_cases hlt : k < ps.length
    · have hne' : ps ≠ [] := by intro e; subst e; simp at hlt
      obtain rfl := HL.out.at' hne'
      have HLr := HL.out.below HB.out
      have c0 := HLr.c0 k hlt
      have c1 := HLr.c1 k hlt
      have c2 := HLr.c2 k hlt
      have c3 := HLr.c3 k hlt
      have c4 := HLr.c4 k hlt
      have c5 := HLr.c5 k hlt
      have c6 := HLr.c6 k hlt
      have P := lawPut_any w wr t1 28 (putsM ps k) ps[k].1 ps[k].2 (HL.out.ok _ (List.getElem_mem hlt)) (HL.out.full _ (List.getElem_mem hlt)) HB.out hs2 HTo.out
      rw [← putsM_step ps k hlt] at P
      unfold PartV.val at P
      generalize ps[k] = p at *
      have HP := Lib.hid P
      have hgw : g < wr.heap.size := block_lt_of_cell c0
      clear HLr P
      go_wp2_with fail
      refine HP.out.mono ?_
      rintro e w7 ⟨rfl, ht, hk7⟩
      have HT7 := Lib.hid ht
      have HB7 : Hid (Below w.heap.size w w7) := Lib.hid (kept_below HB.out hs2 hk7)
      clear ht hk7 HP c0 c1 c2 c3 c4 c5 c6
      go_wp2_with fail
      go_roundw
      case rel => exact ⟨k + 1, by omega, by go_num, HT7, HB7⟩
      case measure => simp [intOf]; omega
    · obtain rfl : k = ps.length := by omega
      rw [HPA.out] at HTo
      have EN := Lib.hid (end_any wr t1 28 _ HTo.out)
      obtain ⟨acc, hacc⟩ : ∃ acc, allB ps = acc := ⟨_, rfl⟩
      have HAC := Lib.hid hacc
      have AL := Lib.hid (fun W (hW : Below w.heap.size w W) => refAll_any W ps ad g o cp (HL.out.below hW) HM.out (fun p hp => ⟨(HPO.out p hp).ok, (HPO.out p hp).s, (HPO.out p hp).full.below hW, (HPO.out p hp).i, (HPO.out p hp).il⟩))
      rw [hacc] at EN AL
      clear hacc HTo HPA
      cases acc with
      | none =>
        simp only [Option.isSome_none, Option.bind_none, Bool.false_eq_true, if_false] at EN
        go_wp2_with fail
        refine EN.out.mono ?_
        rintro e w5 ⟨b, rfl, hs5, hb5⟩
        have HB5 := Lib.hid (HB.out.trans (hb5.mono HB.out.size))
        have hs5' : BSrc w5 b [] := hs5
        obtain ⟨ba, bc, rfl⟩ := hs5'.shape
        clear hs5 hs5' hb5 EN
        go_wp2_with fail
        refine (AL.out _ HB5.out).mono ?_
        rintro e w6 ⟨v, rfl, hai, hb6⟩
        have HB6 := Lib.hid (HB5.out.trans (hb6.mono HB5.out.size))
        clear hai hb6 AL HB5
        go_wp2_with fail
        go_ret
        exact ⟨rfl, HB6.out⟩
      | some U =>
        simp only [Option.isSome_some, Option.bind_some, if_true] at EN
        obtain ⟨hU, hoks⟩ := allB_some ps U HAC.out
        have hUm := allB_most ps U HAC.out
        have HU := Lib.hid hU
        have HOKS := Lib.hid hoks
        clear hU hoks
        go_wp2_with fail
        refine EN.out.mono ?_
        rintro e w5 ⟨b, rfl, hs5, hb5⟩
        have HB5 := Lib.hid (HB.out.trans (hb5.mono HB.out.size))
        have hs5' : BSrc w5 b U := hs5
        have HS5 := Lib.hid hs5'
        clear hs5 hs5' hb5 EN
        go_wp2_with fail
        refine (AL.out _ HB5.out).mono ?_
        rintro e w6 ⟨v, rfl, hai, hb6⟩
        have HB6 := Lib.hid (HB5.out.trans (hb6.mono HB5.out.size))
        have hsv : BSrc w6 v U := hai.src
        have hsb : BSrc w6 b U := HS5.out.below hb6
        have hcb := conv_bytes hsb
        have hcv := conv_bytes hsv
        have RD := Lib.hid (read_any w6 b U (by unfold maxLen; omega) hsb)
        clear hai hb6 AL HB5 hsv hsb HS5
        go_wp2_with fail
        refine RD.out.mono ?_
        rintro e w7 ⟨rfl, ht7, hb7⟩
        have HB7 := Lib.hid (HB6.out.trans (hb7.mono HB6.out.size))
        have hs6 := HB6.out.size
        obtain ⟨t2, ht2e⟩ : ∃ t2, w6.heap.size = t2 := ⟨_, rfl⟩
        rw [ht2e] at ht7 hs6 ⊢
        have HT7 : Hid (Tape w7 t2 69 (TT (flatB (ps.drop 0)))) := Lib.hid (by rw [List.drop_zero, ← HU.out]; exact ht7)
        clear ht7 hb7 RD ht2e hcb hcv HB HB6
        go_wp2_with fail
        go_loopw [10] (fun i wr => ∃ k : Nat, k ≤ ps.length ∧ i = .int .i64 k ∧ Hid (Tape wr t2 69 (TT (flatB (ps.drop k)))) ∧ Hid (Below w.heap.size w wr)) (fun i _ => ps.length - (intOf i).toNat)
        case atStart => exact ⟨0, by omega, rfl, HT7, HB7⟩
        case round =>
          clear HT7 HB7
          obtain ⟨k, hk, rfl, HTi, HB⟩ := hrel
          by_cases hlt : k < ps.length
          · have hne' : ps ≠ [] := by intro e; subst e; simp at hlt
            obtain rfl := HL.out.at' hne'
            have HLr := HL.out.below HB.out
            have c0 := HLr.c0 k hlt
            have c1 := HLr.c1 k hlt
            have c2 := HLr.c2 k hlt
            have c3 := HLr.c3 k hlt
            have c4 := HLr.c4 k hlt
            have c5 := HLr.c5 k hlt
            have c6 := HLr.c6 k hlt
            have hT := HTi.out
            rw [flatB_drop ps k hlt] at hT
            have P := took_any w wr t2 69 ps[k].1 ps[k].2 (flatB (ps.drop (k + 1))) (HPO.out _ (List.getElem_mem hlt)) HB.out hs6 (HOKS.out _ (List.getElem_mem hlt)) hT
            unfold PartV.val at P
            generalize ps[k] = p at *
            have HP := Lib.hid P
            have hgw : g < wr.heap.size := block_lt_of_cell c0
            clear HLr P hT
            go_wp2_with fail
            refine HP.out.mono ?_
            rintro e w8 ⟨rfl, ht, hk8⟩
            have HT8 := Lib.hid ht
            have HB8 : Hid (Below w.heap.size w w8) := Lib.hid (kept_below HB.out hs6 hk8)
            clear ht hk8 HP c0 c1 c2 c3 c4 c5 c6
            go_wp2_with fail
            go_roundw
            case rel => exact ⟨k + 1, by omega, by go_num, HT8, HB8⟩
            case measure => simp [intOf]; omega
          · obtain rfl : k = ps.length := by omega
            have OV := over_any wr t2 69 _ HTi.out
            rw [List.drop_length, show flatB [] = [] from rfl, over_nil] at OV
            have HOV := Lib.hid OV
            clear OV HTi
            go_wp2_with fail
            refine HOV.out.mono ?_
            rintro e w9 ⟨rfl, rfl⟩
            go_wp2_with fail
            go_ret
            exact ⟨rfl, HB.out⟩
end Go.Proofs.Ytebadbnlihbecaa
