/- P8.3, SyntaxKept: the law's walk. -/
import Derived.Test.YtllgodaphoncnaaGreatDoorSAwake
namespace Go.Proofs.YtllgodaphoncnaaGreatDoor
open Go.RowKit

set_option maxRecDepth 100000 in
theorem refKept_any (w : World) : Calls Tryz.prog 24 #[] w fun e w' => e = .returned (.slice (some ⟨w.heap.size, 0, none⟩) 29 29) ∧ StrsAt w' (some ⟨w.heap.size, 0, none⟩) w.heap.size 0 keptL ∧ Below w.heap.size w w' := by
  have hst : ∀ (cs : Array Value), cs = (keptL.map fun s => Value.string (st s)).toArray → StrsAt (w.alloc (.cells cs 9 (0, 0))) (some ⟨w.heap.size, 0, none⟩) w.heap.size 0 keptL := fun cs h => strsAt_new (by rw [← h]; exact heap_alloc_new _ _)
  have HST := Lib.hid hst
  clear hst
  go_enter Tryz.func24, Tryz.ntmps24
  go_wp2_with fail
  go_ret
  exact ⟨rfl, HST.out _ rfl, (Below.refl _ _).alloc (Nat.le_refl _) _⟩
set_option maxRecDepth 100000 in
theorem contains_snoc (m : List (List UInt8)) (x a : List UInt8) : (m ++ [x]).contains a = (m.contains a || x == a) := by
  rw [Bool.eq_iff_iff, Bool.or_eq_true, List.contains_iff_mem, List.contains_iff_mem, List.mem_append, List.mem_singleton, beq_iff_eq]
  exact or_congr Iff.rfl ⟨Eq.symm, Eq.symm⟩
set_option maxRecDepth 100000 in
set_option maxHeartbeats 2000000 in
theorem syntaxKept_walk (w : World) (hw : LexW w) (h9 : 9 ≤ w.heap.size) (l : List UInt8) (_ : l.length ≤ maxLen) :
    Calls Tryz.prog 8 #[.string (st l)] w fun e w' => e = .returned (.bool true) ∧ Below w.heap.size w w' := by
  have hl := toList_st l
  obtain ⟨s, hsl⟩ : ∃ s, st l = s := ⟨_, rfl⟩
  rw [hsl] at hl ⊢
  have HAW := Lib.hid (fun W (hb : Below w.heap.size w W) => sawake_any W (hw.below hb) (by have := hb.size; omega))
  have HK := Lib.hid (fun W => kept_any W l)
  have HKI := Lib.hid (fun W (k : Nat) (hk : k < keptL.length) => kept_any W keptL[k])
  rw [hsl] at HK
  have HSL := Lib.hid hsl
  clear hw h9 hsl
  go_enter Tryz.func8, Tryz.ntmps8
  go_wp2_with fail
  refine (refKept_any w).mono ?_
  rintro e w1 ⟨rfl, hst, hb1⟩
  have HST := Lib.hid hst
  have HB1 := Lib.hid hb1
  clear hst hb1
  go_wp2_with fail
  go_loopw [4, 5] (fun v4 v5 wr => ∃ k : Nat, k ≤ 29 ∧ v5 = .int .i64 k ∧ v4 = .bool ((keptL.take k).contains l) ∧ wr = w1) (fun _ v5 _ => 29 - (intOf v5).toNat)
  case atStart => exact ⟨0, by omega, rfl, rfl, rfl⟩
  case round =>
    obtain ⟨k, hk, rfl, rfl, rfl⟩ := hrel
    by_cases hlt : k < 29
    · have hkl : k < keptL.length := hlt
      have c0 := HST.out.cell k hkl 0 (by omega)
      simp only [Nat.mul_one, Nat.add_zero, Nat.zero_add, List.getElem?_cons_zero] at c0
      have HKK := Lib.hid (HKI.out wr k hkl)
      have hsn : (keptL.take (k + 1)).contains l = ((keptL.take k).contains l || keptL[k] == l) := by
        rw [List.take_succ_eq_append_getElem hkl]; exact contains_snoc _ _ _
      have hyes : keptB keptL[k] = true := by
        unfold keptB
        rw [List.contains_iff_mem]
        exact List.getElem_mem _
      rw [hyes] at HKK
      obtain ⟨x, hx⟩ : ∃ x, keptL[k] = x := ⟨_, rfl⟩
      rw [hx] at c0 HKK hsn
      obtain ⟨b, hb⟩ : ∃ b, (keptL.take k).contains l = b := ⟨_, rfl⟩
      rw [hb] at hsn ⊢
      have ex := toList_st x
      obtain ⟨S, hS⟩ : ∃ S, st x = S := ⟨_, rfl⟩
      rw [hS] at c0 HKK ex
      obtain ⟨b2, hb2⟩ : ∃ b, (x == l) = b := ⟨_, rfl⟩
      rw [hb2] at hsn
      have HSN := Lib.hid hsn
      have HLT := Lib.hid hlt
      clear hyes hx hb hS hsn hkl
      cases b with
      | true =>
        go_wp2_with fail
        refine HKK.out.mono ?_
        rintro e w2 ⟨rfl, rfl⟩
        clear c0
        go_wp2_with fail
        go_roundw
        case rel => exact ⟨k + 1, by omega, by go_num, by rw [HSN.out]; rfl, by first | rfl | trivial⟩
        case measure => simp [intOf]; omega
      | false =>
        go_wp2_with fail
        refine HKK.out.mono ?_
        rintro e w2 ⟨rfl, rfl⟩
        clear c0
        go_wp2_with fail
        go_roundw
        case rel => exact ⟨k + 1, by omega, by go_num, by rw [HSN.out]; rfl, by first | rfl | trivial⟩
        case measure => simp [intOf]; omega
    · obtain rfl : k = 29 := by omega
      have hall : (keptL.take 29).contains l = keptB l := rfl
      rw [hall]
      obtain ⟨b, hb⟩ : ∃ b, keptB l = b := ⟨_, rfl⟩
      rw [hb] at HK ⊢
      clear hall hb
      go_wp2_with fail
      refine (HAW.out _ HB1.out).mono ?_
      rintro e w2 ⟨rfl, hb2⟩
      have HB2 := Lib.hid (HB1.out.trans (hb2.mono HB1.out.size))
      clear hb2
      go_wp2_with fail
      refine (HK.out _).mono ?_
      rintro e w3 ⟨rfl, rfl⟩
      cases b with
      | true =>
        go_wp2_with fail
        go_ret
        exact ⟨rfl, HB2.out⟩
      | false =>
        go_wp2_with fail
        go_ret
        exact ⟨rfl, HB2.out⟩
end Go.Proofs.YtllgodaphoncnaaGreatDoor
