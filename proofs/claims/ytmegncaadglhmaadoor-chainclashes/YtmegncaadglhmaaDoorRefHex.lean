/- The reference's constants: words of eight hexadecimal digits. -/
import Derived.Test.YtmegncaadglhmaaDoorBits
namespace Go.Proofs.YtmegncaadglhmaaDoor
open Go.RowKit

/-- a hexadecimal digit's number -/
def hexd (c : UInt8) : Nat := if c.toNat ≤ 57 then c.toNat - 48 else c.toNat - 87
def isHex (c : UInt8) : Bool := (48 ≤ c.toNat && c.toNat ≤ 57) || (97 ≤ c.toNat && c.toNat ≤ 102)
/-- the j-th truth of the n-th word -/
def hexBit (s : List UInt8) (n j : Nat) : Bool := (hexd (s.getD (8 * n + 7 - j / 4) 0) / 2 ^ (j % 4)) % 2 == 1

set_option maxHeartbeats 400000 in
theorem digit_any (c : UInt8) (h : isHex c = true) (w : World) : Calls Tryd.prog 32 #[.int .u8 (c.toNat : Int)] w fun e w' => e = .returned (.int .i64 (hexd c : Int)) ∧ w = w' := by
  unfold isHex at h
  simp only [Bool.or_eq_true, Bool.and_eq_true, decide_eq_true_eq] at h
  have hc : hexd c = if c.toNat ≤ 57 then c.toNat - 48 else c.toNat - 87 := rfl
  generalize hexd c = d at *
  generalize c.toNat = n at *
  rcases h with ⟨h1, h2⟩ | ⟨h1, h2⟩
  · rw [if_pos h2] at hc
    have Hc := Lib.hid hc
    clear hc
    go_enter Tryd.func32, Tryd.ntmps32
    go_wp2
    go_ret
    exact ⟨ret_int (by have := Hc.out; omega), rfl⟩
  · rw [if_neg (by omega)] at hc
    have Hc := Lib.hid hc
    clear hc
    go_enter Tryd.func32, Tryd.ntmps32
    go_wp2
    go_ret
    exact ⟨ret_int (by have := Hc.out; omega), rfl⟩

set_option maxRecDepth 100000 in
set_option maxHeartbeats 1000000 in
theorem hex_any (s : ByteArray) (n : Nat) (hs : 8 * n + 8 ≤ s.size) (hm : s.size ≤ 100000) (hx : ∀ i, (h : i < s.size) → isHex s[i] = true) (w : World) :
    Calls Tryd.prog 26 #[.string s, .int .i64 (n : Int)] w fun e w' => e = .returned (.agg (bitsC (hexBit s.data.toList n)).toArray) ∧ Below w.heap.size w w' := by
  go_enter Tryd.func26, Tryd.ntmps26
  go_wp2_with fail
  generalize hW : World.alloc _ _ = w1
  have R : BitRel w.heap.size [] (fun _ => false) w w1 := by
    rw [← hW]
    have hh := heap_allocs [.cells (bitsC fun _ => false).toArray 57, .cells (bitsC fun _ => false).toArray 57] w
    exact ⟨fun i hi => (by cases hi), ⟨fun _ => false, hh 0 (by simp)⟩, hh 1 (by simp), below_allocs [_, _] w (Below.refl _ _) (Nat.le_refl _)⟩
  clear hW
  go_loopw [6, 7, 8] (fun i d k wr => ∃ j : Nat, j ≤ 8 ∧ i = .int .i64 j ∧ BitRel w.heap.size [] (fun i => if i < 4 * j then hexBit s.data.toList n i else false) w wr) (fun i _ _ _ => 8 - (intOf i).toNat)
  case atStart => exact ⟨0, by omega, rfl, R.congr (fun i _ => by simp)⟩
  case round =>
    clear R
    obtain ⟨j, hj, rfl, hr⟩ := hrel
    by_cases hlt : j < 8
    · have hd : decide ((j : Int) < 8) = true := by simp; omega
      have hsx := hx (8 * n + 7 - j) (by omega)
      have Hr := Lib.hid hr
      have Hx := Lib.hid hx
      clear hr hx
      go_wp2_with fail
      refine (digit_any _ hsx _).mono ?_
      rintro e wx ⟨rfl, rfl⟩
      have hd0 : hexd s[8 * n + 7 - j] = hexd (s.data.toList.getD (8 * n + 7 - j) 0) := by
        congr 1
        rw [List.getD_eq_getElem?_getD, List.getElem?_eq_getElem (by simpa using (show 8 * n + 7 - j < s.size by omega))]; rfl
      have hd15 : hexd s[8 * n + 7 - j] ≤ 15 := by
        unfold isHex at hsx; simp only [Bool.or_eq_true, Bool.and_eq_true, decide_eq_true_eq] at hsx
        unfold hexd; split <;> omega
      generalize hexd s[8 * n + 7 - j] = d0 at *
      have Hd0 := Lib.hid hd0
      clear hd0 hsx
      go_wp2_with fail
      go_loopw [7, 8] (fun d k wr => ∃ q : Nat, q ≤ 4 ∧ k = .int .i64 q ∧ d = .int .i64 ((d0 / 2 ^ q : Nat) : Int) ∧ BitRel w.heap.size [] (fun i => if i < 4 * j + q then hexBit s.data.toList n i else false) w wr) (fun _ k _ => 4 - (intOf k).toNat)
      case atStart => exact ⟨0, by omega, rfl, by simp, Hr.out⟩
      case round =>
        clear Hr
        obtain ⟨q, hq, rfl, rfl, hr⟩ := hrel
        by_cases hlq : q < 4
        · have hdq : decide ((q : Int) < 4) = true := by simp; omega
          have hbit : hexBit s.data.toList n (4 * j + q) = ((d0 / 2 ^ q) % 2 == 1) := by
            unfold hexBit
            rw [show (4 * j + q) / 4 = j by omega, show (4 * j + q) % 4 = q by omega, ← Hd0.out]
          have hnext : d0 / 2 ^ (q + 1) = d0 / 2 ^ q / 2 := by rw [Nat.pow_succ, Nat.div_div_eq_div_mul]
          have hle : d0 / 2 ^ q ≤ 15 := Nat.le_trans (Nat.div_le_self _ _) hd15
          generalize d0 / 2 ^ q = dq at *
          obtain ⟨v, cv⟩ : ∃ v, wr.cell? ⟨w.heap.size + 1, 4 * j + q, none⟩ = some v := ⟨_, hr.outSome (4 * j + q) (by omega)⟩
          have cf : wr.frozen? ⟨w.heap.size + 1, 4 * j + q, none⟩ = false := hr.outFree (4 * j + q)
          have hnt : (4 * (j : Int) + (q : Int)).toNat = 4 * j + q := by omega
          have Hr := Lib.hid hr
          have Hbit := Lib.hid hbit
          have Hnext := Lib.hid hnext
          clear hr hbit hnext
          go_wp2_with fail
          go_roundw
          case rel =>
            refine ⟨q + 1, by omega, by go_num, ?_, ?_⟩
            · rw [Hnext.out]; go_num
            · refine (Hr.out.set (4 * j + q) ((dq : Int) % 2 == 1)).congr (fun i _ => ?_)
              by_cases h : i = 4 * j + q
              · subst h
                rw [if_pos rfl, if_pos (by omega), Hbit.out, Bool.eq_iff_iff]; simp only [beq_iff_eq]; omega
              · rw [if_neg h]; by_cases h2 : i < 4 * j + q
                · rw [if_pos h2, if_pos (by omega)]
                · rw [if_neg h2, if_neg (by omega)]
          case measure => simp [intOf]; omega
        · obtain rfl : q = 4 := by omega
          have hdq : decide (((4 : Nat) : Int) < 4) = false := by simp
          have Hr := Lib.hid hr
          clear hr
          go_wp2_with fail
          go_roundw
          case rel => exact ⟨j + 1, by omega, by go_num, Hr.out⟩
          case measure => simp [intOf]; omega
    · have hd : decide ((j : Int) < 8) = false := by simp; omega
      obtain rfl : j = 8 := by omega
      have hr' := hr.congr (g := hexBit s.data.toList n) (fun i hi => by rw [if_pos (by omega)])
      obtain ⟨hrange, hthere, hend, hbel⟩ := hr'.fin rfl
      have Hend := Lib.hid hend
      have Hbel := Lib.hid hbel
      have hlen := length_bitsC (hexBit s.data.toList n)
      have hone := all_oneCell_toArray (one_bitsC (hexBit s.data.toList n))
      generalize hLe : bitsC (hexBit s.data.toList n) = L at *
      have HL := Lib.hid hLe
      have hi := infoBitsL _ hlen
      clear hr hr' hend hbel hLe hx
      go_wp2_with (first
        | (refine wpList_load_mid rfl 57 (.tmp 5) rfl (w.heap.size + 1) 0 rfl L _ hrange Tryd.underlying57 rfl hi ?_)
        | (refine wpList_store_mid rfl 57 (.tmp 4) (.tmp 35) rfl w.heap.size 0 L.toArray rfl rfl (by simpa [hlen] using hthere) (by simpa using hi) hone ?_))
      exact bodyPost_ret (v := .agg L.toArray) (results_cell_row Tryd.results26 _ _ w.heap.size 57 L.toArray (0, 0) _ rfl Hend.out Tryd.underlying57 rfl (by simpa using hi)) rfl ⟨by rw [HL.out], Hbel.out⟩
end Go.Proofs.YtmegncaadglhmaaDoor
