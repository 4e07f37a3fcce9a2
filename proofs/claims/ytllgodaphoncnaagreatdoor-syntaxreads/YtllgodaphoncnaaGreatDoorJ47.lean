/- The reference's letters, digits, words, signs; The reference's signs; whether a token is one. -/
import Derived.Test.YtllgodaphoncnaaGreatDoorJ22
import Derived.Test.YtllgodaphoncnaaGreatDoorJ44
namespace Go.Proofs.YtllgodaphoncnaaGreatDoor
open Go.RowKit

set_option maxRecDepth 100000 in
theorem letter_any (w : World) (b : UInt8) : Calls Tryz.prog 84 #[.int .u8 (b.toNat : Int)] w fun e w' => e = .returned (.bool (letB b)) ∧ w = w' := by
  have e : letB b = (decide ((97 : Int) ≤ (b.toNat : Int)) && decide ((b.toNat : Int) ≤ 122)) := by rw [letB, ← dint, ← dint]; rfl
  rw [e]
  obtain ⟨b1, e1⟩ : ∃ x, decide ((97 : Int) ≤ (b.toNat : Int)) = x := ⟨_, rfl⟩
  obtain ⟨b2, e2⟩ : ∃ x, decide ((b.toNat : Int) ≤ 122) = x := ⟨_, rfl⟩
  rw [e1, e2]
  cases b1 <;> cases b2 <;>
  ( go_enter Tryz.func84, Tryz.ntmps84
    go_wp2
    go_ret
    exact ⟨rfl, rfl⟩)
set_option maxRecDepth 100000 in
theorem digit_any (w : World) (b : UInt8) : Calls Tryz.prog 85 #[.int .u8 (b.toNat : Int)] w fun e w' => e = .returned (.bool (digB b)) ∧ w = w' := by
  have e : digB b = (decide ((48 : Int) ≤ (b.toNat : Int)) && decide ((b.toNat : Int) ≤ 57)) := by rw [digB, ← dint, ← dint]; rfl
  rw [e]
  obtain ⟨b1, e1⟩ : ∃ x, decide ((48 : Int) ≤ (b.toNat : Int)) = x := ⟨_, rfl⟩
  obtain ⟨b2, e2⟩ : ∃ x, decide ((b.toNat : Int) ≤ 57) = x := ⟨_, rfl⟩
  rw [e1, e2]
  cases b1 <;> cases b2 <;>
  ( go_enter Tryz.func85, Tryz.ntmps85
    go_wp2
    go_ret
    exact ⟨rfl, rfl⟩)
/-- a byte that may stand there in a word -/
def okAt (i : Nat) (c : UInt8) : Bool := if i = 0 then letB c else innB c
set_option maxRecDepth 100000 in
theorem word_bad {l : List UInt8} {i : Nat} {c : UInt8} (h : l[i]? = some c) (hb : okAt i c = false) : wordB l = false := by
  cases l with
  | nil => simp at h
  | cons a r =>
    have e : wordB (a :: r) = (decide ((a :: r).length ≤ 64) && (letB a && decide (runN innB (a :: r) = (a :: r).length))) := rfl
    rw [e]
    cases i with
    | zero =>
      obtain rfl : a = c := by simpa using h
      have : letB a = false := by simpa [okAt] using hb
      rw [this]; simp
    | succ i =>
      have h2 : innB c = false := by simpa [okAt] using hb
      have : ¬ runN innB (a :: r) = (a :: r).length := fun hh => by
        have := (runN_eq innB _).1 hh
        have := List.all_eq_true.1 this c (List.mem_of_getElem? h)
        rw [h2] at this; cases this
      rw [decide_eq_false this]; simp
set_option maxRecDepth 100000 in
theorem word_good {l : List UInt8} (h : ∀ i c, l[i]? = some c → okAt i c = true) : wordB l = (decide (0 < l.length) && decide (l.length ≤ 64)) := by
  cases l with
  | nil => rfl
  | cons a r =>
    have e : wordB (a :: r) = (decide ((a :: r).length ≤ 64) && (letB a && decide (runN innB (a :: r) = (a :: r).length))) := rfl
    rw [e]
    have h1 : letB a = true := by have := h 0 a rfl; simpa [okAt] using this
    have h2 : runN innB (a :: r) = (a :: r).length := (runN_eq innB _).2 (List.all_eq_true.2 fun c hc => by
      obtain ⟨i, hi⟩ := List.getElem?_of_mem hc
      have := h i c hi
      unfold okAt at this
      split at this
      · simp [innB, this]
      · exact this)
    rw [h1, decide_eq_true h2]
    simp
set_option maxRecDepth 100000 in
set_option maxHeartbeats 4000000 in
theorem lword_any (w : World) (l : List UInt8) (hl : l.length ≤ 1000000) : Calls Tryz.prog 58 #[.string (st l)] w fun e w' => e = .returned (.bool (wordB l)) ∧ w = w' := by
  have hsz := size_st l
  have hix : ∀ (w : World) (k : Nat) (c : UInt8), l[k]? = some c → (Instr.index 9 (.string (st l)) (.int .i64 (k : Int))).run Tryz.prog w = .ok (.int .u8 (c.toNat : Int)) w := fun w k c h => run_index_st w l k c h
  have HI := Lib.hid hix
  have HBad : Hid (∀ (i : Nat) (c : UInt8), l[i]? = some c → okAt i c = false → wordB l = false) := Lib.hid fun i c => word_bad
  have HGood : Hid ((∀ (i : Nat) (c : UInt8), l[i]? = some c → okAt i c = true) → wordB l = (decide (0 < l.length) && decide (l.length ≤ 64))) := Lib.hid word_good
  obtain ⟨X, hX⟩ : ∃ X, wordB l = X := ⟨_, rfl⟩
  rw [hX] at HBad HGood ⊢
  obtain ⟨s, hs⟩ : ∃ s, st l = s := ⟨_, rfl⟩
  rw [hs] at hsz HI ⊢
  clear hix hX hs
  go_enter Tryz.func58, Tryz.ntmps58
  go_wp2_with fail
  go_loopw [3] (fun i wr => ∃ k : Nat, k ≤ l.length ∧ i = .int .i64 (k : Int) ∧ Hid (∀ j c, j < k → l[j]? = some c → okAt j c = true) ∧ w = wr) (fun i _ => l.length - (intOf i).toNat)
  case atStart => exact ⟨0, by omega, rfl, Lib.hid fun j c h => by omega, rfl⟩
  case round =>
    obtain ⟨k, hk, rfl, HOk, rfl⟩ := hrel
    by_cases hlt : k < l.length
    · have hd : decide ((k : Int) < (l.length : Int)) = true := by simp; omega
      have hget : l[k]? = some l[k] := List.getElem?_eq_getElem hlt
      have hix := HI.out w k _ hget
      have HG : Hid (l[k]? = some l[k]) := Lib.hid hget
      clear hget
      generalize l[k] = c at *
      have HL := Lib.hid (letter_any w c)
      have HD := Lib.hid (digit_any w c)
      have d95 := deqi c.toNat 95
      have HEq : Hid (okAt k c = if k = 0 then letB c else (letB c || (digB c || decide (c.toNat = 95)))) := Lib.hid rfl
      obtain ⟨b1, hb1⟩ : ∃ b, letB c = b := ⟨_, rfl⟩
      obtain ⟨b2, hb2⟩ : ∃ b, digB c = b := ⟨_, rfl⟩
      obtain ⟨b3, hb3⟩ : ∃ b, decide (c.toNat = 95) = b := ⟨_, rfl⟩
      rw [hb1] at HL HEq
      rw [hb2] at HD HEq
      rw [hb3] at d95 HEq
      have d95 : ((c.toNat : Int) == 95) = b3 := d95
      have hstep : okAt k c = true → Hid (∀ j x, j < k + 1 → l[j]? = some x → okAt j x = true) := fun h => Lib.hid fun j x hj hx => by
        rcases Nat.lt_or_ge j k with h2 | h2
        · exact HOk.out j x h2 hx
        · obtain rfl : j = k := by omega
          rw [HG.out] at hx
          obtain rfl := Option.some.inj hx
          exact h
      have HStep := Lib.hid hstep
      have HBd : Hid (okAt k c = false → X = false) := Lib.hid fun h => HBad.out _ _ HG.out h
      clear hb1 hb2 hb3 hstep
      go_wp2_with fail
      refine HL.out.mono ?_
      rintro e w' ⟨rfl, rfl⟩
      cases b1 with
      | true =>
        have hok : okAt k c = true := by rw [HEq.out]; simp
        have hs := HStep.out hok
        clear hok
        go_wp2_with fail
        go_roundw
        case rel => exact ⟨k + 1, by omega, by go_num, hs, by first | rfl | trivial⟩
        case measure => simp [intOf]; omega
      | false =>
        by_cases hk0 : k = 0
        · have hbad : okAt k c = false := by rw [HEq.out, if_pos hk0]
          have hX := HBd.out hbad
          subst hX
          subst hk0
          clear hbad
          go_wp2_with fail
          go_ret
          exact ⟨rfl, by first | rfl | trivial⟩
        · have hk0' : ((k : Int) == 0) = false := by rw [beq_eq_false_iff_ne]; omega
          have hEq := HEq.out
          rw [if_neg hk0] at hEq
          have HEq2 := Lib.hid hEq
          clear hEq hk0
          go_wp2_with fail
          refine HD.out.mono ?_
          rintro e w' ⟨rfl, rfl⟩
          cases b2 with
          | true =>
            have hok : okAt k c = true := by rw [HEq2.out]; rfl
            have hs := HStep.out hok
            clear hok
            go_wp2_with fail
            go_roundw
            case rel => exact ⟨k + 1, by omega, by go_num, hs, by first | rfl | trivial⟩
            case measure => simp [intOf]; omega
          | false =>
            cases b3 with
            | true =>
              have hok : okAt k c = true := by rw [HEq2.out]; rfl
              have hs := HStep.out hok
              clear hok
              go_wp2_with fail
              go_roundw
              case rel => exact ⟨k + 1, by omega, by go_num, hs, by first | rfl | trivial⟩
              case measure => simp [intOf]; omega
            | false =>
              have hbad : okAt k c = false := by rw [HEq2.out]; rfl
              have hX := HBd.out hbad
              subst hX
              clear hbad
              go_wp2_with fail
              go_ret
              exact ⟨rfl, by first | rfl | trivial⟩
    · have hd : decide ((k : Int) < (l.length : Int)) = false := by simp; omega
      obtain rfl : k = l.length := by omega
      have hX := HGood.out fun i c hi => HOk.out i c (List.getElem?_eq_some_iff.1 hi).1 hi
      clear HGood HBad
      by_cases h0 : 0 < l.length
      · rw [decide_eq_true h0] at hX
        have d0 : decide ((0 : Int) < (l.length : Int)) = true := decide_eq_true (by omega)
        have d0' : decide (0 < l.length) = true := decide_eq_true h0
        by_cases h64 : l.length ≤ 64
        · rw [decide_eq_true h64] at hX
          have d64 : decide ((l.length : Int) ≤ 64) = true := by simp; omega
          subst hX
          clear h64
          go_wp2_with fail
          go_ret
          exact ⟨rfl, by first | rfl | trivial⟩
        · rw [decide_eq_false h64] at hX
          have d64 : decide ((l.length : Int) ≤ 64) = false := by simp; omega
          subst hX
          clear h64
          go_wp2_with fail
          go_ret
          exact ⟨rfl, by first | rfl | trivial⟩
      · rw [decide_eq_false h0] at hX
        have d0 : decide ((0 : Int) < (l.length : Int)) = false := decide_eq_false (by omega)
        have d0' : decide (0 < l.length) = false := decide_eq_false h0
        have hX2 : X = false := hX
        subst hX2
        clear hX
        go_wp2_with fail
        go_ret
        exact ⟨rfl, by first | rfl | trivial⟩
end Go.Proofs.YtllgodaphoncnaaGreatDoor
namespace Go.Proofs.YtllgodaphoncnaaGreatDoor
open Go.RowKit

def signsR : List (List UInt8) := [[123], [125], [40], [41], [91], [93], [59], [46], [44], [43], [45], [42], [60], [62], [61, 61], [33, 61], [60, 61], [62, 61]]
set_option maxRecDepth 100000 in
theorem signB_mem (l : List UInt8) : signB l = true ↔ l ∈ signsR := by
  constructor
  · intro h
    unfold signB at h
    simp only [Bool.and_eq_true, decide_eq_true_eq] at h
    obtain ⟨h1, h2⟩ := h
    rcases fsign_mem l with h3 | ⟨h3, _⟩
    · rw [h3] at h2; subst h2; cases h1
    · rw [h2] at h3
      have key : ∀ x ∈ signsL, x ∈ signsR := by decide
      exact key l h3
  · intro h
    have key : ∀ x ∈ signsR, signB x = true := by decide
    exact key l h
set_option maxRecDepth 100000 in
theorem signs_any (w : World) : Calls Tryz.prog 86 #[] w fun e w' => e = .returned (.slice (some ⟨w.heap.size, 0, none⟩) 18 18) ∧ w'.heap[w.heap.size]? = some (.cells (signsR.map fun l => Value.string (st l)).toArray 9 (0, 0)) ∧ Below w.heap.size w w' := by
  go_enter Tryz.func86, Tryz.ntmps86
  go_wp2
  go_ret
  exact ⟨rfl, heap_alloc_new _ _, (Below.refl _ _).alloc (Nat.le_refl _) _⟩
set_option maxRecDepth 100000 in
set_option maxHeartbeats 1000000 in
theorem sign_any (w : World) (l : List UInt8) : Calls Tryz.prog 59 #[.string (st l)] w fun e w' => e = .returned (.bool (signB l)) ∧ Below w.heap.size w w' := by
  have HS := Lib.hid (signs_any w)
  have htl := toList_st l
  have HM := Lib.hid (signB_mem l)
  obtain ⟨X, hX⟩ : ∃ X, signB l = X := ⟨_, rfl⟩
  rw [hX] at HM ⊢
  obtain ⟨s, hs⟩ : ∃ s, st l = s := ⟨_, rfl⟩
  rw [hs] at htl ⊢
  clear hX hs
  go_enter Tryz.func59, Tryz.ntmps59
  go_wp2_with fail
  refine HS.out.mono ?_
  rintro e w1 ⟨rfl, hg, hb⟩
  have HG := Lib.hid hg
  have HB := Lib.hid hb
  clear hg hb HS
  go_wp2_with fail
  go_loopw [4] (fun i wr => ∃ k : Nat, k ≤ 18 ∧ i = .int .i64 (k : Int) ∧ Hid (∀ j x, j < k → signsR[j]? = some x → x ≠ l) ∧ w1 = wr) (fun i _ => 18 - (intOf i).toNat)
  case atStart => exact ⟨0, by omega, rfl, Lib.hid fun j c h => by omega, rfl⟩
  case round =>
    obtain ⟨k, hk, rfl, HNo, rfl⟩ := hrel
    by_cases hlt : k < 18
    · have hd : decide ((k : Int) < 18) = true := by simp; omega
      have hdn : decide (k < 18) = true := by simpa using hlt
      obtain ⟨x, hx⟩ : ∃ x, signsR[k]? = some x := ⟨_, List.getElem?_eq_getElem (show k < signsR.length from hlt)⟩
      have hc : w1.cell? ⟨w.heap.size, k, none⟩ = some (.string (st x)) := by
        rw [cell_block HG.out, List.getElem?_toArray, List.getElem?_map, hx]; rfl
      have htx := toList_st x
      have HX := Lib.hid hx
      have HNo2 : Hid (x ≠ l → ∀ j y, j < k + 1 → signsR[j]? = some y → y ≠ l) := Lib.hid fun h j y hj hy => by
        rcases Nat.lt_or_ge j k with h2 | h2
        · exact HNo.out j y h2 hy
        · obtain rfl : j = k := by omega
          rw [hx] at hy
          obtain rfl := Option.some.inj hy
          exact h
      obtain ⟨sx, hsx⟩ : ∃ sx, st x = sx := ⟨_, rfl⟩
      rw [hsx] at hc htx
      clear hx hsx
      by_cases hxl : x = l
      · have hXt : X = true := HM.out.2 (by rw [← hxl]; exact List.mem_of_getElem? HX.out)
        subst hXt
        subst hxl
        go_wp2_with fail
        go_ret
        exact ⟨rfl, HB.out⟩
      · have hne : (x == l) = false := by simpa using hxl
        have hn2 := HNo2.out hxl
        have HN2 := Lib.hid hn2
        clear hn2 hxl
        go_wp2_with fail
        go_roundw
        case rel => exact ⟨k + 1, by omega, by go_num, HN2, by first | rfl | trivial⟩
        case measure => simp [intOf]; omega
    · have hd : decide ((k : Int) < 18) = false := by simp; omega
      have hdn : decide (k < 18) = false := by simpa using hlt
      obtain rfl : k = 18 := by omega
      have hXf : X = false := by
        cases X with
        | false => rfl
        | true =>
          have hm := HM.out.1 rfl
          obtain ⟨j, hj⟩ := List.getElem?_of_mem hm
          exact absurd rfl (HNo.out j l (List.getElem?_eq_some_iff.1 hj).1 hj)
      subst hXf
      go_wp2_with fail
      go_ret
      exact ⟨rfl, HB.out⟩
set_option maxRecDepth 100000 in
theorem plain_bad {l : List UInt8} {i : Nat} {c : UInt8} (h : l[i]? = some c) (hb : plaB c = false) : textB l = false := by
  unfold textB
  have : ¬ runN plaB l = l.length := fun hh => by
    have := List.all_eq_true.1 ((runN_eq plaB _).1 hh) c (List.mem_of_getElem? h)
    rw [hb] at this; cases this
  rw [decide_eq_false this]; simp
set_option maxRecDepth 100000 in
theorem plain_good {l : List UInt8} (h : ∀ (i : Nat) (c : UInt8), l[i]? = some c → plaB c = true) : textB l = decide (l.length ≤ 64) := by
  unfold textB
  have : runN plaB l = l.length := (runN_eq plaB _).2 (List.all_eq_true.2 fun c hc => by
    obtain ⟨i, hi⟩ := List.getElem?_of_mem hc
    exact h i c hi)
  rw [decide_eq_true this]; simp
set_option maxRecDepth 100000 in
set_option maxHeartbeats 4000000 in
theorem lrefFormed_any (w : World) (t : Tk) (ht : t.Ok) : Calls Tryz.prog 34 #[t.val] w fun e w' => e = .returned (.bool (formB t)) ∧ Below w.heap.size w w' := by
  obtain ⟨k, l, n⟩ := t
  have hb : ∀ o, Below w.heap.size w (w.alloc o) := fun o => (Below.refl _ _).alloc (Nat.le_refl _) _
  have hls := ht.s
  have HW := Lib.hid (fun o => lword_any (w.alloc o) l hls)
  have HS := Lib.hid (fun o => sign_any (w.alloc o) l)
  have HB := Lib.hid hb
  have htl := toList_st l
  have hsz := size_st l
  have hix : ∀ (w : World) (k : Nat) (c : UInt8), l[k]? = some c → (Instr.index 9 (.string (st l)) (.int .i64 (k : Int))).run Tryz.prog w = .ok (.int .u8 (c.toNat : Int)) w := fun w k c h => run_index_st w l k c h
  have HI := Lib.hid hix
  have HBad : Hid (∀ (i : Nat) (c : UInt8), l[i]? = some c → plaB c = false → textB l = false) := Lib.hid fun i c => plain_bad
  have HGood : Hid ((∀ (i : Nat) (c : UInt8), l[i]? = some c → plaB c = true) → textB l = decide (l.length ≤ 64)) := Lib.hid plain_good
  obtain ⟨_, _, _, _, _⟩ := ht
  clear hb hix
  unfold Tk.val Tk.cells formB
  dsimp only at *
  obtain ⟨s, hs⟩ : ∃ s, st l = s := ⟨_, rfl⟩
  rw [hs] at HW HS htl hsz HI ⊢
  have dn : ((n == 0)) = decide (n = 0) := by
    by_cases h : n = 0
    · subst h; rfl
    · rw [decide_eq_false h]; simpa using h
  have dl : (l == []) = l.isEmpty := by cases l <;> rfl
  obtain ⟨bn, hbn⟩ : ∃ b, decide (n = 0) = b := ⟨_, rfl⟩
  obtain ⟨bw, hbw⟩ : ∃ b, wordB l = b := ⟨_, rfl⟩
  obtain ⟨X, hbt⟩ : ∃ b, textB l = b := ⟨_, rfl⟩
  obtain ⟨bs, hbs⟩ : ∃ b, signB l = b := ⟨_, rfl⟩
  obtain ⟨bl, hbl⟩ : ∃ b, l.isEmpty = b := ⟨_, rfl⟩
  obtain ⟨b0, hb0⟩ : ∃ b, decide (0 ≤ n) = b := ⟨_, rfl⟩
  obtain ⟨bm, hbm⟩ : ∃ b, decide (n ≤ 1099511627776) = b := ⟨_, rfl⟩
  rw [hbw] at HW
  rw [hbs] at HS
  rw [hbt] at HBad HGood
  rw [hbn] at dn
  rw [hbl] at dl
  rw [hbn, hbw, hbt, hbs, hbl, hb0, hbm]
  clear hbw hbs hs hbn hbl hbt
  by_cases h1 : k = 1
  · subst h1
    rw [if_pos rfl]
    clear hb0 hbm
    go_enter Tryz.func34, Tryz.ntmps34
    go_wp2_with fail
    refine (HW.out _).mono ?_
    rintro e w' ⟨rfl, rfl⟩
    cases bw <;> cases bn <;>
    ( go_wp2_with fail
      go_ret
      exact ⟨by simp, HB.out _⟩)
  · have k1 : (k == 1) = false := by simpa using h1
    rw [if_neg h1]
    by_cases h2 : k = 2
    · subst h2
      rw [if_pos rfl]
      go_enter Tryz.func34, Tryz.ntmps34
      cases bl <;> cases b0 <;>
      ( go_wp2_with fail
        go_ret
        exact ⟨by simp, HB.out _⟩)
    · have k2 : (k == 2) = false := by simpa using h2
      rw [if_neg h2]
      by_cases h3 : k = 3
      · subst h3
        rw [if_pos rfl]
        clear hb0 hbm
        go_enter Tryz.func34, Tryz.ntmps34
        go_wp2_with fail
        generalize hW : World.alloc _ _ = W0 at *
        have hg0 : W0.heap[w.heap.size]? = some (.cells [.int .i64 3, .string s, .int .i64 n].toArray 41 (0, 0)) := by rw [← hW]; exact heap_alloc_new _ _
        have HB0 : Hid (Below w.heap.size w W0) := Lib.hid (by rw [← hW]; exact HB.out _)
        have c1 : W0.cell? ⟨w.heap.size, 1, none⟩ = some (.string s) := by rw [cell_block hg0]; rfl
        have c2 : W0.cell? ⟨w.heap.size, 2, none⟩ = some (.int .i64 n) := by rw [cell_block hg0]; rfl
        clear hW hg0 HW HS HB
        go_loopw [3] (fun i wr => ∃ k : Nat, k ≤ l.length ∧ i = .int .i64 (k : Int) ∧ Hid (∀ j c, j < k → l[j]? = some c → plaB c = true) ∧ W0 = wr) (fun i _ => l.length - (intOf i).toNat)
        case atStart => exact ⟨0, by omega, rfl, Lib.hid fun j c h => by omega, rfl⟩
        case round =>
          obtain ⟨k, hk, rfl, HOk, rfl⟩ := hrel
          by_cases hlt : k < l.length
          · have hd : decide ((k : Int) < (l.length : Int)) = true := by simp; omega
            have hget : l[k]? = some l[k] := List.getElem?_eq_getElem hlt
            have hix := HI.out W0 k _ hget
            have HG : Hid (l[k]? = some l[k]) := Lib.hid hget
            clear hget
            generalize l[k] = c at *
            by_cases hlo : c.toNat < 32
            · have dlo : decide ((c.toNat : Int) < 32) = true := decide_eq_true (by omega)
              have hX := HBad.out k c HG.out (by unfold plaB; rw [decide_eq_false (by omega)]; rfl)
              subst hX
              go_wp2_with fail
              go_ret
              exact ⟨by simp, HB0.out⟩
            · have dlo : decide ((c.toNat : Int) < 32) = false := decide_eq_false (by omega)
              by_cases hhi : 126 < c.toNat
              · have dhi : decide ((126 : Int) < (c.toNat : Int)) = true := decide_eq_true (by omega)
                have hX := HBad.out k c HG.out (by unfold plaB; rw [decide_eq_false (show ¬ c.toNat ≤ 126 by omega)]; simp)
                subst hX
                go_wp2_with fail
                go_ret
                exact ⟨by simp, HB0.out⟩
              · have dhi : decide ((126 : Int) < (c.toNat : Int)) = false := decide_eq_false (by omega)
                have HOk2 : Hid (∀ j x, j < k + 1 → l[j]? = some x → plaB x = true) := Lib.hid fun j x hj hx => by
                  rcases Nat.lt_or_ge j k with h2 | h2
                  · exact HOk.out j x h2 hx
                  · obtain rfl : j = k := by omega
                    rw [HG.out] at hx
                    obtain rfl := Option.some.inj hx
                    unfold plaB
                    rw [decide_eq_true (show 32 ≤ c.toNat by omega), decide_eq_true (show c.toNat ≤ 126 by omega)]; rfl
                go_wp2_with fail
                go_roundw
                case rel => exact ⟨k + 1, by omega, by go_num, HOk2, by first | rfl | trivial⟩
                case measure => simp [intOf]; omega
          · have hd : decide ((k : Int) < (l.length : Int)) = false := by simp; omega
            obtain rfl : k = l.length := by omega
            have hX := HGood.out fun i c hi => HOk.out i c (List.getElem?_eq_some_iff.1 hi).1 hi
            clear HGood HBad
            by_cases h64 : l.length ≤ 64
            · rw [decide_eq_true h64] at hX
              have d64 : decide ((l.length : Int) ≤ 64) = true := decide_eq_true (by omega)
              subst hX
              cases bn <;>
              ( go_wp2_with fail
                go_ret
                exact ⟨by simp, HB0.out⟩)
            · rw [decide_eq_false h64] at hX
              have d64 : decide ((l.length : Int) ≤ 64) = false := decide_eq_false (by omega)
              subst hX
              go_wp2_with fail
              go_ret
              exact ⟨by simp, HB0.out⟩
      · have k3 : (k == 3) = false := by simpa using h3
        rw [if_neg h3]
        by_cases h4 : k = 4
        · subst h4
          rw [if_pos rfl]
          go_enter Tryz.func34, Tryz.ntmps34
          cases bl <;> cases b0 <;> cases bm <;>
          ( go_wp2_with fail
            go_ret
            exact ⟨by simp, HB.out _⟩)
        · have k4 : (k == 4) = false := by simpa using h4
          rw [if_neg h4]
          by_cases h5 : k = 5
          · subst h5
            rw [if_pos rfl]
            clear hb0 hbm
            go_enter Tryz.func34, Tryz.ntmps34
            go_wp2_with fail
            generalize hW : World.alloc _ _ = W0 at *
            have hg0 : W0.heap[w.heap.size]? = some (.cells [.int .i64 5, .string s, .int .i64 n].toArray 41 (0, 0)) := by rw [← hW]; exact heap_alloc_new _ _
            have HB0 : Hid (Below w.heap.size w W0) := Lib.hid (by rw [← hW]; exact HB.out _)
            have HSg : Hid (Calls Tryz.prog 59 #[.string s] W0 fun e w' => e = .returned (.bool bs) ∧ Below W0.heap.size W0 w') := Lib.hid (by rw [← hW]; exact HS.out _)
            have HG0 := Lib.hid hg0
            clear hW hg0 HW HS HB
            refine HSg.out.mono ?_
            rintro e w2 ⟨rfl, hb2⟩
            have c2 : w2.cell? ⟨w.heap.size, 2, none⟩ = some (.int .i64 n) := by rw [cell_block ((hb2.block _ (lt_block HG0.out)).trans HG0.out)]; rfl
            have HB2 := Lib.hid (HB0.out.trans (hb2.mono HB0.out.size))
            clear hb2 HSg
            cases bs <;> cases bn <;>
            ( go_wp2_with fail
              go_ret
              exact ⟨by simp, HB2.out⟩)
          · have k5 : (k == 5) = false := by simpa using h5
            rw [if_neg h5]
            clear hb0 hbm
            go_enter Tryz.func34, Tryz.ntmps34
            go_wp2_with fail
            go_ret
            exact ⟨rfl, HB.out _⟩
end Go.Proofs.YtllgodaphoncnaaGreatDoor
