/- Which sign a text begins with; words, texts, signs; Whether a token is formed. -/
import Derived.Test.YtllgodaphoncnaaGreatDoorJ21
namespace Go.Proofs.YtllgodaphoncnaaGreatDoor
open Go.RowKit

set_option maxRecDepth 100000 in
theorem find_step (p : List UInt8 → Bool) (k : Nat) (x : List UInt8) (h : signsL[k]? = some x) : (signsL.drop k).find? p = if p x then some x else (signsL.drop (k + 1)).find? p := by
  obtain ⟨hk, e⟩ := List.getElem?_eq_some_iff.1 h
  rw [List.drop_eq_getElem_cons hk, e, List.find?_cons]
  cases p x <;> rfl
set_option maxRecDepth 100000 in
theorem run_index_sign (w : World) (k : Nat) (x : List UInt8) (h : signsL[k]? = some x) : (Instr.index 159 (.agg (signsL.map fun l => Value.string (st l)).toArray) (.int .i64 (k : Int))).run Tryz.prog w = .ok (.string (st x)) w := by
  obtain ⟨hk, e⟩ := List.getElem?_eq_some_iff.1 h
  have hk' : k < 18 := hk
  subst e
  have s1 : ∀ w, (sizeOf 9).run Tryz.prog w = .ok 1 w := fun _ => by kernel_rfl
  have hA : (signsL.map fun l => Value.string (st l)).toArray[k]? = some (.string (st (signsL[k]'hk))) := by
    rw [List.getElem?_toArray, List.getElem?_map, List.getElem?_eq_getElem hk]; rfl
  generalize (signsL.map fun l => Value.string (st l)).toArray = A at *
  generalize signsL[k] = x at *
  have hi : (0 : Int) ≤ k ∧ (k : Int) < 18 := by omega
  simp [Instr.index, asIntOf, run_underlying Tryz.underlying159, run_underlying Tryz.underlying9, part, isAgg, s1, hi, hA]
  intro h18
  omega
set_option maxRecDepth 100000 in
set_option maxHeartbeats 1000000 in
theorem firstSign_any (w : World) (hw : LexW w) (l : List UInt8) :
    Calls Tryz.prog 113 #[.string (st l)] w fun e w' => e = .returned (.string (st (fsign l))) ∧ w = w' := by
  have HS := Lib.hid hw.sig
  have hidx : ∀ (w : World) (k : Nat) (x : List UInt8), signsL[k]? = some x → _ := fun w k x h => run_index_sign w k x h
  have HI := Lib.hid hidx
  have HP := Lib.hid (fun (w : World) (p : List UInt8) => hasPrefix_any w l p)
  have i18 : (Tryz.prog.info? 159).map (·.size) = some 18 := by kernel_rfl
  obtain ⟨X, hX⟩ : ∃ X, (signsL.map fun l => Value.string (st l)) = X := ⟨_, rfl⟩
  have hX18 : X.length = 18 := by rw [← hX]; rfl
  rw [hX] at HS HI
  have HF : Hid (∀ r, (signsL.drop 0).find? (·.isPrefixOf l) = r → fsign l = r.getD []) := Lib.hid fun r h => by rw [← h]; rfl
  obtain ⟨s, hs⟩ : ∃ s, st l = s := ⟨_, rfl⟩
  rw [hs] at HP ⊢
  clear hidx hX hs hw
  go_enter Tryz.func113, Tryz.ntmps113
  go_wp2_with (refine wpList_load_mid rfl 159 (.global 0) rfl 0 0 rfl X _ HS.out Tryz.underlying159 rfl (by rw [hX18]; exact i18) ?_)
  obtain ⟨A, hA⟩ : ∃ A, X.toArray = A := ⟨_, rfl⟩
  rw [hA] at HI ⊢
  clear HS hX18 hA
  go_loopw [4, 6] (fun _ i wr => ∃ k : Nat, k ≤ 18 ∧ i = .int .i64 (k : Int) ∧ Hid ((signsL.drop 0).find? (·.isPrefixOf l) = (signsL.drop k).find? (·.isPrefixOf l)) ∧ w = wr) (fun _ i _ => 18 - (intOf i).toNat)
  case atStart => exact ⟨0, by omega, rfl, Lib.hid rfl, rfl⟩
  case round =>
    obtain ⟨k, hk, rfl, HK, rfl⟩ := hrel
    by_cases hlt : k < 18
    · have hd : decide ((k : Int) < 18) = true := by simp; omega
      obtain ⟨x, hx⟩ : ∃ x, signsL[k]? = some x := ⟨_, List.getElem?_eq_getElem (show k < signsL.length from hlt)⟩
      have hix := HI.out w k x hx
      have HSt := Lib.hid (find_step (·.isPrefixOf l) k x hx)
      have HC := Lib.hid (HP.out w x)
      clear hx
      obtain ⟨b, hb⟩ : ∃ b, x.isPrefixOf l = b := ⟨_, rfl⟩
      rw [hb] at HC
      have HB := Lib.hid hb
      clear hb
      obtain ⟨sx, hsx⟩ : ∃ sx, st x = sx := ⟨_, rfl⟩
      rw [hsx] at HC hix
      have HSx := Lib.hid hsx
      clear hsx
      go_wp2_with fail
      refine HC.out.mono ?_
      rintro e w' ⟨rfl, rfl⟩
      cases b with
      | true =>
        go_wp2_with fail
        go_ret
        refine ⟨?_, by first | rfl | trivial⟩
        have := HF.out _ HK.out
        rw [HSt.out, HB.out] at this
        rw [this, ← HSx.out]
        rfl
      | false =>
        go_wp2_with fail
        go_roundw
        case rel => exact ⟨k + 1, by omega, by go_num, Lib.hid (by rw [HK.out, HSt.out, HB.out]; rfl), by first | rfl | trivial⟩
        case measure => simp [intOf]; omega
    · have hd : decide ((k : Int) < 18) = false := by simp; omega
      obtain rfl : k = 18 := by omega
      go_wp2_with fail
      go_ret
      refine ⟨?_, by first | rfl | trivial⟩
      have := HF.out _ HK.out
      rw [this]
      rfl
end Go.Proofs.YtllgodaphoncnaaGreatDoor
namespace Go.Proofs.YtllgodaphoncnaaGreatDoor
open Go.RowKit

set_option maxRecDepth 100000 in
theorem enter_fn (f : FuncId) (h : ∀ args w, (callFunc f args).run Tryz.prog w = .ok (.enter f args) w) : ∀ args w, (callFunc f args).run Tryz.prog w = .ok (.enter f args) w := h
set_option maxRecDepth 100000 in
theorem toList_st (l : List UInt8) : (st l).toList = l := by rw [ByteArray.toList_eq]; rfl
set_option maxRecDepth 100000 in
theorem runW_any (w : World) (l : List UInt8) (hl : l.length ≤ 1000000) : Calls Tryz.prog 108 #[.string (st l), .func (.func 109) #[] #[]] w fun e w' => e = .returned (.int .i64 (runN innB l : Int)) ∧ w = w' :=
  run_any w l 109 innB isInner_any (fun _ _ => by kernel_rfl) hl
set_option maxRecDepth 100000 in
theorem runP_any (w : World) (l : List UInt8) (hl : l.length ≤ 1000000) : Calls Tryz.prog 108 #[.string (st l), .func (.func 114) #[] #[]] w fun e w' => e = .returned (.int .i64 (runN plaB l : Int)) ∧ w = w' :=
  run_any w l 114 plaB isPlain_any (fun _ _ => by kernel_rfl) hl
set_option maxRecDepth 100000 in
theorem runD_any (w : World) (l : List UInt8) (hl : l.length ≤ 1000000) : Calls Tryz.prog 108 #[.string (st l), .func (.func 74) #[] #[]] w fun e w' => e = .returned (.int .i64 (runN digB l : Int)) ∧ w = w' :=
  run_any w l 74 digB isDigit_any (fun _ _ => by kernel_rfl) hl
set_option maxRecDepth 100000 in
set_option maxHeartbeats 1000000 in
theorem isWord_any (w : World) (l : List UInt8) (hl : l.length ≤ 1000000) : Calls Tryz.prog 79 #[.string (st l)] w fun e w' => e = .returned (.bool (wordB l)) ∧ w = w' := by
  have HR := Lib.hid (runW_any w l hl)
  have hsz := size_st l
  have htl := toList_st l
  cases l with
  | nil =>
    clear HR
    have hs0 : (st []).size = 0 := rfl
    clear hsz
    go_enter Tryz.func79, Tryz.ntmps79
    go_wp2
    go_ret
    exact ⟨rfl, rfl⟩
  | cons c r =>
    have hix := run_index_st w (c :: r) 0 c rfl
    have hix : (Instr.index 9 (.string (st (c :: r))) (.int .i64 0)).run Tryz.prog w = .ok (.int .u8 (c.toNat : Int)) w := hix
    have HL := Lib.hid (isLetter_any w c)
    have e : wordB (c :: r) = (decide ((c :: r).length ≤ 64) && (letB c && decide (runN innB (c :: r) = (c :: r).length))) := rfl
    rw [e]
    clear e
    obtain ⟨l, hll⟩ : ∃ l, c :: r = l := ⟨_, rfl⟩
    have hne : (l == []) = false := by rw [← hll]; rfl
    rw [hll] at HR hsz htl hix hl ⊢
    clear hll
    obtain ⟨s, hs⟩ : ∃ s, st l = s := ⟨_, rfl⟩
    rw [hs] at HR hsz htl hix ⊢
    clear hs
    obtain ⟨b, hb⟩ : ∃ b, letB c = b := ⟨_, rfl⟩
    rw [hb] at HL ⊢
    clear hb
    obtain ⟨R, hR⟩ : ∃ R, runN innB l = R := ⟨_, rfl⟩
    rw [hR] at HR ⊢
    clear hR
    have d1 := dint l.length 64
    have d2 := deqi R l.length
    obtain ⟨b1, hb1⟩ : ∃ b, decide (l.length ≤ 64) = b := ⟨_, rfl⟩
    obtain ⟨b2, hb2⟩ : ∃ b, decide (R = l.length) = b := ⟨_, rfl⟩
    rw [hb1] at d1 ⊢
    rw [hb2] at d2 ⊢
    have d1 : decide ((l.length : Int) ≤ 64) = b1 := d1
    clear hb1 hb2
    go_enter Tryz.func79, Tryz.ntmps79
    cases b1 with
    | true =>
      go_wp2_with fail
      refine HL.out.mono ?_
      rintro e w' ⟨rfl, rfl⟩
      cases b with
      | false =>
        go_wp2_with fail
        go_ret
        exact ⟨rfl, rfl⟩
      | true =>
        go_wp2_with fail
        refine HR.out.mono ?_
        rintro e w' ⟨rfl, rfl⟩
        go_wp2_with fail
        go_ret
        exact ⟨rfl, rfl⟩
    | false =>
      go_wp2_with fail
      go_ret
      exact ⟨rfl, rfl⟩
set_option maxRecDepth 100000 in
set_option maxHeartbeats 1000000 in
theorem isText_any (w : World) (l : List UInt8) (hl : l.length ≤ 1000000) : Calls Tryz.prog 80 #[.string (st l)] w fun e w' => e = .returned (.bool (textB l)) ∧ w = w' := by
  have HR := Lib.hid (runP_any w l hl)
  have hsz := size_st l
  unfold textB
  obtain ⟨s, hs⟩ : ∃ s, st l = s := ⟨_, rfl⟩
  rw [hs] at HR hsz ⊢
  clear hs
  obtain ⟨R, hR⟩ : ∃ R, runN plaB l = R := ⟨_, rfl⟩
  rw [hR] at HR ⊢
  clear hR
  have d1 := dint l.length 64
  have d2 := deqi R l.length
  obtain ⟨b1, hb1⟩ : ∃ b, decide (l.length ≤ 64) = b := ⟨_, rfl⟩
  obtain ⟨b2, hb2⟩ : ∃ b, decide (R = l.length) = b := ⟨_, rfl⟩
  rw [hb1] at d1 ⊢
  rw [hb2] at d2 ⊢
  have d1 : decide ((l.length : Int) ≤ 64) = b1 := d1
  clear hb1 hb2
  go_enter Tryz.func80, Tryz.ntmps80
  cases b1 with
  | true =>
    go_wp2_with fail
    refine HR.out.mono ?_
    rintro e w' ⟨rfl, rfl⟩
    go_wp2_with fail
    go_ret
    exact ⟨rfl, rfl⟩
  | false =>
    go_wp2_with fail
    go_ret
    exact ⟨rfl, rfl⟩
set_option maxRecDepth 100000 in
set_option maxHeartbeats 1000000 in
theorem isSign_any (w : World) (hw : LexW w) (l : List UInt8) : Calls Tryz.prog 81 #[.string (st l)] w fun e w' => e = .returned (.bool (signB l)) ∧ w = w' := by
  have HF := Lib.hid (firstSign_any w hw l)
  have htl := toList_st l
  have htf := toList_st (fsign l)
  clear hw
  cases l with
  | nil =>
    clear HF htf
    go_enter Tryz.func81, Tryz.ntmps81
    go_wp2
    go_ret
    exact ⟨rfl, rfl⟩
  | cons c r =>
    have e : signB (c :: r) = decide (fsign (c :: r) = c :: r) := by simp [signB]
    rw [e]
    clear e
    obtain ⟨l, hll⟩ : ∃ l, c :: r = l := ⟨_, rfl⟩
    have hne : (l == []) = false := by rw [← hll]; rfl
    rw [hll] at HF htl htf ⊢
    clear hll
    obtain ⟨s, hs⟩ : ∃ s, st l = s := ⟨_, rfl⟩
    rw [hs] at HF htl ⊢
    obtain ⟨f, hf⟩ : ∃ f, fsign l = f := ⟨_, rfl⟩
    rw [hf] at HF htf ⊢
    obtain ⟨sf, hsf⟩ : ∃ sf, st f = sf := ⟨_, rfl⟩
    rw [hsf] at HF htf
    clear hs hf hsf
    have deq : (f == l) = decide (f = l) := by
      by_cases h : f = l
      · rw [decide_eq_true h, h]; simp
      · rw [decide_eq_false h]; simpa using h
    obtain ⟨b, hb⟩ : ∃ b, decide (f = l) = b := ⟨_, rfl⟩
    rw [hb] at deq ⊢
    clear hb
    go_enter Tryz.func81, Tryz.ntmps81
    go_wp2_with fail
    refine HF.out.mono ?_
    rintro e w' ⟨rfl, rfl⟩
    go_wp2_with fail
    go_ret
    exact ⟨rfl, rfl⟩
def Tk.val (t : Tk) : Value := .agg t.cells.toArray
/-- a token that may be -/
structure Tk.Ok (t : Tk) : Prop where
  k0 : -9223372036854775808 ≤ t.k
  k1 : t.k ≤ 9223372036854775807
  n0 : -9223372036854775808 ≤ t.n
  n1 : t.n ≤ 9223372036854775807
  s : t.s.length ≤ 1000000
set_option maxRecDepth 100000 in
set_option maxHeartbeats 2000000 in
theorem lformed_any (w : World) (hw : LexW w) (t : Tk) (ht : t.Ok) : Calls Tryz.prog 53 #[t.val] w fun e w' => e = .returned (.bool (formB t)) ∧ Below w.heap.size w w' := by
  obtain ⟨k, l, n⟩ := t
  have hb : ∀ o, Below w.heap.size w (w.alloc o) := fun o => (Below.refl _ _).alloc (Nat.le_refl _) _
  have HW := Lib.hid (fun o => isWord_any (w.alloc o) l ht.s)
  have HT := Lib.hid (fun o => isText_any (w.alloc o) l ht.s)
  have HS := Lib.hid (fun o => isSign_any (w.alloc o) (hw.below (hb o)) l)
  have HB := Lib.hid hb
  have htl := toList_st l
  obtain ⟨_, _, _, _, _⟩ := ht
  clear hw hb
  unfold Tk.val Tk.cells formB
  dsimp only
  obtain ⟨s, hs⟩ : ∃ s, st l = s := ⟨_, rfl⟩
  rw [hs] at HW HT HS htl ⊢
  have dn : ((n == 0)) = decide (n = 0) := by
    by_cases h : n = 0
    · subst h; rfl
    · rw [decide_eq_false h]; simpa using h
  have dl : (l == []) = l.isEmpty := by cases l <;> rfl
  obtain ⟨bn, hbn⟩ : ∃ b, decide (n = 0) = b := ⟨_, rfl⟩
  obtain ⟨bw, hbw⟩ : ∃ b, wordB l = b := ⟨_, rfl⟩
  obtain ⟨bt, hbt⟩ : ∃ b, textB l = b := ⟨_, rfl⟩
  obtain ⟨bs, hbs⟩ : ∃ b, signB l = b := ⟨_, rfl⟩
  obtain ⟨bl, hbl⟩ : ∃ b, l.isEmpty = b := ⟨_, rfl⟩
  obtain ⟨b0, hb0⟩ : ∃ b, decide (0 ≤ n) = b := ⟨_, rfl⟩
  obtain ⟨bm, hbm⟩ : ∃ b, decide (n ≤ 1099511627776) = b := ⟨_, rfl⟩
  rw [hbw] at HW
  rw [hbt] at HT
  rw [hbs] at HS
  rw [hbn] at dn
  rw [hbl] at dl
  rw [hbn, hbw, hbt, hbs, hbl, hb0, hbm]
  clear hbw hbt hbs hs hbn hbl
  by_cases h1 : k = 1
  · subst h1
    rw [if_pos rfl]
    clear hb0 hbm
    go_enter Tryz.func53, Tryz.ntmps53
    cases bn with
    | true =>
      go_wp2_with fail
      refine (HW.out _).mono ?_
      rintro e w' ⟨rfl, rfl⟩
      go_wp2_with fail
      go_ret
      exact ⟨by simp, HB.out _⟩
    | false =>
      go_wp2_with fail
      go_ret
      exact ⟨by simp, HB.out _⟩
  · have k1 : (k == 1) = false := by simpa using h1
    rw [if_neg h1]
    by_cases h2 : k = 2
    · subst h2
      rw [if_pos rfl]
      go_enter Tryz.func53, Tryz.ntmps53
      cases bl <;> cases b0 <;>
      ( go_wp2_with fail
        go_ret
        exact ⟨by simp, HB.out _⟩)
    · have k2 : (k == 2) = false := by simpa using h2
      rw [if_neg h2]
      by_cases h3 : k = 3
      · subst h3
        rw [if_pos rfl]
        clear hb0 hbm
        go_enter Tryz.func53, Tryz.ntmps53
        cases bn with
        | true =>
          go_wp2_with fail
          refine (HT.out _).mono ?_
          rintro e w' ⟨rfl, rfl⟩
          go_wp2_with fail
          go_ret
          exact ⟨by simp, HB.out _⟩
        | false =>
          go_wp2_with fail
          go_ret
          exact ⟨by simp, HB.out _⟩
      · have k3 : (k == 3) = false := by simpa using h3
        rw [if_neg h3]
        by_cases h4 : k = 4
        · subst h4
          rw [if_pos rfl]
          go_enter Tryz.func53, Tryz.ntmps53
          cases bl <;> cases b0 <;> cases bm <;>
          ( go_wp2_with fail
            go_ret
            exact ⟨by simp, HB.out _⟩)
        · have k4 : (k == 4) = false := by simpa using h4
          rw [if_neg h4]
          by_cases h5 : k = 5
          · subst h5
            rw [if_pos rfl]
            clear hb0 hbm
            go_enter Tryz.func53, Tryz.ntmps53
            cases bn with
            | true =>
              go_wp2_with fail
              refine (HS.out _).mono ?_
              rintro e w' ⟨rfl, rfl⟩
              go_wp2_with fail
              go_ret
              exact ⟨by simp, HB.out _⟩
            | false =>
              go_wp2_with fail
              go_ret
              exact ⟨by simp, HB.out _⟩
          · have k5 : (k == 5) = false := by simpa using h5
            rw [if_neg h5]
            clear hb0 hbm
            go_enter Tryz.func53, Tryz.ntmps53
            go_wp2_with fail
            go_ret
            exact ⟨rfl, HB.out _⟩
end Go.Proofs.YtllgodaphoncnaaGreatDoor
