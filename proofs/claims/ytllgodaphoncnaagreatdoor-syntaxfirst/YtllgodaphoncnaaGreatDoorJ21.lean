/- Whether a token is formed, be its text as long as may be; What a call leaves to the next one: the variables listed. -/
import Derived.Test.YtllgodaphoncnaaGreatDoorJ19
import Derived.Test.YtllgodaphoncnaaGreatDoorJ20
import Derived.Test.YtllgodaphoncnaaGreatDoorJ18
namespace Go.Proofs.YtllgodaphoncnaaGreatDoor
open Go.RowKit

set_option maxRecDepth 100000 in
set_option maxHeartbeats 1000000 in
theorem isWordW_any (w : World) (l : List UInt8) (hl : l.length ≤ maxLen) : Calls Tryz.prog 79 #[.string (st l)] w fun e w' => e = .returned (.bool (wordB l)) ∧ w = w' := by
  unfold maxLen at hl
  have HR := Lib.hid (fun h : decide (l.length ≤ 64) = true => runW_any w l (by have := of_decide_eq_true h; omega))
  have hsz := size_st l
  have htl := toList_st l
  cases l with
  | nil =>
    clear HR
    have hs0 : (st []).size = 0 := rfl
    clear hsz
    go_enter Tryz.func79, Tryz.ntmps79
    go_wp2
    go_ret
    exact ⟨rfl, rfl⟩
  | cons c r =>
    have hix := run_index_st w (c :: r) 0 c rfl
    have hix : (Instr.index 9 (.string (st (c :: r))) (.int .i64 0)).run Tryz.prog w = .ok (.int .u8 (c.toNat : Int)) w := hix
    have HL := Lib.hid (isLetter_any w c)
    have e : wordB (c :: r) = (decide ((c :: r).length ≤ 64) && (letB c && decide (runN innB (c :: r) = (c :: r).length))) := rfl
    rw [e]
    clear e
    obtain ⟨l, hll⟩ : ∃ l, c :: r = l := ⟨_, rfl⟩
    have hne : (l == []) = false := by rw [← hll]; rfl
    rw [hll] at HR hsz htl hix hl ⊢
    clear hll
    obtain ⟨s, hs⟩ : ∃ s, st l = s := ⟨_, rfl⟩
    rw [hs] at HR hsz htl hix ⊢
    clear hs
    obtain ⟨b, hb⟩ : ∃ b, letB c = b := ⟨_, rfl⟩
    rw [hb] at HL ⊢
    clear hb
    obtain ⟨R, hR⟩ : ∃ R, runN innB l = R := ⟨_, rfl⟩
    rw [hR] at HR ⊢
    clear hR
    have d1 := dint l.length 64
    have d2 := deqi R l.length
    obtain ⟨b1, hb1⟩ : ∃ b, decide (l.length ≤ 64) = b := ⟨_, rfl⟩
    obtain ⟨b2, hb2⟩ : ∃ b, decide (R = l.length) = b := ⟨_, rfl⟩
    rw [hb1] at d1 HR ⊢
    rw [hb2] at d2 ⊢
    have d1 : decide ((l.length : Int) ≤ 64) = b1 := d1
    clear hb1 hb2
    go_enter Tryz.func79, Tryz.ntmps79
    cases b1 with
    | true =>
      go_wp2_with fail
      refine HL.out.mono ?_
      rintro e w' ⟨rfl, rfl⟩
      cases b with
      | false =>
        go_wp2_with fail
        go_ret
        exact ⟨rfl, rfl⟩
      | true =>
        go_wp2_with fail
        refine (HR.out trivial).mono ?_
        rintro e w' ⟨rfl, rfl⟩
        go_wp2_with fail
        go_ret
        exact ⟨rfl, rfl⟩
    | false =>
      go_wp2_with fail
      go_ret
      exact ⟨rfl, rfl⟩
set_option maxRecDepth 100000 in
set_option maxHeartbeats 1000000 in
theorem isTextW_any (w : World) (l : List UInt8) (hl : l.length ≤ maxLen) : Calls Tryz.prog 80 #[.string (st l)] w fun e w' => e = .returned (.bool (textB l)) ∧ w = w' := by
  unfold maxLen at hl
  have HR := Lib.hid (fun h : decide (l.length ≤ 64) = true => runP_any w l (by have := of_decide_eq_true h; omega))
  have hsz := size_st l
  unfold textB
  obtain ⟨s, hs⟩ : ∃ s, st l = s := ⟨_, rfl⟩
  rw [hs] at HR hsz ⊢
  clear hs
  obtain ⟨R, hR⟩ : ∃ R, runN plaB l = R := ⟨_, rfl⟩
  rw [hR] at HR ⊢
  clear hR
  have d1 := dint l.length 64
  have d2 := deqi R l.length
  obtain ⟨b1, hb1⟩ : ∃ b, decide (l.length ≤ 64) = b := ⟨_, rfl⟩
  obtain ⟨b2, hb2⟩ : ∃ b, decide (R = l.length) = b := ⟨_, rfl⟩
  rw [hb1] at d1 HR ⊢
  rw [hb2] at d2 ⊢
  have d1 : decide ((l.length : Int) ≤ 64) = b1 := d1
  clear hb1 hb2
  go_enter Tryz.func80, Tryz.ntmps80
  cases b1 with
  | true =>
    go_wp2_with fail
    refine (HR.out trivial).mono ?_
    rintro e w' ⟨rfl, rfl⟩
    go_wp2_with fail
    go_ret
    exact ⟨rfl, rfl⟩
  | false =>
    go_wp2_with fail
    go_ret
    exact ⟨rfl, rfl⟩
set_option maxRecDepth 100000 in
set_option maxHeartbeats 2000000 in
theorem wformed_any (w : World) (hw : LexW w) (t : Tk) (ht : t.Wide) : Calls Tryz.prog 53 #[t.val] w fun e w' => e = .returned (.bool (formB t)) ∧ Below w.heap.size w w' := by
  obtain ⟨k, l, n⟩ := t
  have hb : ∀ o, Below w.heap.size w (w.alloc o) := fun o => (Below.refl _ _).alloc (Nat.le_refl _) _
  have HW := Lib.hid (fun o => isWordW_any (w.alloc o) l ht.s)
  have HT := Lib.hid (fun o => isTextW_any (w.alloc o) l ht.s)
  have HS := Lib.hid (fun o => isSign_any (w.alloc o) (hw.below (hb o)) l)
  have HB := Lib.hid hb
  have htl := toList_st l
  obtain ⟨_, _, _, _, _⟩ := ht
  clear hw hb
  unfold Tk.val Tk.cells formB
  dsimp only
  obtain ⟨s, hs⟩ : ∃ s, st l = s := ⟨_, rfl⟩
  rw [hs] at HW HT HS htl ⊢
  have dn : ((n == 0)) = decide (n = 0) := by
    by_cases h : n = 0
    · subst h; rfl
    · rw [decide_eq_false h]; simpa using h
  have dl : (l == []) = l.isEmpty := by cases l <;> rfl
  obtain ⟨bn, hbn⟩ : ∃ b, decide (n = 0) = b := ⟨_, rfl⟩
  obtain ⟨bw, hbw⟩ : ∃ b, wordB l = b := ⟨_, rfl⟩
  obtain ⟨bt, hbt⟩ : ∃ b, textB l = b := ⟨_, rfl⟩
  obtain ⟨bs, hbs⟩ : ∃ b, signB l = b := ⟨_, rfl⟩
  obtain ⟨bl, hbl⟩ : ∃ b, l.isEmpty = b := ⟨_, rfl⟩
  obtain ⟨b0, hb0⟩ : ∃ b, decide (0 ≤ n) = b := ⟨_, rfl⟩
  obtain ⟨bm, hbm⟩ : ∃ b, decide (n ≤ 1099511627776) = b := ⟨_, rfl⟩
  rw [hbw] at HW
  rw [hbt] at HT
  rw [hbs] at HS
  rw [hbn] at dn
  rw [hbl] at dl
  rw [hbn, hbw, hbt, hbs, hbl, hb0, hbm]
  clear hbw hbt hbs hs hbn hbl
  by_cases h1 : k = 1
  · subst h1
    rw [if_pos rfl]
    clear hb0 hbm
    go_enter Tryz.func53, Tryz.ntmps53
    cases bn with
    | true =>
      go_wp2_with fail
      refine (HW.out _).mono ?_
      rintro e w' ⟨rfl, rfl⟩
      go_wp2_with fail
      go_ret
      exact ⟨by simp, HB.out _⟩
    | false =>
      go_wp2_with fail
      go_ret
      exact ⟨by simp, HB.out _⟩
  · have k1 : (k == 1) = false := by simpa using h1
    rw [if_neg h1]
    by_cases h2 : k = 2
    · subst h2
      rw [if_pos rfl]
      go_enter Tryz.func53, Tryz.ntmps53
      cases bl <;> cases b0 <;>
      ( go_wp2_with fail
        go_ret
        exact ⟨by simp, HB.out _⟩)
    · have k2 : (k == 2) = false := by simpa using h2
      rw [if_neg h2]
      by_cases h3 : k = 3
      · subst h3
        rw [if_pos rfl]
        clear hb0 hbm
        go_enter Tryz.func53, Tryz.ntmps53
        cases bn with
        | true =>
          go_wp2_with fail
          refine (HT.out _).mono ?_
          rintro e w' ⟨rfl, rfl⟩
          go_wp2_with fail
          go_ret
          exact ⟨by simp, HB.out _⟩
        | false =>
          go_wp2_with fail
          go_ret
          exact ⟨by simp, HB.out _⟩
      · have k3 : (k == 3) = false := by simpa using h3
        rw [if_neg h3]
        by_cases h4 : k = 4
        · subst h4
          rw [if_pos rfl]
          go_enter Tryz.func53, Tryz.ntmps53
          cases bl <;> cases b0 <;> cases bm <;>
          ( go_wp2_with fail
            go_ret
            exact ⟨by simp, HB.out _⟩)
        · have k4 : (k == 4) = false := by simpa using h4
          rw [if_neg h4]
          by_cases h5 : k = 5
          · subst h5
            rw [if_pos rfl]
            clear hb0 hbm
            go_enter Tryz.func53, Tryz.ntmps53
            cases bn with
            | true =>
              go_wp2_with fail
              refine (HS.out _).mono ?_
              rintro e w' ⟨rfl, rfl⟩
              go_wp2_with fail
              go_ret
              exact ⟨by simp, HB.out _⟩
            | false =>
              go_wp2_with fail
              go_ret
              exact ⟨by simp, HB.out _⟩
          · have k5 : (k == 5) = false := by simpa using h5
            rw [if_neg h5]
            clear hb0 hbm
            go_enter Tryz.func53, Tryz.ntmps53
            go_wp2_with fail
            go_ret
            exact ⟨rfl, HB.out _⟩
end Go.Proofs.YtllgodaphoncnaaGreatDoor
namespace Go.Proofs.YtllgodaphoncnaaGreatDoor
open Go.RowKit

set_option maxRecDepth 100000 in
theorem LexW.low {w w' : World} {N : Nat} (h : LexW w) (hb : Below N w w') (hN : 9 ≤ N) : LexW w' := by
  have hv : ∀ (nm : String) (g : Nat) (x : Array Value), Tryz.prog.globalNamed nm = some g → g < 9 → w.var? Tryz.prog nm = some x → w'.var? Tryz.prog nm = some x := fun nm g x h1 h2 h3 => by
    unfold World.var? at h3 ⊢
    rw [h1] at h3 ⊢
    have hblk := hb.block g (by omega)
    simp only [Option.bind_some] at h3 ⊢
    rw [hblk]; exact h3
  obtain ⟨t1, p1, h1⟩ := h.syn
  obtain ⟨t2, p2, h2⟩ := h.ran
  refine ⟨fun j v hv => ?_, ⟨t1, p1, hv _ 4 _ (by kernel_rfl) (by decide) h1⟩, ⟨t2, p2, hv _ 5 _ (by kernel_rfl) (by decide) h2⟩, ?_⟩
  · have h0 := h.sig j v hv
    rw [hb.cell (by show 0 < N; omega)]
    exact h0
  · exact hv _ 6 _ (by kernel_rfl) (by decide) h.pow

end Go.Proofs.YtllgodaphoncnaaGreatDoor
