/- A reader's small calls: what went wrong, and going on; A reader's calls: one of some words, what has to be ahead, names. -/
import Derived.Test.YtllgodaphoncnaaGreatDoorJ23
import Derived.Test.YtllgodaphoncnaaGreatDoorJ01
namespace Go.Proofs.YtllgodaphoncnaaGreatDoor
open Go.RowKit

set_option maxRecDepth 100000 in
theorem heap_set2 {w : World} {g : Nat} {C : Array Value} {T : TypeId} (h : w.heap[g]? = some (.cells C T (0, 0))) (i : Nat) (x : Value) (j : Nat) (y : Value) :
    ((w.setCell ⟨g, i, none⟩ x).setCell ⟨g, j, none⟩ y).heap[g]? = some (.cells ((C.setIfInBounds i x).setIfInBounds j y) T (0, 0)) := by
  have h1 := heap_setCell_same w g i C T x h
  exact heap_setCell_same _ g j _ T y h1
set_option maxRecDepth 100000 in
theorem Rd.set {I : RI} {w : World} {p q : PS} (h : Rd I w p) (i : Nat) (x : Value) (hc : (I.cells p).setIfInBounds i x = I.cells q) (ha : q.at' ≤ I.T.length) (he : ∀ x, q.err = some x → x.1 ≠ 0) : Rd I (w.setCell ⟨I.b, i, none⟩ x) q := by
  refine h.kept ((Kept1.refl _ _).setCell ⟨I.b, i, none⟩ (.inl rfl) x) ?_ ha he
  rw [heap_setCell_same w I.b i _ I.Ty x h.blk, hc]
set_option maxRecDepth 100000 in
theorem pass_any (I : RI) (w : World) (p : PS) (h : Rd I w p) (hl : p.at' < I.T.length) :
    Calls Tryz.prog 95 #[I.ptr] w fun e w' => e = .returned (.tuple #[]) ∧ Rd I w' (passP p) ∧ Kept1 I.b w w' := by
  have c1 := h.c1
  have cf := h.fz
  have hlen := I.len
  have H := Lib.hid h
  have HQ : Hid (Rd I (w.setCell ⟨I.b, 1, none⟩ (.int .i64 ((p.at' : Int) + 1))) (passP p)) := Lib.hid (h.set 1 _ (by simp [RI.cells, passP, errP, errE]) (by simp only [passP]; omega) (fun x hx => h.err x hx))
  clear h
  unfold RI.ptr
  obtain ⟨k, hk⟩ : ∃ k, p.at' = k := ⟨_, rfl⟩
  rw [hk] at c1 hl HQ
  clear hk
  go_enter Tryz.func95, Tryz.ntmps95
  go_wp2_with fail
  go_end0
  exact ⟨rfl, HQ.out, (Kept1.refl _ _).setCell ⟨I.b, 1, none⟩ (.inl rfl) _⟩
set_option maxRecDepth 100000 in
set_option maxHeartbeats 1000000 in
theorem fail_any (I : RI) (w : World) (p : PS) (h : Rd I w p) (e : Int) (he : e ≠ 0) (pl : Nat) :
    Calls Tryz.prog 90 #[I.ptr, .int .i64 e, .int .i64 pl] w fun e' w' => e' = .returned (.tuple #[]) ∧ Rd I w' (failP e pl p) ∧ Kept1 I.b w w' := by
  have c3 := h.c3
  have cf := h.fz
  have c2 := h.c2
  unfold RI.ptr
  cases hp : p.err with
  | some x =>
    have e3 : errE p = x.1 := by unfold errE; rw [hp]
    have hx : (x.1 == 0) = false := by simpa using h.err x hp
    have e0 : failP e pl p = p := by unfold failP; rw [hp]; rfl
    rw [e0]
    rw [e3] at c3
    have H := Lib.hid h
    clear e3 hp e0 h c2 he
    obtain ⟨E, hE⟩ : ∃ E, x.1 = E := ⟨_, rfl⟩
    rw [hE] at c3 hx
    clear hE
    go_enter Tryz.func90, Tryz.ntmps90
    go_wp2_with fail
    go_end0
    exact ⟨rfl, H.out, Kept1.refl _ _⟩
  | none =>
    have e3 : errE p = 0 := by unfold errE; rw [hp]
    have e0 : failP e pl p = { p with err := some (e, pl) } := by unfold failP; rw [hp]; rfl
    rw [e3] at c3
    have HQ : Hid (Rd I ((w.setCell ⟨I.b, 3, none⟩ (.int .i64 e)).setCell ⟨I.b, 2, none⟩ (.int .i64 pl)) (failP e pl p)) := Lib.hid (by
      refine h.kept (((Kept1.refl _ _).setCell ⟨I.b, 3, none⟩ (.inl rfl) _).setCell ⟨I.b, 2, none⟩ (.inl rfl) _) ?_ (by rw [e0]; exact h.at') (by rw [e0]; intro x hx; simp at hx; subst hx; exact he)
      rw [heap_set2 h.blk, e0]
      simp [RI.cells, errP, errE])
    clear e3 hp e0 h he
    obtain ⟨q, hq⟩ : ∃ q, failP e pl p = q := ⟨_, rfl⟩
    rw [hq] at HQ ⊢
    clear hq
    go_enter Tryz.func90, Tryz.ntmps90
    go_wp2_with fail
    go_end0
    exact ⟨rfl, HQ.out, ((Kept1.refl _ _).setCell ⟨I.b, 3, none⟩ (.inl rfl) _).setCell ⟨I.b, 2, none⟩ (.inl rfl) _⟩
set_option maxRecDepth 100000 in
theorem stop_any (I : RI) (w : World) (p : PS) (h : Rd I w p) :
    Calls Tryz.prog 62 #[I.ptr] w fun e w' => e = .returned (.tuple #[]) ∧ Rd I w' (stopP p) ∧ Kept1 I.b w w' := by
  have HF := Lib.hid (fail_any I w p h 2 (by decide) p.at')
  have c1 := h.c1
  clear h
  unfold stopP
  unfold RI.ptr at HF ⊢
  go_enter Tryz.func62, Tryz.ntmps62
  go_wp2_with fail
  refine HF.out.mono ?_
  rintro e w' ⟨rfl, h1, h2⟩
  have H1 := Lib.hid h1
  have H2 := Lib.hid h2
  clear h1 h2 HF
  go_wp2_with fail
  go_end0
  exact ⟨rfl, H1.out, H2.out⟩
set_option maxRecDepth 100000 in
theorem end_any (I : RI) (w : World) (p : PS) (h : Rd I w p) :
    Calls Tryz.prog 41 #[I.ptr] w fun e w' => e = .returned (.tuple #[]) ∧ Rd I w' (if p.at' < I.T.length then stopP p else p) ∧ Kept1 I.b w w' := by
  have HS := Lib.hid (fun W (hb : Below w.heap.size w W) => stop_any I W p (h.below hb))
  have r0 := fun m : Bl w => (h.below m.below).c0
  have r1 := fun m : Bl w => (h.below m.below).c1
  have hlen := I.len
  have hat := h.at'
  have H := Lib.hid h
  clear h
  unfold RI.ptr at HS ⊢
  have HQ : (if p.at' < I.T.length then stopP p else p) = if decide (p.at' < I.T.length) = true then stopP p else p := by simp
  rw [HQ]
  clear HQ
  obtain ⟨n, hn⟩ : ∃ n, I.T.length = n := ⟨_, rfl⟩
  rw [hn] at r0 hlen hat ⊢
  obtain ⟨k, hk⟩ : ∃ k, p.at' = k := ⟨_, rfl⟩
  rw [hk] at r1 hat ⊢
  clear hn hk
  obtain ⟨b, hb⟩ : ∃ b, decide (k < n) = b := ⟨_, rfl⟩
  rw [hb]
  have dl : decide ((k : Int) < (n : Int)) = b := by rw [← hb]; simp
  have dp : (k < n) = (b = true) := by rw [← hb]; simp
  clear hb
  go_enter Tryz.func41, Tryz.ntmps41
  go_wp2_with fail
  refine wp_region_quietB (by kernel_rfl) (by kernel_rfl) ?_
  iterate 10 (go_big_quiet_step (fail))
  refine wpQuiet_nil ?_
  intro m
  have HM := Lib.hid m.below
  have HSM := Lib.hid (HS.out m.wr m.below)
  clear r0 r1 HS
  generalize m.wr = W at *
  clear m
  cases b with
  | true =>
    have dp : (k < n) = True := by rw [dp]; simp
    go_wp2_with fail
    refine HSM.out.mono ?_
    rintro e w' ⟨rfl, h1, h2⟩
    have H1 := Lib.hid h1
    have H2 := Lib.hid h2
    clear h1 h2 HSM
    go_wp2_with fail
    go_end0
    exact ⟨rfl, H1.out, (Kept1.of_below HM.out).trans H2.out⟩
  | false =>
    have dp : (k < n) = False := by rw [dp]; simp
    go_wp2_with fail
    go_end0
    exact ⟨rfl, H.out.below HM.out, Kept1.of_below HM.out⟩
set_option maxRecDepth 100000 in
/-- a token as it is handed back -/
theorem tok_val (t : Tk) : t.val = .agg #[.int .i64 t.k, .string (st t.s), .int .i64 t.n] := rfl
set_option maxRecDepth 100000 in
set_option maxHeartbeats 2000000 in
theorem takes_any (I : RI) (w : World) (p : PS) (h : Rd I w p) (s : List UInt8) :
    Calls Tryz.prog 64 #[I.ptr, .string (st s)] w fun e w' => e = .returned (.bool (isP (aheadP I.T p) s)) ∧ Rd I w' (takesP I.T s p).2 ∧ Kept1 I.b w w' := by
  have HA := Lib.hid (ahead_any I w p h)
  have HP := Lib.hid (fun (hk : (aheadP I.T p).k ≠ 0) W (hb : Below w.heap.size w W) => pass_any I W p (h.below hb) (ahead_ne hk).2.1)
  have H := Lib.hid h
  clear h
  have e2 : (takesP I.T s p).2 = if isP (aheadP I.T p) s then passP p else p := by unfold takesP; split <;> rfl
  rw [e2]
  clear e2
  obtain ⟨t, ht⟩ : ∃ t, aheadP I.T p = t := ⟨_, rfl⟩
  rw [ht] at HA HP ⊢
  clear ht
  obtain ⟨tk, ts, tn⟩ := t
  rw [tok_val] at HA
  unfold RI.ptr at *
  dsimp only at *
  have es := toList_st s
  have et := toList_st ts
  unfold isP
  dsimp only
  obtain ⟨S, hS⟩ : ∃ S, st s = S := ⟨_, rfl⟩
  obtain ⟨TS, hTS⟩ : ∃ S, st ts = S := ⟨_, rfl⟩
  rw [hS] at es ⊢
  rw [hTS] at et HA
  obtain ⟨q, hq⟩ : ∃ q, (ts == s) = q := ⟨_, rfl⟩
  rw [hq]
  clear hS hTS
  obtain ⟨R, hR⟩ : ∃ R, ((tk == 1 || tk == 5) && q) = R := ⟨_, rfl⟩
  rw [hR]
  by_cases h1 : tk = 1
  · subst h1
    cases q with
    | true =>
      obtain rfl : R = true := hR.symm
      clear hR
      go_enter Tryz.func64, Tryz.ntmps64
      go_wp2_with fail
      refine HA.out.mono ?_
      rintro e w' ⟨rfl, hb⟩
      have HB := Lib.hid hb
      clear hb HA
      go_wp2_with fail
      refine (HP.out (by decide) _ (HB.out.alloc HB.out.size _)).mono ?_
      rintro e w2 ⟨rfl, h1, h2⟩
      have H1 := Lib.hid h1
      have H2 := Lib.hid ((Kept1.of_below (HB.out.alloc HB.out.size _)).trans h2)
      clear h1 h2 HP
      go_wp2_with fail
      go_ret
      exact ⟨rfl, H1.out, H2.out⟩
    | false =>
      obtain rfl : R = false := hR.symm
      clear hR
      go_enter Tryz.func64, Tryz.ntmps64
      go_wp2_with fail
      refine HA.out.mono ?_
      rintro e w' ⟨rfl, hb⟩
      have HB := Lib.hid hb
      clear hb HA
      go_wp2_with fail
      go_ret
      exact ⟨rfl, H.out.below (HB.out.alloc HB.out.size _), Kept1.of_below (HB.out.alloc HB.out.size _)⟩
  · have k1 : (tk == 1) = false := by simpa using h1
    have k1' : (tk != 1) = true := by simpa using h1
    by_cases h5 : tk = 5
    · subst h5
      cases q with
      | true =>
        obtain rfl : R = true := hR.symm
        clear hR
        go_enter Tryz.func64, Tryz.ntmps64
        go_wp2_with fail
        refine HA.out.mono ?_
        rintro e w' ⟨rfl, hb⟩
        have HB := Lib.hid hb
        clear hb HA
        go_wp2_with fail
        refine (HP.out (by decide) _ (HB.out.alloc HB.out.size _)).mono ?_
        rintro e w2 ⟨rfl, h1, h2⟩
        have H1 := Lib.hid h1
        have H2 := Lib.hid ((Kept1.of_below (HB.out.alloc HB.out.size _)).trans h2)
        clear h1 h2 HP
        go_wp2_with fail
        go_ret
        exact ⟨rfl, H1.out, H2.out⟩
      | false =>
        obtain rfl : R = false := hR.symm
        clear hR
        go_enter Tryz.func64, Tryz.ntmps64
        go_wp2_with fail
        refine HA.out.mono ?_
        rintro e w' ⟨rfl, hb⟩
        have HB := Lib.hid hb
        clear hb HA
        go_wp2_with fail
        go_ret
        exact ⟨rfl, H.out.below (HB.out.alloc HB.out.size _), Kept1.of_below (HB.out.alloc HB.out.size _)⟩
    · have k5 : (tk == 5) = false := by simpa using h5
      have k5' : (tk != 5) = true := by simpa using h5
      obtain rfl : R = false := by rw [← hR, k1, k5]; rfl
      clear hR
      go_enter Tryz.func64, Tryz.ntmps64
      go_wp2_with fail
      refine HA.out.mono ?_
      rintro e w' ⟨rfl, hb⟩
      have HB := Lib.hid hb
      clear hb HA
      go_wp2_with fail
      go_ret
      exact ⟨rfl, H.out.below (HB.out.alloc HB.out.size _), Kept1.of_below (HB.out.alloc HB.out.size _)⟩
end Go.Proofs.YtllgodaphoncnaaGreatDoor
namespace Go.Proofs.YtllgodaphoncnaaGreatDoor
open Go.RowKit

set_option maxRecDepth 100000 in
set_option maxHeartbeats 8000000 in
theorem kept_any (w : World) (s : List UInt8) : Calls Tryz.prog 25 #[.string (st s)] w fun e w' => e = .returned (.bool (keptB s)) ∧ w = w' := by
  have es := toList_st s
  obtain ⟨S, hS⟩ : ∃ S, st s = S := ⟨_, rfl⟩
  rw [hS] at es ⊢
  clear hS
  obtain ⟨R, hR⟩ : ∃ R, keptB s = R := ⟨_, rfl⟩
  rw [hR]
  have HR := Lib.hid hR
  clear hR
  go_enter Tryz.func25, Tryz.ntmps25
  go_wp2
  all_goals
    go_ret
    exact ⟨ret_bool (by rw [← HR.out]; clear HR es; simp_all [keptB, keptL]), rfl⟩
set_option maxRecDepth 100000 in
theorem fld1 (k : Int) (s : ByteArray) (n : Int) (W : World) : (Instr.field 41 (.agg #[.int .i64 k, .string s, .int .i64 n]) 1).run Tryz.prog W = .ok (.string s) W := by kernel_rfl
/-- texts in memory -/
abbrev StrsAt (w : World) (ad : Option Addr) (g o : Nat) (l : List (List UInt8)) : Prop := RowsAt w ad g o 1 (fun s => [Value.string (st s)]) l
set_option maxRecDepth 100000 in
theorem takes_no {T : List Tk} {s : List UInt8} {p : PS} (h : isP (aheadP T p) s = false) : (takesP T s p).2 = p := by unfold takesP; rw [h]; rfl
set_option maxRecDepth 100000 in
theorem takes_yes {T : List Tk} {s : List UInt8} {p : PS} (h : isP (aheadP T p) s = true) : (takesP T s p).2 = passP p := by unfold takesP; rw [h]; rfl
set_option maxRecDepth 100000 in
theorem takesOne_at {T : List Tk} {p : PS} : ∀ {l : List (List UInt8)} {k : Nat} (hk : k < l.length), (∀ j, (hj : j < l.length) → j < k → isP (aheadP T p) l[j] = false) → isP (aheadP T p) l[k] = true → takesOneP T l p = (l[k], passP p)
  | [], k, hk, _, _ => by cases hk
  | s :: l, 0, _, _, h => by unfold takesOneP; rw [if_pos (show isP (aheadP T p) s = true from h)]; rfl
  | s :: l, k + 1, hk, hno, h => by
    unfold takesOneP
    have h0 := hno 0 (by simp) (by omega)
    simp only [List.getElem_cons_zero] at h0
    rw [h0]
    simp only [Bool.false_eq_true, if_false, List.getElem_cons_succ]
    exact takesOne_at (by simpa using hk) (fun j hj hjk => by have := hno (j + 1) (by simp; omega) (by omega); simpa using this) (by simpa using h)
set_option maxRecDepth 100000 in
theorem takesOne_none {T : List Tk} {p : PS} {l : List (List UInt8)} (h : ∀ j, (hj : j < l.length) → isP (aheadP T p) l[j] = false) : takesOneP T l p = ([], p) := by
  rcases takesOne_cases (T := T) l p with ⟨h1, -⟩ | ⟨s, hs, ht, -⟩
  · exact h1
  · obtain ⟨j, hj, rfl⟩ := List.mem_iff_getElem.1 hs
    rw [h j hj] at ht; cases ht
set_option maxRecDepth 100000 in
set_option maxHeartbeats 2000000 in
theorem takesOne_any (I : RI) (w : World) (p : PS) (h : Rd I w p) (ad : Option Addr) (g o c : Nat) (l : List (List UInt8)) (hl : StrsAt w ad g o l) (hn : l.length ≤ 100) (hg : l ≠ [] → g ≠ I.b) :
    Calls Tryz.prog 87 #[I.ptr, .slice ad l.length c] w fun e w' => e = .returned (.string (st (takesOneP I.T l p).1)) ∧ Rd I w' (takesOneP I.T l p).2 ∧ Kept1 I.b w w' := by
  have H := Lib.hid h
  have HL := Lib.hid hl
  have HG := Lib.hid hg
  clear h hl hg
  have HTK := Lib.hid (fun W (hr : Rd I W p) s => takes_any I W p hr s)
  unfold RI.ptr at *
  go_enter Tryz.func87, Tryz.ntmps87
  go_wp2
  go_loopw [9] (fun i wr => ∃ k : Nat, k ≤ l.length ∧ i = .int .i64 k ∧ Hid (∀ j, (hj : j < l.length) → j < k → isP (aheadP I.T p) l[j] = false) ∧ Hid (Rd I wr p) ∧ Hid (Kept1 I.b w wr)) (fun i _ => l.length - (intOf i).toNat)
  case atStart => exact ⟨0, by omega, rfl, Lib.hid (fun j _ hj => by omega), H, Lib.hid (Kept1.refl _ _)⟩
  case round =>
    obtain ⟨k, hk, rfl, HA, HR, HK⟩ := hrel
    by_cases hlt : k < l.length
    · obtain rfl := HL.out.addr (by intro e; subst e; simp at hlt)
      have hlw := HL.out.kept HK.out HG.out (fun _ _ => rfl)
      have c0 := hlw.cell k hlt 0 (by omega)
      simp only [Nat.mul_one, Nat.add_zero, List.getElem?_cons_zero] at c0
      obtain ⟨s, hs⟩ : ∃ s, l[k] = s := ⟨_, rfl⟩
      have HS := Lib.hid hs
      rw [hs] at c0
      clear hlw hs
      go_wp2_with fail
      refine (HTK.out _ HR.out s).mono ?_
      rintro e w1 ⟨rfl, h1, h2⟩
      have H1 := Lib.hid h1
      have H2 := Lib.hid (HK.out.trans h2)
      clear h1 h2 c0
      obtain ⟨b, hb⟩ : ∃ b, isP (aheadP I.T p) s = b := ⟨_, rfl⟩
      have HB := Lib.hid hb
      rw [hb]
      clear hb
      cases b with
      | true =>
        go_wp2_with fail
        go_ret
        have e := takesOne_at hlt (fun j hj hjk => HA.out j hj hjk) (by rw [HS.out]; exact HB.out)
        rw [e]
        exact ⟨by rw [HS.out]; rfl, by have := H1.out; rw [takes_yes HB.out] at this; exact this, H2.out⟩
      | false =>
        go_wp2_with fail
        go_roundw
        case rel => exact ⟨k + 1, by omega, by go_num, Lib.hid (fun j hj hjk => by
          rcases Nat.lt_or_ge j k with h3 | h3
          · exact HA.out j hj h3
          · obtain rfl : j = k := by omega
            rw [HS.out]; exact HB.out), Lib.hid (by have := H1.out; rw [takes_no HB.out] at this; exact this), H2⟩
        case measure => simp [intOf]; omega
    · obtain rfl : k = l.length := by omega
      go_wp2_with fail
      go_ret
      have e := takesOne_none (l := l) (fun j hj => HA.out j hj hj)
      rw [e]
      exact ⟨rfl, HR.out, HK.out⟩
set_option maxRecDepth 100000 in
set_option maxHeartbeats 1000000 in
theorem needs_any (I : RI) (w : World) (p : PS) (h : Rd I w p) (s : List UInt8) :
    Calls Tryz.prog 66 #[I.ptr, .string (st s)] w fun e w' => e = .returned (.tuple #[]) ∧ Rd I w' (needsP I.T s p) ∧ Kept1 I.b w w' := by
  have HTK := Lib.hid (takes_any I w p h s)
  have HS := Lib.hid (fun W (hr : Rd I W p) => stop_any I W p hr)
  clear h
  unfold RI.ptr at *
  obtain ⟨S, hS⟩ : ∃ S, st s = S := ⟨_, rfl⟩
  rw [hS] at HTK ⊢
  clear hS
  obtain ⟨b, hb⟩ : ∃ b, isP (aheadP I.T p) s = b := ⟨_, rfl⟩
  have e1 : needsP I.T s p = if b = true then passP p else stopP p := by unfold needsP; rw [hb]
  have e2 : (takesP I.T s p).2 = if b = true then passP p else p := by unfold takesP; rw [hb]; cases b <;> rfl
  rw [hb, e2] at HTK
  rw [e1]
  clear hb e1 e2
  go_enter Tryz.func66, Tryz.ntmps66
  go_wp2_with fail
  refine HTK.out.mono ?_
  rintro e w1 ⟨rfl, h1, h2⟩
  have H1 := Lib.hid h1
  have H2 := Lib.hid h2
  clear h1 h2 HTK
  cases b with
  | true =>
    go_wp2_with fail
    go_end0
    exact ⟨rfl, H1.out, H2.out⟩
  | false =>
    go_wp2_with fail
    refine (HS.out _ H1.out).mono ?_
    rintro e w2 ⟨rfl, h1, h2⟩
    have H3 := Lib.hid h1
    have H4 := Lib.hid (H2.out.trans h2)
    clear h1 h2 HS
    go_wp2_with fail
    go_end0
    exact ⟨rfl, H3.out, H4.out⟩
set_option maxRecDepth 100000 in
/-- a formed token's text is short -/
theorem form_short {t : Tk} (h : formB t = true) : t.s.length ≤ 64 := by
  unfold formB at h
  split at h
  · simp only [Bool.and_eq_true] at h
    have h2 := h.2
    unfold wordB at h2
    cases hts : t.s with
    | nil => simp
    | cons c l =>
      rw [hts] at h2
      simp only [Bool.and_eq_true, decide_eq_true_eq] at h2
      exact h2.1
  · split at h
    · simp only [Bool.and_eq_true, List.isEmpty_iff] at h
      rw [h.1]; simp
    · split at h
      · simp only [Bool.and_eq_true, textB, decide_eq_true_eq] at h
        exact h.2.1
      · split at h
        · simp only [Bool.and_eq_true, List.isEmpty_iff] at h
          rw [h.1]; simp
        · split at h
          · simp only [Bool.and_eq_true, signB, decide_eq_true_eq] at h
            have h2 := h.2.2
            unfold fsign at h2
            cases hf : signsL.find? (·.isPrefixOf t.s) with
            | none => rw [hf] at h2; rw [← h2]; simp
            | some x =>
              rw [hf] at h2
              have hm := List.mem_of_find?_eq_some hf
              rw [← h2]
              have : ∀ x ∈ signsL, x.length ≤ 64 := by decide
              exact this x hm
          · cases h
set_option maxRecDepth 100000 in
theorem ahead_short (T : List Tk) (p : PS) : (aheadP T p).s.length ≤ 64 := by
  unfold aheadP
  split
  · simp [noTk]
  · split
    · split
      · rename_i h; exact form_short h
      · simp [noTk]
    · simp [noTk]
set_option maxRecDepth 100000 in
set_option maxHeartbeats 2000000 in
theorem own_any (I : RI) (w : World) (p : PS) (h : Rd I w p) (k : Int) (hk : k ≠ 0) :
    Calls Tryz.prog 98 #[I.ptr, .int .i64 k] w fun e w' => e = .returned (.string (st (ownP I.T k p).1)) ∧ Rd I w' (ownP I.T k p).2 ∧ Kept1 I.b w w' := by
  have HA := Lib.hid (ahead_any I w p h)
  have HP := Lib.hid (fun (hk : (aheadP I.T p).k ≠ 0) W (hr : Rd I W p) => pass_any I W p hr (ahead_ne hk).2.1)
  have HST := Lib.hid (fun W (hr : Rd I W p) => stop_any I W p hr)
  have hsh := ahead_short I.T p
  have H := Lib.hid h
  clear h
  unfold ownP
  obtain ⟨t, ht⟩ : ∃ t, aheadP I.T p = t := ⟨_, rfl⟩
  rw [ht] at HA HP hsh ⊢
  clear ht
  obtain ⟨tk, ts, tn⟩ := t
  rw [tok_val] at HA
  unfold RI.ptr at *
  dsimp only at *
  have HC := Lib.hid (fun W => clone_st W ts (by omega))
  obtain ⟨TS, hTS⟩ : ∃ S, st ts = S := ⟨_, rfl⟩
  have E0 : st ([] : List UInt8) = ⟨#[]⟩ := rfl
  have HTS := Lib.hid hTS
  rw [hTS] at HA HC
  clear hTS hsh
  have HK := Lib.hid hk
  clear hk
  by_cases h1 : tk = k
  · subst h1
    have hb : (tk != tk) = false := by simp
    rw [if_pos (by simp)]
    dsimp only
    rw [HTS.out]
    go_enter Tryz.func98, Tryz.ntmps98
    go_wp2_with fail
    refine HA.out.mono ?_
    rintro e w' ⟨rfl, hb⟩
    have HB := Lib.hid hb
    clear hb HA
    go_wp2_with fail
    refine (HP.out HK.out _ (H.out.below (HB.out.alloc HB.out.size _))).mono ?_
    rintro e w2 ⟨rfl, h1, h2⟩
    have hne : w'.heap.size ≠ I.b := by have := H.out.lt; have := HB.out.size; omega
    have g2 : w2.heap[w'.heap.size]? = some (.cells #[.int .i64 tk, .string TS, .int .i64 tn] 41 (0, 0)) := by
      rw [h2.block _ (by simp) hne]; exact heap_alloc_new _ _
    have q1 : w2.cell? ⟨w'.heap.size, 1, none⟩ = some (.string TS) := cell_block g2 1
    have H1 := Lib.hid h1
    have H2 := Lib.hid ((Kept1.of_below (HB.out.alloc HB.out.size _)).trans h2)
    clear h1 h2 HP g2 hne
    go_wp2_with fail
    refine (HC.out _).mono ?_
    rintro e w3 ⟨rfl, hb⟩
    have H3 := Lib.hid hb
    clear hb HC q1
    go_wp2_with fail
    go_ret
    exact ⟨rfl, H1.out.below H3.out, H2.out.trans (Kept1.of_below H3.out)⟩
  · have hb : (tk != k) = true := by simpa using h1
    rw [if_neg (by simpa using h1)]
    dsimp only
    rw [E0]
    go_enter Tryz.func98, Tryz.ntmps98
    go_wp2_with fail
    refine HA.out.mono ?_
    rintro e w' ⟨rfl, hb⟩
    have HB := Lib.hid hb
    clear hb HA
    go_wp2_with fail
    refine (HST.out _ (H.out.below (HB.out.alloc HB.out.size _))).mono ?_
    rintro e w2 ⟨rfl, h1, h2⟩
    have H1 := Lib.hid h1
    have H2 := Lib.hid ((Kept1.of_below (HB.out.alloc HB.out.size _)).trans h2)
    clear h1 h2 HST
    go_wp2_with fail
    go_ret
    exact ⟨rfl, H1.out, H2.out⟩
set_option maxRecDepth 100000 in
theorem word_any (I : RI) (w : World) (p : PS) (h : Rd I w p) :
    Calls Tryz.prog 67 #[I.ptr] w fun e w' => e = .returned (.string (st (ownP I.T 1 p).1)) ∧ Rd I w' (ownP I.T 1 p).2 ∧ Kept1 I.b w w' := by
  have HO := Lib.hid (own_any I w p h 1 (by decide))
  clear h
  unfold RI.ptr at *
  go_enter Tryz.func67, Tryz.ntmps67
  go_wp2_with fail
  refine HO.out.mono ?_
  rintro e w1 ⟨rfl, h1, h2⟩
  have H1 := Lib.hid h1
  have H2 := Lib.hid h2
  clear h1 h2 HO
  go_wp2_with fail
  go_ret
  exact ⟨rfl, H1.out, H2.out⟩
set_option maxRecDepth 100000 in
theorem text_any' (I : RI) (w : World) (p : PS) (h : Rd I w p) :
    Calls Tryz.prog 118 #[I.ptr] w fun e w' => e = .returned (.string (st (ownP I.T 3 p).1)) ∧ Rd I w' (ownP I.T 3 p).2 ∧ Kept1 I.b w w' := by
  have HO := Lib.hid (own_any I w p h 3 (by decide))
  clear h
  unfold RI.ptr at *
  go_enter Tryz.func118, Tryz.ntmps118
  go_wp2_with fail
  refine HO.out.mono ?_
  rintro e w1 ⟨rfl, h1, h2⟩
  have H1 := Lib.hid h1
  have H2 := Lib.hid h2
  clear h1 h2 HO
  go_wp2_with fail
  go_ret
  exact ⟨rfl, H1.out, H2.out⟩
set_option maxRecDepth 100000 in
set_option maxHeartbeats 1000000 in
theorem name_any (I : RI) (w : World) (p : PS) (h : Rd I w p) :
    Calls Tryz.prog 99 #[I.ptr] w fun e w' => e = .returned (.string (st (nameP I.T p).1)) ∧ Rd I w' (nameP I.T p).2 ∧ Kept1 I.b w w' := by
  have HA := Lib.hid (ahead_any I w p h)
  have HST := Lib.hid (fun W (hr : Rd I W p) => stop_any I W p hr)
  have HO := Lib.hid (fun W q (hr : Rd I W q) => word_any I W q hr)
  have HKP := Lib.hid (fun W => kept_any W (aheadP I.T p).s)
  have H := Lib.hid h
  clear h
  unfold nameP
  obtain ⟨b, hb⟩ : ∃ b, keptB (aheadP I.T p).s = b := ⟨_, rfl⟩
  rw [hb] at HKP ⊢
  clear hb
  rw [tok_val] at HA
  generalize aheadP I.T p = t at *
  obtain ⟨S, hS⟩ : ∃ S, st t.s = S := ⟨_, rfl⟩
  rw [hS] at HA HKP
  clear hS
  unfold RI.ptr at *
  go_enter Tryz.func99, Tryz.ntmps99
  go_wp2_with fail
  refine HA.out.mono ?_
  rintro e w1 ⟨rfl, hb⟩
  have HB := Lib.hid hb
  clear hb HA
  have hfl := fld1 t.k S t.n
  go_wp2_with fail
  clear hfl
  refine (HKP.out _).mono ?_
  rintro e w2 ⟨rfl, rfl⟩
  clear HKP
  cases b with
  | true =>
    go_wp2_with fail
    refine (HST.out _ (H.out.below HB.out)).mono ?_
    rintro e w2 ⟨rfl, h1, h2⟩
    have H1 := Lib.hid h1
    have H2 := Lib.hid ((Kept1.of_below HB.out).trans h2)
    clear h1 h2 HST
    go_wp2_with fail
    refine (HO.out _ _ H1.out).mono ?_
    rintro e w3 ⟨rfl, h1, h2⟩
    have H3 := Lib.hid h1
    have H4 := Lib.hid (H2.out.trans h2)
    clear h1 h2 HO
    go_wp2_with fail
    go_ret
    exact ⟨rfl, H3.out, H4.out⟩
  | false =>
    go_wp2_with fail
    refine (HO.out _ _ (H.out.below HB.out)).mono ?_
    rintro e w3 ⟨rfl, h1, h2⟩
    have H3 := Lib.hid h1
    have H4 := Lib.hid ((Kept1.of_below HB.out).trans h2)
    clear h1 h2 HO
    go_wp2_with fail
    go_ret
    exact ⟨rfl, H3.out, H4.out⟩
end Go.Proofs.YtllgodaphoncnaaGreatDoor
