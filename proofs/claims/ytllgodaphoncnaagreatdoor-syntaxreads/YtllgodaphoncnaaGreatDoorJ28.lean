/- A reader's calls: one of some words, what has to be ahead, names; Trees in memory. -/
import Derived.Test.YtllgodaphoncnaaGreatDoorJ27
import Derived.Test.YtllgodaphoncnaaGreatDoorJ01
import Derived.Test.YtllgodaphoncnaaGreatDoorJ04
namespace Go.Proofs.YtllgodaphoncnaaGreatDoor
open Go.RowKit

set_option maxRecDepth 100000 in
set_option maxHeartbeats 8000000 in
theorem kept_any (w : World) (s : List UInt8) : Calls Tryz.prog 25 #[.string (st s)] w fun e w' => e = .returned (.bool (keptB s)) ∧ w = w' := by
  have es := toList_st s
  obtain ⟨S, hS⟩ : ∃ S, st s = S := ⟨_, rfl⟩
  rw [hS] at es ⊢
  clear hS
  obtain ⟨R, hR⟩ : ∃ R, keptB s = R := ⟨_, rfl⟩
  rw [hR]
  have HR := Lib.hid hR
  clear hR
  go_enter Tryz.func25, Tryz.ntmps25
  go_wp2
  all_goals
    go_ret
    exact ⟨ret_bool (by rw [← HR.out]; clear HR es; simp_all [keptB, keptL]), rfl⟩
set_option maxRecDepth 100000 in
theorem fld1 (k : Int) (s : ByteArray) (n : Int) (W : World) : (Instr.field 41 (.agg #[.int .i64 k, .string s, .int .i64 n]) 1).run Tryz.prog W = .ok (.string s) W := by kernel_rfl
/-- texts in memory -/
abbrev StrsAt (w : World) (ad : Option Addr) (g o : Nat) (l : List (List UInt8)) : Prop := RowsAt w ad g o 1 (fun s => [Value.string (st s)]) l
set_option maxRecDepth 100000 in
theorem takes_no {T : List Tk} {s : List UInt8} {p : PS} (h : isP (aheadP T p) s = false) : (takesP T s p).2 = p := by unfold takesP; rw [h]; rfl
set_option maxRecDepth 100000 in
theorem takes_yes {T : List Tk} {s : List UInt8} {p : PS} (h : isP (aheadP T p) s = true) : (takesP T s p).2 = passP p := by unfold takesP; rw [h]; rfl
set_option maxRecDepth 100000 in
theorem takesOne_at {T : List Tk} {p : PS} : ∀ {l : List (List UInt8)} {k : Nat} (hk : k < l.length), (∀ j, (hj : j < l.length) → j < k → isP (aheadP T p) l[j] = false) → isP (aheadP T p) l[k] = true → takesOneP T l p = (l[k], passP p)
  | [], k, hk, _, _ => by cases hk
  | s :: l, 0, _, _, h => by unfold takesOneP; rw [if_pos (show isP (aheadP T p) s = true from h)]; rfl
  | s :: l, k + 1, hk, hno, h => by
    unfold takesOneP
    have h0 := hno 0 (by simp) (by omega)
    simp only [List.getElem_cons_zero] at h0
    rw [h0]
    simp only [Bool.false_eq_true, if_false, List.getElem_cons_succ]
    exact takesOne_at (by simpa using hk) (fun j hj hjk => by have := hno (j + 1) (by simp; omega) (by omega); simpa using this) (by simpa using h)
set_option maxRecDepth 100000 in
theorem takesOne_none {T : List Tk} {p : PS} {l : List (List UInt8)} (h : ∀ j, (hj : j < l.length) → isP (aheadP T p) l[j] = false) : takesOneP T l p = ([], p) := by
  rcases takesOne_cases (T := T) l p with ⟨h1, -⟩ | ⟨s, hs, ht, -⟩
  · exact h1
  · obtain ⟨j, hj, rfl⟩ := List.mem_iff_getElem.1 hs
    rw [h j hj] at ht; cases ht
set_option maxRecDepth 100000 in
set_option maxHeartbeats 2000000 in
theorem takesOne_any (I : RI) (w : World) (p : PS) (h : Rd I w p) (ad : Option Addr) (g o c : Nat) (l : List (List UInt8)) (hl : StrsAt w ad g o l) (hn : l.length ≤ 100) (hg : l ≠ [] → g ≠ I.b) :
    Calls Tryz.prog 87 #[I.ptr, .slice ad l.length c] w fun e w' => e = .returned (.string (st (takesOneP I.T l p).1)) ∧ Rd I w' (takesOneP I.T l p).2 ∧ Kept1 I.b w w' := by
  have H := Lib.hid h
  have HL := Lib.hid hl
  have HG := Lib.hid hg
  clear h hl hg
  have HTK := Lib.hid (fun W (hr : Rd I W p) s => takes_any I W p hr s)
  unfold RI.ptr at *
  go_enter Tryz.func87, Tryz.ntmps87
  go_wp2
  go_loopw [9] (fun i wr => ∃ k : Nat, k ≤ l.length ∧ i = .int .i64 k ∧ Hid (∀ j, (hj : j < l.length) → j < k → isP (aheadP I.T p) l[j] = false) ∧ Hid (Rd I wr p) ∧ Hid (Kept1 I.b w wr)) (fun i _ => l.length - (intOf i).toNat)
  case atStart => exact ⟨0, by omega, rfl, Lib.hid (fun j _ hj => by omega), H, Lib.hid (Kept1.refl _ _)⟩
  case round =>
    obtain ⟨k, hk, rfl, HA, HR, HK⟩ := hrel
    by_cases hlt : k < l.length
    · obtain rfl := HL.out.addr (by intro e; subst e; simp at hlt)
      have hlw := HL.out.kept HK.out HG.out (fun _ _ => rfl)
      have c0 := hlw.cell k hlt 0 (by omega)
      simp only [Nat.mul_one, Nat.add_zero, List.getElem?_cons_zero] at c0
      obtain ⟨s, hs⟩ : ∃ s, l[k] = s := ⟨_, rfl⟩
      have HS := Lib.hid hs
      rw [hs] at c0
      clear hlw hs
      go_wp2_with fail
      refine (HTK.out _ HR.out s).mono ?_
      rintro e w1 ⟨rfl, h1, h2⟩
      have H1 := Lib.hid h1
      have H2 := Lib.hid (HK.out.trans h2)
      clear h1 h2 c0
      obtain ⟨b, hb⟩ : ∃ b, isP (aheadP I.T p) s = b := ⟨_, rfl⟩
      have HB := Lib.hid hb
      rw [hb]
      clear hb
      cases b with
      | true =>
        go_wp2_with fail
        go_ret
        have e := takesOne_at hlt (fun j hj hjk => HA.out j hj hjk) (by rw [HS.out]; exact HB.out)
        rw [e]
        exact ⟨by rw [HS.out]; rfl, by have := H1.out; rw [takes_yes HB.out] at this; exact this, H2.out⟩
      | false =>
        go_wp2_with fail
        go_roundw
        case rel => exact ⟨k + 1, by omega, by go_num, Lib.hid (fun j hj hjk => by
          rcases Nat.lt_or_ge j k with h3 | h3
          · exact HA.out j hj h3
          · obtain rfl : j = k := by omega
            rw [HS.out]; exact HB.out), Lib.hid (by have := H1.out; rw [takes_no HB.out] at this; exact this), H2⟩
        case measure => simp [intOf]; omega
    · obtain rfl : k = l.length := by omega
      go_wp2_with fail
      go_ret
      have e := takesOne_none (l := l) (fun j hj => HA.out j hj hj)
      rw [e]
      exact ⟨rfl, HR.out, HK.out⟩
set_option maxRecDepth 100000 in
set_option maxHeartbeats 1000000 in
theorem needs_any (I : RI) (w : World) (p : PS) (h : Rd I w p) (s : List UInt8) :
    Calls Tryz.prog 66 #[I.ptr, .string (st s)] w fun e w' => e = .returned (.tuple #[]) ∧ Rd I w' (needsP I.T s p) ∧ Kept1 I.b w w' := by
  have HTK := Lib.hid (takes_any I w p h s)
  have HS := Lib.hid (fun W (hr : Rd I W p) => stop_any I W p hr)
  clear h
  unfold RI.ptr at *
  obtain ⟨S, hS⟩ : ∃ S, st s = S := ⟨_, rfl⟩
  rw [hS] at HTK ⊢
  clear hS
  obtain ⟨b, hb⟩ : ∃ b, isP (aheadP I.T p) s = b := ⟨_, rfl⟩
  have e1 : needsP I.T s p = if b = true then passP p else stopP p := by unfold needsP; rw [hb]
  have e2 : (takesP I.T s p).2 = if b = true then passP p else p := by unfold takesP; rw [hb]; cases b <;> rfl
  rw [hb, e2] at HTK
  rw [e1]
  clear hb e1 e2
  go_enter Tryz.func66, Tryz.ntmps66
  go_wp2_with fail
  refine HTK.out.mono ?_
  rintro e w1 ⟨rfl, h1, h2⟩
  have H1 := Lib.hid h1
  have H2 := Lib.hid h2
  clear h1 h2 HTK
  cases b with
  | true =>
    go_wp2_with fail
    go_end0
    exact ⟨rfl, H1.out, H2.out⟩
  | false =>
    go_wp2_with fail
    refine (HS.out _ H1.out).mono ?_
    rintro e w2 ⟨rfl, h1, h2⟩
    have H3 := Lib.hid h1
    have H4 := Lib.hid (H2.out.trans h2)
    clear h1 h2 HS
    go_wp2_with fail
    go_end0
    exact ⟨rfl, H3.out, H4.out⟩
set_option maxRecDepth 100000 in
/-- a formed token's text is short -/
theorem form_short {t : Tk} (h : formB t = true) : t.s.length ≤ 64 := by
  unfold formB at h
  split at h
  · simp only [Bool.and_eq_true] at h
    have h2 := h.2
    unfold wordB at h2
    cases hts : t.s with
    | nil => simp
    | cons c l =>
      rw [hts] at h2
      simp only [Bool.and_eq_true, decide_eq_true_eq] at h2
      exact h2.1
  · split at h
    · simp only [Bool.and_eq_true, List.isEmpty_iff] at h
      rw [h.1]; simp
    · split at h
      · simp only [Bool.and_eq_true, textB, decide_eq_true_eq] at h
        exact h.2.1
      · split at h
        · simp only [Bool.and_eq_true, List.isEmpty_iff] at h
          rw [h.1]; simp
        · split at h
          · simp only [Bool.and_eq_true, signB, decide_eq_true_eq] at h
            have h2 := h.2.2
            unfold fsign at h2
            cases hf : signsL.find? (·.isPrefixOf t.s) with
            | none => rw [hf] at h2; rw [← h2]; simp
            | some x =>
              rw [hf] at h2
              have hm := List.mem_of_find?_eq_some hf
              rw [← h2]
              have : ∀ x ∈ signsL, x.length ≤ 64 := by decide
              exact this x hm
          · cases h
set_option maxRecDepth 100000 in
theorem ahead_short (T : List Tk) (p : PS) : (aheadP T p).s.length ≤ 64 := by
  unfold aheadP
  split
  · simp [noTk]
  · split
    · split
      · rename_i h; exact form_short h
      · simp [noTk]
    · simp [noTk]
set_option maxRecDepth 100000 in
set_option maxHeartbeats 2000000 in
theorem own_any (I : RI) (w : World) (p : PS) (h : Rd I w p) (k : Int) (hk : k ≠ 0) :
    Calls Tryz.prog 98 #[I.ptr, .int .i64 k] w fun e w' => e = .returned (.string (st (ownP I.T k p).1)) ∧ Rd I w' (ownP I.T k p).2 ∧ Kept1 I.b w w' := by
  have HA := Lib.hid (ahead_any I w p h)
  have HP := Lib.hid (fun (hk : (aheadP I.T p).k ≠ 0) W (hr : Rd I W p) => pass_any I W p hr (ahead_ne hk).2.1)
  have HST := Lib.hid (fun W (hr : Rd I W p) => stop_any I W p hr)
  have hsh := ahead_short I.T p
  have H := Lib.hid h
  clear h
  unfold ownP
  obtain ⟨t, ht⟩ : ∃ t, aheadP I.T p = t := ⟨_, rfl⟩
  rw [ht] at HA HP hsh ⊢
  clear ht
  obtain ⟨tk, ts, tn⟩ := t
  rw [tok_val] at HA
  unfold RI.ptr at *
  dsimp only at *
  have HC := Lib.hid (fun W => clone_st W ts (by omega))
  obtain ⟨TS, hTS⟩ : ∃ S, st ts = S := ⟨_, rfl⟩
  have E0 : st ([] : List UInt8) = ⟨#[]⟩ := rfl
  have HTS := Lib.hid hTS
  rw [hTS] at HA HC
  clear hTS hsh
  have HK := Lib.hid hk
  clear hk
  by_cases h1 : tk = k
  · subst h1
    have hb : (tk != tk) = false := by simp
    rw [if_pos (by simp)]
    dsimp only
    rw [HTS.out]
    go_enter Tryz.func98, Tryz.ntmps98
    go_wp2_with fail
    refine HA.out.mono ?_
    rintro e w' ⟨rfl, hb⟩
    have HB := Lib.hid hb
    clear hb HA
    go_wp2_with fail
    refine (HP.out HK.out _ (H.out.below (HB.out.alloc HB.out.size _))).mono ?_
    rintro e w2 ⟨rfl, h1, h2⟩
    have hne : w'.heap.size ≠ I.b := by have := H.out.lt; have := HB.out.size; omega
    have g2 : w2.heap[w'.heap.size]? = some (.cells #[.int .i64 tk, .string TS, .int .i64 tn] 41 (0, 0)) := by
      rw [h2.block _ (by simp) hne]; exact heap_alloc_new _ _
    have q1 : w2.cell? ⟨w'.heap.size, 1, none⟩ = some (.string TS) := cell_block g2 1
    have H1 := Lib.hid h1
    have H2 := Lib.hid ((Kept1.of_below (HB.out.alloc HB.out.size _)).trans h2)
    clear h1 h2 HP g2 hne
    go_wp2_with fail
    refine (HC.out _).mono ?_
    rintro e w3 ⟨rfl, hb⟩
    have H3 := Lib.hid hb
    clear hb HC q1
    go_wp2_with fail
    go_ret
    exact ⟨rfl, H1.out.below H3.out, H2.out.trans (Kept1.of_below H3.out)⟩
  · have hb : (tk != k) = true := by simpa using h1
    rw [if_neg (by simpa using h1)]
    dsimp only
    rw [E0]
    go_enter Tryz.func98, Tryz.ntmps98
    go_wp2_with fail
    refine HA.out.mono ?_
    rintro e w' ⟨rfl, hb⟩
    have HB := Lib.hid hb
    clear hb HA
    go_wp2_with fail
    refine (HST.out _ (H.out.below (HB.out.alloc HB.out.size _))).mono ?_
    rintro e w2 ⟨rfl, h1, h2⟩
    have H1 := Lib.hid h1
    have H2 := Lib.hid ((Kept1.of_below (HB.out.alloc HB.out.size _)).trans h2)
    clear h1 h2 HST
    go_wp2_with fail
    go_ret
    exact ⟨rfl, H1.out, H2.out⟩
set_option maxRecDepth 100000 in
theorem word_any (I : RI) (w : World) (p : PS) (h : Rd I w p) :
    Calls Tryz.prog 67 #[I.ptr] w fun e w' => e = .returned (.string (st (ownP I.T 1 p).1)) ∧ Rd I w' (ownP I.T 1 p).2 ∧ Kept1 I.b w w' := by
  have HO := Lib.hid (own_any I w p h 1 (by decide))
  clear h
  unfold RI.ptr at *
  go_enter Tryz.func67, Tryz.ntmps67
  go_wp2_with fail
  refine HO.out.mono ?_
  rintro e w1 ⟨rfl, h1, h2⟩
  have H1 := Lib.hid h1
  have H2 := Lib.hid h2
  clear h1 h2 HO
  go_wp2_with fail
  go_ret
  exact ⟨rfl, H1.out, H2.out⟩
set_option maxRecDepth 100000 in
theorem text_any' (I : RI) (w : World) (p : PS) (h : Rd I w p) :
    Calls Tryz.prog 118 #[I.ptr] w fun e w' => e = .returned (.string (st (ownP I.T 3 p).1)) ∧ Rd I w' (ownP I.T 3 p).2 ∧ Kept1 I.b w w' := by
  have HO := Lib.hid (own_any I w p h 3 (by decide))
  clear h
  unfold RI.ptr at *
  go_enter Tryz.func118, Tryz.ntmps118
  go_wp2_with fail
  refine HO.out.mono ?_
  rintro e w1 ⟨rfl, h1, h2⟩
  have H1 := Lib.hid h1
  have H2 := Lib.hid h2
  clear h1 h2 HO
  go_wp2_with fail
  go_ret
  exact ⟨rfl, H1.out, H2.out⟩
set_option maxRecDepth 100000 in
set_option maxHeartbeats 1000000 in
theorem name_any (I : RI) (w : World) (p : PS) (h : Rd I w p) :
    Calls Tryz.prog 99 #[I.ptr] w fun e w' => e = .returned (.string (st (nameP I.T p).1)) ∧ Rd I w' (nameP I.T p).2 ∧ Kept1 I.b w w' := by
  have HA := Lib.hid (ahead_any I w p h)
  have HST := Lib.hid (fun W (hr : Rd I W p) => stop_any I W p hr)
  have HO := Lib.hid (fun W q (hr : Rd I W q) => word_any I W q hr)
  have HKP := Lib.hid (fun W => kept_any W (aheadP I.T p).s)
  have H := Lib.hid h
  clear h
  unfold nameP
  obtain ⟨b, hb⟩ : ∃ b, keptB (aheadP I.T p).s = b := ⟨_, rfl⟩
  rw [hb] at HKP ⊢
  clear hb
  rw [tok_val] at HA
  generalize aheadP I.T p = t at *
  obtain ⟨S, hS⟩ : ∃ S, st t.s = S := ⟨_, rfl⟩
  rw [hS] at HA HKP
  clear hS
  unfold RI.ptr at *
  go_enter Tryz.func99, Tryz.ntmps99
  go_wp2_with fail
  refine HA.out.mono ?_
  rintro e w1 ⟨rfl, hb⟩
  have HB := Lib.hid hb
  clear hb HA
  have hfl := fld1 t.k S t.n
  go_wp2_with fail
  clear hfl
  refine (HKP.out _).mono ?_
  rintro e w2 ⟨rfl, rfl⟩
  clear HKP
  cases b with
  | true =>
    go_wp2_with fail
    refine (HST.out _ (H.out.below HB.out)).mono ?_
    rintro e w2 ⟨rfl, h1, h2⟩
    have H1 := Lib.hid h1
    have H2 := Lib.hid ((Kept1.of_below HB.out).trans h2)
    clear h1 h2 HST
    go_wp2_with fail
    refine (HO.out _ _ H1.out).mono ?_
    rintro e w3 ⟨rfl, h1, h2⟩
    have H3 := Lib.hid h1
    have H4 := Lib.hid (H2.out.trans h2)
    clear h1 h2 HO
    go_wp2_with fail
    go_ret
    exact ⟨rfl, H3.out, H4.out⟩
  | false =>
    go_wp2_with fail
    refine (HO.out _ _ (H.out.below HB.out)).mono ?_
    rintro e w3 ⟨rfl, h1, h2⟩
    have H3 := Lib.hid h1
    have H4 := Lib.hid ((Kept1.of_below HB.out).trans h2)
    clear h1 h2 HO
    go_wp2_with fail
    go_ret
    exact ⟨rfl, H3.out, H4.out⟩
end Go.Proofs.YtllgodaphoncnaaGreatDoor
namespace Go.Proofs.YtllgodaphoncnaaGreatDoor
open Go.RowKit

/-- a tree's root, as it is passed -/
structure XV where
  o : ByteArray
  x : Val
  w : ByteArray
  n : ByteArray
  a : Option Addr
  l : Nat
  c : Nat
abbrev xcells (o : ByteArray) (k i : Int) (s : ByteArray) (a : Option Addr) (n c : Nat) (w nm : ByteArray) (pa : Option Addr) (pl pc : Nat) : List Value :=
  [.string o, .int .i64 k, .int .i64 i, .string s, .slice a n c, .string w, .string nm, .slice pa pl pc]
def XV.cells (X : XV) : List Value := xcells X.o X.x.k X.x.i X.x.s X.x.a X.x.n X.x.c X.w X.n X.a X.l X.c
def XV.v (X : XV) : Value := .agg #[.string X.o, .int .i64 X.x.k, .int .i64 X.x.i, .string X.x.s, .slice X.x.a X.x.n X.x.c, .string X.w, .string X.n, .slice X.a X.l X.c]
set_option maxRecDepth 100000 in
theorem XV.v_cells (X : XV) : X.v = .agg X.cells.toArray := rfl
/-- a value in memory, in blocks of B -/
structure ValIs (B : Nat → Prop) (w : World) (x : Val) (v : PV) : Prop where
  k : x.k = v.k
  i : x.i = v.i
  s : x.s = v.s
  len : v.l.length = x.n
  list : ∃ g o, ListAt w x.a g o v.l ∧ (v.l ≠ [] → B g)
  size : x.s.size ≤ maxLen
  most : x.n ≤ maxLen
set_option maxRecDepth 100000 in
theorem ValIs.full {B : Nat → Prop} {w : World} {x : Val} {v : PV} (h : ValIs B w x v) : Full w x v.l := by
  obtain ⟨g, o, h1, -⟩ := h.list
  exact ⟨⟨g, o, h1⟩, h.len, h.size, h.most⟩
/-- what keeps blocks of B -/
def KeptB (B : Nat → Prop) (w w' : World) : Prop := ∀ k, B k → k < w.heap.size → w'.heap[k]? = w.heap[k]?
set_option maxRecDepth 100000 in
theorem KeptB.cell {B : Nat → Prop} {w w' : World} (h : KeptB B w w') {p : Addr} (hb : B p.block) {v : Value} (hv : w.cell? p = some v) : w'.cell? p = some v := by
  rw [World.cell?_of_block (w := w) (h p.block hb (block_lt_of_cell hv))]
  exact hv
set_option maxRecDepth 100000 in
theorem KeptB.of_kept1 {b : Nat} {w w' : World} (h : Kept1 b w w') : KeptB (· ≠ b) w w' := fun k hk hl => h.block k hl hk
set_option maxRecDepth 100000 in
theorem KeptB.of_below {B : Nat → Prop} {w w' : World} (h : Below w.heap.size w w') : KeptB B w w' := fun k _ hl => h.block k hl
set_option maxRecDepth 100000 in
theorem ValIs.kept {B : Nat → Prop} {w w' : World} {x : Val} {v : PV} (h : ValIs B w x v) (hk : KeptB B w w') : ValIs B w' x v := by
  obtain ⟨g, o, h1, h2⟩ := h.list
  refine ⟨h.k, h.i, h.s, h.len, ⟨g, o, ?_, h2⟩, h.size, h.most⟩
  have hB : ∀ j, j < v.l.length → B g := fun j hj => h2 (by intro e; rw [e] at hj; cases hj)
  exact ⟨h1.at', fun j hj => hk.cell (p := ⟨g, o + j * 4, none⟩) (hB j hj) (h1.c0 j hj), fun j hj => hk.cell (p := ⟨g, o + j * 4 + 1, none⟩) (hB j hj) (h1.c1 j hj), fun j hj => hk.cell (p := ⟨g, o + j * 4 + 2, none⟩) (hB j hj) (h1.c2 j hj), fun j hj => hk.cell (p := ⟨g, o + j * 4 + 3, none⟩) (hB j hj) (h1.c3 j hj), h1.size⟩
set_option maxRecDepth 100000 in
theorem ValIs.mono {B B' : Nat → Prop} {w : World} {x : Val} {v : PV} (h : ValIs B w x v) (hb : ∀ k, k < w.heap.size → B k → B' k) : ValIs B' w x v := by
  obtain ⟨g, o, h1, h2⟩ := h.list
  refine ⟨h.k, h.i, h.s, h.len, ⟨g, o, h1, fun hne => ?_⟩, h.size, h.most⟩
  exact hb g (block_lt_of_cell (h1.c0 0 (List.length_pos_iff.2 hne))) (h2 hne)
set_option maxRecDepth 100000 in
theorem listAt_none (w : World) (ad : Option Addr) : ListAt w ad 0 0 [] :=
  ⟨fun h => absurd rfl h, (fun j hj => absurd hj (by simp)), (fun j hj => absurd hj (by simp)), (fun j hj => absurd hj (by simp)), (fun j hj => absurd hj (by simp)), (fun x hx => by cases hx)⟩
set_option maxRecDepth 100000 in
theorem valIs_bare (B : Nat → Prop) (w : World) (k i : Int) (s : ByteArray) (hs : s.size ≤ maxLen) : ValIs B w ⟨k, i, s, none, 0, 0⟩ ⟨k, i, s, []⟩ :=
  ⟨rfl, rfl, rfl, rfl, ⟨0, 0, listAt_none _ _, fun h => absurd rfl h⟩, hs, Nat.zero_le _⟩
set_option maxRecDepth 100000 in
theorem valIs_none (B : Nat → Prop) (w : World) : ValIs B w ⟨0, 0, ⟨#[]⟩, none, 0, 0⟩ noPV := valIs_bare B w 0 0 ⟨#[]⟩ (by decide)
set_option maxRecDepth 100000 in
/-- a tree in memory, in blocks of B -/
inductive TrAt (B : Nat → Prop) (w : World) : Tr → XV → Prop
  | mk {op : List UInt8} {v : PV} {who name : List UInt8} {ps : List Tr} (X : XV) (ho : X.o = st op) (hw : X.w = st who) (hn : X.n = st name) (hv : ValIs B w X.x v) (hl : X.l = ps.length) (g o : Nat) (Xs : Nat → XV)
      (had : ps ≠ [] → X.a = some ⟨g, o, none⟩ ∧ B g) (hfr : ¬ B 0 → ps ≠ [] → ∃ C T, w.heap[g]? = some (.cells C T (0, 0))) (hp : ∀ i, (h : i < ps.length) → TrAt B w ps[i] (Xs i)) (hc : ∀ i, i < ps.length → ∀ j, j < 8 → w.cell? ⟨g, o + i * 8 + j, none⟩ = (Xs i).cells[j]?) : TrAt B w (.mk op v who name ps) X
theorem XV.cell_lt (X : XV) {j : Nat} (h : j < 8) : ∃ v, X.cells[j]? = some v := by
  have : X.cells.length = 8 := rfl
  exact ⟨X.cells[j], List.getElem?_eq_getElem (by omega)⟩
set_option maxRecDepth 100000 in
theorem TrAt.kept {B : Nat → Prop} {w w' : World} (hk : KeptB B w w') {t : Tr} {X : XV} (h : TrAt B w t X) : TrAt B w' t X := by
  induction h with
  | @mk op v who name ps X ho hw hn hv hl g o Xs had hfr hp hc ih =>
    refine .mk X ho hw hn (hv.kept hk) hl g o Xs had (fun hb hne => by
      obtain ⟨C, T, hg⟩ := hfr hb hne
      exact ⟨C, T, (hk g (had hne).2 (lt_block hg)).trans hg⟩) (fun i hi => ih i hi) fun i hi j hj => ?_
    obtain ⟨u, hu⟩ := (Xs i).cell_lt hj
    rw [hu]
    have h0 := hc i hi j hj
    rw [hu] at h0
    exact hk.cell (p := ⟨g, o + i * 8 + j, none⟩) (had (by intro e; rw [e] at hi; cases hi)).2 h0
set_option maxRecDepth 100000 in
theorem TrAt.mono {B B' : Nat → Prop} {w : World} (hb : ∀ k, k < w.heap.size → B k → B' k) {t : Tr} {X : XV} (h : TrAt B w t X) : TrAt B' w t X := by
  induction h with
  | @mk op v who name ps X ho hw hn hv hl g o Xs had hfr hp hc ih =>
    have hB0 : ¬ B' 0 → ps ≠ [] → ¬ B 0 := fun h1 hne h2 => by
      refine h1 (hb 0 ?_ h2)
      obtain ⟨u, hu⟩ := (Xs 0).cell_lt (j := 0) (by omega)
      have h0 := hc 0 (List.length_pos_iff.2 hne) 0 (by omega)
      rw [hu] at h0
      have := block_lt_of_cell h0
      omega
    refine .mk X ho hw hn (hv.mono hb) hl g o Xs (fun hne => ⟨(had hne).1, hb g ?_ (had hne).2⟩) (fun h1 hne => hfr (hB0 h1 hne) hne) (fun i hi => ih i hi) hc
    have hi : 0 < ps.length := List.length_pos_iff.2 hne
    obtain ⟨u, hu⟩ := (Xs 0).cell_lt (j := 0) (by omega)
    have h0 := hc 0 hi 0 (by omega)
    rw [hu] at h0
    exact block_lt_of_cell h0
set_option maxRecDepth 100000 in
theorem TrAt.kept1 {b : Nat} {w w' : World} {t : Tr} {X : XV} (h : TrAt (· ≠ b) w t X) (hk : Kept1 b w w') : TrAt (· ≠ b) w' t X := h.kept (.of_kept1 hk)
set_option maxRecDepth 100000 in
theorem TrAt.low {B : Nat → Prop} {w w' : World} {t : Tr} {X : XV} (h : TrAt B w t X) (hk : Below w.heap.size w w') : TrAt B w' t X := h.kept (.of_below hk)
set_option maxRecDepth 100000 in
/-- a tree without parts -/
theorem trAt_leaf {B : Nat → Prop} {w : World} {op who name : List UInt8} {v : PV} (x : Val) (hv : ValIs B w x v) (a : Option Addr) (c : Nat) : TrAt B w (.mk op v who name []) ⟨st op, x, st who, st name, a, 0, c⟩ :=
  .mk _ rfl rfl rfl hv rfl 0 0 (fun _ => ⟨⟨#[]⟩, x, ⟨#[]⟩, ⟨#[]⟩, none, 0, 0⟩) (fun h => absurd rfl h) (fun _ h => absurd rfl h) (fun i hi => absurd hi (by simp)) (fun i hi => absurd hi (by simp))
set_option maxRecDepth 100000 in
theorem trAt_one {B : Nat → Prop} {w : World} {op : List UInt8} {t : Tr} {X : XV} (h : TrAt B w t X) {g : Nat} {T : TypeId} (hg : w.heap[g]? = some (.cells X.cells.toArray T (0, 0))) (hB : B g) (c : Nat) :
    TrAt B w (mk1 op t) ⟨st op, ⟨0, 0, ⟨#[]⟩, none, 0, 0⟩, ⟨#[]⟩, ⟨#[]⟩, some ⟨g, 0, none⟩, 1, c⟩ := by
  refine .mk _ rfl rfl rfl (valIs_none B w) rfl g 0 (fun _ => X) (fun _ => ⟨rfl, hB⟩) (fun _ _ => ⟨_, _, hg⟩) (fun i hi => ?_) (fun i hi j hj => ?_)
  · obtain rfl : i = 0 := by simpa using hi
    exact h
  · obtain rfl : i = 0 := by simpa using hi
    rw [cell_block hg]; simp
set_option maxRecDepth 100000 in
theorem trAt_two {B : Nat → Prop} {w : World} {op : List UInt8} {t u : Tr} {X Y : XV} (h : TrAt B w t X) (k : TrAt B w u Y) {g : Nat} {T : TypeId} (hg : w.heap[g]? = some (.cells (X.cells ++ Y.cells).toArray T (0, 0))) (hB : B g) (c : Nat) :
    TrAt B w (mk2 op t u) ⟨st op, ⟨0, 0, ⟨#[]⟩, none, 0, 0⟩, ⟨#[]⟩, ⟨#[]⟩, some ⟨g, 0, none⟩, 2, c⟩ := by
  have hX : X.cells.length = 8 := rfl
  refine .mk _ rfl rfl rfl (valIs_none B w) rfl g 0 (fun i => if i = 0 then X else Y) (fun _ => ⟨rfl, hB⟩) (fun _ _ => ⟨_, _, hg⟩) (fun i hi => ?_) (fun i hi j hj => ?_)
  · have hi' : i = 0 ∨ i = 1 := by simp at hi; omega
    rcases hi' with rfl | rfl
    · exact h
    · exact k
  · have hi' : i = 0 ∨ i = 1 := by simp at hi; omega
    rw [cell_block hg]
    rcases hi' with rfl | rfl
    · simp only [Nat.zero_mul, Nat.zero_add, List.getElem?_toArray, if_true]
      rw [List.getElem?_append_left (by omega)]
    · simp only [Nat.one_mul, Nat.zero_add, List.getElem?_toArray, Nat.one_ne_zero, if_false]
      rw [List.getElem?_append_right (by omega)]
      congr 1; omega
/-- what a call that reads an expression leaves -/
def PostT (I : RI) (w : World) (r : Tr × PS) (e : Ending) (w' : World) : Prop := ∃ X : XV, e = .returned X.v ∧ TrAt (w.heap.size ≤ ·) w' r.1 X ∧ Rd I w' r.2 ∧ Kept1 I.b w w'
set_option maxRecDepth 100000 in
theorem Kept1.across {b g : Nat} {w w1 W : World} (hk : Kept1 b w w1) (hW : Kept1 g w1 W) (hg : w.heap.size ≤ g) : Kept1 b w W :=
  ⟨hW.os.trans hk.os, hW.tape.trans hk.tape, hW.output.trans hk.output, Nat.le_trans hk.size hW.size, fun k hl hb => (hW.block k (Nat.lt_of_lt_of_le hl hk.size) (by omega)).trans (hk.block k hl hb)⟩
set_option maxRecDepth 100000 in
theorem kept_set8 {w : World} (g : Nat) (x0 x1 x2 x3 x4 x5 x6 x7 : Value) :
    Kept1 g w ((((((((w.setCell ⟨g, 0, none⟩ x0).setCell ⟨g, 1, none⟩ x1).setCell ⟨g, 2, none⟩ x2).setCell ⟨g, 3, none⟩ x3).setCell ⟨g, 4, none⟩ x4).setCell ⟨g, 5, none⟩ x5).setCell ⟨g, 6, none⟩ x6).setCell ⟨g, 7, none⟩ x7) :=
  Kept1.setCell (p := ⟨g, 7, none⟩) (hp := .inl rfl) (u := x7) <| Kept1.setCell (p := ⟨g, 6, none⟩) (hp := .inl rfl) (u := x6) <| Kept1.setCell (p := ⟨g, 5, none⟩) (hp := .inl rfl) (u := x5) <| Kept1.setCell (p := ⟨g, 4, none⟩) (hp := .inl rfl) (u := x4) <|
    Kept1.setCell (p := ⟨g, 3, none⟩) (hp := .inl rfl) (u := x3) <| Kept1.setCell (p := ⟨g, 2, none⟩) (hp := .inl rfl) (u := x2) <| Kept1.setCell (p := ⟨g, 1, none⟩) (hp := .inl rfl) (u := x1) <| Kept1.setCell (p := ⟨g, 0, none⟩) (hp := .inl rfl) (u := x0) <| Kept1.refl g w
set_option maxRecDepth 100000 in
theorem heap_set8 {w : World} {g : Nat} {y0 y1 y2 y3 y4 y5 y6 y7 : Value} {T : TypeId} (h : w.heap[g]? = some (.cells #[y0, y1, y2, y3, y4, y5, y6, y7] T (0, 0))) (x0 x1 x2 x3 x4 x5 x6 x7 : Value) :
    ((((((((w.setCell ⟨g, 0, none⟩ x0).setCell ⟨g, 1, none⟩ x1).setCell ⟨g, 2, none⟩ x2).setCell ⟨g, 3, none⟩ x3).setCell ⟨g, 4, none⟩ x4).setCell ⟨g, 5, none⟩ x5).setCell ⟨g, 6, none⟩ x6).setCell ⟨g, 7, none⟩ x7).heap[g]? = some (.cells #[x0, x1, x2, x3, x4, x5, x6, x7] T (0, 0)) := by
  have h0 := heap_setCell_same w g 0 _ T x0 h
  have h1 := heap_setCell_same _ g 1 _ T x1 h0
  have h2 := heap_setCell_same _ g 2 _ T x2 h1
  have h3 := heap_setCell_same _ g 3 _ T x3 h2
  have h4 := heap_setCell_same _ g 4 _ T x4 h3
  have h5 := heap_setCell_same _ g 5 _ T x5 h4
  have h6 := heap_setCell_same _ g 6 _ T x6 h5
  have h7 := heap_setCell_same _ g 7 _ T x7 h6
  simpa using h7
set_option maxRecDepth 100000 in
/-- the result's own block is written at the end -/
theorem fin8 {I : RI} {w w1 W : World} {p : PS} {r : Tr × PS} {X : XV} {N g : Nat} (h : Rd I w p) (ht : TrAt (N ≤ ·) w1 r.1 X) (hr : Rd I w1 r.2) (hk : Kept1 I.b w w1) (hg : w.heap.size ≤ g) (hN : g < N) (hW : Kept1 g w1 W) : PostT I w r (.returned X.v) W := by
  have hkW := hk.across hW hg
  have hlt := h.lt
  refine ⟨X, rfl, (ht.kept (fun k hk' hl => hW.block k hl (by omega))).mono (fun k _ hk' => by show w.heap.size ≤ k; omega), ?_, hkW⟩
  exact h.kept hkW ((hW.block I.b (by have := hr.lt; omega) (by omega)).trans hr.blk) hr.at' hr.err
set_option maxRecDepth 100000 in
theorem below_set8 {m : Nat} {a w : World} (h : Below m a w) (g : Nat) (hg : m ≤ g) (x0 x1 x2 x3 x4 x5 x6 x7 : Value) :
    Below m a ((((((((w.setCell ⟨g, 0, none⟩ x0).setCell ⟨g, 1, none⟩ x1).setCell ⟨g, 2, none⟩ x2).setCell ⟨g, 3, none⟩ x3).setCell ⟨g, 4, none⟩ x4).setCell ⟨g, 5, none⟩ x5).setCell ⟨g, 6, none⟩ x6).setCell ⟨g, 7, none⟩ x7) :=
  (((((((h.setCell hg _).setCell hg _).setCell hg _).setCell hg _).setCell hg _).setCell hg _).setCell hg _).setCell hg _
set_option maxRecDepth 100000 in
theorem made_any (w : World) (s : ByteArray) (ad : Option Addr) (n c : Nat) :
    Calls Tryz.prog 88 #[.string s, .slice ad n c] w fun e w' => e = .returned (XV.v ⟨s, ⟨0, 0, ⟨#[]⟩, none, 0, 0⟩, ⟨#[]⟩, ⟨#[]⟩, ad, n, c⟩) ∧ Below w.heap.size w w' := by
  go_enter Tryz.func88, Tryz.ntmps88
  go_wp2
  exact bodyPost_ret (v := XV.v ⟨s, ⟨0, 0, ⟨#[]⟩, none, 0, 0⟩, ⟨#[]⟩, ⟨#[]⟩, ad, n, c⟩) (by simp [results, Tryz.results88, go_sem, XV.v]) rfl ⟨rfl, by first | exact (Below.refl _ _).alloc (Nat.le_refl _) _ | exact below_set8 ((Below.refl _ _).alloc (Nat.le_refl _) _) _ (Nat.le_refl _) _ _ _ _ _ _ _ _⟩
end Go.Proofs.YtllgodaphoncnaaGreatDoor
