/- Tokens and bytes that came in; Whether a token is formed, be its text as long as may be. -/
import Derived.Test.YtllgodaphoncnaaGreatDoorJ23
import Derived.ShutString
import Derived.ChangeOld
import Derived.Below
import Derived.Lib.SmallJoins
import Derived.Deep.Slices
import Derived.Test.YtllgodaphoncnaaGreatDoorJ22
namespace Go.Proofs.YtllgodaphoncnaaGreatDoor
open Go.ChangeShapes Go.WideShapes Go.ChangeAt Go.RowKit Go.Joins Go.Deep

section
variable {H : Type} {enc : TypeId × Value → H} {w : World} {base : Nat} {spare : Nat → Bool} {held : Bool} {P : Program}
/-- elements in memory, one behind the other -/
structure RowsAt (w : World) (ad : Option Addr) (g o k : Nat) {α : Type} (f : α → List Value) (l : List α) : Prop where
  addr : l ≠ [] → ad = some ⟨g, o, none⟩
  cell : ∀ i, (h : i < l.length) → ∀ j, j < k → w.cell? ⟨g, o + i * k + j, none⟩ = (f l[i])[j]?
set_option maxRecDepth 100000 in
theorem rows_of_trod {α : Type} [Inhabited α] (f : α → List Value) (p : α → Prop) {t e : TypeId} {k : Nat} (hu : P.underlying t = some (.slice e)) (hc : P.cellsOf e = k) (hk : 0 < k)
    (hel : ∀ (fuel : Nat) (cs : List Value) (d : DataW H × List MemPlace), DataW.trod enc P w base spare held fuel e cs = some d → ∃ x : α, cs = f x ∧ p x) (hfl : ∀ x, p x → (f x).length = k)
    {fuel : Nat} {ad : Option Addr} {len cap : Nat} {d : DataW H × List MemPlace} (h : DataW.trod enc P w base spare held fuel t [.slice ad len cap] = some d) :
    ∃ (l : List α) (g o : Nat), l.length = len ∧ len ≤ maxLen ∧ RowsAt w ad g o k f l ∧ ∀ x ∈ l, p x := by
  have rnil : ∀ ad, RowsAt w ad 0 0 k f ([] : List α) := fun ad => ⟨fun h => absurd rfl h, fun i hi => by cases hi⟩
  rcases open_slice hu h with ⟨e, _⟩ | ⟨a, len', cap', m, n, D, Pl, e, hb, hl, hm, hmm, hx, hi⟩
  · simp only [List.cons.injEq, and_true, Value.slice.injEq] at e
    obtain ⟨rfl, rfl, rfl⟩ := e
    exact ⟨[], 0, 0, rfl, Nat.zero_le _, rnil _, fun x hx => by cases hx⟩
  · simp only [List.cons.injEq, and_true, Value.slice.injEq] at e
    obtain ⟨rfl, rfl, rfl⟩ := e
    have hlm : len ≤ m := by rw [hmm]; split <;> omega
    rw [hc] at hi
    have hel' : ∀ i, i < len → ∃ x : α, w.cells? base (a.add (i * k)) k = some (f x) ∧ p x := by
      intro i hi'
      obtain ⟨cs', h1, h2⟩ := hi i (by omega)
      obtain ⟨x, rfl, hp⟩ := hel _ _ _ h2
      exact ⟨x, h1, hp⟩
    obtain ⟨F, hF⟩ := choose_lt hel'
    rcases Nat.eq_zero_or_pos len with rfl | hpos
    · exact ⟨[], 0, 0, rfl, Nat.zero_le _, rnil _, fun x hx => by cases hx⟩
    obtain ⟨b, off, spot⟩ := a
    have hspot : spot = none := by
      have h0 := (World.cells?_some (hF 0 hpos).1).2.2 0 hk
      rw [List.getElem?_eq_getElem (by rw [hfl _ (hF 0 hpos).2]; exact hk)] at h0
      simpa [Addr.add] using World.cell?_spot h0
    subst hspot
    have hln : ((List.range len).map F).length = len := by simp
    refine ⟨(List.range len).map F, b, off, hln, by omega, ⟨fun _ => rfl, fun i hi' j hj => ?_⟩, fun x hx => ?_⟩
    · have hi2 : i < len := by omega
      have := (World.cells?_some (hF i hi2).1).2.2 j hj
      rw [Go.WideShapes.add_plain, Go.WideShapes.add_plain] at this
      simpa using this
    · obtain ⟨i, hi', rfl⟩ := List.mem_map.1 hx
      exact (hF i (by simpa using hi')).2
end
/-- what a token may be at all -/
structure Tk.Wide (t : Tk) : Prop where
  k0 : -9223372036854775808 ≤ t.k
  k1 : t.k ≤ 9223372036854775807
  n0 : -9223372036854775808 ≤ t.n
  n1 : t.n ≤ 9223372036854775807
  s : t.s.length ≤ maxLen
set_option maxRecDepth 100000 in
theorem Tk.Wide.ok {t : Tk} (h : t.Wide) (hs : t.s.length ≤ 1000000) : t.Ok := ⟨h.k0, h.k1, h.n0, h.n1, hs⟩
instance : Inhabited Tk := ⟨noTk⟩
section
variable {H : Type} {enc : TypeId × Value → H} {w : World} {base : Nat} {spare : Nat → Bool} {held : Bool} {r : Reach} {b0 : Nat}
set_option maxRecDepth 100000 in
theorem tok_of_trod {fuel : Nat} {cs : List Value} {d : DataW H × List MemPlace} (h : DataW.trod enc Tryz.prog w base spare held fuel 41 cs = some d) : ∃ t : Tk, cs = t.cells ∧ t.Wide := by
  obtain ⟨xs, n, _, rfl, hlen, hxl, hf⟩ := DataW.trod_struct Tryz.underlying41 h
  have k0 := hf 0 _ rfl
  have k1 := hf 1 _ rfl
  have k2 := hf 2 _ rfl
  have hc : Tryz.prog.cellsOf 41 = 3 := by kernel_rfl
  rw [hc] at hlen
  match xs, hxl with
  | [y0, y1, y2], _ =>
    match cs, hlen with
    | [v0, v1, v2], _ =>
      simp only [List.getElem?_cons_zero, List.getElem?_cons_succ] at k0 k1 k2
      obtain ⟨kc, e0, _, wk⟩ := DataW.trod_int Tryz.underlying3 k0
      obtain ⟨s, e1, _, hs⟩ := DataW.trod_string Tryz.underlying9 k1
      obtain ⟨i, e2, _, wi⟩ := DataW.trod_int Tryz.underlying2 k2
      simp [Lit.wf] at wi wk
      obtain rfl : v0 = _ := (List.cons.inj e0).1
      obtain rfl : v1 = _ := (List.cons.inj e1).1
      obtain rfl : v2 = _ := (List.cons.inj e2).1
      exact ⟨⟨kc, s.data.toList, i⟩, by unfold Tk.cells; rw [st_data], ⟨wk.1, wk.2, wi.1, wi.2, hs⟩⟩
set_option maxRecDepth 100000 in
theorem tok_of_arg {v : Value} {d : DataW H} {p : List MemPlace} (hv : Value.okWide Tryz.prog w r b0 41 v) (h : DataW.Trod enc Tryz.prog w base spare held 41 v d p) : ∃ t : Tk, v = t.val ∧ t.Wide := by
  simp only [Value.okWide, Tryz.underlying41] at hv
  obtain ⟨cs, rfl, hsz, _⟩ := hv
  obtain ⟨fuel, hf⟩ := h
  have hcs : (Value.cells (.agg cs)).toList = cs.toList := by simp [Value.cells]
  rw [hcs] at hf
  obtain ⟨t, e, hw⟩ := tok_of_trod hf
  exact ⟨t, by unfold Tk.val; rw [← e], hw⟩
/-- tokens that came in -/
abbrev TokAt (w : World) (ad : Option Addr) (g o : Nat) (l : List Tk) : Prop := RowsAt w ad g o 3 Tk.cells l
set_option maxRecDepth 100000 in
theorem toks_of_trod {fuel : Nat} {ad : Option Addr} {len cap : Nat} {d : DataW H × List MemPlace} (h : DataW.trod enc Tryz.prog w base spare held fuel 30 [.slice ad len cap] = some d) :
    ∃ (l : List Tk) (g o : Nat), l.length = len ∧ len ≤ maxLen ∧ TokAt w ad g o l ∧ ∀ x ∈ l, x.Wide :=
  rows_of_trod (α := Tk) Tk.cells Tk.Wide Tryz.underlying30 (k := 3) (by kernel_rfl) (by omega) (fun _ _ _ h => tok_of_trod h) (fun _ _ => rfl) h
/-- bytes that came in -/
abbrev BytAt (w : World) (ad : Option Addr) (g o : Nat) (l : List UInt8) : Prop := RowsAt w ad g o 1 (fun b : UInt8 => [Value.int .u8 (b.toNat : Int)]) l
set_option maxRecDepth 100000 in
theorem bytes_of_trod {fuel : Nat} {ad : Option Addr} {len cap : Nat} {d : DataW H × List MemPlace} (h : DataW.trod enc Tryz.prog w base spare held fuel 143 [.slice ad len cap] = some d) :
    ∃ (l : List UInt8) (g o : Nat), l.length = len ∧ len ≤ maxLen ∧ BytAt w ad g o l := by
  obtain ⟨l, g, o, h1, h2, h3, _⟩ := rows_of_trod (α := UInt8) (fun b => [Value.int .u8 (b.toNat : Int)]) (fun _ => True) Tryz.underlying143 (k := 1) (by kernel_rfl) (by omega) (fun _ _ _ h => by
    obtain ⟨n, e, _, wn⟩ := DataW.trod_int Tryz.underlying5 h
    have hb : 0 ≤ n ∧ n ≤ 255 := by
      simp [Lit.wf] at wn
      exact wn
    exact ⟨UInt8.ofNat n.toNat, by rw [e]; congr 2; simp; omega, trivial⟩) (fun _ _ => rfl) h
  exact ⟨l, g, o, h1, h2, h3⟩
end
end Go.Proofs.YtllgodaphoncnaaGreatDoor
namespace Go.Proofs.YtllgodaphoncnaaGreatDoor
open Go.RowKit

set_option maxRecDepth 100000 in
set_option maxHeartbeats 1000000 in
theorem isWordW_any (w : World) (l : List UInt8) (hl : l.length ≤ maxLen) : Calls Tryz.prog 79 #[.string (st l)] w fun e w' => e = .returned (.bool (wordB l)) ∧ w = w' := by
  unfold maxLen at hl
  have HR := Lib.hid (fun h : decide (l.length ≤ 64) = true => runW_any w l (by have := of_decide_eq_true h; omega))
  have hsz := size_st l
  have htl := toList_st l
  cases l with
  | nil =>
    clear HR
    have hs0 : (st []).size = 0 := rfl
    clear hsz
    go_enter Tryz.func79, Tryz.ntmps79
    go_wp2
    go_ret
    exact ⟨rfl, rfl⟩
  | cons c r =>
    have hix := run_index_st w (c :: r) 0 c rfl
    have hix : (Instr.index 9 (.string (st (c :: r))) (.int .i64 0)).run Tryz.prog w = .ok (.int .u8 (c.toNat : Int)) w := hix
    have HL := Lib.hid (isLetter_any w c)
    have e : wordB (c :: r) = (decide ((c :: r).length ≤ 64) && (letB c && decide (runN innB (c :: r) = (c :: r).length))) := rfl
    rw [e]
    clear e
    obtain ⟨l, hll⟩ : ∃ l, c :: r = l := ⟨_, rfl⟩
    have hne : (l == []) = false := by rw [← hll]; rfl
    rw [hll] at HR hsz htl hix hl ⊢
    clear hll
    obtain ⟨s, hs⟩ : ∃ s, st l = s := ⟨_, rfl⟩
    rw [hs] at HR hsz htl hix ⊢
    clear hs
    obtain ⟨b, hb⟩ : ∃ b, letB c = b := ⟨_, rfl⟩
    rw [hb] at HL ⊢
    clear hb
    obtain ⟨R, hR⟩ : ∃ R, runN innB l = R := ⟨_, rfl⟩
    rw [hR] at HR ⊢
    clear hR
    have d1 := dint l.length 64
    have d2 := deqi R l.length
    obtain ⟨b1, hb1⟩ : ∃ b, decide (l.length ≤ 64) = b := ⟨_, rfl⟩
    obtain ⟨b2, hb2⟩ : ∃ b, decide (R = l.length) = b := ⟨_, rfl⟩
    rw [hb1] at d1 HR ⊢
    rw [hb2] at d2 ⊢
    have d1 : decide ((l.length : Int) ≤ 64) = b1 := d1
    clear hb1 hb2
    go_enter Tryz.func79, Tryz.ntmps79
    cases b1 with
    | true =>
      go_wp2_with fail
      refine HL.out.mono ?_
      rintro e w' ⟨rfl, rfl⟩
      cases b with
      | false =>
        go_wp2_with fail
        go_ret
        exact ⟨rfl, rfl⟩
      | true =>
        go_wp2_with fail
        refine (HR.out trivial).mono ?_
        rintro e w' ⟨rfl, rfl⟩
        go_wp2_with fail
        go_ret
        exact ⟨rfl, rfl⟩
    | false =>
      go_wp2_with fail
      go_ret
      exact ⟨rfl, rfl⟩
set_option maxRecDepth 100000 in
set_option maxHeartbeats 1000000 in
theorem isTextW_any (w : World) (l : List UInt8) (hl : l.length ≤ maxLen) : Calls Tryz.prog 80 #[.string (st l)] w fun e w' => e = .returned (.bool (textB l)) ∧ w = w' := by
  unfold maxLen at hl
  have HR := Lib.hid (fun h : decide (l.length ≤ 64) = true => runP_any w l (by have := of_decide_eq_true h; omega))
  have hsz := size_st l
  unfold textB
  obtain ⟨s, hs⟩ : ∃ s, st l = s := ⟨_, rfl⟩
  rw [hs] at HR hsz ⊢
  clear hs
  obtain ⟨R, hR⟩ : ∃ R, runN plaB l = R := ⟨_, rfl⟩
  rw [hR] at HR ⊢
  clear hR
  have d1 := dint l.length 64
  have d2 := deqi R l.length
  obtain ⟨b1, hb1⟩ : ∃ b, decide (l.length ≤ 64) = b := ⟨_, rfl⟩
  obtain ⟨b2, hb2⟩ : ∃ b, decide (R = l.length) = b := ⟨_, rfl⟩
  rw [hb1] at d1 HR ⊢
  rw [hb2] at d2 ⊢
  have d1 : decide ((l.length : Int) ≤ 64) = b1 := d1
  clear hb1 hb2
  go_enter Tryz.func80, Tryz.ntmps80
  cases b1 with
  | true =>
    go_wp2_with fail
    refine (HR.out trivial).mono ?_
    rintro e w' ⟨rfl, rfl⟩
    go_wp2_with fail
    go_ret
    exact ⟨rfl, rfl⟩
  | false =>
    go_wp2_with fail
    go_ret
    exact ⟨rfl, rfl⟩
set_option maxRecDepth 100000 in
set_option maxHeartbeats 2000000 in
theorem wformed_any (w : World) (hw : LexW w) (t : Tk) (ht : t.Wide) : Calls Tryz.prog 53 #[t.val] w fun e w' => e = .returned (.bool (formB t)) ∧ Below w.heap.size w w' := by
  obtain ⟨k, l, n⟩ := t
  have hb : ∀ o, Below w.heap.size w (w.alloc o) := fun o => (Below.refl _ _).alloc (Nat.le_refl _) _
  have HW := Lib.hid (fun o => isWordW_any (w.alloc o) l ht.s)
  have HT := Lib.hid (fun o => isTextW_any (w.alloc o) l ht.s)
  have HS := Lib.hid (fun o => isSign_any (w.alloc o) (hw.below (hb o)) l)
  have HB := Lib.hid hb
  have htl := toList_st l
  obtain ⟨_, _, _, _, _⟩ := ht
  clear hw hb
  unfold Tk.val Tk.cells formB
  dsimp only
  obtain ⟨s, hs⟩ : ∃ s, st l = s := ⟨_, rfl⟩
  rw [hs] at HW HT HS htl ⊢
  have dn : ((n == 0)) = decide (n = 0) := by
    by_cases h : n = 0
    · subst h; rfl
    · rw [decide_eq_false h]; simpa using h
  have dl : (l == []) = l.isEmpty := by cases l <;> rfl
  obtain ⟨bn, hbn⟩ : ∃ b, decide (n = 0) = b := ⟨_, rfl⟩
  obtain ⟨bw, hbw⟩ : ∃ b, wordB l = b := ⟨_, rfl⟩
  obtain ⟨bt, hbt⟩ : ∃ b, textB l = b := ⟨_, rfl⟩
  obtain ⟨bs, hbs⟩ : ∃ b, signB l = b := ⟨_, rfl⟩
  obtain ⟨bl, hbl⟩ : ∃ b, l.isEmpty = b := ⟨_, rfl⟩
  obtain ⟨b0, hb0⟩ : ∃ b, decide (0 ≤ n) = b := ⟨_, rfl⟩
  obtain ⟨bm, hbm⟩ : ∃ b, decide (n ≤ 1099511627776) = b := ⟨_, rfl⟩
  rw [hbw] at HW
  rw [hbt] at HT
  rw [hbs] at HS
  rw [hbn] at dn
  rw [hbl] at dl
  rw [hbn, hbw, hbt, hbs, hbl, hb0, hbm]
  clear hbw hbt hbs hs hbn hbl
  by_cases h1 : k = 1
  · subst h1
    rw [if_pos rfl]
    clear hb0 hbm
    go_enter Tryz.func53, Tryz.ntmps53
    cases bn with
    | true =>
      go_wp2_with fail
      refine (HW.out _).mono ?_
      rintro e w' ⟨rfl, rfl⟩
      go_wp2_with fail
      go_ret
      exact ⟨by simp, HB.out _⟩
    | false =>
      go_wp2_with fail
      go_ret
      exact ⟨by simp, HB.out _⟩
  · have k1 : (k == 1) = false := by simpa using h1
    rw [if_neg h1]
    by_cases h2 : k = 2
    · subst h2
      rw [if_pos rfl]
      go_enter Tryz.func53, Tryz.ntmps53
      cases bl <;> cases b0 <;>
      ( go_wp2_with fail
        go_ret
        exact ⟨by simp, HB.out _⟩)
    · have k2 : (k == 2) = false := by simpa using h2
      rw [if_neg h2]
      by_cases h3 : k = 3
      · subst h3
        rw [if_pos rfl]
        clear hb0 hbm
        go_enter Tryz.func53, Tryz.ntmps53
        cases bn with
        | true =>
          go_wp2_with fail
          refine (HT.out _).mono ?_
          rintro e w' ⟨rfl, rfl⟩
          go_wp2_with fail
          go_ret
          exact ⟨by simp, HB.out _⟩
        | false =>
          go_wp2_with fail
          go_ret
          exact ⟨by simp, HB.out _⟩
      · have k3 : (k == 3) = false := by simpa using h3
        rw [if_neg h3]
        by_cases h4 : k = 4
        · subst h4
          rw [if_pos rfl]
          go_enter Tryz.func53, Tryz.ntmps53
          cases bl <;> cases b0 <;> cases bm <;>
          ( go_wp2_with fail
            go_ret
            exact ⟨by simp, HB.out _⟩)
        · have k4 : (k == 4) = false := by simpa using h4
          rw [if_neg h4]
          by_cases h5 : k = 5
          · subst h5
            rw [if_pos rfl]
            clear hb0 hbm
            go_enter Tryz.func53, Tryz.ntmps53
            cases bn with
            | true =>
              go_wp2_with fail
              refine (HS.out _).mono ?_
              rintro e w' ⟨rfl, rfl⟩
              go_wp2_with fail
              go_ret
              exact ⟨by simp, HB.out _⟩
            | false =>
              go_wp2_with fail
              go_ret
              exact ⟨by simp, HB.out _⟩
          · have k5 : (k == 5) = false := by simpa using h5
            rw [if_neg h5]
            clear hb0 hbm
            go_enter Tryz.func53, Tryz.ntmps53
            go_wp2_with fail
            go_ret
            exact ⟨rfl, HB.out _⟩
end Go.Proofs.YtllgodaphoncnaaGreatDoor
