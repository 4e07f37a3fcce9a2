/- Whether a token is formed; What the row's list gives a call: the signs, two errors, the powers of ten. -/
import Derived.Test.YtllgodaphoncnaaGreatDoorJ18
import Derived.Test.YtllgodaphoncnaaGreatDoorRows
import Derived.ProofKit
import Derived.OpenShut
import Derived.ShutString
import Derived.ChangeOld
import Derived.Below
import Derived.Deep.DeepHandedRow
import Derived.Lib.LaidTab
import Derived.Stop.LaidErr
import Derived.ChangeArms
namespace Go.Proofs.YtllgodaphoncnaaGreatDoor
open Go.RowKit

set_option maxRecDepth 100000 in
theorem enter_fn (f : FuncId) (h : ∀ args w, (callFunc f args).run Tryz.prog w = .ok (.enter f args) w) : ∀ args w, (callFunc f args).run Tryz.prog w = .ok (.enter f args) w := h
set_option maxRecDepth 100000 in
theorem toList_st (l : List UInt8) : (st l).toList = l := by rw [ByteArray.toList_eq]; rfl
set_option maxRecDepth 100000 in
theorem runW_any (w : World) (l : List UInt8) (hl : l.length ≤ 1000000) : Calls Tryz.prog 108 #[.string (st l), .func (.func 109) #[] #[]] w fun e w' => e = .returned (.int .i64 (runN innB l : Int)) ∧ w = w' :=
  run_any w l 109 innB isInner_any (fun _ _ => by kernel_rfl) hl
set_option maxRecDepth 100000 in
theorem runP_any (w : World) (l : List UInt8) (hl : l.length ≤ 1000000) : Calls Tryz.prog 108 #[.string (st l), .func (.func 114) #[] #[]] w fun e w' => e = .returned (.int .i64 (runN plaB l : Int)) ∧ w = w' :=
  run_any w l 114 plaB isPlain_any (fun _ _ => by kernel_rfl) hl
set_option maxRecDepth 100000 in
theorem runD_any (w : World) (l : List UInt8) (hl : l.length ≤ 1000000) : Calls Tryz.prog 108 #[.string (st l), .func (.func 74) #[] #[]] w fun e w' => e = .returned (.int .i64 (runN digB l : Int)) ∧ w = w' :=
  run_any w l 74 digB isDigit_any (fun _ _ => by kernel_rfl) hl
set_option maxRecDepth 100000 in
set_option maxHeartbeats 1000000 in
theorem isWord_any (w : World) (l : List UInt8) (hl : l.length ≤ 1000000) : Calls Tryz.prog 79 #[.string (st l)] w fun e w' => e = .returned (.bool (wordB l)) ∧ w = w' := by
  have HR := Lib.hid (runW_any w l hl)
  have hsz := size_st l
  have htl := toList_st l
  cases l with
  | nil =>
    clear HR
    have hs0 : (st []).size = 0 := rfl
    clear hsz
    go_enter Tryz.func79, Tryz.ntmps79
    go_wp2
    go_ret
    exact ⟨rfl, rfl⟩
  | cons c r =>
    have hix := run_index_st w (c :: r) 0 c rfl
    have hix : (Instr.index 9 (.string (st (c :: r))) (.int .i64 0)).run Tryz.prog w = .ok (.int .u8 (c.toNat : Int)) w := hix
    have HL := Lib.hid (isLetter_any w c)
    have e : wordB (c :: r) = (decide ((c :: r).length ≤ 64) && (letB c && decide (runN innB (c :: r) = (c :: r).length))) := rfl
    rw [e]
    clear e
    obtain ⟨l, hll⟩ : ∃ l, c :: r = l := ⟨_, rfl⟩
    have hne : (l == []) = false := by rw [← hll]; rfl
    rw [hll] at HR hsz htl hix hl ⊢
    clear hll
    obtain ⟨s, hs⟩ : ∃ s, st l = s := ⟨_, rfl⟩
    rw [hs] at HR hsz htl hix ⊢
    clear hs
    obtain ⟨b, hb⟩ : ∃ b, letB c = b := ⟨_, rfl⟩
    rw [hb] at HL ⊢
    clear hb
    obtain ⟨R, hR⟩ : ∃ R, runN innB l = R := ⟨_, rfl⟩
    rw [hR] at HR ⊢
    clear hR
    have d1 := dint l.length 64
    have d2 := deqi R l.length
    obtain ⟨b1, hb1⟩ : ∃ b, decide (l.length ≤ 64) = b := ⟨_, rfl⟩
    obtain ⟨b2, hb2⟩ : ∃ b, decide (R = l.length) = b := ⟨_, rfl⟩
    rw [hb1] at d1 ⊢
    rw [hb2] at d2 ⊢
    have d1 : decide ((l.length : Int) ≤ 64) = b1 := d1
    clear hb1 hb2
    go_enter Tryz.func79, Tryz.ntmps79
    cases b1 with
    | true =>
      go_wp2_with fail
      refine HL.out.mono ?_
      rintro e w' ⟨rfl, rfl⟩
      cases b with
      | false =>
        go_wp2_with fail
        go_ret
        exact ⟨rfl, rfl⟩
      | true =>
        go_wp2_with fail
        refine HR.out.mono ?_
        rintro e w' ⟨rfl, rfl⟩
        go_wp2_with fail
        go_ret
        exact ⟨rfl, rfl⟩
    | false =>
      go_wp2_with fail
      go_ret
      exact ⟨rfl, rfl⟩
set_option maxRecDepth 100000 in
set_option maxHeartbeats 1000000 in
theorem isText_any (w : World) (l : List UInt8) (hl : l.length ≤ 1000000) : Calls Tryz.prog 80 #[.string (st l)] w fun e w' => e = .returned (.bool (textB l)) ∧ w = w' := by
  have HR := Lib.hid (runP_any w l hl)
  have hsz := size_st l
  unfold textB
  obtain ⟨s, hs⟩ : ∃ s, st l = s := ⟨_, rfl⟩
  rw [hs] at HR hsz ⊢
  clear hs
  obtain ⟨R, hR⟩ : ∃ R, runN plaB l = R := ⟨_, rfl⟩
  rw [hR] at HR ⊢
  clear hR
  have d1 := dint l.length 64
  have d2 := deqi R l.length
  obtain ⟨b1, hb1⟩ : ∃ b, decide (l.length ≤ 64) = b := ⟨_, rfl⟩
  obtain ⟨b2, hb2⟩ : ∃ b, decide (R = l.length) = b := ⟨_, rfl⟩
  rw [hb1] at d1 ⊢
  rw [hb2] at d2 ⊢
  have d1 : decide ((l.length : Int) ≤ 64) = b1 := d1
  clear hb1 hb2
  go_enter Tryz.func80, Tryz.ntmps80
  cases b1 with
  | true =>
    go_wp2_with fail
    refine HR.out.mono ?_
    rintro e w' ⟨rfl, rfl⟩
    go_wp2_with fail
    go_ret
    exact ⟨rfl, rfl⟩
  | false =>
    go_wp2_with fail
    go_ret
    exact ⟨rfl, rfl⟩
set_option maxRecDepth 100000 in
set_option maxHeartbeats 1000000 in
theorem isSign_any (w : World) (hw : LexW w) (l : List UInt8) : Calls Tryz.prog 81 #[.string (st l)] w fun e w' => e = .returned (.bool (signB l)) ∧ w = w' := by
  have HF := Lib.hid (firstSign_any w hw l)
  have htl := toList_st l
  have htf := toList_st (fsign l)
  clear hw
  cases l with
  | nil =>
    clear HF htf
    go_enter Tryz.func81, Tryz.ntmps81
    go_wp2
    go_ret
    exact ⟨rfl, rfl⟩
  | cons c r =>
    have e : signB (c :: r) = decide (fsign (c :: r) = c :: r) := by simp [signB]
    rw [e]
    clear e
    obtain ⟨l, hll⟩ : ∃ l, c :: r = l := ⟨_, rfl⟩
    have hne : (l == []) = false := by rw [← hll]; rfl
    rw [hll] at HF htl htf ⊢
    clear hll
    obtain ⟨s, hs⟩ : ∃ s, st l = s := ⟨_, rfl⟩
    rw [hs] at HF htl ⊢
    obtain ⟨f, hf⟩ : ∃ f, fsign l = f := ⟨_, rfl⟩
    rw [hf] at HF htf ⊢
    obtain ⟨sf, hsf⟩ : ∃ sf, st f = sf := ⟨_, rfl⟩
    rw [hsf] at HF htf
    clear hs hf hsf
    have deq : (f == l) = decide (f = l) := by
      by_cases h : f = l
      · rw [decide_eq_true h, h]; simp
      · rw [decide_eq_false h]; simpa using h
    obtain ⟨b, hb⟩ : ∃ b, decide (f = l) = b := ⟨_, rfl⟩
    rw [hb] at deq ⊢
    clear hb
    go_enter Tryz.func81, Tryz.ntmps81
    go_wp2_with fail
    refine HF.out.mono ?_
    rintro e w' ⟨rfl, rfl⟩
    go_wp2_with fail
    go_ret
    exact ⟨rfl, rfl⟩
def Tk.val (t : Tk) : Value := .agg t.cells.toArray
/-- a token that may be -/
structure Tk.Ok (t : Tk) : Prop where
  k0 : -9223372036854775808 ≤ t.k
  k1 : t.k ≤ 9223372036854775807
  n0 : -9223372036854775808 ≤ t.n
  n1 : t.n ≤ 9223372036854775807
  s : t.s.length ≤ 1000000
set_option maxRecDepth 100000 in
set_option maxHeartbeats 2000000 in
theorem lformed_any (w : World) (hw : LexW w) (t : Tk) (ht : t.Ok) : Calls Tryz.prog 53 #[t.val] w fun e w' => e = .returned (.bool (formB t)) ∧ Below w.heap.size w w' := by
  obtain ⟨k, l, n⟩ := t
  have hb : ∀ o, Below w.heap.size w (w.alloc o) := fun o => (Below.refl _ _).alloc (Nat.le_refl _) _
  have HW := Lib.hid (fun o => isWord_any (w.alloc o) l ht.s)
  have HT := Lib.hid (fun o => isText_any (w.alloc o) l ht.s)
  have HS := Lib.hid (fun o => isSign_any (w.alloc o) (hw.below (hb o)) l)
  have HB := Lib.hid hb
  have htl := toList_st l
  obtain ⟨_, _, _, _, _⟩ := ht
  clear hw hb
  unfold Tk.val Tk.cells formB
  dsimp only
  obtain ⟨s, hs⟩ : ∃ s, st l = s := ⟨_, rfl⟩
  rw [hs] at HW HT HS htl ⊢
  have dn : ((n == 0)) = decide (n = 0) := by
    by_cases h : n = 0
    · subst h; rfl
    · rw [decide_eq_false h]; simpa using h
  have dl : (l == []) = l.isEmpty := by cases l <;> rfl
  obtain ⟨bn, hbn⟩ : ∃ b, decide (n = 0) = b := ⟨_, rfl⟩
  obtain ⟨bw, hbw⟩ : ∃ b, wordB l = b := ⟨_, rfl⟩
  obtain ⟨bt, hbt⟩ : ∃ b, textB l = b := ⟨_, rfl⟩
  obtain ⟨bs, hbs⟩ : ∃ b, signB l = b := ⟨_, rfl⟩
  obtain ⟨bl, hbl⟩ : ∃ b, l.isEmpty = b := ⟨_, rfl⟩
  obtain ⟨b0, hb0⟩ : ∃ b, decide (0 ≤ n) = b := ⟨_, rfl⟩
  obtain ⟨bm, hbm⟩ : ∃ b, decide (n ≤ 1099511627776) = b := ⟨_, rfl⟩
  rw [hbw] at HW
  rw [hbt] at HT
  rw [hbs] at HS
  rw [hbn] at dn
  rw [hbl] at dl
  rw [hbn, hbw, hbt, hbs, hbl, hb0, hbm]
  clear hbw hbt hbs hs hbn hbl
  by_cases h1 : k = 1
  · subst h1
    rw [if_pos rfl]
    clear hb0 hbm
    go_enter Tryz.func53, Tryz.ntmps53
    cases bn with
    | true =>
      go_wp2_with fail
      refine (HW.out _).mono ?_
      rintro e w' ⟨rfl, rfl⟩
      go_wp2_with fail
      go_ret
      exact ⟨by simp, HB.out _⟩
    | false =>
      go_wp2_with fail
      go_ret
      exact ⟨by simp, HB.out _⟩
  · have k1 : (k == 1) = false := by simpa using h1
    rw [if_neg h1]
    by_cases h2 : k = 2
    · subst h2
      rw [if_pos rfl]
      go_enter Tryz.func53, Tryz.ntmps53
      cases bl <;> cases b0 <;>
      ( go_wp2_with fail
        go_ret
        exact ⟨by simp, HB.out _⟩)
    · have k2 : (k == 2) = false := by simpa using h2
      rw [if_neg h2]
      by_cases h3 : k = 3
      · subst h3
        rw [if_pos rfl]
        clear hb0 hbm
        go_enter Tryz.func53, Tryz.ntmps53
        cases bn with
        | true =>
          go_wp2_with fail
          refine (HT.out _).mono ?_
          rintro e w' ⟨rfl, rfl⟩
          go_wp2_with fail
          go_ret
          exact ⟨by simp, HB.out _⟩
        | false =>
          go_wp2_with fail
          go_ret
          exact ⟨by simp, HB.out _⟩
      · have k3 : (k == 3) = false := by simpa using h3
        rw [if_neg h3]
        by_cases h4 : k = 4
        · subst h4
          rw [if_pos rfl]
          go_enter Tryz.func53, Tryz.ntmps53
          cases bl <;> cases b0 <;> cases bm <;>
          ( go_wp2_with fail
            go_ret
            exact ⟨by simp, HB.out _⟩)
        · have k4 : (k == 4) = false := by simpa using h4
          rw [if_neg h4]
          by_cases h5 : k = 5
          · subst h5
            rw [if_pos rfl]
            clear hb0 hbm
            go_enter Tryz.func53, Tryz.ntmps53
            cases bn with
            | true =>
              go_wp2_with fail
              refine (HS.out _).mono ?_
              rintro e w' ⟨rfl, rfl⟩
              go_wp2_with fail
              go_ret
              exact ⟨by simp, HB.out _⟩
            | false =>
              go_wp2_with fail
              go_ret
              exact ⟨by simp, HB.out _⟩
          · have k5 : (k == 5) = false := by simpa using h5
            rw [if_neg h5]
            clear hb0 hbm
            go_enter Tryz.func53, Tryz.ntmps53
            go_wp2_with fail
            go_ret
            exact ⟨rfl, HB.out _⟩
end Go.Proofs.YtllgodaphoncnaaGreatDoor
namespace Go.Proofs.YtllgodaphoncnaaGreatDoor
open Go.ChangeShapes Go.WideShapes Go.ChangeAt Go.RowKit

set_option maxRecDepth 100000 in
theorem lown : ownKnob Tryz.prog.godebug = none := by kernel_rfl
set_option maxRecDepth 100000 in
theorem llaidOut : laidOutB Tryz.prog = true := by kernel_rfl
set_option maxRecDepth 100000 in
/-- an array of texts that reads as listed -/
theorem cells_of_texts {H : Type} {enc : TypeId × Value → H} {P : Program} {w : World} {base : Nat} {sp : Nat → Bool} {held : Bool} {fuel : Nat} {t e : TypeId} {n : Nat} {cs : List Value} {zs : List (List UInt8)} {p : List MemPlace}
    (ht : P.underlying t = some (.array n e)) (he : P.underlying e = some .string) (hce : P.cellsOf e = 1) (hct : P.cellsOf t = n)
    (h : DataW.trod enc P w base sp held fuel t cs = some (.agg (zs.map fun z => .lit (.string z)), p)) : cs = zs.map fun z => Value.string (st z) := by
  cases fuel with
  | zero => simp [DataW.trod] at h
  | succ fuel =>
    simp only [DataW.trod, ht, hce, hct, Nat.mul_one] at h
    split at h
    · rename_i hl
      obtain ⟨xs, hm, hx⟩ := Option.map_eq_some_iff.1 h
      have hxs : xs.map (·.1) = zs.map fun z => (DataW.lit (.string z) : DataW H) := by
        have := congrArg Prod.fst hx
        simpa using this
      have hxl : xs.length = n := by simpa using Lib.mapM_length hm
      have hzl : zs.length = n := by
        have := congrArg List.length hxs
        simp at this
        omega
      apply List.ext_getElem?
      intro i
      by_cases hi : i < n
      · obtain ⟨b, hb, hf⟩ := Lib.mapM_at hm i i (by simp [hi])
        obtain ⟨z, hc, rfl, _⟩ := DataW.trod_string he hf
        have h1 : cs[i]? = some (.string z) := by
          have := congrArg (·[0]?) hc
          simpa [List.getElem?_take, List.getElem?_drop] using this
        have h2 : (xs.map (·.1))[i]? = some (DataW.lit (.string z.data.toList) : DataW H) := by simp [hb]
        rw [hxs] at h2
        simp only [List.getElem?_map, Option.map_eq_some_iff, DataW.lit.injEq, Lit.string.injEq] at h2
        obtain ⟨z', hz', h3⟩ := h2
        rw [h1, List.getElem?_map, hz', Option.map_some, h3, st_data]
      · rw [List.getElem?_eq_none (by omega), List.getElem?_eq_none (by simp; omega)]
    · cases h
set_option maxRecDepth 100000 in
theorem texts_of_head {P : Program} {W : World} {name : String} {zs : List (List UInt8)} {rest : List (String × DataW Unit)} {g : Nat} {t e : TypeId} {n : Nat}
    (hg : P.globalNamed name = some g) (hty : (P.globals[g]?).map (·.type) = some t) (ht : P.underlying t = some (.array n e)) (he : P.underlying e = some .string) (hce : P.cellsOf e = 1) (hct : P.cellsOf t = n)
    (h : laidMet P ((name, .agg (zs.map fun z => .lit (.string z))) :: rest) W) : W.rangeAt g 0 (zs.map fun z => Value.string (st z)) := by
  obtain ⟨ps, ⟨g', t', cs, fuel, p, q, hg', ht', hvar, hd, _, _⟩, _⟩ := h
  obtain rfl := Option.some.inj (hg.symm.trans hg')
  obtain rfl := Option.some.inj (hty.symm.trans ht')
  have e := cells_of_texts ht he hce hct hd
  intro j v hv
  have h1 := World.var?_cell hg hvar j
  rw [Nat.zero_add, h1, ← Array.getElem?_toList, e]
  exact hv
set_option maxRecDepth 100000 in
theorem row_err (u : TypeId) (h : Tryz.prog.typeName? 3 u = some "*errors.errorString") : u = 185 :=
  typeName_ptr_named (nm := "errors.errorString") (by rw [show "*" ++ "errors.errorString" = "*errors.errorString" by decide]; kernel_rfl) (by kernel_rfl) (by decide) u (by rw [show "*" ++ "errors.errorString" = "*errors.errorString" by decide]; exact h)
set_option maxRecDepth 100000 in
theorem lexw_of {W : World} (h : laidMetH Tryz.prog Rows.syntaxKeptRow.laid W) : LexW W := by
  have h0 : laidMet Tryz.prog Rows.syntaxKeptRow.laid W := h
  have h1 := h0.tail.tail
  have h2 := h1.tail.tail
  have h3 := h2.tail
  have h4 := h3.tail
  obtain ⟨a1, s1, hv1, _⟩ := laid_sentinel h2 (show Tryz.prog.globalNamed "strconv.ErrRange" = some 5 by kernel_rfl) (show (Tryz.prog.globals[5]?).map (·.type) = some 156 by kernel_rfl) Tryz.underlying156 row_err Tryz.underlying185 Tryz.underlying187 rfl rfl Tryz.underlying9 (by kernel_rfl) (by kernel_rfl)
  obtain ⟨a2, s2, hv2, _⟩ := laid_sentinel h3 (show Tryz.prog.globalNamed "strconv.ErrSyntax" = some 4 by kernel_rfl) (show (Tryz.prog.globals[4]?).map (·.type) = some 156 by kernel_rfl) Tryz.underlying156 row_err Tryz.underlying185 Tryz.underlying187 rfl rfl Tryz.underlying9 (by kernel_rfl) (by kernel_rfl)
  refine ⟨?_, ⟨_, _, hv2⟩, ⟨_, _, hv1⟩, ?_⟩
  · exact texts_of_head (show Tryz.prog.globalNamed "gatepost/lex.signs" = some 0 by kernel_rfl) (show (Tryz.prog.globals[0]?).map (·.type) = some 159 by kernel_rfl) Tryz.underlying159 Tryz.underlying9 (by kernel_rfl) (by kernel_rfl) h4
  · exact Lib.tabIs_of_head (show Tryz.prog.globalNamed "internal/strconv.uint64pow10" = some 6 by kernel_rfl) (show (Tryz.prog.globals[6]?).map (·.type) = some 209 by kernel_rfl) Tryz.underlying209 Tryz.underlying175 (by kernel_rfl) (by kernel_rfl) (by rw [show (Lib.tabData .u64 Lib.pow10Tab : DataW Unit) = Rows.laid_internal_strconv_uint64pow10 by kernel_rfl]; exact h1)

/-! a world for the witness: the settled one, each listed variable holding what is listed -/
def litV : DataW Unit → Value
  | .lit (.int k n) => .int k n
  | .lit (.string l) => .string (st l)
  | _ => undef
def aggL : DataW Unit → List (DataW Unit)
  | .agg l => l
  | _ => []
def cells1 (d : DataW Unit) : Array Value := ((aggL d).map litV).toArray
def cells2 (d : DataW Unit) : Array Value := ((aggL d).flatMap fun x => (aggL x).map litV).toArray
def laysCells (c : Array Value) : Obj → Obj
  | .cells _ t frozen => .cells c t frozen
  | o => o
noncomputable def laidHeap (h : Array Obj) : Array Obj :=
  (((((((((h.modify 0 (laysCells (cells1 Rows.laid_gatepost_lex_signs))).modify 2 (laysCells (cells1 Rows.laid_unicode_utf8_first))).modify 3 (laysCells (cells2 Rows.laid_unicode_utf8_acceptRanges))).modify
    6 (laysCells (cells1 Rows.laid_internal_strconv_uint64pow10))).modify 7 (laysCells (cells1 Rows.laid_math_bits_deBruijn32tab))).modify 8 (laysCells (cells1 Rows.laid_math_bits_deBruijn64tab))).modify
    4 (laysCells #[.iface 185 (.pointer (some ⟨h.size, 0, none⟩))])).modify 5 (laysCells #[.iface 185 (.pointer (some ⟨h.size + 1, 0, none⟩))])).push
    (.cells #[.string (st [105, 110, 118, 97, 108, 105, 100, 32, 115, 121, 110, 116, 97, 120])] 187)).push (.cells #[.string (st [118, 97, 108, 117, 101, 32, 111, 117, 116, 32, 111, 102, 32, 114, 97, 110, 103, 101])] 187)
noncomputable def laidWorld (os : Os) : World :=
  { World.holding Tryz.prog os ⟨#[], #[], []⟩ with heap := laidHeap (World.holding Tryz.prog os ⟨#[], #[], []⟩).heap }
set_option maxRecDepth 100000 in
theorem nine_of {W : World} (h : laidMetH Tryz.prog Rows.syntaxKeptRow.laid W) : 9 ≤ W.heap.size := by
  have h0 : laidMet Tryz.prog Rows.syntaxKeptRow.laid W := h
  have h1 := h0.tail
  obtain ⟨ps, ⟨g', t', cs, fuel, p, q, hg', ht', hvar, _⟩, _⟩ := h1
  have hg : Tryz.prog.globalNamed "math/bits.deBruijn64tab" = some 8 := by kernel_rfl
  unfold World.var? at hvar
  rw [hg] at hvar
  simp only [Option.bind_some] at hvar
  have hlt : 8 < W.heap.size := by
    cases hb : W.heap[8]? with
    | none => rw [hb] at hvar; simp at hvar
    | some o => exact (Array.getElem?_eq_some_iff.1 hb).1
  omega
end Go.Proofs.YtllgodaphoncnaaGreatDoor
