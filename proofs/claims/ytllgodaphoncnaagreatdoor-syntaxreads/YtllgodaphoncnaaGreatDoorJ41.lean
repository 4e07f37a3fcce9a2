/- Words, numbers, texts, times, signs read; Tokens read off the beginning of a text. -/
import Derived.Test.YtllgodaphoncnaaGreatDoorJ22
import Derived.Laws.Slices
import Derived.Test.YtllgodaphoncnaaGreatDoorJ17
import Derived.Deep.MidRow
import Derived.Lib.ItoaMem
namespace Go.Proofs.YtllgodaphoncnaaGreatDoor
open Go.RowKit

set_option maxRecDepth 100000 in
theorem st_extract (l : List UInt8) (a b : Nat) : (st l).extract a b = st ((l.drop a).take (b - a)) := by
  apply ByteArray.ext
  simp [st, List.extract]
set_option maxRecDepth 100000 in
theorem run_slice_hi (w : World) (l : List UInt8) (k : Nat) (h : k ≤ l.length) : (Instr.sliceAt 9 (.string (st l)) none (some (.int .i64 (k : Int))) none).run Tryz.prog w = .ok (.string (st (l.take k))) w := by
  have hs := size_st l
  have e := st_extract l 0 k
  simp only [List.drop_zero, Nat.sub_zero] at e
  have hk : (0 : Int) ≤ k ∧ (k : Int) ≤ ((st l).size : Int) := by omega
  simp [Instr.sliceAt, run_underlying Tryz.underlying9, go_sem, Instr.slice, Instr.sliceBounds, hk, e]
set_option maxRecDepth 100000 in
theorem run_slice_lo (w : World) (l : List UInt8) (k : Nat) (h : k ≤ l.length) : (Instr.sliceAt 9 (.string (st l)) (some (.int .i64 (k : Int))) none none).run Tryz.prog w = .ok (.string (st (l.drop k))) w := by
  have hs := size_st l
  have e := st_extract l k l.length
  rw [List.take_of_length_le (by simp)] at e
  have hk : (0 : Int) ≤ k ∧ (k : Int) ≤ ((st l).size : Int) := by omega
  simp [Instr.sliceAt, run_underlying Tryz.underlying9, go_sem, Instr.slice, Instr.sliceBounds, hk, hs, e]
  intro hh
  omega
set_option maxRecDepth 100000 in
/-- strconv.ParseInt at base 10 and 64 bits: a number, or an error -/
theorem parseInt_any (w : World) (hw : LexW w) (l : List UInt8) (hl : l.length ≤ 1000000) :
    Calls Tryz.prog 124 #[.string (st l), .int .i64 10, .int .i64 64] w fun e w' => ∃ (v : Int) (er : Value), e = .returned (.tuple #[.int .i64 v, er]) ∧ Below w.heap.size w w' ∧
      ((Lib.parseIntB 64 l = .ok v ∧ er = .nilIface) ∨ ((∀ u, Lib.parseIntB 64 l ≠ .ok u) ∧ ∃ p, er = .iface 178 p)) := by
  have hs := size_st l
  have hd : (st l).data.toList = l := by simp [st]
  cases h : Lib.parseIntB 64 l with
  | ok v =>
    refine (Any.strconv_ParseInt_10_at64_ok laysC174 (st l) (by omega) v (by rw [hd]; exact h) w).mono ?_
    rintro e w' ⟨rfl, hw'⟩
    refine ⟨v, .nilIface, rfl, ?_, .inl ⟨rfl, rfl⟩⟩
    rcases hw' with rfl | ⟨t, rfl⟩
    · exact Below.refl _ _
    · exact Lib.bytesWorld_below _ _ _
  | «syntax» =>
    obtain ⟨tp, p, hv⟩ := hw.syn
    refine (Any.strconv_ParseInt_10_at64_syntax_var laysC174 (st l) (by omega) (by rw [hd]; exact h) tp p w hv).mono ?_
    rintro e w' ⟨N, rfl, _, _, hb⟩
    exact ⟨_, _, rfl, hb, .inr ⟨(fun u hu => by cases hu), _, rfl⟩⟩
  | range =>
    obtain ⟨tp, p, hv⟩ := hw.ran
    refine (Any.strconv_ParseInt_10_at64_range_var laysC174 (st l) (by omega) (by rw [hd]; exact h) tp p w hv).mono ?_
    rintro e w' ⟨N, rfl, _, _, hb⟩
    exact ⟨_, _, rfl, hb, .inr ⟨(fun u hu => by cases hu), _, rfl⟩⟩
set_option maxRecDepth 100000 in
theorem digM_no {l : List UInt8} (h : 19 < runN digB l ∨ ∃ c, l[runN digB l]? = some c ∧ (letB c = true ∨ c.toNat = 95)) : digM l = (0, 0) := by
  unfold digM
  dsimp only
  rw [if_pos h]
set_option maxRecDepth 100000 in
theorem digM_ok {l : List UInt8} (h : ¬ (19 < runN digB l ∨ ∃ c, l[runN digB l]? = some c ∧ (letB c = true ∨ c.toNat = 95))) {v : Int} (hv : Lib.parseIntB 64 (l.take (runN digB l)) = .ok v) : digM l = (v, runN digB l) := by
  unfold digM
  dsimp only
  rw [if_neg h, hv]
set_option maxRecDepth 100000 in
theorem digM_bad {l : List UInt8} (h : ¬ (19 < runN digB l ∨ ∃ c, l[runN digB l]? = some c ∧ (letB c = true ∨ c.toNat = 95))) (hv : ∀ u, Lib.parseIntB 64 (l.take (runN digB l)) ≠ .ok u) : digM l = (0, 0) := by
  unfold digM
  dsimp only
  rw [if_neg h]
  cases hp : Lib.parseIntB 64 (l.take (runN digB l)) with
  | ok u => exact absurd hp (hv u)
  | «syntax» => rfl
  | range => rfl
set_option maxRecDepth 100000 in
theorem ret_two (f : Func) (a b : Nat) (h : f.results = #[.tmp a, .tmp b]) : f.results = #[.tmp a, .tmp b] := h
set_option maxRecDepth 100000 in
set_option maxHeartbeats 2000000 in
theorem digits_any (w : World) (hw : LexW w) (l : List UInt8) (hl : l.length ≤ 1000000) :
    Calls Tryz.prog 111 #[.string (st l)] w fun e w' => e = .returned (.tuple #[.int .i64 (digM l).1, .int .i64 ((digM l).2 : Int)]) ∧ Below w.heap.size w w' := by
  have HR := Lib.hid (runD_any w l hl)
  have hsz := size_st l
  have hle := runN_le digB l
  have hP := parseInt_any w hw (l.take (runN digB l)) (by rw [List.length_take]; omega)
  have hsl : ∀ w, _ := fun w => run_slice_hi w l (runN digB l) hle
  have hix : ∀ (w : World) (c : UInt8), l[runN digB l]? = some c → _ := fun w c h => run_index_st w l (runN digB l) c h
  have HNo := Lib.hid (@digM_no l)
  have HOk := Lib.hid (@digM_ok l)
  have HBad := Lib.hid (@digM_bad l)
  clear hw
  obtain ⟨D, hD⟩ : ∃ D, digM l = D := ⟨_, rfl⟩
  rw [hD] at HNo HOk HBad ⊢
  obtain ⟨s, hs⟩ : ∃ s, st l = s := ⟨_, rfl⟩
  rw [hs] at HR hsz hsl hix ⊢
  obtain ⟨k, hk⟩ : ∃ k, runN digB l = k := ⟨_, rfl⟩
  rw [hk] at HR hle hP hsl hix HNo HOk HBad
  obtain ⟨r, hr⟩ : ∃ r, st (l.take k) = r := ⟨_, rfl⟩
  rw [hr] at hP hsl
  have HP := Lib.hid hP
  have HIx := Lib.hid hix
  clear hD hs hk hr hP hix
  go_enter Tryz.func111, Tryz.ntmps111
  go_wp2_with fail
  refine HR.out.mono ?_
  rintro e w' ⟨rfl, rfl⟩
  clear HR
  by_cases h19 : 19 < k
  · have d1 : decide ((19 : Int) < (k : Int)) = true := by simp; omega
    have hDe := HNo.out (.inl h19)
    subst hDe
    go_wp2_with fail
    exact bodyPost_ret (v := .tuple #[.int .i64 0, .int .i64 0]) (by simp [results, Tryz.results111, go_sem]) rfl ⟨rfl, Below.refl _ _⟩
  · have d1 : decide ((19 : Int) < (k : Int)) = false := by simp; omega
    by_cases hkl : k < l.length
    · have d2 : decide ((k : Int) < (l.length : Int)) = true := by simp; omega
      have hget : l[k]? = some l[k] := List.getElem?_eq_getElem hkl
      have hix := HIx.out w _ hget
      have HG : Hid (l[k]? = some l[k]) := Lib.hid hget
      clear hget
      generalize l[k] = c at *
      have HL := Lib.hid (isLetter_any w c)
      have d3 := deqi c.toNat 95
      obtain ⟨b, hb⟩ : ∃ b, letB c = b := ⟨_, rfl⟩
      rw [hb] at HL
      have HB := Lib.hid hb
      obtain ⟨b3, hb3⟩ : ∃ b, decide (c.toNat = 95) = b := ⟨_, rfl⟩
      rw [hb3] at d3
      have d3 : ((c.toNat : Int) == 95) = b3 := d3
      have HB3 := Lib.hid hb3
      clear hb hb3
      go_wp2_with fail
      refine HL.out.mono ?_
      rintro e w' ⟨rfl, rfl⟩
      cases b with
      | true =>
        have hDe := HNo.out (.inr ⟨c, HG.out, .inl HB.out⟩)
        subst hDe
        go_wp2_with fail
        exact bodyPost_ret (v := .tuple #[.int .i64 0, .int .i64 0]) (by simp [results, Tryz.results111, go_sem]) rfl ⟨rfl, Below.refl _ _⟩
      | false =>
        cases b3 with
        | true =>
          have hDe := HNo.out (.inr ⟨c, HG.out, .inr (by simpa using HB3.out)⟩)
          subst hDe
          go_wp2_with fail
          exact bodyPost_ret (v := .tuple #[.int .i64 0, .int .i64 0]) (by simp [results, Tryz.results111, go_sem]) rfl ⟨rfl, Below.refl _ _⟩
        | false =>
          have HN : Hid (¬ (19 < k ∨ ∃ c, l[k]? = some c ∧ (letB c = true ∨ c.toNat = 95))) := Lib.hid (by
            rintro (h | ⟨c', h1, h2⟩)
            · exact h19 h
            · rw [HG.out] at h1
              obtain rfl := Option.some.inj h1
              rcases h2 with h2 | h2
              · rw [HB.out] at h2; cases h2
              · have := HB3.out; rw [decide_eq_true h2] at this; cases this)
          go_wp2_with fail
          refine HP.out.mono ?_
          rintro e w2 ⟨v, er, rfl, hb2, hcase⟩
          have HB2 := Lib.hid hb2
          clear hb2 HP
          rcases hcase with ⟨h1, rfl⟩ | ⟨h1, p, rfl⟩
          · have hDe := HOk.out HN.out h1
            subst hDe
            clear h1
            go_wp2_with fail
            exact bodyPost_ret (v := .tuple #[.int .i64 v, .int .i64 (k : Int)]) (by simp [results, Tryz.results111, go_sem]) rfl ⟨rfl, HB2.out⟩
          · have hDe := HBad.out HN.out h1
            subst hDe
            clear h1
            go_wp2_with fail
            exact bodyPost_ret (v := .tuple #[.int .i64 0, .int .i64 0]) (by simp [results, Tryz.results111, go_sem]) rfl ⟨rfl, HB2.out⟩
    · have d2 : decide ((k : Int) < (l.length : Int)) = false := by simp; omega
      have HN : Hid (¬ (19 < k ∨ ∃ c, l[k]? = some c ∧ (letB c = true ∨ c.toNat = 95))) := Lib.hid (by
        rintro (h | ⟨c', h1, _⟩)
        · exact h19 h
        · rw [List.getElem?_eq_none (by omega)] at h1; cases h1)
      go_wp2_with fail
      refine HP.out.mono ?_
      rintro e w2 ⟨v, er, rfl, hb2, hcase⟩
      have HB2 := Lib.hid hb2
      clear hb2 HP
      rcases hcase with ⟨h1, rfl⟩ | ⟨h1, p, rfl⟩
      · have hDe := HOk.out HN.out h1
        subst hDe
        clear h1
        go_wp2_with fail
        exact bodyPost_ret (v := .tuple #[.int .i64 v, .int .i64 (k : Int)]) (by simp [results, Tryz.results111, go_sem]) rfl ⟨rfl, HB2.out⟩
      · have hDe := HBad.out HN.out h1
        subst hDe
        clear h1
        go_wp2_with fail
        exact bodyPost_ret (v := .tuple #[.int .i64 0, .int .i64 0]) (by simp [results, Tryz.results111, go_sem]) rfl ⟨rfl, HB2.out⟩
end Go.Proofs.YtllgodaphoncnaaGreatDoor
namespace Go.Proofs.YtllgodaphoncnaaGreatDoor
open Go.RowKit

set_option maxRecDepth 100000 in
theorem results_cell_slot {P : Program} {fn : Func} {p q : Tmp} {ty : TypeId} (h : fn.results = #[.cell p ty, .tmp q]) (tmps : Array Value) (w : World) (g : Nat) (t : TypeId) (cs : Array Value) (fr : Nat × Nat) (d : TypeDesc)
    (hp : tmps.getD p undef = .pointer (some ⟨g, 0, none⟩)) (hg : w.heap[g]? = some (.cells cs t fr))
    (hu : P.underlying ty = some d) (hd : (match d with | .struct _ | .array _ _ => true | _ => false) = true) (hi : (P.info? ty).map (·.size) = some cs.size) (v : Value) (hv : tmps.getD q undef = v) :
    (results fn tmps).run P w = .ok (.tuple #[.agg cs, v]) w := by
  have hp' : tmps[p]?.getD undef = .pointer (some ⟨g, 0, none⟩) := by simpa using hp
  have hv' : tmps[q]?.getD undef = v := by simpa using hv
  simp [results, h, hp', hv', asAddr, run_loadVar_row w g t ty cs fr d hg hu hd hi]
set_option maxRecDepth 100000 in
theorem store_tok {ops : Array Oper} {rest : List Oper} {op : Oper} {a : Act} {w : World} {Q : Exit → Act → World → Prop} (hgd : op.guard = none) (x y : Operand) (ho : op.op = .store 41 x y) (hdst : op.dst = none)
    (g : Nat) (hx : a.eval x = .pointer (some ⟨g, 0, none⟩)) (k : Int) (s : ByteArray) (n : Int) (hy : a.eval y = .agg #[.int .i64 k, .string s, .int .i64 n])
    {c0 c1 c2 : Value} (hg : w.heap[g]? = some (.cells #[c0, c1, c2] 41 (0, 0)))
    (h : ∀ w', w'.heap[g]? = some (.cells #[.int .i64 k, .string s, .int .i64 n] 41 (0, 0)) → Kept1 g w w' → wpList Tryz.prog ops Q rest a w') : wpList Tryz.prog ops Q (op :: rest) a w := by
  have hg' : w.heap[g]? = some (.cells [c0, c1, c2].toArray 41 (0, 0)) := hg
  refine wpList_store_mid hgd 41 x y ho g 0 #[.int .i64 k, .string s, .int .i64 n] hx hy (fun j hj => ⟨?_, ?_⟩) (by kernel_rfl) (by simp [Value.oneCell']) ?_
  · rw [cell_block hg']
    have hj' : j < 3 := hj
    simp; omega
  · simp [World.frozen?, hg]
  · rw [hdst]
    refine h _ ?_ (Kept1.setCells g (.inl rfl) _ _ (Kept1.refl _ _))
    have h1 := heap_setCells g 41 [.int .i64 k, .string s, .int .i64 n] 0 _ _ hg' (by simp)
    have e : over [c0, c1, c2] 0 [.int .i64 k, .string s, .int .i64 n] = [.int .i64 k, .string s, .int .i64 n] := by simp [over]
    rw [e] at h1
    exact h1
set_option maxRecDepth 100000 in
theorem info_tok : (Tryz.prog.info? 41).map (·.size) = some 3 := by kernel_rfl
set_option maxRecDepth 100000 in
set_option maxHeartbeats 1000000 in
theorem readSign_any (w : World) (hw : LexW w) (l : List UInt8) :
    Calls Tryz.prog 78 #[.string (st l)] w fun e w' => e = .returned (.tuple #[(signM l).1.val, .int .i64 ((signM l).2 : Int)]) ∧ Below w.heap.size w w' := by
  have hb : ∀ o, Below w.heap.size w (w.alloc o) := fun o => (Below.refl _ _).alloc (Nat.le_refl _) _
  have HF := Lib.hid (fun o => firstSign_any (w.alloc o) (hw.below (hb o)) l)
  have hsz := size_st (fsign l)
  unfold signM Tk.val Tk.cells
  dsimp only
  obtain ⟨s, hs⟩ : ∃ s, st l = s := ⟨_, rfl⟩
  rw [hs] at HF ⊢
  obtain ⟨r, hr⟩ : ∃ r, st (fsign l) = r := ⟨_, rfl⟩
  rw [hr] at HF hsz ⊢
  obtain ⟨n, hn⟩ : ∃ n, (fsign l).length = n := ⟨_, rfl⟩
  rw [hn] at hsz ⊢
  clear hs hr hn hb hw
  go_enter Tryz.func78, Tryz.ntmps78
  go_wp2_with fail
  refine (HF.out _).mono ?_
  rintro e w' ⟨rfl, rfl⟩
  go_wp2_with fail
  exact bodyPost_ret (results_cell_slot Tryz.results78 _ _ (w.heap.size) 41 #[.int .i64 5, .string r, .int .i64 0] (0, 0) _ rfl (heap_alloc_new _ _) Tryz.underlying41 rfl info_tok (.int .i64 (n : Int)) rfl) rfl ⟨rfl, (Below.refl _ _).alloc (Nat.le_refl _) _⟩
set_option maxRecDepth 100000 in
set_option maxHeartbeats 1000000 in
theorem readWord_any (w : World) (l : List UInt8) (hl : l.length ≤ 1000000) :
    Calls Tryz.prog 73 #[.string (st l)] w fun e w' => e = .returned (.tuple #[(wordM l).1.val, .int .i64 ((wordM l).2 : Int)]) ∧ Below w.heap.size w w' := by
  have hb : ∀ o, Below w.heap.size w (w.alloc o) := fun o => (Below.refl _ _).alloc (Nat.le_refl _) _
  have HR := Lib.hid (fun o => runW_any (w.alloc o) l hl)
  have hle := runN_le innB l
  have hsl : ∀ w, _ := fun w => run_slice_hi w l (runN innB l) hle
  have hsz := size_st l
  unfold wordM Tk.val Tk.cells
  dsimp only
  obtain ⟨k, hk⟩ : ∃ k, runN innB l = k := ⟨_, rfl⟩
  rw [hk] at HR hle hsl ⊢
  have HC := Lib.hid (fun o => clone_st (w.alloc o) (l.take k) (by rw [List.length_take]; omega))
  obtain ⟨s, hs⟩ : ∃ s, st l = s := ⟨_, rfl⟩
  rw [hs] at HR hsl hsz ⊢
  obtain ⟨r, hr⟩ : ∃ r, st (l.take k) = r := ⟨_, rfl⟩
  rw [hr] at HC hsl ⊢
  have HB := Lib.hid hb
  clear hs hr hk hb
  go_enter Tryz.func73, Tryz.ntmps73
  go_wp2_with fail
  refine (HR.out _).mono ?_
  rintro e w' ⟨rfl, rfl⟩
  go_wp2_with fail
  refine (HC.out _).mono ?_
  rintro e w2 ⟨rfl, hb2⟩
  have HB2 := Lib.hid ((HB.out _).trans (hb2.mono (by simp)))
  have HG2 := Lib.hid ((hb2.block w.heap.size (by simp)).trans (heap_alloc_new w _))
  clear hb2
  clear HC HR
  go_wp2_with (refine store_tok rfl (.tmp 2) (.tmp 11) rfl rfl w.heap.size rfl 1 r 0 rfl HG2.out ?_)
  intro w3 hg3 hk3
  have HG3 := Lib.hid hg3
  have HB3 := Lib.hid (Kept1.mono HB2.out hk3 (Nat.le_refl _))
  clear hg3 hk3
  go_wp2_with fail
  exact bodyPost_ret (results_cell_slot Tryz.results73 _ _ (w.heap.size) 41 #[.int .i64 1, .string r, .int .i64 0] (0, 0) _ rfl (HG3.out) Tryz.underlying41 rfl info_tok (.int .i64 (k : Int)) rfl) rfl ⟨rfl, HB3.out⟩
set_option maxRecDepth 100000 in
set_option maxHeartbeats 1000000 in
theorem readNumber_any (w : World) (hw : LexW w) (l : List UInt8) (hl : l.length ≤ 1000000) :
    Calls Tryz.prog 75 #[.string (st l)] w fun e w' => e = .returned (.tuple #[(numM1 l).1.val, .int .i64 ((numM1 l).2 : Int)]) ∧ Below w.heap.size w w' := by
  have hb : ∀ o, Below w.heap.size w (w.alloc o) := fun o => (Below.refl _ _).alloc (Nat.le_refl _) _
  have HD := Lib.hid (fun o => digits_any (w.alloc o) (hw.below (hb o)) l (by omega))
  unfold numM1
  obtain ⟨⟨v, k⟩, hD⟩ : ∃ D, digM l = D := ⟨_, rfl⟩
  rw [hD] at HD ⊢
  dsimp only at HD ⊢
  clear hD
  obtain ⟨s, hs⟩ : ∃ s, st l = s := ⟨_, rfl⟩
  rw [hs] at HD ⊢
  have HB := Lib.hid hb
  clear hs hb hw
  by_cases h0 : k = 0
  · subst h0
    rw [if_pos rfl]
    unfold noTk Tk.val Tk.cells
    dsimp only
    go_enter Tryz.func75, Tryz.ntmps75
    go_wp2_with fail
    refine (HD.out _).mono ?_
    rintro e w2 ⟨rfl, hb2⟩
    have HB2 := Lib.hid ((HB.out _).trans (hb2.mono (by simp)))
    have HG2 := Lib.hid ((hb2.block w.heap.size (by simp)).trans (heap_alloc_new w _))
    clear hb2
    clear HD
    go_wp2_with (refine store_tok rfl (.tmp 2) (.tmp 13) rfl rfl w.heap.size rfl 0 (st []) 0 rfl HG2.out ?_)
    intro w3 hg3 hk3
    have HG3 := Lib.hid hg3
    have HB3 := Lib.hid (Kept1.mono HB2.out hk3 (Nat.le_refl _))
    clear hg3 hk3
    go_wp2_with fail
    exact bodyPost_ret (results_cell_slot Tryz.results75 _ _ (w.heap.size) 41 #[.int .i64 0, .string (st []), .int .i64 0] (0, 0) _ rfl (HG3.out) Tryz.underlying41 rfl info_tok (.int .i64 0) rfl) rfl ⟨rfl, HB3.out⟩
  · have hk0 : ((k : Int) == 0) = false := by simp; omega
    rw [if_neg h0]
    unfold Tk.val Tk.cells
    dsimp only
    clear h0
    go_enter Tryz.func75, Tryz.ntmps75
    go_wp2_with fail
    refine (HD.out _).mono ?_
    rintro e w2 ⟨rfl, hb2⟩
    have HB2 := Lib.hid ((HB.out _).trans (hb2.mono (by simp)))
    have HG2 := Lib.hid ((hb2.block w.heap.size (by simp)).trans (heap_alloc_new w _))
    clear hb2
    clear HD
    go_wp2_with (refine store_tok rfl (.tmp 2) (.tmp 15) rfl rfl w.heap.size rfl 2 (st []) v rfl HG2.out ?_)
    intro w3 hg3 hk3
    have HG3 := Lib.hid hg3
    have HB3 := Lib.hid (Kept1.mono HB2.out hk3 (Nat.le_refl _))
    clear hg3 hk3
    go_wp2_with fail
    exact bodyPost_ret (results_cell_slot Tryz.results75 _ _ (w.heap.size) 41 #[.int .i64 2, .string (st []), .int .i64 v] (0, 0) _ rfl (HG3.out) Tryz.underlying41 rfl info_tok (.int .i64 ((k : Int))) rfl) rfl ⟨rfl, HB3.out⟩
set_option maxRecDepth 100000 in
set_option maxHeartbeats 1000000 in
theorem readTime_any (w : World) (hw : LexW w) (l : List UInt8) (hl : l.length ≤ 1000000) (h1 : 1 ≤ l.length) (hk : (digM (l.drop 1)).2 ≤ 1000000) :
    Calls Tryz.prog 77 #[.string (st l)] w fun e w' => e = .returned (.tuple #[(timeM l).1.val, .int .i64 ((timeM l).2 : Int)]) ∧ Below w.heap.size w w' := by
  have hb : ∀ o, Below w.heap.size w (w.alloc o) := fun o => (Below.refl _ _).alloc (Nat.le_refl _) _
  have HD := Lib.hid (fun o => digits_any (w.alloc o) (hw.below (hb o)) (l.drop 1) (by rw [List.length_drop]; omega))
  unfold timeM
  obtain ⟨⟨v, k⟩, hD⟩ : ∃ D, digM (l.drop 1) = D := ⟨_, rfl⟩
  rw [hD] at HD hk ⊢
  dsimp only at HD hk ⊢
  clear hD
  have hsl := fun w => run_slice_lo w l 1 h1
  obtain ⟨s, hs⟩ : ∃ s, st l = s := ⟨_, rfl⟩
  rw [hs] at hsl ⊢
  obtain ⟨r, hr⟩ : ∃ r, st (l.drop 1) = r := ⟨_, rfl⟩
  rw [hr] at HD hsl
  have hsl : ∀ w, (Instr.sliceAt 9 (.string s) (some (.int .i64 1)) none none).run Tryz.prog w = .ok (.string r) w := hsl
  clear hr
  have HB := Lib.hid hb
  clear hs hb hw
  by_cases h0 : k = 0
  · subst h0
    rw [if_pos rfl]
    unfold noTk Tk.val Tk.cells
    dsimp only
    go_enter Tryz.func77, Tryz.ntmps77
    go_wp2_with fail
    refine (HD.out _).mono ?_
    rintro e w2 ⟨rfl, hb2⟩
    have HB2 := Lib.hid ((HB.out _).trans (hb2.mono (by simp)))
    have HG2 := Lib.hid ((hb2.block w.heap.size (by simp)).trans (heap_alloc_new w _))
    clear hb2
    clear HD
    go_wp2_with (refine store_tok rfl (.tmp 2) (.tmp 14) rfl rfl w.heap.size rfl 0 (st []) 0 rfl HG2.out ?_)
    intro w3 hg3 hk3
    have HG3 := Lib.hid hg3
    have HB3 := Lib.hid (Kept1.mono HB2.out hk3 (Nat.le_refl _))
    clear hg3 hk3
    go_wp2_with fail
    exact bodyPost_ret (results_cell_slot Tryz.results77 _ _ (w.heap.size) 41 #[.int .i64 0, .string (st []), .int .i64 0] (0, 0) _ rfl (HG3.out) Tryz.underlying41 rfl info_tok (.int .i64 0) rfl) rfl ⟨rfl, HB3.out⟩
  · have hk0 : ((k : Int) == 0) = false := by simp; omega
    rw [if_neg h0]
    unfold Tk.val Tk.cells
    dsimp only
    clear h0
    go_enter Tryz.func77, Tryz.ntmps77
    go_wp2_with fail
    refine (HD.out _).mono ?_
    rintro e w2 ⟨rfl, hb2⟩
    have HB2 := Lib.hid ((HB.out _).trans (hb2.mono (by simp)))
    have HG2 := Lib.hid ((hb2.block w.heap.size (by simp)).trans (heap_alloc_new w _))
    clear hb2
    clear HD
    go_wp2_with (refine store_tok rfl (.tmp 2) (.tmp 16) rfl rfl w.heap.size rfl 4 (st []) v rfl HG2.out ?_)
    intro w3 hg3 hk3
    have HG3 := Lib.hid hg3
    have HB3 := Lib.hid (Kept1.mono HB2.out hk3 (Nat.le_refl _))
    clear hg3 hk3
    go_wp2_with fail
    exact bodyPost_ret (results_cell_slot Tryz.results77 _ _ (w.heap.size) 41 #[.int .i64 4, .string (st []), .int .i64 v] (0, 0) _ rfl (HG3.out) Tryz.underlying41 rfl info_tok (.int .i64 (1 + (k : Int))) rfl) rfl ⟨rfl, HB3.out⟩
end Go.Proofs.YtllgodaphoncnaaGreatDoor
