/- Words, numbers, texts, times, signs read. -/
import Derived.Test.YtllgodaphoncnaaGreatDoorJ04
import Derived.Laws.Slices
namespace Go.Proofs.YtllgodaphoncnaaGreatDoor
open Go.RowKit

set_option maxRecDepth 100000 in
theorem st_extract (l : List UInt8) (a b : Nat) : (st l).extract a b = st ((l.drop a).take (b - a)) := by
  apply ByteArray.ext
  simp [st, List.extract]
set_option maxRecDepth 100000 in
theorem run_slice_hi (w : World) (l : List UInt8) (k : Nat) (h : k ≤ l.length) : (Instr.sliceAt 9 (.string (st l)) none (some (.int .i64 (k : Int))) none).run Tryz.prog w = .ok (.string (st (l.take k))) w := by
  have hs := size_st l
  have e := st_extract l 0 k
  simp only [List.drop_zero, Nat.sub_zero] at e
  have hk : (0 : Int) ≤ k ∧ (k : Int) ≤ ((st l).size : Int) := by omega
  simp [Instr.sliceAt, run_underlying Tryz.underlying9, go_sem, Instr.slice, Instr.sliceBounds, hk, e]
set_option maxRecDepth 100000 in
theorem run_slice_lo (w : World) (l : List UInt8) (k : Nat) (h : k ≤ l.length) : (Instr.sliceAt 9 (.string (st l)) (some (.int .i64 (k : Int))) none none).run Tryz.prog w = .ok (.string (st (l.drop k))) w := by
  have hs := size_st l
  have e := st_extract l k l.length
  rw [List.take_of_length_le (by simp)] at e
  have hk : (0 : Int) ≤ k ∧ (k : Int) ≤ ((st l).size : Int) := by omega
  simp [Instr.sliceAt, run_underlying Tryz.underlying9, go_sem, Instr.slice, Instr.sliceBounds, hk, hs, e]
  intro hh
  omega
set_option maxRecDepth 100000 in
/-- strconv.ParseInt at base 10 and 64 bits: a number, or an error -/
theorem parseInt_any (w : World) (hw : LexW w) (l : List UInt8) (hl : l.length ≤ 1000000) :
    Calls Tryz.prog 124 #[.string (st l), .int .i64 10, .int .i64 64] w fun e w' => ∃ (v : Int) (er : Value), e = .returned (.tuple #[.int .i64 v, er]) ∧ Below w.heap.size w w' ∧
      ((Lib.parseIntB 64 l = .ok v ∧ er = .nilIface) ∨ ((∀ u, Lib.parseIntB 64 l ≠ .ok u) ∧ ∃ p, er = .iface 178 p)) := by
  have hs := size_st l
  have hd : (st l).data.toList = l := by simp [st]
  cases h : Lib.parseIntB 64 l with
  | ok v =>
    refine (Any.strconv_ParseInt_10_at64_ok laysC174 (st l) (by omega) v (by rw [hd]; exact h) w).mono ?_
    rintro e w' ⟨rfl, hw'⟩
    refine ⟨v, .nilIface, rfl, ?_, .inl ⟨rfl, rfl⟩⟩
    rcases hw' with rfl | ⟨t, rfl⟩
    · exact Below.refl _ _
    · exact Lib.bytesWorld_below _ _ _
  | «syntax» =>
    obtain ⟨tp, p, hv⟩ := hw.syn
    refine (Any.strconv_ParseInt_10_at64_syntax_var laysC174 (st l) (by omega) (by rw [hd]; exact h) tp p w hv).mono ?_
    rintro e w' ⟨N, rfl, _, _, hb⟩
    exact ⟨_, _, rfl, hb, .inr ⟨(fun u hu => by cases hu), _, rfl⟩⟩
  | range =>
    obtain ⟨tp, p, hv⟩ := hw.ran
    refine (Any.strconv_ParseInt_10_at64_range_var laysC174 (st l) (by omega) (by rw [hd]; exact h) tp p w hv).mono ?_
    rintro e w' ⟨N, rfl, _, _, hb⟩
    exact ⟨_, _, rfl, hb, .inr ⟨(fun u hu => by cases hu), _, rfl⟩⟩
set_option maxRecDepth 100000 in
theorem digM_no {l : List UInt8} (h : 19 < runN digB l ∨ ∃ c, l[runN digB l]? = some c ∧ (letB c = true ∨ c.toNat = 95)) : digM l = (0, 0) := by
  unfold digM
  dsimp only
  rw [if_pos h]
set_option maxRecDepth 100000 in
theorem digM_ok {l : List UInt8} (h : ¬ (19 < runN digB l ∨ ∃ c, l[runN digB l]? = some c ∧ (letB c = true ∨ c.toNat = 95))) {v : Int} (hv : Lib.parseIntB 64 (l.take (runN digB l)) = .ok v) : digM l = (v, runN digB l) := by
  unfold digM
  dsimp only
  rw [if_neg h, hv]
set_option maxRecDepth 100000 in
theorem digM_bad {l : List UInt8} (h : ¬ (19 < runN digB l ∨ ∃ c, l[runN digB l]? = some c ∧ (letB c = true ∨ c.toNat = 95))) (hv : ∀ u, Lib.parseIntB 64 (l.take (runN digB l)) ≠ .ok u) : digM l = (0, 0) := by
  unfold digM
  dsimp only
  rw [if_neg h]
  cases hp : Lib.parseIntB 64 (l.take (runN digB l)) with
  | ok u => exact absurd hp (hv u)
  | «syntax» => rfl
  | range => rfl
set_option maxRecDepth 100000 in
theorem ret_two (f : Func) (a b : Nat) (h : f.results = #[.tmp a, .tmp b]) : f.results = #[.tmp a, .tmp b] := h
set_option maxRecDepth 100000 in
set_option maxHeartbeats 2000000 in
theorem digits_any (w : World) (hw : LexW w) (l : List UInt8) (hl : l.length ≤ 1000000) :
    Calls Tryz.prog 111 #[.string (st l)] w fun e w' => e = .returned (.tuple #[.int .i64 (digM l).1, .int .i64 ((digM l).2 : Int)]) ∧ Below w.heap.size w w' := by
  have HR := Lib.hid (runD_any w l hl)
  have hsz := size_st l
  have hle := runN_le digB l
  have hP := parseInt_any w hw (l.take (runN digB l)) (by rw [List.length_take]; omega)
  have hsl : ∀ w, _ := fun w => run_slice_hi w l (runN digB l) hle
  have hix : ∀ (w : World) (c : UInt8), l[runN digB l]? = some c → _ := fun w c h => run_index_st w l (runN digB l) c h
  have HNo := Lib.hid (@digM_no l)
  have HOk := Lib.hid (@digM_ok l)
  have HBad := Lib.hid (@digM_bad l)
  clear hw
  obtain ⟨D, hD⟩ : ∃ D, digM l = D := ⟨_, rfl⟩
  rw [hD] at HNo HOk HBad ⊢
  obtain ⟨s, hs⟩ : ∃ s, st l = s := ⟨_, rfl⟩
  rw [hs] at HR hsz hsl hix ⊢
  obtain ⟨k, hk⟩ : ∃ k, runN digB l = k := ⟨_, rfl⟩
  rw [hk] at HR hle hP hsl hix HNo HOk HBad
  obtain ⟨r, hr⟩ : ∃ r, st (l.take k) = r := ⟨_, rfl⟩
  rw [hr] at hP hsl
  have HP := Lib.hid hP
  have HIx := Lib.hid hix
  clear hD hs hk hr hP hix
  go_enter Tryz.func111, Tryz.ntmps111
  go_wp2_with fail
  refine HR.out.mono ?_
  rintro e w' ⟨rfl, rfl⟩
  clear HR
  by_cases h19 : 19 < k
  · have d1 : decide ((19 : Int) < (k : Int)) = true := by simp; omega
    have hDe := HNo.out (.inl h19)
    subst hDe
    go_wp2_with fail
    exact bodyPost_ret (v := .tuple #[.int .i64 0, .int .i64 0]) (by simp [results, Tryz.results111, go_sem]) rfl ⟨rfl, Below.refl _ _⟩
  · have d1 : decide ((19 : Int) < (k : Int)) = false := by simp; omega
    by_cases hkl : k < l.length
    · have d2 : decide ((k : Int) < (l.length : Int)) = true := by simp; omega
      have hget : l[k]? = some l[k] := List.getElem?_eq_getElem hkl
      have hix := HIx.out w _ hget
      have HG : Hid (l[k]? = some l[k]) := Lib.hid hget
      clear hget
      generalize l[k] = c at *
      have HL := Lib.hid (isLetter_any w c)
      have d3 := deqi c.toNat 95
      obtain ⟨b, hb⟩ : ∃ b, letB c = b := ⟨_, rfl⟩
      rw [hb] at HL
      have HB := Lib.hid hb
      obtain ⟨b3, hb3⟩ : ∃ b, decide (c.toNat = 95) = b := ⟨_, rfl⟩
      rw [hb3] at d3
      have d3 : ((c.toNat : Int) == 95) = b3 := d3
      have HB3 := Lib.hid hb3
      clear hb hb3
      go_wp2_with fail
      refine HL.out.mono ?_
      rintro e w' ⟨rfl, rfl⟩
      cases b with
      | true =>
        have hDe := HNo.out (.inr ⟨c, HG.out, .inl HB.out⟩)
        subst hDe
        go_wp2_with fail
        exact bodyPost_ret (v := .tuple #[.int .i64 0, .int .i64 0]) (by simp [results, Tryz.results111, go_sem]) rfl ⟨rfl, Below.refl _ _⟩
      | false =>
        cases b3 with
        | true =>
          have hDe := HNo.out (.inr ⟨c, HG.out, .inr (by simpa using HB3.out)⟩)
          subst hDe
          go_wp2_with fail
          exact bodyPost_ret (v := .tuple #[.int .i64 0, .int .i64 0]) (by simp [results, Tryz.results111, go_sem]) rfl ⟨rfl, Below.refl _ _⟩
        | false =>
          have HN : Hid (¬ (19 < k ∨ ∃ c, l[k]? = some c ∧ (letB c = true ∨ c.toNat = 95))) := Lib.hid (by
            rintro (h | ⟨c', h1, h2⟩)
            · exact h19 h
            · rw [HG.out] at h1
              obtain rfl := Option.some.inj h1
              rcases h2 with h2 | h2
              · rw [HB.out] at h2; cases h2
              · have := HB3.out; rw [decide_eq_true h2] at this; cases this)
          go_wp2_with fail
          refine HP.out.mono ?_
          rintro e w2 ⟨v, er, rfl, hb2, hcase⟩
          have HB2 := Lib.hid hb2
          clear hb2 HP
          rcases hcase with ⟨h1, rfl⟩ | ⟨h1, p, rfl⟩
          · have hDe := HOk.out HN.out h1
            subst hDe
            clear h1
            go_wp2_with fail
            exact bodyPost_ret (v := .tuple #[.int .i64 v, .int .i64 (k : Int)]) (by simp [results, Tryz.results111, go_sem]) rfl ⟨rfl, HB2.out⟩
          · have hDe := HBad.out HN.out h1
            subst hDe
            clear h1
            go_wp2_with fail
            exact bodyPost_ret (v := .tuple #[.int .i64 0, .int .i64 0]) (by simp [results, Tryz.results111, go_sem]) rfl ⟨rfl, HB2.out⟩
    · have d2 : decide ((k : Int) < (l.length : Int)) = false := by simp; omega
      have HN : Hid (¬ (19 < k ∨ ∃ c, l[k]? = some c ∧ (letB c = true ∨ c.toNat = 95))) := Lib.hid (by
        rintro (h | ⟨c', h1, _⟩)
        · exact h19 h
        · rw [List.getElem?_eq_none (by omega)] at h1; cases h1)
      go_wp2_with fail
      refine HP.out.mono ?_
      rintro e w2 ⟨v, er, rfl, hb2, hcase⟩
      have HB2 := Lib.hid hb2
      clear hb2 HP
      rcases hcase with ⟨h1, rfl⟩ | ⟨h1, p, rfl⟩
      · have hDe := HOk.out HN.out h1
        subst hDe
        clear h1
        go_wp2_with fail
        exact bodyPost_ret (v := .tuple #[.int .i64 v, .int .i64 (k : Int)]) (by simp [results, Tryz.results111, go_sem]) rfl ⟨rfl, HB2.out⟩
      · have hDe := HBad.out HN.out h1
        subst hDe
        clear h1
        go_wp2_with fail
        exact bodyPost_ret (v := .tuple #[.int .i64 0, .int .i64 0]) (by simp [results, Tryz.results111, go_sem]) rfl ⟨rfl, HB2.out⟩
end Go.Proofs.YtllgodaphoncnaaGreatDoor
