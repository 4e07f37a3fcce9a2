/- P8.2, SyntaxFirst: the law's walk. -/
import Derived.Test.YtllgodaphoncnaaGreatDoorSFirstE
import Derived.Test.YtllgodaphoncnaaGreatDoorSAwake
namespace Go.Proofs.YtllgodaphoncnaaGreatDoor
open Go.RowKit

open Go.ChangeShapes Go.WideShapes Go.ChangeAt Go.Joins Go.Deep in
set_option maxRecDepth 100000 in
theorem toks_cap {H : Type} {enc : TypeId × Value → H} {w : World} {base : Nat} {held : Bool} {fuel : Nat} {ad : Option Addr} {len cap : Nat} {d : DataW H × List MemPlace} (h : DataW.trod enc Tryz.prog w base (fun _ => true) held fuel 30 [.slice ad len cap] = some d) :
    len ≤ cap ∧ cap ≤ maxLen := by
  rcases open_slice Tryz.underlying30 h with ⟨e, _⟩ | ⟨a, len', cap', m, n, D, Pl, e, hb, hl, hm, _⟩
  · simp only [List.cons.injEq, and_true, Value.slice.injEq] at e
    obtain ⟨rfl, rfl, rfl⟩ := e
    exact ⟨Nat.le_refl _, Nat.zero_le _⟩
  · simp only [List.cons.injEq, and_true, Value.slice.injEq] at e
    obtain ⟨rfl, rfl, rfl⟩ := e
    exact ⟨by omega, by omega⟩
set_option maxRecDepth 100000 in
/-- 'l[:k]' -/
theorem slice_toks (ad : Option Addr) (g o len cap k : Nat) (hk : k ≤ len) (hc : len ≤ cap) (had : 0 < len → ad = some ⟨g, o, none⟩) : ∃ ad', (0 < k → ad' = some ⟨g, o, none⟩) ∧
    ∀ w, (Instr.sliceAt 30 (.slice ad len cap) none (some (.int .i64 (k : Int))) none).run Tryz.prog w = .ok (.slice ad' k cap) w := by
  refine ⟨if cap = 0 then ad else ad.map (·.add 0), fun h => ?_, fun w => ?_⟩
  · rw [had (by omega)]; simp [Addr.add_mid]
  · have e3 : ∀ w, (sizeOf 41).run Tryz.prog w = .ok 3 w := fun _ => by kernel_rfl
    have e1 : Tryz.prog.elem 30 = 41 := by kernel_rfl
    rw [run_sliceAt_slice (P := Tryz.prog) w 30 _ _ _ _ (by kernel_rfl), run_slice_h (P := Tryz.prog) w 30 ad len cap (by kernel_rfl) .i64 k (by omega) (by omega), e1, e3]
    simp [sliced, Result.andThen]
set_option maxRecDepth 100000 in
theorem toks_take {w : World} {ad ad' : Option Addr} {g o : Nat} {l : List Tk} (h : TokAt w ad g o l) (k : Nat) (hk : k ≤ l.length) (had : 0 < k → ad' = some ⟨g, o, none⟩) : TokAt w ad' g o (l.take k) :=
  ⟨fun hne => had (by rcases Nat.eq_zero_or_pos k with rfl | h0
                      · exact absurd rfl hne
                      · exact h0), fun i hi j hj => by
    have hi' : i < l.length := by simp only [List.length_take] at hi; omega
    rw [List.getElem_take]; exact h.cell i hi' j hj⟩
set_option maxRecDepth 100000 in
set_option maxHeartbeats 2000000 in
theorem syntaxFirst_walk (w : World) (hw : LexW w) (h9 : 9 ≤ w.heap.size) (ad : Option Addr) (g o cp : Nat) (l : List Tk) (hr : TokAt w ad g o l) (hop : ∀ x ∈ l, x.Wide) (hm : l.length ≤ maxLen) (hcp : l.length ≤ cp ∧ cp ≤ maxLen) :
    Calls Tryz.prog 5 #[.slice ad l.length cp] w fun e w' => e = .returned (.bool true) ∧ Below w.heap.size w w' := by
  have HAW := Lib.hid (fun W (hb : Below w.heap.size w W) => sawake_any W (hw.below hb) (by have := hb.size; omega))
  have hgl : l ≠ [] → g < w.heap.size := fun hne => by
    have h0 := hr.cell 0 (List.length_pos_iff.2 hne) 0 (by omega)
    exact block_lt_of_cell h0
  have HP := Lib.hid (fun W (hb : Below w.heap.size w W) => parse_any W (hw.below hb) (by have := hb.size; omega) ad g o cp l (hr.below hb (fun _ _ => rfl)) hop hm)
  have HP2 : Hid (∀ W, Below w.heap.size w W → ∀ ad' k, k ≤ l.length → (0 < k → ad' = some ⟨g, o, none⟩) → Calls Tryz.prog 13 #[.slice ad' k cp] W (PostE W (parseM (l.take k)))) := Lib.hid (fun W hb ad' k hk had => by
    have h := parse_any W (hw.below hb) (by have := hb.size; omega) ad' g o cp (l.take k) (toks_take (hr.below hb (fun _ _ => rfl)) k hk had) (fun t ht => hop t (List.mem_of_mem_take ht)) (by simp only [List.length_take]; omega)
    rwa [show (l.take k).length = k by simp only [List.length_take]; omega] at h)
  have HAD := Lib.hid hr.addr
  have HCE := Lib.hid (fun W (hb : Below w.heap.size w W) => (hr.below hb (fun _ _ => rfl)).cell)
  have HLIKE := Lib.hid (fun h : l.length ≤ 600 => parse_like h)
  have HFIRST := Lib.hid (fun (h : l.length ≤ 600) h2 => first_ok h h2)
  unfold maxLen at hm hcp
  obtain ⟨hcp1, hcp2⟩ := hcp
  clear hr hop hw h9
  by_cases h80 : 80 < l.length
  · have d80 : decide ((80 : Int) < (l.length : Int)) = true := by simp; omega
    have d80P : (80 < l.length) = True := by simp; omega
    clear h80
    go_enter Tryz.func5, Tryz.ntmps5
    go_wp2_with fail
    refine (HAW.out w (Below.refl _ _)).mono ?_
    rintro e w1 ⟨rfl, hb1⟩
    have HB1 := Lib.hid hb1
    clear hb1
    go_wp2_with fail
    refine (HAW.out w1 HB1.out).mono ?_
    rintro e w3 ⟨rfl, hb3⟩
    have HB3 := Lib.hid (HB1.out.trans (hb3.mono HB1.out.size))
    clear hb3
    go_wp2_with fail
    go_ret
    exact ⟨rfl, HB3.out⟩
  have d80 : decide ((80 : Int) < (l.length : Int)) = false := by simp; omega
  have d80P : (80 < l.length) = False := by simp; omega
  have hl80 : l.length ≤ 80 := by omega
  clear h80
  have hlike := HLIKE.out (by omega)
  have hfirst := HFIRST.out (by omega)
  clear HLIKE HFIRST
  obtain ⟨R, hR⟩ : ∃ R, parseM l = R := ⟨_, rfl⟩
  rw [hR] at HP hlike hfirst
  clear hR
  obtain ⟨t, K, f⟩ := R
  simp only at hlike hfirst
  obtain ⟨hK, hf⟩ := hlike
  have HF := Lib.hid hf
  have HFI := Lib.hid hfirst
  clear hfirst hf
  go_enter Tryz.func5, Tryz.ntmps5
  go_wp2_with fail
  refine (HAW.out w (Below.refl _ _)).mono ?_
  rintro e w1 ⟨rfl, hb1⟩
  have HB1 := Lib.hid hb1
  clear hb1
  go_wp2_with fail
  refine (HP.out w1 HB1.out).mono ?_
  rintro e w2 ⟨X, rfl, -, hb2⟩
  have HB2 := Lib.hid (HB1.out.trans (hb2.mono HB1.out.size))
  clear hb2
  simp only
  unfold XV.v
  rcases HF.out with rfl | ⟨rfl | rfl, rfl⟩
  · have HF2 := Lib.hid (HFI.out rfl)
    have HA1 := Lib.hid (HB2.out.alloc HB2.out.size (.cells #[.string X.o, .int .i64 X.x.k, .int .i64 X.x.i, .string X.x.s, .slice X.x.a X.x.n X.x.c, .string X.w, .string X.n, .slice X.a X.l X.c] 27 (0, 0)))
    have HC2 := Lib.hid (HP2.out _ HA1.out ad K hK (fun h => HAD.out (by intro e; rw [e] at hK; simp at hK; omega)))
    obtain ⟨R2, hR2⟩ : ∃ R2, parseM (l.take K) = R2 := ⟨_, rfl⟩
    rw [hR2] at HC2 HF2
    obtain ⟨t2, K2, f2⟩ := R2
    clear HP2 hR2 HFI HF
    go_wp2_with fail
    refine HC2.out.mono ?_
    rintro e w3 ⟨X2, rfl, -, hb3⟩
    have HB3 := Lib.hid (HA1.out.trans (hb3.mono HA1.out.size))
    have HFIN := Lib.hid (HB3.out.alloc HB3.out.size (.cells #[.string X2.o, .int .i64 X2.x.k, .int .i64 X2.x.i, .string X2.x.s, .slice X2.x.a X2.x.n X2.x.c, .string X2.w, .string X2.n, .slice X2.a X2.l X2.c] 27 (0, 0)))
    clear hb3 HC2
    simp only
    unfold XV.v
    by_cases hlt : K < l.length
    · have dK : decide ((K : Int) < (l.length : Int)) = true := by simp; omega
      have dKP : (K < l.length) = True := by simp; omega
      obtain rfl := HAD.out (by intro e; rw [e] at hlt; cases hlt)
      have hc := HCE.out _ HFIN.out K hlt
      obtain ⟨u, hu⟩ : ∃ u, l[K] = u := ⟨_, rfl⟩
      rw [hu] at hc
      have HLU : Hid (l[K]? = some u) := Lib.hid (by rw [List.getElem?_eq_getElem hlt, hu])
      have c0 := hc 0 (by omega)
      have c1 := hc 1 (by omega)
      obtain ⟨uk, us, un⟩ := u
      simp only [Tk.cells, List.getElem?_cons_zero, List.getElem?_cons_succ, Nat.add_zero] at c0 c1
      clear hc hu
      by_cases hk5 : uk = 5
      · subst hk5
        by_cases hs : us = kOpen
        · subst hs
          rw [show st kOpen = ⟨#[91]⟩ from rfl] at c1
          go_wp2_with fail
          go_ret
          exact ⟨rfl, HFIN.out⟩
        · have HG := Lib.hid (HF2.out ⟨hK, fun t ht h1 h2 => by
            rw [HLU.out] at ht
            obtain rfl := Option.some.inj ht
            exact hs h2⟩)
          have hsL : (us == [91]) = false := by simpa using hs
          rw [← toList_st us] at hsL
          obtain ⟨s, hse⟩ : ∃ s, st us = s := ⟨_, rfl⟩
          rw [hse] at c1 hsL
          clear hse HF2
          rcases HG.out with ⟨h1, h2⟩ | h1 | h1
          · subst h1 h2
            go_wp2_with fail
            go_ret
            exact ⟨rfl, HFIN.out⟩
          · subst h1
            go_wp2_with fail
            go_ret
            exact ⟨rfl, HFIN.out⟩
          · subst h1
            go_wp2_with fail
            go_ret
            exact ⟨rfl, HFIN.out⟩
      · have HG := Lib.hid (HF2.out ⟨hK, fun t ht h1 h2 => by
          rw [HLU.out] at ht
          obtain rfl := Option.some.inj ht
          exact hk5 h1⟩)
        have hkD : decide (uk = 5) = false := by simp [hk5]
        have hkP : (uk = 5) = False := eq_false hk5
        clear HF2 hk5
        rcases HG.out with ⟨h1, h2⟩ | h1 | h1
        · subst h1 h2
          go_wp2_with fail
          go_ret
          exact ⟨rfl, HFIN.out⟩
        · subst h1
          go_wp2_with fail
          go_ret
          exact ⟨rfl, HFIN.out⟩
        · subst h1
          go_wp2_with fail
          go_ret
          exact ⟨rfl, HFIN.out⟩
    · have HG := Lib.hid (HF2.out ⟨hK, fun t ht h1 h2 => by
        rw [List.getElem?_eq_none (by omega)] at ht
        cases ht⟩)
      have dK : decide ((K : Int) < (l.length : Int)) = false := by simp; omega
      have dKP : (K < l.length) = False := by simp; omega
      clear HF2 hlt
      rcases HG.out with ⟨h1, h2⟩ | h1 | h1
      · subst h1 h2
        go_wp2_with fail
        go_ret
        exact ⟨rfl, HFIN.out⟩
      · subst h1
        go_wp2_with fail
        go_ret
        exact ⟨rfl, HFIN.out⟩
      · subst h1
        go_wp2_with fail
        go_ret
        exact ⟨rfl, HFIN.out⟩
  · have HA1 := Lib.hid (HB2.out.alloc HB2.out.size (.cells #[.string X.o, .int .i64 X.x.k, .int .i64 X.x.i, .string X.x.s, .slice X.x.a X.x.n X.x.c, .string X.w, .string X.n, .slice X.a X.l X.c] 27 (0, 0)))
    go_wp2_with fail
    go_ret
    exact ⟨rfl, HA1.out⟩
  · have HA1 := Lib.hid (HB2.out.alloc HB2.out.size (.cells #[.string X.o, .int .i64 X.x.k, .int .i64 X.x.i, .string X.x.s, .slice X.x.a X.x.n X.x.c, .string X.w, .string X.n, .slice X.a X.l X.c] 27 (0, 0)))
    go_wp2_with fail
    go_ret
    exact ⟨rfl, HA1.out⟩
end Go.Proofs.YtllgodaphoncnaaGreatDoor
