/- The law's count of plain tokens; What is parsed with no error: formed, not too deep, and of as many plain tokens as were given; What a bag that is read is: formed, of items that tokens can have; P8.1, SyntaxReads: the law's walk. -/
import Derived.Test.YtllgodaphoncnaaGreatDoorJ51
import Derived.Test.YtllgodaphoncnaaGreatDoorJ52
import Derived.Test.YtllgodaphoncnaaGreatDoorJ46
import Derived.Test.YtllgodaphoncnaaGreatDoorSSize
import Derived.Test.YtllgodaphoncnaaGreatDoorKQuiet0
namespace Go.Proofs.YtllgodaphoncnaaGreatDoor
open Go.RowKit

set_option maxRecDepth 100000 in
theorem pN_take (l : List Tk) (k : Nat) (hk : k < l.length) : pN (l.take (k + 1)) = pN (l.take k) + (plnB l[k]).toNat := by
  rw [List.take_succ_eq_append_getElem hk, pN_append, pN_cons, pN_nil]; omega
set_option maxRecDepth 100000 in
theorem wpList_of_quiet {P : Program} {ops : Array Oper} {C : World → Prop} {Q : Exit → Act → World → Prop} {QQ : Act → Prop} (hQ : ∀ a w, C w → QQ a → Q .normal a w) : ∀ (l : List Oper) (a : Act) (w : World), C w → wpQuiet P ops C QQ l a → wpList P ops Q l a w
  | [], a, w, hw, h => hQ a w hw h
  | o :: rest, a, w, hw, h => by
    unfold wpQuiet at h
    unfold wpList
    by_cases hc : Region.wanted o (yielded ops a.tmps) = true
    · rw [if_pos hc] at h
      rw [if_pos hc]
      exact .inl (Oper.wp_of_quiet hw (fun a w' hw' hk => wpList_of_quiet hQ rest a w' hw' hk) h)
    · rw [if_neg hc] at h
      rw [if_neg hc]
      exact wpList_of_quiet hQ rest _ w hw h
set_option maxRecDepth 100000 in
/-- a plain region of reads and of calls that make new memory alone, walked as a drawn one is -/
theorem wp_region_plainB {P : Program} {id : Nat} {l : List Oper} {Q : Exit → Act → World → Prop} {a : Act} {w : World} (h : wpQuiet P l.toArray (fun w' => ∃ m : Bl w, w' = m.wr) (fun a' => ∀ m : Bl w, Q .normal a' m.wr) l a) : (Code.region id l.toArray false).wp P Q a w :=
  wp_region_lit (wpList_of_quiet (C := fun w' => ∃ m : Bl w, w' = m.wr) (QQ := fun a' => ∀ m : Bl w, Q .normal a' m.wr) (fun _ _ ⟨m, hm⟩ h => hm ▸ h m) l a w ⟨⟨w, Below.refl _ _⟩, rfl⟩ h)
set_option maxRecDepth 100000 in
set_option maxHeartbeats 4000000 in
theorem plain8_any (w : World) (l : List Tk) (ad : Option Addr) (g o c : Nat) (hl : TokAt w ad g o l) (hm : l.length ≤ 1000000) :
    Calls Tryz.prog 18 #[.slice ad l.length c] w fun e w' => e = .returned (.int .i64 (pN l : Int)) ∧ Below w.heap.size w w' := by
  have HL := Lib.hid hl
  have HTK := Lib.hid (pN_take l)
  have hple : ∀ m : List Tk, pN m ≤ m.length := fun m => List.length_filter_le _ _
  have HLE := Lib.hid (fun k => Nat.le_trans (hple (l.take k)) (by rw [List.length_take]; exact Nat.min_le_right _ _))
  obtain ⟨R, hR⟩ : ∃ R, pN l = R := ⟨_, rfl⟩
  have HRR := Lib.hid hR
  rw [hR]
  clear hl hple hR
  go_enter Tryz.func18, Tryz.ntmps18
  go_wp2_with fail
  go_loopw [3, 4] (fun v3 v4 wr => ∃ (k n : Nat), k ≤ l.length ∧ v4 = .int .i64 k ∧ v3 = .int .i64 n ∧ Hid (pN (l.take k) = n) ∧ Below w.heap.size w wr) (fun _ v4 _ => l.length - (intOf v4).toNat)
  case atStart => exact ⟨0, 0, by omega, rfl, rfl, Lib.hid rfl, Below.refl _ _⟩
  case round =>
    obtain ⟨k, n, hk, rfl, rfl, HPN, hb⟩ := hrel
    have HB := Lib.hid hb
    clear hb
    have hn9 : n ≤ 1000000 := by have := HLE.out k; have := HPN.out; omega
    by_cases hlt : k < l.length
    · have d1 : decide ((k : Int) < (l.length : Int)) = true := by simp; omega
      have y0 := fun m : Bl wr => ((HB.out.trans (m.below.mono HB.out.size)).cell (p := ⟨g, o + k * 3 + 0, none⟩) (block_lt_of_cell (HL.out.cell k hlt 0 (by omega)))).trans (HL.out.cell k hlt 0 (by omega))
      have y1 := fun m : Bl wr => ((HB.out.trans (m.below.mono HB.out.size)).cell (p := ⟨g, o + k * 3 + 1, none⟩) (block_lt_of_cell (HL.out.cell k hlt 1 (by omega)))).trans (HL.out.cell k hlt 1 (by omega))
      have had := HL.out.addr (by intro e; rw [e] at hlt; cases hlt)
      subst had
      have hix : (0 : Int) ≤ k ∧ (k : Int) < (l.length : Int) := by omega
      have HSN := Lib.hid (HTK.out k hlt)
      rw [HPN.out] at HSN
      generalize l[k] = t at *
      obtain ⟨K, s, N⟩ := t
      simp only [Tk.cells, List.getElem?_cons_zero, List.getElem?_cons_succ, Nat.add_zero] at y0 y1
      have es := toList_st s
      obtain ⟨S, hS⟩ : ∃ S, st s = S := ⟨_, rfl⟩
      rw [hS] at y1 es
      clear hS
      go_upto_region 5 with fail
      refine wp_region_plainB ?_
      simp only [List.append_eq, List.cons_append, List.nil_append]
      by_cases h1 : K = 1
      · subst h1
        by_cases ht : s = kTrue
        · have e1 : (S.toList == [116, 114, 117, 101]) = true := by rw [es, ht]; rfl
          have e2 : (S.toList != [116, 114, 117, 101]) = false := by rw [bne, e1]; rfl
          have HPL : Hid (pN (l.take (k + 1)) = n) := Lib.hid (by rw [HSN.out, show plnB ⟨1, s, N⟩ = false from by rw [ht]; simp [plnB]]; rfl)
          clear HSN es HPN
          repeat (go_big_quiet_step (fail))
          refine wpQuiet_nil ?_
          intro m
          have HBM := Lib.hid (HB.out.trans (m.below.mono HB.out.size))
          clear y0 y1
          go_wp2_with fail
          go_roundw
          case rel => exact ⟨k + 1, n, by omega, by go_num, rfl, HPL, HBM.out⟩
          case measure => simp [intOf]; omega
        have e1 : (S.toList == [116, 114, 117, 101]) = false := by rw [es]; simpa using ht
        have e2 : (S.toList != [116, 114, 117, 101]) = true := by rw [bne, e1]; rfl
        by_cases hf : s = kFalse
        · have e3 : (S.toList == [102, 97, 108, 115, 101]) = true := by rw [es, hf]; rfl
          have e4 : (S.toList != [102, 97, 108, 115, 101]) = false := by rw [bne, e3]; rfl
          have HPL : Hid (pN (l.take (k + 1)) = n) := Lib.hid (by rw [HSN.out, show plnB ⟨1, s, N⟩ = false from by rw [hf]; simp [plnB]]; rfl)
          clear HSN es HPN
          repeat (go_big_quiet_step (fail))
          refine wpQuiet_nil ?_
          intro m
          have HBM := Lib.hid (HB.out.trans (m.below.mono HB.out.size))
          clear y0 y1
          go_wp2_with fail
          go_roundw
          case rel => exact ⟨k + 1, n, by omega, by go_num, rfl, HPL, HBM.out⟩
          case measure => simp [intOf]; omega
        have e3 : (S.toList == [102, 97, 108, 115, 101]) = false := by rw [es]; simpa using hf
        have e4 : (S.toList != [102, 97, 108, 115, 101]) = true := by rw [bne, e3]; rfl
        have HPL : Hid (pN (l.take (k + 1)) = n + 1) := Lib.hid (by rw [HSN.out, show plnB ⟨1, s, N⟩ = true from by simp [plnB, ht, hf]]; rfl)
        clear HSN es HPN
        repeat (go_big_quiet_step (fail))
        refine wpQuiet_nil ?_
        intro m
        have HBM := Lib.hid (HB.out.trans (m.below.mono HB.out.size))
        clear y0 y1
        go_wp2_with fail
        go_roundw
        case rel => exact ⟨k + 1, n + 1, by omega, by go_num, by go_num, HPL, HBM.out⟩
        case measure => simp [intOf]; omega
      have d2 : (K == 1) = false := by simpa using h1
      by_cases h5 : K = 5
      · subst h5
        by_cases g0 : s = kDot
        · have f0 : (S.toList == [46]) = true := by rw [es, g0]; rfl
          have HPL : Hid (pN (l.take (k + 1)) = n + 1) := Lib.hid (by rw [HSN.out, show plnB ⟨5, s, N⟩ = true from by rw [g0]; simp [plnB]]; rfl)
          clear HSN es HPN
          repeat (go_big_quiet_step (fail))
          refine wpQuiet_nil ?_
          intro m
          have HBM := Lib.hid (HB.out.trans (m.below.mono HB.out.size))
          clear y0 y1
          go_wp2_with fail
          go_roundw
          case rel => exact ⟨k + 1, n + 1, by omega, by go_num, by go_num, HPL, HBM.out⟩
          case measure => simp [intOf]; omega
        have f0 : (S.toList == [46]) = false := by rw [es]; simpa using g0
        by_cases g1 : s = kPlus
        · have f1 : (S.toList == [43]) = true := by rw [es, g1]; rfl
          have HPL : Hid (pN (l.take (k + 1)) = n + 1) := Lib.hid (by rw [HSN.out, show plnB ⟨5, s, N⟩ = true from by rw [g1]; simp [plnB]]; rfl)
          clear HSN es HPN
          repeat (go_big_quiet_step (fail))
          refine wpQuiet_nil ?_
          intro m
          have HBM := Lib.hid (HB.out.trans (m.below.mono HB.out.size))
          clear y0 y1
          go_wp2_with fail
          go_roundw
          case rel => exact ⟨k + 1, n + 1, by omega, by go_num, by go_num, HPL, HBM.out⟩
          case measure => simp [intOf]; omega
        have f1 : (S.toList == [43]) = false := by rw [es]; simpa using g1
        by_cases g2 : s = kStar
        · have f2 : (S.toList == [42]) = true := by rw [es, g2]; rfl
          have HPL : Hid (pN (l.take (k + 1)) = n + 1) := Lib.hid (by rw [HSN.out, show plnB ⟨5, s, N⟩ = true from by rw [g2]; simp [plnB]]; rfl)
          clear HSN es HPN
          repeat (go_big_quiet_step (fail))
          refine wpQuiet_nil ?_
          intro m
          have HBM := Lib.hid (HB.out.trans (m.below.mono HB.out.size))
          clear y0 y1
          go_wp2_with fail
          go_roundw
          case rel => exact ⟨k + 1, n + 1, by omega, by go_num, by go_num, HPL, HBM.out⟩
          case measure => simp [intOf]; omega
        have f2 : (S.toList == [42]) = false := by rw [es]; simpa using g2
        by_cases g3 : s = kLt
        · have f3 : (S.toList == [60]) = true := by rw [es, g3]; rfl
          have HPL : Hid (pN (l.take (k + 1)) = n + 1) := Lib.hid (by rw [HSN.out, show plnB ⟨5, s, N⟩ = true from by rw [g3]; simp [plnB]]; rfl)
          clear HSN es HPN
          repeat (go_big_quiet_step (fail))
          refine wpQuiet_nil ?_
          intro m
          have HBM := Lib.hid (HB.out.trans (m.below.mono HB.out.size))
          clear y0 y1
          go_wp2_with fail
          go_roundw
          case rel => exact ⟨k + 1, n + 1, by omega, by go_num, by go_num, HPL, HBM.out⟩
          case measure => simp [intOf]; omega
        have f3 : (S.toList == [60]) = false := by rw [es]; simpa using g3
        by_cases g4 : s = kOpen
        · have f4 : (S.toList == [91]) = true := by rw [es, g4]; rfl
          have HPL : Hid (pN (l.take (k + 1)) = n + 1) := Lib.hid (by rw [HSN.out, show plnB ⟨5, s, N⟩ = true from by rw [g4]; simp [plnB]]; rfl)
          clear HSN es HPN
          repeat (go_big_quiet_step (fail))
          refine wpQuiet_nil ?_
          intro m
          have HBM := Lib.hid (HB.out.trans (m.below.mono HB.out.size))
          clear y0 y1
          go_wp2_with fail
          go_roundw
          case rel => exact ⟨k + 1, n + 1, by omega, by go_num, by go_num, HPL, HBM.out⟩
          case measure => simp [intOf]; omega
        have f4 : (S.toList == [91]) = false := by rw [es]; simpa using g4
        have HPL : Hid (pN (l.take (k + 1)) = n) := Lib.hid (by rw [HSN.out, show plnB ⟨5, s, N⟩ = false from by simp [plnB, g0, g1, g2, g3, g4]]; rfl)
        clear HSN es HPN
        repeat (go_big_quiet_step (fail))
        refine wpQuiet_nil ?_
        intro m
        have HBM := Lib.hid (HB.out.trans (m.below.mono HB.out.size))
        clear y0 y1
        go_wp2_with fail
        go_roundw
        case rel => exact ⟨k + 1, n, by omega, by go_num, rfl, HPL, HBM.out⟩
        case measure => simp [intOf]; omega
      have d3 : (K == 5) = false := by simpa using h5
      have HPL : Hid (pN (l.take (k + 1)) = n) := Lib.hid (by rw [HSN.out, show plnB ⟨K, s, N⟩ = false from by simp [plnB, h1, h5]]; rfl)
      clear HSN es HPN
      repeat (go_big_quiet_step (fail))
      refine wpQuiet_nil ?_
      intro m
      have HBM := Lib.hid (HB.out.trans (m.below.mono HB.out.size))
      clear y0 y1
      go_wp2_with fail
      go_roundw
      case rel => exact ⟨k + 1, n, by omega, by go_num, rfl, HPL, HBM.out⟩
      case measure => simp [intOf]; omega
    · obtain rfl : k = l.length := by omega
      have d1 : decide ((l.length : Int) < (l.length : Int)) = false := by simp
      have hE := HPN.out
      rw [List.take_length, HRR.out] at hE
      subst hE
      go_wp2_with fail
      go_ret
      exact ⟨rfl, HB.out⟩
end Go.Proofs.YtllgodaphoncnaaGreatDoor
namespace Go.Proofs.YtllgodaphoncnaaGreatDoor

set_option maxRecDepth 100000 in
theorem read_ok {T : List Tk} (hbag : ∀ q, Gd (bagP T q)) (h : (parseM T).2.2 = 0) : (parseM T).2.1 = 0 ∧ fmT (parseM T).1 = true ∧ depthT (parseM T).1 ≤ 12 ∧ (T.filter plnB).length = plnT (parseM T).1 := by
  have hg := gd_expr hbag .ors ⟨0, none⟩
  have hc := cn_expr (T := T) .ors ⟨0, none⟩
  have ha := adv_expr (T := T) .ors ⟨0, none⟩
  unfold parseM at h ⊢
  by_cases h6 : 600 < T.length
  · rw [if_pos h6] at h; exact absurd h (by decide)
  rw [if_neg h6] at h ⊢
  simp only at h ⊢
  generalize exprP T .ors ⟨0, none⟩ = x at *
  cases hx : x.2.err with
  | some e =>
    have hq : (if x.2.at' < T.length then stopP x.2 else x.2).err = some e := by
      split
      · unfold stopP failP; rw [hx]; exact hx
      · exact hx
    rw [hq] at h
    simp only at h
    obtain ⟨-, -, h2⟩ := ha.place rfl e.1 e.2 hx
    rw [h2] at h
    exact absurd h (by decide)
  | none =>
    by_cases hlt : x.2.at' < T.length
    · rw [if_pos hlt] at h
      have hq : (stopP x.2).err = some (2, x.2.at') := by unfold stopP failP; rw [hx]; rfl
      rw [hq] at h
      simp only at h
      exact absurd h (by decide)
    · rw [if_neg hlt] at h ⊢
      rw [hx] at h ⊢
      simp only at h ⊢
      have hl := ha.len (Nat.zero_le _)
      have hat : x.2.at' = T.length := by omega
      by_cases hd : 12 < depthT x.1
      · rw [if_pos hd] at h; exact absurd h (by decide)
      · rw [if_neg hd]
        obtain ⟨-, h2⟩ := hc hx
        refine ⟨rfl, hg hx, by simp only; omega, ?_⟩
        rw [hat] at h2
        unfold cN at h2
        simp only [List.take_length, List.take_zero, List.filter_nil, List.length_nil, Nat.zero_add] at h2
        exact h2
end Go.Proofs.YtllgodaphoncnaaGreatDoor
namespace Go.Proofs.YtllgodaphoncnaaGreatDoor

set_option maxRecDepth 100000 in
theorem alone_n {x : Val} (h : x.alone = true) : x.n = 0 := by
  unfold Val.alone aloneB at h
  repeat' split at h
  all_goals simp at h
  all_goals omega
set_option maxRecDepth 100000 in
theorem alone_bare {x : Val} (h : x.alone = true) : (bare x).alone = true := by
  have hn := alone_n h
  have e : (bare x).alone = x.alone := by unfold Val.alone bare; rw [hn]
  rw [e, h]
set_option maxRecDepth 100000 in
theorem kindOk_parts {h x : Val} (hk : kindOk h x = true) : ¬ x.k = 0 ∧ ¬ x.k = 5 ∧ x.k = h.k := by
  unfold kindOk at hk
  rw [Bool.and_eq_true, Bool.and_eq_true] at hk
  exact ⟨by simpa using hk.1, by simpa using hk.2.1, by simpa using hk.2.2⟩
set_option maxRecDepth 100000 in
theorem mem_bagStep {h : List Val} {t x : Val} (hx : x ∈ bagStep h t) : x ∈ h ∨ x = bare t := by
  unfold bagStep at hx
  split at hx
  · exact .inl hx
  · rcases List.mem_append.1 hx with h1 | h1
    · exact .inl (List.mem_of_mem_take h1)
    · rcases List.mem_cons.1 h1 with h1 | h1
      · exact .inr h1
      · exact .inl (List.mem_of_mem_drop h1)
set_option maxRecDepth 100000 in
theorem mem_bagTo {l : List Val} {y : Val} (hy : y ∈ bagTo l) : ∃ x ∈ l, y = bare x := by
  have key : ∀ (l h : List Val), y ∈ l.foldl bagStep h → y ∈ h ∨ ∃ x ∈ l, y = bare x := by
    intro l
    induction l with
    | nil => intro h hy; exact .inl hy
    | cons x l ih =>
      intro h hy
      rcases ih _ hy with h1 | ⟨z, hz, e⟩
      · rcases mem_bagStep h1 with h2 | h2
        · exact .inl h2
        · exact .inr ⟨x, List.mem_cons_self, h2⟩
      · exact .inr ⟨z, List.mem_cons_of_mem _ hz, e⟩
  rcases key l [] hy with h | h
  · cases h
  · exact h
set_option maxRecDepth 100000 in
theorem bag_formed {l : List Val} (hk : ∀ x ∈ l, kindOk l[0]! x = true) (ha : ∀ x ∈ l, x.alone = true) (h16 : (bagTo l).length ≤ 16) : listB (bagTo l) = true := by
  have hr := rising_bagged l
  refine (listB_yes h16 fun j hj => ?_).symm
  have hall : ∀ y ∈ bagTo l, ¬ y.k = 0 ∧ y.k = l[0]!.k ∧ y.alone = true := fun y hy => by
    obtain ⟨x, hx, rfl⟩ := mem_bagTo hy
    have h1 := kindOk_parts (hk x hx)
    exact ⟨h1.1, h1.2.2, alone_bare (ha x hx)⟩
  have h0 := hall _ (List.getElem_mem (show 0 < (bagTo l).length by omega))
  have hjj := hall _ (List.getElem_mem hj)
  unfold okA
  rw [getElem!_pos _ 0 (by omega), getElem!_pos _ j hj]
  rcases Nat.eq_zero_or_pos j with rfl | hp
  · exact okV_first hjj.1 rfl hjj.2.2
  · rw [getElem!_pos _ (j - 1) (by omega)]
    exact okV_yes hjj.1 (by rw [hjj.2.1, h0.2.1]) hjj.2.2 (hr (j - 1) j (by omega) hj (by omega))
section
variable {T : List Tk}
set_option maxRecDepth 100000 in
theorem fm_val {v : PV} (h : fmT (valT v) = true) : valueM v = true := by
  simp only [valT, fmT, fmL, hdB, Bool.and_eq_true] at h
  have h3 := h.1.2
  rw [if_pos trivial] at h3
  simp only [Bool.and_eq_true] at h3
  exact h3.1.1
set_option maxRecDepth 100000 in
theorem litB_mono {v : Val} (h : litB v false = true) : litB v true = true := by
  unfold litB at h ⊢
  split
  · rename_i hk; rw [if_pos hk] at h; simp at h; simp [h]
  · rename_i hk; rw [if_neg hk] at h; exact h
set_option maxRecDepth 100000 in
theorem lit_lit {p : PS} {v : Val} (h : litP (aheadP T p) = some v) : litB v true = true := by
  have h1 := fm_val (gd_lit h)
  have h2 := (lit_pl h).2
  unfold valueM at h1
  rw [if_neg (by simpa [PV.of] using h2)] at h1
  simp only [Bool.and_eq_true] at h1
  exact litB_mono (v := v) h1.1.2
set_option maxRecDepth 100000 in
theorem gd_member (hW : ∀ t ∈ T, t.n ≤ 9223372036854775807) (p : PS) : (memberP T p).2.err = none → litB (memberP T p).1 true = true := by
  unfold memberP
  split
  · split
    · rename_i h2
      have h3 : (aheadP T (passP p)).k = 2 := by simpa using h2
      obtain ⟨-, hl, ha, hf⟩ := ahead_ne (T := T) (p := passP p) (by rw [h3]; decide)
      rw [← ha] at hf
      have hn := hW _ (List.getElem_mem hl)
      rw [← ha] at hn
      generalize aheadP T (passP p) = t at *
      intro _
      unfold formB at hf
      simp [h3] at hf
      simp [litB]
      omega
    · exact fun h => absurd h (stop_bad _)
  · split
    · rename_i v h
      exact fun _ => lit_lit h
    · exact fun h => absurd h (stop_bad _)
set_option maxRecDepth 100000 in
theorem gd_members (hW : ∀ t ∈ T, t.n ≤ 9223372036854775807) : ∀ (n : Nat) (l : List Val) (p : PS), (membersP T n (l, p)).2.err = none → l ≠ [] → (∀ x ∈ l, litB x true = true) → (membersP T n (l, p)).1 ≠ [] ∧ ∀ x ∈ (membersP T n (l, p)).1, litB x true = true
  | 0, _, _ => fun _ hl ha => ⟨hl, ha⟩
  | n + 1, l, p => by
    unfold membersP; simp only; split
    · intro he hl ha
      refine gd_members hW n _ _ he (by simp) fun x hx => ?_
      rcases List.mem_append.1 hx with hx | hx
      · exact ha x hx
      · obtain rfl := List.mem_singleton.1 hx
        exact gd_member hW _ (adv_none (adv_members n _ _) he)
    · exact fun _ hl ha => ⟨hl, ha⟩
set_option maxRecDepth 100000 in
theorem step_ne (h : List Val) (x : Val) : bagStep h x ≠ [] := by
  unfold bagStep
  split
  · rename_i hf
    intro e
    subst e
    simp [foundAt] at hf
  · simp
set_option maxRecDepth 100000 in
theorem fold_ne : ∀ (l h : List Val), h ≠ [] → l.foldl bagStep h ≠ []
  | [], _, hh => hh
  | x :: l, h, _ => fold_ne l (bagStep h x) (step_ne h x)
set_option maxRecDepth 100000 in
theorem bagTo_ne {l : List Val} (h : l ≠ []) : bagTo l ≠ [] := by
  cases l with
  | nil => exact absurd rfl h
  | cons x l => exact fold_ne l (bagStep [] x) (step_ne [] x)
set_option maxRecDepth 100000 in
theorem gd_bag (hW : ∀ t ∈ T, t.n ≤ 9223372036854775807) (q : PS) : Gd (bagP T q) := by
  unfold bagP bagTail
  generalize hx : membersP T (T.length + 1) ([(memberP T q).1], (memberP T q).2) = x
  intro he
  simp only at he ⊢
  by_cases hb : bagE x.1 (fun j => x.1[j]!.alone) = 0
  · rw [if_pos hb] at he
    have h1 := adv_none (adv_needs kClose x.2) he
    rw [← hx] at h1
    have h2 := adv_none (adv_members _ _ _) h1
    obtain ⟨hne, hall⟩ := gd_members hW _ _ _ h1 (by simp) (fun y hy => by obtain rfl := List.mem_singleton.1 hy; exact gd_member hW q h2)
    rw [hx] at hne hall
    generalize x.1 = l at *
    have hb' := hb
    unfold bagE mayB at hb
    have hF : (List.range l.length).all (fun j => l[j]!.alone) = true := by
      cases h : (List.range l.length).all (fun j => l[j]!.alone) with
      | true => rfl
      | false => rw [h] at hb; simp at hb
    rw [hF] at hb
    have hK : (List.range l.length).all (fun j => kindOk l[0]! l[j]!) = true := by
      cases h : (List.range l.length).all (fun j => kindOk l[0]! l[j]!) with
      | true => rfl
      | false => rw [h] at hb; simp at hb
    rw [hK] at hb
    have h16 : (bagTo l).length ≤ 16 := by
      rcases Nat.lt_or_ge 16 (bagTo l).length with h | h
      · simp [h] at hb
      · exact h
    rw [List.all_eq_true] at hF hK
    have hin : ∀ y ∈ l, ∃ j, j < l.length ∧ l[j]! = y := fun y hy => by
      obtain ⟨j, hj, rfl⟩ := List.mem_iff_getElem.1 hy
      exact ⟨j, hj, getElem!_pos l j hj⟩
    have hlist : listB (bagTo l) = true := bag_formed (fun y hy => by
      obtain ⟨j, hj, rfl⟩ := hin y hy
      exact hK j (by simpa using hj)) (fun y hy => by
      obtain ⟨j, hj, rfl⟩ := hin y hy
      exact hF j (by simpa using hj)) h16
    have hlit : (bagTo l).all (litB · true) = true := by
      rw [List.all_eq_true]
      intro y hy
      obtain ⟨z, hz, rfl⟩ := mem_bagTo hy
      exact hall z hz
    have hne2 := bagTo_ne hne
    have hv : valueM (bagV l) = true := by
      unfold bagV
      rw [if_pos hb']
      unfold valueM
      rw [if_pos rfl]
      have : (bagTo l).isEmpty = false := by simpa using hne2
      simp [hlist, hlit, this]
    have hh : hdB kValue (bagV l) [] [] 0 = true := by
      unfold hdB; rw [if_pos rfl, hv]; decide
    simp only [valT, fmT, fmL, List.length_nil, hh, Bool.and_true]
  · rw [if_neg hb] at he
    exfalso
    revert he
    unfold failP
    cases hq : (needsP T kClose x.2).err <;> simp [hq]
end
set_option maxRecDepth 100000 in
/-- what is parsed with no error -/
theorem read_all {T : List Tk} (hW : ∀ t ∈ T, t.n ≤ 9223372036854775807) (h : (parseM T).2.2 = 0) : (parseM T).2.1 = 0 ∧ fmT (parseM T).1 = true ∧ depthT (parseM T).1 ≤ 12 ∧ (T.filter plnB).length = plnT (parseM T).1 := read_ok (gd_bag hW) h
end Go.Proofs.YtllgodaphoncnaaGreatDoor
namespace Go.Proofs.YtllgodaphoncnaaGreatDoor
open Go.RowKit

set_option maxRecDepth 100000 in
theorem parse_bad {T : List Tk} (h : (parseM T).2.2 ≠ 0) : (parseM T).1 = noTr := by
  unfold parseM at h ⊢
  split
  · rfl
  · rename_i h6
    rw [if_neg h6] at h
    simp only at h ⊢
    split
    · rfl
    · rename_i he
      rw [he] at h
      simp only at h
      split
      · rfl
      · rename_i h12
        rw [if_neg h12] at h
        exact absurd rfl h
set_option maxRecDepth 100000 in
theorem parse_size (T : List Tk) : sizeT (parseM T).1 ≤ 2 * T.length + 1 := by
  have h1 : sizeT noTr = 1 := by simp [noTr, sizeT, sizeL]
  unfold parseM
  split
  · simp only; omega
  · simp only
    split
    · simp only; omega
    · split
      · simp only; omega
      · simp only
        have hs := size_expr (T := T) .ors ⟨0, none⟩
        have ha := (adv_expr (T := T) .ors ⟨0, none⟩).len (Nat.zero_le _)
        omega
set_option maxRecDepth 100000 in
theorem word_len {s : List UInt8} (h : wordB s = true) : s.length ≤ 64 := by
  unfold wordB at h
  split at h
  · cases h
  · simp only [Bool.and_eq_true, decide_eq_true_eq] at h
    omega
set_option maxRecDepth 100000 in
theorem text_len {s : List UInt8} (h : textB s = true) : s.length ≤ 64 := by
  unfold textB at h
  simp only [Bool.and_eq_true, decide_eq_true_eq] at h
  exact h.1
set_option maxRecDepth 100000 in
theorem fm_short (t : Tr) : fmT t = true → shortT t = true := by
  refine tr_ind (P := fun t => fmT t = true → shortT t = true) (fun t ih h => ?_) t
  rw [fmT_eq] at h
  simp only [Bool.and_eq_true] at h
  have hd := hd_is h.1
  have hall := fmL_all h.2
  rw [shortT_eq]
  have hps : shortL t.ps = true := by
    have : ∀ l : List Tr, (∀ u ∈ l, shortT u = true) → shortL l = true := by
      intro l
      induction l with
      | nil => intro _; rfl
      | cons a l ihl => intro h; simp only [shortL, Bool.and_eq_true]; exact ⟨h a List.mem_cons_self, ihl fun u hu => h u (List.mem_cons_of_mem _ hu)⟩
    exact this _ fun u hu => ih u hu (hall u hu)
  rw [hps, Bool.and_true]
  have key : t.who.length ≤ 64 ∧ t.name.length ≤ 64 := by
    by_cases hv : t.op = kValue
    · have := hd.value hv
      rw [this.2.1, this.2.2]; simp
    by_cases ha : t.op = kAttr ∨ t.op = kHas
    · have h1 := hd.attr ha
      have h2 : ∀ x ∈ whoL, x.length ≤ 64 := by decide
      refine ⟨h2 _ (by simpa using h1.1), word_len ?_⟩
      have := h1.2
      unfold nameB at this
      simp only [Bool.and_eq_true] at this
      exact this.1
    · by_cases hr : t.op = kRole
      · have := hd.role hr
        rw [this.1]; exact ⟨by simp, text_len this.2⟩
      · rw [not_or] at ha
        have := hd.bare hv ha.1 ha.2 hr
        rw [this.1, this.2]; simp
  simp only [Bool.and_eq_true, decide_eq_true_eq]
  omega
set_option maxRecDepth 100000 in
set_option maxHeartbeats 4000000 in
theorem syntaxReads_walk (w : World) (hw : LexW w) (h9 : 9 ≤ w.heap.size) (ad : Option Addr) (g o cp : Nat) (l : List Tk) (hr : TokAt w ad g o l) (hop : ∀ x ∈ l, x.Wide) (hm : l.length ≤ maxLen) :
    Calls Tryz.prog 4 #[.slice ad l.length cp] w fun e w' => e = .returned (.bool true) ∧ Below w.heap.size w w' := by
  have HAW := Lib.hid (fun W (hb : Below w.heap.size w W) => sawake_any W (hw.below hb) (by have := hb.size; omega))
  have HP := Lib.hid (fun W (hb : Below w.heap.size w W) => parse_any W (hw.below hb) (by have := hb.size; omega) ad g o cp l (hr.below hb (fun _ _ => rfl)) hop hm)
  have HLIKE := Lib.hid (fun h : l.length ≤ 600 => parse_like h)
  have HALL := Lib.hid (fun h => read_all (T := l) (fun t ht => (hop t ht).n1) h)
  have HBAD := Lib.hid (@parse_bad l)
  have HSZ := Lib.hid (parse_size l)
  have HPL := Lib.hid (fun W (hb : Below w.heap.size w W) (h : l.length ≤ 1000000) => plain8_any W l ad g o cp (hr.below hb (fun _ _ => rfl)) h)
  unfold maxLen at hm
  clear hr hop hw h9
  by_cases h80 : 80 < l.length
  · have d80 : decide ((80 : Int) < (l.length : Int)) = true := by simp; omega
    have d80P : (80 < l.length) = True := by simp; omega
    clear h80
    go_enter Tryz.func4, Tryz.ntmps4
    go_wp2_with fail
    refine (HAW.out w (Below.refl _ _)).mono ?_
    rintro e w1 ⟨rfl, hb1⟩
    have HB1 := Lib.hid hb1
    clear hb1
    go_wp2_with fail
    refine (HAW.out w1 HB1.out).mono ?_
    rintro e w3 ⟨rfl, hb3⟩
    have HB3 := Lib.hid (HB1.out.trans (hb3.mono HB1.out.size))
    clear hb3
    go_wp2_with fail
    go_ret
    exact ⟨rfl, HB3.out⟩
  have d80 : decide ((80 : Int) < (l.length : Int)) = false := by simp; omega
  have d80P : (80 < l.length) = False := by simp; omega
  have hl80 : l.length ≤ 80 := by omega
  clear h80
  have hlike := HLIKE.out (by omega)
  have hplt : (l.filter plnB).length = pN l := rfl
  have HPLT := Lib.hid hplt
  have HPL2 := Lib.hid (fun W hb => HPL.out W hb (by omega))
  clear HLIKE HPL hplt
  obtain ⟨R, hR⟩ : ∃ R, parseM l = R := ⟨_, rfl⟩
  rw [hR] at HP hlike HALL HBAD HSZ
  clear hR
  obtain ⟨t, K, f⟩ := R
  simp only at hlike
  obtain ⟨hK, hf⟩ := hlike
  have HF := Lib.hid hf
  clear hf
  go_enter Tryz.func4, Tryz.ntmps4
  go_wp2_with fail
  refine (HAW.out w (Below.refl _ _)).mono ?_
  rintro e w1 ⟨rfl, hb1⟩
  have HB1 := Lib.hid hb1
  clear hb1
  go_wp2_with fail
  refine (HP.out w1 HB1.out).mono ?_
  rintro e w2 ⟨X, rfl, htr, hb2⟩
  have HB2 := Lib.hid (HB1.out.trans (hb2.mono HB1.out.size))
  have HTR := Lib.hid htr.any
  clear hb2 htr HP HAW
  simp only
  have hb3 : Below w2.heap.size w2 (w2.alloc (.cells #[.string X.o, .int .i64 X.x.k, .int .i64 X.x.i, .string X.x.s, .slice X.x.a X.x.n X.x.c, .string X.w, .string X.n, .slice X.a X.l X.c] 27 (0, 0))) := (Below.refl _ _).alloc (Nat.le_refl _) _
  have hbx : BoxAt (w2.alloc (.cells #[.string X.o, .int .i64 X.x.k, .int .i64 X.x.i, .string X.x.s, .slice X.x.a X.x.n X.x.c, .string X.w, .string X.n, .slice X.a X.l X.c] 27 (0, 0))) w2.heap.size X := ⟨heap_alloc_new _ _⟩
  have HB3 := Lib.hid (HB2.out.trans (hb3.mono HB2.out.size))
  have HTR3 := Lib.hid (HTR.out.low hb3)
  have HBX := Lib.hid hbx
  clear hb3 hbx
  unfold XV.v
  have bad : ∀ (h : f ≠ 0), t = noTr := fun h => HBAD.out h
  have BAD := Lib.hid bad
  clear bad HBAD
  by_cases h0 : f = 0
  case neg =>
    obtain rfl := BAD.out h0
    have HSE := Lib.hid (fun W (hb : Below (w2.alloc (.cells #[.string X.o, .int .i64 X.x.k, .int .i64 X.x.i, .string X.x.s, .slice X.x.a X.x.n X.x.c, .string X.w, .string X.n, .slice X.a X.l X.c] 27 (0, 0))).heap.size (w2.alloc (.cells #[.string X.o, .int .i64 X.x.k, .int .i64 X.x.i, .string X.x.s, .slice X.x.a X.x.n X.x.c, .string X.w, .string X.n, .slice X.a X.l X.c] 27 (0, 0))) W) => sameExpr_any noTr noTr W X ⟨⟨#[]⟩, ⟨0, 0, ⟨#[]⟩, none, 0, 0⟩, ⟨#[]⟩, ⟨#[]⟩, none, 0, 0⟩ (HTR3.out.low hb) (trAt_leaf _ (valIs_none Any W) none 0) (by simp [noTr, sizeT, sizeL]))
    rw [show sameT noTr noTr = true by simp [noTr, sameT, sameL, sameP, noPV]] at HSE
    unfold XV.v at HSE
    have hK1 : decide ((0 : Int) ≤ (K : Int)) = true := by simp
    have hK2 : decide ((K : Int) ≤ (l.length : Int)) = true := by simp; omega
    have hK2N : decide (K ≤ l.length) = true := by simp; omega
    clear HALL HSZ
    rcases HF.out with rfl | ⟨rfl | rfl, rfl⟩
    · clear HF h0
      go_wp2_with fail
      refine (HSE.out _ (Below.refl _ _)).mono ?_
      rintro e w4 ⟨rfl, hb4⟩
      have HB4 := Lib.hid (HB3.out.trans (hb4.mono HB3.out.size))
      clear hb4
      go_wp2_with fail
      go_ret
      exact ⟨rfl, HB4.out⟩
    · clear HF h0
      go_wp2_with fail
      refine (HSE.out _ (Below.refl _ _)).mono ?_
      rintro e w4 ⟨rfl, hb4⟩
      have HB4 := Lib.hid (HB3.out.trans (hb4.mono HB3.out.size))
      clear hb4
      go_wp2_with fail
      go_ret
      exact ⟨rfl, HB4.out⟩
    · exact absurd rfl h0
  case pos =>
    subst h0
    obtain ⟨hK0, hfm, hdp, hcn⟩ := HALL.out rfl
    subst hK0
    rw [HPLT.out] at hcn
    have hsz : sizeT t ≤ 1000 := by have := HSZ.out; omega
    obtain ⟨W3, hW3⟩ : ∃ W3, w2.alloc (.cells #[.string X.o, .int .i64 X.x.k, .int .i64 X.x.i, .string X.x.s, .slice X.x.a X.x.n X.x.c, .string X.w, .string X.n, .slice X.a X.l X.c] 27 (0, 0)) = W3 := ⟨_, rfl⟩
    rw [hW3] at HB3 HTR3 HBX
    have HFM := Lib.hid (fun W (hb : Below W3.heap.size W3 W) => refFormed8_any t W X (HTR3.out.low hb) (by omega) (fm_short t hfm))
    rw [hfm] at HFM
    have HDP := Lib.hid (fun W (hb : Below W3.heap.size W3 W) => refDepth_any t W X (HTR3.out.low hb) (by omega))
    have HTK := Lib.hid (fun W (hb : Below W3.heap.size W3 W) => tokens8_any t W X true (HTR3.out.low hb) hfm (by omega))
    have HLT := Lib.hid (tok_len true t hfm)
    have HPN : Hid (pN (tokM true t) = pN l) := Lib.hid ((pN_tok true t hfm).trans hcn.symm)
    have hdp1 : decide ((depthT t : Int) ≤ 12) = true := by simp; omega
    have hdpN : decide (depthT t ≤ 12) = true := by simp; omega
    have HPL3 := Lib.hid (fun W (hb : Below W3.heap.size W3 W) => HPL2.out W (HB3.out.trans (hb.mono HB3.out.size)))
    generalize depthT t = D at *
    generalize hP : pN l = PL at *
    have HROW := Lib.hid (fun m : Bl W3 => (HBX.out.below m.below).row)
    have HPLT2 := Lib.hid (fun W (ad : Option Addr) (g c : Nat) (h : TokAt W ad g 0 (tokM true t)) (hl : (tokM true t).length ≤ 1000000) => plain8_any W (tokM true t) ad g 0 c h hl)
    rw [HPN.out] at HPLT2
    have HS9 : Hid ((tokM true t).length ≤ 1000000) := Lib.hid (by have := HLT.out.1; omega)
    have HFM : Hid (∀ W, Below W3.heap.size W3 W → Calls Tryz.prog 11 #[.agg X.cells.toArray] W fun e w' => e = .returned (.bool true) ∧ Below W.heap.size W w') := HFM
    have HDP : Hid (∀ W, Below W3.heap.size W3 W → Calls Tryz.prog 15 #[.agg X.cells.toArray] W fun e w' => e = .returned (.int .i64 (D : Int)) ∧ Below W.heap.size W w') := HDP
    have HTK : Hid (∀ W, Below W3.heap.size W3 W → Calls Tryz.prog 12 #[.agg X.cells.toArray, .bool true] W fun e w' => ∃ u, e = .returned u ∧ OwnT w' W.heap.size u (tokM true t) ∧ Below W.heap.size W w') := HTK
    clear hfm hdp hcn hP HF BAD HALL HSZ hsz HTR HPL2
    go_upto_region 6 with fail
    clear hW3
    refine wp_region_quiet_tailB 15 (by kernel_rfl) (by kernel_rfl) ?_
    simp only [List.take_succ_cons, List.take_zero, List.drop_succ_cons, List.drop_zero]
    iterate 3 (go_big_quiet_step (fail))
    refine wpQuiet_load_midG (by rfl) 27 (.tmp 3) rfl w2.heap.size 0 rfl X.cells _ (fun w' ⟨m, hw'⟩ => hw' ▸ HROW.out m) Tryz.underlying27 rfl (infoX _ rfl) ?_
    simp only [Act.put, List.setIfInBounds_toArray, List.set_cons_succ, List.set_cons_zero]
    iterate 3 (go_big_quiet_step ((go_at_call 11; with_reducible exact Calls.quiet_b (HFM.out _ (Bl.below _)))))
    refine wpQuiet_load_midG (by rfl) 27 (.tmp 3) rfl w2.heap.size 0 rfl X.cells _ (fun w' ⟨m, hw'⟩ => hw' ▸ HROW.out m) Tryz.underlying27 rfl (infoX _ rfl) ?_
    simp only [Act.put, List.setIfInBounds_toArray, List.set_cons_succ, List.set_cons_zero]
    iterate 6 (go_big_quiet_step ((first | (go_at_call 15; with_reducible exact Calls.quiet_b (HDP.out _ (Bl.below _))) | (go_at_call 18; with_reducible exact Calls.quiet_b (HPL3.out _ (Bl.below _))))))
    refine wpQuiet_load_midG (by rfl) 27 (.tmp 3) rfl w2.heap.size 0 rfl X.cells _ (fun w' ⟨m, hw'⟩ => hw' ▸ HROW.out m) Tryz.underlying27 rfl (infoX _ rfl) ?_
    simp only [Act.put, List.setIfInBounds_toArray, List.set_cons_succ, List.set_cons_zero]
    refine wpQuiet_nil ?_
    intro m
    have HT := Lib.hid (HTK.out m.wr m.below)
    have HBM := Lib.hid (HB3.out.trans (m.below.mono HB3.out.size))
    generalize m.wr = wm at *
    clear HFM HDP HPL3 HROW HTK
    go_wp2_with fail
    refine HT.out.mono ?_
    rintro e w5 ⟨u, rfl, hown, hb5⟩
    obtain ⟨ad2, g2, c2, rfl, htok, -⟩ := hown.cells
    have HPX := Lib.hid (HPLT2.out w5 ad2 g2 c2 htok HS9.out)
    have HB5 := Lib.hid (HBM.out.trans (hb5.mono HBM.out.size))
    clear hown hb5 htok HT
    go_wp2_with fail
    refine HPX.out.mono ?_
    rintro e w6 ⟨rfl, hb6⟩
    have HB6 := Lib.hid (HB5.out.trans (hb6.mono HB5.out.size))
    clear hb6
    go_wp2_with fail
    go_ret
    exact ⟨rfl, HB6.out⟩
end Go.Proofs.YtllgodaphoncnaaGreatDoor
