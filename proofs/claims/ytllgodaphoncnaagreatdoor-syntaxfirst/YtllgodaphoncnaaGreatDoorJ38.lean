/- A text's tokens; What a program that does nothing doesn't answer: "1 + 2 * 3" is read. -/
import Derived.Test.YtllgodaphoncnaaGreatDoorJ37
import Derived.Test.YtllgodaphoncnaaGreatDoorJ34
namespace Go.Proofs.YtllgodaphoncnaaGreatDoor
open Go.RowKit

structure LexRel (w : World) (l r : List UInt8) (f : Nat) (acc : List Tk) (R : List Tk × Nat × Int) (v : Value) (wr : World) : Prop where
  own : OwnT wr w.heap.size v acc
  below : Below w.heap.size w wr
  eq : lexF l.length f r acc = R
  len : r.length ≤ f
  len2 : r.length ≤ l.length
  few : acc.length ≤ 600
set_option maxRecDepth 100000 in
set_option maxHeartbeats 4000000 in
theorem lex_any (w : World) (hw : LexW w) (l : List UInt8) (hl : l.length ≤ 1000000) :
    Calls Tryz.prog 26 #[.string (st l)] w fun e w' => ∃ v, e = .returned (.tuple #[v, .int .i64 ((lexM l).2.1 : Int), .int .i64 (lexM l).2.2]) ∧ OwnT w' w.heap.size v (lexM l).1 ∧ Below w.heap.size w w' := by
  have hsz := size_st l
  have HSk0 := Lib.hid (skip_any w l hl)
  have hle0 := skipB_le false l
  obtain ⟨s, hs⟩ : ∃ s, st l = s := ⟨_, rfl⟩
  rw [hs] at hsz HSk0
  rw [hs]
  clear hs
  by_cases hlong : 4096 < l.length
  · have d1 : decide ((4096 : Int) < (l.length : Int)) = true := by simp; omega
    have hR : lexM l = ([], 0, 3) := by unfold lexM; rw [if_pos hlong]
    rw [hR]
    clear hR HSk0 hle0
    go_enter Tryz.func26, Tryz.ntmps26
    go_wp2_with fail
    exact bodyPost_ret (v := .tuple #[.slice none 0 0, .int .i64 0, .int .i64 3]) (by simp [results, Tryz.results26, go_sem]) rfl ⟨_, rfl, OwnT.nil _ _, Below.refl _ _⟩
  · have d1 : decide ((4096 : Int) < (l.length : Int)) = false := by simp; omega
    have hR : lexM l = lexF l.length l.length (skipB false l) [] := by unfold lexM; rw [if_neg hlong]
    obtain ⟨R, hRR⟩ : ∃ R, lexM l = R := ⟨_, rfl⟩
    rw [hRR] at hR ⊢
    have HW := Lib.hid hw
    have HR0 := Lib.hid hR.symm
    clear hR hRR hw
    go_enter Tryz.func26, Tryz.ntmps26
    go_wp2_with fail
    refine HSk0.out.mono ?_
    rintro e w1 ⟨rfl, hb1⟩
    have R0 : LexRel w l (skipB false l) l.length [] R (.slice none 0 0) w1 := ⟨OwnT.nil _ _, hb1, HR0.out, hle0, hle0, by simp⟩
    clear hb1 HSk0 HR0
    obtain ⟨r0, hr0⟩ : ∃ r0, skipB false l = r0 := ⟨_, rfl⟩
    rw [hr0] at R0
    rw [hr0]
    clear hr0 hle0
    go_wp2_with fail
    go_loopw [5, 6, 7, 8, 9] (fun v rs _ _ _ wr => ∃ (r : List UInt8) (f : Nat) (acc : List Tk), rs = .string (st r) ∧ LexRel w l r f acc R v wr) (fun _ rs _ _ _ _ => match rs with | .string s => s.size | _ => 0)
    case atStart => exact ⟨r0, l.length, [], rfl, R0⟩
    case round =>
      clear R0
      obtain ⟨r, f, acc, rfl, hr⟩ := hrel
      have HR := Lib.hid hr
      have hsr := size_st r
      have htr := toList_st r
      have hrl := hr.len2
      have hrf := hr.len
      have hacc := hr.few
      have hre := hr.eq
      clear hr
      by_cases hnil : r = []
      · have hR : R = (acc, 0, 0) := by
          subst hnil
          rw [← hre]
          cases f <;> simp [lexF]
        clear hre
        have hnil' : (r == []) = true := by rw [hnil]; rfl
        obtain ⟨sr, hsr'⟩ : ∃ s, st r = s := ⟨_, rfl⟩
        rw [hsr'] at hsr htr
        rw [hsr']
        have HRR := Lib.hid hR
        clear hsr' hnil hR
        go_wp2_with fail
        exact bodyPost_ret (v := .tuple #[u5, .int .i64 0, .int .i64 0]) (by simp [results, Tryz.results26, go_sem]) rfl ⟨u5, by rw [HRR.out]; rfl, by rw [HRR.out]; exact HR.out.own, HR.out.below⟩
      · obtain ⟨f', rfl⟩ : ∃ f', f = f' + 1 := ⟨f - 1, by
          have : r.length ≠ 0 := fun e => hnil (List.eq_nil_of_length_eq_zero e)
          omega⟩
        rw [lexF, if_neg hnil] at hre
        have HF := Lib.hid (first_any wr (HW.out.below HR.out.below) r hnil (by omega))
        obtain ⟨hok, hm, hpos⟩ := firstM_all r (by omega)
        have hne : (r == []) = false := by simpa using hnil
        have hlo := fun w => run_slice_lo w r (firstM r).2 hm
        obtain ⟨⟨t, m⟩, hT⟩ : ∃ T, firstM r = T := ⟨_, rfl⟩
        rw [hT] at hre HF hok hm hpos hlo
        dsimp only at hre HF hok hm hpos hlo
        have hdl : (skipB false (r.drop m)).length ≤ r.length - m := by
          have := skipB_le false (r.drop m)
          rwa [List.length_drop] at this
        obtain ⟨sr, hsr'⟩ : ∃ s, st r = s := ⟨_, rfl⟩
        rw [hsr'] at hsr htr HF hlo
        rw [hsr']
        obtain ⟨sd, hsd⟩ : ∃ s, st (r.drop m) = s := ⟨_, rfl⟩
        rw [hsd] at hlo
        have hpl : (l.length : Int) - (r.length : Int) = ((l.length - r.length : Nat) : Int) := by omega
        obtain ⟨P, hP⟩ : ∃ P, l.length - r.length = P := ⟨_, rfl⟩
        rw [hP] at hpl hre
        have HSd := Lib.hid hsd
        have HRe := Lib.hid hre
        have HOk := Lib.hid hok
        have HPos := Lib.hid hpos
        have hP4 : P ≤ 4096 := by omega
        clear hT hsr' hsd hP hre hok hpos hnil
        unfold Tk.val Tk.cells at HF
        have hfo := fun W (hW : Below wr.heap.size wr W) => lformed_any W (HW.out.below (HR.out.below.trans (hW.mono HR.out.below.size))) t HOk.out
        unfold Tk.val Tk.cells at hfo
        obtain ⟨ts, hts⟩ : ∃ s, st t.s = s := ⟨_, rfl⟩
        rw [hts] at HF hfo
        have HTs := Lib.hid hts
        have HFo := Lib.hid hfo
        clear hts hfo
        go_wp2_with fail
        refine HF.out.mono ?_
        rintro e w2 ⟨rfl, hb2⟩
        have HB2 := Lib.hid (HR.out.below.trans (hb2.mono HR.out.below.size))
        have HB22 := Lib.hid hb2
        clear hb2 HF
        go_wp2_with fail
        generalize hW : World.alloc _ _ = W3 at *
        have hb3 : Below w2.heap.size w2 W3 := by rw [← hW]; exact (Below.refl _ _).alloc (Nat.le_refl _) _
        have hg3 : W3.heap[w2.heap.size]? = some (.cells [.int .i64 t.k, .string ts, .int .i64 t.n].toArray 41 (0, 0)) := by rw [← hW]; exact heap_alloc_new _ _
        have hb03 := HB22.out.trans (hb3.mono HB22.out.size)
        have HFo3 := Lib.hid (HFo.out W3 hb03)
        have HB3 := Lib.hid (HR.out.below.trans (hb03.mono HR.out.below.size))
        have HG3 := Lib.hid hg3
        have HOwn := Lib.hid (HR.out.own.below hb03)
        clear hW hb3 hg3 HFo HB2 HB22 hb03
        refine HFo3.out.mono ?_
        rintro e w4 ⟨rfl, hb4⟩
        have HB4 := Lib.hid (HB3.out.trans (hb4.mono HB3.out.size))
        have HG4 := Lib.hid ((hb4.block _ (lt_block HG3.out)).trans HG3.out)
        have HOwn4 := Lib.hid (HOwn.out.below hb4)
        have hre := HRe.out
        have hpos := HPos.out
        obtain ⟨bf, hbf⟩ : ∃ b, formB t = b := ⟨_, rfl⟩
        rw [hbf] at hre hpos
        rw [hbf]
        clear hb4 HFo3 HB3 HG3 HOwn HRe hbf HPos
        cases bf with
        | false =>
          rw [if_pos rfl] at hre
          have HRR := Lib.hid hre.symm
          clear hre hpos
          go_wp2_with fail
          exact bodyPost_ret (v := .tuple #[.slice none 0 0, .int .i64 (P : Int), .int .i64 2]) (by simp [results, Tryz.results26, go_sem]) rfl ⟨_, by rw [HRR.out], by rw [HRR.out]; exact OwnT.nil _ _, HB4.out⟩
        | true =>
          have hm1 := hpos rfl
          rw [if_neg (by decide)] at hre
          obtain ⟨a5, c5, rfl⟩ := HOwn4.out.shape
          by_cases h6 : acc.length = 600
          · have d6 : ((acc.length : Int) == 600) = true := by rw [h6]; rfl
            rw [if_pos h6] at hre
            have HRR := Lib.hid hre.symm
            clear hre hpos h6
            go_wp2_with fail
            exact bodyPost_ret (v := .tuple #[.slice none 0 0, .int .i64 (P : Int), .int .i64 13]) (by simp [results, Tryz.results26, go_sem]) rfl ⟨_, by rw [HRR.out], by rw [HRR.out]; exact OwnT.nil _ _, HB4.out⟩
          · have d6 : ((acc.length : Int) == 600) = false := by rw [beq_eq_false_iff_ne]; omega
            rw [if_neg h6] at hre
            have HRe := Lib.hid hre
            have HRg := Lib.hid (rangeL HG4.out)
            clear hre hpos
            go_wp2_with (first
              | (refine append_tok rfl (.tmp 37) (.tmp 39) rfl w.heap.size _ acc rfl t w4.heap.size 1 rfl (by rw [Tk.cells, HTs.out]; exact heap_alloc_new _ _) (HOwn4.out.below ((Below.refl _ _).alloc (Nat.le_refl _) _)) (by omega) (by simp; have := HB4.out.size; omega) ?_)
              | (refine wpList_load_mid rfl 41 (.tmp 8) rfl w2.heap.size 0 rfl _ _ HRg.out Tryz.underlying41 rfl info_tok ?_))
            intro v' w5 hown5 hb5
            have HB5 := Lib.hid ((HB4.out.alloc HB4.out.size _).trans hb5)
            have HOwn5 := Lib.hid hown5
            have HSk := Lib.hid (skip_any w5 (r.drop m) (by rw [List.length_drop]; omega))
            rw [HSd.out] at HSk
            clear hown5 hb5 HRg HG4 HOwn4
            go_wp2_with fail
            refine HSk.out.mono ?_
            rintro e w6 ⟨rfl, hb6⟩
            have R6 : LexRel w l (skipB false (r.drop m)) f' (acc ++ [t]) R v' w6 := ⟨HOwn5.out.below hb6, HB5.out.trans (hb6.mono HB5.out.size), HRe.out, by omega, by omega, by simp; omega⟩
            have HR6 := Lib.hid R6
            have hs6 := size_st (skipB false (r.drop m))
            clear R6 hb6 HSk HOwn5 HB5
            go_wp2_with fail
            go_roundw
            case rel => exact ⟨_, f', acc ++ [t], rfl, HR6.out⟩
            case measure => simp; omega
end Go.Proofs.YtllgodaphoncnaaGreatDoor
namespace Go.Proofs.YtllgodaphoncnaaGreatDoor
open Go.RowKit

set_option maxRecDepth 100000 in
theorem OwnT.cell {w : World} {N : Nat} {v : Value} {ts : List Tk} (h : OwnT w N v ts) (hne : ts ≠ []) : ∃ g cp, v = .slice (some ⟨g, 0, none⟩) ts.length cp ∧ N ≤ g ∧ g < w.heap.size ∧ ∀ i c, (cellsT ts)[i]? = some c → w.cell? ⟨g, i, none⟩ = some c := by
  rcases h.row.2 with ⟨rfl, hn⟩ | ⟨g, cap, cur, rfl, hb, hg, hc, hm, hsz, ht⟩
  · exact absurd (List.eq_nil_of_length_eq_zero hn) hne
  · refine ⟨g, cap, rfl, hb, lt_block hg, fun i c hi => ?_⟩
    rw [cell_block hg]
    have hi' : i < ts.length * 3 := by have := (List.getElem?_eq_some_iff.1 hi).1; rwa [length_cellsT] at this
    rw [← ht, List.getElem?_take, if_pos hi'] at hi
    simpa using hi
set_option maxRecDepth 100000 in
theorem OwnT.cells {w : World} {N : Nat} {v : Value} {ts : List Tk} (h : OwnT w N v ts) : ∃ (ad : Option Addr) (g cp : Nat), v = .slice ad ts.length cp ∧ TokAt w ad g 0 ts ∧ (ts ≠ [] → N ≤ g ∧ g < w.heap.size) := by
  by_cases hne : ts = []
  · subst hne
    obtain ⟨ad, cp, rfl⟩ := h.shape
    exact ⟨ad, 0, cp, rfl, ⟨fun e => absurd rfl e, fun i hi => by cases hi⟩, fun e => absurd rfl e⟩
  · obtain ⟨g, cp, rfl, h1, h2, hc⟩ := h.cell hne
    refine ⟨some ⟨g, 0, none⟩, g, cp, rfl, ⟨fun _ => rfl, fun i hi j hj => ?_⟩, fun _ => ⟨h1, h2⟩⟩
    have hg : ∀ (ts : List Tk) (i : Nat) (h : i < ts.length), (cellsT ts)[i * 3 + j]? = (ts[i]).cells[j]? := by
      intro ts
      induction ts with
      | nil => intro i h; cases h
      | cons t ts ih =>
        intro i h
        have e : cellsT (t :: ts) = t.cells ++ cellsT ts := by simp [cellsT]
        rw [e]
        cases i with
        | zero =>
          rw [List.getElem?_append_left (by show 0 * 3 + j < 3; omega)]
          simp
        | succ i =>
          rw [List.getElem?_append_right (by show 3 ≤ (i + 1) * 3 + j; omega), show (i + 1) * 3 + j - t.cells.length = i * 3 + j by show (i + 1) * 3 + j - 3 = _; omega]
          exact ih i (by simpa using h)
    have h3 := hg ts i hi
    have h4 : j < (ts[i]).cells.length := hj
    rw [List.getElem?_eq_getElem h4] at h3 ⊢
    have := hc _ _ h3
    rw [Nat.zero_add]
    exact this
def abcT : List UInt8 := [49, 32, 43, 32, 50, 32, 42, 32, 51]
def abcL : List Tk := [⟨2, [], 1⟩, ⟨5, [43], 0⟩, ⟨2, [], 2⟩, ⟨5, [42], 0⟩, ⟨2, [], 3⟩]
def numV (n : Int) : Tr := valT (PV.of ⟨2, n, ⟨#[]⟩, none, 0, 0⟩)
set_option maxRecDepth 100000 in
theorem lex_abc : lexM abcT = (abcL, 0, 0) := by kernel_rfl
set_option maxRecDepth 100000 in
theorem parse_abc : parseM abcL = (mk2 kPlus (numV 1) (mk2 kStar (numV 2) (numV 3)), 0, 0) := by kernel_rfl
set_option maxRecDepth 100000 in
theorem at_two {B : Nat → Prop} {w : World} {op op2 : List UInt8} {a b c : Tr} {X : XV} (h : TrAt B w (mk2 op a (mk2 op2 b c)) X) : X.o = st op ∧ X.l = 2 ∧ ∃ g o, X.a = some ⟨g, o, none⟩ ∧ w.cell? ⟨g, o + 8, none⟩ = some (.string (st op2)) := by
  cases h with
  | @mk _ _ _ _ _ _ ho hw hn hv hl g o Xs had hfr hp hc =>
    refine ⟨ho, hl, g, o, (had (by simp)).1, ?_⟩
    have h1 := hc 1 (by simp) 0 (by omega)
    have h2 := hp 1 (by simp)
    cases h2 with
    | @mk _ _ _ _ _ _ ho2 _ _ _ _ _ _ _ _ _ _ _ =>
      rw [Nat.one_mul, Nat.add_zero] at h1
      rw [h1]
      show some (Value.string (Xs 1).o) = _
      rw [ho2]
set_option maxRecDepth 100000 in
set_option maxHeartbeats 2000000 in
theorem sawake_any (w : World) (hw : LexW w) (h9 : 9 ≤ w.heap.size) : Calls Tryz.prog 9 #[] w fun e w' => e = .returned (.bool true) ∧ Below w.heap.size w w' := by
  have HL := Lib.hid (lex_any w hw abcT (by decide))
  rw [lex_abc, show st abcT = ⟨#[49, 32, 43, 32, 50, 32, 42, 32, 51]⟩ from rfl] at HL
  have HW := Lib.hid hw
  have H9 := Lib.hid h9
  clear hw h9
  go_enter Tryz.func9, Tryz.ntmps9
  go_wp2_with fail
  refine HL.out.mono ?_
  rintro e w1 ⟨v, rfl, hown, hb1⟩
  obtain ⟨ad, g, cp, rfl, htok, -⟩ := hown.cells
  have HB1 := Lib.hid hb1
  have HP := Lib.hid (parse_any w1 (HW.out.below hb1) (by have := hb1.size; have := H9.out; omega) ad g 0 cp abcL htok (by
    intro t ht
    simp only [abcL, List.mem_cons, List.not_mem_nil, or_false] at ht
    rcases ht with rfl | rfl | rfl | rfl | rfl <;> exact ⟨by decide, by decide, by decide, by decide, by decide⟩) (by decide))
  rw [parse_abc] at HP
  rw [show abcL.length = 5 from rfl] at HP ⊢
  clear hown hb1 htok HL
  dsimp only
  go_wp2_with fail
  refine HP.out.mono ?_
  rintro e w2 ⟨X, rfl, ht, hb2⟩
  obtain ⟨ho, hl, g2, o2, ha, hc⟩ := at_two ht
  obtain ⟨xo, xx, xw, xn, xa, xl, xc⟩ := X
  dsimp only at ho hl ha
  subst ho hl ha
  have HB2 := Lib.hid (HB1.out.trans (hb2.mono HB1.out.size))
  have hg2 := block_lt_of_cell hc
  have hc2 : (w2.alloc (.cells #[.string (st kPlus), .int .i64 xx.k, .int .i64 xx.i, .string xx.s, .slice xx.a xx.n xx.c, .string xw, .string xn, .slice (some ⟨g2, o2, none⟩) 2 xc] 27 (0, 0))).cell? ⟨g2, o2 + 8, none⟩ = some (.string ⟨#[42]⟩) := by
    rw [((Below.refl _ _).alloc (Nat.le_refl _) _ : Below w2.heap.size w2 _).cell hg2]; exact hc
  rw [show st kPlus = ⟨#[43]⟩ from rfl] at hc2
  have HF := Lib.hid (HB2.out.alloc HB2.out.size (.cells #[.string ⟨#[43]⟩, .int .i64 xx.k, .int .i64 xx.i, .string xx.s, .slice xx.a xx.n xx.c, .string xw, .string xn, .slice (some ⟨g2, o2, none⟩) 2 xc] 27 (0, 0)))
  clear ht hb2 hc HP
  unfold XV.v
  dsimp only
  rw [show st kPlus = ⟨#[43]⟩ from rfl]
  go_wp2_with fail
  go_ret
  exact ⟨rfl, HF.out⟩
end Go.Proofs.YtllgodaphoncnaaGreatDoor
