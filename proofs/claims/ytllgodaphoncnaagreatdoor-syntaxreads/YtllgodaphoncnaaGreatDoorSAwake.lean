/- What a program that does nothing doesn't answer: "1 + 2 * 3" is read. -/
import Derived.Test.YtllgodaphoncnaaGreatDoorSParse
import Derived.Test.YtllgodaphoncnaaGreatDoorJ44
namespace Go.Proofs.YtllgodaphoncnaaGreatDoor
open Go.RowKit

set_option maxRecDepth 100000 in
theorem OwnT.cell {w : World} {N : Nat} {v : Value} {ts : List Tk} (h : OwnT w N v ts) (hne : ts ≠ []) : ∃ g cp, v = .slice (some ⟨g, 0, none⟩) ts.length cp ∧ N ≤ g ∧ g < w.heap.size ∧ ∀ i c, (cellsT ts)[i]? = some c → w.cell? ⟨g, i, none⟩ = some c := by
  rcases h.row.2 with ⟨rfl, hn⟩ | ⟨g, cap, cur, rfl, hb, hg, hc, hm, hsz, ht⟩
  · exact absurd (List.eq_nil_of_length_eq_zero hn) hne
  · refine ⟨g, cap, rfl, hb, lt_block hg, fun i c hi => ?_⟩
    rw [cell_block hg]
    have hi' : i < ts.length * 3 := by have := (List.getElem?_eq_some_iff.1 hi).1; rwa [length_cellsT] at this
    rw [← ht, List.getElem?_take, if_pos hi'] at hi
    simpa using hi
set_option maxRecDepth 100000 in
theorem OwnT.cells {w : World} {N : Nat} {v : Value} {ts : List Tk} (h : OwnT w N v ts) : ∃ (ad : Option Addr) (g cp : Nat), v = .slice ad ts.length cp ∧ TokAt w ad g 0 ts ∧ (ts ≠ [] → N ≤ g ∧ g < w.heap.size) := by
  by_cases hne : ts = []
  · subst hne
    obtain ⟨ad, cp, rfl⟩ := h.shape
    exact ⟨ad, 0, cp, rfl, ⟨fun e => absurd rfl e, fun i hi => by cases hi⟩, fun e => absurd rfl e⟩
  · obtain ⟨g, cp, rfl, h1, h2, hc⟩ := h.cell hne
    refine ⟨some ⟨g, 0, none⟩, g, cp, rfl, ⟨fun _ => rfl, fun i hi j hj => ?_⟩, fun _ => ⟨h1, h2⟩⟩
    have hg : ∀ (ts : List Tk) (i : Nat) (h : i < ts.length), (cellsT ts)[i * 3 + j]? = (ts[i]).cells[j]? := by
      intro ts
      induction ts with
      | nil => intro i h; cases h
      | cons t ts ih =>
        intro i h
        have e : cellsT (t :: ts) = t.cells ++ cellsT ts := by simp [cellsT]
        rw [e]
        cases i with
        | zero =>
          rw [List.getElem?_append_left (by show 0 * 3 + j < 3; omega)]
          simp
        | succ i =>
          rw [List.getElem?_append_right (by show 3 ≤ (i + 1) * 3 + j; omega), show (i + 1) * 3 + j - t.cells.length = i * 3 + j by show (i + 1) * 3 + j - 3 = _; omega]
          exact ih i (by simpa using h)
    have h3 := hg ts i hi
    have h4 : j < (ts[i]).cells.length := hj
    rw [List.getElem?_eq_getElem h4] at h3 ⊢
    have := hc _ _ h3
    rw [Nat.zero_add]
    exact this
def abcT : List UInt8 := [49, 32, 43, 32, 50, 32, 42, 32, 51]
def abcL : List Tk := [⟨2, [], 1⟩, ⟨5, [43], 0⟩, ⟨2, [], 2⟩, ⟨5, [42], 0⟩, ⟨2, [], 3⟩]
def numV (n : Int) : Tr := valT (PV.of ⟨2, n, ⟨#[]⟩, none, 0, 0⟩)
set_option maxRecDepth 100000 in
theorem lex_abc : lexM abcT = (abcL, 0, 0) := by kernel_rfl
set_option maxRecDepth 100000 in
theorem parse_abc : parseM abcL = (mk2 kPlus (numV 1) (mk2 kStar (numV 2) (numV 3)), 0, 0) := by kernel_rfl
set_option maxRecDepth 100000 in
theorem at_two {B : Nat → Prop} {w : World} {op op2 : List UInt8} {a b c : Tr} {X : XV} (h : TrAt B w (mk2 op a (mk2 op2 b c)) X) : X.o = st op ∧ X.l = 2 ∧ ∃ g o, X.a = some ⟨g, o, none⟩ ∧ w.cell? ⟨g, o + 8, none⟩ = some (.string (st op2)) := by
  cases h with
  | @mk _ _ _ _ _ _ ho hw hn hv hl g o Xs had hfr hp hc =>
    refine ⟨ho, hl, g, o, (had (by simp)).1, ?_⟩
    have h1 := hc 1 (by simp) 0 (by omega)
    have h2 := hp 1 (by simp)
    cases h2 with
    | @mk _ _ _ _ _ _ ho2 _ _ _ _ _ _ _ _ _ _ _ =>
      rw [Nat.one_mul, Nat.add_zero] at h1
      rw [h1]
      show some (Value.string (Xs 1).o) = _
      rw [ho2]
set_option maxRecDepth 100000 in
set_option maxHeartbeats 2000000 in
theorem sawake_any (w : World) (hw : LexW w) (h9 : 9 ≤ w.heap.size) : Calls Tryz.prog 9 #[] w fun e w' => e = .returned (.bool true) ∧ Below w.heap.size w w' := by
  have HL := Lib.hid (lex_any w hw abcT (by decide))
  rw [lex_abc, show st abcT = ⟨#[49, 32, 43, 32, 50, 32, 42, 32, 51]⟩ from rfl] at HL
  have HW := Lib.hid hw
  have H9 := Lib.hid h9
  clear hw h9
  go_enter Tryz.func9, Tryz.ntmps9
  go_wp2_with fail
  refine HL.out.mono ?_
  rintro e w1 ⟨v, rfl, hown, hb1⟩
  obtain ⟨ad, g, cp, rfl, htok, -⟩ := hown.cells
  have HB1 := Lib.hid hb1
  have HP := Lib.hid (parse_any w1 (HW.out.below hb1) (by have := hb1.size; have := H9.out; omega) ad g 0 cp abcL htok (by
    intro t ht
    simp only [abcL, List.mem_cons, List.not_mem_nil, or_false] at ht
    rcases ht with rfl | rfl | rfl | rfl | rfl <;> exact ⟨by decide, by decide, by decide, by decide, by decide⟩) (by decide))
  rw [parse_abc] at HP
  rw [show abcL.length = 5 from rfl] at HP ⊢
  clear hown hb1 htok HL
  dsimp only
  go_wp2_with fail
  refine HP.out.mono ?_
  rintro e w2 ⟨X, rfl, ht, hb2⟩
  obtain ⟨ho, hl, g2, o2, ha, hc⟩ := at_two ht
  obtain ⟨xo, xx, xw, xn, xa, xl, xc⟩ := X
  dsimp only at ho hl ha
  subst ho hl ha
  have HB2 := Lib.hid (HB1.out.trans (hb2.mono HB1.out.size))
  have hg2 := block_lt_of_cell hc
  have hc2 : (w2.alloc (.cells #[.string (st kPlus), .int .i64 xx.k, .int .i64 xx.i, .string xx.s, .slice xx.a xx.n xx.c, .string xw, .string xn, .slice (some ⟨g2, o2, none⟩) 2 xc] 27 (0, 0))).cell? ⟨g2, o2 + 8, none⟩ = some (.string ⟨#[42]⟩) := by
    rw [((Below.refl _ _).alloc (Nat.le_refl _) _ : Below w2.heap.size w2 _).cell hg2]; exact hc
  rw [show st kPlus = ⟨#[43]⟩ from rfl] at hc2
  have HF := Lib.hid (HB2.out.alloc HB2.out.size (.cells #[.string ⟨#[43]⟩, .int .i64 xx.k, .int .i64 xx.i, .string xx.s, .slice xx.a xx.n xx.c, .string xw, .string xn, .slice (some ⟨g2, o2, none⟩) 2 xc] 27 (0, 0)))
  clear ht hb2 hc HP
  unfold XV.v
  dsimp only
  rw [show st kPlus = ⟨#[43]⟩ from rfl]
  go_wp2_with fail
  go_ret
  exact ⟨rfl, HF.out⟩
end Go.Proofs.YtllgodaphoncnaaGreatDoor
