/- Gaps between tokens: plain lists. -/
import Derived.Test.YtcmnfbjlhdfmgaaDoorLJoinsLaw
namespace Go.Proofs.YtcmnfbjlhdfmgaaDoor
open Go.RowKit

/-- a gap of each kind -/
def gapK (note : List UInt8) (q : Nat) : List UInt8 :=
  if q = 0 then [32] else if q = 1 then [10] else if q = 2 then [32, 35] ++ note ++ [10] else [10, 10, 32, 32]
/-- tokens, each behind its gap -/
def prs (f : Nat → List UInt8) : Nat → List Tk → List (List UInt8 × Tk)
  | _, [] => []
  | i, t :: l => (f i, t) :: prs f (i + 1) l
def gtxt : List (List UInt8 × Tk) → List UInt8
  | [] => []
  | x :: l => x.1 ++ shM x.2 ++ gtxt l
set_option maxRecDepth 100000 in
theorem prs_snoc (f : Nat → List UInt8) : ∀ (l : List Tk) (i : Nat) (t : Tk), prs f i (l ++ [t]) = prs f i l ++ [(f (i + l.length), t)]
  | [], i, t => by simp [prs]
  | a :: l, i, t => by
    simp only [List.cons_append, prs, prs_snoc f l (i + 1) t, List.length_cons]
    rw [show i + 1 + l.length = i + (l.length + 1) by omega]
set_option maxRecDepth 100000 in
theorem gtxt_snoc (l : List (List UInt8 × Tk)) (x : List UInt8 × Tk) : gtxt (l ++ [x]) = gtxt l ++ (x.1 ++ shM x.2) := by
  induction l with
  | nil => simp [gtxt]
  | cons a l ih => simp [gtxt, ih]
set_option maxRecDepth 100000 in
theorem length_prs (f : Nat → List UInt8) : ∀ (l : List Tk) (i : Nat), (prs f i l).length = l.length
  | [], i => rfl
  | a :: l, i => by simp [prs, length_prs f l (i + 1)]
set_option maxRecDepth 100000 in
theorem snd_prs (f : Nat → List UInt8) : ∀ (l : List Tk) (i : Nat), (prs f i l).map Prod.snd = l
  | [], i => rfl
  | a :: l, i => by simp [prs, snd_prs f l (i + 1)]
set_option maxRecDepth 100000 in
theorem mem_prs (f : Nat → List UInt8) : ∀ (l : List Tk) (i : Nat) (x : List UInt8 × Tk), x ∈ prs f i l → (∃ j, x.1 = f j) ∧ x.2 ∈ l
  | [], i, x, h => by cases h
  | a :: l, i, x, h => by
    rcases List.mem_cons.1 h with rfl | h
    · exact ⟨⟨i, rfl⟩, List.mem_cons_self ..⟩
    · have := mem_prs f l (i + 1) x h
      exact ⟨this.1, List.mem_cons_of_mem _ this.2⟩
set_option maxRecDepth 100000 in
theorem glue_gtxt (z : List UInt8) : ∀ (l : List (List UInt8 × Tk)), (∀ x ∈ l, formB x.2 = true) → glue l z = gtxt l ++ z
  | [], _ => rfl
  | (g, t) :: l, h => by
    rw [glue, glue_gtxt z l fun x hx => h x (List.mem_cons_of_mem _ hx), gtxt, shM_form (h (g, t) (List.mem_cons_self ..))]
    simp
set_option maxRecDepth 100000 in
theorem skip_note (note : List UInt8) (h : ∀ c ∈ note, c.toNat ≠ 10) (x : List UInt8) : skipB true (note ++ x) = skipB true x := by
  induction note with
  | nil => rfl
  | cons c l ih =>
    have e : (!decide (c.toNat = 10)) = true := by rw [decide_eq_false (h c (List.mem_cons_self ..))]; rfl
    rw [List.cons_append, skipB, e, ih fun c hc => h c (List.mem_cons_of_mem _ hc)]
set_option maxRecDepth 100000 in
theorem gapK_gap (note : List UInt8) (h : ∀ c ∈ note, c.toNat ≠ 10) (q : Nat) : Gap (gapK note q) ∧ EndB (gapK note q) ∧ gapK note q ≠ [] := by
  unfold gapK
  split
  · exact ⟨gap_32, .inr ⟨32, [], rfl, .inl rfl⟩, by simp⟩
  · split
    · exact ⟨gap_10, .inr ⟨10, [], rfl, .inr rfl⟩, by simp⟩
    · split
      · refine ⟨fun x => ?_, .inr ⟨32, _, rfl, .inl rfl⟩, by simp⟩
        show skipB false (32 :: 35 :: ((note ++ [10]) ++ x)) = _
        rw [skipB, if_pos (by decide), skipB, if_neg (by decide), if_pos (by decide), List.append_assoc, skip_note note h]
        show skipB true (10 :: x) = _
        rw [skipB]
        rfl
      · refine ⟨fun x => ?_, .inr ⟨10, _, rfl, .inr rfl⟩, by simp⟩
        show skipB false (10 :: 10 :: 32 :: 32 :: x) = _
        rw [skipB, if_pos (by decide), skipB, if_pos (by decide), skipB, if_pos (by decide), skipB, if_pos (by decide)]
set_option maxRecDepth 100000 in
theorem length_gapK (note : List UInt8) (h : note.length ≤ 20) (q : Nat) : (gapK note q).length ≤ 23 := by
  unfold gapK
  split
  · simp
  · split
    · simp
    · split <;> simp; omega
set_option maxRecDepth 100000 in
theorem lexM_gaps (note : List UInt8) (h : ∀ c ∈ note, c.toNat ≠ 10) (q : Nat → Nat) (l : List Tk) (hO : ∀ t ∈ l, t.Ok) (hF : ∀ t ∈ l, formB t = true) (h6 : l.length ≤ 600)
    (h4 : (gtxt (prs (fun i => gapK note (q i)) 0 l) ++ (32 :: 35 :: note)).length ≤ 4096) : lexM (gtxt (prs (fun i => gapK note (q i)) 0 l) ++ (32 :: 35 :: note)) = (l, 0, 0) := by
  have hm := mem_prs (fun i => gapK note (q i)) l 0
  have hz : skipB false (32 :: 35 :: note) = [] := by
    rw [skipB, if_pos (by decide), skipB, if_neg (by decide), if_pos (by decide)]
    have := skip_note note h []
    rw [List.append_nil] at this
    rw [this]; rfl
  rw [← glue_gtxt _ _ fun x hx => hF _ (hm x hx).2] at h4 ⊢
  rw [lexM_glue _ hz (.inr ⟨32, _, rfl, .inl rfl⟩) _ ⟨fun x hx => ?_, fun x hx => ?_, fun x hx => hO _ (hm x hx).2, fun x hx => hF _ (hm x hx).2⟩ h4 (by rw [length_prs]; exact h6), snd_prs]
  · obtain ⟨j, e⟩ := (hm x hx).1
    rw [e]; exact (gapK_gap note h _).1
  · obtain ⟨j, e⟩ := (hm x (List.mem_of_mem_drop hx)).1
    rw [e]; exact (gapK_gap note h _).2
set_option maxRecDepth 100000 in
theorem length_gtxt (note : List UInt8) (h : note.length ≤ 20) (q : Nat → Nat) : ∀ (l : List Tk) (i : Nat), (∀ t ∈ l, t.Ok ∧ t.s.length ≤ 200) → (gtxt (prs (fun i => gapK note (q i)) i l)).length ≤ 463 * l.length
  | [], i, _ => by simp [prs, gtxt]
  | a :: l, i, hl => by
    have h1 := hl a (List.mem_cons_self ..)
    have h2 := length_shM a h1.1 h1.2
    have h3 := length_gtxt note h q l (i + 1) fun t ht => hl t (List.mem_cons_of_mem _ ht)
    have h4 := length_gapK note h (q i)
    simp only [prs, gtxt, List.length_append, List.length_cons]
    omega
end Go.Proofs.YtcmnfbjlhdfmgaaDoor
