/- Texts of tokens with gaps between are lexed as the tokens. -/
import Derived.Test.YtcmnfbjlhdfmgaaDoorLBack
namespace Go.Proofs.YtcmnfbjlhdfmgaaDoor
open Go.RowKit

/-- where a token begins: no blank, no line feed, no comment -/
def Beg (l : List UInt8) : Prop := ∃ c r, l = c :: r ∧ c.toNat ≠ 32 ∧ c.toNat ≠ 10 ∧ c.toNat ≠ 35
set_option maxRecDepth 100000 in
theorem word_parts {s : List UInt8} (h : wordB s = true) : ∃ c r, s = c :: r ∧ letB c = true ∧ s.length ≤ 64 ∧ s.all innB = true := by
  unfold wordB at h
  cases s with
  | nil => cases h
  | cons c r =>
    simp only [Bool.and_eq_true, decide_eq_true_eq] at h
    exact ⟨c, r, rfl, h.2.1, h.1, (runN_eq _ _).1 h.2.2⟩
set_option maxRecDepth 100000 in
theorem beg_back {t : Tk} (h : formB t = true) : Beg (showM t) := by
  unfold formB at h
  unfold showM
  by_cases h1 : t.k = 1
  · rw [if_pos h1] at h
    simp only [Bool.and_eq_true, decide_eq_true_eq] at h
    obtain ⟨c, r, e, hc, _⟩ := word_parts h.2
    rw [if_neg (by omega), if_neg (by omega), if_neg (by omega), e]
    simp only [letB, Bool.and_eq_true, decide_eq_true_eq] at hc
    exact ⟨c, r, rfl, by omega, by omega, by omega⟩
  · rw [if_neg h1] at h
    by_cases h2 : t.k = 2
    · rw [if_pos h2] at h
      simp only [Bool.and_eq_true, decide_eq_true_eq] at h
      rw [if_pos h2]
      obtain ⟨u, hu⟩ : ∃ u : Nat, t.n = u := ⟨t.n.toNat, by omega⟩
      rw [hu, Lib.itoa_nonneg]
      have hd := dec_all u
      have hne := dec_ne u
      generalize Lib.decDigits u = l at *
      cases l with
      | nil => exact absurd rfl hne
      | cons c l =>
        simp only [List.all_cons, Bool.and_eq_true, digB, decide_eq_true_eq] at hd
        exact ⟨c, l, rfl, by omega, by omega, by omega⟩
    · rw [if_neg h2] at h
      rw [if_neg h2]
      by_cases h3 : t.k = 3
      · rw [if_neg (by omega), if_pos h3]
        exact ⟨34, _, rfl, by decide, by decide, by decide⟩
      · rw [if_neg h3] at h
        by_cases h4 : t.k = 4
        · rw [if_pos h4]
          exact ⟨64, _, rfl, by decide, by decide, by decide⟩
        · rw [if_neg h4] at h
          rw [if_neg h4, if_neg h3]
          by_cases h5 : t.k = 5
          · rw [if_pos h5] at h
            simp only [Bool.and_eq_true, decide_eq_true_eq] at h
            have hs := (signB_mem _).1 h.2
            have key : ∀ s ∈ signsR, (match s with | [] => false | c :: _ => decide (c.toNat ≠ 32 ∧ c.toNat ≠ 10 ∧ c.toNat ≠ 35)) = true := by decide
            have hk := key _ hs
            generalize t.s = s at *
            cases s with
            | nil => cases hk
            | cons c r => exact ⟨c, r, rfl, of_decide_eq_true hk⟩
          · rw [if_neg h5] at h; cases h
set_option maxRecDepth 100000 in
theorem firstM_back (t : Tk) (ht : t.Ok) (h : formB t = true) {r : List UInt8} (hr : EndB r) : firstM (showM t ++ r) = (t, (showM t).length) := by
  obtain ⟨k, s, n⟩ := t
  have hn1 := ht.n1
  unfold formB at h
  unfold showM
  dsimp only at *
  by_cases h1 : k = 1
  · subst h1
    rw [if_pos rfl] at h
    simp only [Bool.and_eq_true, decide_eq_true_eq] at h
    obtain ⟨rfl, h⟩ := h
    obtain ⟨c, l, rfl, hc, hl, ha⟩ := word_parts h
    rw [if_neg (by omega), if_neg (by omega), if_neg (by omega)]
    have e : firstM (c :: l ++ r) = wordM (c :: l ++ r) := by
      unfold firstM
      rw [List.cons_append]
      dsimp only
      rw [if_pos hc]
    rw [e]
    unfold wordM
    rw [runN_app _ _ _ ha, runN_end _ rfl rfl hr, Nat.add_zero, List.take_left]
  · rw [if_neg h1] at h
    by_cases h2 : k = 2
    · subst h2
      rw [if_pos rfl] at h
      simp only [Bool.and_eq_true, decide_eq_true_eq, List.isEmpty_iff] at h
      obtain ⟨rfl, h0⟩ := h
      rw [if_pos rfl]
      obtain ⟨u, rfl⟩ : ∃ u : Nat, n = u := ⟨n.toNat, by omega⟩
      rw [Lib.itoa_nonneg]
      have hd := dec_all u
      have hne := dec_ne u
      have hb := digM_back u (by omega) hr
      generalize Lib.decDigits u = l at *
      cases l with
      | nil => exact absurd rfl hne
      | cons c l =>
        simp only [List.all_cons, Bool.and_eq_true] at hd
        have hnl : letB c = false := by
          have := hd.1
          simp only [digB, letB, Bool.and_eq_true, decide_eq_true_eq, Bool.and_eq_false_iff, decide_eq_false_iff_not] at *
          omega
        have e : firstM (c :: l ++ r) = numM1 (c :: l ++ r) := by
          unfold firstM
          rw [List.cons_append]
          dsimp only
          rw [if_neg (by rw [hnl]; decide), if_pos hd.1]
        rw [e]
        unfold numM1
        rw [hb]
        rfl
    · rw [if_neg h2] at h
      rw [if_neg h2]
      by_cases h3 : k = 3
      · subst h3
        rw [if_pos rfl] at h
        simp only [Bool.and_eq_true, decide_eq_true_eq] at h
        obtain ⟨rfl, h⟩ := h
        rw [if_neg (by omega), if_pos rfl]
        have hi := inM_back s r
        unfold quoteM
        have e : firstM (34 :: (quoL s ++ [34]) ++ r) = textM1 (34 :: (quoL s ++ [34]) ++ r) := rfl
        rw [e]
        unfold textM1
        have e2 : (34 :: (quoL s ++ [34]) ++ r).drop 1 = quoL s ++ 34 :: r := by simp
        rw [e2, hi]
        simp
      · rw [if_neg h3] at h
        by_cases h4 : k = 4
        · subst h4
          rw [if_pos rfl] at h
          simp only [Bool.and_eq_true, decide_eq_true_eq, List.isEmpty_iff] at h
          obtain ⟨rfl, h0, hm⟩ := h
          rw [if_pos rfl]
          obtain ⟨u, rfl⟩ : ∃ u : Nat, n = u := ⟨n.toNat, by omega⟩
          rw [Lib.itoa_nonneg]
          have hb := digM_back u (by omega) hr
          have hne := dec_ne u
          have e : firstM (64 :: Lib.decDigits u ++ r) = timeM (64 :: Lib.decDigits u ++ r) := rfl
          rw [e]
          unfold timeM
          have e2 : (64 :: Lib.decDigits u ++ r).drop 1 = Lib.decDigits u ++ r := rfl
          rw [e2, hb]
          have hl : (Lib.decDigits u).length ≠ 0 := fun e => hne (List.eq_nil_of_length_eq_zero e)
          dsimp only
          rw [if_neg hl]
          simp [Nat.add_comm]
        · rw [if_neg h4] at h
          rw [if_neg h4, if_neg h3]
          by_cases h5 : k = 5
          · subst h5
            rw [if_pos rfl] at h
            simp only [Bool.and_eq_true, decide_eq_true_eq] at h
            obtain ⟨rfl, h⟩ := h
            exact fsign_back s ((signB_mem _).1 h) hr
          · rw [if_neg h5] at h; cases h
set_option maxRecDepth 100000 in
theorem skip_beg {l : List UInt8} (h : Beg l) : skipB false l = l := by
  obtain ⟨c, r, rfl, h1, h2, h3⟩ := h
  rw [skipB, if_neg (by omega), if_neg h3]
/-- what is skipped whole, whatever comes behind -/
def Gap (g : List UInt8) : Prop := ∀ x, skipB false (g ++ x) = skipB false x
/-- tokens, each behind its gap; a tail -/
def glue : List (List UInt8 × Tk) → List UInt8 → List UInt8
  | [], z => z
  | (g, t) :: l, z => g ++ (showM t ++ glue l z)
structure Gaps (l : List (List UInt8 × Tk)) : Prop where
  gap : ∀ x ∈ l, Gap x.1
  ends : ∀ x ∈ l.drop 1, EndB x.1 ∧ x.1 ≠ []
  ok : ∀ x ∈ l, x.2.Ok
  form : ∀ x ∈ l, formB x.2 = true
set_option maxRecDepth 100000 in
theorem EndB.app {g : List UInt8} (h : EndB g) (hne : g ≠ []) (x : List UInt8) : EndB (g ++ x) := by
  rcases h with rfl | ⟨c, r, rfl, h⟩
  · exact absurd rfl hne
  · exact .inr ⟨c, r ++ x, rfl, h⟩
set_option maxRecDepth 100000 in
theorem lexF_glue (N : Nat) (z : List UInt8) (hz : skipB false z = []) (hze : EndB z) : ∀ (l : List (List UInt8 × Tk)) (f : Nat) (acc : List Tk), Gaps l → (glue l z).length ≤ f → acc.length + l.length ≤ 600 →
    lexF N f (skipB false (glue l z)) acc = (acc ++ l.map Prod.snd, 0, 0)
  | [], f, acc, _, _, _ => by
    rw [glue, hz]
    cases f <;> simp [lexF]
  | (g, t) :: l, f, acc, hg, hf, ha => by
    have hG := hg.gap _ (List.mem_cons_self ..)
    have hF := hg.form _ (List.mem_cons_self ..)
    have hO := hg.ok _ (List.mem_cons_self ..)
    dsimp only at hF hO
    have hE : EndB (glue l z) := by
      cases l with
      | nil => exact hze
      | cons y l =>
        obtain ⟨g2, t2⟩ := y
        have := hg.ends (g2, t2) (by simp)
        exact this.1.app this.2 _
    have hb := beg_back hF
    have hfm := firstM_back t hO hF hE
    have hbb : Beg (showM t ++ glue l z) := by
      obtain ⟨c, r, e, h⟩ := hb
      exact ⟨c, r ++ glue l z, by rw [e]; rfl, h⟩
    rw [glue] at hf ⊢
    rw [hG, skip_beg hbb]
    have hpos : 0 < (showM t).length := by obtain ⟨c, r, e, _⟩ := hb; rw [e]; simp
    simp only [List.length_append] at hf
    simp only [List.length_cons] at ha
    cases f with
    | zero => omega
    | succ f =>
      rw [lexF, if_neg (by obtain ⟨c, r, e, _⟩ := hbb; rw [e]; simp), hfm]
      dsimp only
      rw [if_neg (by rw [hF]; decide), if_neg (by omega), List.drop_left]
      rw [lexF_glue N z hz hze l f (acc ++ [t]) ⟨fun x hx => hg.gap x (List.mem_cons_of_mem _ hx), fun x hx => hg.ends x (by simpa using List.mem_of_mem_drop hx), fun x hx => hg.ok x (List.mem_cons_of_mem _ hx), fun x hx => hg.form x (List.mem_cons_of_mem _ hx)⟩ (by omega) (by simp; omega)]
      simp
set_option maxRecDepth 100000 in
theorem lexM_glue (z : List UInt8) (hz : skipB false z = []) (hze : EndB z) (l : List (List UInt8 × Tk)) (hg : Gaps l) (h4 : (glue l z).length ≤ 4096) (h6 : l.length ≤ 600) : lexM (glue l z) = (l.map Prod.snd, 0, 0) := by
  unfold lexM
  rw [if_neg (by omega), lexF_glue _ z hz hze l _ [] hg (Nat.le_refl _) (by simpa using h6)]
  rfl
set_option maxRecDepth 100000 in
theorem lexM_show (t : Tk) (ht : t.Ok) (h : formB t = true) (h4 : (showM t).length ≤ 4096) : lexM (showM t) = ([t], 0, 0) := by
  have := lexM_glue [] rfl (.inl rfl) [([], t)] ⟨by simp [Gap], by simp, by simpa using ht, by simpa using h⟩ (by simpa [glue] using h4) (by simp)
  simpa [glue] using this
set_option maxRecDepth 100000 in
theorem gap_32 : Gap [32] := fun x => by rw [List.singleton_append, skipB, if_pos (by decide)]
set_option maxRecDepth 100000 in
theorem gap_10 : Gap [10] := fun x => by rw [List.singleton_append, skipB, if_pos (by decide)]
end Go.Proofs.YtcmnfbjlhdfmgaaDoor
