/- Total orders told by -1, 0, 1: numbers, texts, lists, kinds first. Plain mathematics; The order of values, bags too: the program's and the document's. -/
import Derived.Test.YtllgodaphoncnaaGreatDoorJ02
import Derived.Test.YtllgodaphoncnaaGreatDoorJ11
namespace Go.Proofs.YtllgodaphoncnaaGreatDoor

structure IsCmp {α : Type} (c : α → α → Int) : Prop where
  range : ∀ a b, c a b = -1 ∨ c a b = 0 ∨ c a b = 1
  anti : ∀ a b, c b a = -c a b
  trans : ∀ a b d, c a b ≤ 0 → c b d ≤ 0 → c a d ≤ 0
section
variable {α β : Type} {c : α → α → Int}
set_option maxRecDepth 100000 in
theorem IsCmp.self (h : IsCmp c) (a : α) : c a a = 0 := by have := h.anti a a; omega
set_option maxRecDepth 100000 in
theorem IsCmp.lt_le (h : IsCmp c) {a b d : α} (h1 : c a b < 0) (h2 : c b d ≤ 0) : c a d < 0 := by
  have h3 := h.trans a b d (by omega) h2
  rcases Int.lt_or_eq_of_le h3 with h4 | h4
  · exact h4
  · have h5 := h.trans b d a h2 (by rw [h.anti a d]; omega)
    rw [h.anti a b] at h5; omega
set_option maxRecDepth 100000 in
theorem IsCmp.le_lt (h : IsCmp c) {a b d : α} (h1 : c a b ≤ 0) (h2 : c b d < 0) : c a d < 0 := by
  have h3 := h.trans a b d h1 (by omega)
  rcases Int.lt_or_eq_of_le h3 with h4 | h4
  · exact h4
  · have h5 := h.trans d a b (by rw [h.anti a d]; omega) h1
    rw [h.anti b d] at h5; omega
set_option maxRecDepth 100000 in
theorem IsCmp.eq_eq (h : IsCmp c) {a b d : α} (h1 : c a b = 0) (h2 : c b d = 0) : c a d = 0 := by
  have h3 := h.trans a b d (by omega) (by omega)
  have h4 := h.trans d b a (by rw [h.anti b d]; omega) (by rw [h.anti a b]; omega)
  rw [h.anti a d] at h4; omega
set_option maxRecDepth 100000 in
theorem IsCmp.comap (h : IsCmp c) (f : β → α) : IsCmp (fun a b => c (f a) (f b)) := ⟨fun _ _ => h.range _ _, fun _ _ => h.anti _ _, fun _ _ _ => h.trans _ _ _⟩
set_option maxRecDepth 100000 in
theorem isCmp_I : IsCmp cmpI := by
  refine ⟨fun a b => ?_, fun a b => ?_, fun a b d => ?_⟩
  · unfold cmpI; (repeat split) <;> omega
  · unfold cmpI; (repeat split) <;> omega
  · unfold cmpI; (repeat split) <;> omega
set_option maxRecDepth 100000 in
theorem isCmp_zero : IsCmp (fun _ _ : α => 0) := ⟨fun _ _ => .inr (.inl rfl), fun _ _ => rfl, fun _ _ _ h _ => h⟩

/-- lists compared by their first values that are other, then the shorter ahead -/
def lexO (f : α → α → Int) : List α → List α → Int
  | [], [] => 0
  | [], _ :: _ => -1
  | _ :: _, [] => 1
  | a :: x, b :: y => if f a b = 0 then lexO f x y else f a b
set_option maxRecDepth 100000 in
theorem isCmp_lex (h : IsCmp c) : IsCmp (lexO c) := by
  refine ⟨?_, ?_, ?_⟩
  · intro x
    induction x with
    | nil => intro y; cases y <;> simp [lexO]
    | cons a x ih =>
      intro y
      cases y with
      | nil => simp [lexO]
      | cons b y =>
        unfold lexO; split
        · exact ih y
        · exact h.range a b
  · intro x
    induction x with
    | nil => intro y; cases y <;> simp [lexO]
    | cons a x ih =>
      intro y
      cases y with
      | nil => simp [lexO]
      | cons b y =>
        have e := h.anti a b
        unfold lexO
        by_cases h0 : c a b = 0
        · rw [if_pos h0, if_pos (by omega)]; exact ih y
        · rw [if_neg h0, if_neg (by omega)]; exact e
  · intro x
    induction x with
    | nil => intro y z; cases y <;> cases z <;> simp [lexO]
    | cons a x ih =>
      intro y z
      cases y with
      | nil => cases z <;> simp [lexO]
      | cons b y =>
        cases z with
        | nil => simp [lexO]
        | cons d z =>
          unfold lexO
          intro h1 h2
          by_cases e1 : c a b = 0
          · rw [if_pos e1] at h1
            by_cases e2 : c b d = 0
            · rw [if_pos e2] at h2
              rw [if_pos (h.eq_eq e1 e2)]
              exact ih y z h1 h2
            · rw [if_neg e2] at h2
              have e3 := h.le_lt (a := a) (by omega) (show c b d < 0 by omega)
              rw [if_neg (by omega)]; omega
          · rw [if_neg e1] at h1
            have e3 : c a d < 0 := by
              by_cases e2 : c b d = 0
              · exact h.lt_le (by omega) (by omega : c b d ≤ 0)
              · rw [if_neg e2] at h2
                exact h.lt_le (by omega) h2
            rw [if_neg (by omega)]; omega
/-- by a kind first, then by an order of that kind's own -/
def byKind (k : α → Int) (g : Int → α → α → Int) (a b : α) : Int := if k a = k b then g (k a) a b else cmpI (k a) (k b)
set_option maxRecDepth 100000 in
theorem isCmp_kind (k : α → Int) (g : Int → α → α → Int) (h : ∀ n, IsCmp (g n)) : IsCmp (byKind k g) := by
  have ne : ∀ {a b : Int}, ¬ a = b → cmpI a b = -1 ∨ cmpI a b = 1 := by intro a b h; unfold cmpI; (repeat split) <;> omega
  refine ⟨?_, ?_, ?_⟩
  · intro a b; unfold byKind; split
    · exact (h _).range a b
    · exact isCmp_I.range _ _
  · intro a b; unfold byKind
    by_cases e : k a = k b
    · rw [if_pos e, if_pos e.symm, ← e]; exact (h _).anti a b
    · rw [if_neg e, if_neg (fun x => e x.symm)]; exact isCmp_I.anti _ _
  · intro a b d; unfold byKind
    by_cases e1 : k a = k b
    · rw [if_pos e1]
      by_cases e2 : k b = k d
      · rw [if_pos e2, if_pos (e1.trans e2), ← e1]; exact (h _).trans a b d
      · rw [if_neg e2, if_neg (by rw [e1]; exact e2), e1]; exact fun _ h => h
    · rw [if_neg e1]
      by_cases e2 : k b = k d
      · rw [if_pos e2, if_neg (by rw [← e2]; exact e1), ← e2]; exact fun h _ => h
      · rw [if_neg e2]
        intro h1 h2
        have g1 : cmpI (k a) (k b) < 0 := by rcases ne e1 with h | h <;> omega
        have g3 := isCmp_I.lt_le g1 h2
        split
        · rename_i e3; rw [e3] at g3; have := isCmp_I.self (k d); omega
        · omega
end
set_option maxRecDepth 100000 in
theorem cmpT_lex : ∀ x y : List UInt8, cmpT x y = lexO (fun a b : UInt8 => cmpI a.toNat b.toNat) x y
  | [], [] => rfl
  | [], _ :: _ => rfl
  | _ :: _, [] => rfl
  | a :: x, b :: y => by
    have ih := cmpT_lex x y
    rw [cmpT, lexO]
    simp only [UInt8.lt_iff_toNat_lt]
    by_cases h : a.toNat < b.toNat
    · have e : cmpI a.toNat b.toNat = -1 := by unfold cmpI; rw [if_pos (by omega)]
      rw [if_pos h, e]; rfl
    · by_cases h' : b.toNat < a.toNat
      · have e : cmpI a.toNat b.toNat = 1 := by unfold cmpI; rw [if_neg (by omega), if_pos (by omega)]
        rw [if_neg h, if_pos h', e]; rfl
      · have e : cmpI a.toNat b.toNat = 0 := by unfold cmpI; rw [if_neg (by omega), if_neg (by omega)]
        rw [if_neg h, if_neg h', e, if_pos rfl]; exact ih
set_option maxRecDepth 100000 in
theorem isCmp_T : IsCmp cmpT := by
  have h : cmpT = lexO (fun a b : UInt8 => cmpI a.toNat b.toNat) := by funext x y; exact cmpT_lex x y
  rw [h]; exact isCmp_lex (isCmp_I.comap fun a : UInt8 => (a.toNat : Int))
end Go.Proofs.YtllgodaphoncnaaGreatDoor
namespace Go.Proofs.YtllgodaphoncnaaGreatDoor
open Go.RowKit

set_option maxRecDepth 100000 in
theorem lexO_step {α : Type} (f : α → α → Int) (x y : List α) (k : Nat) (hx : k < x.length) (hy : k < y.length) :
    lexO f (x.drop k) (y.drop k) = if f x[k] y[k] = 0 then lexO f (x.drop (k + 1)) (y.drop (k + 1)) else f x[k] y[k] := by
  rw [List.drop_eq_getElem_cons hx, List.drop_eq_getElem_cons hy, lexO]
set_option maxRecDepth 100000 in
theorem lexO_end {α : Type} (f : α → α → Int) (x y : List α) (k : Nat) (hx : k ≤ x.length) (hy : k ≤ y.length) (h : k = x.length ∨ k = y.length) : lexO f (x.drop k) (y.drop k) = cmpI x.length y.length := by
  rcases h with rfl | rfl
  · rw [List.drop_length]
    rcases Nat.lt_or_ge x.length y.length with h | h
    · obtain ⟨b, l, e⟩ := List.exists_cons_of_ne_nil (show y.drop x.length ≠ [] by simp; omega)
      rw [e]; unfold cmpI; rw [if_pos (by omega)]; rfl
    · rw [List.drop_of_length_le (by omega)]; unfold cmpI; rw [if_neg (by omega), if_neg (by omega)]; rfl
  · rw [List.drop_length]
    rcases Nat.lt_or_ge y.length x.length with h | h
    · obtain ⟨b, l, e⟩ := List.exists_cons_of_ne_nil (show x.drop y.length ≠ [] by simp; omega)
      rw [e]; unfold cmpI; rw [if_neg (by omega), if_pos (by omega)]; rfl
    · rw [List.drop_of_length_le (by omega)]; unfold cmpI; rw [if_neg (by omega), if_neg (by omega)]; rfl
def Val.ordS (x y : Val) : Int := Go.Proofs.YtllgodaphoncnaaGreatDoor.ordS x.k x.i x.s y.k y.i y.s

/-- the order of values, as the program has it -/
def Val.order (x : Val) (lx : List Val) (y : Val) (ly : List Val) : Int := if x.k = 5 ∧ y.k = 5 then lexO Val.ord lx ly else x.ord y
end Go.Proofs.YtllgodaphoncnaaGreatDoor
