/- The order of values, as the document has it; The order of values is total, and of formed ones the document's: plain mathematics. -/
import Derived.Test.YtllgodaphoncnaaGreatDoorJ12
import Derived.Test.YtllgodaphoncnaaGreatDoorJ09
namespace Go.Proofs.YtllgodaphoncnaaGreatDoor
open Go.RowKit

/-- the order of values, as the document has it -/
def Val.orderS (x : Val) (lx : List Val) (y : Val) (ly : List Val) : Int := if x.k = 5 ∧ y.k = 5 then lexO Val.ordS lx ly else x.ordS y
end Go.Proofs.YtllgodaphoncnaaGreatDoor
namespace Go.Proofs.YtllgodaphoncnaaGreatDoor
open Go.RowKit

def ordK (n : Int) (a b : Val) : Int := if n = 1 ∨ n = 2 ∨ n = 4 then cmpI a.i b.i else if n = 3 then cmpS a.s b.s else 0
set_option maxRecDepth 100000 in
theorem isCmp_S : IsCmp cmpS := isCmp_T.comap fun a : ByteArray => a.data.toList
set_option maxRecDepth 100000 in
theorem isCmp_K (n : Int) : IsCmp (ordK n) := by
  unfold ordK
  by_cases h1 : n = 1 ∨ n = 2 ∨ n = 4
  · simp only [h1, if_true]; exact isCmp_I.comap Val.i
  · simp only [h1, if_false]
    by_cases h3 : n = 3
    · simp only [h3, if_true]; exact isCmp_S.comap Val.s
    · simp only [h3, if_false]; exact isCmp_zero
set_option maxRecDepth 100000 in
theorem ord_kind (a b : Val) : a.ord b = byKind Val.k ordK a b := by
  unfold Val.ord ordA byKind ordK
  by_cases h : a.k = b.k
  · rw [if_neg (by simp [h]), if_pos h]
  · rw [if_pos (by simp [h]), if_neg h]
set_option maxRecDepth 100000 in
theorem isCmp_ord : IsCmp Val.ord := by
  have h : Val.ord = byKind Val.k ordK := by funext a b; exact ord_kind a b
  rw [h]; exact isCmp_kind _ _ isCmp_K
/-- the order of values with their lists -/
def ordP (p q : Val × List Val) : Int := p.1.order p.2 q.1 q.2
def ordPK (n : Int) (p q : Val × List Val) : Int := if n = 5 then lexO Val.ord p.2 q.2 else ordK n p.1 q.1
set_option maxRecDepth 100000 in
theorem isCmp_PK (n : Int) : IsCmp (ordPK n) := by
  unfold ordPK
  by_cases h : n = 5
  · simp only [h, if_true]; exact (isCmp_lex isCmp_ord).comap fun p : Val × List Val => p.2
  · simp only [h, if_false]; exact (isCmp_K n).comap fun p : Val × List Val => p.1
set_option maxRecDepth 100000 in
theorem ordP_kind (p q : Val × List Val) : ordP p q = byKind (fun p : Val × List Val => p.1.k) ordPK p q := by
  unfold ordP Val.order byKind ordPK
  by_cases h : p.1.k = q.1.k
  · rw [if_pos h]
    by_cases h5 : p.1.k = 5
    · rw [if_pos ⟨h5, by omega⟩, if_pos h5]
    · rw [if_neg (fun x => h5 x.1), if_neg h5, ord_kind, byKind, if_pos h]
  · rw [if_neg h, if_neg (fun x => h (by rw [x.1, x.2])), ord_kind, byKind, if_neg h]
set_option maxRecDepth 100000 in
theorem isCmp_P : IsCmp ordP := by
  have h : ordP = byKind (fun p : Val × List Val => p.1.k) ordPK := by funext a b; exact ordP_kind a b
  rw [h]; exact isCmp_kind _ _ isCmp_PK
set_option maxRecDepth 100000 in
theorem cmpI_zero {a b : Int} : cmpI a b = 0 ↔ a = b := by unfold cmpI; constructor <;> intro h <;> ((repeat split at h) <;> (first | omega | ((repeat split) <;> omega)))
set_option maxRecDepth 100000 in
theorem cmpS_zero {a b : ByteArray} (h : cmpS a b = 0) : a.toList == b.toList := by
  rw [ByteArray.toList_eq, ByteArray.toList_eq, eq_cmpT]
  exact decide_eq_true h

set_option maxRecDepth 100000 in
/-- what an alone value has of each kind -/
theorem alone_parts {x : Val} (h : x.alone = true) : x.n = 0 ∧ (x.k = 0 → x.i = 0 ∧ x.s.toList = []) ∧ (x.k = 1 ∨ x.k = 2 ∨ x.k = 4 → x.s.toList = []) ∧ (x.k = 3 → x.i = 0) := by
  have hk := alone_kind h
  unfold Val.alone aloneB at h
  by_cases hn : 0 < x.n
  · simp [hn] at h
  · rw [if_neg hn] at h
    refine ⟨by omega, ?_, ?_, ?_⟩
    · intro e; simp [e] at h; exact h
    · intro e
      rcases e with e | e | e <;> simp [e] at h
      · exact h.2
      · exact h
      · exact h.2
    · intro e; simp [e] at h; exact h.1
set_option maxRecDepth 100000 in
theorem ord_ordS {x y : Val} (hx : x.alone = true) (hy : y.alone = true) : x.ord y = x.ordS y := by
  unfold Val.ord Val.ordS ordA Go.Proofs.YtllgodaphoncnaaGreatDoor.ordS
  by_cases h : x.k = y.k
  · have hb : (x.k != y.k) = false := by simp [h]
    simp only [hb, Bool.false_eq_true, if_false]
    rcases alone_kind hx with e | e | e | e | e
    · have h1 := ((alone_parts hx).2.1 e).1
      have h2 := ((alone_parts hy).2.1 (by omega)).1
      simp [e, h1, h2, cmpI]
    all_goals simp [e]
  · rw [if_pos (by simp [h]), if_pos (by simp [h])]
set_option maxRecDepth 100000 in
theorem lex_congr {α : Type} {f g : α → α → Int} : ∀ (x y : List α), (∀ a ∈ x, ∀ b ∈ y, f a b = g a b) → lexO f x y = lexO g x y
  | [], [], _ => rfl
  | [], _ :: _, _ => rfl
  | _ :: _, [], _ => rfl
  | a :: x, b :: y, h => by
    rw [lexO, lexO, h a (by simp) b (by simp), lex_congr x y fun a ha b hb => h a (by simp [ha]) b (by simp [hb])]
set_option maxRecDepth 100000 in
/-- a formed bag's values -/
theorem listB_all {l : List Val} (h : listB l = true) : ∀ x ∈ l, ¬ x.k = 0 ∧ x.alone = true := by
  unfold listB at h
  rw [Bool.and_eq_true] at h
  intro x hx
  obtain ⟨j, hj, rfl⟩ := List.mem_iff_getElem.1 hx
  have := List.all_eq_true.1 h.2 j (by simpa using hj)
  unfold okA at this
  obtain ⟨h1, _, h3⟩ := okV_parts this
  rw [getElem!_pos l j hj] at h1 h3
  exact ⟨h1, h3⟩
set_option maxRecDepth 100000 in
theorem formed_cases {x : Val} {l : List Val} (h : x.formed l = true) : (x.k = 5 ∧ x.i = 0 ∧ x.s.toList = [] ∧ listB l = true) ∨ (¬ x.k = 5 ∧ x.alone = true) := by
  unfold Val.formed at h
  by_cases h5 : x.k = 5
  · simp [h5] at h; exact .inl ⟨h5, h.1, h.2.1, h.2.2⟩
  · simp [h5] at h; exact .inr ⟨h5, h⟩
set_option maxRecDepth 100000 in
theorem order_is {x y : Val} {lx ly : List Val} (hx : x.formed lx = true) (hy : y.formed ly = true) : x.order lx y ly = x.orderS lx y ly := by
  unfold Val.order Val.orderS
  by_cases h : x.k = 5 ∧ y.k = 5
  · rw [if_pos h, if_pos h]
    rcases formed_cases hx with ⟨_, _, _, h1⟩ | ⟨h1, _⟩
    · rcases formed_cases hy with ⟨_, _, _, h2⟩ | ⟨h2, _⟩
      · exact lex_congr _ _ fun a ha b hb => ord_ordS (listB_all h1 a ha).2 (listB_all h2 b hb).2
      · exact absurd h.2 h2
    · exact absurd h.1 h1
  · rw [if_neg h, if_neg h]
    by_cases hk : x.k = y.k
    · rcases formed_cases hx with ⟨h1, _⟩ | ⟨_, h1⟩
      · exact absurd ⟨h1, by omega⟩ h
      · rcases formed_cases hy with ⟨h2, _⟩ | ⟨_, h2⟩
        · exact absurd ⟨by omega, h2⟩ h
        · exact ord_ordS h1 h2
    · unfold Val.ord Val.ordS ordA Go.Proofs.YtllgodaphoncnaaGreatDoor.ordS
      rw [if_pos (by simp [hk]), if_pos (by simp [hk])]
set_option maxRecDepth 100000 in
/-- two values that are no bags, and alike in order, are the same -/
theorem same_alone {a b : Val} (ha : a.alone = true) (hb : b.alone = true) (h : a.ord b = 0) : a.k = b.k ∧ a.i = b.i ∧ (a.s.toList == b.s.toList) = true ∧ a.n = 0 ∧ b.n = 0 := by
  have pa := alone_parts ha
  have pb := alone_parts hb
  rw [ord_kind] at h
  unfold byKind at h
  by_cases hk : a.k = b.k
  · rw [if_pos hk] at h
    unfold ordK at h
    refine ⟨hk, ?_⟩
    rcases alone_kind ha with e | e | e | e | e
    · have h1 := pa.2.1 e
      have h2 := pb.2.1 (by omega)
      exact ⟨by omega, by rw [h1.2, h2.2]; rfl, pa.1, pb.1⟩
    · simp [e] at h
      have h1 := pa.2.2.1 (.inl e)
      have h2 := pb.2.2.1 (.inl (by omega))
      exact ⟨cmpI_zero.1 h, by rw [h1, h2]; rfl, pa.1, pb.1⟩
    · simp [e] at h
      have h1 := pa.2.2.1 (.inr (.inl e))
      have h2 := pb.2.2.1 (.inr (.inl (by omega)))
      exact ⟨cmpI_zero.1 h, by rw [h1, h2]; rfl, pa.1, pb.1⟩
    · simp [e] at h
      have h1 := pa.2.2.2 e
      have h2 := pb.2.2.2 (by omega)
      exact ⟨by omega, cmpS_zero h, pa.1, pb.1⟩
    · simp [e] at h
      have h1 := pa.2.2.1 (.inr (.inr e))
      have h2 := pb.2.2.1 (.inr (.inr (by omega)))
      exact ⟨cmpI_zero.1 h, by rw [h1, h2]; rfl, pa.1, pb.1⟩
  · rw [if_neg hk] at h
    exact absurd (cmpI_zero.1 h) hk
set_option maxRecDepth 100000 in
theorem lex_zero {f : Val → Val → Int} : ∀ (x y : List Val), lexO f x y = 0 → x.length = y.length ∧ ∀ j, j < x.length → f x[j]! y[j]! = 0
  | [], [], _ => ⟨rfl, fun j hj => by cases hj⟩
  | [], _ :: _, h => by simp [lexO] at h
  | _ :: _, [], h => by simp [lexO] at h
  | a :: x, b :: y, h => by
    unfold lexO at h
    by_cases e : f a b = 0
    · rw [if_pos e] at h
      obtain ⟨h1, h2⟩ := lex_zero x y h
      refine ⟨by simp [h1], fun j hj => ?_⟩
      cases j with
      | zero => simpa using e
      | succ j => have := h2 j (by simpa using hj); simpa using this
    · rw [if_neg e] at h; exact absurd h e
set_option maxRecDepth 100000 in
theorem lex_self {f : Val → Val → Int} (hf : ∀ a b : Val, a.k = b.k → a.i = b.i → (a.s.toList == b.s.toList) = true → f a b = 0) : ∀ (x y : List Val), x.length = y.length → (∀ j, j < x.length → sameE x[j]! y[j]! = true) → lexO f x y = 0
  | [], [], _, _ => rfl
  | [], _ :: _, h, _ => by simp at h
  | _ :: _, [], h, _ => by simp at h
  | a :: x, b :: y, h, hs => by
    have h0 := hs 0 (by simp)
    simp [sameE] at h0
    rw [lexO, if_pos (hf a b h0.1 h0.2.1 (by simpa using h0.2.2.1))]
    exact lex_self hf x y (by simpa using h) fun j hj => by have := hs (j + 1) (by simpa using hj); simpa using this
set_option maxRecDepth 100000 in
theorem ord_zero_of {a b : Val} (hk : a.k = b.k) (hi : a.i = b.i) (hs : (a.s.toList == b.s.toList) = true) : a.ord b = 0 := by
  rw [ord_kind, byKind, if_pos hk, ordK]
  rw [ByteArray.toList_eq, ByteArray.toList_eq, eq_cmpT] at hs
  have hs' : cmpS a.s b.s = 0 := of_decide_eq_true hs
  split
  · exact cmpI_zero.2 hi
  · split
    · exact hs'
    · rfl
set_option maxRecDepth 100000 in
theorem zero_same {x y : Val} {lx ly : List Val} (hx : x.formed lx = true) (hy : y.formed ly = true) (nx : lx.length = x.n) (ny : ly.length = y.n) : (x.order lx y ly == 0) = sameB x lx y ly := by
  rw [Bool.eq_iff_iff]
  constructor
  · intro h
    have h0 : x.order lx y ly = 0 := by simpa using h
    unfold Val.order at h0
    by_cases h5 : x.k = 5 ∧ y.k = 5
    · rw [if_pos h5] at h0
      rcases formed_cases hx with ⟨_, x1, x2, x3⟩ | ⟨h1, _⟩
      · rcases formed_cases hy with ⟨_, y1, y2, y3⟩ | ⟨h2, _⟩
        · obtain ⟨hl, hj⟩ := lex_zero _ _ h0
          unfold sameB headS
          rw [show (x.k == y.k) = true by simp; omega, show (x.i == y.i) = true by simp; omega, x2, y2, show (x.n == y.n) = true by simp; omega]
          simp only [Bool.true_and, BEq.rfl]
          refine List.all_eq_true.2 fun j hj' => ?_
          have hjx : j < lx.length := by simp at hj'; omega
          have hjy : j < ly.length := by omega
          have h1 := (listB_all x3 lx[j] (List.getElem_mem _)).2
          have h2 := (listB_all y3 ly[j] (List.getElem_mem _)).2
          have h3 := hj j hjx
          rw [getElem!_pos lx j hjx, getElem!_pos ly j hjy] at h3 ⊢
          have h4 := same_alone h1 h2 h3
          simp [sameE, h4.1, h4.2.1, h4.2.2.2.1, h4.2.2.2.2]
          simpa using h4.2.2.1
        · exact absurd h5.2 h2
      · exact absurd h5.1 h1
    · rw [if_neg h5] at h0
      have hk : x.k = y.k := by
        rw [ord_kind] at h0; unfold byKind at h0
        by_cases e : x.k = y.k
        · exact e
        · rw [if_neg e] at h0; exact cmpI_zero.1 h0
      rcases formed_cases hx with ⟨h1, _⟩ | ⟨_, h1⟩
      · exact absurd ⟨h1, by omega⟩ h5
      · rcases formed_cases hy with ⟨h2, _⟩ | ⟨_, h2⟩
        · exact absurd ⟨by omega, h2⟩ h5
        · have h4 := same_alone h1 h2 h0
          unfold sameB headS
          rw [h4.2.2.2.1, h4.2.2.2.2]
          simp [h4.1, h4.2.1]
          simpa using h4.2.2.1
  · intro h
    unfold sameB at h
    rw [Bool.and_eq_true] at h
    have hh := h.1
    simp [headS] at hh
    have h0 : x.order lx y ly = 0 := by
      unfold Val.order
      split
      · refine lex_self (fun a b h1 h2 h3 => ord_zero_of h1 h2 h3) lx ly (by omega) fun j hj => ?_
        exact List.all_eq_true.1 h.2 j (by simp; omega)
      · exact ord_zero_of hh.1 hh.2.1 (by simpa using hh.2.2.1)
    simpa using h0
end Go.Proofs.YtllgodaphoncnaaGreatDoor
