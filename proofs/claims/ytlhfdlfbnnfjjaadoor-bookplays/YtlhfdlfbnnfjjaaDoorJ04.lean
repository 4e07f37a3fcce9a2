/- P3.1: what is written: bytes, numbers; Values of a size that is looked at; Two values of a size that is looked at. -/
import Derived.Test.YtlhfdlfbnnfjjaaDoorJ03
import Derived.Test.YtlhfdlfbnnfjjaaDoorJ02
namespace Go.Proofs.YtlhfdlfbnnfjjaaDoor
open Go.RowKit

/-- what there is room for is written -/
def putM : Option ByteArray → ByteArray → Option ByteArray
  | none, _ => none
  | some s, m => if s.size + m.size ≤ 4096 then some (s ++ m) else none
set_option maxRecDepth 100000 in
theorem room_any (w : World) (t : Nat) (T : TypeId) (st : Option ByteArray) (h : Tape w t T st) :
    Calls Tryd.prog 66 #[.pointer (some ⟨t, 0, none⟩)] w fun e w' => e = .returned (.int .i64 (4096 - ((tapeB st).size : Int))) ∧ w = w' := by
  have c0 := h.c0
  have hlt := h.lt
  have hsz : (tapeB st).size ≤ maxLen := by cases st with
    | none => exact Nat.zero_le _
    | some s => exact h.size s rfl
  unfold maxLen at hsz
  clear h
  go_enter Tryd.func66, Tryd.ntmps66
  go_wp2_with fail
  go_ret
  exact ⟨rfl, rfl⟩
set_option maxRecDepth 100000 in
set_option maxHeartbeats 1000000 in
theorem cput_any (w : World) (t : Nat) (T : TypeId) (st : Option ByteArray) (s : ByteArray) (_hs : s.size ≤ maxLen) (h : Tape w t T st) :
    Calls Tryd.prog 67 #[.pointer (some ⟨t, 0, none⟩), .string s] w fun e w' => e = .returned (.tuple #[]) ∧ Tape w' t T (putM st s) ∧ Kept1 t w w' := by
  have hlt := h.lt
  have H := Lib.hid h
  have R : Hid (∀ m : Bl w, Calls Tryd.prog 66 #[.pointer (some ⟨t, 0, none⟩)] m.wr fun e w' => e = .returned (.int .i64 (4096 - ((tapeB st).size : Int))) ∧ m.wr = w') := Lib.hid (fun m => room_any m.wr t T st (h.below m.below))
  clear h
  go_enter Tryd.func67, Tryd.ntmps67
  go_wp2_with fail
  by_cases hle : (s.size : Int) ≤ 4096 - (tapeB st).size
  · refine wp_region_quiet_tailB 8 (by kernel_rfl) (by kernel_rfl) ?_
    simp only [List.take_succ_cons, List.take_zero, List.drop_succ_cons, List.drop_zero]
    iterate 8 (go_big_quiet_step ((go_at_call 66; with_reducible exact Calls.quiet_b (.mono (R.out _) fun _ _ ⟨he, hw⟩ => ⟨he, hw ▸ Below.refl _ _⟩))))
    refine wpQuiet_nil ?_
    intro m
    go_wp2_with fail
    refine (must_any m.wr t T st true (H.out.below m.below)).mono ?_
    rintro e w1 ⟨rfl, ht, hk⟩
    have HB := Lib.hid ((Kept1.of_below (b := t) m.below).trans hk)
    clear hk R
    cases st with
    | none =>
      have HT := Lib.hid ht
      clear ht
      go_wp2_with fail
      go_end0
      exact ⟨rfl, HT.out, HB.out⟩
    | some b =>
      have d0 := ht.c0
      have df := ht.fz
      have dl := ht.lt
      have HT := Lib.hid ht
      clear ht
      have e1 : tapeB (some b) = b := rfl
      simp only [if_true, e1] at d0 df dl hle HT
      have e2 : putM (some b) s = some (b ++ s) := if_pos (by omega)
      go_wp2_with fail
      go_end0
      rw [e2]
      exact ⟨rfl, HT.out.set0 _ (by unfold maxLen; simp; omega), HB.out.setCell ⟨t, 0, none⟩ (.inl rfl) _⟩
  · refine wp_region_quiet_tailB 8 (by kernel_rfl) (by kernel_rfl) ?_
    simp only [List.take_succ_cons, List.take_zero, List.drop_succ_cons, List.drop_zero]
    iterate 8 (go_big_quiet_step ((go_at_call 66; with_reducible exact Calls.quiet_b (.mono (R.out _) fun _ _ ⟨he, hw⟩ => ⟨he, hw ▸ Below.refl _ _⟩))))
    refine wpQuiet_nil ?_
    intro m
    go_wp2_with fail
    refine (must_any m.wr t T st false (H.out.below m.below)).mono ?_
    rintro e w1 ⟨rfl, ht, hk⟩
    have HB := Lib.hid ((Kept1.of_below (b := t) m.below).trans hk)
    have HT := Lib.hid ht
    clear hk R ht
    have e2 : putM st s = none := by
      cases st with
      | none => rfl
      | some b => exact if_neg (by have : tapeB (some b) = b := rfl; rw [this] at hle; omega)
    go_wp2_with fail
    go_end0
    rw [e2]
    exact ⟨rfl, HT.out, HB.out⟩
end Go.Proofs.YtlhfdlfbnnfjjaaDoor
namespace Go.Proofs.YtlhfdlfbnnfjjaaDoor
open Go.RowKit

/-- a value and its list -/
structure Full (w : World) (x : Val) (l : List Val) : Prop where
  list : ∃ g o, ListAt w x.a g o l
  len : l.length = x.n
  size : x.s.size ≤ maxLen
  most : x.n ≤ maxLen
set_option maxRecDepth 100000 in
theorem Full.below {w w' : World} {x : Val} {l : List Val} (h : Full w x l) (hk : Below w.heap.size w w') : Full w' x l :=
  ⟨by obtain ⟨g, o, h1⟩ := h.list; exact ⟨g, o, h1.below hk⟩, h.len, h.size, h.most⟩
def smallE (y : Val) : Bool := !decide (200 < y.s.size) && !decide (0 < y.n)
def small (x : Val) (l : List Val) : Bool := !(decide (200 < x.s.size) || decide (30 < x.n)) && l.all smallE
set_option maxRecDepth 100000 in
theorem all_no {α : Type} (f : α → Bool) (l : List α) (k : Nat) (hk : k < l.length) (h : f l[k] = false) : l.all f = false := by
  rw [Bool.eq_false_iff]; intro ha
  rw [List.all_eq_true] at ha
  rw [ha l[k] (List.getElem_mem _)] at h
  cases h
set_option maxRecDepth 100000 in
theorem all_no_take {α : Type} (f : α → Bool) (l : List α) (k m : Nat) (hk : k < l.length) (hm : k < m) (h : f l[k] = false) (b : Bool) : false = ((l.take m).all f && b) := by
  rw [all_no f (l.take m) k (by simp; omega) (by simpa using h)]; rfl
set_option maxRecDepth 100000 in
theorem all_snoc {α : Type} (f : α → Bool) (l : List α) (k : Nat) (hk : k < l.length) (h : (l.take k).all f = true) (h' : f l[k] = true) : (l.take (k + 1)).all f = true := by
  rw [List.take_succ_eq_append_getElem hk, List.all_append, h, List.all_cons, h']; rfl
set_option maxRecDepth 100000 in
theorem all_end {α : Type} (f : α → Bool) (l : List α) (k m : Nat) (h : (l.take k).all f = true) (hk : k = l.length ∨ k = m) (hm : k ≤ m) (b : Bool) : b = ((l.take m).all f && b) := by
  have : (l.take m).all f = true := by
    rcases hk with rfl | rfl
    · rw [List.take_of_length_le (by omega)]; rwa [List.take_of_length_le (by omega)] at h
    · exact h
  rw [this]; rfl
set_option maxRecDepth 100000 in
theorem small_s {x : Val} {l : List Val} (h : 200 < x.s.size) : small x l = false := by simp [small, h]
set_option maxRecDepth 100000 in
theorem small_n {x : Val} {l : List Val} (h : 30 < x.n) : small x l = false := by simp [small, h]
set_option maxRecDepth 100000 in
theorem small_e {x : Val} {l : List Val} (k : Nat) (hk : k < l.length) (h : smallE l[k] = false) : small x l = false := by simp [small, all_no smallE l k hk h]
set_option maxRecDepth 100000 in
theorem small_yes {x : Val} {l : List Val} (h : ¬ 200 < x.s.size) (h' : ¬ 30 < x.n) (ha : l.all smallE = true) : small x l = true := by simp [small, h, h', ha]
end Go.Proofs.YtlhfdlfbnnfjjaaDoor
namespace Go.Proofs.YtlhfdlfbnnfjjaaDoor
open Go.RowKit

set_option maxRecDepth 100000 in
theorem listAt_two {w : World} {g : Nat} {x y : Val} {t : TypeId} {fr : Nat × Nat} (h : w.heap[g]? = some (.cells #[.int .i64 x.k, .int .i64 x.i, .string x.s, .slice x.a x.n x.c, .int .i64 y.k, .int .i64 y.i, .string y.s, .slice y.a y.n y.c] t fr))
    (hx : x.s.size ≤ maxLen) (hy : y.s.size ≤ maxLen) : ListAt w (some ⟨g, 0, none⟩) g 0 [x, y] := by
  refine ⟨fun _ => rfl, ?_, ?_, ?_, ?_, ?_⟩
  · rintro (_ | _ | j) hj
    · exact cell_block h 0
    · exact cell_block h 4
    · exact absurd (show j + 1 + 1 < 2 from hj) (by omega)
  · rintro (_ | _ | j) hj
    · exact cell_block h 1
    · exact cell_block h 5
    · exact absurd (show j + 1 + 1 < 2 from hj) (by omega)
  · rintro (_ | _ | j) hj
    · exact cell_block h 2
    · exact cell_block h 6
    · exact absurd (show j + 1 + 1 < 2 from hj) (by omega)
  · rintro (_ | _ | j) hj
    · exact cell_block h 3
    · exact cell_block h 7
    · exact absurd (show j + 1 + 1 < 2 from hj) (by omega)
  · intro z hz
    rcases List.mem_cons.1 hz with rfl | hz
    · exact hx
    rcases List.mem_cons.1 hz with rfl | hz
    · exact hy
    cases hz
end Go.Proofs.YtlhfdlfbnnfjjaaDoor
