/- P3.1, P3.2: bytes alone; what was written at the end; what is read from the start. -/
import Derived.Test.YtebadbnlihbecaaCRead
namespace Go.Proofs.Ytebadbnlihbecaa
open Go.RowKit

/-- a slice of bytes that lie in this world -/
def BSrc (w : World) (v : Value) (l : List UInt8) : Prop :=
  (∃ ad cp, v = .slice ad 0 cp ∧ l = []) ∨ ∃ (g o cp : Nat), v = .slice (some ⟨g, o, none⟩) l.length cp ∧ ∀ j (hj : j < l.length), w.cell? ⟨g, o + j, none⟩ = some (.int .u8 (l[j].toNat : Int))
theorem BSrc.below {w w' : World} {v : Value} {l : List UInt8} (h : BSrc w v l) (hb : Below w.heap.size w w') : BSrc w' v l := by
  rcases h with h | ⟨g, o, cp, e, hc⟩
  · exact .inl h
  · exact .inr ⟨g, o, cp, e, fun j hj => (hb.cell (block_lt_of_cell (hc j hj))).trans (hc j hj)⟩
theorem BSrc.kept {w w' : World} {v : Value} {l : List UInt8} {t : Nat} (h : BSrc w v l) (hb : Kept1 t w w') (hne : ∀ a n c, v = .slice (some a) n c → a.block ≠ t) : BSrc w' v l := by
  rcases h with h | ⟨g, o, cp, e, hc⟩
  · exact .inl h
  · exact .inr ⟨g, o, cp, e, fun j hj => (hb.cell (block_lt_of_cell (hc j hj)) (hne ⟨g, o, none⟩ _ _ e)).trans (hc j hj)⟩
theorem BSrc.shape {w : World} {v : Value} {l : List UInt8} (h : BSrc w v l) : ∃ ad cp, v = .slice ad l.length cp := by
  rcases h with ⟨ad, cp, e, rfl⟩ | ⟨g, o, cp, e, _⟩
  · exact ⟨ad, cp, e⟩
  · exact ⟨_, _, e⟩
theorem conv_bytes {w : World} {v : Value} {l : List UInt8} (h : BSrc w v l) : (convert 36 9 v).run Try.prog w = .ok (.string ⟨l.toArray⟩) w := by
  rcases h with ⟨ad, cp, rfl, rfl⟩ | ⟨g, o, cp, rfl, hc⟩
  · rw [run_convert_bytes_string w 36 9 5 _ 0 cp Try.underlying36 Try.underlying5 Try.underlying9]
    cases ad <;> simp [Conv.bytesToString]
    all_goals rfl
  · exact run_convert_bytes_back (P := Try.prog) w 36 9 5 ⟨g, o, none⟩ cp l Try.underlying36 Try.underlying5 Try.underlying9 (fun j hj => by rw [Addr.add_mid]; exact hc j hj)
theorem conv_string (w : World) (s : ByteArray) : ∃ v w', (convert 9 36 (.string s)).run Try.prog w = .ok v w' ∧ BSrc w' v s.data.toList ∧ Below w.heap.size w w' ∧ ∀ a n c, v = .slice (some a) n c → w.heap.size ≤ a.block := by
  have h := run_bytes_of_string (P := Try.prog) w 9 36 5 s Try.underlying9 Try.underlying36 Try.underlying5
  refine ⟨_, _, h, .inr ⟨w.heap.size, 0, _, by simp; rfl, fun j hj => ?_⟩, ((Below.refl _ _).drew.alloc (Nat.le_refl _) _), fun a n c e => by injection e with e1; injection e1 with e1; rw [← e1]; exact Nat.le_refl _⟩
  rw [Nat.zero_add]
  refine (cell_block (g := w.heap.size) (heap_alloc_new w.drew _) j).trans ?_
  have hj' : j < s.data.size := by simpa using hj
  have hj2 : j < s.size := hj'
  simp [bytesRow, Array.getElem?_append, hj2]
theorem below_kept {t : Nat} {a w w' : World} (h : Below a.heap.size a w) (k : Kept1 t w w') : Kept1 t a w' := (Kept1.of_below h).trans k
set_option maxRecDepth 100000 in
set_option maxHeartbeats 1000000 in
theorem outRaw_any (w : World) (t : Nat) (T : TypeId) (st : Option ByteArray) (v : Value) (l : List UInt8) (hl : l.length ≤ maxLen) (hv : BSrc w v l) (hne : ∀ a n c, v = .slice (some a) n c → a.block ≠ t) (h : Tape w t T st) :
    Calls Try.prog 36 #[.pointer (some ⟨t, 0, none⟩), v] w fun e w' => e = .returned (.tuple #[]) ∧ Tape w' t T (putM st ⟨l.toArray⟩) ∧ Kept1 t w w' := by
  obtain ⟨ad, cp, rfl⟩ := hv.shape
  have hlt := h.lt
  have H := Lib.hid h
  have HV := Lib.hid hv
  have HNE := Lib.hid hne
  have HLL := Lib.hid hl
  have R : Hid (∀ m : Bl w, Calls Try.prog 51 #[.pointer (some ⟨t, 0, none⟩)] m.wr fun e w' => e = .returned (.int .i64 (4096 - ((tapeB st).size : Int))) ∧ m.wr = w') := Lib.hid (fun m => room_any m.wr t T st (h.below m.below))
  unfold maxLen at hl
  clear h hv hne
  obtain ⟨b, hb⟩ : ∃ b, decide ((l.length : Int) ≤ 4096 - ((tapeB st).size : Int)) = b := ⟨_, rfl⟩
  have E0 : Hid (b = false → putM st ⟨l.toArray⟩ = none) := Lib.hid (fun e => by
    subst e
    have := of_decide_eq_false hb
    cases st with
    | none => rfl
    | some s => exact if_neg (by show ¬ s.size + l.toArray.size ≤ 4096; have e1 : tapeB (some s) = s := rfl; rw [e1] at this; simp; omega))
  go_enter Try.func36, Try.ntmps36
  go_wp2_with fail
  refine wp_region_quiet_tailB 8 (by kernel_rfl) (by kernel_rfl) ?_
  simp only [List.take_succ_cons, List.take_zero, List.drop_succ_cons, List.drop_zero]
  iterate 8 (go_big_quiet_step ((go_at_call 51; with_reducible exact Calls.quiet_b (.mono (R.out _) fun _ _ ⟨he, hw⟩ => ⟨he, hw ▸ Below.refl _ _⟩))))
  refine wpQuiet_nil ?_
  intro m
  go_wp2_with fail
  refine (must_any m.wr t T st b (H.out.below m.below)).mono ?_
  rintro e w1 ⟨rfl, ht, hk⟩
  have HB := Lib.hid (below_kept m.below hk)
  have HT := Lib.hid ht
  clear hk R ht hb
  cases b
  · go_wp2_with fail
    go_end0
    rw [E0.out (by trivial)]
    exact ⟨rfl, HT.out, HB.out⟩
  · cases st with
    | none =>
      go_wp2_with fail
      go_end0
      exact ⟨rfl, HT.out, HB.out⟩
    | some s =>
      have hcv := conv_bytes (HV.out.kept HB.out HNE.out)
      have P := Lib.hid (put_any w1 t T (some s) ⟨l.toArray⟩ (by have := HLL.out; exact this) HT.out)
      simp only [Bool.true_and, Option.isSome_some]
      go_wp2_with (simp only [hcv])
      refine P.out.mono ?_
      rintro e w2 ⟨rfl, ht, hk⟩
      have HT2 := Lib.hid ht
      have HK2 := Lib.hid (HB.out.trans hk)
      clear hcv ht hk P
      go_wp2_with fail
      go_end0
      exact ⟨rfl, HT2.out, HK2.out⟩
set_option maxHeartbeats 1000000 in
theorem inRaw_any (w : World) (t : Nat) (T : TypeId) (st : Option ByteArray) (n : Int) (h : Tape w t T st) :
    Calls Try.prog 22 #[.pointer (some ⟨t, 0, none⟩), .int .i64 n] w fun e w' => ∃ v, e = .returned v ∧ BSrc w' v (takeM st n).1.data.toList ∧ Tape w' t T (takeM st n).2 ∧ Kept1 t w w' := by
  have N := Lib.hid (take_any w t T st n h)
  have hlt := h.lt
  clear h
  generalize takeM st n = r at *
  go_enter Try.func22, Try.ntmps22
  go_wp2_with fail
  refine N.out.mono ?_
  rintro e w2 ⟨rfl, ht, hk⟩
  obtain ⟨v, w3, hcv, hsrc, hb, _⟩ := conv_string w2 r.1
  have HT := Lib.hid (ht.below hb)
  have HK := Lib.hid (hk.trans (Kept1.of_below hb))
  have HS := Lib.hid hsrc
  clear ht hk N hb hsrc
  go_wp2_with fail
  go_ret
  exact ⟨v, rfl, HS.out, HT.out, HK.out⟩
set_option maxHeartbeats 1000000 in
theorem end_any (w : World) (t : Nat) (T : TypeId) (st : Option ByteArray) (h : Tape w t T st) :
    Calls Try.prog 11 #[.pointer (some ⟨t, 0, none⟩)] w fun e w' => ∃ v, e = .returned (.tuple #[v, .int .i64 (if st.isSome then 0 else 3)]) ∧ BSrc w' v (tapeB st).data.toList ∧ Below w.heap.size w w' := by
  have c0 := h.c0
  have c1 := h.c1
  have hlt := h.lt
  clear h
  go_enter Try.func11, Try.ntmps11
  cases st with
  | none =>
    go_wp2_with fail
    exact bodyPost_ret (v := .tuple #[.slice none 0 0, .int .i64 3]) (by simp [results, Try.results11, go_sem]) rfl ⟨_, rfl, .inl ⟨_, _, rfl, rfl⟩, Below.refl _ _⟩
  | some s =>
    obtain ⟨v, w3, hcv, hsrc, hb, _⟩ := conv_string w (tapeB (some s))
    have HS := Lib.hid hsrc
    have HB := Lib.hid hb
    clear hsrc hb
    go_wp2_with (simp only [hcv])
    exact bodyPost_ret (v := .tuple #[v, .int .i64 0]) (by simp [results, Try.results11, go_sem]) rfl ⟨_, rfl, HS.out, HB.out⟩
set_option maxHeartbeats 1000000 in
theorem read_any (w : World) (v : Value) (l : List UInt8) (hl : l.length ≤ maxLen) (hv : BSrc w v l) :
    Calls Try.prog 13 #[v] w fun e w' => e = .returned (.pointer (some ⟨w.heap.size, 0, none⟩)) ∧ Tape w' w.heap.size 69 (some ⟨l.toArray⟩) ∧ Below w.heap.size w w' := by
  have hcv := conv_bytes hv
  have HLL := Lib.hid hl
  obtain ⟨ad, cp, rfl⟩ := hv.shape
  clear hv hl
  go_enter Try.func13, Try.ntmps13
  go_wp2_with (simp only [hcv])
  go_ret
  exact ⟨rfl, ⟨heap_alloc_new _ _, fun s e => by cases e; have := HLL.out; exact this⟩, (Below.refl _ _).alloc (Nat.le_refl _) _⟩
end Go.Proofs.Ytebadbnlihbecaa
