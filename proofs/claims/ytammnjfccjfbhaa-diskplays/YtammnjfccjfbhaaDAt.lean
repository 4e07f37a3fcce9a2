/- A disk in memory; its small calls. -/
import Derived.Test.YtammnjfccjfbhaaDMath
import Derived.Test.YtammnjfccjfbhaaProg
import Derived.Deep.Upon
namespace Go.Proofs.Ytammnjfccjfbhaa
open Go.RowKit

/-- the disk's own cells -/
def DSt.cells (s : DSt) (gs : Nat) (v : Value) : List Value := [.slice (some ⟨gs, 0, none⟩) s.S.length s.S.length, v, .int .i64 s.fuse, .bool s.gone]
/-- the blocks that are a disk's -/
def foot (d gs : Nat) (v : Value) (k : Nat) : Prop := k = d ∨ k = gs ∨ v.ownBlock = some k
/-- a disk lies in block d, all of it from N on -/
structure DAt (w : World) (N d gs : Nat) (v : Value) (s : DSt) : Prop where
  blk : w.heap[d]? = some (.cells (s.cells gs v).toArray 61 (0, 0))
  sec : w.heap[gs]? = some (.cells (secsC s.S).toArray 64 (0, 0))
  wait : w.ownsRow N 66 129 v s.ws.length (cellsW s.ws)
  ok : s.Ok
  ne : gs ≠ d
  nd : v.ownBlock ≠ some d
  ng : v.ownBlock ≠ some gs
  dN : N ≤ d
  gN : N ≤ gs
theorem DAt.lt {w : World} {N d gs : Nat} {v : Value} {s : DSt} (h : DAt w N d gs v s) : d < w.heap.size ∧ gs < w.heap.size := ⟨lt_block h.blk, lt_block h.sec⟩
theorem DAt.footN {w : World} {N d gs : Nat} {v : Value} {s : DSt} (h : DAt w N d gs v s) {k : Nat} (hk : foot d gs v k) : N ≤ k ∧ k < w.heap.size := by
  rcases hk with rfl | rfl | hk
  · exact ⟨h.dN, h.lt.1⟩
  · exact ⟨h.gN, h.lt.2⟩
  · exact h.wait.lt k hk
theorem own_same {w w' : World} {N k n : Nat} {t : TypeId} {v : Value} {C : List Value} (h : w.ownsRow N t k v n C) (hb : ∀ g, v.ownBlock = some g → w'.heap[g]? = w.heap[g]?) : w'.ownsRow N t k v n C := by
  obtain ⟨h1, h2⟩ := h
  refine ⟨h1, ?_⟩
  rcases h2 with h2 | ⟨g, cap, cur, e, hb', hg, hc, hm, hsz, ht⟩
  · exact .inl h2
  · subst e; exact .inr ⟨g, cap, cur, rfl, hb', (hb g rfl).trans hg, hc, hm, hsz, ht⟩
theorem DAt.same {w w' : World} {N d gs : Nat} {v : Value} {s : DSt} (h : DAt w N d gs v s) (hk : ∀ k, foot d gs v k → w'.heap[k]? = w.heap[k]?) : DAt w' N d gs v s :=
  ⟨(hk _ (.inl rfl)).trans h.blk, (hk _ (.inr (.inl rfl))).trans h.sec, own_same h.wait fun g hg => hk g (.inr (.inr hg)), h.ok, h.ne, h.nd, h.ng, h.dN, h.gN⟩
theorem DAt.below {w w' : World} {N d gs : Nat} {v : Value} {s : DSt} (h : DAt w N d gs v s) (hb : Below w.heap.size w w') : DAt w' N d gs v s :=
  h.same fun k hk => hb.block k (h.footN hk).2
theorem DAt.kept {F : Nat → Prop} {w w' : World} {N d gs : Nat} {v : Value} {s : DSt} (h : DAt w N d gs v s) (hk : KeptF F w w') (hF : ∀ k, foot d gs v k → ¬ F k) : DAt w' N d gs v s :=
  h.same fun k hf => hk.block k (h.footN hf).2 (hF k hf)
/-- the disk's own cells, one by one -/
theorem DAt.cell {w : World} {N d gs : Nat} {v : Value} {s : DSt} (h : DAt w N d gs v s) :
    w.cell? ⟨d, 0, none⟩ = some (.slice (some ⟨gs, 0, none⟩) s.S.length s.S.length) ∧ w.cell? ⟨d, 1, none⟩ = some v ∧ w.cell? ⟨d, 2, none⟩ = some (.int .i64 s.fuse) ∧ w.cell? ⟨d, 3, none⟩ = some (.bool s.gone) :=
  ⟨by rw [cell_block h.blk]; rfl, by rw [cell_block h.blk]; rfl, by rw [cell_block h.blk]; rfl, by rw [cell_block h.blk]; rfl⟩
theorem DAt.frozen {w : World} {N d gs : Nat} {v : Value} {s : DSt} (h : DAt w N d gs v s) (k : Nat) : w.frozen? ⟨d, k, none⟩ = false := frozen_of_row w d k _ _ h.blk
/-- the disk's own cells are written anew -/
theorem DAt.turn {w w' : World} {N d gs : Nat} {v v' : Value} {s s' : DSt} (h : DAt w N d gs v s) (hk : Kept1 d w w') (hb : w'.heap[d]? = some (.cells (s'.cells gs v').toArray 61 (0, 0))) (hS : s'.S = s.S)
    (hw : (v' = v ∧ s'.ws = s.ws) ∨ (v' = .slice none 0 0 ∧ s'.ws = [])) : DAt w' N d gs v' s' := by
  have hsec : w'.heap[gs]? = some (.cells (secsC s'.S).toArray 64 (0, 0)) := by rw [hS]; exact (hk.block gs h.lt.2 h.ne).trans h.sec
  rcases hw with ⟨rfl, hw⟩ | ⟨rfl, hw⟩
  · refine ⟨hb, hsec, ?_, ⟨by rw [hS]; exact h.ok.len, by rw [hS]; exact h.ok.lim, by rw [hS, hw]; exact h.ok.wok⟩, h.ne, h.nd, h.ng, h.dN, h.gN⟩
    rw [hw]
    refine own_same h.wait fun g hg => hk.block g (h.wait.lt g hg).2 (fun e => h.nd (by rw [hg, e]))
  · refine ⟨hb, hsec, ?_, ⟨by rw [hS]; exact h.ok.len, by rw [hS]; exact h.ok.lim, by rw [hw]; simp⟩, h.ne, (fun e => by cases e), (fun e => by cases e), h.dN, h.gN⟩
    rw [hw]; exact World.ownsRow_nil _ _ _ _

theorem waits_any (w : World) (N d gs : Nat) (v : Value) (s : DSt) (h : DAt w N d gs v s) :
    Calls Try.prog 18 #[.pointer (some ⟨d, 0, none⟩)] w fun e w' => e = .returned (.int .i64 (s.ws.length : Int)) ∧ w = w' := by
  obtain ⟨c0, c1, c2, c3⟩ := h.cell
  obtain ⟨ad, cp, rfl⟩ : ∃ ad cp, v = .slice ad s.ws.length cp := by
    rcases h.wait.2 with ⟨rfl, hn⟩ | ⟨g, cap, cur, rfl, _⟩
    · exact ⟨none, 0, by rw [hn]⟩
    · exact ⟨_, _, rfl⟩
  clear h c0 c2 c3
  go_enter Try.func18, Try.ntmps18
  go_wp2_with fail
  go_ret
  exact ⟨rfl, rfl⟩
theorem sectors_any (w : World) (N d gs : Nat) (v : Value) (s : DSt) (h : DAt w N d gs v s) :
    Calls Try.prog 20 #[.pointer (some ⟨d, 0, none⟩)] w fun e w' => e = .returned (.int .i64 (s.S.length : Int)) ∧ w = w' := by
  obtain ⟨c0, c1, c2, c3⟩ := h.cell
  clear h c1 c2 c3
  go_enter Try.func20, Try.ntmps20
  go_wp2_with fail
  go_ret
  exact ⟨rfl, rfl⟩
theorem has_yes (w : World) (N d gs : Nat) (v : Value) (s : DSt) (h : DAt w N d gs v s) (i : Nat) (hi : i < s.S.length) :
    Calls Try.prog 23 #[.pointer (some ⟨d, 0, none⟩), .int .i64 (i : Int)] w fun e w' => e = .returned (.bool true) ∧ w = w' := by
  obtain ⟨c0, c1, c2, c3⟩ := h.cell
  have h1 : decide ((0 : Int) ≤ (i : Int)) = true := by simp
  have h2 : decide ((i : Int) < (s.S.length : Int)) = true := by simp; omega
  have h3 : decide (i < s.S.length) = true := by simp; omega
  clear h c1 c2 c3
  go_enter Try.func23, Try.ntmps23
  go_wp2_with fail
  go_ret
  exact ⟨rfl, rfl⟩
theorem has_no (w : World) (N d gs : Nat) (v : Value) (s : DSt) (h : DAt w N d gs v s) (i : Int) (hi : ¬ (0 ≤ i ∧ i < s.S.length)) :
    Calls Try.prog 23 #[.pointer (some ⟨d, 0, none⟩), .int .i64 i] w fun e w' => e = .returned (.bool false) ∧ w = w' := by
  obtain ⟨c0, c1, c2, c3⟩ := h.cell
  clear h c1 c2 c3
  by_cases h0 : 0 ≤ i
  · have h1 : decide ((0 : Int) ≤ i) = true := by simpa using h0
    have h2 : decide (i < (s.S.length : Int)) = false := by simp; omega
    go_enter Try.func23, Try.ntmps23
    go_wp2_with fail
    go_ret
    exact ⟨rfl, rfl⟩
  · have h1 : decide ((0 : Int) ≤ i) = false := by simpa using h0
    go_enter Try.func23, Try.ntmps23
    go_wp2_with fail
    go_ret
    exact ⟨rfl, rfl⟩

theorem heap_set {w : World} {d : Nat} {L : List Value} {t : TypeId} (h : w.heap[d]? = some (.cells L.toArray t (0, 0))) (k : Nat) (x : Value) : (w.setCell ⟨d, k, none⟩ x).heap[d]? = some (.cells (L.set k x).toArray t (0, 0)) := by
  rw [heap_setCell_same w d k _ t _ h]; simp
theorem flush_gone (w : World) (N d gs : Nat) (v : Value) (s : DSt) (h : DAt w N d gs v s) (hg : s.gone = true) :
    Calls Try.prog 14 #[.pointer (some ⟨d, 0, none⟩)] w fun e w' => e = .returned (.int .i64 5) ∧ w = w' := by
  obtain ⟨c0, c1, c2, c3⟩ := h.cell
  rw [hg] at c3
  clear h c0 c1 c2 hg
  go_enter Try.func14, Try.ntmps14
  go_wp2_with fail
  go_ret
  exact ⟨rfl, rfl⟩
theorem flush_any (w : World) (N d gs : Nat) (v : Value) (s : DSt) (h : DAt w N d gs v s) (hg : s.gone = false) :
    Calls Try.prog 14 #[.pointer (some ⟨d, 0, none⟩)] w fun e w' => e = .returned (.int .i64 0) ∧ DAt w' N d gs (.slice none 0 0) { s with ws := [] } ∧ Kept1 d w w' := by
  obtain ⟨c0, c1, c2, c3⟩ := h.cell
  have f1 := h.frozen 1
  rw [hg] at c3
  have hk : Kept1 d w (w.setCell ⟨d, 1, none⟩ (.slice none 0 0)) := (Kept1.refl d w).setCell _ (.inl rfl) _
  have hd := h.turn (v' := .slice none 0 0) (s' := { s with ws := [] }) hk (heap_set h.blk 1 _) rfl (.inr ⟨rfl, rfl⟩)
  have Hk := Lib.hid hk
  have Hd := Lib.hid hd
  clear h c0 c2 hg hk hd
  go_enter Try.func14, Try.ntmps14
  go_wp2_with fail
  go_ret
  exact ⟨rfl, Hd.out, Hk.out⟩
end Go.Proofs.Ytammnjfccjfbhaa
