/- A sector read off bytes: its head's numbers, and what stands behind it; A disk in memory; its small calls; The fuse. -/
import Derived.Test.YtlhfdlfbnnfjjaaDoorJ21
import Derived.Test.YtlhfdlfbnnfjjaaDoorProg
import Derived.Deep.Upon
namespace Go.Proofs.YtlhfdlfbnnfjjaaDoor
open Go.RowKit

/-- what a head is read as -/
def hdM (st : Option ByteArray) : Hd × Option ByteArray :=
  (⟨(numM st 4).1, (numM (numM st 4).2 4).1, (numM (numM (numM st 4).2 4).2 1).1, (numM (numM (numM (numM st 4).2 4).2 1).2 1).1, (numM (numM (numM (numM (numM st 4).2 4).2 1).2 1).2 2).1⟩,
    (numM (numM (numM (numM (numM st 4).2 4).2 1).2 1).2 2).2)
set_option maxRecDepth 100000 in
theorem cell_set_kept {w : World} {g : Nat} {L : List Value} {t : TypeId} (h : w.heap[g]? = some (.cells L.toArray t (0, 0))) (k : Nat) (x : Value) : (w.setCell ⟨g, k, none⟩ x).heap[g]? = some (.cells (L.set k x).toArray t (0, 0)) := by
  rw [heap_setCell_same w g k _ t _ h]; simp
set_option maxRecDepth 100000 in
set_option maxHeartbeats 1000000 in
theorem hread_any (w : World) (t g : Nat) (st : Option ByteArray) (h : Tape w t 112 st) (a0 a1 a2 a3 a4 v : Value) (hg : w.heap[g]? = some (.cells [a0, a1, a2, a3, a4, v].toArray 74 (0, 0))) (hne : g ≠ t) :
    Calls Tryd.prog 43 #[.pointer (some ⟨g, 0, none⟩), .pointer (some ⟨t, 0, none⟩)] w fun e w' => e = .returned (.tuple #[]) ∧ Tape w' t 112 (hdM st).2 ∧
      w'.heap[g]? = some (.cells ((hdM st).1.cells ++ [v]).toArray 74 (0, 0)) ∧ KeptF (fun k => k = t ∨ k = g) w w' := by
  have HK0 := Lib.hid (KeptF.refl (fun k => k = t ∨ k = g) w)
  have HT0 := Lib.hid h
  have HG0 := Lib.hid hg
  unfold hdM Hd.cells
  clear h hg
  obtain ⟨⟨n1, s1⟩, e1⟩ : ∃ r, numM st 4 = r := ⟨_, rfl⟩
  rw [e1]
  dsimp only
  have E1 := Lib.hid e1
  clear e1
  obtain ⟨⟨n2, s2⟩, e2⟩ : ∃ r, numM s1 4 = r := ⟨_, rfl⟩
  rw [e2]
  dsimp only
  have E2 := Lib.hid e2
  clear e2
  obtain ⟨⟨n3, s3⟩, e3⟩ : ∃ r, numM s2 1 = r := ⟨_, rfl⟩
  rw [e3]
  dsimp only
  have E3 := Lib.hid e3
  clear e3
  obtain ⟨⟨n4, s4⟩, e4⟩ : ∃ r, numM s3 1 = r := ⟨_, rfl⟩
  rw [e4]
  dsimp only
  have E4 := Lib.hid e4
  clear e4
  obtain ⟨⟨n5, s5⟩, e5⟩ : ∃ r, numM s4 2 = r := ⟨_, rfl⟩
  rw [e5]
  dsimp only
  have E5 := Lib.hid e5
  clear e5
  go_enter Tryd.func43, Tryd.ntmps43
  have N0 := Lib.hid (inU32_any w t 112 st HT0.out)
  rw [E1.out] at N0
  dsimp only at N0
  go_wp2_with fail
  refine N0.out.mono ?_
  rintro e v1 ⟨rfl, ht1, hk1⟩
  have g1 := (hk1.block _ (lt_block HG0.out) hne).trans HG0.out
  have c1 := cell_in (L := [a0, a1, a2, a3, a4, v]) g1 0 _ rfl
  have f1 := frozen_of_row v1 g 0 _ _ g1
  have HG1 := Lib.hid (cell_set_kept g1 0 (.int .i64 (n1 : Int)))
  have hk1' : Kept1 g v1 (v1.setCell ⟨g, 0, none⟩ (.int .i64 (n1 : Int))) := (Kept1.refl g v1).setCell ⟨g, 0, none⟩ (Or.inl rfl) _
  have HT1 := Lib.hid (ht1.on (hk1'.block t ht1.lt (fun e => hne e.symm)))
  have HK1 := Lib.hid ((HK0.out.trans (KeptF.of_kept1 hk1 fun _ => .inl rfl) fun _ _ h => h).trans (KeptF.of_kept1 hk1' fun _ => .inr rfl) fun _ _ h => h)
  clear ht1 hk1 hk1' g1 N0 HT0 HG0 HK0
  have N1 := Lib.hid (inU32_any (v1.setCell ⟨g, 0, none⟩ (.int .i64 (n1 : Int))) t 112 s1 HT1.out)
  rw [E2.out] at N1
  dsimp only at N1
  go_wp2_with fail
  refine N1.out.mono ?_
  rintro e v2 ⟨rfl, ht2, hk2⟩
  have g2 := (hk2.block _ (lt_block HG1.out) hne).trans HG1.out
  have c2 := cell_in (L := [.int .i64 (n1 : Int), a1, a2, a3, a4, v]) g2 1 _ rfl
  have f2 := frozen_of_row v2 g 1 _ _ g2
  have HG2 := Lib.hid (cell_set_kept g2 1 (.int .i64 (n2 : Int)))
  have hk2' : Kept1 g v2 (v2.setCell ⟨g, 1, none⟩ (.int .i64 (n2 : Int))) := (Kept1.refl g v2).setCell ⟨g, 1, none⟩ (Or.inl rfl) _
  have HT2 := Lib.hid (ht2.on (hk2'.block t ht2.lt (fun e => hne e.symm)))
  have HK2 := Lib.hid ((HK1.out.trans (KeptF.of_kept1 hk2 fun _ => .inl rfl) fun _ _ h => h).trans (KeptF.of_kept1 hk2' fun _ => .inr rfl) fun _ _ h => h)
  clear ht2 hk2 hk2' g2 N1 HT1 HG1 HK1
  have N2 := Lib.hid (inU8_any (v2.setCell ⟨g, 1, none⟩ (.int .i64 (n2 : Int))) t 112 s2 HT2.out)
  rw [E3.out] at N2
  dsimp only at N2
  go_wp2_with fail
  refine N2.out.mono ?_
  rintro e v3 ⟨rfl, ht3, hk3⟩
  have g3 := (hk3.block _ (lt_block HG2.out) hne).trans HG2.out
  have c3 := cell_in (L := [.int .i64 (n1 : Int), .int .i64 (n2 : Int), a2, a3, a4, v]) g3 2 _ rfl
  have f3 := frozen_of_row v3 g 2 _ _ g3
  have HG3 := Lib.hid (cell_set_kept g3 2 (.int .i64 (n3 : Int)))
  have hk3' : Kept1 g v3 (v3.setCell ⟨g, 2, none⟩ (.int .i64 (n3 : Int))) := (Kept1.refl g v3).setCell ⟨g, 2, none⟩ (Or.inl rfl) _
  have HT3 := Lib.hid (ht3.on (hk3'.block t ht3.lt (fun e => hne e.symm)))
  have HK3 := Lib.hid ((HK2.out.trans (KeptF.of_kept1 hk3 fun _ => .inl rfl) fun _ _ h => h).trans (KeptF.of_kept1 hk3' fun _ => .inr rfl) fun _ _ h => h)
  clear ht3 hk3 hk3' g3 N2 HT2 HG2 HK2
  have N3 := Lib.hid (inU8_any (v3.setCell ⟨g, 2, none⟩ (.int .i64 (n3 : Int))) t 112 s3 HT3.out)
  rw [E4.out] at N3
  dsimp only at N3
  go_wp2_with fail
  refine N3.out.mono ?_
  rintro e v4 ⟨rfl, ht4, hk4⟩
  have g4 := (hk4.block _ (lt_block HG3.out) hne).trans HG3.out
  have c4 := cell_in (L := [.int .i64 (n1 : Int), .int .i64 (n2 : Int), .int .i64 (n3 : Int), a3, a4, v]) g4 3 _ rfl
  have f4 := frozen_of_row v4 g 3 _ _ g4
  have HG4 := Lib.hid (cell_set_kept g4 3 (.int .i64 (n4 : Int)))
  have hk4' : Kept1 g v4 (v4.setCell ⟨g, 3, none⟩ (.int .i64 (n4 : Int))) := (Kept1.refl g v4).setCell ⟨g, 3, none⟩ (Or.inl rfl) _
  have HT4 := Lib.hid (ht4.on (hk4'.block t ht4.lt (fun e => hne e.symm)))
  have HK4 := Lib.hid ((HK3.out.trans (KeptF.of_kept1 hk4 fun _ => .inl rfl) fun _ _ h => h).trans (KeptF.of_kept1 hk4' fun _ => .inr rfl) fun _ _ h => h)
  clear ht4 hk4 hk4' g4 N3 HT3 HG3 HK3
  have N4 := Lib.hid (inU16_any (v4.setCell ⟨g, 3, none⟩ (.int .i64 (n4 : Int))) t 112 s4 HT4.out)
  rw [E5.out] at N4
  dsimp only at N4
  go_wp2_with fail
  refine N4.out.mono ?_
  rintro e v5 ⟨rfl, ht5, hk5⟩
  have g5 := (hk5.block _ (lt_block HG4.out) hne).trans HG4.out
  have c5 := cell_in (L := [.int .i64 (n1 : Int), .int .i64 (n2 : Int), .int .i64 (n3 : Int), .int .i64 (n4 : Int), a4, v]) g5 4 _ rfl
  have f5 := frozen_of_row v5 g 4 _ _ g5
  have HG5 := Lib.hid (cell_set_kept g5 4 (.int .i64 (n5 : Int)))
  have hk5' : Kept1 g v5 (v5.setCell ⟨g, 4, none⟩ (.int .i64 (n5 : Int))) := (Kept1.refl g v5).setCell ⟨g, 4, none⟩ (Or.inl rfl) _
  have HT5 := Lib.hid (ht5.on (hk5'.block t ht5.lt (fun e => hne e.symm)))
  have HK5 := Lib.hid ((HK4.out.trans (KeptF.of_kept1 hk5 fun _ => .inl rfl) fun _ _ h => h).trans (KeptF.of_kept1 hk5' fun _ => .inr rfl) fun _ _ h => h)
  clear ht5 hk5 hk5' g5 N4 HT4 HG4 HK4
  go_wp2
  go_end0
  exact ⟨rfl, HT5.out, HG5.out, HK5.out⟩
end Go.Proofs.YtlhfdlfbnnfjjaaDoor
namespace Go.Proofs.YtlhfdlfbnnfjjaaDoor
open Go.RowKit

/-- the disk's own cells -/
def DSt.cells (s : DSt) (gs : Nat) (v : Value) : List Value := [.slice (some ⟨gs, 0, none⟩) s.S.length s.S.length, v, .int .i64 s.fuse, .bool s.gone]
/-- the blocks that are a disk's -/
def foot (d gs : Nat) (v : Value) (k : Nat) : Prop := k = d ∨ k = gs ∨ v.ownBlock = some k
/-- a disk lies in block d, all of it from N on -/
structure DAt (w : World) (N d gs : Nat) (v : Value) (s : DSt) : Prop where
  blk : w.heap[d]? = some (.cells (s.cells gs v).toArray 54 (0, 0))
  sec : w.heap[gs]? = some (.cells (secsC s.S).toArray 86 (0, 0))
  wait : w.ownsRow N 96 129 v s.ws.length (cellsW s.ws)
  ok : s.Ok
  ne : gs ≠ d
  nd : v.ownBlock ≠ some d
  ng : v.ownBlock ≠ some gs
  dN : N ≤ d
  gN : N ≤ gs
set_option maxRecDepth 100000 in
theorem DAt.lt {w : World} {N d gs : Nat} {v : Value} {s : DSt} (h : DAt w N d gs v s) : d < w.heap.size ∧ gs < w.heap.size := ⟨lt_block h.blk, lt_block h.sec⟩
set_option maxRecDepth 100000 in
theorem DAt.footN {w : World} {N d gs : Nat} {v : Value} {s : DSt} (h : DAt w N d gs v s) {k : Nat} (hk : foot d gs v k) : N ≤ k ∧ k < w.heap.size := by
  rcases hk with rfl | rfl | hk
  · exact ⟨h.dN, h.lt.1⟩
  · exact ⟨h.gN, h.lt.2⟩
  · exact h.wait.lt k hk
set_option maxRecDepth 100000 in
theorem own_same {w w' : World} {N k n : Nat} {t : TypeId} {v : Value} {C : List Value} (h : w.ownsRow N t k v n C) (hb : ∀ g, v.ownBlock = some g → w'.heap[g]? = w.heap[g]?) : w'.ownsRow N t k v n C := by
  obtain ⟨h1, h2⟩ := h
  refine ⟨h1, ?_⟩
  rcases h2 with h2 | ⟨g, cap, cur, e, hb', hg, hc, hm, hsz, ht⟩
  · exact .inl h2
  · subst e; exact .inr ⟨g, cap, cur, rfl, hb', (hb g rfl).trans hg, hc, hm, hsz, ht⟩
set_option maxRecDepth 100000 in
theorem DAt.same {w w' : World} {N d gs : Nat} {v : Value} {s : DSt} (h : DAt w N d gs v s) (hk : ∀ k, foot d gs v k → w'.heap[k]? = w.heap[k]?) : DAt w' N d gs v s :=
  ⟨(hk _ (.inl rfl)).trans h.blk, (hk _ (.inr (.inl rfl))).trans h.sec, own_same h.wait fun g hg => hk g (.inr (.inr hg)), h.ok, h.ne, h.nd, h.ng, h.dN, h.gN⟩
set_option maxRecDepth 100000 in
theorem DAt.below {w w' : World} {N d gs : Nat} {v : Value} {s : DSt} (h : DAt w N d gs v s) (hb : Below w.heap.size w w') : DAt w' N d gs v s :=
  h.same fun k hk => hb.block k (h.footN hk).2
set_option maxRecDepth 100000 in
theorem DAt.kept {F : Nat → Prop} {w w' : World} {N d gs : Nat} {v : Value} {s : DSt} (h : DAt w N d gs v s) (hk : KeptF F w w') (hF : ∀ k, foot d gs v k → ¬ F k) : DAt w' N d gs v s :=
  h.same fun k hf => hk.block k (h.footN hf).2 (hF k hf)
set_option maxRecDepth 100000 in
/-- the disk's own cells, one by one -/
theorem DAt.cell {w : World} {N d gs : Nat} {v : Value} {s : DSt} (h : DAt w N d gs v s) :
    w.cell? ⟨d, 0, none⟩ = some (.slice (some ⟨gs, 0, none⟩) s.S.length s.S.length) ∧ w.cell? ⟨d, 1, none⟩ = some v ∧ w.cell? ⟨d, 2, none⟩ = some (.int .i64 s.fuse) ∧ w.cell? ⟨d, 3, none⟩ = some (.bool s.gone) :=
  ⟨by rw [cell_block h.blk]; rfl, by rw [cell_block h.blk]; rfl, by rw [cell_block h.blk]; rfl, by rw [cell_block h.blk]; rfl⟩
set_option maxRecDepth 100000 in
theorem DAt.frozen {w : World} {N d gs : Nat} {v : Value} {s : DSt} (h : DAt w N d gs v s) (k : Nat) : w.frozen? ⟨d, k, none⟩ = false := frozen_of_row w d k _ _ h.blk
set_option maxRecDepth 100000 in
/-- the disk's own cells are written anew -/
theorem DAt.turn {w w' : World} {N d gs : Nat} {v v' : Value} {s s' : DSt} (h : DAt w N d gs v s) (hk : Kept1 d w w') (hb : w'.heap[d]? = some (.cells (s'.cells gs v').toArray 54 (0, 0))) (hS : s'.S = s.S)
    (hw : (v' = v ∧ s'.ws = s.ws) ∨ (v' = .slice none 0 0 ∧ s'.ws = [])) : DAt w' N d gs v' s' := by
  have hsec : w'.heap[gs]? = some (.cells (secsC s'.S).toArray 86 (0, 0)) := by rw [hS]; exact (hk.block gs h.lt.2 h.ne).trans h.sec
  rcases hw with ⟨rfl, hw⟩ | ⟨rfl, hw⟩
  · refine ⟨hb, hsec, ?_, ⟨by rw [hS]; exact h.ok.len, by rw [hS]; exact h.ok.lim, by rw [hS, hw]; exact h.ok.wok⟩, h.ne, h.nd, h.ng, h.dN, h.gN⟩
    rw [hw]
    refine own_same h.wait fun g hg => hk.block g (h.wait.lt g hg).2 (fun e => h.nd (by rw [hg, e]))
  · refine ⟨hb, hsec, ?_, ⟨by rw [hS]; exact h.ok.len, by rw [hS]; exact h.ok.lim, by rw [hw]; simp⟩, h.ne, (fun e => by cases e), (fun e => by cases e), h.dN, h.gN⟩
    rw [hw]; exact World.ownsRow_nil _ _ _ _

set_option maxRecDepth 100000 in
theorem waits_any (w : World) (N d gs : Nat) (v : Value) (s : DSt) (h : DAt w N d gs v s) :
    Calls Tryd.prog 19 #[.pointer (some ⟨d, 0, none⟩)] w fun e w' => e = .returned (.int .i64 (s.ws.length : Int)) ∧ w = w' := by
  obtain ⟨c0, c1, c2, c3⟩ := h.cell
  obtain ⟨ad, cp, rfl⟩ : ∃ ad cp, v = .slice ad s.ws.length cp := by
    rcases h.wait.2 with ⟨rfl, hn⟩ | ⟨g, cap, cur, rfl, _⟩
    · exact ⟨none, 0, by rw [hn]⟩
    · exact ⟨_, _, rfl⟩
  clear h c0 c2 c3
  go_enter Tryd.func19, Tryd.ntmps19
  go_wp2_with fail
  go_ret
  exact ⟨rfl, rfl⟩
set_option maxRecDepth 100000 in
theorem sectors_any (w : World) (N d gs : Nat) (v : Value) (s : DSt) (h : DAt w N d gs v s) :
    Calls Tryd.prog 17 #[.pointer (some ⟨d, 0, none⟩)] w fun e w' => e = .returned (.int .i64 (s.S.length : Int)) ∧ w = w' := by
  obtain ⟨c0, c1, c2, c3⟩ := h.cell
  clear h c1 c2 c3
  go_enter Tryd.func17, Tryd.ntmps17
  go_wp2_with fail
  go_ret
  exact ⟨rfl, rfl⟩
set_option maxRecDepth 100000 in
theorem has_yes (w : World) (N d gs : Nat) (v : Value) (s : DSt) (h : DAt w N d gs v s) (i : Nat) (hi : i < s.S.length) :
    Calls Tryd.prog 39 #[.pointer (some ⟨d, 0, none⟩), .int .i64 (i : Int)] w fun e w' => e = .returned (.bool true) ∧ w = w' := by
  obtain ⟨c0, c1, c2, c3⟩ := h.cell
  have h1 : decide ((0 : Int) ≤ (i : Int)) = true := by simp
  have h2 : decide ((i : Int) < (s.S.length : Int)) = true := by simp; omega
  have h3 : decide (i < s.S.length) = true := by simp; omega
  clear h c1 c2 c3
  go_enter Tryd.func39, Tryd.ntmps39
  go_wp2_with fail
  go_ret
  exact ⟨rfl, rfl⟩
set_option maxRecDepth 100000 in
theorem has_no (w : World) (N d gs : Nat) (v : Value) (s : DSt) (h : DAt w N d gs v s) (i : Int) (hi : ¬ (0 ≤ i ∧ i < s.S.length)) :
    Calls Tryd.prog 39 #[.pointer (some ⟨d, 0, none⟩), .int .i64 i] w fun e w' => e = .returned (.bool false) ∧ w = w' := by
  obtain ⟨c0, c1, c2, c3⟩ := h.cell
  clear h c1 c2 c3
  by_cases h0 : 0 ≤ i
  · have h1 : decide ((0 : Int) ≤ i) = true := by simpa using h0
    have h2 : decide (i < (s.S.length : Int)) = false := by simp; omega
    go_enter Tryd.func39, Tryd.ntmps39
    go_wp2_with fail
    go_ret
    exact ⟨rfl, rfl⟩
  · have h1 : decide ((0 : Int) ≤ i) = false := by simpa using h0
    go_enter Tryd.func39, Tryd.ntmps39
    go_wp2_with fail
    go_ret
    exact ⟨rfl, rfl⟩

set_option maxRecDepth 100000 in
theorem heap_set {w : World} {d : Nat} {L : List Value} {t : TypeId} (h : w.heap[d]? = some (.cells L.toArray t (0, 0))) (k : Nat) (x : Value) : (w.setCell ⟨d, k, none⟩ x).heap[d]? = some (.cells (L.set k x).toArray t (0, 0)) := by
  rw [heap_setCell_same w d k _ t _ h]; simp
set_option maxRecDepth 100000 in
theorem flush_gone (w : World) (N d gs : Nat) (v : Value) (s : DSt) (h : DAt w N d gs v s) (hg : s.gone = true) :
    Calls Tryd.prog 36 #[.pointer (some ⟨d, 0, none⟩)] w fun e w' => e = .returned (.int .i64 5) ∧ w = w' := by
  obtain ⟨c0, c1, c2, c3⟩ := h.cell
  rw [hg] at c3
  clear h c0 c1 c2 hg
  go_enter Tryd.func36, Tryd.ntmps36
  go_wp2_with fail
  go_ret
  exact ⟨rfl, rfl⟩
set_option maxRecDepth 100000 in
theorem flush_any (w : World) (N d gs : Nat) (v : Value) (s : DSt) (h : DAt w N d gs v s) (hg : s.gone = false) :
    Calls Tryd.prog 36 #[.pointer (some ⟨d, 0, none⟩)] w fun e w' => e = .returned (.int .i64 0) ∧ DAt w' N d gs (.slice none 0 0) { s with ws := [] } ∧ Kept1 d w w' := by
  obtain ⟨c0, c1, c2, c3⟩ := h.cell
  have f1 := h.frozen 1
  rw [hg] at c3
  have hk : Kept1 d w (w.setCell ⟨d, 1, none⟩ (.slice none 0 0)) := (Kept1.refl d w).setCell _ (.inl rfl) _
  have hd := h.turn (v' := .slice none 0 0) (s' := { s with ws := [] }) hk (heap_set h.blk 1 _) rfl (.inr ⟨rfl, rfl⟩)
  have Hk := Lib.hid hk
  have Hd := Lib.hid hd
  clear h c0 c2 hg hk hd
  go_enter Tryd.func36, Tryd.ntmps36
  go_wp2_with fail
  go_ret
  exact ⟨rfl, Hd.out, Hk.out⟩
end Go.Proofs.YtlhfdlfbnnfjjaaDoor
namespace Go.Proofs.YtlhfdlfbnnfjjaaDoor
open Go.RowKit

/-- the state behind a write's burning -/
def DSt.burnt (s : DSt) : DSt := if 0 < s.fuse then { s with fuse := s.fuse - 1, gone := s.fuse - 1 == 0 } else s
set_option maxRecDepth 100000 in
theorem burn_any (w : World) (N d gs : Nat) (v : Value) (s : DSt) (h : DAt w N d gs v s) (hf : s.fuse ≤ 9223372036854775807) :
    Calls Tryd.prog 48 #[.pointer (some ⟨d, 0, none⟩)] w fun e w' => e = .returned (.tuple #[]) ∧ DAt w' N d gs v s.burnt ∧ Kept1 d w w' := by
  obtain ⟨c0, c1, c2, c3⟩ := h.cell
  have f2 := h.frozen 2
  have f3 := h.frozen 3
  unfold DSt.burnt
  by_cases hp : 0 < s.fuse
  · have hd : decide (0 < s.fuse) = true := by simpa using hp
    rw [if_pos hp]
    have key := h.turn (v' := v) (s' := { s with fuse := s.fuse - 1, gone := s.fuse - 1 == 0 }) (((Kept1.refl d w).setCell ⟨d, 2, none⟩ (.inl rfl) (.int .i64 (s.fuse - 1))).setCell ⟨d, 3, none⟩ (.inl rfl) (.bool (s.fuse - 1 == 0)))
      (heap_set (heap_set h.blk 2 _) 3 _) rfl (.inl ⟨rfl, rfl⟩)
    have Key := Lib.hid key
    clear h c0 c1 key
    generalize s.gone = go at *
    generalize s.fuse = fu at *
    go_enter Tryd.func48, Tryd.ntmps48
    go_wp2_with fail
    go_end0
    exact ⟨rfl, Key.out, ((Kept1.refl d w).setCell _ (.inl rfl) _).setCell _ (.inl rfl) _⟩
  · have hd : decide (0 < s.fuse) = false := by simpa using hp
    rw [if_neg hp]
    have Key := Lib.hid h
    clear h c0 c1
    go_enter Tryd.func48, Tryd.ntmps48
    go_wp2_with fail
    go_end0
    exact ⟨rfl, Key.out, Kept1.refl d w⟩
end Go.Proofs.YtlhfdlfbnnfjjaaDoor
