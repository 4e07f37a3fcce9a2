/- Both disks side by side, call by call. -/
import Derived.Test.YtammnjfccjfbhaaDStep
namespace Go.Proofs.Ytammnjfccjfbhaa
open Go.RowKit

/-- both disks, behind so many calls -/
structure After (w1 : World) (k : Nat) (w : World) (v : Value) (s : DSt) (t : RSt) : Prop where
  dat : DAt w w1.heap.size (w1.heap.size + 1) w1.heap.size v s
  rat : ∃ rv, RAt w (w1.heap.size + 2) (w1.heap.size + 2) rv t ∧ ∀ g, foot (w1.heap.size + 1) w1.heap.size v g → ¬ footR (w1.heap.size + 2) rv g
  rel : RelD s t
  small : Small k s t
  below : Below w1.heap.size w1 w
theorem After.on {w1 w w' : World} {k : Nat} {v : Value} {s : DSt} {t : RSt} (h : After w1 k w v s t) (hb : Below w.heap.size w w') : After w1 k w' v s t := by
  obtain ⟨rv, hr, hs⟩ := h.rat
  exact ⟨h.dat.below hb, ⟨rv, hr.below hb, hs⟩, h.rel, h.small, h.below.trans (hb.mono h.below.size)⟩
theorem After.waits {w1 w : World} {k : Nat} {v : Value} {s : DSt} {t : RSt} (h : After w1 k w v s t) : Calls Try.prog 18 #[.pointer (some ⟨w1.heap.size + 1, 0, none⟩)] w fun e w' => e = .returned (.int .i64 (s.ws.length : Int)) ∧ w = w' := waits_any w _ _ _ _ _ h.dat
theorem After.refwaits {w1 w : World} {k : Nat} {v : Value} {s : DSt} {t : RSt} (h : After w1 k w v s t) (hk : k ≤ 1000) : Calls Try.prog 19 #[.pointer (some ⟨w1.heap.size + 2, 0, none⟩)] w fun e w' => e = .returned (.int .i64 (s.ws.length : Int)) ∧ w = w' := by
  obtain ⟨rv, hr, _⟩ := h.rat
  have := refwaits_any w _ _ _ _ hr (by have := h.small.L; omega)
  rwa [h.rel.waits] at this
theorem After.sectors {w1 w : World} {k : Nat} {v : Value} {s : DSt} {t : RSt} (h : After w1 k w v s t) : Calls Try.prog 20 #[.pointer (some ⟨w1.heap.size + 1, 0, none⟩)] w fun e w' => e = .returned (.int .i64 (s.S.length : Int)) ∧ w = w' := sectors_any w _ _ _ _ _ h.dat
theorem After.n {w1 w : World} {k : Nat} {v : Value} {s : DSt} {t : RSt} (h : After w1 k w v s t) : w.cell? ⟨w1.heap.size + 2, 0, none⟩ = some (.int .i64 (s.S.length : Int)) := by
  obtain ⟨rv, hr, _⟩ := h.rat
  rw [← h.rel.n]; exact hr.cell.1
theorem OpIn.belowN {w w' : World} {x : OpR} {N : Nat} (h : OpIn w x) (hb : Below N w w') (h1 : ∀ g o n c, Value.slice x.ba x.l.length x.bc = .slice (some ⟨g, o, none⟩) n c → x.l ≠ [] → g < N) (h2 : x.bs ≠ [] → x.pg < N) : OpIn w' x :=
  ⟨h.src.same fun g o n c e hn => hb.block g (h1 g o n c e hn), h.pad, fun j hj => (hb.cell (by exact h2 (by intro e; rw [e] at hj; cases hj))).trans (h.pcell j hj)⟩
/-- a call that may be played -/
structure Playable (N : Nat) (w : World) (x : OpR) : Prop where
  op : OpIn w x
  low : ∀ g o n c, Value.slice x.ba x.l.length x.bc = .slice (some ⟨g, o, none⟩) n c → x.l ≠ [] → g < N
  lowp : x.bs ≠ [] → x.pg < N
  n : x.n ≤ 9223372036854775807
  bs : x.bs.length ≤ 300
theorem Playable.on {N : Nat} {w w' : World} {x : OpR} (h : Playable N w x) (hb : Below N w w') : Playable N w' x := ⟨h.op.belowN hb h.low h.lowp, h.low, h.lowp, h.n, h.bs⟩
/-- the document's call behind the program's -/
theorem after_any {w1 W w5 : World} {k : Nat} {v v' : Value} {s : DSt} {t : RSt} {x : OpR} (h : After w1 k W v s t) (hx : Playable w1.heap.size W x) (hk : k ≤ 201) (hw : Wrote W w1.heap.size (w1.heap.size + 1) w1.heap.size v (progDo s x).2.2 v' w5) :
    Calls Try.prog 17 #[.pointer (some ⟨w1.heap.size + 2, 0, none⟩), x.val] w5 fun e w6 => e = .returned (.tuple #[.string ⟨(progDo s x).1.toArray⟩, .int .i64 (progDo s x).2.1]) ∧ After w1 (k + 1) w6 v' (progDo s x).2.2 (refDo t x).2.2 := by
  obtain ⟨rv, hr, hsep⟩ := h.rat
  have hb5 : Below w1.heap.size W w5 := KeptF.mono (Below.refl _ _) hw.kept (by have := h.below.size; omega) fun _ hF => (h.dat.footN hF).1
  have hr5 := hr.kept hw.kept fun g hg hF => hsep g hF hg
  have hx5 := hx.on hb5
  obtain ⟨e1, e2, hrel⟩ := do_same h.rel x
  refine (do_any w5 _ _ rv t hr5 x hx5.op (fun g o n c e hn => by have := hx5.low g o n c e hn; omega) (by have := h.small.L; omega) (by have := hx.bs; omega) h.small.g).mono ?_
  rintro e w6 ⟨rfl, rv', hd⟩
  have hsep5 : ∀ g, foot (w1.heap.size + 1) w1.heap.size v' g → ¬ footR (w1.heap.size + 2) rv g := fun g hg hF => by
    rcases hg with hg | hg | hg
    · exact hsep g (.inl hg) hF
    · exact hsep g (.inr (.inl hg)) hF
    · rcases hw.own g hg with hg | hg
      · exact hsep g (.inr (.inr hg)) hF
      · have := (hr.footN hF).2
        omega
  refine ⟨by rw [e1, e2], ⟨hw.at'.kept hd.kept hsep5, ⟨rv', hd.at', fun g hg hF => ?_⟩, hrel, h.small.step x hx.n, ?_⟩⟩
  · rcases hF with hF | hF
    · exact hsep5 g hg (.inl hF)
    · rcases hd.own g hF with hF | hF
      · exact hsep5 g hg (.inr hF)
      · have := (hw.at'.footN hg).2
        omega
  · refine KeptF.mono (h.below.trans hb5) hd.kept (Nat.le_refl _) fun g hF => ?_
    have := (hr5.footN hF).1
    omega
end Go.Proofs.Ytammnjfccjfbhaa
