/- P1.1, P1.3: of all parts the fingerprint is that of their bytes, one behind the other: the walk of the law; parts that came in. -/
import Derived.Test.YtmegncaadglhmaaDoorFewP
import Derived.Test.YtmegncaadglhmaaDoorRefJoin
import Derived.Test.YtmegncaadglhmaaDoorRow
import Derived.Deep.Slices
namespace Go.Proofs.YtmegncaadglhmaaDoor
open Go.ChangeShapes Go.WideShapes Go.ChangeAt Go.RowKit Go.Deep

theorem fewS_joined : ∀ ps : List Part, fewS ps ≤ 9999 → (joined ps).length = fewS ps
  | [], _ => rfl
  | p :: ps, h => by
    have e : fewS (p :: ps) = min p.l.length 10000 + fewS ps := by simp [fewS]
    rw [e] at h ⊢
    have ih := fewS_joined ps (by omega)
    have ej : (joined (p :: ps)).length = p.l.length + (joined ps).length := by simp [joined]
    rw [ej, ih]; omega
/-- the parts of a law: what came in -/
structure Came (w : World) (ap : Option Addr) (gp op : Nat) (ps : List Part) : Prop where
  parts : PartsIn w ap gp op ps
  nil : ∀ p ∈ ps, p.ad = none → p.cap = 0
  most : ps.length ≤ maxLen
  each : ∀ p ∈ ps, p.l.length ≤ maxLen
instance : Inhabited Part := ⟨⟨none, 0, 0, 0, []⟩⟩
section
variable {H : Type} {enc : TypeId × Value → H} {w : World} {base : Nat} {spare : Nat → Bool} {held : Bool}
/-- a slice of bytes that is read -/
theorem row_of_trod {fuel : Nat} {v : Value} {d : DataW H × List MemPlace} (h : DataW.trod enc Tryd.prog w base (fun _ => true) held fuel 31 [v] = some d) : ∃ a len cap zs, v = .slice a len cap ∧ IsRow w a len cap zs ∧ len ≤ maxLen := by
  rcases open_ints Tryd.underlying31 Tryd.underlying5 (by kernel_rfl) h with ⟨hcs, _⟩ | ⟨x, l, c, zs, hcs, _, hl, hm, hz, _, hcell, hwz⟩
  · simp only [List.cons.injEq, and_true] at hcs
    exact ⟨none, 0, 0, [], hcs, .inl ⟨rfl, rfl, rfl, rfl⟩, Nat.zero_le _⟩
  · simp only [List.cons.injEq, and_true] at hcs
    exact ⟨some x, l, c, zs, hcs, .inr ⟨_, rfl, hl, hm, by simpa using hz, hcell, hwz⟩, Nat.le_trans hl hm⟩
theorem came_of_trod {fuel : Nat} {ad : Option Addr} {len cap : Nat} {d : DataW H × List MemPlace} (h0 : 0 < w.heap.size) (h : DataW.trod enc Tryd.prog w base (fun _ => true) held fuel 22 [.slice ad len cap] = some d) :
    ∃ (ps : List Part) (g o : Nat), ps.length = len ∧ Came w ad g o ps := by
  rcases open_slice1 Tryd.underlying22 (by kernel_rfl) h with ⟨e, _⟩ | h'
  · simp only [List.cons.injEq, and_true, Value.slice.injEq] at e
    obtain ⟨rfl, rfl, rfl⟩ := e
    exact ⟨[], 0, 0, rfl, ⟨⟨fun h => absurd rfl h, (fun i hi => absurd hi (by simp)), h0, (fun p hp => by cases hp)⟩, (fun p hp => by cases hp), Nat.zero_le _, (fun p hp => by cases hp)⟩⟩
  · obtain ⟨a, len', cap', m, n, V, D, Pl, e, hb, hl, hm, hmm, _, hi⟩ := h'
    simp only [List.cons.injEq, and_true, Value.slice.injEq] at e
    obtain ⟨rfl, rfl, rfl⟩ := e
    have hlm : len ≤ m := by rw [hmm]; split <;> omega
    have hel : ∀ i, i < len → ∃ p : Part, w.cell? (a.add i) = some p.val ∧ p.In w ∧ (p.ad = none → p.cap = 0) ∧ p.l.length ≤ maxLen := by
      intro i hi'
      obtain ⟨h1, h2⟩ := hi i (by omega)
      obtain ⟨a', l', c', zs, hv, hrow, hml⟩ := row_of_trod h2
      obtain ⟨p, hp, hin, hlen⟩ := part_of_row h0 hrow
      refine ⟨p, by rw [hp, ← hv]; exact h1, hin, fun hnone => ?_, by omega⟩
      unfold Part.val at hp
      injection hp with e1 e2 e3
      rcases hrow with ⟨r1, r2, r3, _⟩ | ⟨x, r1, _⟩
      · rw [e3, r3]
      · rw [e1, r1] at hnone; cases hnone
    obtain ⟨f, hf⟩ := choose_lt hel
    rcases Nat.eq_zero_or_pos len with rfl | hpos
    · exact ⟨[], 0, 0, rfl, ⟨⟨fun h => absurd rfl h, (fun i hi => absurd hi (by simp)), h0, (fun p hp => by cases hp)⟩, (fun p hp => by cases hp), Nat.zero_le _, (fun p hp => by cases hp)⟩⟩
    obtain ⟨b, off, spot⟩ := a
    have hspot : spot = none := by
      have hc := (hf 0 hpos).1
      simpa [Addr.add] using World.cell?_spot hc
    subst hspot
    have hln : ((List.range len).map f).length = len := by simp
    refine ⟨(List.range len).map f, b, off, hln, ⟨⟨fun _ => rfl, ?_, ?_, ?_⟩, ?_, by rw [hln]; omega, ?_⟩⟩
    · intro i hi'
      have := (hf i (by omega)).1
      rw [Go.WideShapes.add_plain] at this
      simpa using this
    · have hc := (hf 0 hpos).1
      exact block_lt_of_cell hc
    · intro p hp
      obtain ⟨i, hi', rfl⟩ := List.mem_map.1 hp
      exact (hf i (by simpa using hi')).2.1
    · intro p hp
      obtain ⟨i, hi', rfl⟩ := List.mem_map.1 hp
      exact (hf i (by simpa using hi')).2.2.1
    · intro p hp
      obtain ⟨i, hi', rfl⟩ := List.mem_map.1 hp
      exact (hf i (by simpa using hi')).2.2.2
end
end Go.Proofs.YtmegncaadglhmaaDoor
