/- Slices that came in, opened: of whatever element, cell by cell. -/
import Derived.Test.YtammnjfccjfbhaaDOpen
import Derived.Test.YtammnjfccjfbhaaDHist
import Derived.ShutString
import Derived.ChangeOld
import Derived.Below
import Derived.Lib.SmallJoins
import Derived.Deep.Slices
namespace Go.Proofs.Ytammnjfccjfbhaa
open Go.ChangeShapes Go.WideShapes Go.ChangeAt Go.RowKit Go.Joins Go.Deep

section
variable {H : Type} {enc : TypeId × Value → H} {w : World} {base : Nat} {spare : Nat → Bool} {held : Bool} {P : Program}
/-- elements in memory, one behind the other -/
structure RowsAt (w : World) (ad : Option Addr) (g o k : Nat) {α : Type} (f : α → List Value) (l : List α) : Prop where
  addr : l ≠ [] → ad = some ⟨g, o, none⟩
  cell : ∀ i, (h : i < l.length) → ∀ j, j < k → w.cell? ⟨g, o + i * k + j, none⟩ = (f l[i])[j]?
theorem rows_of_trod {α : Type} [Inhabited α] (f : α → List Value) (p : α → Prop) {t e : TypeId} {k : Nat} (hu : P.underlying t = some (.slice e)) (hc : P.cellsOf e = k) (hk : 0 < k)
    (hel : ∀ (fuel : Nat) (cs : List Value) (d : DataW H × List MemPlace), DataW.trod enc P w base spare held fuel e cs = some d → ∃ x : α, cs = f x ∧ p x) (hfl : ∀ x, p x → (f x).length = k)
    {fuel : Nat} {ad : Option Addr} {len cap : Nat} {d : DataW H × List MemPlace} (h : DataW.trod enc P w base spare held fuel t [.slice ad len cap] = some d) :
    ∃ (l : List α) (g o : Nat), l.length = len ∧ len ≤ maxLen ∧ RowsAt w ad g o k f l ∧ ∀ x ∈ l, p x := by
  have rnil : ∀ ad, RowsAt w ad 0 0 k f ([] : List α) := fun ad => ⟨fun h => absurd rfl h, fun i hi => by cases hi⟩
  rcases open_slice hu h with ⟨e, _⟩ | ⟨a, len', cap', m, n, D, Pl, e, hb, hl, hm, hmm, hx, hi⟩
  · simp only [List.cons.injEq, and_true, Value.slice.injEq] at e
    obtain ⟨rfl, rfl, rfl⟩ := e
    exact ⟨[], 0, 0, rfl, Nat.zero_le _, rnil _, fun x hx => by cases hx⟩
  · simp only [List.cons.injEq, and_true, Value.slice.injEq] at e
    obtain ⟨rfl, rfl, rfl⟩ := e
    have hlm : len ≤ m := by rw [hmm]; split <;> omega
    rw [hc] at hi
    have hel' : ∀ i, i < len → ∃ x : α, w.cells? base (a.add (i * k)) k = some (f x) ∧ p x := by
      intro i hi'
      obtain ⟨cs', h1, h2⟩ := hi i (by omega)
      obtain ⟨x, rfl, hp⟩ := hel _ _ _ h2
      exact ⟨x, h1, hp⟩
    obtain ⟨F, hF⟩ := choose_lt hel'
    rcases Nat.eq_zero_or_pos len with rfl | hpos
    · exact ⟨[], 0, 0, rfl, Nat.zero_le _, rnil _, fun x hx => by cases hx⟩
    obtain ⟨b, off, spot⟩ := a
    have hspot : spot = none := by
      have h0 := (World.cells?_some (hF 0 hpos).1).2.2 0 hk
      rw [List.getElem?_eq_getElem (by rw [hfl _ (hF 0 hpos).2]; exact hk)] at h0
      simpa [Addr.add] using World.cell?_spot h0
    subst hspot
    have hln : ((List.range len).map F).length = len := by simp
    refine ⟨(List.range len).map F, b, off, hln, by omega, ⟨fun _ => rfl, fun i hi' j hj => ?_⟩, fun x hx => ?_⟩
    · have hi2 : i < len := by omega
      have := (World.cells?_some (hF i hi2).1).2.2 j hj
      rw [Go.WideShapes.add_plain, Go.WideShapes.add_plain] at this
      simpa using this
    · obtain ⟨i, hi', rfl⟩ := List.mem_map.1 hx
      exact (hF i (by simpa using hi')).2
theorem bools_of_trod {fuel : Nat} {ad : Option Addr} {len cap : Nat} {d : DataW H × List MemPlace} (h : DataW.trod enc Try.prog w base spare held fuel 31 [.slice ad len cap] = some d) :
    ∃ (l : List Bool) (g o : Nat), l.length = len ∧ len ≤ maxLen ∧ (l ≠ [] → ad = some ⟨g, o, none⟩) ∧ ∀ i, (h : i < l.length) → w.cell? ⟨g, o + i, none⟩ = some (.bool l[i]) := by
  obtain ⟨l, g, o, h1, h2, h3, _⟩ := rows_of_trod (α := Bool) (fun b => [.bool b]) (fun _ => True) Try.underlying31 (k := 1) (by kernel_rfl) (by omega) (fun _ _ _ h => by
    obtain ⟨b, hb, _⟩ := DataW.trod_bool Try.underlying4 h
    exact ⟨b, hb, trivial⟩) (fun _ _ => rfl) h
  refine ⟨l, g, o, h1, h2, h3.addr, fun i hi => ?_⟩
  have := h3.cell i hi 0 (by omega)
  simpa using this
theorem pairs_of_trod {fuel : Nat} {ad : Option Addr} {len cap : Nat} {d : DataW H × List MemPlace} (h : DataW.trod enc Try.prog w base spare held fuel 49 [.slice ad len cap] = some d) :
    ∃ (l : List (UInt8 × UInt8)) (g o : Nat), l.length = len ∧ len ≤ maxLen ∧ Pairs w ad g o l := by
  obtain ⟨l, g, o, h1, h2, h3, _⟩ := rows_of_trod (α := UInt8 × UInt8) (fun p => [B p.1, B p.2]) (fun _ => True) Try.underlying49 (k := 2) (by kernel_rfl) (by omega) (fun _ cs _ h => by
    obtain ⟨xs, m, _, _, hlen, hxl, hel⟩ := DataW.trod_array Try.underlying52 h
    have c2 : Try.prog.cellsOf 52 = 2 := by kernel_rfl
    have c1 : Try.prog.cellsOf 5 = 1 := by kernel_rfl
    rw [c2] at hlen
    match cs, hlen with
    | [v0, v1], _ =>
      have e0 := hel 0 (by omega)
      have e1 := hel 1 (by omega)
      rw [List.getElem?_eq_getElem (by omega)] at e0 e1
      simp only [c1, Nat.mul_one, List.drop_zero, List.drop_succ_cons, List.take_succ_cons, List.take_zero] at e0 e1
      obtain ⟨x0, f0, _, w0⟩ := DataW.trod_int Try.underlying5 e0
      obtain ⟨x1, f1, _, w1⟩ := DataW.trod_int Try.underlying5 e1
      obtain ⟨a, rfl⟩ := u8_of w0
      obtain ⟨b, rfl⟩ := u8_of w1
      simp only [List.cons.injEq, and_true] at f0 f1
      subst f0 f1
      exact ⟨(a, b), rfl, trivial⟩) (fun _ _ => rfl) h
  refine ⟨l, g, o, h1, h2, h3.addr, fun i hi => ?_, fun i hi => ?_⟩
  · have := h3.cell i hi 0 (by omega)
    simpa using this
  · have := h3.cell i hi 1 (by omega)
    simpa using this
end
end Go.Proofs.Ytammnjfccjfbhaa
