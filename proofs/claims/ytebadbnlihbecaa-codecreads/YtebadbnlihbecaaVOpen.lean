/- Values that came in, out of the row's own words. -/
import Derived.Test.YtebadbnlihbecaaVFew
import Derived.Test.YtebadbnlihbecaaRows
import Derived.ProofKit
import Derived.OpenShut
import Derived.ShutString
import Derived.ChangeOld
import Derived.Below
import Derived.Carry
import Derived.Lib.SmallJoins
import Derived.Deep.Slices
namespace Go.Proofs.Ytebadbnlihbecaa
open Go.ChangeShapes Go.WideShapes Go.ChangeAt Go.RowKit Go.Joins Go.Deep

theorem own : ownKnob Try.prog.godebug = none := by kernel_rfl
theorem laidOut : laidOutB Try.prog = true := by kernel_rfl
theorem listAt_nil (w : World) (ad : Option Addr) : ListAt w ad 0 0 [] :=
  ⟨fun h => absurd rfl h, (fun j hj => absurd hj (by simp)), (fun j hj => absurd hj (by simp)), (fun j hj => absurd hj (by simp)), (fun j hj => absurd hj (by simp)), (fun x hx => by cases hx)⟩
section
variable {H : Type} {enc : TypeId × Value → H} {w : World} {base : Nat} {spare : Nat → Bool} {held : Bool}
/-- what a value's numbers and text are bound to -/
structure Val.Ok (x : Val) : Prop where
  k1 : -9223372036854775808 ≤ x.k
  k2 : x.k ≤ 9223372036854775807
  i1 : -9223372036854775808 ≤ x.i
  i2 : x.i ≤ 9223372036854775807
  s : x.s.size ≤ maxLen
theorem val_of_trod {fuel : Nat} {cs : List Value} {d : DataW H × List MemPlace} (h : DataW.trod enc Try.prog w base spare held fuel 33 cs = some d) :
    ∃ (x : Val) (y : DataW H × List MemPlace) (n : Nat), cs = [.int .i64 x.k, .int .i64 x.i, .string x.s, .slice x.a x.n x.c] ∧ x.Ok ∧ DataW.trod enc Try.prog w base spare held n 31 [.slice x.a x.n x.c] = some y := by
  obtain ⟨y0, y1, y2, y3, n, _, hlen, h0, h1, h2, h3⟩ := trod_struct4 Try.underlying33 h
  have hc : Try.prog.cellsOf 33 = 4 := by kernel_rfl
  have c3 : Try.prog.cellsOf 3 = 1 := by kernel_rfl
  have c2 : Try.prog.cellsOf 2 = 1 := by kernel_rfl
  have c9 : Try.prog.cellsOf 9 = 1 := by kernel_rfl
  have c22 : Try.prog.cellsOf 31 = 1 := by kernel_rfl
  rw [hc] at hlen
  match cs, hlen with
  | [v0, v1, v2, v3], _ =>
    simp only [c3, c2, c9, c22, List.drop_zero, List.drop_succ_cons, List.take_succ_cons, List.take_zero] at h0 h1 h2 h3
    obtain ⟨k, e0, _, wk⟩ := DataW.trod_int Try.underlying3 h0
    obtain ⟨i, e1, _, wi⟩ := DataW.trod_int Try.underlying2 h1
    obtain ⟨s, e2, _, hs⟩ := DataW.trod_string Try.underlying9 h2
    have hk := bounds_i64 wk
    have hi := bounds_i64 wi
    simp only [List.cons.injEq, and_true] at e0 e1 e2
    subst e0 e1 e2
    rcases open_slice Try.underlying31 h3 with ⟨e3, _⟩ | ⟨a, len, cap, _, _, _, _, e3, _⟩
    · simp only [List.cons.injEq, and_true] at e3
      subst e3
      exact ⟨⟨k, i, s, none, 0, 0⟩, y3, n, rfl, ⟨hk.1, hk.2, hi.1, hi.2, hs⟩, h3⟩
    · simp only [List.cons.injEq, and_true] at e3
      subst e3
      exact ⟨⟨k, i, s, some a, len, cap⟩, y3, n, rfl, ⟨hk.1, hk.2, hi.1, hi.2, hs⟩, h3⟩
/-- a slice of values is a list of values in memory -/
theorem list_of_trod {fuel : Nat} {ad : Option Addr} {len cap : Nat} {d : DataW H × List MemPlace} (h : DataW.trod enc Try.prog w base spare held fuel 31 [.slice ad len cap] = some d) :
    ∃ (l : List Val) (g o : Nat), ListAt w ad g o l ∧ l.length = len ∧ len ≤ maxLen ∧ (∀ x ∈ l, x.Ok) ∧ ∀ x ∈ l, ∃ (y : DataW H × List MemPlace) (n : Nat), DataW.trod enc Try.prog w base spare held n 31 [.slice x.a x.n x.c] = some y := by
  have hc : Try.prog.cellsOf 33 = 4 := by kernel_rfl
  rcases open_slice Try.underlying31 h with ⟨e, _⟩ | ⟨a, len', cap', m, n, D, Pl, e, hb, hl, hm, hmm, hx, hi⟩
  · simp only [List.cons.injEq, and_true, Value.slice.injEq] at e
    obtain ⟨rfl, rfl, rfl⟩ := e
    exact ⟨[], 0, 0, listAt_nil _ _, rfl, Nat.zero_le _, (fun x hx => by cases hx), (fun x hx => by cases hx)⟩
  · simp only [List.cons.injEq, and_true, Value.slice.injEq] at e
    obtain ⟨rfl, rfl, rfl⟩ := e
    have hlm : len ≤ m := by rw [hmm]; split <;> omega
    rw [hc] at hi
    have hel : ∀ i, i < len → ∃ x : Val, w.cells? base (a.add (i * 4)) 4 = some [.int .i64 x.k, .int .i64 x.i, .string x.s, .slice x.a x.n x.c] ∧ x.Ok ∧ ∃ (y : DataW H × List MemPlace) (n : Nat), DataW.trod enc Try.prog w base spare held n 31 [.slice x.a x.n x.c] = some y := by
      intro i hi'
      obtain ⟨cs', h1, h2⟩ := hi i (by omega)
      obtain ⟨x, y, n', rfl, hok, hy⟩ := val_of_trod h2
      exact ⟨x, h1, hok, y, n', hy⟩
    obtain ⟨f, hf⟩ := choose_lt hel
    rcases Nat.eq_zero_or_pos len with rfl | hpos
    · exact ⟨[], 0, 0, listAt_nil _ _, rfl, Nat.zero_le _, (fun x hx => by cases hx), (fun x hx => by cases hx)⟩
    obtain ⟨b, off, spot⟩ := a
    have hspot : spot = none := by
      have h0 := (World.cells?_some (hf 0 hpos).1).2.2 0 (by omega)
      simp only [Nat.zero_mul, List.getElem?_cons_zero] at h0
      simpa [Addr.add] using World.cell?_spot h0
    subst hspot
    have hcell : ∀ i, i < len → ∀ j, j < 4 → w.cell? ⟨b, off + i * 4 + j, none⟩ = [Value.int .i64 (f i).k, .int .i64 (f i).i, .string (f i).s, .slice (f i).a (f i).n (f i).c][j]? := by
      intro i hi' j hj
      have := (World.cells?_some (hf i hi').1).2.2 j hj
      rwa [Go.WideShapes.add_plain, Go.WideShapes.add_plain] at this
    have hln : ((List.range len).map f).length = len := by simp
    refine ⟨(List.range len).map f, b, off, ⟨fun _ => rfl, ?_, ?_, ?_, ?_, ?_⟩, hln, by omega, ?_, ?_⟩
    · intro j hj
      have := hcell j (by omega) 0 (by omega)
      simpa using this
    · intro j hj
      have := hcell j (by omega) 1 (by omega)
      simpa using this
    · intro j hj
      have := hcell j (by omega) 2 (by omega)
      simpa using this
    · intro j hj
      have := hcell j (by omega) 3 (by omega)
      simpa using this
    · intro x hx
      obtain ⟨i, hi', rfl⟩ := List.mem_map.1 hx
      exact (hf i (by simpa using hi')).2.1.s
    · intro x hx
      obtain ⟨i, hi', rfl⟩ := List.mem_map.1 hx
      exact (hf i (by simpa using hi')).2.1
    · intro x hx
      obtain ⟨i, hi', rfl⟩ := List.mem_map.1 hx
      exact (hf i (by simpa using hi')).2.2
/-- an argument that is a value -/
theorem full_of_arg {r : Reach} {b0 : Nat} {v : Value} {d : DataW H} {p : List MemPlace} (hv : Value.okWide Try.prog w r b0 33 v) (h : DataW.Trod enc Try.prog w base spare held 33 v d p) :
    ∃ (x : Val) (l : List Val), v = x.v ∧ x.Ok ∧ Full w x l ∧ ∀ y ∈ l, y.Ok := by
  obtain ⟨cs, rfl, hsz⟩ := okWide_struct Try.underlying33 hv
  obtain ⟨fuel, hf⟩ := h
  obtain ⟨x, y, n, hcs, hok, hy⟩ := val_of_trod hf
  obtain ⟨l, g, o, hl, hlen, hm, hall, _⟩ := list_of_trod hy
  refine ⟨x, l, ?_, hok, ⟨⟨g, o, hl⟩, hlen, hok.s, hm⟩, hall⟩
  have : cs = #[.int .i64 x.k, .int .i64 x.i, .string x.s, .slice x.a x.n x.c] := by
    apply Array.toList_inj.1
    simpa [Value.cells] using hcs
  rw [this]; rfl
end
end Go.Proofs.Ytebadbnlihbecaa
