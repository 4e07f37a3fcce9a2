/- Calls that came in, opened. -/
import Derived.Test.YtlhfdlfbnnfjjaaDoorJ37
import Derived.Test.YtlhfdlfbnnfjjaaDoorJ38
import Derived.Test.YtlhfdlfbnnfjjaaDoorJ19
import Derived.ShutString
import Derived.ChangeOld
import Derived.Below
import Derived.Lib.SmallJoins
import Derived.Deep.Slices
namespace Go.Proofs.YtlhfdlfbnnfjjaaDoor
open Go.ChangeShapes Go.WideShapes Go.ChangeAt Go.RowKit Go.Joins Go.Deep

section
variable {H : Type} {enc : TypeId × Value → H} {w : World} {base : Nat} {spare : Nat → Bool} {held : Bool} {P : Program}
/-- elements in memory, one behind the other -/
structure RowsAt (w : World) (ad : Option Addr) (g o k : Nat) {α : Type} (f : α → List Value) (l : List α) : Prop where
  addr : l ≠ [] → ad = some ⟨g, o, none⟩
  cell : ∀ i, (h : i < l.length) → ∀ j, j < k → w.cell? ⟨g, o + i * k + j, none⟩ = (f l[i])[j]?
set_option maxRecDepth 100000 in
theorem rows_of_trod {α : Type} [Inhabited α] (f : α → List Value) (p : α → Prop) {t e : TypeId} {k : Nat} (hu : P.underlying t = some (.slice e)) (hc : P.cellsOf e = k) (hk : 0 < k)
    (hel : ∀ (fuel : Nat) (cs : List Value) (d : DataW H × List MemPlace), DataW.trod enc P w base spare held fuel e cs = some d → ∃ x : α, cs = f x ∧ p x) (hfl : ∀ x, p x → (f x).length = k)
    {fuel : Nat} {ad : Option Addr} {len cap : Nat} {d : DataW H × List MemPlace} (h : DataW.trod enc P w base spare held fuel t [.slice ad len cap] = some d) :
    ∃ (l : List α) (g o : Nat), l.length = len ∧ len ≤ maxLen ∧ RowsAt w ad g o k f l ∧ ∀ x ∈ l, p x := by
  have rnil : ∀ ad, RowsAt w ad 0 0 k f ([] : List α) := fun ad => ⟨fun h => absurd rfl h, fun i hi => by cases hi⟩
  rcases open_slice hu h with ⟨e, _⟩ | ⟨a, len', cap', m, n, D, Pl, e, hb, hl, hm, hmm, hx, hi⟩
  · simp only [List.cons.injEq, and_true, Value.slice.injEq] at e
    obtain ⟨rfl, rfl, rfl⟩ := e
    exact ⟨[], 0, 0, rfl, Nat.zero_le _, rnil _, fun x hx => by cases hx⟩
  · simp only [List.cons.injEq, and_true, Value.slice.injEq] at e
    obtain ⟨rfl, rfl, rfl⟩ := e
    have hlm : len ≤ m := by rw [hmm]; split <;> omega
    rw [hc] at hi
    have hel' : ∀ i, i < len → ∃ x : α, w.cells? base (a.add (i * k)) k = some (f x) ∧ p x := by
      intro i hi'
      obtain ⟨cs', h1, h2⟩ := hi i (by omega)
      obtain ⟨x, rfl, hp⟩ := hel _ _ _ h2
      exact ⟨x, h1, hp⟩
    obtain ⟨F, hF⟩ := choose_lt hel'
    rcases Nat.eq_zero_or_pos len with rfl | hpos
    · exact ⟨[], 0, 0, rfl, Nat.zero_le _, rnil _, fun x hx => by cases hx⟩
    obtain ⟨b, off, spot⟩ := a
    have hspot : spot = none := by
      have h0 := (World.cells?_some (hF 0 hpos).1).2.2 0 hk
      rw [List.getElem?_eq_getElem (by rw [hfl _ (hF 0 hpos).2]; exact hk)] at h0
      simpa [Addr.add] using World.cell?_spot h0
    subst hspot
    have hln : ((List.range len).map F).length = len := by simp
    refine ⟨(List.range len).map F, b, off, hln, by omega, ⟨fun _ => rfl, fun i hi' j hj => ?_⟩, fun x hx => ?_⟩
    · have hi2 : i < len := by omega
      have := (World.cells?_some (hF i hi2).1).2.2 j hj
      rw [Go.WideShapes.add_plain, Go.WideShapes.add_plain] at this
      simpa using this
    · obtain ⟨i, hi', rfl⟩ := List.mem_map.1 hx
      exact (hF i (by simpa using hi')).2
set_option maxRecDepth 100000 in
theorem bools_of_trod {fuel : Nat} {ad : Option Addr} {len cap : Nat} {d : DataW H × List MemPlace} (h : DataW.trod enc Tryd.prog w base spare held fuel 33 [.slice ad len cap] = some d) :
    ∃ (l : List Bool) (g o : Nat), l.length = len ∧ len ≤ maxLen ∧ (l ≠ [] → ad = some ⟨g, o, none⟩) ∧ ∀ i, (h : i < l.length) → w.cell? ⟨g, o + i, none⟩ = some (.bool l[i]) := by
  obtain ⟨l, g, o, h1, h2, h3, _⟩ := rows_of_trod (α := Bool) (fun b => [.bool b]) (fun _ => True) Tryd.underlying33 (k := 1) (by kernel_rfl) (by omega) (fun _ _ _ h => by
    obtain ⟨b, hb, _⟩ := DataW.trod_bool Tryd.underlying4 h
    exact ⟨b, hb, trivial⟩) (fun _ _ => rfl) h
  refine ⟨l, g, o, h1, h2, h3.addr, fun i hi => ?_⟩
  have := h3.cell i hi 0 (by omega)
  simpa using this
end
section
variable {H : Type} {enc : TypeId × Value → H} {w : World} {base : Nat}
set_option maxRecDepth 100000 in
theorem op6_of_trod (h0 : 0 < w.heap.size) {fuel : Nat} {cs : List Value} {d : DataW H × List MemPlace} (h : DataW.trod enc Tryd.prog w base (fun _ => true) true fuel 35 cs = some d) : ∃ x : COp, cs = x.cells ∧ COpOk w x := by
  obtain ⟨xs, n, _, rfl, hlen, hxl, hf⟩ := DataW.trod_struct Tryd.underlying35 h
  have k0 := hf 0 _ rfl
  have k1 := hf 1 _ rfl
  have k2 := hf 2 _ rfl
  have k3 := hf 3 _ rfl
  have hc : Tryd.prog.cellsOf 35 = 4 := by kernel_rfl
  rw [hc] at hlen
  match xs, hxl with
  | [y0, y1, y2, y3], _ =>
    match cs, hlen with
    | [v0, v1, v2, v3], _ =>
      simp only [List.getElem?_cons_zero, List.getElem?_cons_succ] at k0 k1 k2 k3
      obtain ⟨kc, e0, _, wk⟩ := DataW.trod_int Tryd.underlying5 k0
      obtain ⟨i, e1, _, wi⟩ := DataW.trod_int Tryd.underlying3 k1
      have hi : i ≤ 9223372036854775807 := by
        simp [Lit.wf] at wi
        exact wi.2
      have hk : 0 ≤ kc ∧ kc < 256 := by
        simp [Lit.wf] at wk
        have e : IntKind.u8.max = 255 := rfl
        have e' : IntKind.u8.min = 0 := rfl
        omega
      obtain rfl : v0 = _ := (List.cons.inj e0).1
      obtain rfl : v1 = _ := (List.cons.inj e1).1
      obtain ⟨a, len, cap, zs, e2, hrow, hlm⟩ := row_of_trod k2
      obtain ⟨ap, lp, cpp, e3⟩ := slice_form Tryd.underlying33 k3
      obtain rfl : v3 = _ := (List.cons.inj e3).1
      obtain ⟨p, hp, hin, hpl⟩ := part_of_row h0 hrow
      have hnil : p.ad = none → p.cap = 0 := fun h => by
        unfold Part.val at hp
        injection hp with f1 f2 f3
        rcases hrow with ⟨g1, g2, g3, _⟩ | ⟨x, g1, _⟩
        · rw [f3, g3]
        · rw [f1, g1] at h; cases h
      obtain ⟨bs, pg, po, rfl, hbm, hpa, hpc⟩ := bools_of_trod k3
      subst e2
      refine ⟨⟨kc, i, p, ap, pg, po, cpp, bs⟩, by show _ = [Value.int .u8 kc, .int .i64 i, p.val, _]; rw [hp], ⟨hk.1, hk.2, hi, hin, hnil, by rw [hpl]; exact hlm, hbm, hpa, hpc⟩⟩
instance : Inhabited COp := ⟨⟨0, 0, ⟨none, 0, 0, 0, []⟩, none, 0, 0, 0, []⟩⟩
set_option maxRecDepth 100000 in
theorem ops6_of_trod (h0 : 0 < w.heap.size) {fuel : Nat} {ad : Option Addr} {len cap : Nat} {d : DataW H × List MemPlace} (h : DataW.trod enc Tryd.prog w base (fun _ => true) true fuel 22 [.slice ad len cap] = some d) :
    ∃ (l : List COp) (g o : Nat), l.length = len ∧ len ≤ maxLen ∧ OpsAt w ad g o l ∧ ∀ x ∈ l, COpOk w x := by
  obtain ⟨l, g, o, h1, h2, h3, h4⟩ := rows_of_trod (α := COp) COp.cells (COpOk w) Tryd.underlying22 (k := 4) (by kernel_rfl) (by omega) (fun _ _ _ h => op6_of_trod h0 h) (fun _ _ => rfl) h
  exact ⟨l, g, o, h1, h2, ⟨h3.addr, h3.cell⟩, h4⟩
end
end Go.Proofs.YtlhfdlfbnnfjjaaDoor
