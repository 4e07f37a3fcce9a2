/- What came in: numbers, texts; Tokens and bytes that came in. -/
import Derived.Test.YtllgodaphoncnaaGreatDoorJ19
import Derived.ShutString
import Derived.ChangeOld
import Derived.Below
import Derived.Lib.SmallJoins
import Derived.Deep.Slices
namespace Go.Proofs.YtllgodaphoncnaaGreatDoor
open Go.ChangeShapes Go.WideShapes Go.ChangeAt Go.RowKit Go.Deep
open Go.ChangeMaps (open_string)

section
variable {H : Type} {enc : TypeId × Value → H} {w : World} {base : Nat} {spare : Nat → Bool} {held : Bool} {r : Reach} {b0 : Nat}
set_option maxRecDepth 100000 in
theorem u16_of_arg {v : Value} {d : DataW H} {p : List MemPlace} (hv : Value.okWide Tryz.prog w r b0 52 v) (h : DataW.Trod enc Tryz.prog w base spare held 52 v d p) : ∃ n : Nat, v = .int .u16 (n : Int) ∧ n < 65536 := by
  obtain ⟨n, rfl, _, _, wn⟩ := open_int Tryz.underlying52 hv h
  have h1 : IntKind.u16.min ≤ n ∧ n ≤ IntKind.u16.max := by simpa [Lit.wf] using wn
  have h2 : 0 ≤ n ∧ n ≤ 65535 := h1
  exact ⟨n.toNat, by rw [Int.toNat_of_nonneg h2.1], by omega⟩
set_option maxRecDepth 100000 in
theorem str_of_arg {v : Value} {d : DataW H} {p : List MemPlace} (hv : Value.okWide Tryz.prog w r b0 9 v) (h : DataW.Trod enc Tryz.prog w base spare held 9 v d p) : ∃ l : List UInt8, v = .string (st l) ∧ l.length ≤ maxLen := by
  obtain ⟨s, rfl, _, _, hs⟩ := open_string Tryz.underlying9 hv h
  exact ⟨s.data.toList, by rw [st_data], hs⟩
end
end Go.Proofs.YtllgodaphoncnaaGreatDoor
namespace Go.Proofs.YtllgodaphoncnaaGreatDoor
open Go.ChangeShapes Go.WideShapes Go.ChangeAt Go.RowKit Go.Joins Go.Deep

section
variable {H : Type} {enc : TypeId × Value → H} {w : World} {base : Nat} {spare : Nat → Bool} {held : Bool} {P : Program}
/-- elements in memory, one behind the other -/
structure RowsAt (w : World) (ad : Option Addr) (g o k : Nat) {α : Type} (f : α → List Value) (l : List α) : Prop where
  addr : l ≠ [] → ad = some ⟨g, o, none⟩
  cell : ∀ i, (h : i < l.length) → ∀ j, j < k → w.cell? ⟨g, o + i * k + j, none⟩ = (f l[i])[j]?
set_option maxRecDepth 100000 in
theorem rows_of_trod {α : Type} [Inhabited α] (f : α → List Value) (p : α → Prop) {t e : TypeId} {k : Nat} (hu : P.underlying t = some (.slice e)) (hc : P.cellsOf e = k) (hk : 0 < k)
    (hel : ∀ (fuel : Nat) (cs : List Value) (d : DataW H × List MemPlace), DataW.trod enc P w base spare held fuel e cs = some d → ∃ x : α, cs = f x ∧ p x) (hfl : ∀ x, p x → (f x).length = k)
    {fuel : Nat} {ad : Option Addr} {len cap : Nat} {d : DataW H × List MemPlace} (h : DataW.trod enc P w base spare held fuel t [.slice ad len cap] = some d) :
    ∃ (l : List α) (g o : Nat), l.length = len ∧ len ≤ maxLen ∧ RowsAt w ad g o k f l ∧ ∀ x ∈ l, p x := by
  have rnil : ∀ ad, RowsAt w ad 0 0 k f ([] : List α) := fun ad => ⟨fun h => absurd rfl h, fun i hi => by cases hi⟩
  rcases open_slice hu h with ⟨e, _⟩ | ⟨a, len', cap', m, n, D, Pl, e, hb, hl, hm, hmm, hx, hi⟩
  · simp only [List.cons.injEq, and_true, Value.slice.injEq] at e
    obtain ⟨rfl, rfl, rfl⟩ := e
    exact ⟨[], 0, 0, rfl, Nat.zero_le _, rnil _, fun x hx => by cases hx⟩
  · simp only [List.cons.injEq, and_true, Value.slice.injEq] at e
    obtain ⟨rfl, rfl, rfl⟩ := e
    have hlm : len ≤ m := by rw [hmm]; split <;> omega
    rw [hc] at hi
    have hel' : ∀ i, i < len → ∃ x : α, w.cells? base (a.add (i * k)) k = some (f x) ∧ p x := by
      intro i hi'
      obtain ⟨cs', h1, h2⟩ := hi i (by omega)
      obtain ⟨x, rfl, hp⟩ := hel _ _ _ h2
      exact ⟨x, h1, hp⟩
    obtain ⟨F, hF⟩ := choose_lt hel'
    rcases Nat.eq_zero_or_pos len with rfl | hpos
    · exact ⟨[], 0, 0, rfl, Nat.zero_le _, rnil _, fun x hx => by cases hx⟩
    obtain ⟨b, off, spot⟩ := a
    have hspot : spot = none := by
      have h0 := (World.cells?_some (hF 0 hpos).1).2.2 0 hk
      rw [List.getElem?_eq_getElem (by rw [hfl _ (hF 0 hpos).2]; exact hk)] at h0
      simpa [Addr.add] using World.cell?_spot h0
    subst hspot
    have hln : ((List.range len).map F).length = len := by simp
    refine ⟨(List.range len).map F, b, off, hln, by omega, ⟨fun _ => rfl, fun i hi' j hj => ?_⟩, fun x hx => ?_⟩
    · have hi2 : i < len := by omega
      have := (World.cells?_some (hF i hi2).1).2.2 j hj
      rw [Go.WideShapes.add_plain, Go.WideShapes.add_plain] at this
      simpa using this
    · obtain ⟨i, hi', rfl⟩ := List.mem_map.1 hx
      exact (hF i (by simpa using hi')).2
end
/-- what a token may be at all -/
structure Tk.Wide (t : Tk) : Prop where
  k0 : -9223372036854775808 ≤ t.k
  k1 : t.k ≤ 9223372036854775807
  n0 : -9223372036854775808 ≤ t.n
  n1 : t.n ≤ 9223372036854775807
  s : t.s.length ≤ maxLen
set_option maxRecDepth 100000 in
theorem Tk.Wide.ok {t : Tk} (h : t.Wide) (hs : t.s.length ≤ 1000000) : t.Ok := ⟨h.k0, h.k1, h.n0, h.n1, hs⟩
instance : Inhabited Tk := ⟨noTk⟩
section
variable {H : Type} {enc : TypeId × Value → H} {w : World} {base : Nat} {spare : Nat → Bool} {held : Bool} {r : Reach} {b0 : Nat}
set_option maxRecDepth 100000 in
theorem tok_of_trod {fuel : Nat} {cs : List Value} {d : DataW H × List MemPlace} (h : DataW.trod enc Tryz.prog w base spare held fuel 41 cs = some d) : ∃ t : Tk, cs = t.cells ∧ t.Wide := by
  obtain ⟨xs, n, _, rfl, hlen, hxl, hf⟩ := DataW.trod_struct Tryz.underlying41 h
  have k0 := hf 0 _ rfl
  have k1 := hf 1 _ rfl
  have k2 := hf 2 _ rfl
  have hc : Tryz.prog.cellsOf 41 = 3 := by kernel_rfl
  rw [hc] at hlen
  match xs, hxl with
  | [y0, y1, y2], _ =>
    match cs, hlen with
    | [v0, v1, v2], _ =>
      simp only [List.getElem?_cons_zero, List.getElem?_cons_succ] at k0 k1 k2
      obtain ⟨kc, e0, _, wk⟩ := DataW.trod_int Tryz.underlying3 k0
      obtain ⟨s, e1, _, hs⟩ := DataW.trod_string Tryz.underlying9 k1
      obtain ⟨i, e2, _, wi⟩ := DataW.trod_int Tryz.underlying2 k2
      simp [Lit.wf] at wi wk
      obtain rfl : v0 = _ := (List.cons.inj e0).1
      obtain rfl : v1 = _ := (List.cons.inj e1).1
      obtain rfl : v2 = _ := (List.cons.inj e2).1
      exact ⟨⟨kc, s.data.toList, i⟩, by unfold Tk.cells; rw [st_data], ⟨wk.1, wk.2, wi.1, wi.2, hs⟩⟩
set_option maxRecDepth 100000 in
theorem tok_of_arg {v : Value} {d : DataW H} {p : List MemPlace} (hv : Value.okWide Tryz.prog w r b0 41 v) (h : DataW.Trod enc Tryz.prog w base spare held 41 v d p) : ∃ t : Tk, v = t.val ∧ t.Wide := by
  simp only [Value.okWide, Tryz.underlying41] at hv
  obtain ⟨cs, rfl, hsz, _⟩ := hv
  obtain ⟨fuel, hf⟩ := h
  have hcs : (Value.cells (.agg cs)).toList = cs.toList := by simp [Value.cells]
  rw [hcs] at hf
  obtain ⟨t, e, hw⟩ := tok_of_trod hf
  exact ⟨t, by unfold Tk.val; rw [← e], hw⟩
/-- tokens that came in -/
abbrev TokAt (w : World) (ad : Option Addr) (g o : Nat) (l : List Tk) : Prop := RowsAt w ad g o 3 Tk.cells l
set_option maxRecDepth 100000 in
theorem toks_of_trod {fuel : Nat} {ad : Option Addr} {len cap : Nat} {d : DataW H × List MemPlace} (h : DataW.trod enc Tryz.prog w base spare held fuel 30 [.slice ad len cap] = some d) :
    ∃ (l : List Tk) (g o : Nat), l.length = len ∧ len ≤ maxLen ∧ TokAt w ad g o l ∧ ∀ x ∈ l, x.Wide :=
  rows_of_trod (α := Tk) Tk.cells Tk.Wide Tryz.underlying30 (k := 3) (by kernel_rfl) (by omega) (fun _ _ _ h => tok_of_trod h) (fun _ _ => rfl) h
/-- bytes that came in -/
abbrev BytAt (w : World) (ad : Option Addr) (g o : Nat) (l : List UInt8) : Prop := RowsAt w ad g o 1 (fun b : UInt8 => [Value.int .u8 (b.toNat : Int)]) l
set_option maxRecDepth 100000 in
theorem bytes_of_trod {fuel : Nat} {ad : Option Addr} {len cap : Nat} {d : DataW H × List MemPlace} (h : DataW.trod enc Tryz.prog w base spare held fuel 143 [.slice ad len cap] = some d) :
    ∃ (l : List UInt8) (g o : Nat), l.length = len ∧ len ≤ maxLen ∧ BytAt w ad g o l := by
  obtain ⟨l, g, o, h1, h2, h3, _⟩ := rows_of_trod (α := UInt8) (fun b => [Value.int .u8 (b.toNat : Int)]) (fun _ => True) Tryz.underlying143 (k := 1) (by kernel_rfl) (by omega) (fun _ _ _ h => by
    obtain ⟨n, e, _, wn⟩ := DataW.trod_int Tryz.underlying5 h
    have hb : 0 ≤ n ∧ n ≤ 255 := by
      simp [Lit.wf] at wn
      exact wn
    exact ⟨UInt8.ofNat n.toNat, by rw [e]; congr 2; simp; omega, trivial⟩) (fun _ _ => rfl) h
  exact ⟨l, g, o, h1, h2, h3⟩
end
end Go.Proofs.YtllgodaphoncnaaGreatDoor
