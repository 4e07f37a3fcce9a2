/- P3.1, P3.2: the bytes of all parts; parts that came in, with their bounds. -/
import Derived.Test.YtebadbnlihbecaaCTook
import Derived.Test.YtebadbnlihbecaaCOpen
namespace Go.Proofs.Ytebadbnlihbecaa
open Go.ChangeShapes Go.WideShapes Go.ChangeAt Go.RowKit Go.Joins Go.Deep

/-- the bytes of parts, one behind the other -/
def flatB (ps : List (PartV × List Val)) : List UInt8 := ps.flatMap fun p => bytesB p.1 p.2
theorem allB_some (ps : List (PartV × List Val)) : ∀ U, allB ps = some U → U = flatB ps ∧ ∀ p ∈ ps, bytesOk p.1 p.2 = true := by
  have key : ∀ (ps : List (PartV × List Val)) (u U : List UInt8), ps.foldl allStep (some u) = some U → U = u ++ flatB ps ∧ ∀ p ∈ ps, bytesOk p.1 p.2 = true := by
    intro ps
    induction ps with
    | nil =>
      intro u U h
      injection h with h
      exact ⟨by rw [← h]; simp [flatB], fun p hp => by cases hp⟩
    | cons p ps ih =>
      intro u U h
      rw [List.foldl_cons] at h
      have hs : allStep (some u) p = if bytesOk p.1 p.2 = true then (if u.length + (bytesB p.1 p.2).length ≤ 4096 then some (u ++ bytesB p.1 p.2) else none) else none := rfl
      rw [hs] at h
      split at h
      · rename_i hok
        split at h
        · obtain ⟨h1, h2⟩ := ih _ _ h
          refine ⟨by rw [h1]; simp [flatB], fun q hq => ?_⟩
          rcases List.mem_cons.1 hq with rfl | hq
          · exact hok
          · exact h2 q hq
        · rw [all_none] at h; cases h
      · rw [all_none] at h; cases h
  intro U h
  have := key ps [] U h
  simpa using this
/-- parts that are well and not too long in all have their bytes told -/
theorem allB_of (ps : List (PartV × List Val)) (hok : ∀ p ∈ ps, bytesOk p.1 p.2 = true) (hl : (flatB ps).length ≤ 4096) : allB ps = some (flatB ps) := by
  have key : ∀ (ps : List (PartV × List Val)) (u : List UInt8), (∀ p ∈ ps, bytesOk p.1 p.2 = true) → (u ++ flatB ps).length ≤ 4096 → ps.foldl allStep (some u) = some (u ++ flatB ps) := by
    intro ps
    induction ps with
    | nil => intro u _ _; simp [flatB]
    | cons p ps ih =>
      intro u hok hl
      have e : flatB (p :: ps) = bytesB p.1 p.2 ++ flatB ps := by simp [flatB]
      rw [e, ← List.append_assoc] at hl ⊢
      rw [List.foldl_cons]
      have hs : allStep (some u) p = some (u ++ bytesB p.1 p.2) := by
        show (if bytesOk p.1 p.2 = true then (if u.length + (bytesB p.1 p.2).length ≤ 4096 then some (u ++ bytesB p.1 p.2) else none) else none) = _
        rw [if_pos (hok p (by simp)), if_pos (by rw [List.length_append, List.length_append] at hl; omega)]
      rw [hs]
      exact ih _ (fun q hq => hok q (by simp [hq])) hl
  have := key ps [] hok (by simpa using hl)
  simpa [allB] using this
section
variable {H : Type} {enc : TypeId × Value → H} {w : World} {base : Nat} {spare : Nat → Bool} {held : Bool}
theorem part_of_trod2 {fuel : Nat} {cs : List Value} {d : DataW H × List MemPlace} (h : DataW.trod enc Try.prog w base spare held fuel 35 cs = some d) :
    ∃ p : PartV × List Val, cs = [.int .u8 (p.1.q : Int), .int .i64 p.1.n, .string p.1.s, .int .i64 p.1.v.k, .int .i64 p.1.v.i, .string p.1.v.s, .slice p.1.v.a p.1.v.n p.1.v.c] ∧ p.1.Ok ∧ Full w p.1.v p.2 ∧ IOk p.1.v ∧ ∀ y ∈ p.2, IOk y := by
  obtain ⟨y0, y1, y2, y3, n, _, hlen, h0, h1, h2, h3⟩ := trod_struct4 Try.underlying35 h
  have hc : Try.prog.cellsOf 35 = 7 := by kernel_rfl
  have c5 : Try.prog.cellsOf 5 = 1 := by kernel_rfl
  have c2 : Try.prog.cellsOf 2 = 1 := by kernel_rfl
  have c9 : Try.prog.cellsOf 9 = 1 := by kernel_rfl
  have cv : Try.prog.cellsOf 33 = 4 := by kernel_rfl
  rw [hc] at hlen
  match cs, hlen with
  | [v0, v1, v2, v3, v4, v5, v6], _ =>
    simp only [c5, c2, c9, cv, List.drop_zero, List.drop_succ_cons, List.take_succ_cons, List.take_zero] at h0 h1 h2 h3
    obtain ⟨k, e0, _, wk⟩ := DataW.trod_int Try.underlying5 h0
    obtain ⟨i, e1, _, wi⟩ := DataW.trod_int Try.underlying2 h1
    obtain ⟨s, e2, _, hs⟩ := DataW.trod_string Try.underlying9 h2
    have hk := bounds_u8 wk
    have hi := bounds_i64 wi
    obtain ⟨x, y, n', e3, hok, hy⟩ := val_of_trod h3
    obtain ⟨l, g, o, hl, hlen', hm, hall, _⟩ := list_of_trod hy
    simp only [List.cons.injEq, and_true] at e0 e1 e2 e3
    obtain ⟨e3, e4, e5, e6⟩ := e3
    subst e0 e1 e2 e3 e4 e5 e6
    refine ⟨(⟨k.toNat, i, s, x⟩, l), ?_, ⟨by show k.toNat < 256; omega, hi.1, hi.2, hs⟩, ⟨⟨g, o, hl⟩, hlen', hok.s, hm⟩, ⟨hok.i1, hok.i2⟩, fun z hz => ⟨(hall z hz).i1, (hall z hz).i2⟩⟩
    show _ = [Value.int .u8 ((k.toNat : Nat) : Int), _, _, _, _, _, _]
    rw [show ((k.toNat : Nat) : Int) = k by omega]
theorem parts_of_trod2 {fuel : Nat} {ad : Option Addr} {len cap : Nat} {d : DataW H × List MemPlace} (h : DataW.trod enc Try.prog w base spare held fuel 22 [.slice ad len cap] = some d) :
    ∃ (ps : List (PartV × List Val)) (g o : Nat), ps.length = len ∧ len ≤ maxLen ∧ PList w ad g o ps ∧ ∀ p ∈ ps, IOk p.1.v ∧ ∀ y ∈ p.2, IOk y := by
  have hc : Try.prog.cellsOf 35 = 7 := by kernel_rfl
  have pnil : ∀ ad, PList w ad 0 0 [] := fun ad => ⟨fun h => absurd rfl h, (fun j hj => absurd hj (by simp)), (fun j hj => absurd hj (by simp)), (fun j hj => absurd hj (by simp)), (fun j hj => absurd hj (by simp)), (fun j hj => absurd hj (by simp)), (fun j hj => absurd hj (by simp)), (fun j hj => absurd hj (by simp)), (fun x hx => by cases hx), (fun x hx => by cases hx)⟩
  rcases open_slice Try.underlying22 h with ⟨e, _⟩ | ⟨a, len', cap', m, n, D, Pl, e, hb, hl, hm, hmm, hx, hi⟩
  · simp only [List.cons.injEq, and_true, Value.slice.injEq] at e
    obtain ⟨rfl, rfl, rfl⟩ := e
    exact ⟨[], 0, 0, rfl, Nat.zero_le _, pnil _, fun p hp => by cases hp⟩
  · simp only [List.cons.injEq, and_true, Value.slice.injEq] at e
    obtain ⟨rfl, rfl, rfl⟩ := e
    have hlm : len ≤ m := by rw [hmm]; split <;> omega
    rw [hc] at hi
    have hel : ∀ i, i < len → ∃ p : PartV × List Val, w.cells? base (a.add (i * 7)) 7 = some [.int .u8 (p.1.q : Int), .int .i64 p.1.n, .string p.1.s, .int .i64 p.1.v.k, .int .i64 p.1.v.i, .string p.1.v.s, .slice p.1.v.a p.1.v.n p.1.v.c] ∧ p.1.Ok ∧ Full w p.1.v p.2 ∧ IOk p.1.v ∧ ∀ y ∈ p.2, IOk y := by
      intro i hi'
      obtain ⟨cs', h1, h2⟩ := hi i (by omega)
      obtain ⟨p, rfl, hok, hf⟩ := part_of_trod2 h2
      exact ⟨p, h1, hok, hf⟩
    haveI : Inhabited (PartV × List Val) := ⟨(⟨0, 0, ⟨#[]⟩, ⟨0, 0, ⟨#[]⟩, none, 0, 0⟩⟩, [])⟩
    obtain ⟨f, hf⟩ := choose_lt hel
    rcases Nat.eq_zero_or_pos len with rfl | hpos
    · exact ⟨[], 0, 0, rfl, Nat.zero_le _, pnil _, fun p hp => by cases hp⟩
    obtain ⟨b, off, spot⟩ := a
    have hspot : spot = none := by
      have h0 := (World.cells?_some (hf 0 hpos).1).2.2 0 (by omega)
      simp only [Nat.zero_mul, List.getElem?_cons_zero] at h0
      simpa [Addr.add] using World.cell?_spot h0
    subst hspot
    have hcell : ∀ i, i < len → ∀ j, j < 7 → w.cell? ⟨b, off + i * 7 + j, none⟩ = [Value.int .u8 ((f i).1.q : Int), .int .i64 (f i).1.n, .string (f i).1.s, .int .i64 (f i).1.v.k, .int .i64 (f i).1.v.i, .string (f i).1.v.s, .slice (f i).1.v.a (f i).1.v.n (f i).1.v.c][j]? := by
      intro i hi' j hj
      have := (World.cells?_some (hf i hi').1).2.2 j hj
      rwa [Go.WideShapes.add_plain, Go.WideShapes.add_plain] at this
    have hln : ((List.range len).map f).length = len := by simp
    refine ⟨(List.range len).map f, b, off, hln, by omega, ⟨fun _ => rfl, ?_, ?_, ?_, ?_, ?_, ?_, ?_, ?_, ?_⟩, ?_⟩
    · intro j hj; simpa using hcell j (by omega) 0 (by omega)
    · intro j hj; simpa using hcell j (by omega) 1 (by omega)
    · intro j hj; simpa using hcell j (by omega) 2 (by omega)
    · intro j hj; simpa using hcell j (by omega) 3 (by omega)
    · intro j hj; simpa using hcell j (by omega) 4 (by omega)
    · intro j hj; simpa using hcell j (by omega) 5 (by omega)
    · intro j hj; simpa using hcell j (by omega) 6 (by omega)
    · intro x hx
      obtain ⟨i, hi', rfl⟩ := List.mem_map.1 hx
      exact (hf i (by simpa using hi')).2.1
    · intro x hx
      obtain ⟨i, hi', rfl⟩ := List.mem_map.1 hx
      exact (hf i (by simpa using hi')).2.2.1
    · intro x hx
      obtain ⟨i, hi', rfl⟩ := List.mem_map.1 hx
      exact (hf i (by simpa using hi')).2.2.2
end
end Go.Proofs.Ytebadbnlihbecaa
