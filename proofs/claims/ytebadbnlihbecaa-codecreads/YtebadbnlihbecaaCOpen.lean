/- Bytes and parts that came in, out of the row's own words. -/
import Derived.Test.YtebadbnlihbecaaCFew
import Derived.Test.YtebadbnlihbecaaVOpen
namespace Go.Proofs.Ytebadbnlihbecaa
open Go.ChangeShapes Go.WideShapes Go.ChangeAt Go.RowKit Go.Joins Go.Deep

section
variable {H : Type} {enc : TypeId × Value → H} {w : World} {base : Nat} {spare : Nat → Bool} {held : Bool}
theorem bytes_of_trod {fuel : Nat} {ad : Option Addr} {len cap : Nat} {d : DataW H × List MemPlace} (h : DataW.trod enc Try.prog w base (fun _ => true) held fuel 36 [.slice ad len cap] = some d) :
    ∃ l : List UInt8, l.length = len ∧ len ≤ maxLen ∧ BSrc w (.slice ad l.length cap) l := by
  rcases open_ints Try.underlying36 Try.underlying5 (by kernel_rfl) h with ⟨hcs, _⟩ | ⟨x, l, c, zs, hcs, _, hl, hm, hz, _, hcell, hwz⟩
  · simp only [List.cons.injEq, and_true, Value.slice.injEq] at hcs
    obtain ⟨rfl, rfl, rfl⟩ := hcs
    exact ⟨[], rfl, Nat.zero_le _, .inl ⟨_, _, rfl, rfl⟩⟩
  · simp only [List.cons.injEq, and_true, Value.slice.injEq] at hcs
    obtain ⟨rfl, rfl, rfl⟩ := hcs
    have hz' : zs.length = cap := by simpa using hz
    rcases Nat.eq_zero_or_pos len with rfl | hpos
    · exact ⟨[], rfl, Nat.zero_le _, .inl ⟨_, _, rfl, rfl⟩⟩
    · obtain ⟨b, off, rfl, hc'⟩ := ints_at hcell (by omega)
      have hlen : ((zs.take len).map fun z => UInt8.ofNat z.toNat).length = len := by simp; omega
      refine ⟨(zs.take len).map fun z => UInt8.ofNat z.toNat, hlen, by omega, .inr ⟨b, off, cap, rfl, fun j hj => ?_⟩⟩
      have hj' : j < len := by rw [← hlen]; exact hj
      rw [hc' j (by omega)]
      have hb := bounds_u8 (hwz zs[j] (List.getElem_mem (by omega)))
      congr 1
      show Value.int .u8 (zs.getD j 0) = Value.int .u8 _
      congr 1
      simp [List.getD, show j < zs.length by omega]
      omega
theorem part_of_trod {fuel : Nat} {cs : List Value} {d : DataW H × List MemPlace} (h : DataW.trod enc Try.prog w base spare held fuel 35 cs = some d) :
    ∃ p : PartV × List Val, cs = [.int .u8 (p.1.q : Int), .int .i64 p.1.n, .string p.1.s, .int .i64 p.1.v.k, .int .i64 p.1.v.i, .string p.1.v.s, .slice p.1.v.a p.1.v.n p.1.v.c] ∧ p.1.Ok ∧ Full w p.1.v p.2 := by
  obtain ⟨y0, y1, y2, y3, n, _, hlen, h0, h1, h2, h3⟩ := trod_struct4 Try.underlying35 h
  have hc : Try.prog.cellsOf 35 = 7 := by kernel_rfl
  have c5 : Try.prog.cellsOf 5 = 1 := by kernel_rfl
  have c2 : Try.prog.cellsOf 2 = 1 := by kernel_rfl
  have c9 : Try.prog.cellsOf 9 = 1 := by kernel_rfl
  have cv : Try.prog.cellsOf 33 = 4 := by kernel_rfl
  rw [hc] at hlen
  match cs, hlen with
  | [v0, v1, v2, v3, v4, v5, v6], _ =>
    simp only [c5, c2, c9, cv, List.drop_zero, List.drop_succ_cons, List.take_succ_cons, List.take_zero] at h0 h1 h2 h3
    obtain ⟨k, e0, _, wk⟩ := DataW.trod_int Try.underlying5 h0
    obtain ⟨i, e1, _, wi⟩ := DataW.trod_int Try.underlying2 h1
    obtain ⟨s, e2, _, hs⟩ := DataW.trod_string Try.underlying9 h2
    have hk := bounds_u8 wk
    have hi := bounds_i64 wi
    obtain ⟨x, y, n', e3, hok, hy⟩ := val_of_trod h3
    obtain ⟨l, g, o, hl, hlen', hm, hall, _⟩ := list_of_trod hy
    simp only [List.cons.injEq, and_true] at e0 e1 e2 e3
    obtain ⟨e3, e4, e5, e6⟩ := e3
    subst e0 e1 e2 e3 e4 e5 e6
    refine ⟨(⟨k.toNat, i, s, x⟩, l), ?_, ⟨by show k.toNat < 256; omega, hi.1, hi.2, hs⟩, ⟨⟨g, o, hl⟩, hlen', hok.s, hm⟩⟩
    show _ = [Value.int .u8 ((k.toNat : Nat) : Int), _, _, _, _, _, _]
    rw [show ((k.toNat : Nat) : Int) = k by omega]
theorem parts_of_trod {fuel : Nat} {ad : Option Addr} {len cap : Nat} {d : DataW H × List MemPlace} (h : DataW.trod enc Try.prog w base spare held fuel 22 [.slice ad len cap] = some d) :
    ∃ (ps : List (PartV × List Val)) (g o : Nat), ps.length = len ∧ len ≤ maxLen ∧ PList w ad g o ps := by
  have hc : Try.prog.cellsOf 35 = 7 := by kernel_rfl
  have pnil : ∀ ad, PList w ad 0 0 [] := fun ad => ⟨fun h => absurd rfl h, (fun j hj => absurd hj (by simp)), (fun j hj => absurd hj (by simp)), (fun j hj => absurd hj (by simp)), (fun j hj => absurd hj (by simp)), (fun j hj => absurd hj (by simp)), (fun j hj => absurd hj (by simp)), (fun j hj => absurd hj (by simp)), (fun x hx => by cases hx), (fun x hx => by cases hx)⟩
  rcases open_slice Try.underlying22 h with ⟨e, _⟩ | ⟨a, len', cap', m, n, D, Pl, e, hb, hl, hm, hmm, hx, hi⟩
  · simp only [List.cons.injEq, and_true, Value.slice.injEq] at e
    obtain ⟨rfl, rfl, rfl⟩ := e
    exact ⟨[], 0, 0, rfl, Nat.zero_le _, pnil _⟩
  · simp only [List.cons.injEq, and_true, Value.slice.injEq] at e
    obtain ⟨rfl, rfl, rfl⟩ := e
    have hlm : len ≤ m := by rw [hmm]; split <;> omega
    rw [hc] at hi
    have hel : ∀ i, i < len → ∃ p : PartV × List Val, w.cells? base (a.add (i * 7)) 7 = some [.int .u8 (p.1.q : Int), .int .i64 p.1.n, .string p.1.s, .int .i64 p.1.v.k, .int .i64 p.1.v.i, .string p.1.v.s, .slice p.1.v.a p.1.v.n p.1.v.c] ∧ p.1.Ok ∧ Full w p.1.v p.2 := by
      intro i hi'
      obtain ⟨cs', h1, h2⟩ := hi i (by omega)
      obtain ⟨p, rfl, hok, hf⟩ := part_of_trod h2
      exact ⟨p, h1, hok, hf⟩
    haveI : Inhabited (PartV × List Val) := ⟨(⟨0, 0, ⟨#[]⟩, ⟨0, 0, ⟨#[]⟩, none, 0, 0⟩⟩, [])⟩
    obtain ⟨f, hf⟩ := choose_lt hel
    rcases Nat.eq_zero_or_pos len with rfl | hpos
    · exact ⟨[], 0, 0, rfl, Nat.zero_le _, pnil _⟩
    obtain ⟨b, off, spot⟩ := a
    have hspot : spot = none := by
      have h0 := (World.cells?_some (hf 0 hpos).1).2.2 0 (by omega)
      simp only [Nat.zero_mul, List.getElem?_cons_zero] at h0
      simpa [Addr.add] using World.cell?_spot h0
    subst hspot
    have hcell : ∀ i, i < len → ∀ j, j < 7 → w.cell? ⟨b, off + i * 7 + j, none⟩ = [Value.int .u8 ((f i).1.q : Int), .int .i64 (f i).1.n, .string (f i).1.s, .int .i64 (f i).1.v.k, .int .i64 (f i).1.v.i, .string (f i).1.v.s, .slice (f i).1.v.a (f i).1.v.n (f i).1.v.c][j]? := by
      intro i hi' j hj
      have := (World.cells?_some (hf i hi').1).2.2 j hj
      rwa [Go.WideShapes.add_plain, Go.WideShapes.add_plain] at this
    have hln : ((List.range len).map f).length = len := by simp
    refine ⟨(List.range len).map f, b, off, hln, by omega, ⟨fun _ => rfl, ?_, ?_, ?_, ?_, ?_, ?_, ?_, ?_, ?_⟩⟩
    · intro j hj; simpa using hcell j (by omega) 0 (by omega)
    · intro j hj; simpa using hcell j (by omega) 1 (by omega)
    · intro j hj; simpa using hcell j (by omega) 2 (by omega)
    · intro j hj; simpa using hcell j (by omega) 3 (by omega)
    · intro j hj; simpa using hcell j (by omega) 4 (by omega)
    · intro j hj; simpa using hcell j (by omega) 5 (by omega)
    · intro j hj; simpa using hcell j (by omega) 6 (by omega)
    · intro x hx
      obtain ⟨i, hi', rfl⟩ := List.mem_map.1 hx
      exact (hf i (by simpa using hi')).2.1
    · intro x hx
      obtain ⟨i, hi', rfl⟩ := List.mem_map.1 hx
      exact (hf i (by simpa using hi')).2.2
end
end Go.Proofs.Ytebadbnlihbecaa
