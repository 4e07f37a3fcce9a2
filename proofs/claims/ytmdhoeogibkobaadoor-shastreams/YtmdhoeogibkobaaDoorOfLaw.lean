/- P1.1, P1.3: of all parts the fingerprint is that of their bytes, one behind the other: the walk of the law; parts that came in. -/
import Derived.Test.YtmdhoeogibkobaaDoorFewP
import Derived.Test.YtmdhoeogibkobaaDoorRefJoin
import Derived.Test.YtmdhoeogibkobaaDoorRow
import Derived.Deep.Slices
namespace Go.Proofs.YtmdhoeogibkobaaDoor
open Go.ChangeShapes Go.WideShapes Go.ChangeAt Go.RowKit Go.Deep

theorem fewS_joined : ∀ ps : List Part, fewS ps ≤ 9999 → (joined ps).length = fewS ps
  | [], _ => rfl
  | p :: ps, h => by
    have e : fewS (p :: ps) = min p.l.length 10000 + fewS ps := by simp [fewS]
    rw [e] at h ⊢
    have ih := fewS_joined ps (by omega)
    have ej : (joined (p :: ps)).length = p.l.length + (joined ps).length := by simp [joined]
    rw [ej, ih]; omega
/-- the parts of a law: what came in -/
structure Came (w : World) (ap : Option Addr) (gp op : Nat) (ps : List Part) : Prop where
  parts : PartsIn w ap gp op ps
  nil : ∀ p ∈ ps, p.ad = none → p.cap = 0
  most : ps.length ≤ maxLen
  each : ∀ p ∈ ps, p.l.length ≤ maxLen
set_option maxRecDepth 100000 in
set_option maxHeartbeats 1000000 in
theorem of_long (w : World) (ps : List Part) (ap : Option Addr) (gp op cp : Nat) (hc : Came w ap gp op ps) (ht : Tab w) (hf : (decide ((ps.length : Int) ≤ 100) && decide ((fewS (ps.take 200) : Int) ≤ 1000)) = false) :
    Calls Tryd.prog 3 #[.slice ap ps.length cp] w fun e w' => e = .returned (.bool true) ∧ Below w.heap.size w w' := by
  have h0 := ht.size
  have HT := Lib.hid ht
  have F : Hid (∀ W, Below w.heap.size w W → Calls Tryd.prog 9 #[.slice ap ps.length cp, .int .i64 1000] W fun e w' => e = .returned (.bool false) ∧ W = w') := Lib.hid (by
    intro W hW; rw [← hf]; exact few_any W ps ap gp op cp 1000 (hc.parts.below hW) hc.most hc.each)
  clear hc ht hf
  go_enter Tryd.func3, Tryd.ntmps3
  go_wp2_with fail
  refine (awake_any w HT.out).mono ?_
  rintro e w1 ⟨rfl, hb1⟩
  have HB1 := Lib.hid hb1
  clear hb1
  go_wp2_with fail
  refine (F.out _ HB1.out).mono ?_
  rintro e w' ⟨rfl, rfl⟩
  go_wp2_with fail
  refine (awake_any w1 (HT.out.below HB1.out h0)).mono ?_
  rintro e w2 ⟨rfl, hb2⟩
  have HB2 := Lib.hid (HB1.out.trans (hb2.mono HB1.out.size))
  clear hb2
  go_wp2_with fail
  go_ret
  exact ⟨rfl, HB2.out⟩
set_option maxRecDepth 100000 in
set_option maxHeartbeats 1000000 in
theorem of_short (w : World) (ps : List Part) (ap : Option Addr) (gp op cp : Nat) (hc : Came w ap gp op ps) (ht : Tab w) (hf : (decide ((ps.length : Int) ≤ 100) && decide ((fewS (ps.take 200) : Int) ≤ 1000)) = true) :
    Calls Tryd.prog 3 #[.slice ap ps.length cp] w fun e w' => e = .returned (.bool true) ∧ Below w.heap.size w w' := by
  have h0 := ht.size
  have HT := Lib.hid ht
  have F : Hid (∀ W, Below w.heap.size w W → Calls Tryd.prog 9 #[.slice ap ps.length cp, .int .i64 1000] W fun e w' => e = .returned (.bool true) ∧ W = w') := Lib.hid (by
    intro W hW; rw [← hf]; exact few_any W ps ap gp op cp 1000 (hc.parts.below hW) hc.most hc.each)
  rw [Bool.and_eq_true] at hf
  have hl : ps.length ≤ 100 := by have := of_decide_eq_true hf.1; omega
  have hs : fewS ps ≤ 1000 := by have := of_decide_eq_true hf.2; rw [List.take_of_length_le (by omega)] at this; omega
  have hj : (joined ps).length ≤ 1000 := by rw [fewS_joined ps (by omega)]; exact hs
  have HO : Hid (∀ W, Below w.heap.size w W → Calls Tryd.prog 10 #[.slice ap ps.length cp] W fun e w' => e = .returned (H (joined ps)) ∧ Below W.heap.size W w') := Lib.hid (by
    intro W hW; exact of_any W ps ap gp op cp (hc.parts.below hW) (HT.out.below hW h0) (by omega) (by omega))
  have HJ : Hid (∀ W, Below w.heap.size w W → Calls Tryd.prog 12 #[.slice ap ps.length cp] W fun e w' => ∃ v, e = .returned v ∧ w'.ownsRow W.heap.size 5 1 v (joined ps).length ((joined ps).map B) ∧ Below W.heap.size W w') := Lib.hid (by
    intro W hW; exact joined_any W ps ap gp op cp (hc.parts.below hW) hc.nil (by omega) (by omega))
  have HLj := Lib.hid hj
  clear hc ht hf hs hj
  have heq := eqlH (joined ps) (joined ps)
  rw [show (shaOf (joined ps) == shaOf (joined ps)) = true from beq_self_eq_true _] at heq
  have hgu := fun x y => guardH (joined ps) (joined ps) x y
  go_enter Tryd.func3, Tryd.ntmps3
  go_wp2_with fail
  refine (awake_any w HT.out).mono ?_
  rintro e w1 ⟨rfl, hb1⟩
  have HB1 := Lib.hid hb1
  clear hb1
  go_wp2_with fail
  refine (F.out _ HB1.out).mono ?_
  rintro e w' ⟨rfl, rfl⟩
  go_wp2_with fail
  refine (HO.out _ HB1.out).mono ?_
  rintro e w2 ⟨rfl, hb2⟩
  have HB2 := Lib.hid (HB1.out.trans (hb2.mono HB1.out.size))
  clear hb2 F HO
  go_wp2_with fail
  refine (HJ.out _ HB2.out).mono ?_
  rintro e w3 ⟨v, rfl, hown, hb3⟩
  have HB3 := Lib.hid (HB2.out.trans (hb3.mono HB2.out.size))
  obtain ⟨q, rfl, hqin, hql, _, _, _⟩ := part_of_own hown (by have := hb3.size; have := HB2.out.size; omega)
  have HSu : Hid (Calls Tryd.prog 11 #[q.val] w3 fun e w' => e = .returned (H (joined ps)) ∧ Below w3.heap.size w3 w') := Lib.hid (by
    have h := refsum_any w3 q hqin (by rw [hql]; have := HLj.out; omega)
    rwa [hql] at h)
  clear hown hb3 HJ hqin hql
  go_wp2_with fail
  refine HSu.out.mono ?_
  rintro e w4 ⟨rfl, hb4⟩
  have HB4 := Lib.hid (HB3.out.trans (hb4.mono HB3.out.size))
  clear hb4 HSu
  go_wp2_with fail
  go_ret
  exact ⟨rfl, HB4.out⟩

instance : Inhabited Part := ⟨⟨none, 0, 0, 0, []⟩⟩
section
variable {H : Type} {enc : TypeId × Value → H} {w : World} {base : Nat} {spare : Nat → Bool} {held : Bool}
/-- a slice of bytes that is read -/
theorem row_of_trod {fuel : Nat} {v : Value} {d : DataW H × List MemPlace} (h : DataW.trod enc Tryd.prog w base (fun _ => true) held fuel 29 [v] = some d) : ∃ a len cap zs, v = .slice a len cap ∧ IsRow w a len cap zs ∧ len ≤ maxLen := by
  rcases open_ints Tryd.underlying29 Tryd.underlying5 (by kernel_rfl) h with ⟨hcs, _⟩ | ⟨x, l, c, zs, hcs, _, hl, hm, hz, _, hcell, hwz⟩
  · simp only [List.cons.injEq, and_true] at hcs
    exact ⟨none, 0, 0, [], hcs, .inl ⟨rfl, rfl, rfl, rfl⟩, Nat.zero_le _⟩
  · simp only [List.cons.injEq, and_true] at hcs
    exact ⟨some x, l, c, zs, hcs, .inr ⟨_, rfl, hl, hm, by simpa using hz, hcell, hwz⟩, Nat.le_trans hl hm⟩
theorem came_of_trod {fuel : Nat} {ad : Option Addr} {len cap : Nat} {d : DataW H × List MemPlace} (h0 : 0 < w.heap.size) (h : DataW.trod enc Tryd.prog w base (fun _ => true) held fuel 22 [.slice ad len cap] = some d) :
    ∃ (ps : List Part) (g o : Nat), ps.length = len ∧ Came w ad g o ps := by
  rcases open_slice1 Tryd.underlying22 (by kernel_rfl) h with ⟨e, _⟩ | h'
  · simp only [List.cons.injEq, and_true, Value.slice.injEq] at e
    obtain ⟨rfl, rfl, rfl⟩ := e
    exact ⟨[], 0, 0, rfl, ⟨⟨fun h => absurd rfl h, (fun i hi => absurd hi (by simp)), h0, (fun p hp => by cases hp)⟩, (fun p hp => by cases hp), Nat.zero_le _, (fun p hp => by cases hp)⟩⟩
  · obtain ⟨a, len', cap', m, n, V, D, Pl, e, hb, hl, hm, hmm, _, hi⟩ := h'
    simp only [List.cons.injEq, and_true, Value.slice.injEq] at e
    obtain ⟨rfl, rfl, rfl⟩ := e
    have hlm : len ≤ m := by rw [hmm]; split <;> omega
    have hel : ∀ i, i < len → ∃ p : Part, w.cell? (a.add i) = some p.val ∧ p.In w ∧ (p.ad = none → p.cap = 0) ∧ p.l.length ≤ maxLen := by
      intro i hi'
      obtain ⟨h1, h2⟩ := hi i (by omega)
      obtain ⟨a', l', c', zs, hv, hrow, hml⟩ := row_of_trod h2
      obtain ⟨p, hp, hin, hlen⟩ := part_of_row h0 hrow
      refine ⟨p, by rw [hp, ← hv]; exact h1, hin, fun hnone => ?_, by omega⟩
      unfold Part.val at hp
      injection hp with e1 e2 e3
      rcases hrow with ⟨r1, r2, r3, _⟩ | ⟨x, r1, _⟩
      · rw [e3, r3]
      · rw [e1, r1] at hnone; cases hnone
    obtain ⟨f, hf⟩ := choose_lt hel
    rcases Nat.eq_zero_or_pos len with rfl | hpos
    · exact ⟨[], 0, 0, rfl, ⟨⟨fun h => absurd rfl h, (fun i hi => absurd hi (by simp)), h0, (fun p hp => by cases hp)⟩, (fun p hp => by cases hp), Nat.zero_le _, (fun p hp => by cases hp)⟩⟩
    obtain ⟨b, off, spot⟩ := a
    have hspot : spot = none := by
      have hc := (hf 0 hpos).1
      simpa [Addr.add] using World.cell?_spot hc
    subst hspot
    have hln : ((List.range len).map f).length = len := by simp
    refine ⟨(List.range len).map f, b, off, hln, ⟨⟨fun _ => rfl, ?_, ?_, ?_⟩, ?_, by rw [hln]; omega, ?_⟩⟩
    · intro i hi'
      have := (hf i (by omega)).1
      rw [Go.WideShapes.add_plain] at this
      simpa using this
    · have hc := (hf 0 hpos).1
      exact block_lt_of_cell hc
    · intro p hp
      obtain ⟨i, hi', rfl⟩ := List.mem_map.1 hp
      exact (hf i (by simpa using hi')).2.1
    · intro p hp
      obtain ⟨i, hi', rfl⟩ := List.mem_map.1 hp
      exact (hf i (by simpa using hi')).2.2.1
    · intro p hp
      obtain ⟨i, hi', rfl⟩ := List.mem_map.1 hp
      exact (hf i (by simpa using hi')).2.2.2
end
end Go.Proofs.YtmdhoeogibkobaaDoor
