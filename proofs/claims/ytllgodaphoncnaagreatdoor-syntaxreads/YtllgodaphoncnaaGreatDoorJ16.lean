/- P2.1, the bags: values put one by one where they belong; P2.1, the bags: the program's Bag. -/
import Derived.Test.YtllgodaphoncnaaGreatDoorVBag
import Derived.Test.YtllgodaphoncnaaGreatDoorJ12
import Derived.Test.YtllgodaphoncnaaGreatDoorJ15
namespace Go.Proofs.YtllgodaphoncnaaGreatDoor
open Go.RowKit

/-- the place of a value: behind all that are below it -/
def place (l : List Val) (t : Val) : Nat := l.findIdx fun y => !decide (y.ord t < 0)
set_option maxRecDepth 100000 in
theorem spot_place {l : List Val} {t : Val} (hr : Rising l) : Spot l t (place l t) := by
  obtain ⟨p, hp⟩ := spot_exists l t hr
  obtain rfl : place l t = p := by
    rcases Nat.lt_or_ge p l.length with h | h
    · unfold place
      rw [List.findIdx_eq h]
      exact ⟨by simpa using hp.behind p h (Nat.le_refl _), fun j hj => by simpa using hp.ahead j (by omega) hj⟩
    · have e : p = l.length := Nat.le_antisymm hp.le h
      rw [e]
      refine List.findIdx_eq_length_of_false fun y hy => ?_
      obtain ⟨j, hj, rfl⟩ := List.mem_iff_getElem.1 hy
      simpa using hp.ahead j hj (by omega)
  exact hp
/-- a value without its list -/
def bare (t : Val) : Val := ⟨t.k, t.i, t.s, none, 0, 0⟩
set_option maxRecDepth 100000 in
theorem bare_ord (t y : Val) : (bare t).ord y = t.ord y := rfl
set_option maxRecDepth 100000 in
theorem ord_bare (t y : Val) : y.ord (bare t) = y.ord t := rfl
/-- one more into the bag -/
def bagStep (h : List Val) (t : Val) : List Val := if foundAt h t (place h t) then h else h.take (place h t) ++ bare t :: h.drop (place h t)
set_option maxRecDepth 100000 in
/-- an owned row of values is a list of values -/
theorem own_list {w : World} {base : Nat} {v : Value} {l : List Val} (h : w.ownsRow base 24 4 v l.length (cellsL l)) (hs : ∀ x ∈ l, x.s.size ≤ maxLen) :
    ∃ ad g cp, v = .slice ad l.length cp ∧ ListAt w ad g 0 l ∧ (l ≠ [] → base ≤ g) := by
  rcases h.2 with ⟨rfl, hn⟩ | ⟨g, cap, cur, rfl, hb, hg, hc, hm, hcs, ht⟩
  · have : l = [] := List.eq_nil_of_length_eq_zero hn
    subst this
    exact ⟨none, 0, 0, rfl, ⟨fun h => absurd rfl h, fun j hj => absurd hj (by simp), fun j hj => absurd hj (by simp), fun j hj => absurd hj (by simp), fun j hj => absurd hj (by simp), fun x hx => by cases hx⟩, fun h => absurd rfl h⟩
  · have key : ∀ j, (hj : j < l.length) → ∀ k, k < 4 → w.cell? ⟨g, j * 4 + k, none⟩ = (l[j].cells)[k]? := by
      intro j hj k hk
      rw [cell_block hg (j * 4 + k)]
      have e : (cellsL l)[j * 4 + k]? = cur[j * 4 + k]? := by
        rw [← ht, List.getElem?_take, if_pos (by omega)]
        simp
      rw [← e, ← List.getElem?_drop, drop_cellsL l j (by omega), List.drop_eq_getElem_cons hj]
      show (l[j].cells ++ cellsL (l.drop (j + 1)))[k]? = _
      rw [List.getElem?_append_left hk]
    refine ⟨some ⟨g, 0, none⟩, g, cap, rfl, ⟨fun _ => rfl, fun j hj => ?_, fun j hj => ?_, fun j hj => ?_, fun j hj => ?_, hs⟩, fun _ => hb⟩
    · simpa [Val.cells] using key j hj 0 (by omega)
    · simpa [Val.cells] using key j hj 1 (by omega)
    · simpa [Val.cells] using key j hj 2 (by omega)
    · simpa [Val.cells] using key j hj 3 (by omega)
set_option maxRecDepth 100000 in
/-- a list lies where it lay, another block being written -/
theorem ListAt.set4 {w : World} {ad : Option Addr} {g o : Nat} {l : List Val} (h : ListAt w ad g o l) {b : Nat} (hne : l ≠ [] → g ≠ b) (x y z u : Value) :
    ListAt ((((w.setCell ⟨b, 0, none⟩ x).setCell ⟨b, 1, none⟩ y).setCell ⟨b, 2, none⟩ z).setCell ⟨b, 3, none⟩ u) ad g o l := by
  have key : ∀ j, j < l.length → ∀ q, ((((w.setCell ⟨b, 0, none⟩ x).setCell ⟨b, 1, none⟩ y).setCell ⟨b, 2, none⟩ z).setCell ⟨b, 3, none⟩ u).cell? ⟨g, q, none⟩ = w.cell? ⟨g, q, none⟩ := by
    intro j hj q
    have hgb : g ≠ b := hne (by intro e; subst e; simp at hj)
    have hn : ∀ r, (⟨b, r, none⟩ : Addr) ≠ ⟨g, q, none⟩ := fun r e => hgb (by injection e with e1; exact e1.symm)
    rw [World.cell?_setCell_other _ _ _ _ (hn _), World.cell?_setCell_other _ _ _ _ (hn _), World.cell?_setCell_other _ _ _ _ (hn _), World.cell?_setCell_other _ _ _ _ (hn _)]
  exact ⟨h.at', fun j hj => by rw [key j hj]; exact h.c0 j hj, fun j hj => by rw [key j hj]; exact h.c1 j hj, fun j hj => by rw [key j hj]; exact h.c2 j hj, fun j hj => by rw [key j hj]; exact h.c3 j hj, h.size⟩
set_option maxRecDepth 100000 in
/-- what is put where it belongs leaves the row rising -/
theorem rising_step {h : List Val} {t : Val} (hr : Rising h) : Rising (bagStep h t) := by
  have hs := spot_place (t := t) hr
  unfold bagStep
  split
  · exact hr
  rename_i hf
  have hp := hs.le
  have hpos : ∀ j, (hj : j < h.length) → place h t ≤ j → t.ord h[j] < 0 := by
    intro j hj hpj
    have h1 := hs.behind j hj hpj
    have h0 : h[j].ord t ≠ 0 := by
      intro e
      have := found_any hr hs
      rw [show foundAt h t (place h t) = false by simpa using hf] at this
      have h2 : h.any (fun x => x.ord t == 0) = true := List.any_eq_true.2 ⟨h[j], List.getElem_mem _, by simp [e]⟩
      rw [h2] at this; cases this
    rw [isCmp_ord.anti h[j] t]
    omega
  have hpw : h.Pairwise (fun a b => a.ord b < 0) := List.pairwise_iff_getElem.2 fun i j hi hj hij => hr i j hi hj hij
  have hall : (h.take (place h t) ++ bare t :: h.drop (place h t)).Pairwise (fun a b => a.ord b < 0) := by
    refine List.pairwise_append.2 ⟨hpw.sublist (List.take_sublist _ _), List.pairwise_cons.2 ⟨fun b hb => ?_, hpw.sublist (List.drop_sublist _ _)⟩, fun a ha b hb => ?_⟩
    · obtain ⟨j, hj, rfl⟩ := List.mem_drop_iff_getElem.1 hb
      exact hpos _ (by omega) (by omega)
    · obtain ⟨j, hj, rfl⟩ := List.mem_take_iff_getElem.1 ha
      rcases List.mem_cons.1 hb with rfl | hb
      · exact hs.ahead j (by omega) (by omega)
      · obtain ⟨q, hq, rfl⟩ := List.mem_drop_iff_getElem.1 hb
        exact hr _ _ (by omega) (by omega) (by omega)
  exact fun i j hi hj hij => List.pairwise_iff_getElem.1 hall i j hi hj hij
set_option maxRecDepth 100000 in
theorem length_step (h : List Val) (t : Val) (hp : place h t ≤ h.length) : (bagStep h t).length = if foundAt h t (place h t) then h.length else h.length + 1 := by
  unfold bagStep
  split
  · rfl
  · simp; omega
/-- the bag so far -/
def bagTo (l : List Val) : List Val := l.foldl bagStep []
set_option maxRecDepth 100000 in
theorem bagTo_snoc (l : List Val) (k : Nat) (hk : k < l.length) : bagTo (l.take (k + 1)) = bagStep (bagTo (l.take k)) l[k]! := by
  rw [getElem!_pos l k hk, List.take_succ_eq_append_getElem hk, bagTo, List.foldl_append]; rfl
set_option maxRecDepth 100000 in
theorem rising_bagTo (l : List Val) : ∀ h, Rising h → Rising (l.foldl bagStep h) := by
  induction l with
  | nil => intro h hr; exact hr
  | cons x l ih => intro h hr; exact ih _ (rising_step hr)
set_option maxRecDepth 100000 in
theorem rising_bagged (l : List Val) : Rising (bagTo l) := rising_bagTo l [] (fun i j hi => by simp at hi)
set_option maxRecDepth 100000 in
theorem small_step {h : List Val} {t : Val} (hh : ∀ x ∈ h, x.s.size ≤ maxLen) (ht : t.s.size ≤ maxLen) : ∀ x ∈ bagStep h t, x.s.size ≤ maxLen := by
  intro x hx
  unfold bagStep at hx
  split at hx
  · exact hh x hx
  · rcases List.mem_append.1 hx with h1 | h1
    · exact hh x (List.mem_of_mem_take h1)
    · rcases List.mem_cons.1 h1 with rfl | h1
      · exact ht
      · exact hh x (List.mem_of_mem_drop h1)
end Go.Proofs.YtllgodaphoncnaaGreatDoor
namespace Go.Proofs.YtllgodaphoncnaaGreatDoor
open Go.RowKit

set_option maxRecDepth 100000 in
theorem place_le (h : List Val) (t : Val) : place h t ≤ h.length := List.findIdx_le_length
set_option maxRecDepth 100000 in
theorem step_ge (h : List Val) (t : Val) : h.length ≤ (bagStep h t).length := by
  rw [length_step h t (place_le h t)]; split <;> omega
set_option maxRecDepth 100000 in
theorem fold_ge (l : List Val) : ∀ h : List Val, h.length ≤ (l.foldl bagStep h).length := by
  induction l with
  | nil => intro h; exact Nat.le_refl _
  | cons x l ih => intro h; exact Nat.le_trans (step_ge h x) (ih _)
set_option maxRecDepth 100000 in
theorem bagTo_ge (l : List Val) (k : Nat) : (bagTo (l.take k)).length ≤ (bagTo l).length := by
  conv => rhs; rw [← List.take_append_drop k l, bagTo, List.foldl_append]
  exact fold_ge _ _
/-- the error of a bag -/
def bagE (l : List Val) (F : Nat → Bool) : Int := if mayB l F = 0 then (if 16 < (bagTo l).length then 13 else 0) else mayB l F
/-- the bag -/
structure BagIs (w : World) (l : List Val) (e : Int) (y : Val) (ly : List Val) : Prop where
  full : Full w y ly
  good : e = 0 → y.k = 5 ∧ y.i = 0 ∧ y.s = ⟨#[]⟩ ∧ ly = bagTo l
  bad : e ≠ 0 → y = ⟨0, 0, ⟨#[]⟩, none, 0, 0⟩ ∧ ly = []
set_option maxRecDepth 100000 in
theorem bagIs_bad {w : World} {l : List Val} {e : Int} (h : e ≠ 0) : BagIs w l e ⟨0, 0, ⟨#[]⟩, none, 0, 0⟩ [] :=
  ⟨⟨⟨0, 0, ⟨fun h => absurd rfl h, fun j hj => absurd hj (by simp), fun j hj => absurd hj (by simp), fun j hj => absurd hj (by simp), fun j hj => absurd hj (by simp), fun x hx => by cases hx⟩⟩, rfl, by decide, by decide⟩, fun h0 => absurd h0 h, fun _ => ⟨rfl, rfl⟩⟩
/-- what the loop over the values keeps -/
structure BagRel (w1 : World) (h : List Val) (v : Value) (wr : World) : Prop where
  own : wr.ownsRow w1.heap.size 24 4 v h.length (cellsL h)
  below : Below w1.heap.size w1 wr
  small : ∀ x ∈ h, x.s.size ≤ maxLen

set_option maxRecDepth 100000 in
theorem own_on4 {w w' : World} {base : Nat} {v : Value} {n : Nat} {xs : List Value} (h : w.ownsRow base 24 4 v n xs) (hk : ∀ g, base ≤ g → g < w.heap.size → w'.heap[g]? = w.heap[g]?) : w'.ownsRow base 24 4 v n xs := by
  obtain ⟨h1, h2⟩ := h
  refine ⟨h1, ?_⟩
  rcases h2 with h2 | ⟨g, cap, cur, e, hb, hg, hc, hm, hsz, ht⟩
  · exact .inl h2
  · exact .inr ⟨g, cap, cur, e, hb, (hk g hb (lt_block hg)).trans hg, hc, hm, hsz, ht⟩
set_option maxRecDepth 100000 in
theorem listAt_no (w : World) (ad : Option Addr) (N : Nat) : ∃ g o, ListAt w ad g o [] ∧ (([] : List Val) ≠ [] → N ≤ g) :=
  ⟨0, 0, ⟨fun h => absurd rfl h, (fun j hj => absurd hj (by simp)), (fun j hj => absurd hj (by simp)), (fun j hj => absurd hj (by simp)), (fun j hj => absurd hj (by simp)), (fun x hx => by cases hx)⟩, fun h => absurd rfl h⟩
set_option maxRecDepth 100000 in
set_option maxHeartbeats 2000000 in
theorem bagN_any (w : World) (l : List Val) (ad : Option Addr) (g o cp : Nat) (F : Nat → Bool) (hl : ListAt w ad g o l) (hm : l.length ≤ 100000) (hF : ∀ j, (h : j < l.length) → FormedIs w l[j].v (F j)) :
    Calls Tryz.prog 161 #[.slice ad l.length cp] w fun e w' => ∃ y ly, e = .returned (.tuple #[y.v, .int .i64 (bagE l F)]) ∧ BagIs w' l (bagE l F) y ly ∧ Below w.heap.size w w' ∧ ∃ g o, ListAt w' y.a g o ly ∧ (ly ≠ [] → w.heap.size ≤ g) := by
  have HL := Lib.hid hl
  have HF := Lib.hid hF
  clear hl hF
  go_enter Tryz.func161, Tryz.ntmps161
  go_wp2_with fail
  have h0 : Below w.heap.size w (w.alloc (.cells #[.int .i64 0, .int .i64 0, .string ⟨#[]⟩, .slice none 0 0] 24)) := (Below.refl _ _).alloc (Nat.le_refl _) _
  refine (mayBag_any _ l ad g o cp F (HL.out.below h0) (by unfold maxLen; omega) (fun j h => (HF.out j h).below h0)).mono ?_
  rintro e w1 ⟨rfl, h1⟩
  have hs1 : w.heap.size + 1 ≤ w1.heap.size := by have := h1.size; simpa using this
  have hb1 : Below w.heap.size w w1 := h0.trans (h1.mono (by simp))
  have hz : w1.heap[w.heap.size]? = some (.cells #[.int .i64 0, .int .i64 0, .string ⟨#[]⟩, .slice none 0 0] 24 (0, 0)) := by
    rw [h1.block _ (by simp)]; exact heap_alloc_new _ _
  by_cases e0 : mayB l F = 0
  case neg =>
    have hbe : bagE l F = mayB l F := by rw [bagE, if_neg e0]
    obtain ⟨hc, hf⟩ := bcell h1
    have e0' : (mayB l F != 0) = true := by simpa using e0
    generalize mayB l F = E at *
    go_wp2
    exact bodyPost_ret (v := .tuple #[(⟨0, 0, ⟨#[]⟩, none, 0, 0⟩ : Val).v, .int .i64 E]) (by simp [results, Tryz.results161, go_sem, hc, Val.v, V]) rfl ⟨_, _, by rw [hbe], bagIs_bad (by rw [hbe]; exact e0), below_set4 hb1 _ (Nat.le_refl _) _ _ _ _, listAt_no _ _ _⟩
  have hbe : bagE l F = if 16 < (bagTo l).length then 13 else 0 := by rw [bagE, if_pos e0]
  rw [e0]
  have HBE := Lib.hid hbe
  have HB1 := Lib.hid hb1
  have HZ := Lib.hid hz
  have HR0 : Hid (BagRel w1 (bagTo (l.take 0)) (.slice none 0 0) w1) := Lib.hid ⟨World.ownsRow_nil _ _ _ _, Below.refl _ _, fun x hx => by cases hx⟩
  clear h0 h1 hb1 hz hbe e0 HF
  go_wp2_with fail
  go_loopw [5, 18] (fun v i wr => ∃ k : Nat, k ≤ l.length ∧ (bagTo (l.take k)).length ≤ 16 ∧ i = .int .i64 k ∧ Hid (BagRel w1 (bagTo (l.take k)) v wr)) (fun _ i _ => l.length - (intOf i).toNat)
  case atStart => exact ⟨0, by omega, by simp [bagTo], rfl, HR0⟩
  case round =>
    clear HR0
    obtain ⟨k, hk, h16, rfl, HR⟩ := hrel
    by_cases hlt : k < l.length
    · obtain rfl := HL.out.at' (by intro e; subst e; simp at hlt)
      have hs0 := HR.out.below.size
      have HBr := Lib.hid (HB1.out.trans (HR.out.below.mono (by omega)))
      obtain ⟨x, hX⟩ : ∃ x, l[k]! = x := ⟨_, rfl⟩
      have hsn := bagTo_snoc l k hlt
      rw [hX] at hsn
      have hlw := HL.out.below HBr.out
      have e : x = l[k] := by rw [← hX]; exact getElem!_pos l k hlt
      have c0 := hlw.c0 k hlt
      have c1 := hlw.c1 k hlt
      have c2 := hlw.c2 k hlt
      have c3 := hlw.c3 k hlt
      have hxs : x.s.size ≤ maxLen := by rw [e]; exact HL.out.size _ (List.getElem_mem _)
      rw [← e] at c0 c1 c2 c3
      have hge := bagTo_ge l (k + 1)
      have hri := rising_bagged (l.take k)
      obtain ⟨h, hh⟩ : ∃ h, bagTo (l.take k) = h := ⟨_, rfl⟩
      rw [hh] at hsn hri HR h16
      rw [hsn] at hge
      have HSN := Lib.hid hsn
      have hgz : g < wr.heap.size := block_lt_of_cell c0
      obtain ⟨va, vg, vc, rfl, hla, hvg⟩ := own_list HR.out.own HR.out.small
      have S : Hid (∀ W, Below wr.heap.size wr W → Calls Tryz.prog 167 #[.slice va h.length vc, .agg #[.int .i64 x.k, .int .i64 x.i, .string x.s, .slice x.a x.n x.c], .func (.func 168) #[] #[]] W
          fun e w' => e = .returned (.tuple #[.int .i64 (place h x : Int), .bool (foundAt h x (place h x))]) ∧ Below W.heap.size W w') := Lib.hid (by
        intro W hW
        exact search_any W h va vg 0 vc x (place h x) (hla.below hW) (spot_place hri) (by omega))
      have HXS := Lib.hid hxs
      have HGE := Lib.hid hge
      have HRI := Lib.hid hri
      clear hX hlw e hxs hge hri hla hsn hh hvg
      go_wp2_with fail
      refine (S.out _ ((Below.refl _ _).alloc (Nat.le_refl _) _)).mono ?_
      rintro e w2 ⟨rfl, hb2⟩
      have hB2 : Below wr.heap.size wr w2 := ((Below.refl _ _).alloc (Nat.le_refl _) _).trans (hb2.mono (by simp))
      have hxb : w2.heap[wr.heap.size]? = some (.cells #[.int .i64 x.k, .int .i64 x.i, .string x.s, .slice x.a x.n x.c] 24 (0, 0)) := by rw [hb2.block _ (by simp)]; exact heap_alloc_new _ _
      have hR2 : BagRel w1 h (.slice va h.length vc) w2 := ⟨own_on4 HR.out.own fun g _ hg => hB2.block g hg, HR.out.below.trans (hB2.mono hs0), HR.out.small⟩
      have HR2 := Lib.hid hR2
      have HXB := Lib.hid hxb
      have hs2 : wr.heap.size < w2.heap.size := lt_block hxb
      have hz2 : w2.heap[w.heap.size]? = some (.cells #[.int .i64 0, .int .i64 0, .string ⟨#[]⟩, .slice none 0 0] 24 (0, 0)) := by rw [hR2.below.block _ (by omega)]; exact HZ.out
      have HZ2 := Lib.hid hz2
      have HBw2 := Lib.hid (HB1.out.trans (hR2.below.mono (by omega)))
      have hlen := length_step h x (place_le h x)
      obtain ⟨fo, hfo⟩ : ∃ fo, foundAt h x (place h x) = fo := ⟨_, rfl⟩
      rw [hfo] at hlen ⊢
      have HFO := Lib.hid hfo
      clear hb2 hB2 hxb hR2 hz2 c0 c1 c2 c3 S HR hfo
      cases fo
      case true =>
        go_wp2_with fail
        go_roundw
        case rel => exact ⟨k + 1, by omega, by rw [HSN.out, hlen]; simpa using h16, by go_num, Lib.hid (by rw [HSN.out, bagStep, HFO.out]; exact HR2.out)⟩
        case measure => simp [intOf]; omega
      rw [if_neg (by decide)] at hlen
      by_cases h17 : h.length = 16
      · have hbe13 : bagE l F = 13 := by rw [HBE.out, if_pos (by have := HGE.out; omega)]
        have HB13 := Lib.hid hbe13
        have z0 := cell_block HZ2.out 0
        have z1 := cell_block HZ2.out 1
        have z2 := cell_block HZ2.out 2
        have z3 := cell_block HZ2.out 3
        have zf : ∀ o, w2.frozen? ⟨w.heap.size, o, none⟩ = false := fun o => by simp [World.frozen?, HZ2.out]
        simp at z0 z1 z2 z3
        clear hbe13
        have HBw2z := HBw2
        go_wp2_with fail
        exact bodyPost_ret (v := .tuple #[(⟨0, 0, ⟨#[]⟩, none, 0, 0⟩ : Val).v, .int .i64 13]) (by simp [results, Tryz.results161, go_sem, z0, z1, z2, z3, Val.v, V]) rfl ⟨_, _, by rw [HB13.out], bagIs_bad (by rw [HB13.out]; decide), below_set4 HBw2.out _ (Nat.le_refl _) _ _ _ _, listAt_no _ _ _⟩
      · have h17' : ((h.length : Int) == 16) = false := by simp; omega
        have x0 := cell_block HXB.out 0
        have x1 := cell_block HXB.out 1
        have x2 := cell_block HXB.out 2
        have x3 := cell_block HXB.out 3
        simp at x0 x1 x2 x3
        have I : Hid (∀ W, Below w2.heap.size w2 W → W.heap[w2.heap.size]? = some (.cells #[.int .i64 x.k, .int .i64 x.i, .string x.s, .slice none 0 0] 24 (0, 0)) →
            Calls Tryz.prog 169 #[.slice va h.length vc, .int .i64 (place h x : Int), .slice (some ⟨w2.heap.size, 0, none⟩) 1 1] W fun e w' => ∃ v', e = .returned v' ∧ BagRel w1 (bagStep h x) v' w') := Lib.hid (by
          intro W hW hG
          have hown := own_on4 (w' := W) HR2.out.own fun g _ hg => hW.block g hg
          have hbW : Below w1.heap.size w1 W := HR2.out.below.trans (hW.mono HR2.out.below.size)
          refine (insert_any W w1.heap.size _ h (place h x) (place_le h x) (by omega) hown w2.heap.size (bare x) hG (fun e => by have := (HR2.out.own.lt _ e).2; omega) hbW.size).mono ?_
          rintro e w' ⟨v', rfl, ho', hb'⟩
          have hst : bagStep h x = h.take (place h x) ++ bare x :: h.drop (place h x) := by rw [bagStep, HFO.out]; rfl
          refine ⟨v', rfl, ?_, hbW.trans hb', small_step HR2.out.small HXS.out⟩
          rw [hlen, hst]; exact ho')
        go_wp2_with fail
        refine (I.out _ ((Below.refl _ _).alloc (Nat.le_refl _) _) (heap_alloc_new _ _)).mono ?_
        rintro e w3 ⟨v', rfl, hR3⟩
        have HR3 := Lib.hid hR3
        clear hR3 I x0 x1 x2 x3
        go_wp2_with fail
        go_roundw
        case rel => exact ⟨k + 1, by omega, by rw [HSN.out, hlen]; omega, by go_num, Lib.hid (by rw [HSN.out]; exact HR3.out)⟩
        case measure => simp [intOf]; omega
    · obtain rfl : k = l.length := by omega
      have hbl : bagTo (l.take l.length) = bagTo l := by rw [List.take_length]
      rw [hbl] at HR h16
      obtain ⟨va, vg, vc, rfl, hla, hvg⟩ := own_list HR.out.own HR.out.small
      have hz' : wr.heap[w.heap.size]? = some (.cells #[.int .i64 0, .int .i64 0, .string ⟨#[]⟩, .slice none 0 0] 24 (0, 0)) := by rw [HR.out.below.block _ (by omega)]; exact HZ.out
      have HB := Lib.hid (HB1.out.trans (HR.out.below.mono (by omega)))
      have HLA := Lib.hid hla
      have HVG := Lib.hid hvg
      have hbe0 : bagE l F = 0 := by rw [HBE.out, if_neg (by omega)]
      have HB0 := Lib.hid hbe0
      have z0 := cell_block hz' 0
      have z1 := cell_block hz' 1
      have z2 := cell_block hz' 2
      have z3 := cell_block hz' 3
      have zf : ∀ o, wr.frozen? ⟨w.heap.size, o, none⟩ = false := fun o => by simp [World.frozen?, hz']
      have hzl := lt_block hz'
      simp at z0 z1 z2 z3
      clear hbe0 hla hvg hz' hbl
      go_wp2_with fail
      exact bodyPost_ret (v := .tuple #[(⟨5, 0, ⟨#[]⟩, va, (bagTo l).length, vc⟩ : Val).v, .int .i64 0]) (by simp [results, Tryz.results161, go_sem, z0, z1, z2, z3, Val.v, V]) rfl
        ⟨⟨5, 0, ⟨#[]⟩, va, (bagTo l).length, vc⟩, bagTo l, by rw [HB0.out], ⟨⟨⟨vg, 0, HLA.out.set4 (fun hne => by have := HVG.out hne; omega) _ _ _ _⟩, rfl, Nat.zero_le _, by show (bagTo l).length ≤ maxLen; unfold maxLen; omega⟩, fun _ => ⟨rfl, rfl, rfl, rfl⟩, fun h => absurd HB0.out h⟩, below_set4 HB.out _ (Nat.le_refl _) _ _ _ _, vg, 0, HLA.out.set4 (fun hne => by have := HVG.out hne; omega) _ _ _ _, fun hne => by have := HVG.out hne; omega⟩
set_option maxRecDepth 100000 in
theorem bag_any (w : World) (l : List Val) (ad : Option Addr) (g o cp : Nat) (F : Nat → Bool) (hl : ListAt w ad g o l) (hm : l.length ≤ 100000) (hF : ∀ j, (h : j < l.length) → FormedIs w l[j].v (F j)) :
    Calls Tryz.prog 161 #[.slice ad l.length cp] w fun e w' => ∃ y ly, e = .returned (.tuple #[y.v, .int .i64 (bagE l F)]) ∧ BagIs w' l (bagE l F) y ly ∧ Below w.heap.size w w' :=
  (bagN_any w l ad g o cp F hl hm hF).mono fun _ _ ⟨y, ly, h1, h2, h3, _⟩ => ⟨y, ly, h1, h2, h3⟩
end Go.Proofs.YtllgodaphoncnaaGreatDoor
