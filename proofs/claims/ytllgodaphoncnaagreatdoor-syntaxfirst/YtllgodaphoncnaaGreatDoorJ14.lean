/- Halving a list of values; P2.1, the bags: values put one by one where they belong. -/
import Derived.Test.YtllgodaphoncnaaGreatDoorJ13
import Derived.Test.YtllgodaphoncnaaGreatDoorJ06
import Derived.Test.YtllgodaphoncnaaGreatDoorJ11
namespace Go.Proofs.YtllgodaphoncnaaGreatDoor
open Go.RowKit

/-- where a value belongs: all ahead are below it, none behind is -/
structure Spot (l : List Val) (t : Val) (p : Nat) : Prop where
  le : p ≤ l.length
  ahead : ∀ j, (h : j < l.length) → j < p → l[j].ord t < 0
  behind : ∀ j, (h : j < l.length) → p ≤ j → ¬ l[j].ord t < 0
def foundAt (l : List Val) (t : Val) (p : Nat) : Bool := decide (p < l.length) && (l[p]!.ord t == 0)
set_option maxRecDepth 100000 in
set_option maxHeartbeats 1000000 in
theorem search_any (w : World) (l : List Val) (ad : Option Addr) (g o cp : Nat) (t : Val) (p : Nat) (hl : ListAt w ad g o l) (hs : Spot l t p) (hm : l.length ≤ 1000000) :
    Calls Tryz.prog 167 #[.slice ad l.length cp, t.v, .func (.func 168) #[] #[]] w
      fun e w' => e = .returned (.tuple #[.int .i64 (p : Int), .bool (foundAt l t p)]) ∧ Below w.heap.size w w' := by
  have HL := Lib.hid hl
  have HS := Lib.hid hs
  have hp := hs.le
  clear hl hs
  unfold Val.v
  go_enter Tryz.func167, Tryz.ntmps167
  go_wp2_with fail
  generalize hW : World.alloc _ _ = W0
  have hb0 : Below w.heap.size w W0 := by rw [← hW]; exact (Below.refl _ _).alloc (Nat.le_refl _) _
  have hblk : W0.heap[w.heap.size]? = some (.cells #[.int .i64 t.k, .int .i64 t.i, .string t.s, .slice t.a t.n t.c] 24 (0, 0)) := by rw [← hW]; exact heap_alloc_new _ _
  have HB0 := Lib.hid hb0
  have Hblk := Lib.hid hblk
  clear hW hb0 hblk
  go_loopw [9, 10] (fun a b wr => ∃ i j : Nat, i ≤ p ∧ p ≤ j ∧ j ≤ l.length ∧ a = .int .i64 i ∧ b = .int .i64 j ∧ Hid (Below W0.heap.size W0 wr)) (fun a b _ => (intOf b).toNat - (intOf a).toNat)
  case atStart => exact ⟨0, l.length, by omega, by omega, by omega, rfl, rfl, Lib.hid (Below.refl _ _)⟩
  case round =>
    obtain ⟨i, j, hi, hj, hjl, rfl, rfl, HB⟩ := hrel
    have hblk := (HB.out.block _ (lt_block Hblk.out)).trans Hblk.out
    have HBw := Lib.hid (HB0.out.trans (HB.out.mono HB0.out.size))
    by_cases hlt : i < j
    · have hlen : 0 < l.length := by omega
      obtain rfl := HL.out.at' (by intro e; subst e; simp at hlen)
      obtain ⟨h, hh⟩ : ∃ h : Nat, h = (i + j) / 2 := ⟨_, rfl⟩
      have hhl : h < l.length := by omega
      have hij1 : i ≤ h := by omega
      have hij2 : h < j := by omega
      have e2 : ((i : Int) + (j : Int)) / 2 = (h : Int) := by omega
      clear hh
      go_wp2_with fail
      have x0 := fun m : Bl wr => ((HL.out.below HBw.out).below m.below).c0 h hhl
      have x1 := fun m : Bl wr => ((HL.out.below HBw.out).below m.below).c1 h hhl
      have x2 := fun m : Bl wr => ((HL.out.below HBw.out).below m.below).c2 h hhl
      have x3 := fun m : Bl wr => ((HL.out.below HBw.out).below m.below).c3 h hhl
      have t0 := fun m : Bl wr => (cells4 hblk m).1
      have t1 := fun m : Bl wr => (cells4 hblk m).2.1
      have t2 := fun m : Bl wr => (cells4 hblk m).2.2.1
      have t3 := fun m : Bl wr => (cells4 hblk m).2.2.2
      have hah := fun hp' => HS.out.ahead h hhl hp'
      have hbe := fun hp' => HS.out.behind h hhl hp'
      generalize l[h] = x at *
      obtain ⟨od, hod⟩ : ∃ od, x.ord t = od := ⟨_, rfl⟩
      rw [hod] at hah hbe
      have F : Hid (∀ W, Calls Tryz.prog 168 #[V x.k x.i x.s x.a x.n x.c, V t.k t.i t.s t.a t.n t.c] W fun e w' => e = .returned (.int .i64 od) ∧ Below W.heap.size W w') := Lib.hid (by
        intro W; rw [← hod]; exact orderAlone_any x.k x.i x.s x.a x.n x.c t.k t.i t.s t.a t.n t.c W)
      clear hod e2
      have hle : od < 0 → h < p := fun hn => (Nat.lt_or_ge h p).elim id fun hge => absurd hn (hbe hge)
      have hge : ¬ od < 0 → p ≤ h := fun hn => (Nat.lt_or_ge h p).elim (fun hl => absurd (hah hl) hn) id
      clear hah hbe hblk
      refine wp_region_quietB (by kernel_rfl) (by kernel_rfl) ?_
      iterate 8 (go_big_quiet_step ((go_at_call 168; with_reducible exact Calls.quiet_b (F.out _))))
      refine wpQuiet_nil ?_
      intro m
      have HBM := Lib.hid (HB.out.trans (m.below.mono HB.out.size))
      clear x0 x1 x2 x3 t0 t1 t2 t3 F
      by_cases hneg : od < 0
      · have hlp := hle hneg
        clear hle hge
        go_wp2_with fail
        go_roundw
        case rel => exact ⟨h + 1, j, by omega, by omega, by omega, by go_num, rfl, HBM⟩
        case measure => simp [intOf]; omega
      · have hgp := hge hneg
        clear hle hge
        go_wp2_with fail
        go_roundw
        case rel => exact ⟨i, h, by omega, by omega, by omega, rfl, rfl, HBM⟩
        case measure => simp [intOf]; omega
    · obtain rfl : i = p := by omega
      obtain rfl : i = j := by omega
      go_wp2_with fail
      by_cases hpl : i < l.length
      · obtain rfl := HL.out.at' (by intro e; subst e; simp at hpl)
        have x0 := fun m : Bl wr => ((HL.out.below HBw.out).below m.below).c0 i hpl
        have x1 := fun m : Bl wr => ((HL.out.below HBw.out).below m.below).c1 i hpl
        have x2 := fun m : Bl wr => ((HL.out.below HBw.out).below m.below).c2 i hpl
        have x3 := fun m : Bl wr => ((HL.out.below HBw.out).below m.below).c3 i hpl
        have t0 := fun m : Bl wr => (cells4 hblk m).1
        have t1 := fun m : Bl wr => (cells4 hblk m).2.1
        have t2 := fun m : Bl wr => (cells4 hblk m).2.2.1
        have t3 := fun m : Bl wr => (cells4 hblk m).2.2.2
        have hfo : foundAt l t i = (l[i].ord t == 0) := by rw [foundAt, getElem!_pos l i hpl, decide_eq_true hpl, Bool.true_and]
        generalize l[i] = x at *
        obtain ⟨od, hod⟩ : ∃ od, x.ord t = od := ⟨_, rfl⟩
        rw [hod] at hfo
        have F : Hid (∀ W, Calls Tryz.prog 168 #[V x.k x.i x.s x.a x.n x.c, V t.k t.i t.s t.a t.n t.c] W fun e w' => e = .returned (.int .i64 od) ∧ Below W.heap.size W w') := Lib.hid (by
          intro W; rw [← hod]; exact orderAlone_any x.k x.i x.s x.a x.n x.c t.k t.i t.s t.a t.n t.c W)
        have HFO := Lib.hid hfo
        clear hod hblk hfo
        refine wp_region_quietB (by kernel_rfl) (by kernel_rfl) ?_
        iterate 16 (go_big_quiet_step ((go_at_call 168; with_reducible exact Calls.quiet_b (F.out _))))
        refine wpQuiet_nil ?_
        intro m
        have HBM := Lib.hid (HBw.out.trans (m.below.mono HBw.out.size))
        clear x0 x1 x2 x3 t0 t1 t2 t3 F
        go_wp2_with fail
        go_ret2
        exact ⟨by rw [HFO.out]; rfl, HBM.out⟩
      · have hfo : foundAt l t i = false := by rw [foundAt, decide_eq_false hpl, Bool.false_and]
        have HFO := Lib.hid hfo
        clear hblk hfo
        refine wp_region_quietB (by kernel_rfl) (by kernel_rfl) ?_
        iterate 16 (go_big_quiet_step (fail))
        refine wpQuiet_nil ?_
        intro m
        have HBM := Lib.hid (HBw.out.trans (m.below.mono HBw.out.size))
        go_wp2_with fail
        go_ret2
        exact ⟨by rw [HFO.out]; rfl, HBM.out⟩

/-- a rising list -/
def Rising (l : List Val) : Prop := ∀ i j, (hi : i < l.length) → (hj : j < l.length) → i < j → l[i].ord l[j] < 0
set_option maxRecDepth 100000 in
theorem rising_of (l : List Val) (h : ∀ j, (hj : j + 1 < l.length) → l[j].ord l[j + 1] < 0) : Rising l := by
  intro i j hi hj hij
  obtain ⟨d, rfl⟩ := Nat.exists_eq_add_of_lt hij
  clear hij
  induction d with
  | zero => exact h i hj
  | succ d ih => exact isCmp_ord.lt_le (ih (by omega)) (Int.le_of_lt (h (i + d + 1) hj))
set_option maxRecDepth 100000 in
theorem rising_bag {l : List Val} (h : listB l = true) : Rising l := by
  refine rising_of l fun j hj => ?_
  unfold listB at h
  rw [Bool.and_eq_true] at h
  have h1 := List.all_eq_true.1 h.2 (j + 1) (by simpa using hj)
  unfold okA okV at h1
  rw [getElem!_pos l (j + 1) hj, Nat.add_sub_cancel, getElem!_pos l j (by omega)] at h1
  simp at h1
  exact h1.2.2.2
set_option maxRecDepth 100000 in
theorem spot_exists (l : List Val) (t : Val) (hr : Rising l) : ∃ p, Spot l t p := by
  have key : ∀ n, n ≤ l.length → (∀ j, (h : j < l.length) → j < n → l[j].ord t < 0) ∨ ∃ p, p < n ∧ ∃ hp : p < l.length, (∀ j, (h : j < l.length) → j < p → l[j].ord t < 0) ∧ ¬ l[p].ord t < 0 := by
    intro n
    induction n with
    | zero => intro _; exact .inl fun j _ h => absurd h (by omega)
    | succ n ih =>
      intro hn
      rcases ih (by omega) with h | ⟨p, h1, h2⟩
      · by_cases hlt : l[n].ord t < 0
        · refine .inl fun j hj hjn => ?_
          rcases Nat.lt_or_ge j n with h3 | h3
          · exact h j hj h3
          · obtain rfl : j = n := by omega
            exact hlt
        · exact .inr ⟨n, by omega, by omega, fun j hj hjn => h j hj hjn, hlt⟩
      · exact .inr ⟨p, by omega, h2⟩
  rcases key l.length (Nat.le_refl _) with h | ⟨p, h1, h2, h3, h4⟩
  · exact ⟨l.length, Nat.le_refl _, fun j hj _ => h j hj hj, fun j hj hl => absurd hl (by omega)⟩
  · refine ⟨p, by omega, h3, fun j hj hpj hneg => h4 ?_⟩
    rcases Nat.lt_or_ge p j with h5 | h5
    · exact isCmp_ord.lt_le (hr p j h2 hj h5) (Int.le_of_lt hneg)
    · obtain rfl : p = j := by omega
      exact hneg
set_option maxRecDepth 100000 in
/-- found there, or nowhere -/
theorem found_any {l : List Val} {t : Val} {p : Nat} (hr : Rising l) (hs : Spot l t p) : foundAt l t p = l.any (fun x => x.ord t == 0) := by
  rw [Bool.eq_iff_iff, List.any_eq_true]
  constructor
  · intro h
    unfold foundAt at h
    rw [Bool.and_eq_true] at h
    have hp : p < l.length := of_decide_eq_true h.1
    refine ⟨l[p], List.getElem_mem _, ?_⟩
    rw [getElem!_pos l p hp] at h
    exact h.2
  · rintro ⟨x, hx, h⟩
    obtain ⟨j, hj, rfl⟩ := List.mem_iff_getElem.1 hx
    have h0 : l[j].ord t = 0 := by simpa using h
    have hpj : p ≤ j := (Nat.lt_or_ge j p).elim (fun hl => absurd (hs.ahead j hj hl) (by omega)) id
    have hp : p < l.length := by omega
    unfold foundAt
    rw [decide_eq_true hp, Bool.true_and, getElem!_pos l p hp]
    rcases Nat.lt_or_ge p j with h5 | h5
    · have h6 := hr p j hp hj h5
      exact absurd (isCmp_ord.lt_le h6 (by omega : l[j].ord t ≤ 0)) (hs.behind p hp (Nat.le_refl _))
    · obtain rfl : p = j := by omega
      simpa using h0
end Go.Proofs.YtllgodaphoncnaaGreatDoor
namespace Go.Proofs.YtllgodaphoncnaaGreatDoor
open Go.RowKit

/-- the place of a value: behind all that are below it -/
def place (l : List Val) (t : Val) : Nat := l.findIdx fun y => !decide (y.ord t < 0)
set_option maxRecDepth 100000 in
theorem spot_place {l : List Val} {t : Val} (hr : Rising l) : Spot l t (place l t) := by
  obtain ⟨p, hp⟩ := spot_exists l t hr
  obtain rfl : place l t = p := by
    rcases Nat.lt_or_ge p l.length with h | h
    · unfold place
      rw [List.findIdx_eq h]
      exact ⟨by simpa using hp.behind p h (Nat.le_refl _), fun j hj => by simpa using hp.ahead j (by omega) hj⟩
    · have e : p = l.length := Nat.le_antisymm hp.le h
      rw [e]
      refine List.findIdx_eq_length_of_false fun y hy => ?_
      obtain ⟨j, hj, rfl⟩ := List.mem_iff_getElem.1 hy
      simpa using hp.ahead j hj (by omega)
  exact hp
/-- a value without its list -/
def bare (t : Val) : Val := ⟨t.k, t.i, t.s, none, 0, 0⟩
set_option maxRecDepth 100000 in
theorem bare_ord (t y : Val) : (bare t).ord y = t.ord y := rfl
set_option maxRecDepth 100000 in
theorem ord_bare (t y : Val) : y.ord (bare t) = y.ord t := rfl
/-- one more into the bag -/
def bagStep (h : List Val) (t : Val) : List Val := if foundAt h t (place h t) then h else h.take (place h t) ++ bare t :: h.drop (place h t)
set_option maxRecDepth 100000 in
/-- an owned row of values is a list of values -/
theorem own_list {w : World} {base : Nat} {v : Value} {l : List Val} (h : w.ownsRow base 24 4 v l.length (cellsL l)) (hs : ∀ x ∈ l, x.s.size ≤ maxLen) :
    ∃ ad g cp, v = .slice ad l.length cp ∧ ListAt w ad g 0 l ∧ (l ≠ [] → base ≤ g) := by
  rcases h.2 with ⟨rfl, hn⟩ | ⟨g, cap, cur, rfl, hb, hg, hc, hm, hcs, ht⟩
  · have : l = [] := List.eq_nil_of_length_eq_zero hn
    subst this
    exact ⟨none, 0, 0, rfl, ⟨fun h => absurd rfl h, fun j hj => absurd hj (by simp), fun j hj => absurd hj (by simp), fun j hj => absurd hj (by simp), fun j hj => absurd hj (by simp), fun x hx => by cases hx⟩, fun h => absurd rfl h⟩
  · have key : ∀ j, (hj : j < l.length) → ∀ k, k < 4 → w.cell? ⟨g, j * 4 + k, none⟩ = (l[j].cells)[k]? := by
      intro j hj k hk
      rw [cell_block hg (j * 4 + k)]
      have e : (cellsL l)[j * 4 + k]? = cur[j * 4 + k]? := by
        rw [← ht, List.getElem?_take, if_pos (by omega)]
        simp
      rw [← e, ← List.getElem?_drop, drop_cellsL l j (by omega), List.drop_eq_getElem_cons hj]
      show (l[j].cells ++ cellsL (l.drop (j + 1)))[k]? = _
      rw [List.getElem?_append_left hk]
    refine ⟨some ⟨g, 0, none⟩, g, cap, rfl, ⟨fun _ => rfl, fun j hj => ?_, fun j hj => ?_, fun j hj => ?_, fun j hj => ?_, hs⟩, fun _ => hb⟩
    · simpa [Val.cells] using key j hj 0 (by omega)
    · simpa [Val.cells] using key j hj 1 (by omega)
    · simpa [Val.cells] using key j hj 2 (by omega)
    · simpa [Val.cells] using key j hj 3 (by omega)
set_option maxRecDepth 100000 in
/-- a list lies where it lay, another block being written -/
theorem ListAt.set4 {w : World} {ad : Option Addr} {g o : Nat} {l : List Val} (h : ListAt w ad g o l) {b : Nat} (hne : l ≠ [] → g ≠ b) (x y z u : Value) :
    ListAt ((((w.setCell ⟨b, 0, none⟩ x).setCell ⟨b, 1, none⟩ y).setCell ⟨b, 2, none⟩ z).setCell ⟨b, 3, none⟩ u) ad g o l := by
  have key : ∀ j, j < l.length → ∀ q, ((((w.setCell ⟨b, 0, none⟩ x).setCell ⟨b, 1, none⟩ y).setCell ⟨b, 2, none⟩ z).setCell ⟨b, 3, none⟩ u).cell? ⟨g, q, none⟩ = w.cell? ⟨g, q, none⟩ := by
    intro j hj q
    have hgb : g ≠ b := hne (by intro e; subst e; simp at hj)
    have hn : ∀ r, (⟨b, r, none⟩ : Addr) ≠ ⟨g, q, none⟩ := fun r e => hgb (by injection e with e1; exact e1.symm)
    rw [World.cell?_setCell_other _ _ _ _ (hn _), World.cell?_setCell_other _ _ _ _ (hn _), World.cell?_setCell_other _ _ _ _ (hn _), World.cell?_setCell_other _ _ _ _ (hn _)]
  exact ⟨h.at', fun j hj => by rw [key j hj]; exact h.c0 j hj, fun j hj => by rw [key j hj]; exact h.c1 j hj, fun j hj => by rw [key j hj]; exact h.c2 j hj, fun j hj => by rw [key j hj]; exact h.c3 j hj, h.size⟩
set_option maxRecDepth 100000 in
/-- what is put where it belongs leaves the row rising -/
theorem rising_step {h : List Val} {t : Val} (hr : Rising h) : Rising (bagStep h t) := by
  have hs := spot_place (t := t) hr
  unfold bagStep
  split
  · exact hr
  rename_i hf
  have hp := hs.le
  have hpos : ∀ j, (hj : j < h.length) → place h t ≤ j → t.ord h[j] < 0 := by
    intro j hj hpj
    have h1 := hs.behind j hj hpj
    have h0 : h[j].ord t ≠ 0 := by
      intro e
      have := found_any hr hs
      rw [show foundAt h t (place h t) = false by simpa using hf] at this
      have h2 : h.any (fun x => x.ord t == 0) = true := List.any_eq_true.2 ⟨h[j], List.getElem_mem _, by simp [e]⟩
      rw [h2] at this; cases this
    rw [isCmp_ord.anti h[j] t]
    omega
  have hpw : h.Pairwise (fun a b => a.ord b < 0) := List.pairwise_iff_getElem.2 fun i j hi hj hij => hr i j hi hj hij
  have hall : (h.take (place h t) ++ bare t :: h.drop (place h t)).Pairwise (fun a b => a.ord b < 0) := by
    refine List.pairwise_append.2 ⟨hpw.sublist (List.take_sublist _ _), List.pairwise_cons.2 ⟨fun b hb => ?_, hpw.sublist (List.drop_sublist _ _)⟩, fun a ha b hb => ?_⟩
    · obtain ⟨j, hj, rfl⟩ := List.mem_drop_iff_getElem.1 hb
      exact hpos _ (by omega) (by omega)
    · obtain ⟨j, hj, rfl⟩ := List.mem_take_iff_getElem.1 ha
      rcases List.mem_cons.1 hb with rfl | hb
      · exact hs.ahead j (by omega) (by omega)
      · obtain ⟨q, hq, rfl⟩ := List.mem_drop_iff_getElem.1 hb
        exact hr _ _ (by omega) (by omega) (by omega)
  exact fun i j hi hj hij => List.pairwise_iff_getElem.1 hall i j hi hj hij
set_option maxRecDepth 100000 in
theorem length_step (h : List Val) (t : Val) (hp : place h t ≤ h.length) : (bagStep h t).length = if foundAt h t (place h t) then h.length else h.length + 1 := by
  unfold bagStep
  split
  · rfl
  · simp; omega
/-- the bag so far -/
def bagTo (l : List Val) : List Val := l.foldl bagStep []
set_option maxRecDepth 100000 in
theorem bagTo_snoc (l : List Val) (k : Nat) (hk : k < l.length) : bagTo (l.take (k + 1)) = bagStep (bagTo (l.take k)) l[k]! := by
  rw [getElem!_pos l k hk, List.take_succ_eq_append_getElem hk, bagTo, List.foldl_append]; rfl
set_option maxRecDepth 100000 in
theorem rising_bagTo (l : List Val) : ∀ h, Rising h → Rising (l.foldl bagStep h) := by
  induction l with
  | nil => intro h hr; exact hr
  | cons x l ih => intro h hr; exact ih _ (rising_step hr)
set_option maxRecDepth 100000 in
theorem rising_bagged (l : List Val) : Rising (bagTo l) := rising_bagTo l [] (fun i j hi => by simp at hi)
set_option maxRecDepth 100000 in
theorem small_step {h : List Val} {t : Val} (hh : ∀ x ∈ h, x.s.size ≤ maxLen) (ht : t.s.size ≤ maxLen) : ∀ x ∈ bagStep h t, x.s.size ≤ maxLen := by
  intro x hx
  unfold bagStep at hx
  split at hx
  · exact hh x hx
  · rcases List.mem_append.1 hx with h1 | h1
    · exact hh x (List.mem_of_mem_take h1)
    · rcases List.mem_cons.1 h1 with rfl | h1
      · exact ht
      · exact hh x (List.mem_of_mem_drop h1)
end Go.Proofs.YtllgodaphoncnaaGreatDoor
