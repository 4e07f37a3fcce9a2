/- Values that are no bags, as the document has them; lists of values in memory; Values of a size that is looked at. -/
import Derived.Test.YtllgodaphoncnaaGreatDoorJ02
import Derived.Test.YtllgodaphoncnaaGreatDoorMem
namespace Go.Proofs.YtllgodaphoncnaaGreatDoor
open Go.RowKit

set_option maxRecDepth 100000 in
set_option maxHeartbeats 1000000 in
theorem one_any (k i : Int) (s : ByteArray) (a : Option Addr) (n c : Nat) (w : World) (hs : s.size ≤ maxLen) :
    Calls Tryz.prog 82 #[V k i s a n c] w fun e w' => e = .returned (.bool (aloneB k i s n)) ∧ Below w.heap.size w w' := by
  have hs' := hs
  unfold maxLen at hs'
  clear hs
  by_cases hn : 0 < n
  · go_enter Tryz.func82, Tryz.ntmps82
    go_wp2
    all_goals
      go_ret
      exact ⟨ret_bool (by simp [aloneB, *]), (Below.refl _ _).alloc (Nat.le_refl _) _⟩
  by_cases h0 : k = 0
  · subst h0
    go_enter Tryz.func82, Tryz.ntmps82
    go_wp2
    all_goals
      go_ret
      exact ⟨ret_bool (by simp_all [aloneB]), (Below.refl _ _).alloc (Nat.le_refl _) _⟩
  by_cases h1 : k = 1
  · subst h1
    go_enter Tryz.func82, Tryz.ntmps82
    go_wp2
    all_goals
      go_ret
      exact ⟨ret_bool (by simp_all [aloneB]), (Below.refl _ _).alloc (Nat.le_refl _) _⟩
  by_cases h2 : k = 2
  · subst h2
    go_enter Tryz.func82, Tryz.ntmps82
    go_wp2
    all_goals
      go_ret
      exact ⟨ret_bool (by simp_all [aloneB]), (Below.refl _ _).alloc (Nat.le_refl _) _⟩
  by_cases h3 : k = 3
  · subst h3
    go_enter Tryz.func82, Tryz.ntmps82
    go_wp2
    all_goals
      go_ret
      exact ⟨ret_bool (by simp_all [aloneB]), (Below.refl _ _).alloc (Nat.le_refl _) _⟩
  by_cases h4 : k = 4
  · subst h4
    go_enter Tryz.func82, Tryz.ntmps82
    go_wp2
    all_goals
      go_ret
      exact ⟨ret_bool (by simp_all [aloneB, timeB] <;> omega), (Below.refl _ _).alloc (Nat.le_refl _) _⟩
  · by_cases hk : k < 0
    · go_enter Tryz.func82, Tryz.ntmps82
      go_wp2
      all_goals
        go_ret
        exact ⟨ret_bool (by simp [aloneB, h0, h1, h2, h3, h4]), (Below.refl _ _).alloc (Nat.le_refl _) _⟩
    · have hk' : 4 < k := by omega
      go_enter Tryz.func82, Tryz.ntmps82
      go_wp2
      all_goals
        go_ret
        exact ⟨ret_bool (by simp [aloneB, h0, h1, h2, h3, h4]), (Below.refl _ _).alloc (Nat.le_refl _) _⟩

/-- a value's parts -/
structure Val where
  k : Int
  i : Int
  s : ByteArray
  a : Option Addr
  n : Nat
  c : Nat
def Val.v (x : Val) : Value := V x.k x.i x.s x.a x.n x.c
instance : Inhabited Val := ⟨⟨0, 0, ⟨#[]⟩, none, 0, 0⟩⟩
/-- a list of values lies in memory -/
structure ListAt (w : World) (ad : Option Addr) (g o : Nat) (l : List Val) : Prop where
  at' : l ≠ [] → ad = some ⟨g, o, none⟩
  c0 : ∀ j, (h : j < l.length) → w.cell? ⟨g, o + j * 4, none⟩ = some (.int .i64 l[j].k)
  c1 : ∀ j, (h : j < l.length) → w.cell? ⟨g, o + j * 4 + 1, none⟩ = some (.int .i64 l[j].i)
  c2 : ∀ j, (h : j < l.length) → w.cell? ⟨g, o + j * 4 + 2, none⟩ = some (.string l[j].s)
  c3 : ∀ j, (h : j < l.length) → w.cell? ⟨g, o + j * 4 + 3, none⟩ = some (.slice l[j].a l[j].n l[j].c)
  size : ∀ x ∈ l, x.s.size ≤ maxLen
set_option maxRecDepth 100000 in
theorem block_lt_of_cell {w : World} {p : Addr} {v : Value} (h : w.cell? p = some v) : p.block < w.heap.size := by
  rcases Nat.lt_or_ge p.block w.heap.size with k | k
  · exact k
  · unfold World.cell? at h
    rw [Array.getElem?_eq_none (by omega)] at h
    simp at h
set_option maxRecDepth 100000 in
theorem ListAt.below {w w' : World} {ad : Option Addr} {g o : Nat} {l : List Val} (h : ListAt w ad g o l) (hk : Below w.heap.size w w') : ListAt w' ad g o l :=
  ⟨h.at', fun j hj => by rw [hk.cell (block_lt_of_cell (h.c0 j hj))]; exact h.c0 j hj, fun j hj => by rw [hk.cell (block_lt_of_cell (h.c1 j hj))]; exact h.c1 j hj,
    fun j hj => by rw [hk.cell (block_lt_of_cell (h.c2 j hj))]; exact h.c2 j hj, fun j hj => by rw [hk.cell (block_lt_of_cell (h.c3 j hj))]; exact h.c3 j hj, h.size⟩
end Go.Proofs.YtllgodaphoncnaaGreatDoor
namespace Go.Proofs.YtllgodaphoncnaaGreatDoor
open Go.RowKit

/-- a value and its list -/
structure Full (w : World) (x : Val) (l : List Val) : Prop where
  list : ∃ g o, ListAt w x.a g o l
  len : l.length = x.n
  size : x.s.size ≤ maxLen
  most : x.n ≤ maxLen
set_option maxRecDepth 100000 in
theorem Full.below {w w' : World} {x : Val} {l : List Val} (h : Full w x l) (hk : Below w.heap.size w w') : Full w' x l :=
  ⟨by obtain ⟨g, o, h1⟩ := h.list; exact ⟨g, o, h1.below hk⟩, h.len, h.size, h.most⟩
def smallE (y : Val) : Bool := !decide (200 < y.s.size) && !decide (0 < y.n)
def small (x : Val) (l : List Val) : Bool := !(decide (200 < x.s.size) || decide (30 < x.n)) && l.all smallE
set_option maxRecDepth 100000 in
theorem all_no {α : Type} (f : α → Bool) (l : List α) (k : Nat) (hk : k < l.length) (h : f l[k] = false) : l.all f = false := by
  rw [Bool.eq_false_iff]; intro ha
  rw [List.all_eq_true] at ha
  rw [ha l[k] (List.getElem_mem _)] at h
  cases h
set_option maxRecDepth 100000 in
theorem all_no_take {α : Type} (f : α → Bool) (l : List α) (k m : Nat) (hk : k < l.length) (hm : k < m) (h : f l[k] = false) (b : Bool) : false = ((l.take m).all f && b) := by
  rw [all_no f (l.take m) k (by simp; omega) (by simpa using h)]; rfl
set_option maxRecDepth 100000 in
theorem all_snoc {α : Type} (f : α → Bool) (l : List α) (k : Nat) (hk : k < l.length) (h : (l.take k).all f = true) (h' : f l[k] = true) : (l.take (k + 1)).all f = true := by
  rw [List.take_succ_eq_append_getElem hk, List.all_append, h, List.all_cons, h']; rfl
set_option maxRecDepth 100000 in
theorem all_end {α : Type} (f : α → Bool) (l : List α) (k m : Nat) (h : (l.take k).all f = true) (hk : k = l.length ∨ k = m) (hm : k ≤ m) (b : Bool) : b = ((l.take m).all f && b) := by
  have : (l.take m).all f = true := by
    rcases hk with rfl | rfl
    · rw [List.take_of_length_le (by omega)]; rwa [List.take_of_length_le (by omega)] at h
    · exact h
  rw [this]; rfl
set_option maxRecDepth 100000 in
theorem small_s {x : Val} {l : List Val} (h : 200 < x.s.size) : small x l = false := by simp [small, h]
set_option maxRecDepth 100000 in
theorem small_n {x : Val} {l : List Val} (h : 30 < x.n) : small x l = false := by simp [small, h]
set_option maxRecDepth 100000 in
theorem small_e {x : Val} {l : List Val} (k : Nat) (hk : k < l.length) (h : smallE l[k] = false) : small x l = false := by simp [small, all_no smallE l k hk h]
set_option maxRecDepth 100000 in
theorem small_yes {x : Val} {l : List Val} (h : ¬ 200 < x.s.size) (h' : ¬ 30 < x.n) (ha : l.all smallE = true) : small x l = true := by simp [small, h, h', ha]
set_option maxRecDepth 100000 in
set_option maxHeartbeats 1000000 in
theorem few_any (w : World) (ps : List (Val × List Val)) (ad : Option Addr) (g o cp : Nat) (n : Int) (hl : ListAt w ad g o (ps.map (·.1))) (hf : ∀ p ∈ ps, Full w p.1 p.2) (hm : ps.length ≤ maxLen) :
    Calls Tryz.prog 54 #[.slice ad ps.length cp, .int .i64 n] w fun e w' => e = .returned (.bool ((ps.take 100).all (fun p => small p.1 p.2) && decide ((ps.length : Int) ≤ n))) ∧ w = w' := by
  have hm' := hm
  unfold maxLen at hm'
  have HL := Lib.hid hl
  have HF := Lib.hid hf
  clear hl hf hm
  go_enter Tryz.func54, Tryz.ntmps54
  go_wp2
  go_loop [5] (fun i => ∃ k : Nat, k ≤ ps.length ∧ k ≤ 100 ∧ i = .int .i64 k ∧ Hid ((ps.take k).all (fun p => small p.1 p.2) = true)) (fun i => 100 - (intOf i).toNat)
  case atStart => exact ⟨0, by omega, by omega, rfl, Lib.hid rfl⟩
  case round =>
    obtain ⟨k, hk, hk1, rfl, HA⟩ := hrel
    by_cases hlt : k < ps.length
    · by_cases h100 : k < 100
      · obtain rfl := HL.out.at' (by intro e; simp at e; subst e; simp at hlt)
        have c2 := HL.out.c2 k (by simpa using hlt)
        have c3 := HL.out.c3 k (by simpa using hlt)
        simp only [List.getElem_map] at c2 c3
        have hfu := HF.out ps[k] (List.getElem_mem _)
        generalize hp : ps[k] = p at *
        obtain ⟨x, l⟩ := p
        simp only at c2 c3 hfu
        have hsx := hfu.size
        have hnx := hfu.most
        unfold maxLen at hsx hnx
        have HP := Lib.hid hp
        have HU := Lib.hid hfu
        clear hp hfu
        by_cases hs2 : 200 < x.s.size
        · go_wp2
          all_goals
            go_ret
            exact ⟨ret_bool (all_no_take _ ps k 100 hlt h100 (by rw [HP.out]; exact small_s hs2) _), rfl⟩
        by_cases hn2 : 30 < x.n
        · go_wp2
          all_goals
            go_ret
            exact ⟨ret_bool (all_no_take _ ps k 100 hlt h100 (by rw [HP.out]; exact small_n hn2) _), rfl⟩
        go_wp2_with fail
        go_loop [6] (fun i => ∃ j : Nat, j ≤ x.n ∧ i = .int .i64 j ∧ Hid ((l.take j).all smallE = true)) (fun i => x.n - (intOf i).toNat)
        case atStart => exact ⟨0, by omega, rfl, Lib.hid rfl⟩
        case round =>
          obtain ⟨j, hj, rfl, HJ⟩ := hrel
          by_cases hjn : j < x.n
          · have hjl : j < l.length := by have := HU.out.len; omega
            obtain ⟨g2, o2, hli⟩ := HU.out.list
            have hat := hli.at' (by intro e; subst e; simp at hjl)
            rw [hat] at c3
            have d2 := hli.c2 j hjl
            have d3 := hli.c3 j hjl
            have hsy := hli.size l[j] (List.getElem_mem _)
            unfold maxLen at hsy
            have HAT := Lib.hid hat
            clear hli hat
            generalize hy : l[j] = y at *
            have HY := Lib.hid hy
            clear hy
            by_cases hs3 : 200 < y.s.size
            · go_wp2
              all_goals
                go_ret
                exact ⟨ret_bool (all_no_take _ ps k 100 hlt h100 (by rw [HP.out]; exact small_e j hjl (by rw [HY.out]; simp [smallE, hs3])) _), rfl⟩
            by_cases hn3 : 0 < y.n
            · go_wp2
              all_goals
                go_ret
                exact ⟨ret_bool (all_no_take _ ps k 100 hlt h100 (by rw [HP.out]; exact small_e j hjl (by rw [HY.out]; simp [smallE, hn3])) _), rfl⟩
            go_wp2
            all_goals
              go_round
              case rel => exact ⟨j + 1, by omega, by go_num, Lib.hid (all_snoc smallE l j hjl HJ.out (by rw [HY.out]; simp [smallE, hs3, hn3]))⟩
              case measure => simp [intOf]; omega
          · go_wp2
            all_goals
              go_round
              case rel => exact ⟨k + 1, by omega, by omega, by go_num, Lib.hid (all_snoc _ ps k hlt HA.out (by rw [HP.out]; exact small_yes hs2 hn2 (by have := HJ.out; rwa [List.take_of_length_le (by have := HU.out.len; omega)] at this)))⟩
              case measure => simp [intOf]; omega
      · go_wp2
        all_goals
          go_ret
          exact ⟨ret_bool (all_end _ ps k 100 HA.out (by omega) (by omega) _), rfl⟩
    · go_wp2
      all_goals
        go_ret
        exact ⟨ret_bool (all_end _ ps k 100 HA.out (by omega) (by omega) _), rfl⟩
end Go.Proofs.YtllgodaphoncnaaGreatDoor
