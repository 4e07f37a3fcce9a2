/- Values that are no bags, as the document has them; lists of values in memory. -/
import Derived.Test.YtebadbnlihbecaaVOrd
import Derived.Test.YtebadbnlihbecaaMem
namespace Go.Proofs.Ytebadbnlihbecaa
open Go.RowKit

set_option maxHeartbeats 1000000 in
theorem one_any (k i : Int) (s : ByteArray) (a : Option Addr) (n c : Nat) (w : World) (hs : s.size ≤ maxLen) :
    Calls Try.prog 45 #[V k i s a n c] w fun e w' => e = .returned (.bool (aloneB k i s n)) ∧ Below w.heap.size w w' := by
  have hs' := hs
  unfold maxLen at hs'
  clear hs
  by_cases hn : 0 < n
  · go_enter Try.func45, Try.ntmps45
    go_wp2
    all_goals
      go_ret
      exact ⟨ret_bool (by simp [aloneB, *]), (Below.refl _ _).alloc (Nat.le_refl _) _⟩
  by_cases h0 : k = 0
  · subst h0
    go_enter Try.func45, Try.ntmps45
    go_wp2
    all_goals
      go_ret
      exact ⟨ret_bool (by simp_all [aloneB]), (Below.refl _ _).alloc (Nat.le_refl _) _⟩
  by_cases h1 : k = 1
  · subst h1
    go_enter Try.func45, Try.ntmps45
    go_wp2
    all_goals
      go_ret
      exact ⟨ret_bool (by simp_all [aloneB]), (Below.refl _ _).alloc (Nat.le_refl _) _⟩
  by_cases h2 : k = 2
  · subst h2
    go_enter Try.func45, Try.ntmps45
    go_wp2
    all_goals
      go_ret
      exact ⟨ret_bool (by simp_all [aloneB]), (Below.refl _ _).alloc (Nat.le_refl _) _⟩
  by_cases h3 : k = 3
  · subst h3
    go_enter Try.func45, Try.ntmps45
    go_wp2
    all_goals
      go_ret
      exact ⟨ret_bool (by simp_all [aloneB]), (Below.refl _ _).alloc (Nat.le_refl _) _⟩
  by_cases h4 : k = 4
  · subst h4
    go_enter Try.func45, Try.ntmps45
    go_wp2
    all_goals
      go_ret
      exact ⟨ret_bool (by simp_all [aloneB, timeB] <;> omega), (Below.refl _ _).alloc (Nat.le_refl _) _⟩
  · by_cases hk : k < 0
    · go_enter Try.func45, Try.ntmps45
      go_wp2
      all_goals
        go_ret
        exact ⟨ret_bool (by simp [aloneB, h0, h1, h2, h3, h4]), (Below.refl _ _).alloc (Nat.le_refl _) _⟩
    · have hk' : 4 < k := by omega
      go_enter Try.func45, Try.ntmps45
      go_wp2
      all_goals
        go_ret
        exact ⟨ret_bool (by simp [aloneB, h0, h1, h2, h3, h4]), (Below.refl _ _).alloc (Nat.le_refl _) _⟩

/-- a value's parts -/
structure Val where
  k : Int
  i : Int
  s : ByteArray
  a : Option Addr
  n : Nat
  c : Nat
def Val.v (x : Val) : Value := V x.k x.i x.s x.a x.n x.c
instance : Inhabited Val := ⟨⟨0, 0, ⟨#[]⟩, none, 0, 0⟩⟩
/-- a list of values lies in memory -/
structure ListAt (w : World) (ad : Option Addr) (g o : Nat) (l : List Val) : Prop where
  at' : l ≠ [] → ad = some ⟨g, o, none⟩
  c0 : ∀ j, (h : j < l.length) → w.cell? ⟨g, o + j * 4, none⟩ = some (.int .i64 l[j].k)
  c1 : ∀ j, (h : j < l.length) → w.cell? ⟨g, o + j * 4 + 1, none⟩ = some (.int .i64 l[j].i)
  c2 : ∀ j, (h : j < l.length) → w.cell? ⟨g, o + j * 4 + 2, none⟩ = some (.string l[j].s)
  c3 : ∀ j, (h : j < l.length) → w.cell? ⟨g, o + j * 4 + 3, none⟩ = some (.slice l[j].a l[j].n l[j].c)
  size : ∀ x ∈ l, x.s.size ≤ maxLen
theorem block_lt_of_cell {w : World} {p : Addr} {v : Value} (h : w.cell? p = some v) : p.block < w.heap.size := by
  rcases Nat.lt_or_ge p.block w.heap.size with k | k
  · exact k
  · unfold World.cell? at h
    rw [Array.getElem?_eq_none (by omega)] at h
    simp at h
theorem ListAt.below {w w' : World} {ad : Option Addr} {g o : Nat} {l : List Val} (h : ListAt w ad g o l) (hk : Below w.heap.size w w') : ListAt w' ad g o l :=
  ⟨h.at', fun j hj => by rw [hk.cell (block_lt_of_cell (h.c0 j hj))]; exact h.c0 j hj, fun j hj => by rw [hk.cell (block_lt_of_cell (h.c1 j hj))]; exact h.c1 j hj,
    fun j hj => by rw [hk.cell (block_lt_of_cell (h.c2 j hj))]; exact h.c2 j hj, fun j hj => by rw [hk.cell (block_lt_of_cell (h.c3 j hj))]; exact h.c3 j hj, h.size⟩
end Go.Proofs.Ytebadbnlihbecaa
