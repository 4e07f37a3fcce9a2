/- P3.2, P3.3: what is read is what was written: the bytes. -/
import Derived.Test.YtebadbnlihbecaaCDec
namespace Go.Proofs.Ytebadbnlihbecaa
open Go.RowKit

/-- the bytes of a tape -/
abbrev tb (s : ByteArray) : List UInt8 := s.data.toList
theorem toList_tb (s : ByteArray) : s.toList = tb s := by simp [ByteArray.toList_eq]
theorem tb_size (s : ByteArray) : (tb s).length = s.size := by simp
theorem tb_extract (s : ByteArray) (a b : Nat) : tb (s.extract a b) = ((tb s).drop a).take (b - a) := by
  simp [tb, ByteArray.data_extract, Array.toList_extract, List.extract_eq_take_drop]
/-- the next bytes and those behind -/
theorem takeM_split {st : Option ByteArray} {n : Nat} {b : ByteArray} {c : ByteArray} (h : takeM st n = (b, some c)) : ∃ a, st = some a ∧ tb a = tb b ++ tb c ∧ b.size = n := by
  cases st with
  | none => cases h
  | some a =>
    by_cases hn : (0 : Int) ≤ n ∧ (n : Int) ≤ a.size
    · rw [takeM_yes hn, Prod.mk.injEq, Option.some.injEq] at h
      obtain ⟨rfl, rfl⟩ := h
      refine ⟨a, rfl, ?_, ?_⟩
      · rw [tb_extract, tb_extract, List.drop_zero, Int.toNat_natCast, Nat.sub_zero, List.take_of_length_le (l := (tb a).drop n) (by rw [List.length_drop, tb_size]; omega), List.take_append_drop]
      · simp; omega
    · rw [takeM_no hn] at h; cases h
theorem numU_cons (c : UInt8) (l : List UInt8) : numU (c :: l) = c.toNat * 256 ^ l.length + numU l := by
  have key : ∀ (l : List UInt8) (n : Nat), l.foldl (fun n c => n * 256 + c.toNat) n = n * 256 ^ l.length + numU l := by
    intro l
    induction l with
    | nil => intro n; simp [numU]
    | cons c l ih =>
      intro n
      simp only [List.foldl_cons, List.length_cons, numU]
      rw [ih, ih (0 * 256 + c.toNat), Nat.add_mul, Nat.pow_succ]
      simp only [Nat.zero_mul, Nat.zero_add]
      rw [Nat.mul_assoc, Nat.mul_comm 256, Nat.add_assoc]
  unfold numU
  rw [List.foldl_cons, key]
  simp only [Nat.zero_mul, Nat.zero_add]
  rfl
theorem numB_succ (n size : Nat) : numB n (size + 1) = UInt8.ofNat (n / 256 ^ size) :: numB n size := by
  unfold numB
  rw [List.range_succ_eq_map, List.map_cons, List.map_map]
  congr 1
  apply List.map_congr_left
  intro i hi
  have : i < size := by simpa using hi
  show UInt8.ofNat (n / 256 ^ (size + 1 - 1 - (i + 1))) = _
  rw [show size + 1 - 1 - (i + 1) = size - 1 - i by omega]
theorem numB_add (m n size : Nat) : numB (m * 256 ^ size + n) size = numB n size := by
  unfold numB
  apply List.map_congr_left
  intro i hi
  have hi' : i < size := by simpa using hi
  have e : 256 ^ size = 256 ^ (size - 1 - i) * 256 ^ (i + 1) := by rw [← Nat.pow_add]; congr 1; omega
  have e2 : (m * 256 ^ size + n) / 256 ^ (size - 1 - i) = m * 256 ^ (i + 1) + n / 256 ^ (size - 1 - i) := by
    rw [e, ← Nat.mul_assoc, Nat.mul_comm m, Nat.mul_assoc, Nat.mul_add_div (Nat.pow_pos (by omega))]
  rw [e2]
  apply UInt8.toNat_inj.1
  simp only [UInt8.toNat_ofNat']
  rw [Nat.pow_succ, ← Nat.mul_assoc]
  omega
theorem numB_numU (l : List UInt8) : numB (numU l) l.length = l := by
  induction l with
  | nil => rfl
  | cons c l ih =>
    rw [List.length_cons, numB_succ, numU_cons, numB_add, ih]
    congr 1
    have h := numU_lt l
    rw [Nat.mul_comm, Nat.mul_add_div (Nat.pow_pos (by omega)), Nat.div_eq_of_lt h]
    apply UInt8.toNat_inj.1
    simp
theorem numM_split {st : Option ByteArray} {size n : Nat} {c : ByteArray} (h : numM st size = (n, some c)) : ∃ a, st = some a ∧ tb a = numB n size ++ tb c := by
  unfold numM at h
  obtain ⟨⟨b, r⟩, hr⟩ : ∃ r, takeM st size = r := ⟨_, rfl⟩
  rw [hr, Prod.mk.injEq] at h
  dsimp only at h
  obtain ⟨rfl, rfl⟩ := h
  obtain ⟨a, rfl, e, hs⟩ := takeM_split hr
  refine ⟨a, rfl, ?_⟩
  rw [e, toList_tb]
  have := numB_numU (tb b)
  rw [tb_size, hs] at this
  rw [this]

/-- what is behind the kind of a value that is no bag -/
def tailB (x : Val) : List UInt8 :=
  if x.k = 1 then numB (if x.i == 1 then 1 else 0) 1
  else if x.k = 2 ∨ x.k = 4 then numB (x.i % 18446744073709551616).toNat 8
  else if x.k = 3 then numB x.s.size 2 ++ tb x.s else []
def plainB (x : Val) : List UInt8 := numB x.k.toNat 1 ++ tailB x
def valB (x : Val) (lx : List Val) : List UInt8 := if x.k = 5 then numB x.k.toNat 1 ++ (numB lx.length 1 ++ lx.flatMap plainB) else plainB x
theorem flagM_split {st : Option ByteArray} {f : Bool} {c : ByteArray} (h : flagM st = (f, some c)) : ∃ a, st = some a ∧ tb a = numB (if f then 1 else 0) 1 ++ tb c := by
  unfold flagM at h
  obtain ⟨⟨n, r⟩, hr⟩ : ∃ r, numM st 1 = r := ⟨_, rfl⟩
  rw [hr] at h
  dsimp only at h
  split at h
  · rename_i h1
    rw [Prod.mk.injEq] at h
    obtain ⟨h2, rfl⟩ := h
    obtain ⟨a, rfl, e⟩ := numM_split hr
    refine ⟨a, rfl, ?_⟩
    rw [e]
    obtain rfl | rfl : n = 0 ∨ n = 1 := by omega
    · have : f = false := by rw [← h2]; rfl
      subst this; rfl
    · have : f = true := by rw [← h2]; rfl
      subst this; rfl
  · cases h
theorem inTextM_split {st : Option ByteArray} {m : Int} {s c : ByteArray} (h : inTextM st m = (s, some c)) : ∃ a, st = some a ∧ tb a = numB s.size 2 ++ (tb s ++ tb c) ∧ (s.size : Int) ≤ m := by
  unfold inTextM at h
  obtain ⟨⟨n, r⟩, hr⟩ : ∃ r, numM st 2 = r := ⟨_, rfl⟩
  rw [hr] at h
  dsimp only at h
  split at h
  · rename_i h1
    obtain ⟨b, rfl, e, hs⟩ := takeM_split h
    obtain ⟨a, rfl, e2⟩ := numM_split hr
    refine ⟨a, rfl, ?_, by omega⟩
    rw [e2, e, hs]
  · cases h
theorem wrap_back (n : Nat) (h : n < 256 ^ 8) : ((wrap64 (n : Int)) % 18446744073709551616).toNat = n := by
  unfold wrap64
  omega
theorem inPlainM_split {st : Option ByteArray} {k : Int} {x : Val} {c : ByteArray} (h : inPlainM st k = (x, some c)) : ∃ a, st = some a ∧ tb a = tailB x ++ tb c := by
  have hk : x.k = k := by have := (inPlainM_bare st k).2.2.2; rw [h] at this; exact this
  unfold inPlainM at h
  split at h
  · rename_i h1
    rw [Prod.mk.injEq] at h
    obtain ⟨h2, h3⟩ := h
    obtain ⟨a, rfl, e⟩ := flagM_split (st := st) (f := (flagM st).1) (c := c) (by rw [← h3])
    refine ⟨a, rfl, ?_⟩
    have ht : tailB x = numB (if x.i == 1 then 1 else 0) 1 := if_pos (by rw [hk, h1])
    rw [e, ht, ← h2]
    cases (flagM (some a)).1 <;> rfl
  split at h
  · rename_i h1 h2
    rw [Prod.mk.injEq] at h
    obtain ⟨h3, h4⟩ := h
    have hlt := numM_lt st 8
    obtain ⟨a, rfl, e⟩ := numM_split (st := st) (size := 8) (n := (numM st 8).1) (c := c) (by rw [← h4])
    refine ⟨a, rfl, ?_⟩
    have ht : tailB x = numB (x.i % 18446744073709551616).toNat 8 := by rw [tailB, if_neg (by rw [hk]; exact h1), if_pos (by rw [hk]; exact h2)]
    rw [e, ht, ← h3]
    dsimp only
    rw [wrap_back _ hlt]
  split at h
  · rename_i h1 h2 h3
    rw [Prod.mk.injEq] at h
    obtain ⟨h4, h5⟩ := h
    obtain ⟨a, rfl, e, _⟩ := inTextM_split (st := st) (m := 64) (s := (inTextM st 64).1) (c := c) (by rw [← h5])
    refine ⟨a, rfl, ?_⟩
    have ht : tailB x = numB x.s.size 2 ++ tb x.s := by rw [tailB, if_neg (by rw [hk]; exact h1), if_neg (by rw [hk]; exact h2), if_pos (by rw [hk]; exact h3)]
    rw [e, ht, ← h4, List.append_assoc]
  · rename_i h1 h2 h3
    rw [Prod.mk.injEq] at h
    obtain ⟨h4, rfl⟩ := h
    refine ⟨c, rfl, ?_⟩
    rw [tailB, if_neg (by rw [hk]; exact h1), if_neg (by rw [hk]; exact h2), if_neg (by rw [hk]; exact h3)]
    rfl
/-- one value that is no bag, its kind ahead -/
theorem one_split {st : Option ByteArray} {x : Val} {c : ByteArray} (h : inPlainM (numM st 1).2 (numM st 1).1 = (x, some c)) : ∃ a, st = some a ∧ tb a = plainB x ++ tb c := by
  have hk : x.k = (numM st 1).1 := by have := (inPlainM_bare (numM st 1).2 (numM st 1).1).2.2.2; rw [h] at this; exact this
  obtain ⟨a1, e1, e2⟩ := inPlainM_split h
  obtain ⟨a, rfl, e⟩ := numM_split (st := st) (size := 1) (n := (numM st 1).1) (c := a1) (by rw [← e1])
  refine ⟨a, rfl, ?_⟩
  rw [e, e2, plainB, hk, List.append_assoc]
  rfl
theorem memN_split (n : Nat) : ∀ {st : Option ByteArray} {l : List Val} {c : ByteArray}, memN n st = (l, some c) → ∃ a, st = some a ∧ tb a = l.flatMap plainB ++ tb c := by
  induction n with
  | zero =>
    intro st l c h
    simp only [memN, Prod.mk.injEq] at h
    obtain ⟨rfl, rfl⟩ := h
    exact ⟨c, rfl, rfl⟩
  | succ n ih =>
    intro st l c h
    obtain ⟨⟨lk, sk⟩, hk⟩ : ∃ r, memN n st = r := ⟨_, rfl⟩
    simp only [memN, hk, Prod.mk.injEq] at h
    obtain ⟨rfl, h2⟩ := h
    obtain ⟨b, rfl, e⟩ := one_split (x := (inPlainM (numM sk 1).2 (numM sk 1).1).1) (c := c) (by rw [← h2])
    obtain ⟨a, rfl, e2⟩ := ih hk
    refine ⟨a, rfl, ?_⟩
    rw [e2, e]
    simp
theorem memM_split {st : Option ByteArray} {l : List Val} {c : ByteArray} (h : memM st = (l, some c)) : ∃ a, st = some a ∧ tb a = numB l.length 1 ++ (l.flatMap plainB ++ tb c) := by
  unfold memM at h
  obtain ⟨⟨n, r⟩, hr⟩ : ∃ r, numM st 1 = r := ⟨_, rfl⟩
  rw [hr] at h
  dsimp only at h
  split at h
  · split at h
    · obtain ⟨b, rfl, e⟩ := memN_split n h
      obtain ⟨a, rfl, e2⟩ := numM_split hr
      have hl := memN_length n (some b)
      rw [h] at hl
      exact ⟨a, rfl, by rw [e2, e, hl]⟩
    · cases h
  · cases h
theorem rawV_split {st : Option ByteArray} {x : Val} {l : List Val} {c : ByteArray} (h : rawV st = ((x, l), some c)) : ∃ a, st = some a ∧ tb a = valB x l ++ tb c := by
  have hk0 := (inPlainM_bare (numM st 1).2 (numM st 1).1).2.2.2
  unfold rawV at h
  split at h
  · rename_i h5
    rw [Prod.mk.injEq, Prod.mk.injEq] at h
    obtain ⟨⟨h1, h2⟩, h3⟩ := h
    obtain ⟨b, e1, e2⟩ := memM_split (l := l) (c := c) (by rw [← h2, ← h3])
    obtain ⟨a, rfl, e⟩ := one_split (st := st) (x := x) (c := b) (by rw [← h1, ← e1])
    refine ⟨a, rfl, ?_⟩
    have hxk : x.k = 5 := by rw [← h1, hk0, h5]; rfl
    rw [e, e2, valB, if_pos hxk, plainB, tailB, if_neg (by omega), if_neg (by omega), if_neg (by omega), List.append_nil]
    simp
  · rename_i h5
    rw [Prod.mk.injEq, Prod.mk.injEq] at h
    obtain ⟨⟨h1, rfl⟩, h3⟩ := h
    obtain ⟨a, rfl, e⟩ := one_split (st := st) (x := x) (c := c) (by rw [← h1, ← h3])
    refine ⟨a, rfl, ?_⟩
    have hxk : ¬ x.k = 5 := by rw [← h1, hk0]; omega
    rw [e, valB, if_neg hxk]
/-- bytes that are a value's are just its bytes -/
theorem dec_bytes {l : List UInt8} (h : decOk l = true) : l = valB (rawV (some ⟨l.toArray⟩)).1.1 (rawV (some ⟨l.toArray⟩)).1.2 ∧ readF (some ⟨l.toArray⟩) = true := by
  have hv := decOk_val h
  unfold valOk at hv
  rw [Bool.and_eq_true] at hv
  refine ⟨?_, hv.1⟩
  unfold decOk overM readS at h
  rw [hv.1] at h
  simp only [if_true, Bool.and_eq_true] at h
  obtain ⟨c, hc⟩ : ∃ c, (rawV (some ⟨l.toArray⟩)).2 = some c := Option.isSome_iff_exists.1 h.1
  rw [hc] at h
  have hnil : tb c = [] := by
    have := h.2
    rw [show tapeB (some c) = c from rfl, toList_tb] at this
    simpa using this
  obtain ⟨a, e1, e2⟩ := rawV_split (st := some ⟨l.toArray⟩) (x := (rawV (some ⟨l.toArray⟩)).1.1) (l := (rawV (some ⟨l.toArray⟩)).1.2) (c := c) (by rw [← hc])
  rw [hnil, List.append_nil] at e2
  rw [← e2]
  injection e1 with e1
  rw [← e1]
end Go.Proofs.Ytebadbnlihbecaa
