/- P3.1 to P3.3: what is written, as bytes; and read back. -/
import Derived.Test.YtebadbnlihbecaaCDecLaw
namespace Go.Proofs.Ytebadbnlihbecaa
open Go.RowKit

/-- a tape of these bytes -/
abbrev TT (u : List UInt8) : Option ByteArray := some ⟨u.toArray⟩
theorem size_tt (u : List UInt8) : (⟨u.toArray⟩ : ByteArray).size = u.length := by show u.toArray.size = _; simp
theorem tb_tt (u : List UInt8) : tb ⟨u.toArray⟩ = u := rfl
theorem tt_tb (s : ByteArray) : (⟨(tb s).toArray⟩ : ByteArray) = s := by cases s; simp [tb]
theorem append_tt (u m : List UInt8) : (⟨u.toArray⟩ : ByteArray) ++ ⟨m.toArray⟩ = ⟨(u ++ m).toArray⟩ := by
  apply ByteArray.ext
  simp [ByteArray.data_append]
/-- f writes m -/
structure Wr (f : Option ByteArray → Option ByteArray) (m : List UInt8) : Prop where
  no : f none = none
  yes : ∀ u, f (TT u) = if u.length + m.length ≤ 4096 then TT (u ++ m) else none
theorem Wr.comp {f g : Option ByteArray → Option ByteArray} {m1 m2 : List UInt8} (h1 : Wr f m1) (h2 : Wr g m2) : Wr (fun st => g (f st)) (m1 ++ m2) := by
  refine ⟨by show g (f none) = none; rw [h1.no, h2.no], fun u => ?_⟩
  show g (f (TT u)) = _
  rw [h1.yes]
  split
  · rw [h2.yes, List.length_append, List.length_append, Nat.add_assoc, List.append_assoc]
  · rw [h2.no, if_neg (by rw [List.length_append]; omega)]
theorem wr_put (m : List UInt8) : Wr (fun st => putM st ⟨m.toArray⟩) m := ⟨rfl, fun u => by
  show (if (⟨u.toArray⟩ : ByteArray).size + (⟨m.toArray⟩ : ByteArray).size ≤ 4096 then some ((⟨u.toArray⟩ : ByteArray) ++ ⟨m.toArray⟩) else none) = _
  rw [size_tt, size_tt, append_tt]⟩
theorem wr_uns {n : Int} {size : Nat} (h : 0 ≤ n ∧ n < 256 ^ size) : Wr (fun st => unsM st n size) (numB n.toNat size) := by
  have : (fun st => unsM st n size) = fun st => putM st ⟨(numB n.toNat size).toArray⟩ := by
    funext st
    unfold unsM
    rw [if_pos h]
  rw [this]
  exact wr_put _
theorem wr_text (s : ByteArray) (h : s.size < 65536) : Wr (fun st => textM st s) (numB s.size 2 ++ tb s) := by
  have h1 : Wr (fun st => unsM st s.size 2) (numB s.size 2) := by
    have := wr_uns (n := (s.size : Int)) (size := 2) ⟨by omega, by rw [show (256 : Int) ^ 2 = 65536 by decide]; omega⟩
    rwa [Int.toNat_natCast] at this
  have h2 := wr_put (tb s)
  rw [tt_tb] at h2
  have h3 := h1.comp h2
  unfold textM
  exact h3
theorem wr_plain {x : Val} (ha : x.alone = true) : Wr (fun st => plainM st x) (plainB x) := by
  have hk := alone_kind ha
  have hk0 : 0 ≤ x.k ∧ x.k < 256 ^ 1 := by show _ ∧ x.k < 256; omega
  have h1 := wr_uns hk0
  unfold plainM plainB tailB
  by_cases e1 : x.k = 1
  · simp only [if_pos e1]
    have h2 := wr_uns (n := if x.i == 1 then 1 else 0) (size := 1) (by show _ ∧ _ < (256 : Int); split <;> omega)
    have e : (if (x.i == 1) = true then (1 : Int) else 0).toNat = if x.i == 1 then 1 else 0 := by split <;> rfl
    rw [e] at h2
    exact h1.comp h2
  simp only [if_neg e1]
  by_cases e2 : x.k = 2 ∨ x.k = 4
  · simp only [if_pos e2]
    exact h1.comp (wr_put _)
  simp only [if_neg e2]
  by_cases e3 : x.k = 3
  · simp only [if_pos e3]
    have hs : x.s.size < 65536 := by
      unfold Val.alone aloneB at ha
      simp [e3] at ha
      have := ha.2.2
      omega
    have h3 := Wr.comp h1 (wr_text x.s hs)
    exact h3
  simp only [if_neg e3, List.append_nil]
  exact h1
theorem fold_write (l : List Val) (h : ∀ y ∈ l, y.alone = true) {f : Option ByteArray → Option ByteArray} {m : List UInt8} (hf : Wr f m) : Wr (fun st => l.foldl plainM (f st)) (m ++ l.flatMap plainB) := by
  induction l generalizing f m with
  | nil => simpa using hf
  | cons y l ih =>
    have := ih (fun z hz => h z (by simp [hz])) (hf.comp (wr_plain (h y (by simp))))
    simpa using this
theorem wr_value {x : Val} {lx : List Val} (hf : x.formed lx = true) (hn : lx.length = x.n) : Wr (fun st => valueM st x lx) (valB x lx) := by
  unfold valueM valB
  simp only [if_pos hf]
  by_cases h5 : x.k = 5
  · simp only [if_pos h5]
    have h16 := bag_most h5 hf
    have h1 := wr_uns (n := 5) (size := 1) (by decide)
    have h2 := wr_uns (n := (x.n : Int)) (size := 1) (by show _ ∧ _ < (256 : Int); omega)
    rw [Int.toNat_natCast, ← hn] at h2
    have h3 := fold_write lx (bag_alone h5 hf) (h1.comp h2)
    rw [h5, ← List.append_assoc]
    rw [hn] at h3 ⊢
    exact h3
  · simp only [if_neg h5]
    exact wr_plain (by unfold Val.formed at hf; rwa [if_neg (by simpa using h5)] at hf)
theorem valB_most {x : Val} {lx : List Val} (hf : x.formed lx = true) : (valB x lx).length ≤ 2000 := by
  unfold valB
  split
  · rename_i h5
    have := flat_most lx (bag_alone h5 hf)
    have h16 := bag_most h5 hf
    simp only [List.length_append, numB_length]
    omega
  · rename_i h5
    have := plainB_most x (by unfold Val.formed at hf; rwa [if_neg (by simpa using h5)] at hf)
    omega
theorem enc_good {x : Val} {lx : List Val} (hf : x.formed lx = true) (hn : lx.length = x.n) : encE x lx = 0 ∧ encB x lx = valB x lx := by
  have h := (wr_value hf hn).yes []
  have hm := valB_most hf
  rw [if_pos (by rw [List.length_nil]; omega), List.nil_append] at h
  unfold encE encB
  rw [if_pos hf, if_pos hf]
  have h' : valueM (some ⟨#[]⟩) x lx = TT (valB x lx) := h
  rw [h']
  exact ⟨rfl, rfl⟩

/- reading back -/
theorem takeM_T (m u : List UInt8) : takeM (TT (m ++ u)) m.length = (⟨m.toArray⟩, TT u) := by
  rw [takeM_yes (by rw [size_tt, List.length_append]; omega)]
  have e1 : (⟨(m ++ u).toArray⟩ : ByteArray).extract 0 (m.length : Int).toNat = ⟨m.toArray⟩ := by
    rw [← tt_tb (ByteArray.extract _ _ _), tb_extract]
    simp [tb]
  have e2 : (⟨(m ++ u).toArray⟩ : ByteArray).extract (m.length : Int).toNat (⟨(m ++ u).toArray⟩ : ByteArray).size = ⟨u.toArray⟩ := by
    rw [← tt_tb (ByteArray.extract _ _ _), tb_extract, size_tt]
    simp [tb]
  rw [e1, e2]
theorem numU_numB (size n : Nat) (h : n < 256 ^ size) : numU (numB n size) = n := by
  induction size generalizing n with
  | zero => simp at h; subst h; rfl
  | succ size ih =>
    rw [numB_succ, numU_cons, numB_length]
    have hp : 0 < 256 ^ size := Nat.pow_pos (by omega)
    have e : numB n size = numB (n % 256 ^ size) size := by
      have := numB_add (n / 256 ^ size) (n % 256 ^ size) size
      rw [Nat.mul_comm, Nat.div_add_mod] at this
      exact this
    rw [e, ih _ (Nat.mod_lt _ hp)]
    have h2 : n / 256 ^ size < 256 := by rw [Nat.div_lt_iff_lt_mul hp]; rw [Nat.pow_succ, Nat.mul_comm] at h; exact h
    rw [UInt8.toNat_ofNat', Nat.mod_eq_of_lt h2, Nat.mul_comm, Nat.div_add_mod]
theorem numM_T (n size : Nat) (h : n < 256 ^ size) (u : List UInt8) : numM (TT (numB n size ++ u)) size = (n, TT u) := by
  unfold numM
  have := takeM_T (numB n size) u
  rw [numB_length] at this
  rw [this]
  show (numU (ByteArray.toList _), _) = _
  rw [toList_tb, tb_tt, numU_numB size n h]
theorem flagM_T (b : Bool) (u : List UInt8) : flagM (TT (numB (if b then 1 else 0) 1 ++ u)) = (b, TT u) := by
  unfold flagM
  rw [numM_T _ 1 (by cases b <;> decide)]
  cases b <;> rfl
theorem inTextM_T (s : ByteArray) (most : Int) (h1 : (s.size : Int) ≤ most) (h2 : s.size ≤ 4096) (u : List UInt8) : inTextM (TT (numB s.size 2 ++ (tb s ++ u))) most = (s, TT u) := by
  unfold inTextM
  rw [numM_T _ 2 (by show s.size < 65536; omega)]
  dsimp only
  rw [if_pos (by omega)]
  have := takeM_T (tb s) u
  rw [tb_size, tt_tb] at this
  exact this
/-- a value without a list -/
def bare (x : Val) : Val := ⟨x.k, x.i, x.s, none, 0, 0⟩
theorem empty_s {s : ByteArray} (h : s.toList.isEmpty = true) : s = ⟨#[]⟩ := by
  rw [toList_tb] at h
  have h2 : tb s = [] := by simpa using h
  rw [← tt_tb s, h2]
theorem wrap_of (i : Int) (h1 : -9223372036854775808 ≤ i) (h2 : i ≤ 9223372036854775807) : wrap64 (((i % 18446744073709551616).toNat : Nat) : Int) = i := by unfold wrap64; omega
theorem inPlainM_T {x : Val} (ha : x.alone = true) (hi : IOk x) (u : List UInt8) : inPlainM (TT (tailB x ++ u)) x.k = (bare x, TT u) := by
  have hk := alone_kind ha
  unfold Val.alone aloneB at ha
  split at ha
  · cases ha
  unfold inPlainM tailB bare
  by_cases e1 : x.k = 1
  · simp only [if_pos e1]
    rw [e1] at ha
    simp at ha
    have hs := empty_s (s := x.s) (by simpa using ha.2)
    have hf := flagM_T (x.i == 1) u
    rw [hf]
    dsimp only
    rw [hs]
    rcases ha.1 with h | h <;> rw [h] <;> rfl
  simp only [if_neg e1]
  by_cases e2 : x.k = 2 ∨ x.k = 4
  · simp only [if_pos e2]
    have hs : x.s = ⟨#[]⟩ := by
      rcases e2 with e | e <;> rw [e] at ha <;> simp at ha
      · exact empty_s (by simpa using ha)
      · exact empty_s (by simpa using ha.2)
    rw [numM_T _ 8 (by show _ < 18446744073709551616; omega)]
    dsimp only
    rw [wrap_of x.i hi.1 hi.2, hs]
  simp only [if_neg e2]
  by_cases e3 : x.k = 3
  · simp only [if_pos e3]
    rw [e3] at ha
    simp at ha
    rw [List.append_assoc, inTextM_T x.s 64 (by omega) (by omega)]
    dsimp only
    rw [ha.1]
  simp only [if_neg e3, List.nil_append]
  have e0 : x.k = 0 := by omega
  rw [e0] at ha
  simp at ha
  have hs := empty_s (s := x.s) (by simpa using ha.2)
  rw [hs, ha.1]
theorem plain_T {x : Val} (ha : x.alone = true) (_hi : IOk x) (u : List UInt8) : numM (TT (plainB x ++ u)) 1 = (x.k.toNat, TT (tailB x ++ u)) := by
  have hk := alone_kind ha
  unfold plainB
  rw [List.append_assoc]
  exact numM_T _ 1 (by show _ < 256; omega) _
theorem one_T {x : Val} (ha : x.alone = true) (hi : IOk x) (u : List UInt8) : inPlainM (numM (TT (plainB x ++ u)) 1).2 (numM (TT (plainB x ++ u)) 1).1 = (bare x, TT u) := by
  have hk := alone_kind ha
  rw [plain_T ha hi]
  dsimp only
  rw [show ((x.k.toNat : Nat) : Int) = x.k by omega]
  exact inPlainM_T ha hi u
theorem memN_T (l : List Val) (h : ∀ y ∈ l, y.alone = true) (hi : ∀ y ∈ l, IOk y) (u : List UInt8) (n : Nat) (hn : n ≤ l.length) : memN n (TT (l.flatMap plainB ++ u)) = ((l.take n).map bare, TT ((l.drop n).flatMap plainB ++ u)) := by
  induction n with
  | zero => rfl
  | succ n ih =>
    have ih' := ih (by omega)
    have hl : n < l.length := by omega
    have e : (l.drop n).flatMap plainB ++ u = plainB l[n] ++ ((l.drop (n + 1)).flatMap plainB ++ u) := by rw [List.drop_eq_getElem_cons hl, List.flatMap_cons, List.append_assoc]
    simp only [memN, ih']
    rw [e, one_T (h _ (List.getElem_mem hl)) (hi _ (List.getElem_mem hl)), List.take_succ_eq_append_getElem hl, List.map_append]
    rfl
theorem memM_T (l : List Val) (h16 : l.length ≤ 16) (h : ∀ y ∈ l, y.alone = true) (hi : ∀ y ∈ l, IOk y) (u : List UInt8) : memM (TT (numB l.length 1 ++ (l.flatMap plainB ++ u))) = (l.map bare, TT u) := by
  unfold memM
  rw [numM_T _ 1 (by show _ < 256; omega)]
  dsimp only
  rw [if_pos h16]
  have := memN_T l h hi u l.length (Nat.le_refl _)
  rw [List.take_length, List.drop_length] at this
  simpa using this
theorem rawV_T {x : Val} {lx : List Val} (hf : x.formed lx = true) (hi : IOk x) (hil : ∀ y ∈ lx, IOk y) (hn : lx.length = x.n) (u : List UInt8) : rawV (TT (valB x lx ++ u)) = ((bare x, lx.map bare), TT u) := by
  by_cases h5 : x.k = 5
  · have h16 := bag_most h5 hf
    have hal := bag_alone h5 hf
    unfold Val.formed at hf
    rw [if_pos (by simpa using h5), Bool.and_eq_true, Bool.and_eq_true] at hf
    have hs := empty_s hf.2.1
    have hi0 : x.i = 0 := by simpa using hf.1
    unfold valB
    rw [if_pos h5, h5, List.append_assoc, List.append_assoc]
    have hn5 := numM_T 5 1 (by decide) (numB lx.length 1 ++ (lx.flatMap plainB ++ u))
    unfold rawV
    rw [show (5 : Int).toNat = 5 from rfl, hn5]
    dsimp only
    rw [if_pos rfl]
    have hp : inPlainM (TT (numB lx.length 1 ++ (lx.flatMap plainB ++ u))) ((5 : Nat) : Int) = (bare x, TT (numB lx.length 1 ++ (lx.flatMap plainB ++ u))) := by
      unfold inPlainM bare
      rw [if_neg (by decide), if_neg (by decide), if_neg (by decide), h5, hi0, hs]
      rfl
    rw [hp]
    dsimp only
    rw [memM_T lx h16 hal hil u]
  · have ha : x.alone = true := by unfold Val.formed at hf; rwa [if_neg (by simpa using h5)] at hf
    have hk := alone_kind ha
    have hnil : lx = [] := by
      have : x.n = 0 := by unfold Val.alone aloneB at ha; split at ha; · cases ha
                           omega
      exact List.eq_nil_of_length_eq_zero (by omega)
    subst hnil
    unfold valB rawV
    rw [if_neg h5, if_neg (by rw [plain_T ha hi]; show ¬ x.k.toNat = 5; omega), one_T ha hi]
    rfl
end Go.Proofs.Ytebadbnlihbecaa
