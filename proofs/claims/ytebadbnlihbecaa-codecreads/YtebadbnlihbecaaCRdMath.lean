/- P3.2: parts read one behind the other: what is kept, and their bytes. -/
import Derived.Test.YtebadbnlihbecaaCRow7
namespace Go.Proofs.Ytebadbnlihbecaa
open Go.RowKit

theorem full_lt {w : World} {x : Val} {l : List Val} (h : Full w x l) {b : Nat} (hb : w.heap.size ≤ b) : NotIn x l b := by
  intro hne a ha e
  obtain ⟨g, o, hl⟩ := h.list
  have h1 := hl.at' hne
  have h0 := hl.c0 0 (List.length_pos_iff.2 hne)
  have := block_lt_of_cell h0
  rw [ha] at h1
  injection h1 with h1
  subst h1
  have e' : g = b := e
  have h2 : g < w.heap.size := this
  omega
/-- one part was read -/
structure Step (wr : World) (t : Nat) (T : TypeId) (st st' : Option ByteArray) (p : PartV) (lx : List Val) (w4 : World) : Prop where
  tape : Tape w4 t T st'
  kept : Kept1 t wr w4
  ok : PartOk w4 p lx
  far : ∀ b, b < wr.heap.size → NotIn p.v lx b
  math : ∀ c, st' = some c → bytesOk p lx = true ∧ ∃ a, st = some a ∧ tb a = bytesB p lx ++ tb c
/-- what the loop over the kinds keeps -/
structure ReadRel (w : World) (t : Nat) (T : TypeId) (l : List UInt8) (v : Value) (ps : List (PartV × List Val)) (st : Option ByteArray) (wr : World) : Prop where
  own : OwnsP wr (t + 1) v ps
  tape : Tape wr t T st
  below : Below w.heap.size w wr
  ok : ∀ p ∈ ps, PartOk wr p.1 p.2
  off : ∀ p ∈ ps, NotIn p.1.v p.2 t
  far : ∀ p ∈ ps, ∀ g, v.ownBlock = some g → NotIn p.1.v p.2 g
  math : ∀ c, st = some c → (∀ p ∈ ps, bytesOk p.1 p.2 = true) ∧ l = flatB ps ++ tb c
theorem read_own {w wr w4 : World} {t : Nat} {T : TypeId} {l : List UInt8} {v : Value} {ps : List (PartV × List Val)} {st st' : Option ByteArray} {p : PartV} {lx : List Val}
    (R : ReadRel w t T l v ps st wr) (S : Step wr t T st st' p lx w4) (o : Obj) : OwnsP (w4.alloc o) (t + 1) v ps :=
  ownP_on R.own fun g hg hl => (Below.heap_alloc _ _ _ (Nat.lt_of_lt_of_le hl S.kept.size)).trans (S.kept.block g hl (by omega))
theorem read_step {w wr w4 : World} {t : Nat} {T : TypeId} {l : List UInt8} {v : Value} {ps : List (PartV × List Val)} {st st' : Option ByteArray} {p : PartV} {lx : List Val}
    (h0 : w.heap.size ≤ t) (R : ReadRel w t T l v ps st wr) (S : Step wr t T st st' p lx w4) (o : Obj) {v' : Value} {w6 : World}
    (hown : OwnsP w6 (t + 1) v' (ps ++ [(p, lx)])) (hgr : (w4.alloc o).grownBy w6 v.ownBlock) (hblk : v'.ownBlock = v.ownBlock ∨ v'.ownBlock = some (w4.alloc o).heap.size) :
    ReadRel w t T l v' (ps ++ [(p, lx)]) st' w6 := by
  have hsz : (w4.alloc o).heap.size = w4.heap.size + 1 := World.size_alloc _ _
  have htl : t < wr.heap.size := R.tape.lt
  have hle : wr.heap.size ≤ w4.heap.size := S.kept.size
  have hob : ∀ g, v.ownBlock = some g → t + 1 ≤ g ∧ g < wr.heap.size := fun g hg => ownP_block R.own hg
  have hblock : ∀ k, k < w4.heap.size → some k ≠ v.ownBlock → w6.heap[k]? = w4.heap[k]? := fun k hk hne => (hgr.block k (by omega) hne).trans (Below.heap_alloc _ _ _ hk)
  have hfull : ∀ x lx', Full w4 x lx' → (∀ g, v.ownBlock = some g → NotIn x lx' g) → Full w6 x lx' := by
    intro x lx' hf hn
    cases hv : v.ownBlock with
    | none => exact full_on hf (b := w4.heap.size) (fun g hg _ => hblock g hg (by rw [hv]; intro e; cases e)) (full_lt hf (Nat.le_refl _))
    | some g0 => exact full_on hf (b := g0) (fun g hg hne => hblock g hg (by rw [hv]; intro e; injection e with e; exact hne e)) (hn g0 hv)
  have h4 : ∀ q ∈ ps, Full w4 q.1.v q.2 := fun q hq => full_kept (R.ok q hq).full S.kept (R.off q hq)
  refine ⟨hown, ?_, ?_, ?_, ?_, ?_, ?_⟩
  · exact S.tape.on (hblock t (by omega) (fun e => by have := hob t e.symm; omega))
  · exact ((kept_below R.below h0 S.kept).alloc (by have := R.below.size; omega) o).grown hgr (by have := R.below.size; omega) (fun k hk => by have := hob k hk; omega)
  · intro q hq
    rcases List.mem_append.1 hq with hq | hq
    · have hq' := R.ok q hq
      exact ⟨hq'.ok, hq'.s, hfull _ _ (h4 q hq) (R.far q hq), hq'.i, hq'.il⟩
    · obtain rfl := List.mem_singleton.1 hq
      exact ⟨S.ok.ok, S.ok.s, hfull _ _ S.ok.full (fun g hg => S.far g (hob g hg).2), S.ok.i, S.ok.il⟩
  · intro q hq
    rcases List.mem_append.1 hq with hq | hq
    · exact R.off q hq
    · obtain rfl := List.mem_singleton.1 hq
      exact S.far t htl
  · intro q hq g hg
    rcases hblk with e | e
    · rw [e] at hg
      rcases List.mem_append.1 hq with hq | hq
      · exact R.far q hq g hg
      · obtain rfl := List.mem_singleton.1 hq
        exact S.far g (hob g hg).2
    · rw [e] at hg
      injection hg with hg
      rcases List.mem_append.1 hq with hq | hq
      · exact full_lt (h4 q hq) (by omega)
      · obtain rfl := List.mem_singleton.1 hq
        exact full_lt S.ok.full (by omega)
  · intro c hc
    obtain ⟨hok, a, ha, hb⟩ := S.math c hc
    obtain ⟨hall, hl⟩ := R.math a ha
    refine ⟨fun q hq => ?_, ?_⟩
    · rcases List.mem_append.1 hq with hq | hq
      · exact hall q hq
      · obtain rfl := List.mem_singleton.1 hq
        exact hok
    · rw [hl, hb]
      simp [flatB]
/-- if all is read, the parts' bytes are these -/
theorem read_all {w wr : World} {t : Nat} {T : TypeId} {l : List UInt8} {v : Value} {ps : List (PartV × List Val)} {st : Option ByteArray} (R : ReadRel w t T l v ps st wr) (hl : l.length ≤ 1000) (ho : overM st = true) : allB ps = some l := by
  unfold overM at ho
  rw [Bool.and_eq_true] at ho
  obtain ⟨c, rfl⟩ := Option.isSome_iff_exists.1 ho.1
  have hnil : tb c = [] := by
    have := ho.2
    rw [show tapeB (some c) = c from rfl, toList_tb] at this
    simpa using this
  obtain ⟨hall, e⟩ := R.math c rfl
  rw [hnil, List.append_nil] at e
  rw [e] at hl ⊢
  exact allB_of ps hall (by omega)
def noV : Val := ⟨0, 0, ⟨#[]⟩, none, 0, 0⟩
theorem noV_ok : IOk noV := ⟨by decide, by decide⟩
theorem partOk_bare (w : World) (q : Nat) (n : Int) (s : ByteArray) (hq : q < 256) (h1 : -9223372036854775808 ≤ n) (h2 : n ≤ 9223372036854775807) (hs : s.size ≤ 5000) : PartOk w ⟨q, n, s, noV⟩ [] :=
  ⟨⟨hq, h1, h2, by unfold maxLen; show s.size ≤ _; omega⟩, hs, full_zero w, noV_ok, fun y hy => by cases hy⟩
theorem math_num {st : Option ByteArray} (size r : Nat) (hr : (size = 1 ∧ r = 0) ∨ (size = 2 ∧ r = 1) ∨ (size = 4 ∧ r = 2)) (q : Nat) (hq : q % 8 = r) : ∀ c, (numM st size).2 = some c → bytesOk ⟨q, ((numM st size).1 : Int), ⟨#[]⟩, noV⟩ [] = true ∧ ∃ a, st = some a ∧ tb a = bytesB ⟨q, ((numM st size).1 : Int), ⟨#[]⟩, noV⟩ [] ++ tb c := by
  intro c hc
  have hlt := numM_lt st size
  obtain ⟨a, ha, hb⟩ := numM_split (st := st) (size := size) (n := (numM st size).1) (c := c) (by rw [← hc])
  generalize (numM st size).1 = n at *
  unfold bytesOk bytesB
  dsimp only
  rcases hr with ⟨rfl, rfl⟩ | ⟨rfl, rfl⟩ | ⟨rfl, rfl⟩
  · refine ⟨?_, a, ha, ?_⟩
    · rw [if_pos hq]; exact decide_eq_true ⟨by omega, by omega⟩
    · rw [if_pos hq, hb]; rfl
  · refine ⟨?_, a, ha, ?_⟩
    · rw [if_neg (by omega), if_pos hq]; exact decide_eq_true ⟨by omega, by omega⟩
    · rw [if_neg (by omega), if_pos hq, hb]; rfl
  · refine ⟨?_, a, ha, ?_⟩
    · rw [if_neg (by omega), if_neg (by omega), if_pos hq]; exact decide_eq_true ⟨by omega, by omega⟩
    · rw [if_neg (by omega), if_neg (by omega), if_pos hq, hb]; rfl
theorem math_i64 {st : Option ByteArray} (q : Nat) (hq : q % 8 = 3) : ∀ c, (numM st 8).2 = some c → bytesOk ⟨q, wrap64 ((numM st 8).1 : Int), ⟨#[]⟩, noV⟩ [] = true ∧ ∃ a, st = some a ∧ tb a = bytesB ⟨q, wrap64 ((numM st 8).1 : Int), ⟨#[]⟩, noV⟩ [] ++ tb c := by
  intro c hc
  have hlt := numM_lt st 8
  obtain ⟨a, ha, hb⟩ := numM_split (st := st) (size := 8) (n := (numM st 8).1) (c := c) (by rw [← hc])
  generalize (numM st 8).1 = n at *
  unfold bytesOk bytesB
  dsimp only
  refine ⟨?_, a, ha, ?_⟩
  · rw [if_neg (by omega), if_neg (by omega), if_neg (by omega), if_pos hq]
  · rw [if_neg (by omega), if_neg (by omega), if_neg (by omega), if_pos hq, hb, wrap_back n hlt]
theorem math_flag {st : Option ByteArray} (q : Nat) (hq : q % 8 = 4) (n : Int) (hn : n = if (flagM st).1 then 1 else 0) : ∀ c, (flagM st).2 = some c → bytesOk ⟨q, n, ⟨#[]⟩, noV⟩ [] = true ∧ ∃ a, st = some a ∧ tb a = bytesB ⟨q, n, ⟨#[]⟩, noV⟩ [] ++ tb c := by
  intro c hc
  obtain ⟨a, ha, hb⟩ := flagM_split (st := st) (f := (flagM st).1) (c := c) (by rw [← hc])
  generalize (flagM st).1 = f at *
  unfold bytesOk bytesB
  dsimp only
  subst hn
  refine ⟨?_, a, ha, ?_⟩
  · rw [if_neg (by omega), if_neg (by omega), if_neg (by omega), if_neg (by omega), if_pos hq]
  · rw [if_neg (by omega), if_neg (by omega), if_neg (by omega), if_neg (by omega), if_pos hq, hb]
    cases f <;> rfl
theorem math_text {st : Option ByteArray} (q : Nat) (hq : q % 8 = 5) : ∀ c, (inTextM st 4096).2 = some c → bytesOk ⟨q, 0, (inTextM st 4096).1, noV⟩ [] = true ∧ ∃ a, st = some a ∧ tb a = bytesB ⟨q, 0, (inTextM st 4096).1, noV⟩ [] ++ tb c := by
  intro c hc
  obtain ⟨a, ha, hb, hm⟩ := inTextM_split (st := st) (m := 4096) (s := (inTextM st 4096).1) (c := c) (by rw [← hc])
  generalize (inTextM st 4096).1 = s at *
  unfold bytesOk bytesB
  dsimp only
  refine ⟨?_, a, ha, ?_⟩
  · rw [if_neg (by omega), if_neg (by omega), if_neg (by omega), if_neg (by omega), if_neg (by omega), if_pos hq]; exact decide_eq_true (by omega)
  · rw [if_neg (by omega), if_neg (by omega), if_neg (by omega), if_neg (by omega), if_neg (by omega), if_pos hq, hb, List.append_assoc]
theorem math_raw {st : Option ByteArray} (q n : Nat) (hq : q % 8 = 6) : ∀ c, (takeM st n).2 = some c → bytesOk ⟨q, 0, (takeM st n).1, noV⟩ [] = true ∧ ∃ a, st = some a ∧ tb a = bytesB ⟨q, 0, (takeM st n).1, noV⟩ [] ++ tb c := by
  intro c hc
  obtain ⟨a, ha, hb, hm⟩ := takeM_split (st := st) (n := n) (b := (takeM st n).1) (c := c) (by rw [← hc])
  generalize (takeM st n).1 = s at *
  unfold bytesOk bytesB
  dsimp only
  refine ⟨?_, a, ha, ?_⟩
  · rw [if_neg (by omega), if_neg (by omega), if_neg (by omega), if_neg (by omega), if_neg (by omega), if_neg (by omega), if_pos hq]
  · rw [if_neg (by omega), if_neg (by omega), if_neg (by omega), if_neg (by omega), if_neg (by omega), if_neg (by omega), if_pos hq, hb]
/-- a value that was read -/
theorem math_value {st : Option ByteArray} (q : Nat) (hq : q % 8 = 7) (y : Val) (ly : List Val) (hn : ly.length = y.n) (hy : valOk st = true → y.k = (rawV st).1.1.k ∧ y.i = (rawV st).1.1.i ∧ y.s = (rawV st).1.1.s ∧ ly = (rawV st).1.2) :
    ∀ c, readS st = some c → bytesOk ⟨q, 0, ⟨#[]⟩, y⟩ ly = true ∧ ∃ a, st = some a ∧ tb a = bytesB ⟨q, 0, ⟨#[]⟩, y⟩ ly ++ tb c := by
  intro c hc
  unfold readS at hc
  split at hc
  · rename_i hf
    obtain ⟨e1, e2, e3, rfl⟩ := hy (by unfold valOk; rw [hf, hc]; rfl)
    obtain ⟨a, ha, hb⟩ := rawV_split (st := st) (x := (rawV st).1.1) (l := (rawV st).1.2) (c := c) (by rw [← hc])
    unfold bytesOk bytesB
    dsimp only
    refine ⟨?_, a, ha, ?_⟩
    · rw [if_neg (by omega), if_neg (by omega), if_neg (by omega), if_neg (by omega), if_neg (by omega), if_neg (by omega), if_neg (by omega), ← hf, readF]
      exact formed_alike e1 e2 e3 hn.symm
    · rw [if_neg (by omega), if_neg (by omega), if_neg (by omega), if_neg (by omega), if_neg (by omega), if_neg (by omega), if_neg (by omega), valB_alike e1 e2 e3, hb]
  · cases hc
theorem value_ok {st : Option ByteArray} {y : Val} {ly : List Val} (hy : valOk st = true → y.k = (rawV st).1.1.k ∧ y.i = (rawV st).1.1.i ∧ y.s = (rawV st).1.1.s ∧ ly = (rawV st).1.2) (hno : valOk st = false → y = ⟨0, 0, ⟨#[]⟩, none, 0, 0⟩ ∧ ly = []) : IOk y ∧ ∀ z ∈ ly, IOk z := by
  cases hv : valOk st with
  | true =>
    obtain ⟨_, e2, _, rfl⟩ := hy hv
    obtain ⟨o1, o2⟩ := raw_ok st
    refine ⟨?_, o2⟩
    unfold IOk at o1 ⊢
    rw [e2]; exact o1
  | false =>
    obtain ⟨rfl, rfl⟩ := hno hv
    exact ⟨⟨by decide, by decide⟩, fun y hy => by cases hy⟩
end Go.Proofs.Ytebadbnlihbecaa
