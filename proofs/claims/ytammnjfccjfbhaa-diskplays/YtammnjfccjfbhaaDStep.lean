/- One call, on both sides. -/
import Derived.Test.YtammnjfccjfbhaaDFew
namespace Go.Proofs.Ytammnjfccjfbhaa
open Go.RowKit

/-- what a call tells and leaves, of the program's disk -/
def progDo (s : DSt) (x : OpR) : List UInt8 × Int × DSt :=
  if x.k.toNat % 5 = 0 then (if s.gone then ([], 5, s) else if ¬ (0 ≤ x.i ∧ x.i < s.S.length) then ([], 1, s) else if x.l.length ≠ 64 then ([], 1, s) else ([], 0, s.wrote x.i.toNat x.l))
  else if x.k.toNat % 5 = 1 then (if s.gone then ([], 5, s) else if ¬ (0 ≤ x.i ∧ x.i < s.S.length) then ([], 1, s) else ((s.S[x.i.toNat]?).getD [], 0, s))
  else if x.k.toNat % 5 = 2 then (if s.gone then ([], 5, s) else ([], 0, { s with ws := [] }))
  else if x.k.toNat % 5 = 3 then (if s.gone then ([], 0, s) else ([], 0, { s with fuse := max x.n 0, gone := x.n == 0 }))
  else ([], 0, s.crash x.bs)
/-- of the document's -/
def refDo (t : RSt) (x : OpR) : List UInt8 × Int × RSt :=
  if x.k.toNat % 5 = 0 then (if t.fuse = 0 then ([], 5, t) else if ¬ (0 ≤ x.i ∧ x.i < t.n) then ([], 1, t) else if x.l.length ≠ 64 then ([], 1, t) else ([], 0, ⟨t.n, t.L ++ [⟨x.i, x.l, false⟩], if 0 < t.fuse then t.fuse - 1 else t.fuse⟩))
  else if x.k.toNat % 5 = 1 then (if t.fuse = 0 then ([], 5, t) else if ¬ (0 ≤ x.i ∧ x.i < t.n) then ([], 1, t) else (lookR t.L x.i, 0, t))
  else if x.k.toNat % 5 = 2 then (if t.fuse = 0 then ([], 5, t) else ([], 0, ⟨t.n, t.L.map RWr.mark, t.fuse⟩))
  else if x.k.toNat % 5 = 3 then (if t.fuse = 0 then ([], 0, t) else ([], 0, ⟨t.n, t.L, max x.n (-1)⟩))
  else ([], 0, ⟨t.n, keptK x.bs t.L t.L.length, -1⟩)
theorem gone_iff {s : DSt} {t : RSt} (h : RelD s t) : s.gone = true ↔ t.fuse = 0 := by rw [h.gone, decide_eq_true_iff]
theorem do_same {s : DSt} {t : RSt} (h : RelD s t) (x : OpR) : (progDo s x).1 = (refDo t x).1 ∧ (progDo s x).2.1 = (refDo t x).2.1 ∧ RelD (progDo s x).2.2 (refDo t x).2.2 := by
  have hg := gone_iff h
  have hn := h.n
  unfold progDo refDo
  by_cases q0 : x.k.toNat % 5 = 0
  · rw [if_pos q0, if_pos q0]
    by_cases hf : t.fuse = 0
    · rw [if_pos (hg.2 hf), if_pos hf]; exact ⟨rfl, rfl, h⟩
    · have hgf : s.gone = false := by cases e : s.gone with | false => rfl | true => exact absurd (hg.1 e) hf
      rw [if_neg (by rw [hgf]; simp), if_neg hf, hn]
      by_cases hi : 0 ≤ x.i ∧ x.i < s.S.length
      · rw [if_neg (not_not_intro hi), if_neg (not_not_intro hi)]
        by_cases hl : x.l.length ≠ 64
        · rw [if_pos hl, if_pos hl]; exact ⟨rfl, rfl, h⟩
        · rw [if_neg hl, if_neg hl]
          refine ⟨rfl, rfl, ?_⟩
          have := h.write hgf x.i.toNat (by omega) x.l
          rw [show ((x.i.toNat : Nat) : Int) = x.i by omega, hn] at this
          exact this
      · rw [if_pos hi, if_pos hi]; exact ⟨rfl, rfl, h⟩
  · rw [if_neg q0, if_neg q0]
    by_cases q1 : x.k.toNat % 5 = 1
    · rw [if_pos q1, if_pos q1]
      by_cases hf : t.fuse = 0
      · rw [if_pos (hg.2 hf), if_pos hf]; exact ⟨rfl, rfl, h⟩
      · have hgf : s.gone = false := by cases e : s.gone with | false => rfl | true => exact absurd (hg.1 e) hf
        rw [if_neg (by rw [hgf]; simp), if_neg hf, hn]
        by_cases hi : 0 ≤ x.i ∧ x.i < s.S.length
        · rw [if_neg (not_not_intro hi), if_neg (not_not_intro hi)]
          refine ⟨?_, rfl, h⟩
          have := h.view x.i.toNat (by omega)
          rw [show ((x.i.toNat : Nat) : Int) = x.i by omega] at this
          show (s.S[x.i.toNat]?).getD [] = _
          rw [this]; rfl
        · rw [if_pos hi, if_pos hi]; exact ⟨rfl, rfl, h⟩
    · rw [if_neg q1, if_neg q1]
      by_cases q2 : x.k.toNat % 5 = 2
      · rw [if_pos q2, if_pos q2]
        by_cases hf : t.fuse = 0
        · rw [if_pos (hg.2 hf), if_pos hf]; exact ⟨rfl, rfl, h⟩
        · have hgf : s.gone = false := by cases e : s.gone with | false => rfl | true => exact absurd (hg.1 e) hf
          rw [if_neg (by rw [hgf]; simp), if_neg hf]
          exact ⟨rfl, rfl, h.flush⟩
      · rw [if_neg q2, if_neg q2]
        by_cases q3 : x.k.toNat % 5 = 3
        · rw [if_pos q3, if_pos q3]
          by_cases hf : t.fuse = 0
          · rw [if_pos (hg.2 hf), if_pos hf]; exact ⟨rfl, rfl, h⟩
          · have hgf : s.gone = false := by cases e : s.gone with | false => rfl | true => exact absurd (hg.1 e) hf
            rw [if_neg (by rw [hgf]; simp), if_neg hf]
            exact ⟨rfl, rfl, h.setFuse x.n⟩
        · rw [if_neg q3, if_neg q3]
          exact ⟨rfl, rfl, h.crash x.bs⟩

/-- bounds that a call keeps -/
structure Small (k : Nat) (s : DSt) (t : RSt) : Prop where
  ws : s.ws.length ≤ k
  L : t.L.length ≤ k
  f : s.fuse ≤ 9223372036854775807
  g : t.fuse ≤ 9223372036854775807
theorem Small.step {k : Nat} {s : DSt} {t : RSt} (h : Small k s t) (x : OpR) (hx : x.n ≤ 9223372036854775807) : Small (k + 1) (progDo s x).2.2 (refDo t x).2.2 := by
  obtain ⟨h1, h2, h3, h4⟩ := h
  have hw : ∀ i b, (s.wrote i b).ws.length = s.ws.length + 1 ∧ (s.wrote i b).fuse ≤ 9223372036854775807 := fun i b => by
    refine ⟨by rw [(wrote_S s i b).2]; simp, ?_⟩
    unfold DSt.wrote DSt.burnt
    split
    · show s.fuse - 1 ≤ _
      omega
    · exact h3
  have hP : (progDo s x).2.2.ws.length ≤ k + 1 ∧ (progDo s x).2.2.fuse ≤ 9223372036854775807 := by
    unfold progDo
    repeat' split
    all_goals dsimp only
    all_goals first
      | exact ⟨by omega, h3⟩
      | exact ⟨by have := (hw x.i.toNat x.l).1; omega, (hw x.i.toNat x.l).2⟩
      | exact ⟨Nat.zero_le _, h3⟩
      | exact ⟨by omega, by omega⟩
      | exact ⟨Nat.zero_le _, by show (0 : Int) ≤ _; omega⟩
  have hR : (refDo t x).2.2.L.length ≤ k + 1 ∧ (refDo t x).2.2.fuse ≤ 9223372036854775807 := by
    have hk := length_keptK x.bs t.L t.L.length
    unfold refDo
    repeat' split
    all_goals dsimp only
    all_goals first
      | exact ⟨by omega, h4⟩
      | exact ⟨by omega, by omega⟩
      | exact ⟨by simp; omega, h4⟩
      | exact ⟨by simp; omega, by omega⟩
      | exact ⟨by simp; omega, by split <;> omega⟩
  exact ⟨hP.1, hR.1, hP.2, hR.2⟩

/-! the program's calls, each as one -/
theorem Wrote.still {w : World} {N d gs : Nat} {v : Value} {s : DSt} (h : DAt w N d gs v s) : Wrote w N d gs v s v w := ⟨h, KeptF.refl _ _, fun _ h => .inl h⟩
theorem bsrc_range {w : World} {ba : Option Addr} {bc : Nat} {l : List UInt8} (h : BSrc w (.slice ba l.length bc) l) (hl : l.length = 64) : ∃ g o, ba = some ⟨g, o, none⟩ ∧ w.rangeAt g o (l.map B) ∧ g < w.heap.size := by
  rcases h with ⟨ad, cp, _, e⟩ | ⟨g, o, cp, e, hc⟩
  · rw [e] at hl; cases hl
  · injection e with e1 e2 e3
    refine ⟨g, o, e1, fun j v hv => ?_, block_lt_of_cell (hc 0 (by omega))⟩
    have hj : j < l.length := by have := (List.getElem?_eq_some_iff.1 hv).1; simpa using this
    rw [hc j hj]
    rw [List.getElem?_map, List.getElem?_eq_getElem hj] at hv
    exact hv
theorem write_all (w : World) (N d gs : Nat) (v : Value) (s : DSt) (h : DAt w N d gs v s) (x : OpR) (hq : x.k.toNat % 5 = 0) (hin : OpIn w x) (hws : s.ws.length ≤ 1000) (hf : s.fuse ≤ 9223372036854775807) :
    Calls Try.prog 12 #[.pointer (some ⟨d, 0, none⟩), .int .i64 x.i, .slice x.ba x.l.length x.bc] w fun e w' => e = .returned (.int .i64 (progDo s x).2.1) ∧ (progDo s x).1 = [] ∧ ∃ v', Wrote w N d gs v (progDo s x).2.2 v' w' := by
  unfold progDo
  rw [if_pos hq]
  by_cases hg : s.gone = true
  · rw [if_pos hg]
    exact (write_gone w N d gs v s h hg x.i _).mono fun e w' ⟨he, hw⟩ => ⟨he, rfl, v, hw ▸ Wrote.still h⟩
  · have hgf : s.gone = false := by simpa using hg
    rw [if_neg hg]
    by_cases hi : 0 ≤ x.i ∧ x.i < s.S.length
    · rw [if_neg (not_not_intro hi)]
      obtain ⟨i, hxi⟩ : ∃ i : Nat, x.i = (i : Int) := ⟨x.i.toNat, by omega⟩
      by_cases hl : x.l.length ≠ 64
      · rw [if_pos hl, hxi]
        exact (write_len w N d gs v s h hgf i (by omega) x.ba _ x.bc hl).mono fun e w' ⟨he, hw⟩ => ⟨he, rfl, v, hw ▸ Wrote.still h⟩
      · rw [if_neg hl]
        have hl64 : x.l.length = 64 := by omega
        obtain ⟨g, o, e1, hr, hlt⟩ := bsrc_range hin.src hl64
        rw [hl64, e1, hxi]
        have hT : ((i : Int)).toNat = i := by omega
        rw [hT]
        exact (write_any w N d gs v s h hgf i (by omega) x.l hl64 g o x.bc hr hlt hws hf).mono fun e w' ⟨he, hw⟩ => ⟨he, rfl, hw⟩
    · rw [if_pos hi]
      exact (write_no w N d gs v s h hgf x.i hi _).mono fun e w' ⟨he, hw⟩ => ⟨he, rfl, v, hw ▸ Wrote.still h⟩
theorem read_all (w : World) (N d gs : Nat) (v : Value) (s : DSt) (h : DAt w N d gs v s) (x : OpR) (hq : x.k.toNat % 5 = 1) :
    Calls Try.prog 13 #[.pointer (some ⟨d, 0, none⟩), .int .i64 x.i] w fun e w' => ∃ a n c, e = .returned (.tuple #[.slice a n c, .int .i64 (progDo s x).2.1]) ∧ BSrc w' (.slice a n c) (progDo s x).1 ∧ (progDo s x).2.2 = s ∧ Below w.heap.size w w' := by
  unfold progDo
  rw [if_neg (by omega), if_pos hq]
  have nil : BSrc w (.slice none 0 0) [] := .inl ⟨_, _, rfl, rfl⟩
  by_cases hg : s.gone = true
  · rw [if_pos hg]
    exact (read_gone w N d gs v s h hg x.i).mono fun e w' ⟨he, hw⟩ => ⟨_, _, _, he, hw ▸ nil, rfl, hw ▸ Below.refl _ _⟩
  · have hgf : s.gone = false := by simpa using hg
    rw [if_neg hg]
    by_cases hi : 0 ≤ x.i ∧ x.i < s.S.length
    · rw [if_neg (not_not_intro hi)]
      obtain ⟨i, hxi⟩ : ∃ i : Nat, x.i = (i : Int) := ⟨x.i.toNat, by omega⟩
      rw [hxi]
      have hT : ((i : Int)).toNat = i := by omega
      rw [hT]
      have hil : i < s.S.length := by omega
      have hb := List.getElem?_eq_getElem hil
      refine (read_any w N d gs v s h hgf i hil _ hb).mono fun e w' ⟨he, hbl, hy, _⟩ => ⟨_, _, _, he, ?_, rfl, hbl⟩
      dsimp only
      rw [hb]
      show BSrc w' _ s.S[i]
      have := bsrc_block hy 64
      rwa [h.ok.len _ (List.getElem_mem hil)] at this
    · rw [if_pos hi]
      exact (read_arg w N d gs v s h hgf x.i hi).mono fun e w' ⟨he, hw⟩ => ⟨_, _, _, he, hw ▸ nil, rfl, hw ▸ Below.refl _ _⟩
theorem flush_all (w : World) (N d gs : Nat) (v : Value) (s : DSt) (h : DAt w N d gs v s) (x : OpR) (hq : x.k.toNat % 5 = 2) :
    Calls Try.prog 14 #[.pointer (some ⟨d, 0, none⟩)] w fun e w' => e = .returned (.int .i64 (progDo s x).2.1) ∧ (progDo s x).1 = [] ∧ ∃ v', Wrote w N d gs v (progDo s x).2.2 v' w' := by
  unfold progDo
  rw [if_neg (by omega), if_neg (by omega), if_pos hq]
  by_cases hg : s.gone = true
  · rw [if_pos hg]
    exact (flush_gone w N d gs v s h hg).mono fun e w' ⟨he, hw⟩ => ⟨he, rfl, v, hw ▸ Wrote.still h⟩
  · have hgf : s.gone = false := by simpa using hg
    rw [if_neg hg]
    exact (flush_any w N d gs v s h hgf).mono fun e w' ⟨he, hD, hK⟩ => ⟨he, rfl, _, ⟨hD, .of_kept1 hK fun _ => .inl rfl, fun k e => by cases e⟩⟩
theorem fuse_all (w : World) (N d gs : Nat) (v : Value) (s : DSt) (h : DAt w N d gs v s) (x : OpR) (hq : x.k.toNat % 5 = 3) :
    Calls Try.prog 15 #[.pointer (some ⟨d, 0, none⟩), .int .i64 x.n] w fun e w' => e = .returned (.tuple #[]) ∧ ((progDo s x).1 = [] ∧ (progDo s x).2.1 = 0) ∧ ∃ v', Wrote w N d gs v (progDo s x).2.2 v' w' := by
  unfold progDo
  rw [if_neg (by omega), if_neg (by omega), if_neg (by omega), if_pos hq]
  by_cases hg : s.gone = true
  · rw [if_pos hg]
    exact (fuse_gone w N d gs v s h hg x.n).mono fun e w' ⟨he, hw⟩ => ⟨he, ⟨rfl, rfl⟩, v, hw ▸ Wrote.still h⟩
  · have hgf : s.gone = false := by simpa using hg
    rw [if_neg hg]
    exact (fuse_any w N d gs v s h hgf x.n).mono fun e w' ⟨he, hD, hK⟩ => ⟨he, ⟨rfl, rfl⟩, _, ⟨hD, .of_kept1 hK fun _ => .inl rfl, fun _ h => .inl h⟩⟩
theorem crash_every (w : World) (N d gs : Nat) (v : Value) (s : DSt) (h : DAt w N d gs v s) (x : OpR) (hq : x.k.toNat % 5 = 4) (hin : OpIn w x) (hlow : x.bs ≠ [] → x.pg < N) (hws : s.ws.length ≤ 1000) (hbl : x.bs.length ≤ 100000) :
    Calls Try.prog 16 #[.pointer (some ⟨d, 0, none⟩), .slice x.pa x.bs.length x.pc] w fun e w' => e = .returned (.tuple #[]) ∧ ((progDo s x).1 = [] ∧ (progDo s x).2.1 = 0) ∧ ∃ v', Wrote w N d gs v (progDo s x).2.2 v' w' := by
  unfold progDo
  rw [if_neg (by omega), if_neg (by omega), if_neg (by omega), if_neg (by omega)]
  exact (crash_any w N d gs v s h hws x.pa x.pg x.po x.pc x.bs hbl hin.pad hin.pcell (fun hn hF => by have := (h.footN hF).1; have := hlow hn; omega)).mono fun e w' ⟨he, hD, hK⟩ => ⟨he, ⟨rfl, rfl⟩, _, ⟨hD, hK, fun k e => by cases e⟩⟩

/-- the document's call, as one -/
theorem do_any (w : World) (N d : Nat) (v : Value) (t : RSt) (h : RAt w N d v t) (x : OpR) (hin : OpIn w x) (hlow : ∀ g o n c, Value.slice x.ba x.l.length x.bc = .slice (some ⟨g, o, none⟩) n c → x.l ≠ [] → g < N) (hL : t.L.length ≤ 1000) (hbl : x.bs.length ≤ 100000) (hf : t.fuse ≤ 9223372036854775807) :
    Calls Try.prog 17 #[.pointer (some ⟨d, 0, none⟩), x.val] w fun e w' => e = .returned (.tuple #[.string ⟨(refDo t x).1.toArray⟩, .int .i64 (refDo t x).2.1]) ∧ ∃ v', Did w N d v (refDo t x).2.2 v' w' := by
  have hq : x.k.toNat % 5 < 5 := Nat.mod_lt _ (by omega)
  unfold refDo
  by_cases q0 : x.k.toNat % 5 = 0
  · rw [if_pos q0]
    by_cases hz : t.fuse = 0
    · rw [if_pos hz]; exact (do_lost w N d v t h x 0 q0 (by omega) hz).mono fun e w' ⟨he, hb⟩ => ⟨he, v, Did.of_below h hb⟩
    · rw [if_neg hz]
      by_cases hi : 0 ≤ x.i ∧ x.i < t.n
      · rw [if_neg (not_not_intro hi)]
        by_cases hl : x.l.length ≠ 64
        · rw [if_pos hl]; exact (do_len w N d v t h x q0 hz hi hl).mono fun e w' ⟨he, hb⟩ => ⟨he, v, Did.of_below h hb⟩
        · rw [if_neg hl]
          exact (do_write w N d v t h x q0 hz hi (by omega) hin.src (fun g o n c e hn => by
            have hg := hlow g o n c e hn
            have := h.dN
            exact ⟨by omega, fun e' => by have := (h.row.lt g e').1; omega⟩) (by omega) hf)
      · rw [if_pos hi]; exact (do_arg w N d v t h x 0 q0 (by omega) hz hi).mono fun e w' ⟨he, hb⟩ => ⟨he, v, Did.of_below h hb⟩
  · rw [if_neg q0]
    by_cases q1 : x.k.toNat % 5 = 1
    · rw [if_pos q1]
      by_cases hz : t.fuse = 0
      · rw [if_pos hz]; exact (do_lost w N d v t h x 1 q1 (by omega) hz).mono fun e w' ⟨he, hb⟩ => ⟨he, v, Did.of_below h hb⟩
      · rw [if_neg hz]
        by_cases hi : 0 ≤ x.i ∧ x.i < t.n
        · rw [if_neg (not_not_intro hi)]
          exact (do_read w N d v t h x q1 hz hi (by omega)).mono fun e w' ⟨he, hb⟩ => ⟨he, v, Did.of_below h hb⟩
        · rw [if_pos hi]; exact (do_arg w N d v t h x 1 q1 (by omega) hz hi).mono fun e w' ⟨he, hb⟩ => ⟨he, v, Did.of_below h hb⟩
    · rw [if_neg q1]
      by_cases q2 : x.k.toNat % 5 = 2
      · rw [if_pos q2]
        by_cases hz : t.fuse = 0
        · rw [if_pos hz]; exact (do_lost w N d v t h x 2 q2 (by omega) hz).mono fun e w' ⟨he, hb⟩ => ⟨he, v, Did.of_below h hb⟩
        · rw [if_neg hz]; exact do_flush w N d v t h x q2 hz (by omega)
      · rw [if_neg q2]
        by_cases q3 : x.k.toNat % 5 = 3
        · rw [if_pos q3]
          by_cases hz : t.fuse = 0
          · rw [if_pos hz]; exact (do_fuse0 w N d v t h x q3 hz).mono fun e w' ⟨he, hb⟩ => ⟨he, v, Did.of_below h hb⟩
          · rw [if_neg hz]; exact do_fuse w N d v t h x q3 hz
        · rw [if_neg q3]
          exact do_crash w N d v t h x (by omega) hin (by omega) hbl
end Go.Proofs.Ytammnjfccjfbhaa
