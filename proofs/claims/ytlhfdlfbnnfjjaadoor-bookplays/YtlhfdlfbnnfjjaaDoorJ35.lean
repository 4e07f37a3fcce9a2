/- What appends and crashes make of a book's sectors; What appends and crashes leave of a book; The reference reads one record. -/
import Derived.Test.YtlhfdlfbnnfjjaaDoorJ34
import Derived.Test.YtlhfdlfbnnfjjaaDoorJ33
namespace Go.Proofs.YtlhfdlfbnnfjjaaDoor
open Go.RowKit

set_option maxRecDepth 100000 in
theorem wrN_get (s : DSt) (A n g : Nat) (l : List UInt8) (k j : Nat) : (wrN s A n g l k).S[j]? = if A ≤ j ∧ j < A + k ∧ j < s.S.length then some (secB n g (j - A) l) else s.S[j]? := by
  induction k with
  | zero => rw [if_neg (by omega)]; rfl
  | succ k ih =>
    show ((wrN s A n g l k).wrote (A + k) (secB n g k l)).S[j]? = _
    rw [(wrote_S _ _ _).1, List.getElem?_set, (wrN_len s A n g l k).1]
    split
    · rename_i h
      subst h
      by_cases hj : A + k < s.S.length
      · rw [if_pos hj, if_pos ⟨by omega, by omega, hj⟩]
        simp
      · rw [if_neg hj, if_neg (by omega)]
        rw [List.getElem?_eq_none (by omega)]
    · rename_i h
      rw [ih]
      by_cases hc : A ≤ j ∧ j < A + k ∧ j < s.S.length
      · rw [if_pos hc, if_pos ⟨hc.1, by omega, hc.2.2⟩]
      · rw [if_neg hc, if_neg (by omega)]
set_option maxRecDepth 100000 in
theorem wrN_ws (s : DSt) (A n g : Nat) (l : List UInt8) (hs : s.ws = []) (k : Nat) : ∀ i r, (wrN s A n g l k).ws[i]? = some r → r.place = A + i ∧ r.after = secB n g i l := by
  induction k with
  | zero => intro i r h; rw [show (wrN s A n g l 0).ws = s.ws from rfl, hs] at h; simp at h
  | succ k ih =>
    intro i r h
    have hl := (wrN_len s A n g l k).2.1
    rw [hs] at hl
    simp only [List.length_nil, Nat.zero_add] at hl
    rw [show (wrN s A n g l (k + 1)).ws = (wrN s A n g l k).ws ++ [⟨A + k, _, secB n g k l⟩] from (wrote_S _ _ _).2] at h
    rcases Nat.lt_or_ge i k with hi | hi
    · rw [List.getElem?_append_left (by omega)] at h
      exact ih i r h
    · rw [List.getElem?_append_right (by omega), hl] at h
      have hik : i - k = 0 := by
        rcases Nat.eq_zero_or_pos (i - k) with h0 | h0
        · exact h0
        · rw [List.getElem?_eq_none (by simp; omega)] at h; cases h
      rw [hik] at h
      have hr := Option.some.inj h
      have : i = k := by omega
      subst this
      rw [← hr]
      exact ⟨rfl, rfl⟩
set_option maxRecDepth 100000 in
theorem wrN_hist (s : DSt) (A n g : Nat) (l : List UInt8) (hs : s.ws = []) (k : Nat) (hk : A + k ≤ s.S.length) : Hist s.S (wrN s A n g l k) := by
  induction k with
  | zero => exact Hist.none s hs
  | succ k ih => exact (ih (by omega)).wrote (A + k) (by rw [(wrN_len s A n g l k).1]; omega) _
set_option maxRecDepth 100000 in
/-- which sectors a crash leaves: those that were there, or new ones that were picked -/
theorem redo_get : ∀ (bs : List Bool) (ws : List WrR) (A : Nat) (S : List (List UInt8)), (∀ i r, ws[i]? = some r → r.place = A + i) → ∀ j, (redoL bs ws S)[j]? = S[j]? ∧ (∀ i r, j = A + i → ws[i]? = some r → bs[i]? = some true → S[j]? = some r.after ∨ S.length ≤ j) ∨ ∃ i r, j = A + i ∧ ws[i]? = some r ∧ bs[i]? = some true ∧ j < S.length ∧ (redoL bs ws S)[j]? = some r.after
  | [], ws, A, S, _, j => .inl ⟨by simp [redoL], fun i r _ _ h => by simp at h⟩
  | _ :: _, [], A, S, _, j => .inl ⟨by simp [redoL], fun i r _ h _ => by simp at h⟩
  | b :: bs, r :: ws, A, S, h, j => by
    have h0 := h 0 r rfl
    have hs : ∀ i q, ws[i]? = some q → q.place = A + 1 + i := fun i q hq => by rw [h (i + 1) q hq]; omega
    rw [redoL]
    rcases redo_get bs ws (A + 1) (if b then S.set r.place r.after else S) hs j with ⟨h1, h2⟩ | ⟨i, q, hj, hq, hb, hlt, h1⟩
    · by_cases hj : j = A ∧ b = true ∧ j < S.length
      · obtain ⟨rfl, rfl, hlt⟩ := hj
        refine .inr ⟨0, r, rfl, rfl, rfl, hlt, ?_⟩
        rw [h1, if_pos rfl, h0]
        simp [hlt]
      · refine .inl ⟨?_, ?_⟩
        · rw [h1]
          cases b with
          | false => simp
          | true =>
            simp only [if_true]
            rw [List.getElem?_set]
            split
            · rename_i hp
              rw [if_neg (by intro hlt; exact hj ⟨by omega, rfl, by omega⟩), List.getElem?_eq_none (by
                rcases Nat.lt_or_ge j S.length with h | h
                · exact absurd ⟨by omega, rfl, h⟩ hj
                · exact h)]
            · rfl
        · intro i q hji hq hb
          cases i with
          | zero =>
            have hbt : b = true := by simpa using hb
            right
            rcases Nat.lt_or_ge j S.length with h | h
            · exact absurd ⟨by omega, hbt, h⟩ hj
            · exact h
          | succ i =>
            have h3 := h2 i q (by omega) (by simpa using hq) (by simpa using hb)
            have e : (if b then S.set r.place r.after else S)[j]? = S[j]? := by
              cases b with
              | false => simp
              | true =>
                simp only [if_true]
                rw [List.getElem?_set, if_neg (by omega)]
            rw [e] at h3
            rcases h3 with h3 | h3
            · exact .inl h3
            · right
              cases b <;> simpa using h3
    · refine .inr ⟨i + 1, q, by omega, by simpa using hq, by simpa using hb, ?_, h1⟩
      cases b <;> simpa using hlt
end Go.Proofs.YtlhfdlfbnnfjjaaDoor
namespace Go.Proofs.YtlhfdlfbnnfjjaaDoor
open Go.RowKit

set_option maxRecDepth 100000 in
theorem nParts_pos (n : Nat) : 1 ≤ nParts n := by unfold nParts; omega
set_option maxRecDepth 100000 in
theorem map_get (S : List (List UInt8)) (i : Nat) : (S.map rdS)[i]? = S[i]?.map rdS := List.getElem?_map ..
set_option maxRecDepth 100000 in
theorem BInv.append {s : DSt} {gen room : Nat} {rs : List (List UInt8)} {l : List UInt8} (h : BInv s.S gen room rs) (hl : l.length ≤ 4096) (hr : nParts l.length ≤ room) (hn : rs.length ≤ 8192) (hg : gen < 4294967296) :
    BInv (wrN s (s.S.length - room) rs.length gen l (nParts l.length)).S gen (room - nParts l.length) (rs ++ [l]) := by
  obtain ⟨⟨P, X, L, e, hx, hR, hst, hL, hXg⟩, hgens, h1⟩ := h
  have hM := nParts_le l.length hl
  have hlen : P.length + X.length = s.S.length := by have := congrArg List.length e; simpa using this.symm
  have hA : s.S.length - room = P.length := by omega
  rw [hA]
  have hS : (wrN s P.length rs.length gen l (nParts l.length)).S.map rdS = P ++ (newT rs.length gen l ++ X.drop (nParts l.length)) := by
    apply List.ext_getElem?
    intro j
    rw [map_get, wrN_get]
    have ej := congrArg (fun T => T[j]?) e
    simp only [map_get] at ej
    split
    · rename_i hc
      rw [List.getElem?_append_right (by omega), newT_get _ _ _ _ _ (by omega)]
      simp only [Option.map_some]
      rw [rdS_secB _ _ _ _ hn hg (by omega) hl]
    · rename_i hc
      rw [ej]
      rcases Nat.lt_or_ge j P.length with hj | hj
      · rw [List.getElem?_append_left hj, List.getElem?_append_left hj]
      · rw [List.getElem?_append_right hj, List.getElem?_append_right hj]
        rcases Nat.lt_or_ge (j - P.length) (nParts l.length) with h2 | h2
        · have : s.S.length ≤ j := by omega
          omega
        · rw [List.getElem?_append_right (by simpa [newT] using h2), List.getElem?_drop]
          congr 1
          simp [newT]; omega
  refine ⟨⟨P ++ newT rs.length gen l, X.drop (nParts l.length), gen, by rw [hS, List.append_assoc], by rw [List.length_drop, hx], ?_, ?_, Nat.le_refl _, fun x hx => hXg x (List.mem_of_mem_drop hx)⟩, ?_, h1⟩
  · have h2 := hR.more (newT rs.length gen l)
    rw [List.nil_append] at h2
    have h3 := newT_stands rs.length gen l hl [] L hL
    have h4 := rec_newT rs.length gen l []
    rw [List.append_nil] at h3 h4
    have h5 := h2.snoc (by rw [Nat.add_comm]; exact h3) (by rw [h4]; exact hl)
    rw [h4, List.drop_of_length_le (by simp [newT])] at h5
    exact h5
  · exact stop_less fun x hx => hXg x (List.mem_of_mem_drop hx)
  · intro x hx
    rw [hS] at hx
    rcases List.mem_append.1 hx with hx | hx
    · exact hgens x (by rw [e]; exact List.mem_append_left _ hx)
    · rcases List.mem_append.1 hx with hx | hx
      · obtain ⟨i, _, rfl⟩ := List.mem_map.1 hx
        exact Nat.le_refl _
      · have := hXg x (List.mem_of_mem_drop hx); omega
set_option maxRecDepth 100000 in
/-- what a crash leaves of sectors that were being written -/
theorem crash_sectors {s : DSt} {n gen A k : Nat} {l : List UInt8} {bs : List Bool} (hs : s.ws = []) (hk : A + k ≤ s.S.length) (hn : n ≤ 8192) (hg : gen < 4294967296) (hl : l.length ≤ 4096) (hk2 : k ≤ nParts l.length) (j : Nat) :
    (((wrN s A n gen l k).crash bs).S.map rdS)[j]? = (s.S.map rdS)[j]? ∨ (A ≤ j ∧ j < A + k ∧ (((wrN s A n gen l k).crash bs).S.map rdS)[j]? = some (newS n gen (j - A) l)) := by
  have hM := nParts_le l.length hl
  have hh := wrN_hist s A n gen l hs k hk
  have hw := wrN_ws s A n gen l hs k
  have hwl := (wrN_len s A n gen l k).2.1
  rw [hs] at hwl
  simp only [List.length_nil, Nat.zero_add] at hwl
  have e : ((wrN s A n gen l k).crash bs).S = redoL bs (wrN s A n gen l k).ws s.S := by unfold DSt.crash; dsimp only; rw [hh.undo]
  rw [map_get, map_get, e]
  rcases redo_get bs (wrN s A n gen l k).ws A s.S (fun i r hr => (hw i r hr).1) j with ⟨h1, _⟩ | ⟨i, r, hj, hr, _, _, h1⟩
  · left; rw [h1]
  · right
    have hi : i < k := by have := (List.getElem?_eq_some_iff.1 hr).1; omega
    refine ⟨by omega, by omega, ?_⟩
    rw [h1, (hw i r hr).2]
    simp only [Option.map_some]
    rw [rdS_secB _ _ _ _ hn hg (by omega) hl]
    congr 2
    omega
set_option maxRecDepth 100000 in
/-- behind a crash all records are there, and perhaps the one that was cut off -/
theorem BInv.crash {s : DSt} {gen room : Nat} {rs : List (List UInt8)} {l : List UInt8} {k : Nat} {bs : List Bool} (h : BInv s.S gen room rs) (hs : s.ws = []) (hl : l.length ≤ 4096) (hr : nParts l.length ≤ room) (hk : k ≤ nParts l.length) (hn : rs.length ≤ 8192) (hg : gen < 4294967296) :
    (∀ x ∈ ((wrN s (s.S.length - room) rs.length gen l k).crash bs).S.map rdS, x.1.g ≤ gen) ∧
    ∀ rs' T' l', Reads (((wrN s (s.S.length - room) rs.length gen l k).crash bs).S.map rdS) 1 1 rs' T' l' → Stop T' (rs'.length + 1) l' → rs' = rs ∨ rs' = rs ++ [l] := by
  obtain ⟨⟨P, X, L, e, hx, hR, hst, hL, hXg⟩, hgens, h1⟩ := h
  have hM := nParts_le l.length hl
  have hlen : P.length + X.length = s.S.length := by have := congrArg List.length e; simpa using this.symm
  have hA : s.S.length - room = P.length := by omega
  rw [hA]
  have hc := fun j => crash_sectors (s := s) (n := rs.length) (gen := gen) (A := P.length) (k := k) (l := l) (bs := bs) hs (by omega) hn hg hl hk j
  have hSl : (((wrN s P.length rs.length gen l k).crash bs).S.map rdS).length = s.S.length := by rw [List.length_map, crash_len, (wrN_len s P.length rs.length gen l k).1]
  obtain ⟨U, hU⟩ : ∃ U, ((wrN s P.length rs.length gen l k).crash bs).S.map rdS = U := ⟨_, rfl⟩
  rw [hU] at hc hSl ⊢
  have hUP : U = P ++ U.drop P.length := by
    have : U.take P.length = P := by
      apply List.ext_getElem?
      intro j
      rw [List.getElem?_take]
      split
      · rename_i hj
        rcases hc j with h | ⟨h, _, _⟩
        · rw [h, e, List.getElem?_append_left hj]
        · omega
      · rename_i hj
        rw [List.getElem?_eq_none (by omega)]
    rw [← List.take_append_drop P.length U, this]
    simp
  obtain ⟨Y, hY⟩ : ∃ Y, U.drop P.length = Y := ⟨_, rfl⟩
  rw [hY] at hUP
  have hYl : Y.length = X.length := by rw [← hY, List.length_drop]; omega
  have hYi : ∀ i, Y[i]? = X[i]? ∨ (i < k ∧ Y[i]? = some (newS rs.length gen i l)) := fun i => by
    have h2 := hc (P.length + i)
    rw [hUP, List.getElem?_append_right (by omega), e, List.getElem?_append_right (by omega), Nat.add_sub_cancel_left] at h2
    rcases h2 with h2 | ⟨_, h3, h4⟩
    · exact .inl h2
    · exact .inr ⟨by omega, h4⟩
  refine ⟨fun x hx => ?_, fun rs' T' l' hR' hS' => ?_⟩
  · obtain ⟨j, hj⟩ := List.getElem?_of_mem hx
    rcases hc j with h | ⟨_, _, h⟩
    · rw [h] at hj; exact hgens x (List.mem_of_getElem? hj)
    · rw [h] at hj; obtain rfl := Option.some.inj hj; exact Nat.le_refl _
  · rw [hUP] at hR'
    by_cases hno : ∃ i, i < nParts l.length ∧ Y[i]? = X[i]?
    · left
      have h2 := hR.more Y
      rw [List.nil_append] at h2
      have h3 := stop_part (n := rs.length) (g := gen) (l := l) hXg hst hYl (fun i => (hYi i).imp id fun h => ⟨by omega, h.2⟩) hno
      exact (hR'.det (by rw [Nat.add_comm]; exact hS') h2 (by rw [Nat.add_comm]; exact h3)).1
    · right
      have hall : ∀ i, i < nParts l.length → Y[i]? = some (newS rs.length gen i l) := fun i hi => by
        rcases hYi i with h | ⟨_, h⟩
        · exact absurd ⟨i, hi, h⟩ hno
        · exact h
      have hYe : Y = newT rs.length gen l ++ X.drop (nParts l.length) := by
        apply List.ext_getElem?
        intro i
        rcases Nat.lt_or_ge i (nParts l.length) with hi | hi
        · rw [hall i hi, newT_get _ _ _ _ _ hi]
        · rw [List.getElem?_append_right (by simpa [newT] using hi), List.getElem?_drop]
          rcases hYi i with h | ⟨h, _⟩
          · rw [h]; congr 1; simp [newT]; omega
          · omega
      have h2 := hR.more Y
      rw [List.nil_append] at h2
      have h3 := newT_stands rs.length gen l hl (X.drop (nParts l.length)) L hL
      have h4 := rec_newT rs.length gen l (X.drop (nParts l.length))
      rw [← hYe] at h3 h4
      have h5 := h2.snoc (by rw [Nat.add_comm]; exact h3) (by rw [h4]; exact hl)
      rw [h4] at h5
      have h6 : Stop (Y.drop (nParts l.length)) (1 + (rs ++ [l]).length) gen := by
        rw [hYe, List.drop_left' (by simp [newT])]
        exact stop_less fun x hx => hXg x (List.mem_of_mem_drop hx)
      exact (hR'.det (by rw [Nat.add_comm]; exact hS') h5 h6).1
set_option maxRecDepth 100000 in
/-- a book that is opened anew, where nothing waits, is the same -/
theorem BInv.same {S : List (List UInt8)} {gen room : Nat} {rs rs' : List (List UInt8)} {T' : List Sec} {l' : Nat} (h : BInv S gen room rs) (hR' : Reads (S.map rdS) 1 1 rs' T' l') (hS' : Stop T' (rs'.length + 1) l') : rs' = rs := by
  obtain ⟨P, X, L, e, hx, hR, hst, hL, hXg⟩ := h.ex
  have h2 := hR.more X
  rw [List.nil_append, ← e] at h2
  exact (hR'.det (by rw [Nat.add_comm]; exact hS') h2 (by rw [Nat.add_comm]; exact hst)).1
end Go.Proofs.YtlhfdlfbnnfjjaaDoor
namespace Go.Proofs.YtlhfdlfbnnfjjaaDoor
open Go.RowKit

set_option maxRecDepth 100000 in
/-- 'b[i:m]' of a slice of bytes -/
theorem part_mid (p : Part) (i m : Nat) (him : i ≤ m) (hm : m ≤ p.l.length) (hc : p.l.length ≤ p.cap) (hat : p.l ≠ [] → p.ad = some ⟨p.g, p.o, none⟩) : ∃ q : Part, q.l = (p.l.drop i).take (m - i) ∧ q.g = p.g ∧ (∀ w, p.In w → q.In w) ∧ ((p.ad = none → p.cap = 0) → q.ad = none → q.cap = 0) ∧ q.l.length = m - i ∧
    ∀ w, (Instr.sliceAt 32 (.slice p.ad p.l.length p.cap) (some (.int .i64 (i : Int))) (some (.int .i64 (m : Int))) none).run Tryd.prog w = .ok (.slice q.ad (m - i) q.cap) w := by
  refine ⟨⟨if p.cap = i then p.ad else p.ad.map (·.add i), p.g, p.o + i, p.cap - i, (p.l.drop i).take (m - i)⟩, rfl, rfl, fun w h => ⟨⟨fun hn => ?_, fun j hj => ?_⟩, ?_, h.lt⟩, fun h hn => ?_, by simp; omega, fun w => ?_⟩
  · dsimp only at hn ⊢
    have hkl : i < p.l.length := by
      rcases Nat.lt_or_ge i p.l.length with h | h
      · exact h
      · rw [List.drop_eq_nil_of_le h] at hn; simp at hn
    rw [if_neg (by omega), hat (by intro e; rw [e] at hkl; cases hkl)]
    simp [Addr.add_mid]
  · have hj' : i + j < p.l.length := by simp at hj; omega
    have := h.bytes.cell (i + j) hj'
    dsimp only
    rw [show p.o + i + j = p.o + (i + j) by omega, this]
    simp
  · have := h.cap; simp; omega
  · dsimp only at hn ⊢
    split at hn
    · rw [h hn]; omega
    · have : p.ad = none := by simpa using hn
      rw [h this]; omega
  · have e3 : ∀ w, (sizeOf 5).run Tryd.prog w = .ok 1 w := fun _ => by kernel_rfl
    have e1 : Tryd.prog.elem 32 = 5 := by kernel_rfl
    rw [run_sliceAt_slice (P := Tryd.prog) w 32 _ _ _ _ (by kernel_rfl), run_slice_lh (P := Tryd.prog) w 32 p.ad p.l.length p.cap (by kernel_rfl) .i64 .i64 i m (by omega) (by omega) (by omega), e1, e3]
    simp [sliced, Result.andThen]
set_option maxRecDepth 100000 in
theorem refNum_part (w : World) (p : Part) (hp : p.In w) (hl : p.l.length ≤ 1000) (c0 c1 c2 c3 : UInt8) (r : List UInt8) (e : p.l = c0 :: c1 :: c2 :: c3 :: r) :
    Calls Tryd.prog 27 #[.slice p.ad p.l.length p.cap] w fun e w' => e = .returned (.int .i64 ((numU [c0, c1, c2, c3] : Nat) : Int)) ∧ Below w.heap.size w w' := by
  have hlen : p.l.length = r.length + 4 := by rw [e]; simp
  have h := fun j (hj : j < 4) => hp.bytes.cell j (by omega)
  have h0 := h 0 (by omega)
  have h1 := h 1 (by omega)
  have h2 := h 2 (by omega)
  have h3 := h 3 (by omega)
  simp only [e, List.getElem_cons_zero, List.getElem_cons_succ] at h0 h1 h2 h3
  rw [hp.bytes.at' (by rw [e]; simp)]
  exact refNum_any p.g p.o p.l.length p.cap c0 c1 c2 c3 w (by omega) (by omega) h0 h1 h2 h3
set_option maxRecDepth 100000 in
theorem secB_bytes (n k : Nat) (l : List UInt8) : ∃ a0 a1 a2 a3, secB n 1 k l = a0 :: a1 :: a2 :: a3 :: 0 :: 0 :: 0 :: 1 :: UInt8.ofNat k :: UInt8.ofNat (nParts l.length) :: 0 :: UInt8.ofNat (cutB l k).length :: (cutB l k ++ List.replicate (52 - (cutB l k).length) 0) := by
  have h4 : ∀ m, ∃ a b c d, numB m 4 = [a, b, c, d] := fun m => ⟨_, _, _, _, rfl⟩
  have e1 : ∀ p, numB p 1 = [UInt8.ofNat p] := fun p => by simp [numB]
  have e3 : ∀ z, z ≤ 52 → numB z 2 = [0, UInt8.ofNat z] := fun z hz => by
    have : z / 256 = 0 := by omega
    simp [numB, List.range_succ, this]
  have eb : numB 1 4 = [0, 0, 0, 1] := by decide
  obtain ⟨a0, a1, a2, a3, ea⟩ := h4 (n + 1)
  refine ⟨a0, a1, a2, a3, ?_⟩
  unfold secB encS encH cutH
  dsimp only
  rw [ea, eb, e1, e1, e3 _ (length_cutB l k)]
  rfl
/-- a record's sectors stand there -/
structure RecAt (ss : List Part) (A n : Nat) (l : List UInt8) : Prop where
  sec : ∀ k, k < nParts l.length → ∃ q, ss[A + k]? = some q ∧ q.l = secB n 1 k l
structure OneRel (w : World) (l : List UInt8) (k : Nat) (v : Value) (wr : World) : Prop where
  own : ∃ n, wr.ownsRow w.heap.size 5 1 v n ((l.take (k * 52)).map B) ∧ n = min l.length (k * 52)
  below : Below w.heap.size w wr
set_option maxRecDepth 100000 in
theorem Part.In.cellV {w : World} {p : Part} (h : p.In w) (j : Nat) (b : UInt8) (hb : p.l[j]? = some b) : w.cell? ⟨p.g, p.o + j, none⟩ = some (B b) := by
  obtain ⟨hj, e⟩ := List.getElem?_eq_some_iff.1 hb
  rw [h.bytes.cell j hj, e]
set_option maxRecDepth 100000 in
theorem take_step (l : List UInt8) (k : Nat) : l.take ((k + 1) * 52) = l.take (k * 52) ++ cutB l k := by
  rw [cutB, Nat.add_mul, Nat.one_mul, List.take_add]
set_option maxRecDepth 100000 in
set_option maxHeartbeats 4000000 in
theorem refOne_rec (w : World) (ss : List Part) (ap : Option Addr) (gp op cp : Nat) (hp : PartsIn w ap gp op ss) (hnil : ∀ p ∈ ss, p.ad = none → p.cap = 0) (hss : ss.length ≤ 1000) (A n : Nat) (l : List UInt8) (hl : l.length ≤ 4096) (hn : n ≤ 8192) (hr : RecAt ss A n l) :
    Calls Tryd.prog 28 #[.slice ap ss.length cp, .int .i64 (A : Int), .int .i64 ((n : Int) + 1), .int .i64 1] w fun e w' =>
      ∃ r : Part, e = .returned (.tuple #[r.val, .int .i64 1, .int .i64 ((nParts l.length : Nat) : Int)]) ∧ r.l = l ∧ r.In w' ∧ (r.ad = none → r.cap = 0) ∧ (l ≠ [] → w.heap.size ≤ r.g) ∧ Below w.heap.size w w' := by
  have hM79 := nParts_le _ hl
  have hM1 : 1 ≤ nParts l.length := nParts_pos _
  obtain ⟨q, hq, hql⟩ := hr.sec 0 (by omega)
  rw [Nat.add_zero] at hq
  obtain ⟨hA, hqe⟩ := List.getElem?_eq_some_iff.1 hq
  have hAM : A + nParts l.length ≤ ss.length := by
    obtain ⟨q', hq', _⟩ := hr.sec (nParts l.length - 1) (by omega)
    have := (List.getElem?_eq_some_iff.1 hq').1
    omega
  have hqi := hp.parts q (List.mem_of_getElem? hq)
  have hap := hp.at' (by intro e; rw [e] at hA; cases hA)
  have hcell := hp.cell A hA
  rw [hqe] at hcell
  have hqlen : q.l.length = 64 := by rw [hql]; exact length_secB _ _ _ _
  obtain ⟨a0, a1, a2, a3, hb⟩ := secB_bytes n 0 l
  rw [← hql] at hb
  have hqat := hqi.bytes.at' (by rw [hb]; simp)
  have c9 := hqi.cellV 9 (UInt8.ofNat (nParts l.length)) (by rw [hb]; rfl)
  rw [← byte_of _ (by omega)] at c9
  obtain ⟨q4, hq4l, hq4a, hq4i, hq4b, hq4c, hq4s⟩ := slice_loP q 4 (by omega) hqi.cap (hqi.bytes.at')
  have hq4len : q4.l.length = 60 := by rw [hq4l, List.length_drop, hqlen]
  have hs4 : ∀ w, (Instr.sliceAt 32 (.slice (some ⟨q.g, q.o, none⟩) 64 q.cap) (some (.int .i64 4)) none none).run Tryd.prog w = .ok (.slice q4.ad 60 q4.cap) w := fun w => by
    have := hq4s w
    rw [hqat, hqlen, hq4len] at this
    exact this
  have HNum : Hid (∀ m : Bl w, Calls Tryd.prog 27 #[.slice q4.ad 60 q4.cap] m.wr fun e w' => e = .returned (.int .i64 1) ∧ Below m.wr.heap.size m.wr w') := Lib.hid fun m => by
    have := refNum_part m.wr q4 ((hq4i w hqi).below m.below) (by omega) 0 0 0 1 _ (by rw [hq4l, hb]; rfl)
    rw [hq4len] at this
    exact this
  obtain ⟨M, hMM⟩ : ∃ M, nParts l.length = M := ⟨_, rfl⟩
  rw [hMM] at hM79 hM1 hAM c9 ⊢
  have HMM := Lib.hid hMM
  have hcv : w.cell? ⟨gp, op + A, none⟩ = some (.slice (some ⟨q.g, q.o, none⟩) 64 q.cap) := by rw [hcell]; unfold Part.val; rw [hqat, hqlen]
  have hgp := hp.lt
  have hqg := hqi.lt
  have cA : ∀ m : Bl w, m.wr.cell? ⟨gp, op + A, none⟩ = some (.slice (some ⟨q.g, q.o, none⟩) 64 q.cap) := fun m => by rw [m.below.cell (by exact hgp)]; exact hcv
  have cQ : ∀ m : Bl w, m.wr.cell? ⟨q.g, q.o + 9, none⟩ = some (.int .u8 (M : Int)) := fun m => by rw [m.below.cell (by exact hqg)]; exact c9
  have HP := Lib.hid hp
  have HR := Lib.hid hr
  have HNil := Lib.hid hnil
  have HB0 := Lib.hid hMM
  subst hap
  have d1 : decide ((ss.length : Int) ≤ (A : Int)) = false := by simp; omega
  have d2 : decide ((M : Int) < 1) = false := by simp; omega
  have d3 : decide ((79 : Int) < (M : Int)) = false := by simp; omega
  have d4 : decide ((ss.length : Int) < (A : Int) + (M : Int)) = false := by simp; omega
  clear hq4a hq4b hq4c
  have d1' : decide (ss.length ≤ A) = false := by simp; omega
  clear hp hr hnil hMM hcell hqi hql hb hqe hq hq4l hq4i hq4s hqlen hqat c9 hcv
  go_enter Tryd.func28, Tryd.ntmps28
  go_wp2_with fail
  refine wp_region_quiet_tailB 13 (by kernel_rfl) (by kernel_rfl) ?_
  simp only [List.take_succ_cons, List.take_zero, List.drop_succ_cons, List.drop_zero]
  iterate 13 (go_big_quiet_step ((go_at_call 27; with_reducible exact Calls.quiet_b (HNum.out _))))
  refine wpQuiet_nil ?_
  intro m
  have HBm := Lib.hid m.below
  clear HNum
  clear cA cQ
  generalize m.wr = W1 at *
  clear m
  go_wp2_with fail
  have HR0 : Hid (OneRel w l 0 (.slice none 0 0) W1) := Lib.hid ⟨⟨0, by simpa using World.ownsRow_nil _ _ _ _, by simp⟩, HBm.out⟩
  go_loopw [13, 14, 15, 16, 17] (fun v i _ _ _ wr => ∃ k : Nat, k ≤ M ∧ i = .int .i64 (k : Int) ∧ OneRel w l k v wr) (fun _ i _ _ _ _ => M - (intOf i).toNat)
  case atStart => exact ⟨0, by omega, rfl, HR0.out⟩
  case round =>
    clear HR0 HBm
    obtain ⟨k, hk, rfl, hr1⟩ := hrel
    have HR1 := Lib.hid hr1
    clear hr1
    by_cases hlt : k < M
    · obtain ⟨qk, hqk, hqkl⟩ := HR.out.sec k (by rw [HMM.out]; exact hlt)
      obtain ⟨hAk, hqke⟩ := List.getElem?_eq_some_iff.1 hqk
      have hq0 := HP.out.parts qk (List.mem_of_getElem? hqk)
      have hcell := HP.out.cell (A + k) hAk
      rw [hqke] at hcell
      obtain ⟨x0, x1, x2, x3, hbk⟩ := secB_bytes n k l
      rw [← hqkl] at hbk
      have hq64 : qk.l.length = 64 := by rw [hqkl]; exact length_secB _ _ _ _
      have hat := hq0.bytes.at' (by rw [hbk]; simp)
      have hzl := length_cutB l k
      obtain ⟨z, hz⟩ : ∃ z, (cutB l k).length = z := ⟨_, rfl⟩
      rw [hz] at hzl hbk
      have hzk : k + 1 < M → z = 52 := fun h => by
        rw [← hz, cutB, List.length_take, List.length_drop]
        have h2 := HMM.out
        unfold nParts at h2
        omega
      have e10 := hq0.cellV 10 0 (by rw [hbk]; rfl)
      have e11 := hq0.cellV 11 (UInt8.ofNat z) (by rw [hbk]; rfl)
      rw [← byte_of _ (by omega)] at e11
      obtain ⟨b, hbl, hbg, hbi, hbn, hbz, hbs⟩ := part_mid qk 12 (12 + z) (by omega) (by omega) hq0.cap hq0.bytes.at'
      have hbl2 : b.l = cutB l k := by
        rw [hbl, hbk, show 12 + z - 12 = z by omega]
        simp only [List.drop_succ_cons, List.drop_zero]
        rw [← hz, List.take_left]
      have hs12 : ∀ w, (Instr.sliceAt 32 (.slice (some ⟨qk.g, qk.o, none⟩) 64 qk.cap) (some (.int .i64 12)) (some (.int .i64 (12 + (z : Int)))) none).run Tryd.prog w = .ok (.slice b.ad z b.cap) w := fun w => by
        have := hbs w
        rw [hat, hq64, show 12 + z - 12 = z by omega] at this
        exact this
      have hgpw := hq0.below HR1.out.below
      have hcv : w.cell? ⟨gp, op + (A + k), none⟩ = some (.slice (some ⟨qk.g, qk.o, none⟩) 64 qk.cap) := by rw [hcell]; unfold Part.val; rw [hat, hq64]
      have cA : wr.cell? ⟨gp, op + (A + k), none⟩ = some (.slice (some ⟨qk.g, qk.o, none⟩) 64 qk.cap) := by rw [HR1.out.below.cell (by exact hgp)]; exact hcv
      have hqg' := hq0.lt
      have c10 : ∀ m : Bl wr, m.wr.cell? ⟨qk.g, qk.o + 10, none⟩ = some (.int .u8 0) := fun m => by rw [m.below.cell (by exact hgpw.lt), HR1.out.below.cell (by exact hqg')]; exact e10
      have c11 : ∀ m : Bl wr, m.wr.cell? ⟨qk.g, qk.o + 11, none⟩ = some (.int .u8 (z : Int)) := fun m => by rw [m.below.cell (by exact hgpw.lt), HR1.out.below.cell (by exact hqg')]; exact e11
      have HCv : Hid (∀ W, Below wr.heap.size wr W → (convert 32 9 (.slice (some ⟨qk.g, qk.o, none⟩) 64 qk.cap)).run Tryd.prog W = .ok (.string (tx qk.l)) W) := Lib.hid fun W hW => by
        have := conv_part (hgpw.below hW)
        rw [hat, hq64] at this
        exact this
      have HQl : Hid (((encS ⟨n + 1, 1, k, M, b.l.length⟩ b.l)) = qk.l) := Lib.hid (by rw [hqkl, hbl2, ← HMM.out]; rfl)
      have HPt : Hid (∀ W, Below wr.heap.size wr W → Calls Tryd.prog 38 #[.int .i64 ((n : Int) + 1), .int .i64 1, .int .i64 (k : Int), .int .i64 (M : Int), .slice b.ad z b.cap] W fun e w' =>
          ∃ gb, e = .returned (.slice (some ⟨gb, 0, none⟩) 64 64) ∧ w'.heap[gb]? = some (.cells (qk.l.map B).toArray 5 (0, 0)) ∧ W.heap.size ≤ gb ∧ Below W.heap.size W w') := Lib.hid fun W hW => by
        have := refPart_any W (n + 1) 1 k M b (by omega) (by omega) (by omega) (by omega) (hbi W (hgpw.below hW)) (by omega)
        unfold Part.val at this
        rw [HQl.out, show b.l.length = z by omega] at this
        exact this
      have HQ64 := Lib.hid hq64
      have HBi := Lib.hid (hbi wr hgpw)
      have HBn := Lib.hid (hbn (HNil.out qk (List.mem_of_getElem? hqk)))
      have HBl : Hid (b.l.length = z) := Lib.hid (by omega)
      have HBL := Lib.hid hbl2
      have d5 : decide ((52 : Int) < (z : Int)) = false := by simp; omega
      have hdk : decide ((k : Int) < (M : Int)) = true := by simp; omega
      have HZ := Lib.hid hz
      clear hqk hqkl hAk hqke hq0 hcell hbk hat hz e10 e11 hbl hbg hbi hbn hbz hbs hbl2 hgpw hcv hq64
      go_wp2_with fail
      refine wp_region_quiet_tailB 10 (by kernel_rfl) (by kernel_rfl) ?_
      simp only [List.take_succ_cons, List.take_zero, List.drop_succ_cons, List.drop_zero]
      iterate 10 (go_big_quiet_step (fail))
      refine wpQuiet_nil ?_
      intro m
      clear c10 c11 cA
      have HBm2 := Lib.hid m.below
      generalize m.wr = W2 at *
      clear m
      by_cases hlast : k + 1 < M
      · have d6 : decide ((k : Int) + 1 < (M : Int)) = true := by simp; omega
        obtain rfl : z = 52 := hzk hlast
        have hs64 : ∀ w, (Instr.sliceAt 32 (.slice (some ⟨qk.g, qk.o, none⟩) 64 qk.cap) (some (.int .i64 12)) (some (.int .i64 64)) none).run Tryd.prog w = .ok (.slice b.ad 52 b.cap) w := fun w => hs12 w
        clear hs12
        go_wp2_with fail
        refine wp_region_held (S := fun W => Below wr.heap.size wr W) (by kernel_rfl) ?_
        change wpAnyH _ _ _ _ _ _ _ _ (World.drew _)
        have hS0 : Below wr.heap.size wr W2.drew := HBm2.out.drew
        clear HBm2
        generalize W2.drew = W3 at *
        refine held_take (i := 0) (some 91) rfl (by rfl) (by kernel_rfl) (by kernel_rfl) (by kernel_rfl) (.slice (some ⟨qk.g, qk.o, none⟩) 64 qk.cap) (fun _ _ _ h => h) (by rfl) (fun w0 hS => by clear hS; go_simp; try with_reducible rfl) hS0 ?_
        simp only [Act.put, List.setIfInBounds_toArray, List.set_cons_succ, List.set_cons_zero]
        refine held_take (i := 1) (some 92) rfl (by rfl) (by kernel_rfl) (by kernel_rfl) (by kernel_rfl) (.string (tx qk.l)) (fun _ _ _ h => h) (by rfl) (fun w0 hS => by have c := HCv.out w0 hS; clear hS; go_simp; try with_reducible rfl) hS0 ?_
        simp only [Act.put, List.setIfInBounds_toArray, List.set_cons_succ, List.set_cons_zero]
        refine held_take (i := 2) (some 93) rfl (by rfl) (by kernel_rfl) (by kernel_rfl) (by kernel_rfl) (.int .i64 ((n : Int) + 1)) (fun _ _ _ h => h) (by rfl) (fun w0 hS => by clear hS; go_simp; try with_reducible rfl) hS0 ?_
        simp only [Act.put, List.setIfInBounds_toArray, List.set_cons_succ, List.set_cons_zero]
        refine held_take (i := 3) (some 94) rfl (by rfl) (by kernel_rfl) (by kernel_rfl) (by kernel_rfl) (.int .i64 1) (fun _ _ _ h => h) (by rfl) (fun w0 hS => by clear hS; go_simp; try with_reducible rfl) hS0 ?_
        simp only [Act.put, List.setIfInBounds_toArray, List.set_cons_succ, List.set_cons_zero]
        refine held_take (i := 4) (some 95) rfl (by rfl) (by kernel_rfl) (by kernel_rfl) (by kernel_rfl) (.int .i64 (k : Int)) (fun _ _ _ h => h) (by rfl) (fun w0 hS => by clear hS; go_simp; try with_reducible rfl) hS0 ?_
        simp only [Act.put, List.setIfInBounds_toArray, List.set_cons_succ, List.set_cons_zero]
        refine held_take (i := 5) (some 96) rfl (by rfl) (by kernel_rfl) (by kernel_rfl) (by kernel_rfl) (.int .i64 (M : Int)) (fun _ _ _ h => h) (by rfl) (fun w0 hS => by clear hS; go_simp; try with_reducible rfl) hS0 ?_
        simp only [Act.put, List.setIfInBounds_toArray, List.set_cons_succ, List.set_cons_zero]
        refine held_take (i := 6) (some 97) rfl (by rfl) (by kernel_rfl) (by kernel_rfl) (by kernel_rfl) (.slice b.ad 52 b.cap) (fun _ _ _ h => h) (by rfl) (fun w0 hS => by clear hS; go_simp; try with_reducible rfl) hS0 ?_
        simp only [Act.put, List.setIfInBounds_toArray, List.set_cons_succ, List.set_cons_zero]
        refine held_call (i := 7) (some 98) rfl (by rfl) (by kernel_rfl) (by rfl) 38 #[.int .i64 ((n : Int) + 1), .int .i64 1, .int .i64 (k : Int), .int .i64 (M : Int), .slice b.ad 52 b.cap] (by go_simp; try with_reducible rfl) ((HPt.out W3 hS0).mono ?_)
        rintro e w4 ⟨gb, rfl, hgb, hgb2, hb4⟩
        have hS4 : Below wr.heap.size wr w4 := hS0.trans (hb4.mono hS0.size)
        refine ⟨_, rfl, hS4, ?_⟩
        simp only [Act.put, List.setIfInBounds_toArray, List.set_cons_succ, List.set_cons_zero]
        have hcv4 : (convert 32 9 (.slice (some ⟨gb, 0, none⟩) 64 64)).run Tryd.prog w4 = .ok (.string (tx qk.l)) w4 := by
          have := conv_part (partNew hgb)
          have e64 := HQ64.out
          rw [e64] at this
          exact this
        refine held_run (i := 8) (some 99) rfl (by rfl) (by kernel_rfl) (by rfl) (.string (tx qk.l)) w4 (by go_simp; try with_reducible rfl) hS4 ?_
        simp only [Act.put, List.setIfInBounds_toArray, List.set_cons_succ, List.set_cons_zero]
        refine held_run (i := 9) (some 100) rfl (by rfl) (by kernel_rfl) (by rfl) (.bool false) w4 (by go_simp; try with_reducible rfl) hS4 ?_
        simp only [Act.put, List.setIfInBounds_toArray, List.set_cons_succ, List.set_cons_zero]
        refine wpAnyH_done (by kernel_rfl) ?_ _
        have HB4 := Lib.hid (HR1.out.below.trans (hS4.mono HR1.out.below.size))
        obtain ⟨nn, hown, hnn⟩ := HR1.out.own
        have hown4 := own_same hown fun g hg => hS4.block g (hown.lt g hg).2
        have hbi := HBi.out.below hS4
        clear hgb hgb2 hb4 hcv4 HPt HCv hS0
        go_wp2_with (refine wpList_append_part rfl (.tmp 101) (.tmp 102) rfl w.heap.size _ nn (l.take (k * 52)) rfl hown4 b hbi HBn.out (by rw [HBl.out]; rfl) (by have := HBl.out; omega) HB4.out.size ?_)
        intro v' w5 hown5 hb5
        have HR2 : Hid (OneRel w l (k + 1) v' w5) := Lib.hid ⟨⟨_, by rw [take_step, ← HBL.out, List.map_append, List.map_take]; exact hown5, by
          have h1 := HBl.out
          have h2 := congrArg List.length HBL.out
          rw [cutB, List.length_take, List.length_drop] at h2
          omega⟩, HB4.out.trans hb5⟩
        clear hown5 hb5 hown4 hown hbi HB4 hS4
        go_wp2_with fail
        go_roundw
        case rel => exact ⟨k + 1, by omega, by go_num, HR2.out⟩
        case measure => simp [intOf]; omega
      · have d6 : decide ((k : Int) + 1 < (M : Int)) = false := by simp; omega
        go_wp2_with fail
        refine wp_region_held (S := fun W => Below wr.heap.size wr W) (by kernel_rfl) ?_
        change wpAnyH _ _ _ _ _ _ _ _ (World.drew _)
        have hS0 : Below wr.heap.size wr W2.drew := HBm2.out.drew
        clear HBm2
        generalize W2.drew = W3 at *
        refine held_take (i := 0) (some 91) rfl (by rfl) (by kernel_rfl) (by kernel_rfl) (by kernel_rfl) (.slice (some ⟨qk.g, qk.o, none⟩) 64 qk.cap) (fun _ _ _ h => h) (by rfl) (fun w0 hS => by clear hS; go_simp; try with_reducible rfl) hS0 ?_
        simp only [Act.put, List.setIfInBounds_toArray, List.set_cons_succ, List.set_cons_zero]
        refine held_take (i := 1) (some 92) rfl (by rfl) (by kernel_rfl) (by kernel_rfl) (by kernel_rfl) (.string (tx qk.l)) (fun _ _ _ h => h) (by rfl) (fun w0 hS => by have c := HCv.out w0 hS; clear hS; go_simp; try with_reducible rfl) hS0 ?_
        simp only [Act.put, List.setIfInBounds_toArray, List.set_cons_succ, List.set_cons_zero]
        refine held_take (i := 2) (some 93) rfl (by rfl) (by kernel_rfl) (by kernel_rfl) (by kernel_rfl) (.int .i64 ((n : Int) + 1)) (fun _ _ _ h => h) (by rfl) (fun w0 hS => by clear hS; go_simp; try with_reducible rfl) hS0 ?_
        simp only [Act.put, List.setIfInBounds_toArray, List.set_cons_succ, List.set_cons_zero]
        refine held_take (i := 3) (some 94) rfl (by rfl) (by kernel_rfl) (by kernel_rfl) (by kernel_rfl) (.int .i64 1) (fun _ _ _ h => h) (by rfl) (fun w0 hS => by clear hS; go_simp; try with_reducible rfl) hS0 ?_
        simp only [Act.put, List.setIfInBounds_toArray, List.set_cons_succ, List.set_cons_zero]
        refine held_take (i := 4) (some 95) rfl (by rfl) (by kernel_rfl) (by kernel_rfl) (by kernel_rfl) (.int .i64 (k : Int)) (fun _ _ _ h => h) (by rfl) (fun w0 hS => by clear hS; go_simp; try with_reducible rfl) hS0 ?_
        simp only [Act.put, List.setIfInBounds_toArray, List.set_cons_succ, List.set_cons_zero]
        refine held_take (i := 5) (some 96) rfl (by rfl) (by kernel_rfl) (by kernel_rfl) (by kernel_rfl) (.int .i64 (M : Int)) (fun _ _ _ h => h) (by rfl) (fun w0 hS => by clear hS; go_simp; try with_reducible rfl) hS0 ?_
        simp only [Act.put, List.setIfInBounds_toArray, List.set_cons_succ, List.set_cons_zero]
        refine held_take (i := 6) (some 97) rfl (by rfl) (by kernel_rfl) (by kernel_rfl) (by kernel_rfl) (.slice b.ad z b.cap) (fun _ _ _ h => h) (by rfl) (fun w0 hS => by clear hS; go_simp; try with_reducible rfl) hS0 ?_
        simp only [Act.put, List.setIfInBounds_toArray, List.set_cons_succ, List.set_cons_zero]
        refine held_call (i := 7) (some 98) rfl (by rfl) (by kernel_rfl) (by rfl) 38 #[.int .i64 ((n : Int) + 1), .int .i64 1, .int .i64 (k : Int), .int .i64 (M : Int), .slice b.ad z b.cap] (by go_simp; try with_reducible rfl) ((HPt.out W3 hS0).mono ?_)
        rintro e w4 ⟨gb, rfl, hgb, hgb2, hb4⟩
        have hS4 : Below wr.heap.size wr w4 := hS0.trans (hb4.mono hS0.size)
        refine ⟨_, rfl, hS4, ?_⟩
        simp only [Act.put, List.setIfInBounds_toArray, List.set_cons_succ, List.set_cons_zero]
        have hcv4 : (convert 32 9 (.slice (some ⟨gb, 0, none⟩) 64 64)).run Tryd.prog w4 = .ok (.string (tx qk.l)) w4 := by
          have := conv_part (partNew hgb)
          have e64 := HQ64.out
          rw [e64] at this
          exact this
        refine held_run (i := 8) (some 99) rfl (by rfl) (by kernel_rfl) (by rfl) (.string (tx qk.l)) w4 (by go_simp; try with_reducible rfl) hS4 ?_
        simp only [Act.put, List.setIfInBounds_toArray, List.set_cons_succ, List.set_cons_zero]
        refine held_run (i := 9) (some 100) rfl (by rfl) (by kernel_rfl) (by rfl) (.bool false) w4 (by go_simp; try with_reducible rfl) hS4 ?_
        simp only [Act.put, List.setIfInBounds_toArray, List.set_cons_succ, List.set_cons_zero]
        refine wpAnyH_done (by kernel_rfl) ?_ _
        have HB4 := Lib.hid (HR1.out.below.trans (hS4.mono HR1.out.below.size))
        obtain ⟨nn, hown, hnn⟩ := HR1.out.own
        have hown4 := own_same hown fun g hg => hS4.block g (hown.lt g hg).2
        have hbi := HBi.out.below hS4
        clear hgb hgb2 hb4 hcv4 HPt HCv hS0
        go_wp2_with (refine wpList_append_part rfl (.tmp 101) (.tmp 102) rfl w.heap.size _ nn (l.take (k * 52)) rfl hown4 b hbi HBn.out (by rw [HBl.out]; rfl) (by have := HBl.out; omega) HB4.out.size ?_)
        intro v' w5 hown5 hb5
        have HR2 : Hid (OneRel w l (k + 1) v' w5) := Lib.hid ⟨⟨_, by rw [take_step, ← HBL.out, List.map_append, List.map_take]; exact hown5, by
          have h1 := HBl.out
          have h2 := congrArg List.length HBL.out
          rw [cutB, List.length_take, List.length_drop] at h2
          omega⟩, HB4.out.trans hb5⟩
        clear hown5 hb5 hown4 hown hbi HB4 hS4
        go_wp2_with fail
        go_roundw
        case rel => exact ⟨k + 1, by omega, by go_num, HR2.out⟩
        case measure => simp [intOf]; omega
    · obtain rfl : k = M := by omega
      have hdk : decide ((k : Int) < (k : Int)) = false := by simp
      go_wp2_with fail
      have hall : l.take (k * 52) = l := List.take_of_length_le (by have := HMM.out; unfold nParts at this; omega)
      obtain ⟨nn, hown, hnn⟩ := HR1.out.own
      rw [hall] at hown
      obtain ⟨r, hrv, hri, hrl, hrn, _, hrg⟩ := part_of_own hown (by have := HR1.out.below.size; omega)
      refine bodyPost_ret (v := .tuple #[u13, .int .i64 1, .int .i64 (k : Int)]) (by simp [results, Tryd.results28, go_sem]) rfl ⟨r, by rw [hrv], hrl, hri, hrn, fun hne => ?_, HR1.out.below⟩
      have hat := hri.bytes.at' (by rw [hrl]; exact hne)
      have hob : u13.ownBlock = some r.g := by rw [← hrv]; unfold Part.val; rw [hat]; rfl
      exact (hown.lt _ hob).1
end Go.Proofs.YtlhfdlfbnnfjjaaDoor
