/- The reference's numbers; rows of bytes of one's own. -/
import Derived.Test.YtebadbnlihbecaaCMath
import Derived.Lib.AppendStr
namespace Go.Proofs.Ytebadbnlihbecaa
open Go.RowKit

/-- a row of one's own of these bytes -/
structure OwnB (w : World) (base : Nat) (v : Value) (l : List UInt8) : Prop where
  row : w.ownsRow base 5 1 v l.length (l.map B)
theorem OwnB.on {w w' : World} {base : Nat} {v : Value} {l : List UInt8} (h : OwnB w base v l) (hk : ∀ g, base ≤ g → g < w.heap.size → w'.heap[g]? = w.heap[g]?) : OwnB w' base v l := by
  obtain ⟨h1, h2⟩ := h.row
  refine ⟨⟨h1, ?_⟩⟩
  rcases h2 with h2 | ⟨g, cap, cur, e, hb, hg, hc, hm, hsz, ht⟩
  · exact .inl h2
  · exact .inr ⟨g, cap, cur, e, hb, (hk g hb (lt_block hg)).trans hg, hc, hm, hsz, ht⟩
theorem OwnB.below {w w' : World} {base : Nat} {v : Value} {l : List UInt8} (h : OwnB w base v l) (hb : Below w.heap.size w w') : OwnB w' base v l := h.on fun g _ hg => hb.block g hg
theorem OwnB.mono {w : World} {base base' : Nat} {v : Value} {l : List UInt8} (h : OwnB w base v l) (hb : base' ≤ base) : OwnB w base' v l := by
  obtain ⟨h1, h2⟩ := h.row
  refine ⟨⟨h1, ?_⟩⟩
  rcases h2 with h2 | ⟨g, cap, cur, e, hg, rest⟩
  · exact .inl h2
  · exact .inr ⟨g, cap, cur, e, by omega, rest⟩
/-- what is one's own is a source -/
theorem OwnB.src {w : World} {base : Nat} {v : Value} {l : List UInt8} (h : OwnB w base v l) : BSrc w v l := by
  rcases h.row.2 with ⟨hn, h0⟩ | ⟨g, cap, cur, e, hb, hg, hc, hm, hsz, ht⟩
  · exact .inl ⟨_, _, hn, List.eq_nil_of_length_eq_zero h0⟩
  · refine .inr ⟨g, 0, cap, e, fun j hj => ?_⟩
    rw [Nat.zero_add, cell_block hg]
    have h1 : (l.map B)[j]? = some (B l[j]) := by rw [List.getElem?_map, List.getElem?_eq_getElem hj]; rfl
    rw [← ht, List.getElem?_take, if_pos (by omega)] at h1
    simpa using h1
theorem OwnB.shape {w : World} {base : Nat} {v : Value} {l : List UInt8} (h : OwnB w base v l) : ∃ ad cp, v = .slice ad l.length cp := h.src.shape
theorem own_new (w : World) (l : List UInt8) (hl : l.length ≤ maxLen) : OwnB (w.alloc (.cells (l.map B).toArray 5)) w.heap.size (.slice (some ⟨w.heap.size, 0, none⟩) l.length l.length) l :=
  ⟨⟨by simp, .inr ⟨w.heap.size, l.length, _, rfl, Nat.le_refl _, heap_alloc_new _ _, Nat.le_refl _, hl, by simp, by rw [Nat.mul_one]; show List.take l.length (l.map B) = _; exact List.take_of_length_le (by simp)⟩⟩⟩
theorem append_b {w : World} {ops : Array Oper} {rest : List Oper} {o : Oper} {a : Act} {Q : Exit → Act → World → Prop} (hgd : o.guard = none) (s x : Operand)
    (ho : o.op = .call { callee := .builtin .append, args := #[s, x], argTypes := #[36, 36] })
    (base : Nat) (h l : List UInt8) (v : Value) (hs : a.eval s = v) (hown' : OwnB w base v h) (u : Value) (hx : a.eval x = u) (hsrc : BSrc w u l) (hne : l ≠ []) (hlen : h.length + l.length ≤ 100000) (hbase : base ≤ w.heap.size) (r : List UInt8) (hr : r = h ++ l)
    (k : ∀ v' w', OwnB w' base v' r → Below base w w' → wpList Try.prog ops Q rest (a.put o.dst v') w') : wpList Try.prog ops Q (o :: rest) a w := by
  obtain ⟨i, hi, hz, hsz, hby⟩ := info_parts (show (Try.prog.info? 5).map (fun i => (i.zero, i.size, i.bytes)) = some (some (.int .u8 0), 1, 1) by kernel_rfl)
  subst hr
  have hown := hown'.row
  rcases hsrc with ⟨_, _, _, hl⟩ | ⟨g, q, c, rfl, hc⟩
  · exact absurd hl hne
  · refine wpList_append_own_wide w hgd s x 36 ho base 5 i _ 1 1 Try.underlying36 hi hz hsz hby rfl (by omega) v h.length (h.map B) hs hown ⟨g, q, none⟩ l.length c (l.map B) hx (by simp) (fun j u hj => by
      rw [Addr.add_mid]
      have hj' : j < l.length := by
        rcases Nat.lt_or_ge j l.length with k | k
        · exact k
        · rw [List.getElem?_eq_none (by simpa using k)] at hj; cases hj
      rw [hc j hj']
      rw [List.getElem?_map, List.getElem?_eq_getElem hj'] at hj
      exact hj) (fun u hu => by obtain ⟨x, _, rfl⟩ := List.mem_map.1 hu; rfl) (by unfold maxLen; omega) (by omega) hbase ?_
    intro v' w' hown'' hgr _
    exact k v' w' ⟨by rw [List.length_append, List.map_append]; exact hown''⟩ ((Below.refl base w).grown hgr hbase (fun b hb => (hown.lt b hb).1))
theorem append_s {w : World} {ops : Array Oper} {rest : List Oper} {o : Oper} {a : Act} {Q : Exit → Act → World → Prop} (hgd : o.guard = none) (s x : Operand)
    (ho : o.op = .call { callee := .builtin .append, args := #[s, x], argTypes := #[36, 9] })
    (base : Nat) (h : List UInt8) (v : Value) (hs : a.eval s = v) (hown' : OwnB w base v h) (u : ByteArray) (hx : a.eval x = .string u) (hlen : h.length + u.size ≤ 100000) (hbase : base ≤ w.heap.size) (r : List UInt8) (hr : r = h ++ u.data.toList)
    (k : ∀ v' w', OwnB w' base v' r → Below base w w' → wpList Try.prog ops Q rest (a.put o.dst v') w') : wpList Try.prog ops Q (o :: rest) a w := by
  obtain ⟨i, hi, hz, hsz, hby⟩ := info_parts (show (Try.prog.info? 5).map (fun i => (i.zero, i.size, i.bytes)) = some (some (.int .u8 0), 1, 1) by kernel_rfl)
  subst hr
  have hown := hown'.row
  refine Lib.wpList_append_own_string w hgd s x 36 9 ho base 5 i Try.underlying36 Try.underlying9 hi hz hsz hby v h.length (h.map B) hs hown u hx (by unfold maxLen; omega) (by omega) hbase ?_
  intro v' w' hown'' hgr _
  refine k v' w' ⟨?_⟩ ((Below.refl base w).grown hgr hbase (fun b hb => (hown.lt b hb).1))
  have e1 : (h ++ u.data.toList).length = h.length + u.size := by simp
  have e2 : (h ++ u.data.toList).map B = h.map B ++ Lib.strCells u := by simp [Lib.strCells]
  rw [e1, e2]; exact hown''
/-- the last k bytes of a number, noughts ahead -/
def numD (n size k : Nat) : List Value := zeros (size - k) ++ ((numB n size).drop (size - k)).map B
theorem numD_set (n size k : Nat) (h : k < size) : (numD n size k).set (size - 1 - k) (B (UInt8.ofNat (n / 256 ^ k))) = numD n size (k + 1) := by
  have hl := numB_length n size
  apply List.ext_getElem?
  intro i
  have e1 : size - (k + 1) = size - 1 - k := by omega
  have e2 : size - k = size - 1 - k + 1 := by omega
  simp only [numD, zeros, List.getElem?_set, List.getElem?_append, List.length_append, List.length_map, List.length_drop, List.length_replicate, List.getElem?_map, List.getElem?_drop, List.getElem?_replicate, hl]
  rcases Nat.lt_trichotomy i (size - 1 - k) with h1 | h1 | h1
  · simp [show ¬ size - 1 - k = i by omega, show i < size - k by omega, show i < size - (k + 1) by omega]
  · subst h1
    have h3 : size - 1 - k < (numB n size).length := by rw [hl]; omega
    have h4 := numB_at n size (size - 1 - k) (by omega)
    rw [show size - 1 - (size - 1 - k) = k by omega] at h4
    simp only [e1, Nat.lt_irrefl, if_false, Nat.sub_self, Nat.add_zero, List.getElem?_eq_getElem h3, h4]
    rw [if_pos (show size - 1 - k < size - k + (size - (size - k)) by omega)]
    rfl
  · rw [if_neg (by omega), if_neg (by omega), if_neg (by omega)]
    rw [show size - k + (i - (size - k)) = size - (k + 1) + (i - (size - (k + 1))) by omega]
structure NumRelD (w : World) (n size k : Nat) (wr : World) : Prop where
  blk : wr.heap[w.heap.size]? = some (.cells (numD n size k).toArray 5 (0, 0))
  below : Below w.heap.size w wr

set_option maxRecDepth 100000 in
set_option maxHeartbeats 1000000 in
theorem refNumber_any (w : World) (n size : Nat) (hn : n < 2 ^ 64) (hs : size ≤ 8) (hp : 0 < size) :
    Calls Try.prog 47 #[.int .u64 n, .int .i64 size] w fun e w' => ∃ v, e = .returned v ∧ OwnB w' w.heap.size v (numB n size) ∧ Below w.heap.size w w' := by
  go_enter Try.func47, Try.ntmps47
  go_wp2_with (refine wpList_make_bytes rfl (.tmp 7) rfl size _ rfl rfl (by omega) ?_)
  have HR0 : Hid (NumRelD w n size 0 (w.alloc (.cells (zeros size).toArray 5))) := Lib.hid ⟨by rw [heap_alloc_new]; simp [numD, numB_length], (Below.refl _ _).alloc (Nat.le_refl _) _⟩
  generalize World.alloc _ _ = W0 at *
  go_wp2_with fail
  go_loopw [0, 6] (fun q i wr => ∃ k : Nat, k ≤ size ∧ ((∃ m : Nat, m + 1 + k = size ∧ i = .int .i64 m) ∨ (k = size ∧ i = .int .i64 (-1))) ∧ q = .int .u64 ((n / 256 ^ k : Nat) : Int) ∧ Hid (NumRelD w n size k wr)) (fun _ i _ => (intOf i + 1).toNat)
  case atStart => exact ⟨0, by omega, .inl ⟨size - 1, by omega, by congr 1; omega⟩, by simp, HR0⟩
  case round =>
    clear HR0
    obtain ⟨k, hk, hi, rfl, HR⟩ := hrel
    have hfz : ∀ o, wr.frozen? ⟨w.heap.size, o, none⟩ = false := fun o => by simp [World.frozen?, HR.out.blk]
    have hb : w.heap.size < wr.heap.size := lt_block HR.out.blk
    rcases hi with ⟨m, hm, rfl⟩ | ⟨rfl, rfl⟩
    · have hD : (numD n size k).length = size := by simp [numD, zeros, numB_length]; try omega
      obtain ⟨c, hc⟩ : ∃ c, wr.cell? ⟨w.heap.size, m, none⟩ = some c := ⟨_, by rw [cell_block HR.out.blk]; simp; exact List.getElem?_eq_getElem (by rw [hD]; omega)⟩
      obtain ⟨q, hq⟩ : ∃ q, n / 256 ^ k = q := ⟨_, rfl⟩
      have hq1 : n / 256 ^ (k + 1) = q / 256 := by rw [← hq, Nat.pow_succ, Nat.div_div_eq_div_mul]
      have HQ := Lib.hid hq
      have HQ1 := Lib.hid hq1
      rw [hq]
      have hq64 : q < 2 ^ 64 := by rw [← hq]; exact Nat.lt_of_le_of_lt (Nat.div_le_self _ _) hn
      clear hq hq1 hD
      go_wp2_with fail
      go_roundw
      case rel =>
        refine ⟨k + 1, by omega, ?_, by rw [HQ1.out]; rfl, Lib.hid ⟨?_, HR.out.below.setCell (Nat.le_refl _) _⟩⟩
        · rcases Nat.eq_zero_or_pos m with rfl | hp0
          · exact .inr ⟨by omega, rfl⟩
          · exact .inl ⟨m - 1, by omega, by congr 1; omega⟩
        · have eb : Value.int IntKind.u8 ((q : Int) % 256) = B (UInt8.ofNat (n / 256 ^ k)) := by
            rw [HQ.out]
            have := byteN q 0
            rw [Nat.mul_zero, Int.pow_zero, Int.ediv_one, Nat.pow_zero, Nat.div_one] at this
            exact this
          rw [heap_setCell_same _ _ _ _ _ _ HR.out.blk, eb]
          have := numD_set n size k (by omega)
          rw [show size - 1 - k = m by omega] at this
          simp [this]
      case measure => simp [intOf]
    · go_wp2_with fail
      go_ret
      refine ⟨_, rfl, ⟨⟨by simp [numB_length], .inr ⟨w.heap.size, k, _, by rw [numB_length]; rfl, Nat.le_refl _, HR.out.blk, by rw [numB_length]; exact Nat.le_refl _, by unfold maxLen; omega, ?_, ?_⟩⟩⟩, HR.out.below⟩
      · simp [numD, zeros, numB_length]
      · rw [numB_length, Nat.mul_one]
        simp [numD, zeros]
        exact List.take_of_length_le (by simp [numB_length])
end Go.Proofs.Ytebadbnlihbecaa
