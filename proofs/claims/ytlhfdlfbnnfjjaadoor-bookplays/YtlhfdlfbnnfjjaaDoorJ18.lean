/- The text behind which the reference lays its end: sums; The reference's fingerprint of a text; The reference's texts one behind the other. -/
import Derived.Test.YtlhfdlfbnnfjjaaDoorJ17
import Derived.Test.YtlhfdlfbnnfjjaaDoorJ11
import Derived.Laws.AppendOwnNone
namespace Go.Proofs.YtlhfdlfbnnfjjaaDoor
open Go.RowKit

/-- the last j digits of m to the base of 256, the greatest first -/
def tb (m : Nat) : Nat → List UInt8
  | 0 => []
  | j + 1 => UInt8.ofNat (m / 256 ^ j % 256) :: tb m j
set_option maxRecDepth 100000 in
theorem length_tb (m : Nat) : ∀ j, (tb m j).length = j
  | 0 => rfl
  | j + 1 => by simp [tb, length_tb m j]
set_option maxRecDepth 100000 in
theorem tb_zero (m : Nat) : ∀ (d j : Nat), m / 256 ^ j = 0 → tb m (j + d) = List.replicate d 0 ++ tb m j
  | 0, j, _ => rfl
  | d + 1, j, h => by
    have ih := tb_zero m d j h
    show UInt8.ofNat (m / 256 ^ (j + d) % 256) :: tb m (j + d) = _
    have hz : m / 256 ^ (j + d) = 0 := by rw [Nat.pow_add, ← Nat.div_div_eq_div_mul, h, Nat.zero_div]
    rw [hz, ih, List.replicate_succ]
    rfl
set_option maxRecDepth 100000 in
theorem u8_eq {a b : Nat} (h : a % 256 = b % 256) : UInt8.ofNat a = UInt8.ofNat b := UInt8.toNat_inj.1 (by simpa [UInt8.toNat_ofNat'] using h)
set_option maxRecDepth 100000 in
theorem len8_tb (N : Nat) (h : N ≤ 100000000000) : len8 N = tb (8 * N) 8 := by
  simp only [len8, bytes4, tb, byteOf, BitVec.toNat_ofNat, List.cons_append, List.nil_append, List.cons.injEq, and_true, Nat.reducePow, Nat.reduceSub, Nat.reduceMul]
  refine ⟨u8_eq ?_, u8_eq ?_, u8_eq ?_, u8_eq ?_, u8_eq ?_, u8_eq ?_, u8_eq ?_, u8_eq ?_⟩ <;> omega
/-- the text with its end when j digits are laid -/
def allB (l : List UInt8) (j : Nat) : List UInt8 := l ++ 0x80 :: (List.replicate (64 * ((l.length + 72) / 64) - l.length - 1 - j) 0 ++ tb (8 * l.length) j)
set_option maxRecDepth 100000 in
theorem length_allB (l : List UInt8) (j : Nat) (hj : j ≤ 8) : (allB l j).length = 64 * ((l.length + 72) / 64) := by
  simp only [allB, List.length_append, List.length_cons, List.length_replicate, length_tb]; omega
set_option maxRecDepth 100000 in
theorem allB_end (l : List UInt8) (j : Nat) (hj : j ≤ 8) (h : 8 * l.length / 256 ^ j = 0) (hl : l.length ≤ 100000000000) : allB l j = l ++ padOf l.length ++ len8 l.length := by
  have e := tb_zero _ (8 - j) j h
  rw [show j + (8 - j) = 8 by omega] at e
  rw [len8_tb _ hl, e]
  unfold allB padOf
  simp only [List.append_assoc, List.cons_append]
  congr 2
  rw [← List.append_assoc, List.replicate_append_replicate]
  congr 2
  omega
set_option maxRecDepth 100000 in
theorem allB_step (l : List UInt8) (j : Nat) (hj : j < 8) : (allB l j).set (64 * ((l.length + 72) / 64) - 1 - j) (UInt8.ofNat (8 * l.length / 256 ^ j % 256)) = allB l (j + 1) := by
  unfold allB
  obtain ⟨q, hq⟩ : ∃ q, 64 * ((l.length + 72) / 64) - l.length - 1 - j = q + 1 := ⟨64 * ((l.length + 72) / 64) - l.length - 1 - j - 1, by omega⟩
  rw [hq, show 64 * ((l.length + 72) / 64) - l.length - 1 - (j + 1) = q by omega, show 64 * ((l.length + 72) / 64) - 1 - j = l.length + (q + 1) by omega]
  rw [List.set_append_right _ _ (by omega), show l.length + (q + 1) - l.length = q + 1 by omega, List.set_cons_succ, List.replicate_succ', List.append_assoc, List.set_append_right _ _ (by simp)]
  simp [tb]
set_option maxRecDepth 100000 in
theorem allB_start (l : List UInt8) : ((l ++ List.replicate (64 * ((l.length + 72) / 64) - l.length) 0).set l.length 0x80) = allB l 0 := by
  obtain ⟨q, hq⟩ : ∃ q, 64 * ((l.length + 72) / 64) - l.length = q + 1 := ⟨64 * ((l.length + 72) / 64) - l.length - 1, by omega⟩
  unfold allB
  rw [hq, show q + 1 - 1 - 0 = q by omega, List.set_append_right _ _ (by omega), Nat.sub_self, List.replicate_succ]
  simp [tb]
set_option maxRecDepth 100000 in
theorem wordsOf_all (l : List UInt8) (L : List UInt8) (hL : L = l ++ padOf l.length ++ len8 l.length) (hlen : L.length = 64 * ((l.length + 72) / 64)) : finWords l = hw L ((l.length + 72) / 64) := by
  unfold finWords wordsOf
  rw [← hL, if_neg (by omega), hlen, Nat.mul_div_cancel_left _ (by omega)]
/-- a byte's t bits that come first -/
def pby (b t : Nat) : Nat := b / 2 ^ (8 - t) * 2 ^ (8 - t)
/-- the bytes when i bits are laid -/
def outF (F : List UInt8) (i : Nat) : List UInt8 := (List.range 32).map fun j => UInt8.ofNat (pby (F.getD j 0).toNat (min 8 (i - 8 * j)))
set_option maxRecDepth 100000 in
theorem length_outF (F : List UInt8) (i : Nat) : (outF F i).length = 32 := by simp [outF]
set_option maxRecDepth 100000 in
theorem outF_zero (F : List UInt8) : outF F 0 = List.replicate 32 0 := by
  apply List.ext_getElem?
  intro j
  by_cases hj : j < 32
  · have hz : pby (F.getD j 0).toNat (min 8 (0 - 8 * j)) = 0 := by
      have := (F.getD j 0).toNat_lt
      simp only [pby, Nat.zero_sub, Nat.min_zero, Nat.sub_zero]
      omega
    simp only [outF, List.getElem?_map, List.getElem?_range hj, Option.map_some, List.getElem?_replicate, hj, if_true, hz]
    rfl
  · simp [outF, hj]
set_option maxRecDepth 100000 in
theorem outF_end (F : List UInt8) (h : F.length = 32) : outF F 256 = F := by
  apply List.ext_getElem?
  intro j
  by_cases hj : j < 32
  · have hz : pby (F.getD j 0).toNat (min 8 (256 - 8 * j)) = (F.getD j 0).toNat := by
      rw [show min 8 (256 - 8 * j) = 8 by omega]; simp [pby]
    simp only [outF, List.getElem?_map, List.getElem?_range hj, Option.map_some, hz]
    simp [List.getD, h, hj]
  · simp [outF, hj, h]
set_option maxRecDepth 100000 in
theorem pby_step : ∀ b, b < 256 → ∀ t, t < 8 → (b.testBit (7 - t) = true → pby b t ||| (128 >>> t) = pby b (t + 1)) ∧ (b.testBit (7 - t) = false → pby b (t + 1) = pby b t) := by decide +kernel
set_option maxRecDepth 100000 in
theorem pby_lt (b t : Nat) (h : b < 256) : pby b t < 256 := Nat.lt_of_le_of_lt (Nat.div_mul_le_self _ _) h
set_option maxRecDepth 100000 in
theorem outF_get (F : List UInt8) (i j : Nat) (hj : j < 32) : (outF F i)[j]? = some (UInt8.ofNat (pby (F.getD j 0).toNat (min 8 (i - 8 * j)))) := by
  simp [outF, hj]
set_option maxRecDepth 100000 in
theorem outF_keep (F : List UInt8) (i : Nat) (_ : i < 256) (hb : (F.getD (i / 8) 0).toNat.testBit (7 - i % 8) = false) : outF F (i + 1) = outF F i := by
  apply List.ext_getElem?
  intro j
  by_cases hj : j < 32
  · rw [outF_get _ _ _ hj, outF_get _ _ _ hj]
    congr 2
    by_cases hji : j = i / 8
    · subst hji
      rw [show min 8 (i + 1 - 8 * (i / 8)) = i % 8 + 1 by omega, show min 8 (i - 8 * (i / 8)) = i % 8 by omega]
      exact (pby_step _ (F.getD (i / 8) 0).toNat_lt (i % 8) (by omega)).2 hb
    · rw [show min 8 (i + 1 - 8 * j) = min 8 (i - 8 * j) by omega]
  · simp [outF, hj]
set_option maxRecDepth 100000 in
theorem outF_or (F : List UInt8) (i : Nat) (hi : i < 256) (hb : (F.getD (i / 8) 0).toNat.testBit (7 - i % 8) = true) (x : UInt8) (hx : x.toNat = ((outF F i).getD (i / 8) 0).toNat ||| (128 >>> (i % 8))) : (outF F i).set (i / 8) x = outF F (i + 1) := by
  have hF := (F.getD (i / 8) 0).toNat_lt
  have hcur : ((outF F i).getD (i / 8) 0).toNat = pby (F.getD (i / 8) 0).toNat (i % 8) := by
    rw [List.getD, outF_get _ _ _ (by omega), show min 8 (i - 8 * (i / 8)) = i % 8 by omega]
    simp only [Option.getD_some, UInt8.toNat_ofNat']
    exact Nat.mod_eq_of_lt (pby_lt _ _ hF)
  rw [hcur, (pby_step _ hF (i % 8) (by omega)).1 hb] at hx
  have hx' : x = UInt8.ofNat (pby (F.getD (i / 8) 0).toNat (i % 8 + 1)) := UInt8.toNat_inj.1 (by rw [hx, UInt8.toNat_ofNat']; exact (Nat.mod_eq_of_lt (pby_lt _ _ hF)).symm)
  apply List.ext_getElem?
  intro j
  by_cases hj : j < 32
  · by_cases hji : i / 8 = j
    · subst hji
      rw [List.getElem?_set_self (by rw [length_outF]; omega), outF_get _ _ _ (by omega), hx', show min 8 (i + 1 - 8 * (i / 8)) = i % 8 + 1 by omega]
    · rw [List.getElem?_set_ne hji, outF_get _ _ _ hj, outF_get _ _ _ hj, show min 8 (i + 1 - 8 * j) = min 8 (i - 8 * j) by omega]
  · rw [List.getElem?_eq_none (by simp [length_outF]; omega), List.getElem?_eq_none (by rw [length_outF]; omega)]
set_option maxRecDepth 100000 in
/-- the bits of a fingerprint's words and of its bytes -/
theorem byteOf_bit (x : BitVec 32) (r t : Nat) (hr : r < 4) (ht : t < 8) : (byteOf x r).toNat.testBit (7 - t) = x.getLsbD (31 - (8 * r + t)) := by
  unfold byteOf
  rw [UInt8.toNat_ofNat', show (2 : Nat) ^ 8 = 2 ^ 8 from rfl, Nat.testBit_mod_two_pow, Nat.testBit_div_two_pow]
  simp only [show 7 - t < 8 by omega, decide_true, Bool.true_and]
  show x.toNat.testBit _ = x.toNat.testBit _
  congr 1
  omega
set_option maxRecDepth 100000 in
theorem sha_bit (S : St8) (i : Nat) (hi : i < 256) : ((S.list.flatMap bytes4).getD (i / 8) 0).toNat.testBit (7 - i % 8) = (S.list.getD (i / 32) 0).getLsbD (31 - i % 32) := by
  have h1 : i / 8 = 4 * (i / 32) + (i % 32) / 8 := by omega
  have h2 : i % 32 = 8 * ((i % 32) / 8) + i % 8 := by omega
  have hq : i / 32 < 8 := by omega
  have hr : (i % 32) / 8 < 4 := by omega
  have key : ∀ q r, q < 8 → r < 4 → (S.list.flatMap bytes4).getD (4 * q + r) 0 = byteOf (S.list.getD q 0) r := by
    intro q r hq hr
    rcases (show q = 0 ∨ q = 1 ∨ q = 2 ∨ q = 3 ∨ q = 4 ∨ q = 5 ∨ q = 6 ∨ q = 7 by omega) with rfl | rfl | rfl | rfl | rfl | rfl | rfl | rfl <;>
      (rcases (show r = 0 ∨ r = 1 ∨ r = 2 ∨ r = 3 by omega) with rfl | rfl | rfl | rfl <;> rfl)
  rw [h1, key _ _ hq hr, byteOf_bit _ _ _ hr (by omega), ← h2]
end Go.Proofs.YtlhfdlfbnnfjjaaDoor
namespace Go.Proofs.YtlhfdlfbnnfjjaaDoor
open Go.RowKit

set_option maxRecDepth 100000 in
theorem run_make_bytes {o : Oper} {a : Act} (x : Operand) (ho : o.op = .makeSlice 32 x x) (n : Nat) (v : Int) (hv : v = (n : Int)) (hx : a.eval x = .int .i64 v) (hn : n ≤ 1000000) (w : World) :
    (execOp a.eval o).run Tryd.prog w = .ok (.value (.slice (some ⟨w.heap.size, 0, none⟩) n n)) (w.alloc (.cells (zeros n).toArray 5)) := by
  subst hv
  obtain ⟨i, hi, hz, hs, hb⟩ := info_parts (show (Tryd.prog.info? 5).map (fun i => (i.zero, i.size, i.bytes)) = some (some (.int .u8 0), 1, 1) by kernel_rfl)
  have hr := run_make (P := Tryd.prog) w 32 5 i (.int .u8 0) Tryd.underlying32 hi hz .i64 .i64 n n (by omega) (Int.le_refl _) (by rw [hb]; omega) (by omega)
  have hm : madeCells (Value.int .u8 0).cells n = (zeros n).toArray := by
    apply Array.ext
    · simp [madeCells, zeros]
    · intro k h1 h2
      simp [madeCells, zeros, Value.cells, B, Nat.mod_one]
  rw [hs, Int.toNat_natCast, Nat.mul_one, hm] at hr
  unfold execOp
  simp only [ho, hx, hr, Sem.run_bind, Result.andThen_ok]
  rfl

set_option maxRecDepth 100000 in
theorem wpList_make_bytes {ops : Array Oper} {rest : List Oper} {o : Oper} {a : Act} {w : World} {Q : Exit → Act → World → Prop} (hgd : o.guard = none) (x : Operand) (ho : o.op = .makeSlice 32 x x) (n : Nat) (v : Int) (hv : v = (n : Int)) (hx : a.eval x = .int .i64 v) (hn : n ≤ 1000000)
    (h : wpList Tryd.prog ops Q rest (a.put o.dst (.slice (some ⟨w.heap.size, 0, none⟩) n n)) (w.alloc (.cells (zeros n).toArray 5))) : wpList Tryd.prog ops Q (o :: rest) a w :=
  wpList_plain hgd fun K hK => by
    unfold Oper.wp
    rw [run_make_bytes x ho n v hv hx hn w]
    exact hK _ _ h
set_option maxRecDepth 100000 in
/-- a text copied into noughts -/
theorem wpList_copy_zeros {ops : Array Oper} {rest : List Oper} {o : Oper} {a : Act} {w : World} {Q : Exit → Act → World → Prop} (hgd : o.guard = none) (d s : Operand)
    (ho : o.op = .call { callee := .builtin .copy, args := #[d, s], argTypes := #[32, 32] }) (G n : Nat) (hd : a.eval d = .slice (some ⟨G, 0, none⟩) n n) (p : Part) (hp : p.In w) (hs : a.eval s = .slice p.ad p.l.length p.cap) (hln : p.l.length ≤ n)
    (hG : w.heap[G]? = some (.cells (zeros n).toArray 5 (0, 0)))
    (h : ∀ w', Set1 G (.cells ((p.l ++ List.replicate (n - p.l.length) 0).map B).toArray 5 (0, 0)) w w' → wpList Tryd.prog ops Q rest (a.put o.dst (goInt p.l.length)) w') : wpList Tryd.prog ops Q (o :: rest) a w := by
  by_cases hl : p.l = []
  · have e0 : p.l.length = 0 := by rw [hl]; rfl
    refine wpList_copy_nothing hgd d s 32 32 ho 5 Tryd.underlying32 info5 _ _ n n p.l.length p.cap hd hs (by rw [e0]; simp) ?_
    have := h w ⟨rfl, rfl, rfl, rfl, by rw [hG, hl]; simp [zeros], fun _ _ => rfl⟩
    rwa [e0] at this
  · have had := hp.bytes.at' hl
    refine wpList_copy_own hgd d s 32 32 ho 5 Tryd.underlying32 info5 G 0 n n ⟨p.g, p.o, none⟩ p.l.length p.cap hd (by rw [hs, had]) (zeros n).toArray 5 hG (p.l.map B) (by rw [List.length_map]; exact (Nat.min_eq_left hln).symm)
      (fun j v hv => by
        obtain ⟨hj, e⟩ := List.getElem?_eq_some_iff.1 hv
        rw [Addr.add_mid, hp.bytes.cell j (by simpa using hj), ← e]; simp)
      (by simp [zeros]; omega) (by intro v hv; obtain ⟨x, _, rfl⟩ := List.mem_map.1 hv; rfl) ?_
    rw [List.length_map]
    refine h _ ?_
    have e : (List.take 0 (zeros n).toArray.toList ++ (p.l.map B ++ List.drop (0 + p.l.length) (zeros n).toArray.toList)) = (p.l ++ List.replicate (n - p.l.length) 0).map B := by simp [zeros]
    rw [e]
    exact set1_setRow hG

/-- what the reference's sum keeps -/
structure SumRel (w : World) (A : List UInt8) (wr : World) : Prop where
  all : wr.heap[w.heap.size + 1]? = some (.cells (A.map B).toArray 5 (0, 0))
  res : wr.heap[w.heap.size]? = some (.cells (zeros 32).toArray 39 (0, 0))
  below : Below w.heap.size w wr
set_option maxRecDepth 100000 in
theorem SumRel.set {w wr : World} {A : List UInt8} (h : SumRel w A wr) (i : Nat) (b : UInt8) (v : Value) (hv : v = B b) : SumRel w (A.set i b) (wr.setCell ⟨w.heap.size + 1, i, none⟩ v) := by
  subst hv
  refine ⟨?_, by rw [heap_setCell_other _ _ _ _ (by simp)]; exact h.res, h.below.setCell (by simp) _⟩
  rw [heap_setCell_same _ _ _ _ _ _ h.all]
  simp [List.map_set]
set_option maxRecDepth 100000 in
theorem SumRel.cell {w wr : World} {A : List UInt8} (h : SumRel w A wr) (i : Nat) (hi : i < A.length) : wr.cell? ⟨w.heap.size + 1, i, none⟩ = some (B A[i]) := cellB h.all i hi
set_option maxRecDepth 100000 in
theorem SumRel.free {w wr : World} {A : List UInt8} (h : SumRel w A wr) (i : Nat) : wr.frozen? ⟨w.heap.size + 1, i, none⟩ = false := frozen_of_row wr _ i _ _ h.all
set_option maxRecDepth 100000 in
theorem SumRel.drewN {w wr : World} {A : List UInt8} (h : SumRel w A wr) (m : Nat) : SumRel w A (wr.drewN m) := ⟨h.all, h.res, below_drewN h.below m⟩

set_option maxRecDepth 100000 in
theorem or8 : ∀ c : Nat, c < 256 → ∀ t : Nat, t < 8 → bits BinOp.or IntKind.u8 (c : Int) (128 / 2 ^ t) = ((c ||| 128 >>> t : Nat) : Int) := by decide +kernel
set_option maxRecDepth 100000 in
theorem or8_lt : ∀ c, c < 256 → ∀ t, t < 8 → c ||| 128 >>> t < 256 := by decide +kernel
set_option maxRecDepth 100000 in
theorem info32 (n : Nat) (h : n = 32) : (Tryd.prog.info? 39).map (·.size) = some n := by subst h; kernel_rfl
set_option maxRecDepth 100000 in
theorem SumRel.on {w wr w' : World} {A : List UInt8} (h : SumRel w A wr) (hb : Below wr.heap.size wr w') : SumRel w A w' :=
  ⟨(hb.block _ (lt_block h.all)).trans h.all, (hb.block _ (lt_block h.res)).trans h.res, h.below.trans (hb.mono h.below.size)⟩
set_option maxRecDepth 100000 in
theorem SumRel.row {w wr : World} {A : List UInt8} (h : SumRel w A wr) {g o : Nat} (vs : List Value) (hg : w.heap.size + 2 ≤ g) : SumRel w A (wr.setCells g o vs) := by
  have hk : Kept1 g wr (wr.setCells g o vs) := Kept1.setCells _ (Or.inl rfl) _ _ (Kept1.refl _ _)
  refine ⟨(hk.block _ (lt_block h.all) (by omega)).trans h.all, (hk.block _ (lt_block h.res) (by omega)).trans h.res, ?_⟩
  exact Kept1.mono h.below hk (by omega)
set_option maxRecDepth 100000 in
theorem SumRel.turned {w wr w' : World} {A : List UInt8} (h : SumRel w A wr) {g : Nat} {Y : Obj} (hs : Set1 g Y wr w') (hg : w.heap.size + 2 ≤ g) : SumRel w A w' :=
  ⟨(hs.old _ (by omega)).trans h.all, (hs.old _ (by omega)).trans h.res, hs.below h.below (by omega)⟩
set_option maxRecDepth 100000 in
theorem start8_step (k : Nat) (hk : k < 8) : (start8.list.take k ++ List.replicate (8 - k) 0).set k (start8.list.getD k 0) = start8.list.take (k + 1) ++ List.replicate (8 - (k + 1)) 0 := by
  rcases (show k = 0 ∨ k = 1 ∨ k = 2 ∨ k = 3 ∨ k = 4 ∨ k = 5 ∨ k = 6 ∨ k = 7 by omega) with rfl | rfl | rfl | rfl | rfl | rfl | rfl | rfl <;> rfl

set_option maxRecDepth 100000 in
set_option maxHeartbeats 4000000 in
theorem refsum_any (w : World) (p : Part) (hp : p.In w) (hm : p.l.length ≤ 10000) :
    Calls Tryd.prog 40 #[p.val] w fun e w' => e = .returned (H p.l) ∧ Below w.heap.size w w' := by
  have hzv8 : ∀ w, (zeroValue 109).run Tryd.prog w = .ok (.agg (rowC (List.replicate 8 0)).toArray) w := fun _ => by kernel_rfl
  have hz32 : ∀ w, (zeroValue 39).run Tryd.prog w = .ok (.agg (zeros 32).toArray) w := fun _ => by kernel_rfl
  have hZ8 : (rowC (List.replicate 8 0)).length = 256 := by rw [length_rowC]; rfl
  generalize hZZ : rowC (List.replicate 8 0) = Z8 at *
  have HZZ := Lib.hid hZZ
  unfold Part.val
  obtain ⟨ad, g, o, cap, l⟩ := p
  dsimp only at hm ⊢
  obtain ⟨⟨had, hcell⟩, hcap, hglt⟩ := hp
  dsimp only at had hcell hcap hglt
  have Had := Lib.hid had
  have Hcell := Lib.hid hcell
  have hblk : ((l.length : Int) + 9 + 63) / 64 = (((l.length + 72) / 64 : Nat) : Int) := by omega
  have hblk2 : (l.length + 72) / 64 ≤ 200 := by omega
  have hblk3 : l.length + 9 ≤ 64 * ((l.length + 72) / 64) := by omega
  clear had hcell hZZ
  go_enter Tryd.func40, Tryd.ntmps40
  obtain ⟨NB, hNB⟩ : ∃ NB, (l.length + 72) / 64 = NB := ⟨_, rfl⟩
  have hNBi : 64 * (((l.length : Int) + 72) / 64) = ((64 * NB : Nat) : Int) := by omega
  have hh := heap_allocs [.cells (zeros 32).toArray 39, .cells (zeros (64 * NB)).toArray 5] w
  have hA : ((w.alloc (.cells (zeros 32).toArray 39)).alloc (.cells (zeros (64 * NB)).toArray 5)).heap[w.heap.size]? = some (.cells (zeros 32).toArray 39 (0, 0)) := hh 0 (by simp)
  have hB : ((w.alloc (.cells (zeros 32).toArray 39)).alloc (.cells (zeros (64 * NB)).toArray 5)).heap[w.heap.size + 1]? = some (.cells (zeros (64 * NB)).toArray 5 (0, 0)) := hh 1 (by simp)
  have hbW : Below w.heap.size w ((w.alloc (.cells (zeros 32).toArray 39)).alloc (.cells (zeros (64 * NB)).toArray 5)) := below_allocs [_, _] w (Below.refl _ _) (Nat.le_refl _)
  have HA := Lib.hid hA
  have HB := Lib.hid hB
  have HbW := Lib.hid hbW
  have hpW : (Part.mk ad g o cap l).In ((w.alloc (.cells (zeros 32).toArray 39)).alloc (.cells (zeros (64 * NB)).toArray 5)) := (Part.In.mk ⟨Had.out, Hcell.out⟩ hcap hglt : (Part.mk ad g o cap l).In w).below hbW
  have HpW := Lib.hid hpW
  clear hh hA hB hbW hpW
  go_wp2_with (first
    | (refine wpList_make_bytes rfl (.tmp 18) rfl (64 * NB) _ (by omega) rfl (by omega) ?_)
    | (refine wpList_copy_zeros rfl (.tmp 20) (.tmp 21) rfl (w.heap.size + 1) (64 * NB) rfl ⟨ad, g, o, cap, l⟩ HpW.out rfl (by show l.length ≤ _; omega) HB.out ?_))
  intro w3 hs3
  have R0 : SumRel w (l ++ List.replicate (64 * NB - l.length) 0) w3 := ⟨by rw [List.map_append, List.map_replicate]; exact hs3.new, by rw [hs3.old _ (by omega)]; exact HA.out, hs3.below HbW.out (by omega)⟩
  have hlenA : (l ++ List.replicate (64 * NB - l.length) (0 : UInt8)).length = 64 * NB := by simp; omega
  obtain ⟨v0, c0⟩ : ∃ v0, w3.cell? ⟨w.heap.size + 1, l.length, none⟩ = some v0 := ⟨_, R0.cell l.length (by rw [hlenA]; omega)⟩
  have f0 := R0.free l.length
  have R1 := R0.set l.length 0x80 (.int .u8 128) rfl
  have hst := allB_start l
  rw [hNB] at hst
  rw [hst] at R1
  have HR1 := Lib.hid R1
  clear R0 R1 hst hs3 HA HB HbW HpW Had Hcell hlenA
  go_wp2_with fail
  have R1 := HR1.out
  generalize w3.setCell _ _ = w4 at *
  go_loopw [5, 6] (fun n i wr => ∃ j : Nat, j ≤ 8 ∧ n = .int .i64 ((8 * l.length / 256 ^ j : Nat) : Int) ∧ i = .int .i64 ((64 * NB - 1 - j : Nat) : Int) ∧ SumRel w (allB l j) wr) (fun n _ _ => (intOf n).toNat)
  case atStart => exact ⟨0, by omega, by first | rfl | (simp; done) | (congr 1; simp; omega), by first | rfl | (congr 1; omega), R1⟩
  case round =>
    clear R1 HR1 c0 f0
    obtain ⟨j, hj, rfl, rfl, hr⟩ := hrel
    have hstep := allB_step l j
    have hend := allB_end l j hj
    have hlj := length_allB l j hj
    have hnx : 8 * l.length / 256 ^ (j + 1) = 8 * l.length / 256 ^ j / 256 := by rw [Nat.pow_succ, Nat.div_div_eq_div_mul]
    have hj8 : 0 < 8 * l.length / 256 ^ j → j < 8 := fun h => by
      rcases Nat.lt_or_ge j 8 with h1 | h1
      · exact h1
      · obtain rfl : j = 8 := by omega
        rw [Nat.div_eq_of_lt (by omega)] at h; omega
    have hmle : 8 * l.length / 256 ^ j ≤ 80000 := Nat.le_trans (Nat.div_le_self _ _) (by omega)
    rw [hNB] at hstep hlj
    generalize hmm : 8 * l.length / 256 ^ j = m at *
    clear hmm
    by_cases hn : 0 < m
    · have hd : decide ((0 : Int) < (m : Int)) = true := by simp; omega
      have hj7 := hj8 hn
      have hidx : ((64 * NB - 1 - j : Nat) : Int).toNat = 64 * NB - 1 - j := by omega
      have hlt : ((64 * NB - 1 - j : Nat) : Int) < ((64 * NB : Nat) : Int) := by omega
      obtain ⟨v1, c1⟩ : ∃ v1, wr.cell? ⟨w.heap.size + 1, 64 * NB - 1 - j, none⟩ = some v1 := ⟨_, hr.cell (64 * NB - 1 - j) (by rw [hlj]; omega)⟩
      have f1 := hr.free (64 * NB - 1 - j)
      have R2 := hr.set (64 * NB - 1 - j) (UInt8.ofNat (m % 256)) (.int .u8 ((m : Int) % 256)) (by simp [B, UInt8.toNat_ofNat'])
      rw [hstep hj7] at R2
      have HR2 := Lib.hid R2
      clear R2 hr hstep hend
      generalize hq : 64 * NB - 1 - j = q at *
      go_wp2_with fail
      go_roundw
      case rel => exact ⟨j + 1, by omega, by rw [hnx]; rfl, by congr 1; omega, HR2.out⟩
      case measure => simp [intOf]; omega
    · have hd : decide ((0 : Int) < (m : Int)) = false := by simp; omega
      have hall := hend (by omega) (by omega)
      have hfin := wordsOf_all l _ hall (by rw [hlj, hNB])
      rw [hNB] at hfin
      clear hend hstep hnx hj8 hall hj
      generalize allB l j = A at *
      have HR := Lib.hid hr
      have Hfin := Lib.hid hfin
      clear hr hfin
      go_wp2_with fail
      have hz1 : (wr.alloc (.cells Z8.toArray 109)).heap[wr.heap.size]? = some (.cells (rowC (start8.list.take 0 ++ List.replicate (8 - 0) 0)).toArray 109 (0, 0)) := by
        rw [heap_alloc_new, ← HZZ.out, List.take_zero, List.nil_append, Nat.sub_zero]
      have hbA : Below wr.heap.size wr (wr.alloc (.cells Z8.toArray 109)) := (Below.refl _ _).alloc (Nat.le_refl _) _
      have hr1 := HR.out.on hbA
      have hG7 : w.heap.size + 2 ≤ wr.heap.size := lt_block HR.out.all
      generalize wr.alloc (.cells Z8.toArray 109) = w5 at *
      generalize wr.heap.size = G at *
      clear HR hbA hd hn hmle
      go_loopw [8] (fun i wr => ∃ k : Nat, k ≤ 8 ∧ i = .int .i64 k ∧ SumRel w A wr ∧ wr.heap[G]? = some (.cells (rowC (start8.list.take k ++ List.replicate (8 - k) 0)).toArray 109 (0, 0))) (fun i _ => 8 - (intOf i).toNat)
      case atStart => exact ⟨0, by omega, rfl, hr1, hz1⟩
      case round =>
        clear hr1 hz1
        obtain ⟨k, hk, rfl, hr, hg⟩ := hrel
        by_cases hlt : k < 8
        · have hd : decide ((k : Int) < 8) = true := by simp; omega
          have HR := Lib.hid hr
          have Hg := Lib.hid hg
          have hk8 : (k : Int) < 8 := by omega
          have hk0 : (0 : Int) ≤ k := by omega
          have hkn : ((k : Int)).toNat = k := by omega
          clear hr hg
          go_wp2_with fail
          refine (hexB k hlt _ (by kernel_rfl) _).mono ?_
          rintro e w6 ⟨rfl, hb6⟩
          have h6 := (hb6.block G (lt_block Hg.out)).trans Hg.out
          have r6 := HR.out.on hb6
          have hset : (start8.list.take k ++ List.replicate (8 - k) 0).set k (start8.list.getD k 0) = start8.list.take (k + 1) ++ List.replicate (8 - (k + 1)) 0 := start8_step k hlt
          have hlen8 : (start8.list.take k ++ List.replicate (8 - k) (0 : BitVec 32)).length = 8 := by simp [St8.list]; omega
          generalize start8.list.take k ++ List.replicate (8 - k) (0 : BitVec 32) = L at *
          generalize start8.list.getD k 0 = x at *
          have hb7 := heap_setCells G 109 (bitsV x) (32 * k) _ w6 h6 (by rw [length_bitsV, length_rowC, hlen8]; omega)
          rw [over_row _ k (by omega), hset] at hb7
          have hth := there_block h6 (32 * k) 32 (by rw [length_rowC, hlen8]; omega)
          have r7 := r6.row (g := G) (o := 32 * k) (bitsV x) hG7
          rw [Nat.mul_comm 32 k] at hb7 hth r7
          have Hb7 := Lib.hid hb7
          have Hr7 := Lib.hid r7
          clear h6 r6 hb6 hset hlen8 hb7 r7 HR Hg
          have hlx := length_bitsV x
          have hox : ∀ v ∈ bitsV x, v.oneCell' = true := one_bitsC _
          rw [show BV x = .agg (bitsV x).toArray from rfl]
          generalize bitsV x = Lx at *
          have Hth := Lib.hid hth
          have Hox := Lib.hid hox
          have Hlx := Lib.hid hlx
          clear hth hox hlx
          dsimp only
          go_wp2_with (refine wpList_store_mid rfl 108 (.tmp 52) (.tmp 51) rfl G (k * 32) Lx.toArray rfl rfl (by simpa [Hlx.out] using Hth.out) (infoBitsL _ (by simpa using Hlx.out)) (all_oneCell_toArray Hox.out) ?_)
          go_roundw
          case rel => exact ⟨k + 1, by omega, by go_num, Hr7.out, Hb7.out⟩
          case measure => simp [intOf]; omega
        · have hd : decide ((k : Int) < 8) = false := by simp; omega
          have hk8 : k = 8 := by omega
          rw [hk8] at hg
          have hg0 : wr.heap[G]? = some (.cells (rowC (hw A 0).list).toArray 109 (0, 0)) := hg
          have HR := Lib.hid hr
          have Hg := Lib.hid hg0
          clear hr hg hg0 hk8 hlt hk
          go_wp2_with fail
          go_loopw [9] (fun i wr => ∃ k : Nat, k ≤ NB ∧ i = .int .i64 k ∧ SumRel w A wr ∧ wr.heap[G]? = some (.cells (rowC (hw A k).list).toArray 109 (0, 0))) (fun i _ => NB - (intOf i).toNat)
          case atStart => exact ⟨0, by omega, rfl, HR.out, Hg.out⟩
          case round =>
            clear HR Hg hd
            obtain ⟨k, hk, rfl, hr, hg⟩ := hrel
            by_cases hlt : k < NB
            · have hd : decide ((k : Int) < (NB : Int)) = true := by simp; omega
              have HR := Lib.hid hr
              have hnext : hw A (k + 1) = mixW (hw A k) (blk A k) := rfl
              have hlen := length_row8 (hw A k)
              have hbk : (blk A k).length = 64 := by simp only [blk, List.length_take, List.length_drop]; omega
              have Hbk := Lib.hid hbk
              have Glt : G < wr.heap.size := lt_block hg
              have hpin : ∀ w', Below wr.heap.size wr w' → (Part.mk (some ⟨w.heap.size + 1, 64 * k, none⟩) (w.heap.size + 1) (64 * k) (64 * NB - 64 * k) (blk A k)).In w' := fun w' hb => by
                refine Part.In.below (w := wr) ⟨⟨fun _ => rfl, fun q hq => ?_⟩, ?_, lt_block hr.all⟩ hb
                · dsimp only at hq ⊢
                  rw [hr.cell (64 * k + q) (by omega)]
                  simp [blk]
                · dsimp only; omega
              have hblock : ∀ w', Below wr.heap.size wr w' → Calls Tryd.prog 54 #[.agg (rowC (hw A k).list).toArray, .slice (some ⟨w.heap.size + 1, 64 * k, none⟩) 64 (64 * NB - 64 * k)] w' fun e w'' => e = .returned (.agg (rowC (mixW (hw A k) (blk A k)).list).toArray) ∧ Below w'.heap.size w' w'' := fun w' hb => by
                have h := block_any (hw A k) w' _ (hpin w' hb) hbk
                unfold Part.val at h
                dsimp only at h
                rw [hbk] at h
                exact h
              have hlen2 := length_row8 (mixW (hw A k) (blk A k))
              have hone2 := one_rowC (mixW (hw A k) (blk A k)).list
              rw [← hnext] at hblock hlen2 hone2
              generalize hLm : rowC (hw A (k + 1)).list = Lm at *
              have HLm := Lib.hid hLm
              have Hone2 := Lib.hid hone2
              clear hLm hone2
              generalize hLh : rowC (hw A k).list = Lh at *
              have Hg := Lib.hid hg
              have Hblock := Lib.hid hblock
              have HLh := Lib.hid hLh
              have i1 : IntKind.i64.wrap (64 * (k : Int)) = 64 * (k : Int) := IntWalk.i64_in _ (by omega)
              have i2 : IntKind.i64.wrap (64 * (k : Int) + 64) = 64 * (k : Int) + 64 := IntWalk.i64_in _ (by omega)
              have n1 : (64 * (k : Int)).toNat = 64 * k := by omega
              have n2 : (64 * (k : Int) + 64).toNat = 64 * k + 64 := by omega
              clear hr hnext hbk hg hblock hLh hpin
              go_wp2_with fail
              refine wp_region_fresh 9 [.calm, .calm, .calm, .calm, .calm, .calm, .calm, .calm, .calm] (fun _ => .cells #[] 0) (fun _ => .cells #[] 0) (fun _ _ => undef) (by kernel_rfl) (by kernel_rfl) (by kernel_rfl) ?_
              intro R hR
              have hne := hR.nonempty
              simp only [List.take_succ_cons, List.take_zero, List.drop_succ_cons, List.drop_zero, calmL]
              refine wpQuiet_load_mid rfl 109 (.tmp 7) rfl G 0 rfl Lh _ (fun w' ⟨m, hw'⟩ => hw' ▸ range_below m.below (range_block Hg.out) Glt) Tryd.underlying109 rfl (infoRow _ hlen) ?_
              simp only [Act.put, List.setIfInBounds_toArray, List.set_cons_succ, List.set_cons_zero]
              iterate 7 (go_big_quiet_step (fail))
              go_big_quiet_step ((go_at_call 54; exact Calls.quiet_r hR (Hblock.out _ (BlR.below _))))
              refine wpQuiet_nil ?_
              refine ⟨by simp only [obF], ?_⟩
              intro γ w1 hf
              clear hR hne R
              simp only [putF]
              have hb1 := hf.below
              clear hf
              have h6 := (hb1.block G Glt).trans Hg.out
              have r1 := HR.out.on hb1
              refine wpList_store_row rfl 109 (.tmp 7) (.tmp 66) rfl G Lm.toArray rfl rfl 109 _ h6 (infoRow _ (by simp [hlen2])) (by simp [hlen, hlen2]) (all_oneCell_toArray Hone2.out) ?_
              simp only [Act.put]
              have sn := set1_setRow (cells := Lm.toArray) h6
              have r2 := r1.turned sn hG7
              have h7 := sn.new
              generalize w1.setRow G Lm.toArray = w6 at *
              rw [← HLm.out] at h7
              have Hr2 := Lib.hid r2
              have H7 := Lib.hid h7
              clear r2 h7 sn r1 h6 hb1 HR Hg Hblock
              go_wp2_with fail
              go_roundw
              case rel => exact ⟨k + 1, by omega, by go_num, Hr2.out, H7.out⟩
              case measure => simp [intOf]; omega
            · have hd : decide ((k : Int) < (NB : Int)) = false := by simp; omega
              have hkN : k = NB := by omega
              rw [hkN, ← Hfin.out] at hg
              have HR := Lib.hid hr
              have Hg := Lib.hid hg
              clear hr hg hkN hk
              go_wp2_with fail
              have hz1 : (wr.alloc (.cells (zeros 32).toArray 39)).heap[wr.heap.size]? = some (.cells ((outF (shaOf l) 0).map B).toArray 39 (0, 0)) := by
                rw [heap_alloc_new, outF_zero, List.map_replicate]; rfl
              have hbA : Below wr.heap.size wr (wr.alloc (.cells (zeros 32).toArray 39)) := (Below.refl _ _).alloc (Nat.le_refl _) _
              have hr1 := HR.out.on hbA
              have hg1 := (hbA.block G (lt_block Hg.out)).trans Hg.out
              have hGO : G < wr.heap.size := lt_block Hg.out
              have hbit := sha_bit (finWords l)
              rw [show (finWords l).list.flatMap bytes4 = shaOf l from rfl] at hbit
              have hH : H l = .agg ((shaOf l).map B).toArray := rfl
              have hlF := length_shaOf l
              have HH := Lib.hid hH
              generalize shaOf l = F at *
              have HlF := Lib.hid hlF
              have Hbit := Lib.hid hbit
              generalize wr.alloc (.cells (zeros 32).toArray 39) = w6 at *
              generalize wr.heap.size = O at *
              clear HR Hg hbA hd hlt hH hlF hbit
              go_loopw [11] (fun i wr => ∃ k : Nat, k ≤ 256 ∧ i = .int .i64 k ∧ SumRel w A wr ∧ wr.heap[G]? = some (.cells (rowC (finWords l).list).toArray 109 (0, 0)) ∧ wr.heap[O]? = some (.cells ((outF F k).map B).toArray 39 (0, 0))) (fun i _ => 256 - (intOf i).toNat)
              case atStart => exact ⟨0, by omega, rfl, hr1, hg1, hz1⟩
              case round =>
                clear hr1 hg1 hz1
                obtain ⟨k, hk, rfl, hr, hg, ho⟩ := hrel
                by_cases hlt : k < 256
                · have hd : decide ((k : Int) < 256) = true := by simp; omega
                  have hbitk := Hbit.out k hlt
                  have cb : wr.cell? ⟨G, k / 32 * 32 + (31 - k % 32), none⟩ = some (.bool (((finWords l).list.getD (k / 32) 0).getLsbD (31 - k % 32))) := by
                    have := row8_range hg (k / 32) (by omega) (31 - k % 32) (.bool (((finWords l).list.getD (k / 32) 0).getLsbD (31 - k % 32))) (bitsC_get _ _ (by omega))
                    rw [Nat.mul_comm 32 (k / 32)] at this
                    exact this
                  rw [← hbitk] at cb
                  have co : wr.cell? ⟨O, k / 8, none⟩ = some (B ((outF F k).getD (k / 8) 0)) := by
                    rw [cellB ho (k / 8) (by rw [length_outF]; omega)]; simp [List.getD, length_outF, show k / 8 < 32 by omega]
                  have cf := frozen_of_row wr O (k / 8) _ _ ho
                  have n1 : ((k : Int) / 32).toNat = k / 32 := by omega
                  have n2 : (31 - (k : Int) % 32).toNat = 31 - k % 32 := by omega
                  have n3 : ((k : Int) / 8).toNat = k / 8 := by omega
                  have HR := Lib.hid hr
                  have Hg := Lib.hid hg
                  have Ho := Lib.hid ho
                  clear hr hg ho hbitk
                  cases hb : (F.getD (k / 8) 0).toNat.testBit (7 - k % 8) with
                  | false =>
                    rw [hb] at cb
                    have hkeep := outF_keep F k hlt hb
                    have Hkeep := Lib.hid hkeep
                    clear hkeep hb
                    go_wp2_with fail
                    go_roundw
                    case rel => exact ⟨k + 1, by omega, by go_num, HR.out, Hg.out, by rw [Hkeep.out]; exact Ho.out⟩
                    case measure => simp [intOf]; omega
                  | true =>
                    rw [hb] at cb
                    have hor := outF_or F k hlt hb
                    have Hor := Lib.hid hor
                    clear hor hb
                    unfold B at co
                    generalize hcur : ((outF F k).getD (k / 8) 0) = cur at *
                    have Hcur := Lib.hid hcur
                    clear hcur
                    go_wp2_with fail
                    have hx : (UInt8.ofNat (cur.toNat ||| 128 >>> (k % 8))).toNat = cur.toNat ||| 128 >>> (k % 8) := by
                      rw [UInt8.toNat_ofNat']; exact Nat.mod_eq_of_lt (or8_lt cur.toNat cur.toNat_lt (k % 8) (by omega))
                    have hset := Hor.out (UInt8.ofNat (cur.toNat ||| 128 >>> (k % 8))) hx
                    have hval : Value.int IntKind.u8 (bits BinOp.or IntKind.u8 (cur.toNat : Int) (128 / 2 ^ (k % 8))) = B (UInt8.ofNat (cur.toNat ||| 128 >>> (k % 8))) := by
                      rw [or8 cur.toNat cur.toNat_lt (k % 8) (by omega)]; unfold B; rw [hx]
                    rw [hval]
                    go_roundw
                    case rel =>
                      refine ⟨k + 1, by omega, by go_num, ?_, ?_, ?_⟩
                      · have hk1 : Kept1 O wr (wr.setCell ⟨O, k / 8, none⟩ (B (UInt8.ofNat (cur.toNat ||| 128 >>> (k % 8))))) := Kept1.setCell (Kept1.refl O wr) ⟨O, k / 8, none⟩ (Or.inl rfl) _
                        exact ⟨(hk1.block _ (lt_block HR.out.all) (by omega)).trans HR.out.all, (hk1.block _ (lt_block HR.out.res) (by omega)).trans HR.out.res, Kept1.mono HR.out.below hk1 (by omega)⟩
                      · rw [heap_setCell_other _ _ _ _ (by simp; omega)]; exact Hg.out
                      · rw [heap_setCell_same _ _ _ _ _ _ Ho.out, ← hset]; simp [List.map_set]
                    case measure => simp [intOf]; omega
                · have hd : decide ((k : Int) < 256) = false := by simp; omega
                  have hk256 : k = 256 := by omega
                  rw [hk256, outF_end F HlF.out] at ho
                  have hres := hr.res
                  have hbe := hr.below
                  have hlen : (F.map B).length = 32 := by rw [List.length_map]; exact HlF.out
                  have hone : ∀ v ∈ F.map B, v.oneCell' = true := by intro v hv; obtain ⟨x, _, rfl⟩ := List.mem_map.1 hv; rfl
                  generalize F.map B = L1 at *
                  have Ho := Lib.hid ho
                  have Hres := Lib.hid hres
                  have Hbe := Lib.hid hbe
                  have Hone := Lib.hid hone
                  clear hr hg ho hres hbe hone hk256 hlt hk
                  go_wp2_with (first
                    | (refine wpList_load_mid rfl 39 (.tmp 10) rfl O 0 rfl L1 _ (range_block Ho.out) Tryd.underlying39 rfl (info32 _ hlen) ?_)
                    | (refine wpList_store_row rfl 39 (.tmp 2) (.tmp 89) rfl w.heap.size L1.toArray rfl rfl 39 (zeros 32).toArray Hres.out (info32 _ (by simp [hlen])) (by simp [hlen, zeros]) (all_oneCell_toArray Hone.out) ?_))
                  have sn := set1_setRow (cells := L1.toArray) Hres.out
                  have hbel : Below w.heap.size w (wr.setRow w.heap.size L1.toArray) := sn.below Hbe.out (by omega)
                  exact bodyPost_ret (v := .agg L1.toArray) (results_cell_row Tryd.results40 _ _ w.heap.size 39 L1.toArray (0, 0) _ rfl sn.new Tryd.underlying39 rfl (info32 _ (by simp [hlen]))) rfl ⟨by rw [HH.out], hbel⟩
end Go.Proofs.YtlhfdlfbnnfjjaaDoor
namespace Go.Proofs.YtlhfdlfbnnfjjaaDoor
open Go.RowKit

set_option maxRecDepth 100000 in
/-- a part laid behind owned bytes -/
theorem wpList_append_part {ops : Array Oper} {rest : List Oper} {o : Oper} {a : Act} {w : World} {Q : Exit → Act → World → Prop} (hgd : o.guard = none) (s x : Operand)
    (ho : o.op = .call { callee := .builtin .append, args := #[s, x], argTypes := #[32, 32] }) (base : Nat) (v : Value) (n : Nat) (L : List UInt8) (hs : a.eval s = v) (hown : w.ownsRow base 5 1 v n (L.map B))
    (p : Part) (hp : p.In w) (hnil : p.ad = none → p.cap = 0) (hx : a.eval x = .slice p.ad p.l.length p.cap) (hlen : n + p.l.length ≤ 1000000) (hbase : base ≤ w.heap.size)
    (h : ∀ v' w', w'.ownsRow base 5 1 v' (n + p.l.length) ((L ++ p.l).map B) → Below base w w' → wpList Tryd.prog ops Q rest (a.put o.dst v') w') : wpList Tryd.prog ops Q (o :: rest) a w := by
  obtain ⟨i, hi, hz, hsz, hby⟩ := info_parts (show (Tryd.prog.info? 5).map (fun i => (i.zero, i.size, i.bytes)) = some (some (.int .u8 0), 1, 1) by kernel_rfl)
  cases had : p.ad with
  | none =>
    have hl : p.l = [] := by
      by_cases hl : p.l = []
      · exact hl
      · have := hp.bytes.at' hl
        rw [had] at this; cases this
    rw [had, hl, hnil had] at hx
    refine wpList_append_own_none hgd s x 32 ho base 5 i 1 Tryd.underlying32 hi v n (L.map B) hs hown hx ?_
    have := h v w (by rw [hl]; simpa using hown) (Below.refl _ _)
    exact this
  | some ad =>
    rw [had] at hx
    refine wpList_append_own _ hgd s x 32 ho base 5 i (.int .u8 0) 1 1 Tryd.underlying32 hi hz hsz hby rfl (by omega) v n (L.map B) hs hown ad p.l.length p.cap (p.l.map B) hx (by simp) (fun j u hu => ?_) (by intro v hv; obtain ⟨y, _, rfl⟩ := List.mem_map.1 hv; rfl) (by unfold maxLen; omega) (by omega) hbase ?_
    · obtain ⟨hj, e⟩ := List.getElem?_eq_some_iff.1 hu
      have hne : p.l ≠ [] := by intro e; simp [e] at hj
      have h1 := hp.bytes.at' hne
      rw [had] at h1
      cases h1
      rw [Addr.add_mid, hp.bytes.cell j (by simpa using hj), ← e]; simp
    · intro v' w' hown' hg _
      refine h v' w' (by rw [List.map_append]; exact hown') ?_
      exact (Below.refl base w).grown hg hbase (fun b hb => (hown.lt b hb).1)

set_option maxRecDepth 100000 in
/-- owned bytes, as a part -/
theorem part_of_own {w : World} {base : Nat} {v : Value} {n : Nat} {L : List UInt8} (h : w.ownsRow base 5 1 v n (L.map B)) (hw : 0 < w.heap.size) : ∃ p : Part, p.val = v ∧ p.In w ∧ p.l = L ∧ (p.ad = none → p.cap = 0) ∧ p.o = 0 ∧ ∀ g, v.ownBlock = some g → p.g = g := by
  have hn : L.length = n := by have := h.1; simpa using this
  obtain ⟨_, h2⟩ := h
  rcases h2 with ⟨rfl, rfl⟩ | ⟨g, cap, cur, rfl, hb, hg, hc, hm, hsz, ht⟩
  · have : L = [] := by cases L with | nil => rfl | cons => simp at hn
    subst this
    exact ⟨⟨none, 0, 0, 0, []⟩, rfl, ⟨⟨fun h => absurd rfl h, fun j hj => by cases hj⟩, Nat.le_refl _, hw⟩, rfl, fun _ => rfl, rfl, fun g hg => by simp [Value.ownBlock] at hg⟩
  · refine ⟨⟨some ⟨g, 0, none⟩, g, 0, cap, L⟩, by unfold Part.val; rw [hn], ⟨⟨fun _ => rfl, fun j hj => ?_⟩, by show L.length ≤ cap; omega, lt_block hg⟩, rfl, (fun h => by simp at h), rfl, fun g' hg' => by simpa [Value.ownBlock] using hg'⟩
    dsimp only at hj ⊢
    rw [Nat.zero_add, cell_of_row w g j cur 5 (0, 0) hg]
    have := congrArg (fun l => l[j]?) ht
    simp only [List.getElem?_take, List.getElem?_map] at this
    rw [if_pos (by omega)] at this
    simpa [hj] using this

set_option maxRecDepth 100000 in
theorem joined_snoc (ps : List Part) (k : Nat) (hk : k < ps.length) : joined (ps.take (k + 1)) = joined (ps.take k) ++ ps[k].l := by
  simp only [joined, List.take_succ_eq_append_getElem hk, List.flatMap_append, List.flatMap_cons, List.flatMap_nil, List.append_nil]
set_option maxRecDepth 100000 in
theorem length_joined_take (ps : List Part) (k : Nat) : (joined (ps.take k)).length ≤ (joined ps).length := by
  have : joined ps = joined (ps.take k) ++ joined (ps.drop k) := by rw [joined, joined, joined, ← List.flatMap_append, List.take_append_drop]
  rw [this, List.length_append]; omega

set_option maxRecDepth 100000 in
set_option maxHeartbeats 1000000 in
theorem joined_any (w : World) (ps : List Part) (ap : Option Addr) (gp op cp : Nat) (hp : PartsIn w ap gp op ps) (hnil : ∀ p ∈ ps, p.ad = none → p.cap = 0) (hm : (joined ps).length ≤ 100000) (hl : ps.length ≤ 1000) :
    Calls Tryd.prog 41 #[.slice ap ps.length cp] w fun e w' => ∃ v, e = .returned v ∧ w'.ownsRow w.heap.size 5 1 v (joined ps).length ((joined ps).map B) ∧ Below w.heap.size w w' := by
  have R0 : w.ownsRow w.heap.size 5 1 (.slice none 0 0) (joined (ps.take 0)).length ((joined (ps.take 0)).map B) := World.ownsRow_nil _ _ _ _
  have Hp := Lib.hid hp
  have Hnil := Lib.hid hnil
  have Hm := Lib.hid hm
  clear hp hnil hm
  go_enter Tryd.func41, Tryd.ntmps41
  go_wp2_with fail
  go_loopw [3, 4] (fun v i wr => ∃ k : Nat, k ≤ ps.length ∧ i = .int .i64 k ∧ wr.ownsRow w.heap.size 5 1 v (joined (ps.take k)).length ((joined (ps.take k)).map B) ∧ Below w.heap.size w wr) (fun _ i _ => ps.length - (intOf i).toNat)
  case atStart => exact ⟨0, by omega, rfl, R0, Below.refl _ _⟩
  case round =>
    clear R0
    obtain ⟨k, hk, rfl, hown, hb⟩ := hrel
    by_cases hlt : k < ps.length
    · have hd : decide ((k : Int) < (ps.length : Int)) = true := by simp; omega
      have hin : ps[k].In wr := (Hp.out.parts ps[k] (List.getElem_mem hlt)).below hb
      obtain rfl := Hp.out.at' (by intro e; rw [e] at hlt; cases hlt)
      have hcell : wr.cell? ⟨gp, op + k, none⟩ = some (.slice ps[k].ad ps[k].l.length ps[k].cap) := by
        rw [hb.cell (by exact Hp.out.lt), Hp.out.cell k hlt]; rfl
      have hbd := length_joined_take ps (k + 1)
      rw [joined_snoc ps k hlt, List.length_append] at hbd
      have hsn := joined_snoc ps k hlt
      have hnk := Hnil.out ps[k] (List.getElem_mem hlt)
      have Hmo := Hm.out
      have Hin := Lib.hid hin
      have Hown := Lib.hid hown
      have Hb := Lib.hid hb
      have Hsn := Lib.hid hsn
      have Hnk := Lib.hid hnk
      generalize ps[k] = q at *
      have hbs : w.heap.size ≤ wr.heap.size := hb.size
      clear hin hown hb hsn hnk
      go_wp2_with (at_builtin; refine wpList_append_part rfl (.tmp 11) (.tmp 15) rfl w.heap.size _ _ (joined (ps.take k)) rfl Hown.out q Hin.out Hnk.out rfl (by omega) hbs ?_)
      intro v' w' hown' hb'
      have hown2 : w'.ownsRow w.heap.size 5 1 v' (joined (ps.take (k + 1))).length ((joined (ps.take (k + 1))).map B) := by rw [Hsn.out, List.length_append, List.map_append]; exact hown'
      have hb2 := Hb.out.trans hb'
      have Hown2 := Lib.hid hown2
      have Hb2 := Lib.hid hb2
      clear hown' hb' hown2 hb2 Hown Hb
      go_wp2_with fail
      go_roundw
      case rel => exact ⟨k + 1, by omega, by go_num, Hown2.out, Hb2.out⟩
      case measure => simp [intOf]; omega
    · have hd : decide ((k : Int) < (ps.length : Int)) = false := by simp; omega
      have hkl : k = ps.length := by omega
      rw [hkl, List.take_length] at hown
      have Hown := Lib.hid hown
      have Hb := Lib.hid hb
      clear hown hb hkl
      go_wp2_with fail
      go_ret
      exact ⟨_, rfl, Hown.out, Hb.out⟩
end Go.Proofs.YtlhfdlfbnnfjjaaDoor
