/- P3.1, P3.2: bytes alone; what was written at the end; what is read from the start; Heads and sectors of a book, and the small functions that ask them; Words of 32 bits: what the model's arithmetic on uint32 is, on bit vectors. No program is named here. -/
import Derived.Test.YtlhfdlfbnnfjjaaDoorJ07
import Derived.Test.YtlhfdlfbnnfjjaaDoorJ01
import Derived.WalkKit
import Derived.Lib.Hide
namespace Go.Proofs.YtlhfdlfbnnfjjaaDoor
open Go.RowKit

/-- a slice of bytes that lie in this world -/
def BSrc (w : World) (v : Value) (l : List UInt8) : Prop :=
  (∃ ad cp, v = .slice ad 0 cp ∧ l = []) ∨ ∃ (g o cp : Nat), v = .slice (some ⟨g, o, none⟩) l.length cp ∧ ∀ j (hj : j < l.length), w.cell? ⟨g, o + j, none⟩ = some (.int .u8 (l[j].toNat : Int))
set_option maxRecDepth 100000 in
theorem BSrc.below {w w' : World} {v : Value} {l : List UInt8} (h : BSrc w v l) (hb : Below w.heap.size w w') : BSrc w' v l := by
  rcases h with h | ⟨g, o, cp, e, hc⟩
  · exact .inl h
  · exact .inr ⟨g, o, cp, e, fun j hj => (hb.cell (block_lt_of_cell (hc j hj))).trans (hc j hj)⟩
set_option maxRecDepth 100000 in
theorem BSrc.kept {w w' : World} {v : Value} {l : List UInt8} {t : Nat} (h : BSrc w v l) (hb : Kept1 t w w') (hne : ∀ a n c, v = .slice (some a) n c → a.block ≠ t) : BSrc w' v l := by
  rcases h with h | ⟨g, o, cp, e, hc⟩
  · exact .inl h
  · exact .inr ⟨g, o, cp, e, fun j hj => (hb.cell (block_lt_of_cell (hc j hj)) (hne ⟨g, o, none⟩ _ _ e)).trans (hc j hj)⟩
set_option maxRecDepth 100000 in
theorem BSrc.shape {w : World} {v : Value} {l : List UInt8} (h : BSrc w v l) : ∃ ad cp, v = .slice ad l.length cp := by
  rcases h with ⟨ad, cp, e, rfl⟩ | ⟨g, o, cp, e, _⟩
  · exact ⟨ad, cp, e⟩
  · exact ⟨_, _, e⟩
set_option maxRecDepth 100000 in
theorem conv_bytes {w : World} {v : Value} {l : List UInt8} (h : BSrc w v l) : (convert 32 9 v).run Tryd.prog w = .ok (.string ⟨l.toArray⟩) w := by
  rcases h with ⟨ad, cp, rfl, rfl⟩ | ⟨g, o, cp, rfl, hc⟩
  · rw [run_convert_bytes_string w 32 9 5 _ 0 cp Tryd.underlying32 Tryd.underlying5 Tryd.underlying9]
    cases ad <;> simp [Conv.bytesToString]
    all_goals rfl
  · exact run_convert_bytes_back (P := Tryd.prog) w 32 9 5 ⟨g, o, none⟩ cp l Tryd.underlying32 Tryd.underlying5 Tryd.underlying9 (fun j hj => by rw [Addr.add_mid]; exact hc j hj)
set_option maxRecDepth 100000 in
theorem conv_string (w : World) (s : ByteArray) : ∃ v w', (convert 9 32 (.string s)).run Tryd.prog w = .ok v w' ∧ BSrc w' v s.data.toList ∧ Below w.heap.size w w' ∧ ∀ a n c, v = .slice (some a) n c → w.heap.size ≤ a.block := by
  have h := run_bytes_of_string (P := Tryd.prog) w 9 32 5 s Tryd.underlying9 Tryd.underlying32 Tryd.underlying5
  refine ⟨_, _, h, .inr ⟨w.heap.size, 0, _, by simp; rfl, fun j hj => ?_⟩, ((Below.refl _ _).drew.alloc (Nat.le_refl _) _), fun a n c e => by injection e with e1; injection e1 with e1; rw [← e1]; exact Nat.le_refl _⟩
  rw [Nat.zero_add]
  refine (cell_block (g := w.heap.size) (heap_alloc_new w.drew _) j).trans ?_
  have hj' : j < s.data.size := by simpa using hj
  have hj2 : j < s.size := hj'
  simp [bytesRow, Array.getElem?_append, hj2]
set_option maxRecDepth 100000 in
theorem below_kept {t : Nat} {a w w' : World} (h : Below a.heap.size a w) (k : Kept1 t w w') : Kept1 t a w' := (Kept1.of_below h).trans k
set_option maxRecDepth 100000 in
set_option maxHeartbeats 1000000 in
theorem outRaw_any (w : World) (t : Nat) (T : TypeId) (st : Option ByteArray) (v : Value) (l : List UInt8) (hl : l.length ≤ maxLen) (hv : BSrc w v l) (hne : ∀ a n c, v = .slice (some a) n c → a.block ≠ t) (h : Tape w t T st) :
    Calls Tryd.prog 50 #[.pointer (some ⟨t, 0, none⟩), v] w fun e w' => e = .returned (.tuple #[]) ∧ Tape w' t T (putM st ⟨l.toArray⟩) ∧ Kept1 t w w' := by
  obtain ⟨ad, cp, rfl⟩ := hv.shape
  have hlt := h.lt
  have H := Lib.hid h
  have HV := Lib.hid hv
  have HNE := Lib.hid hne
  have HLL := Lib.hid hl
  have R : Hid (∀ m : Bl w, Calls Tryd.prog 66 #[.pointer (some ⟨t, 0, none⟩)] m.wr fun e w' => e = .returned (.int .i64 (4096 - ((tapeB st).size : Int))) ∧ m.wr = w') := Lib.hid (fun m => room_any m.wr t T st (h.below m.below))
  unfold maxLen at hl
  clear h hv hne
  obtain ⟨b, hb⟩ : ∃ b, decide ((l.length : Int) ≤ 4096 - ((tapeB st).size : Int)) = b := ⟨_, rfl⟩
  have E0 : Hid (b = false → putM st ⟨l.toArray⟩ = none) := Lib.hid (fun e => by
    subst e
    have := of_decide_eq_false hb
    cases st with
    | none => rfl
    | some s => exact if_neg (by show ¬ s.size + l.toArray.size ≤ 4096; have e1 : tapeB (some s) = s := rfl; rw [e1] at this; simp; omega))
  go_enter Tryd.func50, Tryd.ntmps50
  go_wp2_with fail
  refine wp_region_quiet_tailB 8 (by kernel_rfl) (by kernel_rfl) ?_
  simp only [List.take_succ_cons, List.take_zero, List.drop_succ_cons, List.drop_zero]
  iterate 8 (go_big_quiet_step ((go_at_call 66; with_reducible exact Calls.quiet_b (.mono (R.out _) fun _ _ ⟨he, hw⟩ => ⟨he, hw ▸ Below.refl _ _⟩))))
  refine wpQuiet_nil ?_
  intro m
  go_wp2_with fail
  refine (must_any m.wr t T st b (H.out.below m.below)).mono ?_
  rintro e w1 ⟨rfl, ht, hk⟩
  have HB := Lib.hid (below_kept m.below hk)
  have HT := Lib.hid ht
  clear hk R ht hb
  cases b
  · go_wp2_with fail
    go_end0
    rw [E0.out (by trivial)]
    exact ⟨rfl, HT.out, HB.out⟩
  · cases st with
    | none =>
      go_wp2_with fail
      go_end0
      exact ⟨rfl, HT.out, HB.out⟩
    | some s =>
      have hcv := conv_bytes (HV.out.kept HB.out HNE.out)
      have P := Lib.hid (cput_any w1 t T (some s) ⟨l.toArray⟩ (by have := HLL.out; exact this) HT.out)
      simp only [Bool.true_and, Option.isSome_some]
      go_wp2_with (simp only [hcv])
      refine P.out.mono ?_
      rintro e w2 ⟨rfl, ht, hk⟩
      have HT2 := Lib.hid ht
      have HK2 := Lib.hid (HB.out.trans hk)
      clear hcv ht hk P
      go_wp2_with fail
      go_end0
      exact ⟨rfl, HT2.out, HK2.out⟩
set_option maxRecDepth 100000 in
set_option maxHeartbeats 1000000 in
theorem inRaw_any (w : World) (t : Nat) (T : TypeId) (st : Option ByteArray) (n : Int) (h : Tape w t T st) :
    Calls Tryd.prog 44 #[.pointer (some ⟨t, 0, none⟩), .int .i64 n] w fun e w' => ∃ v, e = .returned v ∧ BSrc w' v (takeM st n).1.data.toList ∧ Tape w' t T (takeM st n).2 ∧ Kept1 t w w' := by
  have N := Lib.hid (ctake_any w t T st n h)
  have hlt := h.lt
  clear h
  generalize takeM st n = r at *
  go_enter Tryd.func44, Tryd.ntmps44
  go_wp2_with fail
  refine N.out.mono ?_
  rintro e w2 ⟨rfl, ht, hk⟩
  obtain ⟨v, w3, hcv, hsrc, hb, _⟩ := conv_string w2 r.1
  have HT := Lib.hid (ht.below hb)
  have HK := Lib.hid (hk.trans (Kept1.of_below hb))
  have HS := Lib.hid hsrc
  clear ht hk N hb hsrc
  go_wp2_with fail
  go_ret
  exact ⟨v, rfl, HS.out, HT.out, HK.out⟩
set_option maxRecDepth 100000 in
set_option maxHeartbeats 1000000 in
theorem end_any (w : World) (t : Nat) (T : TypeId) (st : Option ByteArray) (h : Tape w t T st) :
    Calls Tryd.prog 51 #[.pointer (some ⟨t, 0, none⟩)] w fun e w' => ∃ v, e = .returned (.tuple #[v, .int .i64 (if st.isSome then 0 else 3)]) ∧ BSrc w' v (tapeB st).data.toList ∧ Below w.heap.size w w' := by
  have c0 := h.c0
  have c1 := h.c1
  have hlt := h.lt
  clear h
  go_enter Tryd.func51, Tryd.ntmps51
  cases st with
  | none =>
    go_wp2_with fail
    exact bodyPost_ret (v := .tuple #[.slice none 0 0, .int .i64 3]) (by simp [results, Tryd.results51, go_sem]) rfl ⟨_, rfl, .inl ⟨_, _, rfl, rfl⟩, Below.refl _ _⟩
  | some s =>
    obtain ⟨v, w3, hcv, hsrc, hb, _⟩ := conv_string w (tapeB (some s))
    have HS := Lib.hid hsrc
    have HB := Lib.hid hb
    clear hsrc hb
    go_wp2_with (simp only [hcv])
    exact bodyPost_ret (v := .tuple #[v, .int .i64 0]) (by simp [results, Tryd.results51, go_sem]) rfl ⟨_, rfl, HS.out, HB.out⟩
set_option maxRecDepth 100000 in
set_option maxHeartbeats 1000000 in
theorem read_any (w : World) (v : Value) (l : List UInt8) (hl : l.length ≤ maxLen) (hv : BSrc w v l) :
    Calls Tryd.prog 42 #[v] w fun e w' => e = .returned (.pointer (some ⟨w.heap.size, 0, none⟩)) ∧ Tape w' w.heap.size 112 (some ⟨l.toArray⟩) ∧ Below w.heap.size w w' := by
  have hcv := conv_bytes hv
  have HLL := Lib.hid hl
  obtain ⟨ad, cp, rfl⟩ := hv.shape
  clear hv hl
  go_enter Tryd.func42, Tryd.ntmps42
  go_wp2_with (simp only [hcv])
  go_ret
  exact ⟨rfl, ⟨heap_alloc_new _ _, fun s e => by cases e; have := HLL.out; exact this⟩, (Below.refl _ _).alloc (Nat.le_refl _) _⟩
end Go.Proofs.YtlhfdlfbnnfjjaaDoor
namespace Go.Proofs.YtlhfdlfbnnfjjaaDoor
open Go.RowKit

/-- a sector's head -/
structure Hd where
  n : Nat
  g : Nat
  p : Nat
  c : Nat
  l : Nat
deriving DecidableEq
def Hd.cells (h : Hd) : List Value := [.int .i64 (h.n : Int), .int .i64 (h.g : Int), .int .i64 (h.p : Int), .int .i64 (h.c : Int), .int .i64 (h.l : Int)]
set_option maxRecDepth 100000 in
theorem Hd.len (h : Hd) : h.cells.length = 5 := rfl
/-- how many parts so many bytes have -/
def nParts (n : Nat) : Nat := (n - 1) / 52 + 1
def partsI (n : Int) : Int := if n < 0 then 0 else ((nParts n.toNat : Nat) : Int)
set_option maxRecDepth 100000 in
theorem partsI_nat (n : Nat) : partsI (n : Int) = ((nParts n : Nat) : Int) := by unfold partsI; rw [if_neg (by omega)]; simp
set_option maxRecDepth 100000 in
theorem parts_any (w : World) (n : Int) (hn : n ≤ 9223372036854775807) : Calls Tryd.prog 23 #[.int .i64 n] w fun e w' => e = .returned (.int .i64 (partsI n)) ∧ w = w' := by
  by_cases h1 : n < 0
  · have hd : decide (n < 0) = true := by simpa using h1
    have hp : partsI n = 0 := by unfold partsI; rw [if_pos h1]
    go_enter Tryd.func23, Tryd.ntmps23
    go_wp2
    go_ret
    exact ⟨by rw [hp]; rfl, rfl⟩
  · have hd : decide (n < 0) = false := by simpa using h1
    by_cases h2 : n = 0
    · subst h2
      go_enter Tryd.func23, Tryd.ntmps23
      go_wp2
      go_ret
      exact ⟨rfl, rfl⟩
    · have hd2 : (n == 0) = false := by simpa using h2
      have hp : partsI n = (n - 1) / 52 + 1 := by unfold partsI nParts; rw [if_neg h1]; omega
      rw [hp]
      clear hp
      go_enter Tryd.func23, Tryd.ntmps23
      go_wp2
      go_ret
      exact ⟨rfl, rfl⟩

/-- whether a record of that number, and of that generation at least, may begin here -/
def begB (h : Hd) (num least : Int) : Bool := ((h.n : Int) == num) && (decide (least ≤ (h.g : Int)) && (decide ((1 : Int) ≤ (h.c : Int)) && decide ((h.c : Int) ≤ 79)))
set_option maxRecDepth 100000 in
theorem begins_any (w : World) (h : Hd) (num least : Int) :
    Calls Tryd.prog 45 #[.agg h.cells.toArray, .int .i64 num, .int .i64 least] w fun e w' => e = .returned (.bool (begB h num least)) ∧ Below w.heap.size w w' := by
  unfold begB Hd.cells
  obtain ⟨b1, e1⟩ : ∃ b, ((h.n : Int) == num) = b := ⟨_, rfl⟩
  obtain ⟨b2, e2⟩ : ∃ b, decide (least ≤ (h.g : Int)) = b := ⟨_, rfl⟩
  obtain ⟨b3, e3⟩ : ∃ b, decide ((1 : Int) ≤ (h.c : Int)) = b := ⟨_, rfl⟩
  obtain ⟨b4, e4⟩ : ∃ b, decide ((h.c : Int) ≤ 79) = b := ⟨_, rfl⟩
  rw [e1, e2, e3, e4]
  cases b1 <;> cases b2 <;> cases b3 <;> cases b4 <;>
  ( go_enter Tryd.func45, Tryd.ntmps45
    go_wp2
    go_ret
    exact ⟨rfl, (Below.refl _ _).alloc (Nat.le_refl _) _⟩)

/-- whether the part is as long as it may be -/
def fitsB (h : Hd) : Bool := if (h.p : Int) < (h.c : Int) - 1 then ((h.l : Int) == 52) else decide ((h.l : Int) ≤ 52)
set_option maxRecDepth 100000 in
theorem fits_any (w : World) (h : Hd) (hc : (h.c : Int) < 9223372036854775808) :
    Calls Tryd.prog 60 #[.agg h.cells.toArray] w fun e w' => e = .returned (.bool (fitsB h)) ∧ Below w.heap.size w w' := by
  by_cases h1 : (h.p : Int) < (h.c : Int) - 1
  · have hd : decide ((h.p : Int) < (h.c : Int) - 1) = true := by simpa using h1
    have hf : fitsB h = ((h.l : Int) == 52) := by unfold fitsB; rw [if_pos h1]
    rw [hf]
    unfold Hd.cells
    clear hf
    go_enter Tryd.func60, Tryd.ntmps60
    go_wp2
    go_ret
    exact ⟨rfl, (Below.refl _ _).alloc (Nat.le_refl _) _⟩
  · have hd : decide ((h.p : Int) < (h.c : Int) - 1) = false := by simpa using h1
    have hf : fitsB h = decide ((h.l : Int) ≤ 52) := by unfold fitsB; rw [if_neg h1]
    rw [hf]
    unfold Hd.cells
    clear hf
    go_enter Tryd.func60, Tryd.ntmps60
    go_wp2
    go_ret
    exact ⟨rfl, (Below.refl _ _).alloc (Nat.le_refl _) _⟩
end Go.Proofs.YtlhfdlfbnnfjjaaDoor
namespace Go.Proofs.YtlhfdlfbnnfjjaaDoor
open Go.RowKit

/-- turned right by n -/
def rotr (x : BitVec 32) (n : Nat) : BitVec 32 := x <<< (32 - n) ||| x >>> n

/-- turned right by three distances, put together -/
def trn (x : BitVec 32) (i j k : Nat) : BitVec 32 := rotr x i ^^^ rotr x j ^^^ rotr x k
/-- turned right by two distances, shifted by a third -/
def spr (x : BitVec 32) (i j k : Nat) : BitVec 32 := rotr x i ^^^ rotr x j ^^^ x >>> k

set_option maxRecDepth 100000 in
theorem bvt (x : BitVec 32) : BitVec.ofInt 32 (x.toNat : Int) = x := by
  apply BitVec.eq_of_toNat_eq; simp
set_option maxRecDepth 100000 in
theorem wrapu (x : BitVec 32) : IntKind.u32.wrap (x.toNat : Int) = x.toNat := by
  rw [IntKind.wrap_u32]; have := x.isLt; omega
set_option maxRecDepth 100000 in
theorem xor32 (x y : BitVec 32) : bits .xor .u32 (x.toNat : Int) (y.toNat : Int) = ((x ^^^ y).toNat : Int) := by
  show IntKind.u32.wrap ((BitVec.ofInt 32 (x.toNat : Int) ^^^ BitVec.ofInt 32 (y.toNat : Int)).toNat : Int) = _
  rw [bvt, bvt, wrapu]
set_option maxRecDepth 100000 in
theorem and32 (x y : BitVec 32) : bits .and .u32 (x.toNat : Int) (y.toNat : Int) = ((x &&& y).toNat : Int) := by
  show IntKind.u32.wrap ((BitVec.ofInt 32 (x.toNat : Int) &&& BitVec.ofInt 32 (y.toNat : Int)).toNat : Int) = _
  rw [bvt, bvt, wrapu]
set_option maxRecDepth 100000 in
theorem or32 (x y : BitVec 32) : bits .or .u32 (x.toNat : Int) (y.toNat : Int) = ((x ||| y).toNat : Int) := by
  show IntKind.u32.wrap ((BitVec.ofInt 32 (x.toNat : Int) ||| BitVec.ofInt 32 (y.toNat : Int)).toNat : Int) = _
  rw [bvt, bvt, wrapu]
set_option maxRecDepth 100000 in
theorem add32 (x y : BitVec 32) : IntKind.u32.wrap ((x.toNat : Int) + (y.toNat : Int)) = ((x + y).toNat : Int) := by
  rw [IntKind.wrap_u32, BitVec.toNat_add]; omega
set_option maxRecDepth 100000 in
theorem shr32 (x : BitVec 32) (n : Nat) : (x.toNat : Int) / 2 ^ n = ((x >>> n).toNat : Int) := by
  rw [BitVec.toNat_ushiftRight, Nat.shiftRight_eq_div_pow, Int.natCast_ediv, Int.natCast_pow]; rfl
set_option maxRecDepth 100000 in
theorem shl32 (x : BitVec 32) (n : Nat) : IntKind.u32.wrap ((x.toNat : Int) * 2 ^ n) = ((x <<< n).toNat : Int) := by
  rw [IntKind.wrap_u32, BitVec.toNat_shiftLeft, Nat.shiftLeft_eq, Int.natCast_emod, Int.natCast_mul, Int.natCast_pow]; rfl

set_option maxRecDepth 100000 in
theorem add32' (x y : BitVec 32) : ((x.toNat : Int) + (y.toNat : Int)) % 4294967296 = ((x + y).toNat : Int) := by
  rw [BitVec.toNat_add]; omega
set_option maxRecDepth 100000 in
theorem sum4 (a b c d : BitVec 32) : ((a.toNat : Int) + b.toNat + c.toNat + d.toNat) % 4294967296 = ((a + b + c + d).toNat : Int) := by
  rw [BitVec.toNat_add, BitVec.toNat_add, BitVec.toNat_add]; omega
set_option maxRecDepth 100000 in
theorem sum5 (a b c d e : BitVec 32) : ((a.toNat : Int) + b.toNat + c.toNat + d.toNat + e.toNat) % 4294967296 = ((a + b + c + d + e).toNat : Int) := by
  rw [BitVec.toNat_add, BitVec.toNat_add, BitVec.toNat_add, BitVec.toNat_add]; omega
set_option maxRecDepth 100000 in
theorem shl32' (x : BitVec 32) (n : Nat) : (x.toNat : Int) * 2 ^ n % 4294967296 = ((x <<< n).toNat : Int) := by
  rw [← shl32, IntKind.wrap_u32]
set_option maxRecDepth 100000 in
theorem not32 (x : BitVec 32) : 4294967295 - (x.toNat : Int) = ((~~~ x).toNat : Int) := by
  rw [BitVec.toNat_not]; have := x.isLt; omega

/-- four bytes, the most significant first -/
def be32 (a b c d : UInt8) : BitVec 32 := BitVec.ofNat 32 a.toNat <<< 24 ||| BitVec.ofNat 32 b.toNat <<< 16 ||| BitVec.ofNat 32 c.toNat <<< 8 ||| BitVec.ofNat 32 d.toNat
set_option maxRecDepth 100000 in
theorem byte32 (c : UInt8) : (c.toNat : Int) % 4294967296 = ((BitVec.ofNat 32 c.toNat).toNat : Int) := by
  rw [BitVec.toNat_ofNat]; have := c.toNat_lt; omega
set_option maxRecDepth 100000 in
theorem be32_eq (a b c d : UInt8) :
    bits BinOp.or IntKind.u32 (bits BinOp.or IntKind.u32 (bits BinOp.or IntKind.u32 ((a.toNat : Int) % 4294967296 * 16777216 % 4294967296) ((b.toNat : Int) % 4294967296 * 65536 % 4294967296)) ((c.toNat : Int) % 4294967296 * 256 % 4294967296)) ((d.toNat : Int) % 4294967296) = ((be32 a b c d).toNat : Int) := by
  rw [byte32, byte32, byte32, byte32]
  rw [show (16777216 : Int) = 2 ^ 24 by decide, show (65536 : Int) = 2 ^ 16 by decide, show (256 : Int) = 2 ^ 8 by decide, shl32', shl32', shl32', or32, or32, or32]; rfl
/-- the k-th byte of a word, the most significant first -/
def byteOf (x : BitVec 32) (k : Nat) : UInt8 := UInt8.ofNat (x.toNat / 2 ^ (24 - 8 * k))

set_option maxRecDepth 100000 in
theorem byteOf0 (x : BitVec 32) : ((byteOf x 0).toNat : Int) = (x.toNat : Int) / 16777216 := by
  have := x.isLt; simp only [byteOf, UInt8.toNat_ofNat']; omega
set_option maxRecDepth 100000 in
theorem byteOf1 (x : BitVec 32) : ((byteOf x 1).toNat : Int) = (x.toNat : Int) / 65536 % 256 := by
  simp only [byteOf, UInt8.toNat_ofNat']; omega
set_option maxRecDepth 100000 in
theorem byteOf2 (x : BitVec 32) : ((byteOf x 2).toNat : Int) = (x.toNat : Int) / 256 % 256 := by
  simp only [byteOf, UInt8.toNat_ofNat']; omega
set_option maxRecDepth 100000 in
theorem byteOf3 (x : BitVec 32) : ((byteOf x 3).toNat : Int) = (x.toNat : Int) % 256 := by
  simp only [byteOf, UInt8.toNat_ofNat']; omega

set_option maxRecDepth 100000 in
theorem and31 (n : Nat) (h1 : 1 ≤ n) (h2 : n ≤ 31) : bits .and .u64 (IntKind.u64.wrap (-(n : Int))) 31 = ((32 - n : Nat) : Int) := by
  have : n = 1 ∨ n = 2 ∨ n = 3 ∨ n = 4 ∨ n = 5 ∨ n = 6 ∨ n = 7 ∨ n = 8 ∨ n = 9 ∨ n = 10 ∨ n = 11 ∨ n = 12 ∨ n = 13 ∨ n = 14 ∨ n = 15 ∨ n = 16 ∨ n = 17 ∨ n = 18 ∨ n = 19 ∨ n = 20 ∨ n = 21 ∨ n = 22 ∨ n = 23 ∨ n = 24 ∨ n = 25 ∨ n = 26 ∨ n = 27 ∨ n = 28 ∨ n = 29 ∨ n = 30 ∨ n = 31 := by omega
  rcases this with h|h|h|h|h|h|h|h|h|h|h|h|h|h|h|h|h|h|h|h|h|h|h|h|h|h|h|h|h|h|h <;> subst h <;> decide +kernel
end Go.Proofs.YtlhfdlfbnnfjjaaDoor
