/- The order of values that are no bags; What a call leaves alone: every block but one, or every old block. No program is named here. -/
import Derived.Test.YtllgodaphoncnaaGreatDoorJ01
import Derived.Test.YtllgodaphoncnaaGreatDoorJ02
import Derived.WalkKit
import Derived.WalkSmall
import Derived.Deep.MidRow
import Derived.Deep.Draws
import Derived.Deep.QuietTactic
import Derived.Lib.Hide
namespace Go.Proofs.YtllgodaphoncnaaGreatDoor
open Go.RowKit

set_option maxRecDepth 100000 in
theorem nanI_any (a : Int) (w : World) : Calls Tryz.prog 186 #[.int .i64 a] w fun e w' => e = .returned (.bool false) ∧ w = w' := by
  go_enter Tryz.func186, Tryz.ntmps186
  go_wp2
  go_ret
  exact ⟨rfl, rfl⟩
set_option maxRecDepth 100000 in
theorem nanK_any (a : Int) (w : World) : Calls Tryz.prog 185 #[.int .i64 a] w fun e w' => e = .returned (.bool false) ∧ w = w' := by
  go_enter Tryz.func185, Tryz.ntmps185
  go_wp2
  go_ret
  exact ⟨rfl, rfl⟩
set_option maxRecDepth 100000 in
theorem nanS_any (a : ByteArray) (w : World) : Calls Tryz.prog 187 #[.string a] w fun e w' => e = .returned (.bool false) ∧ w = w' := by
  go_enter Tryz.func187, Tryz.ntmps187
  go_wp2
  go_ret
  exact ⟨rfl, rfl⟩
set_option maxRecDepth 100000 in
theorem cmpI_any (a b : Int) (w : World) : Calls Tryz.prog 177 #[.int .i64 a, .int .i64 b] w fun e w' => e = .returned (.int .i64 (cmpI a b)) ∧ w = w' := by
  go_enter Tryz.func177, Tryz.ntmps177
  go_wp2_with (go_at_call 186; refine (nanI_any _ _).mono ?_; rintro e w' ⟨rfl, rfl⟩)
  all_goals
    go_ret
    exact ⟨vret_int (by unfold cmpI; (repeat split) <;> omega), rfl⟩
set_option maxRecDepth 100000 in
theorem cmpK_any (a b : Int) (w : World) : Calls Tryz.prog 176 #[.int .i64 a, .int .i64 b] w fun e w' => e = .returned (.int .i64 (cmpI a b)) ∧ w = w' := by
  go_enter Tryz.func176, Tryz.ntmps176
  go_wp2_with (go_at_call 185; refine (nanK_any _ _).mono ?_; rintro e w' ⟨rfl, rfl⟩)
  all_goals
    go_ret
    exact ⟨vret_int (by unfold cmpI; (repeat split) <;> omega), rfl⟩
set_option maxRecDepth 100000 in
theorem numbers_any (a b : Int) (w : World) : Calls Tryz.prog 115 #[.int .i64 a, .int .i64 b] w fun e w' => e = .returned (.int .i64 (cmpI a b)) ∧ w = w' := by
  go_enter Tryz.func115, Tryz.ntmps115
  go_wp2
  all_goals
    go_ret
    exact ⟨vret_int (by unfold cmpI; (repeat split) <;> omega), rfl⟩
/-- texts, compared by their bytes -/
def cmpS (a b : ByteArray) : Int := cmpT a.data.toList b.data.toList
set_option maxRecDepth 100000 in
theorem cmpS_lt {a b : ByteArray} (h : Op.bytesLess a.toList b.toList = true) : -1 = cmpS a b := by
  rw [ByteArray.toList_eq, ByteArray.toList_eq, less_cmpT] at h; exact (of_decide_eq_true h).symm
set_option maxRecDepth 100000 in
theorem cmpS_gt {a b : ByteArray} (h : Op.bytesLess a.toList b.toList = false) (h' : (!a.toList == b.toList) = true) : 1 = cmpS a b := by
  rw [ByteArray.toList_eq, ByteArray.toList_eq] at h h'
  rw [less_cmpT] at h
  rw [eq_cmpT] at h'
  have := cmpT_range a.data.toList b.data.toList
  simp at h h'
  unfold cmpS; omega
set_option maxRecDepth 100000 in
theorem cmpS_eq {a b : ByteArray} (h' : (!a.toList == b.toList) = false) : 0 = cmpS a b := by
  rw [ByteArray.toList_eq, ByteArray.toList_eq, eq_cmpT] at h'
  simp at h'
  unfold cmpS; omega
set_option maxRecDepth 100000 in
theorem cmpS_any (a b : ByteArray) (w : World) : Calls Tryz.prog 178 #[.string a, .string b] w fun e w' => e = .returned (.int .i64 (cmpS a b)) ∧ w = w' := by
  go_enter Tryz.func178, Tryz.ntmps178
  go_wp2_with (go_at_call 187; refine (nanS_any _ _).mono ?_; rintro e w' ⟨rfl, rfl⟩)
  all_goals
    go_ret
    first
      | exact ⟨vret_int (cmpS_lt ‹_›), rfl⟩
      | exact ⟨vret_int (cmpS_gt ‹_› ‹_›), rfl⟩
      | exact ⟨vret_int (cmpS_eq ‹_›), rfl⟩
set_option maxRecDepth 100000 in
theorem cmpS_step (a b : ByteArray) (k : Nat) (hx : k < a.size) (hy : k < b.size) :
    cmpT (a.data.toList.drop k) (b.data.toList.drop k) = if a[k].toNat < b[k].toNat then -1 else if b[k].toNat < a[k].toNat then 1 else cmpT (a.data.toList.drop (k + 1)) (b.data.toList.drop (k + 1)) := by
  rw [cmpT_step a.data.toList b.data.toList k (by simpa using hx) (by simpa using hy)]
  simp only [UInt8.lt_iff_toNat_lt]
  rfl
set_option maxRecDepth 100000 in
theorem cmpS_end (a b : ByteArray) (k : Nat) (hx : k ≤ a.size) (hy : k ≤ b.size) (h : k = a.size ∨ k = b.size) : cmpT (a.data.toList.drop k) (b.data.toList.drop k) = cmpI a.size b.size := by
  have := cmpT_end a.data.toList b.data.toList k (by simpa using hx) (by simpa using hy) (by simpa using h)
  simpa using this
set_option maxRecDepth 100000 in
set_option maxHeartbeats 400000 in
theorem texts_any (a b : ByteArray) (w : World) (ha : a.size ≤ maxLen) (hb : b.size ≤ maxLen) : Calls Tryz.prog 116 #[.string a, .string b] w fun e w' => e = .returned (.int .i64 (cmpS a b)) ∧ Below w.heap.size w w' := by
  have ha' := ha
  have hb' := hb
  clear ha hb
  unfold maxLen at ha' hb'
  go_enter Tryz.func116, Tryz.ntmps116
  go_wp2
  go_loopw [5] (fun i wr => ∃ k : Nat, k ≤ a.size ∧ k ≤ b.size ∧ i = .int .i64 k ∧ Hid (cmpS a b = cmpT (a.data.toList.drop k) (b.data.toList.drop k)) ∧ Below w.heap.size w wr) (fun i _ => a.size - (intOf i).toNat)
  case atStart => exact ⟨0, by omega, by omega, rfl, Lib.hid rfl, Below.refl _ _⟩
  case round =>
    obtain ⟨k, hka, hkb, rfl, HC, hbw⟩ := hrel
    have HB := Lib.hid hbw
    clear hbw
    by_cases hlt : k < a.size
    · by_cases hlb : k < b.size
      · have hst := cmpS_step a b k hlt hlb
        have HST := Lib.hid hst
        clear hst
        by_cases h1 : a[k].toNat < b[k].toNat
        · go_wp2_with fail
          go_quiet (fail)
          go_wp2_with fail
          go_ret
          exact ⟨vret_int (by rw [HC.out, HST.out, if_pos h1]), below_drewN HB.out _⟩
        · by_cases h2 : b[k].toNat < a[k].toNat
          · go_wp2_with fail
            go_quiet (fail)
            go_wp2_with fail
            go_quiet (fail)
            go_wp2_with fail
            go_ret
            exact ⟨vret_int (by rw [HC.out, HST.out, if_neg h1, if_pos h2]), below_drewN (below_drewN HB.out _) _⟩
          · go_wp2_with fail
            go_quiet (fail)
            go_wp2_with fail
            go_quiet (fail)
            go_wp2_with fail
            go_roundw
            case rel => exact ⟨k + 1, by omega, by omega, by go_num, Lib.hid (by rw [HC.out, HST.out, if_neg h1, if_neg h2]), below_drewN HB.out _⟩
            case measure => simp [intOf]; omega
      · have hend := cmpS_end a b k (by omega) (by omega) (by omega)
        have HE := Lib.hid hend
        clear hend
        go_wp2
        all_goals
          go_ret
          exact ⟨vret_int (by rw [HC.out, HE.out]; unfold cmpI; (repeat split) <;> omega), HB.out⟩
    · have hend := cmpS_end a b k (by omega) (by omega) (by omega)
      have HE := Lib.hid hend
      clear hend
      go_wp2
      all_goals
        go_ret
        exact ⟨vret_int (by rw [HC.out, HE.out]; unfold cmpI; (repeat split) <;> omega), HB.out⟩

/-- the order of two values, as the program has it within bags -/
def ordA (k1 i1 : Int) (s1 : ByteArray) (k2 i2 : Int) (s2 : ByteArray) : Int :=
  if (k1 != k2) = true then cmpI k1 k2 else if k1 = 1 ∨ k1 = 2 ∨ k1 = 4 then cmpI i1 i2 else if k1 = 3 then cmpS s1 s2 else 0
/-- the order of two values that are no bags, as the document has it -/
def ordS (k1 i1 : Int) (s1 : ByteArray) (k2 i2 : Int) (s2 : ByteArray) : Int :=
  if (k1 != k2) = true then cmpI k1 k2 else if k1 = 3 then cmpS s1 s2 else cmpI i1 i2
set_option maxRecDepth 100000 in
set_option maxHeartbeats 400000 in
theorem orderAlone_any (k1 i1 : Int) (s1 : ByteArray) (a1 : Option Addr) (n1 c1 : Nat) (k2 i2 : Int) (s2 : ByteArray) (a2 : Option Addr) (n2 c2 : Nat) (w : World) :
    Calls Tryz.prog 168 #[V k1 i1 s1 a1 n1 c1, V k2 i2 s2 a2 n2 c2] w fun e w' => e = .returned (.int .i64 (ordA k1 i1 s1 k2 i2 s2)) ∧ Below w.heap.size w w' := by
  go_enter Tryz.func168, Tryz.ntmps168
  go_wp2_with (first
    | (go_at_call 176; refine (cmpK_any _ _ _).mono ?_; rintro e w' ⟨rfl, rfl⟩)
    | (go_at_call 177; refine (cmpI_any _ _ _).mono ?_; rintro e w' ⟨rfl, rfl⟩)
    | (go_at_call 178; refine (cmpS_any _ _ _).mono ?_; rintro e w' ⟨rfl, rfl⟩))
  all_goals
    go_ret
    refine ⟨vret_int ?_, ((Below.refl _ _).alloc (Nat.le_refl _) _).alloc (by simp) _⟩
    unfold ordA
    simp_all
set_option maxRecDepth 100000 in
set_option maxHeartbeats 400000 in
theorem single_any (k1 i1 : Int) (s1 : ByteArray) (a1 : Option Addr) (n1 c1 : Nat) (k2 i2 : Int) (s2 : ByteArray) (a2 : Option Addr) (n2 c2 : Nat) (w : World) (h1 : s1.size ≤ maxLen) (h2 : s2.size ≤ maxLen) :
    Calls Tryz.prog 83 #[V k1 i1 s1 a1 n1 c1, V k2 i2 s2 a2 n2 c2] w fun e w' => e = .returned (.int .i64 (ordS k1 i1 s1 k2 i2 s2)) ∧ Below w.heap.size w w' := by
  have H1 := Lib.hid h1
  have H2 := Lib.hid h2
  clear h1 h2
  go_enter Tryz.func83, Tryz.ntmps83
  have hb0 : ∀ w' a b, Below ((w.alloc a).alloc b).heap.size ((w.alloc a).alloc b) w' → Below w.heap.size w w' := fun w' a b h => (((Below.refl _ _).alloc (Nat.le_refl _) _).alloc (by simp) _).trans (h.mono (by simp; omega))
  have HB0 := Lib.hid hb0
  clear hb0
  go_wp2_with (first
    | (go_at_call 115; refine (numbers_any _ _ _).mono ?_; rintro e w' ⟨rfl, rfl⟩)
    | (go_at_call 116; refine (texts_any _ _ _ H1.out H2.out).mono ?_; rintro e w' ⟨rfl, hb⟩))
  all_goals
    go_ret
    refine ⟨vret_int ?_, by first | exact HB0.out _ _ _ hb | exact HB0.out _ _ _ (Below.refl _ _)⟩
    unfold ordS
    simp_all
end Go.Proofs.YtllgodaphoncnaaGreatDoor
namespace Go.Proofs.YtllgodaphoncnaaGreatDoor
open Go.RowKit

/-- every old block but b is as it was -/
structure Kept1 (b : Nat) (w w' : World) : Prop where
  os : w'.os = w.os
  tape : w'.tape = w.tape
  output : w'.output = w.output
  size : w.heap.size ≤ w'.heap.size
  block : ∀ k, k < w.heap.size → k ≠ b → w'.heap[k]? = w.heap[k]?

set_option maxRecDepth 100000 in
theorem Kept1.refl (b : Nat) (w : World) : Kept1 b w w := ⟨rfl, rfl, rfl, Nat.le_refl _, fun _ _ _ => rfl⟩
set_option maxRecDepth 100000 in
theorem Kept1.trans {b : Nat} {a w w' : World} (h : Kept1 b a w) (k : Kept1 b w w') : Kept1 b a w' :=
  ⟨k.os.trans h.os, k.tape.trans h.tape, k.output.trans h.output, Nat.le_trans h.size k.size, fun i hi hb => (k.block i (Nat.lt_of_lt_of_le hi h.size) hb).trans (h.block i hi hb)⟩
set_option maxRecDepth 100000 in
theorem Kept1.of_below {b : Nat} {a w : World} (h : Below a.heap.size a w) : Kept1 b a w := ⟨h.os, h.tape, h.output, h.size, fun k hk _ => h.block k hk⟩
set_option maxRecDepth 100000 in
theorem Kept1.drewN {b : Nat} {a w : World} (h : Kept1 b a w) (n : Nat) : Kept1 b a (w.drewN n) := ⟨h.os, h.tape, h.output, h.size, h.block⟩
set_option maxRecDepth 100000 in
theorem Kept1.drew {b : Nat} {a w : World} (h : Kept1 b a w) : Kept1 b a w.drew := ⟨h.os, h.tape, h.output, h.size, h.block⟩
set_option maxRecDepth 100000 in
theorem Kept1.alloc {b : Nat} {a w : World} (h : Kept1 b a w) (o : Obj) : Kept1 b a (w.alloc o) :=
  h.trans (.of_below ((Below.refl _ _).alloc (Nat.le_refl _) o))
set_option maxRecDepth 100000 in
theorem Kept1.setCell {b : Nat} {a w : World} (h : Kept1 b a w) (p : Addr) (hp : p.block = b ∨ a.heap.size ≤ p.block) (u : Value) : Kept1 b a (w.setCell p u) :=
  ⟨h.os, h.tape, h.output, by simpa [World.setCell] using h.size, fun k hk hb => (Below.heap_setCell w p u k (by rcases hp with hp | hp <;> omega)).trans (h.block k hk hb)⟩
set_option maxRecDepth 100000 in
theorem Kept1.setCells {b : Nat} {a : World} (g : Nat) (hp : g = b ∨ a.heap.size ≤ g) : ∀ (vs : List Value) (o : Nat) {w : World}, Kept1 b a w → Kept1 b a (w.setCells g o vs)
  | [], _, _, h => h
  | v :: vs, o, _, h => Kept1.setCells g hp vs (o + 1) (h.setCell ⟨g, o, none⟩ hp v)
set_option maxRecDepth 100000 in
theorem Kept1.setRow {b : Nat} {a w : World} (h : Kept1 b a w) (g : Nat) (hp : g = b ∨ a.heap.size ≤ g) (cs : Array Value) : Kept1 b a (w.setRow g cs) :=
  ⟨h.os, h.tape, h.output, by simpa using h.size, fun k hk hb => by
    refine Eq.trans ?_ (h.block k hk hb)
    have : k ≠ g := by rcases hp with hp | hp <;> omega
    simp [World.setRow, Array.getElem?_modify, Ne.symm this]⟩
set_option maxRecDepth 100000 in
theorem Kept1.cell {b : Nat} {w w' : World} (h : Kept1 b w w') {p : Addr} (hp : p.block < w.heap.size) (hb : p.block ≠ b) : w'.cell? p = w.cell? p := World.cell?_of_block (w := w) (h.block p.block hp hb)
set_option maxRecDepth 100000 in
/-- a block that is new is all that was turned -/
theorem Kept1.below {b : Nat} {a w : World} (h : Kept1 b a w) (hb : a.heap.size ≤ b) : Below a.heap.size a w :=
  ⟨h.os, h.tape, h.output, h.size, fun k hk => h.block k hk (by omega)⟩
set_option maxRecDepth 100000 in
theorem Kept1.mono {b : Nat} {a w w' : World} (h : Below a.heap.size a w) (k : Kept1 b w w') (hb : a.heap.size ≤ b) : Below a.heap.size a w' :=
  ⟨k.os.trans h.os, k.tape.trans h.tape, k.output.trans h.output, Nat.le_trans h.size k.size, fun i hi => (k.block i (Nat.lt_of_lt_of_le hi h.size) (by omega)).trans (h.block i hi)⟩

set_option maxRecDepth 100000 in
/-- a callee that leaves the world as it was, met in a quiet region -/
theorem Calls.quiet_w {P : Program} {f : FuncId} {args : Array Value} {w : World} {n : Nat} {v : Value}
    (h : Calls P f args (w.drewN n) fun e w' => e = .returned v ∧ w.drewN n = w') : Calls P f args (w.drewN n) fun e w'' => e = .returned v ∧ ∃ m, w'' = w.drewN m :=
  h.mono fun _ _ ⟨he, hm⟩ => ⟨he, n, hm.symm⟩

/-- bytes, as cells -/
abbrev B (c : UInt8) : Value := .int .u8 (c.toNat : Int)
/-- words, as cells -/
abbrev W (x : BitVec 32) : Value := .int .u32 (x.toNat : Int)

set_option maxRecDepth 100000 in
theorem cell_block {w : World} {g : Nat} {C : Array Value} {t : TypeId} {fr : Nat × Nat} (h : w.heap[g]? = some (.cells C t fr)) (j : Nat) : w.cell? ⟨g, j, none⟩ = C[j]? := cell_of_row w g j C t fr h
set_option maxRecDepth 100000 in
theorem lt_block {w : World} {g : Nat} {o : Obj} (h : w.heap[g]? = some o) : g < w.heap.size := by
  rcases Nat.lt_or_ge g w.heap.size with k | k
  · exact k
  · rw [Array.getElem?_eq_none (by omega)] at h; cases h

/-- a list with vs written over it from o on -/
def over (L : List Value) (o : Nat) (vs : List Value) : List Value := L.take o ++ (vs ++ L.drop (o + vs.length))
set_option maxRecDepth 100000 in
theorem length_over (L : List Value) (o : Nat) (vs : List Value) (h : o + vs.length ≤ L.length) : (over L o vs).length = L.length := by simp [over]; omega
set_option maxRecDepth 100000 in
theorem set_over (L : List Value) (o : Nat) (v : Value) (vs : List Value) (h : o + (vs.length + 1) ≤ L.length) : over (L.set o v) (o + 1) vs = over L o (v :: vs) := by
  apply List.ext_getElem?
  intro i
  simp only [over, List.getElem?_append, List.length_take, List.length_set, List.getElem?_take, List.getElem?_set, List.getElem?_drop, List.length_cons, List.cons_append, List.getElem?_cons]
  grind

set_option maxRecDepth 100000 in
theorem heap_setCells (g : Nat) (t : TypeId) : ∀ (vs : List Value) (o : Nat) (L : List Value) (w : World), w.heap[g]? = some (.cells L.toArray t (0, 0)) → o + vs.length ≤ L.length →
    (w.setCells g o vs).heap[g]? = some (.cells (over L o vs).toArray t (0, 0))
  | [], o, L, w, h, _ => by simpa [World.setCells, over] using h
  | v :: vs, o, L, w, h, hl => by
    have h1 : (w.setCell ⟨g, o, none⟩ v).heap[g]? = some (.cells (L.set o v).toArray t (0, 0)) := by
      rw [heap_setCell_same w g o L.toArray t v h]; simp
    have := heap_setCells g t vs (o + 1) (L.set o v) _ h1 (by simp at hl ⊢; omega)
    rw [set_over L o v vs (by simpa using hl)] at this
    simpa [World.setCells] using this
end Go.Proofs.YtllgodaphoncnaaGreatDoor
