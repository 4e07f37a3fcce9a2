/- What a call leaves alone: every block but one, or every old block. No program is named here; Structs that are built of parts which are lists. No program is named here; The small functions of package value, each by its contract. -/
import Derived.WalkKit
import Derived.WalkSmall
import Derived.Deep.MidRow
import Derived.Deep.Draws
import Derived.Deep.QuietTactic
import Derived.Lib.Hide
import Derived.Test.YtlhfdlfbnnfjjaaDoorProg
import Derived.WalkSpells
import Derived.WalkLawsBesides
import Derived.BigQuiet
namespace Go.Proofs.YtlhfdlfbnnfjjaaDoor
open Go.RowKit

/-- every old block but b is as it was -/
structure Kept1 (b : Nat) (w w' : World) : Prop where
  os : w'.os = w.os
  tape : w'.tape = w.tape
  output : w'.output = w.output
  size : w.heap.size ≤ w'.heap.size
  block : ∀ k, k < w.heap.size → k ≠ b → w'.heap[k]? = w.heap[k]?

set_option maxRecDepth 100000 in
theorem Kept1.refl (b : Nat) (w : World) : Kept1 b w w := ⟨rfl, rfl, rfl, Nat.le_refl _, fun _ _ _ => rfl⟩
set_option maxRecDepth 100000 in
theorem Kept1.trans {b : Nat} {a w w' : World} (h : Kept1 b a w) (k : Kept1 b w w') : Kept1 b a w' :=
  ⟨k.os.trans h.os, k.tape.trans h.tape, k.output.trans h.output, Nat.le_trans h.size k.size, fun i hi hb => (k.block i (Nat.lt_of_lt_of_le hi h.size) hb).trans (h.block i hi hb)⟩
set_option maxRecDepth 100000 in
theorem Kept1.of_below {b : Nat} {a w : World} (h : Below a.heap.size a w) : Kept1 b a w := ⟨h.os, h.tape, h.output, h.size, fun k hk _ => h.block k hk⟩
set_option maxRecDepth 100000 in
theorem Kept1.drewN {b : Nat} {a w : World} (h : Kept1 b a w) (n : Nat) : Kept1 b a (w.drewN n) := ⟨h.os, h.tape, h.output, h.size, h.block⟩
set_option maxRecDepth 100000 in
theorem Kept1.drew {b : Nat} {a w : World} (h : Kept1 b a w) : Kept1 b a w.drew := ⟨h.os, h.tape, h.output, h.size, h.block⟩
set_option maxRecDepth 100000 in
theorem Kept1.alloc {b : Nat} {a w : World} (h : Kept1 b a w) (o : Obj) : Kept1 b a (w.alloc o) :=
  h.trans (.of_below ((Below.refl _ _).alloc (Nat.le_refl _) o))
set_option maxRecDepth 100000 in
theorem Kept1.setCell {b : Nat} {a w : World} (h : Kept1 b a w) (p : Addr) (hp : p.block = b ∨ a.heap.size ≤ p.block) (u : Value) : Kept1 b a (w.setCell p u) :=
  ⟨h.os, h.tape, h.output, by simpa [World.setCell] using h.size, fun k hk hb => (Below.heap_setCell w p u k (by rcases hp with hp | hp <;> omega)).trans (h.block k hk hb)⟩
set_option maxRecDepth 100000 in
theorem Kept1.setCells {b : Nat} {a : World} (g : Nat) (hp : g = b ∨ a.heap.size ≤ g) : ∀ (vs : List Value) (o : Nat) {w : World}, Kept1 b a w → Kept1 b a (w.setCells g o vs)
  | [], _, _, h => h
  | v :: vs, o, _, h => Kept1.setCells g hp vs (o + 1) (h.setCell ⟨g, o, none⟩ hp v)
set_option maxRecDepth 100000 in
theorem Kept1.setRow {b : Nat} {a w : World} (h : Kept1 b a w) (g : Nat) (hp : g = b ∨ a.heap.size ≤ g) (cs : Array Value) : Kept1 b a (w.setRow g cs) :=
  ⟨h.os, h.tape, h.output, by simpa using h.size, fun k hk hb => by
    refine Eq.trans ?_ (h.block k hk hb)
    have : k ≠ g := by rcases hp with hp | hp <;> omega
    simp [World.setRow, Array.getElem?_modify, Ne.symm this]⟩
set_option maxRecDepth 100000 in
theorem Kept1.cell {b : Nat} {w w' : World} (h : Kept1 b w w') {p : Addr} (hp : p.block < w.heap.size) (hb : p.block ≠ b) : w'.cell? p = w.cell? p := World.cell?_of_block (w := w) (h.block p.block hp hb)
set_option maxRecDepth 100000 in
/-- a block that is new is all that was turned -/
theorem Kept1.below {b : Nat} {a w : World} (h : Kept1 b a w) (hb : a.heap.size ≤ b) : Below a.heap.size a w :=
  ⟨h.os, h.tape, h.output, h.size, fun k hk => h.block k hk (by omega)⟩
set_option maxRecDepth 100000 in
theorem Kept1.mono {b : Nat} {a w w' : World} (h : Below a.heap.size a w) (k : Kept1 b w w') (hb : a.heap.size ≤ b) : Below a.heap.size a w' :=
  ⟨k.os.trans h.os, k.tape.trans h.tape, k.output.trans h.output, Nat.le_trans h.size k.size, fun i hi => (k.block i (Nat.lt_of_lt_of_le hi h.size) (by omega)).trans (h.block i hi)⟩

set_option maxRecDepth 100000 in
/-- a callee that leaves the world as it was, met in a quiet region -/
theorem Calls.quiet_w {P : Program} {f : FuncId} {args : Array Value} {w : World} {n : Nat} {v : Value}
    (h : Calls P f args (w.drewN n) fun e w' => e = .returned v ∧ w.drewN n = w') : Calls P f args (w.drewN n) fun e w'' => e = .returned v ∧ ∃ m, w'' = w.drewN m :=
  h.mono fun _ _ ⟨he, hm⟩ => ⟨he, n, hm.symm⟩

/-- bytes, as cells -/
abbrev B (c : UInt8) : Value := .int .u8 (c.toNat : Int)
/-- words, as cells -/
abbrev W (x : BitVec 32) : Value := .int .u32 (x.toNat : Int)

set_option maxRecDepth 100000 in
theorem cell_block {w : World} {g : Nat} {C : Array Value} {t : TypeId} {fr : Nat × Nat} (h : w.heap[g]? = some (.cells C t fr)) (j : Nat) : w.cell? ⟨g, j, none⟩ = C[j]? := cell_of_row w g j C t fr h
set_option maxRecDepth 100000 in
theorem lt_block {w : World} {g : Nat} {o : Obj} (h : w.heap[g]? = some o) : g < w.heap.size := by
  rcases Nat.lt_or_ge g w.heap.size with k | k
  · exact k
  · rw [Array.getElem?_eq_none (by omega)] at h; cases h

/-- a list with vs written over it from o on -/
def over (L : List Value) (o : Nat) (vs : List Value) : List Value := L.take o ++ (vs ++ L.drop (o + vs.length))
set_option maxRecDepth 100000 in
theorem length_over (L : List Value) (o : Nat) (vs : List Value) (h : o + vs.length ≤ L.length) : (over L o vs).length = L.length := by simp [over]; omega
set_option maxRecDepth 100000 in
theorem set_over (L : List Value) (o : Nat) (v : Value) (vs : List Value) (h : o + (vs.length + 1) ≤ L.length) : over (L.set o v) (o + 1) vs = over L o (v :: vs) := by
  apply List.ext_getElem?
  intro i
  simp only [over, List.getElem?_append, List.length_take, List.length_set, List.getElem?_take, List.getElem?_set, List.getElem?_drop, List.length_cons, List.cons_append, List.getElem?_cons]
  grind

set_option maxRecDepth 100000 in
theorem heap_setCells (g : Nat) (t : TypeId) : ∀ (vs : List Value) (o : Nat) (L : List Value) (w : World), w.heap[g]? = some (.cells L.toArray t (0, 0)) → o + vs.length ≤ L.length →
    (w.setCells g o vs).heap[g]? = some (.cells (over L o vs).toArray t (0, 0))
  | [], o, L, w, h, _ => by simpa [World.setCells, over] using h
  | v :: vs, o, L, w, h, hl => by
    have h1 : (w.setCell ⟨g, o, none⟩ v).heap[g]? = some (.cells (L.set o v).toArray t (0, 0)) := by
      rw [heap_setCell_same w g o L.toArray t v h]; simp
    have := heap_setCells g t vs (o + 1) (L.set o v) _ h1 (by simp at hl ⊢; omega)
    rw [set_over L o v vs (by simpa using hl)] at this
    simpa [World.setCells] using this
end Go.Proofs.YtlhfdlfbnnfjjaaDoor
namespace Go.Proofs.YtlhfdlfbnnfjjaaDoor
open Go.RowKit

section
variable {P : Program} {ops : Array Oper} {o : Oper} {a : Act} {w : World} {K : Act → World → Prop} {Q : Exit → Act → World → Prop} {E : Prop}
set_option maxRecDepth 100000 in
theorem step_run (hgd : o.guard = none) (v : Value) (w' : World) (hr : (execOp a.eval o).run P w = .ok (.value v) w') (k : K (a.put o.dst v) w') : if Region.wanted o (yielded ops a.tmps) = true then Oper.wp P o a w K Q else E := by
  rw [if_pos (by simp [Region.wanted, hgd])]
  unfold Oper.wp
  rw [hr]
  exact k
set_option maxRecDepth 100000 in
theorem step_skip (hgd : o.guard = none) (w' : World) (hr : (execOp a.eval o).run P w = .ok .skip w') (k : K (a.put o.dst undef) w') : if Region.wanted o (yielded ops a.tmps) = true then Oper.wp P o a w K Q else E := by
  rw [if_pos (by simp [Region.wanted, hgd])]
  unfold Oper.wp
  rw [hr]
  exact k
set_option maxRecDepth 100000 in
theorem run_load_op (ty : TypeId) (x : Operand) (ho : o.op = .load ty x) (b off : Nat) (hx : a.eval x = .pointer (some ⟨b, off, none⟩)) (cs : List Value) (d : TypeDesc) (hc : w.rangeAt b off cs)
    (hu : P.underlying ty = some d) (hd : d.isRow = true) (hi : (P.info? ty).map (·.size) = some cs.length) : (execOp a.eval o).run P w = .ok (.value (.agg cs.toArray)) w := by
  unfold execOp
  simp only [ho, hx, Instr.loadAt, Instr.sureAddr, Sem.run_bind, Sem.run_pure, Result.andThen_ok, run_loadVar_mid w b off ty cs d hc hu hd hi]
set_option maxRecDepth 100000 in
theorem run_buildd_op (t : TypeId) (parts : Array (Nat × Operand)) (ho : o.op = .build t parts) (vals : List (Nat × Value)) (hv : (parts.map fun (i, x) => (i, a.eval x)).toList = vals) (cells : Array Value) (h : P.built t vals = some cells) : (execOp a.eval o).run P w = .ok (.value (.agg cells)) w := by
  subst hv
  unfold execOp
  simp only [ho, Sem.run_bind, run_build w t _ cells h, Result.andThen_ok]
  rfl
set_option maxRecDepth 100000 in
/-- a struct is built, in a row of operations -/
theorem wpList_buildd {rest : List Oper} (hgd : o.guard = none) (t : TypeId) (parts : Array (Nat × Operand)) (ho : o.op = .build t parts) (vals : List (Nat × Value)) (hv : (parts.map fun (i, x) => (i, a.eval x)).toList = vals) (cells : Array Value) (h : P.built t vals = some cells)
    (k : wpList P ops Q rest (a.put o.dst (.agg cells)) w) : wpList P ops Q (o :: rest) a w :=
  wpList_plain hgd fun K hK => by
    unfold Oper.wp
    rw [run_buildd_op t parts ho vals hv cells h]
    exact hK _ _ k
end

/-! what fills a struct -/
set_option maxRecDepth 100000 in
theorem fold_over (off : Nat) : ∀ (vs : List Value) (k : Nat) (Z : List Value), off + k + vs.length ≤ Z.length →
    List.foldl (fun (cs : Array Value) (x : Value × Nat) => cs.setIfInBounds (off + x.2) x.1) Z.toArray (vs.zipIdx k) = (over Z (off + k) vs).toArray
  | [], k, Z, _ => by simp [over]
  | v :: vs, k, Z, h => by
    simp only [List.zipIdx_cons, List.foldl_cons, List.setIfInBounds_toArray]
    rw [fold_over off vs (k + 1) (Z.set (off + k) v) (by simp at h ⊢; omega), ← set_over Z (off + k) v vs (by simpa using h), show off + (k + 1) = off + k + 1 by omega]
set_option maxRecDepth 100000 in
theorem fill_cons (place : Nat → Option (Nat × Nat)) (Z : List Value) (i : Nat) (v : Value) (vs : List Value) (hvs : v.cells = vs.toArray) (off : Nat) (hp : place i = some (off, vs.length)) (hl : off + vs.length ≤ Z.length) (rest : List (Nat × Value)) :
    Instr.fill place Z.toArray ((i, v) :: rest) = Instr.fill place (over Z off vs).toArray rest := by
  have e := fold_over off vs 0 Z (by omega)
  simp only [Nat.add_zero] at e
  rw [Instr.fill, hp]
  simp only [hvs, List.size_toArray]
  rw [if_neg (by simp; omega)]
  congr 1
  rw [← e, ← Array.foldl_toList]
  simp
set_option maxRecDepth 100000 in
theorem built_struct {P : Program} (t : TypeId) (parts : List (Nat × Value)) (fields : Array Field) (places : List (Nat × Nat)) (z : Value) (hu : P.underlying t = some (.struct fields)) (hz : (P.info? t).bind (·.zero) = some z)
    (hp : fields.toList.mapM (fun f => (P.info? f.type).map fun i => (f.offset, i.size)) = some places) : P.built t parts = Instr.fill (places.toArray[·]?) z.cells parts := by
  cases hi : P.info? t with
  | none => rw [hi] at hz; cases hz
  | some it =>
    rw [hi] at hz
    have hz' : it.zero = some z := hz
    simp only [Program.built, hi, hu, hz', hp]
end Go.Proofs.YtlhfdlfbnnfjjaaDoor
namespace Go.Proofs.YtlhfdlfbnnfjjaaDoor
open Go.RowKit

/-- a value as it is passed: its kind, its number, its text, its list -/
abbrev V (k i : Int) (s : ByteArray) (a : Option Addr) (n c : Nat) : Value := .agg #[.int .i64 k, .int .i64 i, .string s, .slice a n c]
set_option maxRecDepth 100000 in
theorem ret_bool {a b : Bool} (h : a = b) : Ending.returned (.bool a) = .returned (.bool b) := by rw [h]
set_option maxRecDepth 100000 in
theorem vret_int {k : IntKind} {a b : Int} (h : a = b) : Ending.returned (.int k a) = .returned (.int k b) := by rw [h]

/-- may a time have this number? -/
def timeB (n : Int) : Bool := decide (0 ≤ n) && decide (n ≤ 1099511627776)
/-- is a value that is no bag formed? -/
def aloneB (k i : Int) (s : ByteArray) (n : Nat) : Bool :=
  if 0 < n then false else if k == 0 then i == 0 && s.toList.isEmpty else if k == 1 then (i == 0 || i == 1) && s.toList.isEmpty else if k == 2 then s.toList.isEmpty
  else if k == 3 then i == 0 && decide ((s.size : Int) ≤ 64) else if k == 4 then timeB i && s.toList.isEmpty else false
set_option maxRecDepth 100000 in
theorem bcell {W w1 : World} (hb : Below W.heap.size W w1) : (∀ b o, b < W.heap.size → w1.cell? ⟨b, o, none⟩ = W.cell? ⟨b, o, none⟩) ∧ (∀ b o, b < W.heap.size → w1.frozen? ⟨b, o, none⟩ = W.frozen? ⟨b, o, none⟩) :=
  ⟨fun b o h => hb.cell (p := ⟨b, o, none⟩) h, fun b o h => hb.frozen (p := ⟨b, o, none⟩) h⟩
set_option maxRecDepth 100000 in
theorem below_set4 {m : Nat} {a w : World} (h : Below m a w) (g : Nat) (hg : m ≤ g) (x y z u : Value) :
    Below m a ((((w.setCell ⟨g, 0, none⟩ x).setCell ⟨g, 1, none⟩ y).setCell ⟨g, 2, none⟩ z).setCell ⟨g, 3, none⟩ u) := (((h.setCell hg _).setCell hg _).setCell hg _).setCell hg _
end Go.Proofs.YtlhfdlfbnnfjjaaDoor
