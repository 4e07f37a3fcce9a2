/- Loads of pieces of blocks. No program is named here; A sector's part, and whether it stands; Rows of one width, and a disk's state, as plain lists; what lies where in memory. No program is named here. -/
import Derived.Test.YtlhfdlfbnnfjjaaDoorJ09
import Derived.Test.YtlhfdlfbnnfjjaaDoorJ01
import Derived.BigQuiet
import Derived.Deep.MidRow
import Derived.Test.YtlhfdlfbnnfjjaaDoorJ20
namespace Go.Proofs.YtlhfdlfbnnfjjaaDoor
open Go.RowKit

set_option maxRecDepth 100000 in
theorem load_midG {P : Program} {ops : Array Oper} {rest : List Oper} {op : Oper} {a : Act} {w : World} {Q : Exit → Act → World → Prop} (hw : Region.wanted op (yielded ops a.tmps) = true) (ty : TypeId) (x : Operand) (ho : op.op = .load ty x)
    (b o : Nat) (hx : a.eval x = .pointer (some ⟨b, o, none⟩)) (cs : List Value) (d : TypeDesc) (hc : w.rangeAt b o cs) (hu : P.underlying ty = some d) (hd : d.isRow = true) (hi : (P.info? ty).map (·.size) = some cs.length)
    (h : wpList P ops Q rest (a.put op.dst (.agg cs.toArray)) w) : wpList P ops Q (op :: rest) a w :=
  BigFrame.wpList_want hw fun _ hK => wp_load_mid ty x ho b o hx cs d hc hu hd hi (hK _ _ h)
set_option maxRecDepth 100000 in
theorem range_pre {w : World} {g : Nat} {L1 L2 : List Value} {t : TypeId} {fr : Nat × Nat} (h : w.heap[g]? = some (.cells (L1 ++ L2).toArray t fr)) : w.rangeAt g 0 L1 := fun j v hv => by
  rw [Nat.zero_add, cell_block h, List.getElem?_toArray, List.getElem?_append_left (List.getElem?_eq_some_iff.1 hv).1]
  exact hv
set_option maxRecDepth 100000 in
/-- a piece within a block -/
theorem range_mid {w : World} {g : Nat} {L : List Value} {t : TypeId} {fr : Nat × Nat} (h : w.heap[g]? = some (.cells L.toArray t fr)) (o : Nat) (vs : List Value) (hv : ∀ j, j < vs.length → L[o + j]? = vs[j]?) : w.rangeAt g o vs := fun j v hj => by
  rw [cell_block h, List.getElem?_toArray, hv j (List.getElem?_eq_some_iff.1 hj).1, hj]
set_option maxRecDepth 100000 in
theorem cell_in {w : World} {g : Nat} {L : List Value} {t : TypeId} {fr : Nat × Nat} (h : w.heap[g]? = some (.cells L.toArray t fr)) (k : Nat) (v : Value) (hv : L[k]? = some v) : w.cell? ⟨g, k, none⟩ = some v := by
  rw [cell_block h, List.getElem?_toArray, hv]
end Go.Proofs.YtlhfdlfbnnfjjaaDoor
namespace Go.Proofs.YtlhfdlfbnnfjjaaDoor
open Go.RowKit

/-- a sector's cells: its head, and what stands behind it -/
def secC (h : Hd) (p : Part) : List Value := h.cells ++ [p.val]
set_option maxRecDepth 100000 in
theorem length_secC (h : Hd) (p : Part) : (secC h p).length = 6 := rfl
set_option maxRecDepth 100000 in
theorem infoHd : (Tryd.prog.info? 72).map (·.size) = some 5 := by kernel_rfl
def standsB (h : Hd) (rest : List UInt8) (f : Hd) (place : Nat) : Bool := belB h f place && (fitsB h && noughtsB (rest.drop h.l))
set_option maxRecDepth 100000 in
theorem fits_le {h : Hd} (hf : fitsB h = true) : h.l ≤ 52 := by
  unfold fitsB at hf
  split at hf
  · have : (h.l : Int) = 52 := by simpa using hf
    omega
  · have : (h.l : Int) ≤ 52 := by simpa using hf
    omega
set_option maxRecDepth 100000 in
set_option maxHeartbeats 1000000 in
theorem part_any (w : World) (h : Hd) (p : Part) (hp : p.In w) (hl : h.l ≤ p.l.length) :
    Calls Tryd.prog 47 #[.agg (secC h p).toArray] w fun e w' => ∃ q : Part, e = .returned q.val ∧ q.l = p.l.take h.l ∧ q.In w' ∧ q.g = p.g ∧ ((p.ad = none → p.cap = 0) → q.ad = none → q.cap = 0) ∧ Below w.heap.size w w' := by
  obtain ⟨q, hql, hqg, hqo, hqi, hqn, hqc, hqs⟩ := slice_hiP p h.l hl hp.cap
  have HQ : Hid (∀ w', Below w.heap.size w w' → q.In w') := Lib.hid fun w' hb => hqi _ (hp.below hb)
  have HQN := Lib.hid hqn
  have HQL := Lib.hid hql
  have HQG := Lib.hid hqg
  unfold secC Hd.cells Part.val
  simp only [List.cons_append, List.nil_append]
  clear hp hqi hqn hql hqg hqo
  have HQC := Lib.hid hqc
  rw [hqc] at hqs
  clear hqc
  generalize p.l.length = n at *
  generalize hk : q.l.length = m at *
  have HK := Lib.hid hk
  clear hk
  go_enter Tryd.func47, Tryd.ntmps47
  go_wp2
  go_ret
  exact ⟨q, by rw [HK.out, HQC.out]; rfl, HQL.out, HQ.out _ ((Below.refl _ _).alloc (Nat.le_refl _) _), HQG.out, HQN.out, (Below.refl _ _).alloc (Nat.le_refl _) _⟩
set_option maxRecDepth 100000 in
set_option maxHeartbeats 1000000 in
theorem stands_any (w : World) (h : Hd) (p : Part) (hp : p.In w) (h52 : p.l.length = 52) (f : Hd) (place : Nat) (hc : (h.c : Int) < 9223372036854775808) :
    Calls Tryd.prog 46 #[.agg (secC h p).toArray, .agg f.cells.toArray, .int .i64 (place : Int)] w fun e w' => e = .returned (.bool (standsB h p.l f place)) ∧ Below w.heap.size w w' := by
  have hne : p.l ≠ [] := by intro e; rw [e] at h52; cases h52
  have hcap := hp.cap
  have HB := Lib.hid (fun W => belongs_any W h f place)
  have HF := Lib.hid (fun W => fits_any W h hc)
  have HL := Lib.hid (fits_le (h := h))
  have HN : Hid (h.l ≤ 52 → ∃ q : Part, (∀ w, (Instr.sliceAt 32 (.slice (some ⟨p.g, p.o, none⟩) 52 p.cap) (some (.int .i64 (h.l : Int))) none none).run Tryd.prog w = .ok (.slice q.ad q.l.length q.cap) w) ∧
      ∀ W, Below w.heap.size w W → Calls Tryd.prog 61 #[.slice q.ad q.l.length q.cap] W fun e w' => e = .returned (.bool (noughtsB (p.l.drop h.l))) ∧ W = w') := Lib.hid fun hl => by
    obtain ⟨q, hql, hqg, hqi, hqn, hqc, hqs⟩ := slice_loP p h.l (by omega) hp.cap hp.bytes.at'
    rw [hp.bytes.at' hne, h52] at hqs
    refine ⟨q, hqs, fun W hW => ?_⟩
    rw [← hql]
    exact noughts_any W q (hqi _ (hp.below hW)) (by rw [hql, List.length_drop]; omega)
  have ha := hp.bytes.at' hne
  rw [h52] at hcap
  have hbel0 : ∀ W, Below w.heap.size w W → Below w.heap.size w W := fun _ h => h
  unfold standsB secC Part.val
  rw [ha, h52]
  unfold Hd.cells at *
  clear ha hp hbel0
  obtain ⟨b1, e1⟩ : ∃ b, belB h f place = b := ⟨_, rfl⟩
  rw [e1] at HB ⊢
  obtain ⟨b2, e2⟩ : ∃ b, fitsB h = b := ⟨_, rfl⟩
  rw [e2] at HF HL ⊢
  generalize noughtsB (p.l.drop h.l) = b3 at *
  clear e1 e2
  simp only [List.cons_append, List.nil_append]
  go_enter Tryd.func46, Tryd.ntmps46
  go_wp2_with fail
  refine (HB.out _).mono ?_
  rintro e w1 ⟨rfl, hb1⟩
  have B1 : Below w.heap.size w w1 := (((Below.refl _ _).alloc (Nat.le_refl _) _).alloc (by simp) _).trans (hb1.mono (by simp; omega))
  have g1 : w1.heap[w.heap.size]? = some (.cells #[.int .i64 (h.n : Int), .int .i64 (h.g : Int), .int .i64 (h.p : Int), .int .i64 (h.c : Int), .int .i64 (h.l : Int), .slice (some ⟨p.g, p.o, none⟩) 52 p.cap] 74 (0, 0)) :=
    (hb1.block _ (by simp; omega)).trans ((Below.heap_alloc _ _ _ (by simp)).trans (heap_alloc_new _ _))
  have HB1 := Lib.hid B1
  clear hb1 HB B1
  cases b1 with
  | false =>
    clear HL HF HN
    go_wp2_with fail
    go_ret
    exact ⟨rfl, HB1.out⟩
  | true =>
    have G1 := Lib.hid g1
    have HR1 := Lib.hid (range_pre (L1 := h.cells) (L2 := [.slice (some ⟨p.g, p.o, none⟩) 52 p.cap]) g1)
    unfold Hd.cells at HR1
    clear g1
    go_wp2_with (refine load_midG (by rfl) 72 (.tmp 13) rfl w.heap.size 0 rfl _ _ HR1.out Tryd.underlying72 rfl infoHd ?_)
    refine (HF.out _).mono ?_
    rintro e w2 ⟨rfl, hb2⟩
    have g2 := (hb2.block _ (lt_block G1.out)).trans G1.out
    have c4 := cell_in (L := [_, _, _, _, _, _]) g2 4 _ rfl
    have c5 := cell_in (L := [_, _, _, _, _, _]) g2 5 _ rfl
    have HB2 := Lib.hid (HB1.out.trans (hb2.mono HB1.out.size))
    clear hb2 HB1 HF G1 g2 HR1
    cases b2 with
    | false =>
      go_wp2
      go_ret
      exact ⟨rfl, HB2.out⟩
    | true =>
      have hl := HL.out rfl
      obtain ⟨q, hqs, hqn⟩ := HN.out hl
      have HH := Lib.hid (hqn w2 HB2.out)
      clear HN HL hqn
      go_wp2_with fail
      refine HH.out.mono ?_
      rintro e w3 ⟨rfl, rfl⟩
      go_wp2
      go_ret
      exact ⟨by cases b3 <;> rfl, HB2.out⟩
end Go.Proofs.YtlhfdlfbnnfjjaaDoor
namespace Go.Proofs.YtlhfdlfbnnfjjaaDoor
open Go.RowKit

/-- all of one width -/
def Wide (k : Nat) (R : List (List Value)) : Prop := ∀ r ∈ R, r.length = k
set_option maxRecDepth 100000 in
theorem Wide.tail {k : Nat} {r : List Value} {R : List (List Value)} (h : Wide k (r :: R)) : Wide k R := fun x hx => h x (List.mem_cons_of_mem _ hx)
set_option maxRecDepth 100000 in
theorem Wide.drop {k : Nat} {R : List (List Value)} (h : Wide k R) (i : Nat) : Wide k (R.drop i) := fun x hx => h x (List.mem_of_mem_drop hx)
set_option maxRecDepth 100000 in
theorem Wide.take {k : Nat} {R : List (List Value)} (h : Wide k R) (i : Nat) : Wide k (R.take i) := fun x hx => h x (List.mem_of_mem_take hx)
set_option maxRecDepth 100000 in
theorem length_flatR {k : Nat} : ∀ {R : List (List Value)}, Wide k R → R.flatten.length = R.length * k
  | [], _ => by simp
  | r :: R, h => by
    rw [List.flatten_cons, List.length_append, length_flatR h.tail, h r (List.mem_cons_self ..), List.length_cons, Nat.add_mul]; omega
set_option maxRecDepth 100000 in
theorem drop_flat {k : Nat} {R : List (List Value)} (h : Wide k R) (i : Nat) (hi : i ≤ R.length) : R.flatten.drop (i * k) = (R.drop i).flatten := by
  have e : R.flatten = (R.take i).flatten ++ (R.drop i).flatten := by rw [← List.flatten_append, List.take_append_drop]
  rw [e, List.drop_left' (by rw [length_flatR (h.take i), List.length_take, Nat.min_eq_left hi])]
set_option maxRecDepth 100000 in
theorem take_flat {k : Nat} {R : List (List Value)} (h : Wide k R) (i : Nat) (hi : i ≤ R.length) : R.flatten.take (i * k) = (R.take i).flatten := by
  have e : R.flatten = (R.take i).flatten ++ (R.drop i).flatten := by rw [← List.flatten_append, List.take_append_drop]
  rw [e, List.take_left' (by rw [length_flatR (h.take i), List.length_take, Nat.min_eq_left hi])]
set_option maxRecDepth 100000 in
theorem get_flat {k : Nat} {R : List (List Value)} (h : Wide k R) (i : Nat) (hi : i < R.length) (j : Nat) (hj : j < k) : R.flatten[i * k + j]? = (R[i])[j]? := by
  rw [← List.getElem?_drop, drop_flat h i (by omega), List.drop_eq_getElem_cons hi, List.flatten_cons, List.getElem?_append_left (by rw [h _ (List.getElem_mem hi)]; exact hj)]
set_option maxRecDepth 100000 in
theorem over_flat {k : Nat} {R : List (List Value)} (h : Wide k R) (i : Nat) (hi : i < R.length) (vs : List Value) (hv : vs.length = k) : over R.flatten (i * k) vs = (R.set i vs).flatten := by
  unfold over
  rw [hv, show i * k + k = (i + 1) * k by rw [Nat.add_mul]; omega, take_flat h i (by omega), drop_flat h (i + 1) (by omega), List.set_eq_take_append_cons_drop, if_pos hi]
  simp

/-- a write that waits -/
structure WrR where
  place : Nat
  before : List UInt8
  after : List UInt8
/-- a disk's state -/
structure DSt where
  S : List (List UInt8)
  ws : List WrR
  fuse : Int
  gone : Bool
def WrR.cells (r : WrR) : List Value := .int .i64 (r.place : Int) :: (r.before.map B ++ r.after.map B)
def secsC (S : List (List UInt8)) : List Value := (S.map fun s => s.map B).flatten
def cellsW (ws : List WrR) : List Value := (ws.map WrR.cells).flatten
/-- a state that may be -/
structure DSt.Ok (s : DSt) : Prop where
  len : ∀ x ∈ s.S, x.length = 64
  lim : s.S.length ≤ 8192
  wok : ∀ r ∈ s.ws, r.place < s.S.length ∧ r.before.length = 64 ∧ r.after.length = 64
set_option maxRecDepth 100000 in
theorem wide_secs {S : List (List UInt8)} (h : ∀ x ∈ S, x.length = 64) : Wide 64 (S.map fun s => s.map B) := by
  intro r hr
  obtain ⟨x, hx, rfl⟩ := List.mem_map.1 hr
  simpa using h x hx
set_option maxRecDepth 100000 in
theorem wide_ws {ws : List WrR} (h : ∀ r ∈ ws, r.before.length = 64 ∧ r.after.length = 64) : Wide 129 (ws.map WrR.cells) := by
  intro r hr
  obtain ⟨x, hx, rfl⟩ := List.mem_map.1 hr
  have := h x hx
  simp [WrR.cells]; omega
set_option maxRecDepth 100000 in
theorem length_secs {S : List (List UInt8)} (h : ∀ x ∈ S, x.length = 64) : (secsC S).length = S.length * 64 := by
  unfold secsC; rw [length_flatR (wide_secs h), List.length_map]
set_option maxRecDepth 100000 in
theorem done_bytes (l : List UInt8) : ∀ v ∈ l.map B, v.oneCell' = true := by
  intro v hv
  obtain ⟨x, _, rfl⟩ := List.mem_map.1 hv
  rfl
set_option maxRecDepth 100000 in
theorem one_wr (r : WrR) : ∀ v ∈ r.cells, v.oneCell' = true := by
  intro v hv
  simp only [WrR.cells, List.mem_cons, List.mem_append] at hv
  rcases hv with rfl | hv | hv
  · rfl
  · exact done_bytes _ v hv
  · exact done_bytes _ v hv
set_option maxRecDepth 100000 in
theorem secs_set {S : List (List UInt8)} (h : ∀ x ∈ S, x.length = 64) (i : Nat) (hi : i < S.length) (b : List UInt8) (hb : b.length = 64) : over (secsC S) (i * 64) (b.map B) = secsC (S.set i b) := by
  unfold secsC
  rw [over_flat (wide_secs h) i (by simpa using hi) _ (by simpa using hb), List.map_set]

/-- every block but those of F is as it was -/
structure KeptF (F : Nat → Prop) (w w' : World) : Prop where
  os : w'.os = w.os
  tape : w'.tape = w.tape
  output : w'.output = w.output
  size : w.heap.size ≤ w'.heap.size
  block : ∀ k, k < w.heap.size → ¬ F k → w'.heap[k]? = w.heap[k]?
set_option maxRecDepth 100000 in
theorem KeptF.refl (F : Nat → Prop) (w : World) : KeptF F w w := ⟨rfl, rfl, rfl, Nat.le_refl _, fun _ _ _ => rfl⟩
set_option maxRecDepth 100000 in
theorem KeptF.trans {F G : Nat → Prop} {a w w' : World} (h : KeptF F a w) (k : KeptF G w w') (hG : ∀ i, i < a.heap.size → G i → F i) : KeptF F a w' :=
  ⟨k.os.trans h.os, k.tape.trans h.tape, k.output.trans h.output, Nat.le_trans h.size k.size, fun i hi hb => (k.block i (Nat.lt_of_lt_of_le hi h.size) (fun hg => hb (hG i hi hg))).trans (h.block i hi hb)⟩
set_option maxRecDepth 100000 in
theorem KeptF.of_below {F : Nat → Prop} {a w : World} (h : Below a.heap.size a w) : KeptF F a w := ⟨h.os, h.tape, h.output, h.size, fun k hk _ => h.block k hk⟩
set_option maxRecDepth 100000 in
theorem KeptF.of_kept1 {F : Nat → Prop} {b : Nat} {a w : World} (h : Kept1 b a w) (hb : b < a.heap.size → F b) : KeptF F a w :=
  ⟨h.os, h.tape, h.output, h.size, fun k hk hF => h.block k hk (fun e => hF (by subst e; exact hb hk))⟩
set_option maxRecDepth 100000 in
theorem KeptF.of_grown {F : Nat → Prop} {a w : World} {o : Option Nat} (h : a.grownBy w o) (hb : ∀ b, o = some b → F b) : KeptF F a w :=
  ⟨h.os, h.tape, h.output, h.size, fun k hk hF => h.block k hk (fun e => hF (hb k e.symm))⟩
set_option maxRecDepth 100000 in
theorem KeptF.heap {F : Nat → Prop} {w w' : World} (h : KeptF F w w') {k : Nat} {o : Obj} (hk : w.heap[k]? = some o) (hF : ¬ F k) : w'.heap[k]? = some o := (h.block k (lt_block hk) hF).trans hk
set_option maxRecDepth 100000 in
/-- blocks that are new are all that was turned -/
theorem KeptF.below {F : Nat → Prop} {a w : World} (h : KeptF F a w) (hb : ∀ k, F k → a.heap.size ≤ k) : Below a.heap.size a w :=
  ⟨h.os, h.tape, h.output, h.size, fun k hk => h.block k hk (fun hF => by have := hb k hF; omega)⟩
set_option maxRecDepth 100000 in
theorem KeptF.mono {F : Nat → Prop} {B : Nat} {a w w' : World} (h : Below B a w) (k : KeptF F w w') (hB : B ≤ a.heap.size) (hb : ∀ k, F k → B ≤ k) : Below B a w' :=
  ⟨k.os.trans h.os, k.tape.trans h.tape, k.output.trans h.output, Nat.le_trans h.size k.size, fun i hi => (k.block i (by have := h.size; omega) (fun hF => by have := hb i hF; omega)).trans (h.block i hi)⟩
set_option maxRecDepth 100000 in
theorem KeptF.wider {F G : Nat → Prop} {a w : World} (h : KeptF F a w) (hFG : ∀ k, F k → G k) : KeptF G a w := ⟨h.os, h.tape, h.output, h.size, fun k hk hG => h.block k hk (fun hF => hG (hFG k hF))⟩
end Go.Proofs.YtlhfdlfbnnfjjaaDoor
