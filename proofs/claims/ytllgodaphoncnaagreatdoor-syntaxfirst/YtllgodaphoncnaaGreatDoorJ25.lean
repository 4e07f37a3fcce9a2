/- Trees in memory; A reader's calls: attributes, literals, a bag's items. -/
import Derived.Test.YtllgodaphoncnaaGreatDoorJ24
import Derived.Test.YtllgodaphoncnaaGreatDoorJ04
namespace Go.Proofs.YtllgodaphoncnaaGreatDoor
open Go.RowKit

/-- a tree's root, as it is passed -/
structure XV where
  o : ByteArray
  x : Val
  w : ByteArray
  n : ByteArray
  a : Option Addr
  l : Nat
  c : Nat
abbrev xcells (o : ByteArray) (k i : Int) (s : ByteArray) (a : Option Addr) (n c : Nat) (w nm : ByteArray) (pa : Option Addr) (pl pc : Nat) : List Value :=
  [.string o, .int .i64 k, .int .i64 i, .string s, .slice a n c, .string w, .string nm, .slice pa pl pc]
def XV.cells (X : XV) : List Value := xcells X.o X.x.k X.x.i X.x.s X.x.a X.x.n X.x.c X.w X.n X.a X.l X.c
def XV.v (X : XV) : Value := .agg #[.string X.o, .int .i64 X.x.k, .int .i64 X.x.i, .string X.x.s, .slice X.x.a X.x.n X.x.c, .string X.w, .string X.n, .slice X.a X.l X.c]
set_option maxRecDepth 100000 in
theorem XV.v_cells (X : XV) : X.v = .agg X.cells.toArray := rfl
/-- a value in memory, in blocks of B -/
structure ValIs (B : Nat → Prop) (w : World) (x : Val) (v : PV) : Prop where
  k : x.k = v.k
  i : x.i = v.i
  s : x.s = v.s
  len : v.l.length = x.n
  list : ∃ g o, ListAt w x.a g o v.l ∧ (v.l ≠ [] → B g)
  size : x.s.size ≤ maxLen
  most : x.n ≤ maxLen
set_option maxRecDepth 100000 in
theorem ValIs.full {B : Nat → Prop} {w : World} {x : Val} {v : PV} (h : ValIs B w x v) : Full w x v.l := by
  obtain ⟨g, o, h1, -⟩ := h.list
  exact ⟨⟨g, o, h1⟩, h.len, h.size, h.most⟩
/-- what keeps blocks of B -/
def KeptB (B : Nat → Prop) (w w' : World) : Prop := ∀ k, B k → k < w.heap.size → w'.heap[k]? = w.heap[k]?
set_option maxRecDepth 100000 in
theorem KeptB.cell {B : Nat → Prop} {w w' : World} (h : KeptB B w w') {p : Addr} (hb : B p.block) {v : Value} (hv : w.cell? p = some v) : w'.cell? p = some v := by
  rw [World.cell?_of_block (w := w) (h p.block hb (block_lt_of_cell hv))]
  exact hv
set_option maxRecDepth 100000 in
theorem KeptB.of_kept1 {b : Nat} {w w' : World} (h : Kept1 b w w') : KeptB (· ≠ b) w w' := fun k hk hl => h.block k hl hk
set_option maxRecDepth 100000 in
theorem KeptB.of_below {B : Nat → Prop} {w w' : World} (h : Below w.heap.size w w') : KeptB B w w' := fun k _ hl => h.block k hl
set_option maxRecDepth 100000 in
theorem ValIs.kept {B : Nat → Prop} {w w' : World} {x : Val} {v : PV} (h : ValIs B w x v) (hk : KeptB B w w') : ValIs B w' x v := by
  obtain ⟨g, o, h1, h2⟩ := h.list
  refine ⟨h.k, h.i, h.s, h.len, ⟨g, o, ?_, h2⟩, h.size, h.most⟩
  have hB : ∀ j, j < v.l.length → B g := fun j hj => h2 (by intro e; rw [e] at hj; cases hj)
  exact ⟨h1.at', fun j hj => hk.cell (p := ⟨g, o + j * 4, none⟩) (hB j hj) (h1.c0 j hj), fun j hj => hk.cell (p := ⟨g, o + j * 4 + 1, none⟩) (hB j hj) (h1.c1 j hj), fun j hj => hk.cell (p := ⟨g, o + j * 4 + 2, none⟩) (hB j hj) (h1.c2 j hj), fun j hj => hk.cell (p := ⟨g, o + j * 4 + 3, none⟩) (hB j hj) (h1.c3 j hj), h1.size⟩
set_option maxRecDepth 100000 in
theorem ValIs.mono {B B' : Nat → Prop} {w : World} {x : Val} {v : PV} (h : ValIs B w x v) (hb : ∀ k, k < w.heap.size → B k → B' k) : ValIs B' w x v := by
  obtain ⟨g, o, h1, h2⟩ := h.list
  refine ⟨h.k, h.i, h.s, h.len, ⟨g, o, h1, fun hne => ?_⟩, h.size, h.most⟩
  exact hb g (block_lt_of_cell (h1.c0 0 (List.length_pos_iff.2 hne))) (h2 hne)
set_option maxRecDepth 100000 in
theorem listAt_none (w : World) (ad : Option Addr) : ListAt w ad 0 0 [] :=
  ⟨fun h => absurd rfl h, (fun j hj => absurd hj (by simp)), (fun j hj => absurd hj (by simp)), (fun j hj => absurd hj (by simp)), (fun j hj => absurd hj (by simp)), (fun x hx => by cases hx)⟩
set_option maxRecDepth 100000 in
theorem valIs_bare (B : Nat → Prop) (w : World) (k i : Int) (s : ByteArray) (hs : s.size ≤ maxLen) : ValIs B w ⟨k, i, s, none, 0, 0⟩ ⟨k, i, s, []⟩ :=
  ⟨rfl, rfl, rfl, rfl, ⟨0, 0, listAt_none _ _, fun h => absurd rfl h⟩, hs, Nat.zero_le _⟩
set_option maxRecDepth 100000 in
theorem valIs_none (B : Nat → Prop) (w : World) : ValIs B w ⟨0, 0, ⟨#[]⟩, none, 0, 0⟩ noPV := valIs_bare B w 0 0 ⟨#[]⟩ (by decide)
set_option maxRecDepth 100000 in
/-- a tree in memory, in blocks of B -/
inductive TrAt (B : Nat → Prop) (w : World) : Tr → XV → Prop
  | mk {op : List UInt8} {v : PV} {who name : List UInt8} {ps : List Tr} (X : XV) (ho : X.o = st op) (hw : X.w = st who) (hn : X.n = st name) (hv : ValIs B w X.x v) (hl : X.l = ps.length) (g o : Nat) (Xs : Nat → XV)
      (had : ps ≠ [] → X.a = some ⟨g, o, none⟩ ∧ B g) (hfr : ¬ B 0 → ps ≠ [] → ∃ C T, w.heap[g]? = some (.cells C T (0, 0))) (hp : ∀ i, (h : i < ps.length) → TrAt B w ps[i] (Xs i)) (hc : ∀ i, i < ps.length → ∀ j, j < 8 → w.cell? ⟨g, o + i * 8 + j, none⟩ = (Xs i).cells[j]?) : TrAt B w (.mk op v who name ps) X
theorem XV.cell_lt (X : XV) {j : Nat} (h : j < 8) : ∃ v, X.cells[j]? = some v := by
  have : X.cells.length = 8 := rfl
  exact ⟨X.cells[j], List.getElem?_eq_getElem (by omega)⟩
set_option maxRecDepth 100000 in
theorem TrAt.kept {B : Nat → Prop} {w w' : World} (hk : KeptB B w w') {t : Tr} {X : XV} (h : TrAt B w t X) : TrAt B w' t X := by
  induction h with
  | @mk op v who name ps X ho hw hn hv hl g o Xs had hfr hp hc ih =>
    refine .mk X ho hw hn (hv.kept hk) hl g o Xs had (fun hb hne => by
      obtain ⟨C, T, hg⟩ := hfr hb hne
      exact ⟨C, T, (hk g (had hne).2 (lt_block hg)).trans hg⟩) (fun i hi => ih i hi) fun i hi j hj => ?_
    obtain ⟨u, hu⟩ := (Xs i).cell_lt hj
    rw [hu]
    have h0 := hc i hi j hj
    rw [hu] at h0
    exact hk.cell (p := ⟨g, o + i * 8 + j, none⟩) (had (by intro e; rw [e] at hi; cases hi)).2 h0
set_option maxRecDepth 100000 in
theorem TrAt.mono {B B' : Nat → Prop} {w : World} (hb : ∀ k, k < w.heap.size → B k → B' k) {t : Tr} {X : XV} (h : TrAt B w t X) : TrAt B' w t X := by
  induction h with
  | @mk op v who name ps X ho hw hn hv hl g o Xs had hfr hp hc ih =>
    have hB0 : ¬ B' 0 → ps ≠ [] → ¬ B 0 := fun h1 hne h2 => by
      refine h1 (hb 0 ?_ h2)
      obtain ⟨u, hu⟩ := (Xs 0).cell_lt (j := 0) (by omega)
      have h0 := hc 0 (List.length_pos_iff.2 hne) 0 (by omega)
      rw [hu] at h0
      have := block_lt_of_cell h0
      omega
    refine .mk X ho hw hn (hv.mono hb) hl g o Xs (fun hne => ⟨(had hne).1, hb g ?_ (had hne).2⟩) (fun h1 hne => hfr (hB0 h1 hne) hne) (fun i hi => ih i hi) hc
    have hi : 0 < ps.length := List.length_pos_iff.2 hne
    obtain ⟨u, hu⟩ := (Xs 0).cell_lt (j := 0) (by omega)
    have h0 := hc 0 hi 0 (by omega)
    rw [hu] at h0
    exact block_lt_of_cell h0
set_option maxRecDepth 100000 in
theorem TrAt.kept1 {b : Nat} {w w' : World} {t : Tr} {X : XV} (h : TrAt (· ≠ b) w t X) (hk : Kept1 b w w') : TrAt (· ≠ b) w' t X := h.kept (.of_kept1 hk)
set_option maxRecDepth 100000 in
theorem TrAt.low {B : Nat → Prop} {w w' : World} {t : Tr} {X : XV} (h : TrAt B w t X) (hk : Below w.heap.size w w') : TrAt B w' t X := h.kept (.of_below hk)
set_option maxRecDepth 100000 in
/-- a tree without parts -/
theorem trAt_leaf {B : Nat → Prop} {w : World} {op who name : List UInt8} {v : PV} (x : Val) (hv : ValIs B w x v) (a : Option Addr) (c : Nat) : TrAt B w (.mk op v who name []) ⟨st op, x, st who, st name, a, 0, c⟩ :=
  .mk _ rfl rfl rfl hv rfl 0 0 (fun _ => ⟨⟨#[]⟩, x, ⟨#[]⟩, ⟨#[]⟩, none, 0, 0⟩) (fun h => absurd rfl h) (fun _ h => absurd rfl h) (fun i hi => absurd hi (by simp)) (fun i hi => absurd hi (by simp))
set_option maxRecDepth 100000 in
theorem trAt_one {B : Nat → Prop} {w : World} {op : List UInt8} {t : Tr} {X : XV} (h : TrAt B w t X) {g : Nat} {T : TypeId} (hg : w.heap[g]? = some (.cells X.cells.toArray T (0, 0))) (hB : B g) (c : Nat) :
    TrAt B w (mk1 op t) ⟨st op, ⟨0, 0, ⟨#[]⟩, none, 0, 0⟩, ⟨#[]⟩, ⟨#[]⟩, some ⟨g, 0, none⟩, 1, c⟩ := by
  refine .mk _ rfl rfl rfl (valIs_none B w) rfl g 0 (fun _ => X) (fun _ => ⟨rfl, hB⟩) (fun _ _ => ⟨_, _, hg⟩) (fun i hi => ?_) (fun i hi j hj => ?_)
  · obtain rfl : i = 0 := by simpa using hi
    exact h
  · obtain rfl : i = 0 := by simpa using hi
    rw [cell_block hg]; simp
set_option maxRecDepth 100000 in
theorem trAt_two {B : Nat → Prop} {w : World} {op : List UInt8} {t u : Tr} {X Y : XV} (h : TrAt B w t X) (k : TrAt B w u Y) {g : Nat} {T : TypeId} (hg : w.heap[g]? = some (.cells (X.cells ++ Y.cells).toArray T (0, 0))) (hB : B g) (c : Nat) :
    TrAt B w (mk2 op t u) ⟨st op, ⟨0, 0, ⟨#[]⟩, none, 0, 0⟩, ⟨#[]⟩, ⟨#[]⟩, some ⟨g, 0, none⟩, 2, c⟩ := by
  have hX : X.cells.length = 8 := rfl
  refine .mk _ rfl rfl rfl (valIs_none B w) rfl g 0 (fun i => if i = 0 then X else Y) (fun _ => ⟨rfl, hB⟩) (fun _ _ => ⟨_, _, hg⟩) (fun i hi => ?_) (fun i hi j hj => ?_)
  · have hi' : i = 0 ∨ i = 1 := by simp at hi; omega
    rcases hi' with rfl | rfl
    · exact h
    · exact k
  · have hi' : i = 0 ∨ i = 1 := by simp at hi; omega
    rw [cell_block hg]
    rcases hi' with rfl | rfl
    · simp only [Nat.zero_mul, Nat.zero_add, List.getElem?_toArray, if_true]
      rw [List.getElem?_append_left (by omega)]
    · simp only [Nat.one_mul, Nat.zero_add, List.getElem?_toArray, Nat.one_ne_zero, if_false]
      rw [List.getElem?_append_right (by omega)]
      congr 1; omega
/-- what a call that reads an expression leaves -/
def PostT (I : RI) (w : World) (r : Tr × PS) (e : Ending) (w' : World) : Prop := ∃ X : XV, e = .returned X.v ∧ TrAt (w.heap.size ≤ ·) w' r.1 X ∧ Rd I w' r.2 ∧ Kept1 I.b w w'
set_option maxRecDepth 100000 in
theorem Kept1.across {b g : Nat} {w w1 W : World} (hk : Kept1 b w w1) (hW : Kept1 g w1 W) (hg : w.heap.size ≤ g) : Kept1 b w W :=
  ⟨hW.os.trans hk.os, hW.tape.trans hk.tape, hW.output.trans hk.output, Nat.le_trans hk.size hW.size, fun k hl hb => (hW.block k (Nat.lt_of_lt_of_le hl hk.size) (by omega)).trans (hk.block k hl hb)⟩
set_option maxRecDepth 100000 in
theorem kept_set8 {w : World} (g : Nat) (x0 x1 x2 x3 x4 x5 x6 x7 : Value) :
    Kept1 g w ((((((((w.setCell ⟨g, 0, none⟩ x0).setCell ⟨g, 1, none⟩ x1).setCell ⟨g, 2, none⟩ x2).setCell ⟨g, 3, none⟩ x3).setCell ⟨g, 4, none⟩ x4).setCell ⟨g, 5, none⟩ x5).setCell ⟨g, 6, none⟩ x6).setCell ⟨g, 7, none⟩ x7) :=
  Kept1.setCell (p := ⟨g, 7, none⟩) (hp := .inl rfl) (u := x7) <| Kept1.setCell (p := ⟨g, 6, none⟩) (hp := .inl rfl) (u := x6) <| Kept1.setCell (p := ⟨g, 5, none⟩) (hp := .inl rfl) (u := x5) <| Kept1.setCell (p := ⟨g, 4, none⟩) (hp := .inl rfl) (u := x4) <|
    Kept1.setCell (p := ⟨g, 3, none⟩) (hp := .inl rfl) (u := x3) <| Kept1.setCell (p := ⟨g, 2, none⟩) (hp := .inl rfl) (u := x2) <| Kept1.setCell (p := ⟨g, 1, none⟩) (hp := .inl rfl) (u := x1) <| Kept1.setCell (p := ⟨g, 0, none⟩) (hp := .inl rfl) (u := x0) <| Kept1.refl g w
set_option maxRecDepth 100000 in
theorem heap_set8 {w : World} {g : Nat} {y0 y1 y2 y3 y4 y5 y6 y7 : Value} {T : TypeId} (h : w.heap[g]? = some (.cells #[y0, y1, y2, y3, y4, y5, y6, y7] T (0, 0))) (x0 x1 x2 x3 x4 x5 x6 x7 : Value) :
    ((((((((w.setCell ⟨g, 0, none⟩ x0).setCell ⟨g, 1, none⟩ x1).setCell ⟨g, 2, none⟩ x2).setCell ⟨g, 3, none⟩ x3).setCell ⟨g, 4, none⟩ x4).setCell ⟨g, 5, none⟩ x5).setCell ⟨g, 6, none⟩ x6).setCell ⟨g, 7, none⟩ x7).heap[g]? = some (.cells #[x0, x1, x2, x3, x4, x5, x6, x7] T (0, 0)) := by
  have h0 := heap_setCell_same w g 0 _ T x0 h
  have h1 := heap_setCell_same _ g 1 _ T x1 h0
  have h2 := heap_setCell_same _ g 2 _ T x2 h1
  have h3 := heap_setCell_same _ g 3 _ T x3 h2
  have h4 := heap_setCell_same _ g 4 _ T x4 h3
  have h5 := heap_setCell_same _ g 5 _ T x5 h4
  have h6 := heap_setCell_same _ g 6 _ T x6 h5
  have h7 := heap_setCell_same _ g 7 _ T x7 h6
  simpa using h7
set_option maxRecDepth 100000 in
/-- the result's own block is written at the end -/
theorem fin8 {I : RI} {w w1 W : World} {p : PS} {r : Tr × PS} {X : XV} {N g : Nat} (h : Rd I w p) (ht : TrAt (N ≤ ·) w1 r.1 X) (hr : Rd I w1 r.2) (hk : Kept1 I.b w w1) (hg : w.heap.size ≤ g) (hN : g < N) (hW : Kept1 g w1 W) : PostT I w r (.returned X.v) W := by
  have hkW := hk.across hW hg
  have hlt := h.lt
  refine ⟨X, rfl, (ht.kept (fun k hk' hl => hW.block k hl (by omega))).mono (fun k _ hk' => by show w.heap.size ≤ k; omega), ?_, hkW⟩
  exact h.kept hkW ((hW.block I.b (by have := hr.lt; omega) (by omega)).trans hr.blk) hr.at' hr.err
set_option maxRecDepth 100000 in
theorem below_set8 {m : Nat} {a w : World} (h : Below m a w) (g : Nat) (hg : m ≤ g) (x0 x1 x2 x3 x4 x5 x6 x7 : Value) :
    Below m a ((((((((w.setCell ⟨g, 0, none⟩ x0).setCell ⟨g, 1, none⟩ x1).setCell ⟨g, 2, none⟩ x2).setCell ⟨g, 3, none⟩ x3).setCell ⟨g, 4, none⟩ x4).setCell ⟨g, 5, none⟩ x5).setCell ⟨g, 6, none⟩ x6).setCell ⟨g, 7, none⟩ x7) :=
  (((((((h.setCell hg _).setCell hg _).setCell hg _).setCell hg _).setCell hg _).setCell hg _).setCell hg _).setCell hg _
set_option maxRecDepth 100000 in
theorem made_any (w : World) (s : ByteArray) (ad : Option Addr) (n c : Nat) :
    Calls Tryz.prog 88 #[.string s, .slice ad n c] w fun e w' => e = .returned (XV.v ⟨s, ⟨0, 0, ⟨#[]⟩, none, 0, 0⟩, ⟨#[]⟩, ⟨#[]⟩, ad, n, c⟩) ∧ Below w.heap.size w w' := by
  go_enter Tryz.func88, Tryz.ntmps88
  go_wp2
  exact bodyPost_ret (v := XV.v ⟨s, ⟨0, 0, ⟨#[]⟩, none, 0, 0⟩, ⟨#[]⟩, ⟨#[]⟩, ad, n, c⟩) (by simp [results, Tryz.results88, go_sem, XV.v]) rfl ⟨rfl, by first | exact (Below.refl _ _).alloc (Nat.le_refl _) _ | exact below_set8 ((Below.refl _ _).alloc (Nat.le_refl _) _) _ (Nat.le_refl _) _ _ _ _ _ _ _ _⟩
end Go.Proofs.YtllgodaphoncnaaGreatDoor
namespace Go.Proofs.YtllgodaphoncnaaGreatDoor
open Go.RowKit

set_option maxRecDepth 100000 in
theorem strsAt_new {W : World} {g : Nat} {l : List (List UInt8)} {T : TypeId} {fr : Nat × Nat} (h : W.heap[g]? = some (.cells (l.map fun s => Value.string (st s)).toArray T fr)) : StrsAt W (some ⟨g, 0, none⟩) g 0 l := by
  refine ⟨fun _ => rfl, fun i hi j hj => ?_⟩
  obtain rfl : j = 0 := by omega
  simp only [Nat.mul_one, Nat.zero_add, Nat.add_zero]
  rw [cell_block h]
  simp [List.getElem?_eq_getElem hi]
set_option maxRecDepth 100000 in
/-- one of these words, which lie in a new block -/
theorem takesNew_any (I : RI) (w : World) (p : PS) (h : Rd I w p) (l : List (List UInt8)) (n : Nat) (hn : l.length = n) (h100 : n ≤ 100) (T : TypeId) (fr : Nat × Nat) (cs : Array Value) (hcs : cs = (l.map fun s => Value.string (st s)).toArray) (c : Nat) :
    Calls Tryz.prog 87 #[I.ptr, .slice (some ⟨w.heap.size, 0, none⟩) n c] (w.alloc (.cells cs T fr)) fun e w' => e = .returned (.string (st (takesOneP I.T l p).1)) ∧ Rd I w' (takesOneP I.T l p).2 ∧ Kept1 I.b w w' := by
  subst hn
  have hb : Below w.heap.size w (w.alloc (.cells cs T fr)) := (Below.refl _ _).alloc (Nat.le_refl _) _
  have hg : (w.alloc (.cells cs T fr)).heap[w.heap.size]? = some (.cells (l.map fun s => Value.string (st s)).toArray T fr) := by rw [← hcs]; exact heap_alloc_new _ _
  exact (takesOne_any I _ p (h.below hb) _ _ _ c l (strsAt_new hg) h100 (fun _ => by have := h.lt; omega)).mono fun e w' ⟨h1, h2, h3⟩ => ⟨h1, h2, (Kept1.of_below hb).trans h3⟩
set_option maxRecDepth 100000 in
set_option maxHeartbeats 2000000 in
theorem attribute_any (I : RI) (w : World) (p : PS) (h : Rd I w p) :
    Calls Tryz.prog 96 #[I.ptr] w fun e w' => e = .returned (.tuple #[.string (st (attributeP I.T p).1.1), .string (st (attributeP I.T p).1.2)]) ∧ Rd I w' (attributeP I.T p).2 ∧ Kept1 I.b w w' := by
  have HT := Lib.hid (fun c => takesNew_any I w p h whoL 4 rfl (by omega) 9 (0, 0) _ rfl c)
  have HST := Lib.hid (fun W q (hr : Rd I W q) => stop_any I W q hr)
  have HND := Lib.hid (fun W q (hr : Rd I W q) => needs_any I W q hr kDot)
  have HNM := Lib.hid (fun W q (hr : Rd I W q) => name_any I W q hr)
  clear h
  unfold attributeP attrTail
  unfold RI.ptr at *
  obtain ⟨o, ho⟩ : ∃ o, takesOneP I.T whoL p = o := ⟨_, rfl⟩
  rw [ho] at HT ⊢
  clear ho
  obtain ⟨ow, q⟩ := o
  dsimp only at HT ⊢
  have eo := toList_st ow
  obtain ⟨q', hq'⟩ : ∃ q', (if ow = [] then stopP q else q) = q' := ⟨_, rfl⟩
  rw [hq']
  have HQ' := Lib.hid hq'
  clear hq'
  obtain ⟨S, hS⟩ : ∃ S, st ow = S := ⟨_, rfl⟩
  rw [hS] at eo HT ⊢
  clear hS
  go_enter Tryz.func96, Tryz.ntmps96
  go_wp2_with fail
  refine (HT.out _).mono ?_
  rintro e w1 ⟨rfl, h1, h2⟩
  have H1 := Lib.hid h1
  have H2 := Lib.hid h2
  clear h1 h2 HT
  by_cases hw : ow = []
  · have hq : (ow == []) = true := by rw [hw]; rfl
    obtain rfl : stopP q = q' := by rw [← HQ'.out, if_pos hw]
    clear HQ'
    go_wp2_with fail
    refine (HST.out _ _ H1.out).mono ?_
    rintro e w2 ⟨rfl, h1, h2⟩
    have H3 := Lib.hid h1
    have H4 := Lib.hid (H2.out.trans h2)
    clear h1 h2 HST
    go_wp2_with fail
    refine (HND.out _ _ H3.out).mono ?_
    rintro e w3 ⟨rfl, h1, h2⟩
    have H5 := Lib.hid h1
    have H6 := Lib.hid (H4.out.trans h2)
    clear h1 h2 HND
    go_wp2_with fail
    refine (HNM.out _ _ H5.out).mono ?_
    rintro e w4 ⟨rfl, h1, h2⟩
    have H7 := Lib.hid h1
    have H8 := Lib.hid (H6.out.trans h2)
    clear h1 h2 HNM
    go_wp2_with fail
    go_ret2
    exact ⟨rfl, H7.out, H8.out⟩
  · have hq : (ow == []) = false := by simpa using hw
    obtain rfl : q = q' := by rw [← HQ'.out, if_neg hw]
    clear HQ'
    go_wp2_with fail
    refine (HND.out _ _ H1.out).mono ?_
    rintro e w3 ⟨rfl, h1, h2⟩
    have H5 := Lib.hid h1
    have H6 := Lib.hid (H2.out.trans h2)
    clear h1 h2 HND
    go_wp2_with fail
    refine (HNM.out _ _ H5.out).mono ?_
    rintro e w4 ⟨rfl, h1, h2⟩
    have H7 := Lib.hid h1
    have H8 := Lib.hid (H6.out.trans h2)
    clear h1 h2 HNM
    go_wp2_with fail
    go_ret2
    exact ⟨rfl, H7.out, H8.out⟩
set_option maxRecDepth 100000 in
set_option maxHeartbeats 1000000 in
theorem attr_any (I : RI) (w : World) (p : PS) (h : Rd I w p) (op : List UInt8) :
    Calls Tryz.prog 152 #[I.ptr, .string (st op)] w (PostT I w (attrP I.T op p)) := by
  have HA := Lib.hid (fun W (hb : Below w.heap.size w W) => attribute_any I W p (h.below hb))
  have hlt := h.lt
  have HLT := Lib.hid hlt
  have H := Lib.hid h
  clear h hlt
  unfold attrP
  obtain ⟨o, ho⟩ : ∃ o, attributeP I.T p = o := ⟨_, rfl⟩
  rw [ho] at HA ⊢
  clear ho
  obtain ⟨⟨ow, on⟩, q⟩ := o
  dsimp only at HA ⊢
  obtain ⟨S, hS⟩ : ∃ S, st op = S := ⟨_, rfl⟩
  rw [hS]
  have HS := Lib.hid hS
  clear hS
  unfold RI.ptr at *
  go_enter Tryz.func152, Tryz.ntmps152
  go_wp2_with fail
  have hb0 : Below w.heap.size w (w.alloc (.cells #[.string ⟨#[]⟩, .int .i64 0, .int .i64 0, .string ⟨#[]⟩, .slice none 0 0, .string ⟨#[]⟩, .string ⟨#[]⟩, .slice none 0 0] 27)) := (Below.refl _ _).alloc (Nat.le_refl _) _
  refine (HA.out _ hb0).mono ?_
  rintro e w1 ⟨rfl, h1, h2⟩
  have g1 : w1.heap[w.heap.size]? = some (.cells #[.string ⟨#[]⟩, .int .i64 0, .int .i64 0, .string ⟨#[]⟩, .slice none 0 0, .string ⟨#[]⟩, .string ⟨#[]⟩, .slice none 0 0] 27 (0, 0)) := by
    rw [h2.block _ (by simp) (by have := HLT.out; omega)]; exact heap_alloc_new _ _
  have H1 := Lib.hid h1
  have H2 := Lib.hid ((Kept1.of_below hb0).trans h2)
  have g0 := HLT.out
  have hne : w.heap.size ≠ I.b := by omega
  clear h1 h2 hb0 HA
  have x0 := cell_block g1 0
  have x1 := cell_block g1 1
  have x2 := cell_block g1 2
  have x3 := cell_block g1 3
  have x4 := cell_block g1 4
  have x5 := cell_block g1 5
  have x6 := cell_block g1 6
  have x7 := cell_block g1 7
  have xf : ∀ o, w1.frozen? ⟨w.heap.size, o, none⟩ = false := fun o => by simp [World.frozen?, g1]
  simp only [List.getElem?_toArray, List.getElem?_cons_zero, List.getElem?_cons_succ] at x0 x1 x2 x3 x4 x5 x6 x7
  go_wp2_with fail
  exact bodyPost_ret (v := XV.v ⟨S, ⟨0, 0, ⟨#[]⟩, none, 0, 0⟩, st ow, st on, none, 0, 0⟩) (by simp [results, Tryz.results152, go_sem, XV.v, x0, x1, x2, x3, x4, x5, x6, x7]) rfl
    (fin8 (N := w.heap.size + 1) H.out (by rw [← HS.out]; exact trAt_leaf _ (valIs_none _ _) none 0) H1.out H2.out (Nat.le_refl _) (Nat.lt_succ_self _) (kept_set8 _ _ _ _ _ _ _ _ _))
end Go.Proofs.YtllgodaphoncnaaGreatDoor
