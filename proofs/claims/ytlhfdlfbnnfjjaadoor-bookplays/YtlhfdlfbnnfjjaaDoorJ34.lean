/- Crash; What crashes come to, as plain lists; What stands on a disk behind appends and crashes, as plain lists. -/
import Derived.Test.YtlhfdlfbnnfjjaaDoorJ33
import Derived.Test.YtlhfdlfbnnfjjaaDoorJ31
namespace Go.Proofs.YtlhfdlfbnnfjjaaDoor
open Go.RowKit Go.Shelf
attribute [local go_sem] Oper.semAt_some

/-- sectors with what stood there ahead of these writes -/
def undoL (S : List (List UInt8)) (l : List WrR) : List (List UInt8) := l.foldl (fun S r => S.set r.place r.before) S
/-- sectors with those of the writes that are picked -/
def redoL : List Bool → List WrR → List (List UInt8) → List (List UInt8)
  | b :: bs, r :: ws, S => redoL bs ws (if b then S.set r.place r.after else S)
  | _, _, S => S
set_option maxRecDepth 100000 in
theorem undoL_snoc (S : List (List UInt8)) (l : List WrR) (r : WrR) : undoL S (l ++ [r]) = (undoL S l).set r.place r.before := by simp [undoL]
set_option maxRecDepth 100000 in
theorem length_undoL (l : List WrR) : ∀ S, (undoL S l).length = S.length := by
  induction l with
  | nil => intro S; rfl
  | cons r l ih => intro S; simp only [undoL, List.foldl_cons] at ih ⊢; rw [ih]; simp
set_option maxRecDepth 100000 in
theorem redoL_snoc : ∀ (bs : List Bool) (ws : List WrR) (S : List (List UInt8)) (k : Nat) (hk : k < ws.length),
    redoL bs (ws.take (k + 1)) S = if bs.getD k false then (redoL bs (ws.take k) S).set ws[k].place ws[k].after else redoL bs (ws.take k) S
  | [], r :: ws, S, k, hk => by cases k <;> simp [redoL]
  | b :: bs, r :: ws, S, 0, hk => by simp [redoL]
  | b :: bs, r :: ws, S, k + 1, hk => by
    have := redoL_snoc bs ws (if b then S.set r.place r.after else S) k (by simpa using hk)
    simpa [redoL] using this
set_option maxRecDepth 100000 in
theorem length_redoL : ∀ (bs : List Bool) (ws : List WrR) (S : List (List UInt8)), (redoL bs ws S).length = S.length
  | b :: bs, r :: ws, S => by rw [redoL, length_redoL bs ws]; split <;> simp
  | [], _, S => by simp [redoL]
  | _ :: _, [], S => by simp [redoL]
/-- the state behind a crash -/
def DSt.crash (s : DSt) (bs : List Bool) : DSt := ⟨redoL bs s.ws (undoL s.S s.ws.reverse), [], 0, false⟩

section
variable {P : Program} {ops : Array Oper} {Q : Exit → Act → World → Prop} {rest : List Oper} {o : Oper} {a : Act} {w : World}
set_option maxRecDepth 100000 in
theorem wpList_run (hgd : o.guard = none) (v : Value) (w' : World) (hr : (execOp a.eval o).run P w = .ok (.value v) w') (h : wpList P ops Q rest (a.put o.dst v) w') : wpList P ops Q (o :: rest) a w := by
  refine wpList_plain hgd fun K hK => ?_
  unfold Oper.wp
  rw [hr]
  exact hK _ _ h
end
/-- a disk in mid-crash -/
structure Mid (w W0 : World) (N d gs : Nat) (v : Value) (s : DSt) (S : List (List UInt8)) (W : World) : Prop where
  at' : DAt W N d gs v { s with S := S }
  box : W.heap[w.heap.size]? = some (.cells #[.pointer (some ⟨d, 0, none⟩)] 25 (0, 0))
  kept : KeptB W0.heap.size gs W0 W
set_option maxRecDepth 100000 in
theorem Mid.own {w W0 : World} {N d gs : Nat} {v : Value} {s : DSt} {β : Type} (f : β → List (List UInt8)) (h0 : DAt w N d gs v s) (hW : w.heap.size + 1 ≤ W0.heap.size) : OwnFrom W0.heap.size (fun (x : β) W => Mid w W0 N d gs v s (f x) W) := fun x A B row hs hg hr => by
  have hne : ∀ k, k < W0.heap.size → row ≠ some k := fun k hk e => by have := (hr k e).1; omega
  have hsz := hs.kept.size
  refine ⟨hs.at'.same fun k hk => hg.block k (hs.at'.footN hk).2 (Ne.symm (hne k (by have := (h0.footN hk).2; omega))), ?_, hs.kept.trans (.of_grown hg hsz fun r e => .inl (hr r e).1)⟩
  exact (hg.block _ (lt_block hs.box) (Ne.symm (hne _ (by omega)))).trans hs.box

set_option maxRecDepth 100000 in
theorem Mid.below {w W0 W W' : World} {N d gs : Nat} {v : Value} {s : DSt} {S : List (List UInt8)} (h : Mid w W0 N d gs v s S W) (hb : Below W.heap.size W W') : Mid w W0 N d gs v s S W' :=
  ⟨h.at'.below hb, (hb.block _ (lt_block h.box)).trans h.box, h.kept.trans (.of_below (hb.mono h.kept.size))⟩
set_option maxRecDepth 100000 in
theorem Mid.put {w W0 W : World} {N d gs : Nat} {v : Value} {s : DSt} {S : List (List UInt8)} (h : Mid w W0 N d gs v s S W) (hg : gs ≠ w.heap.size) (i : Nat) (hi : i < S.length) (b : List UInt8) (hb : b.length = 64) :
    Mid w W0 N d gs v s (S.set i b) (W.setCells gs (i * 64) (b.map B)) ∧ Kept1 gs W (W.setCells gs (i * 64) (b.map B)) := by
  obtain ⟨D5, K5⟩ := h.at'.put i hi b hb
  exact ⟨⟨D5, (K5.block _ (lt_block h.box) (Ne.symm hg)).trans h.box, h.kept.trans (.of_kept1 K5 h.kept.size)⟩, K5⟩
end Go.Proofs.YtlhfdlfbnnfjjaaDoor
namespace Go.Proofs.YtlhfdlfbnnfjjaaDoor
open Go.RowKit

/-- sectors with all of these writes -/
def redoA (ws : List WrR) (S : List (List UInt8)) : List (List UInt8) := ws.foldl (fun S r => S.set r.place r.after) S
/-- sectors are what these writes made of others -/
structure Hist (S0 : List (List UInt8)) (s : DSt) : Prop where
  undo : undoL s.S s.ws.reverse = S0
  redo : redoA s.ws S0 = s.S
set_option maxRecDepth 100000 in
theorem burnt_S (s : DSt) : s.burnt.S = s.S ∧ s.burnt.ws = s.ws := by unfold DSt.burnt; split <;> exact ⟨rfl, rfl⟩
set_option maxRecDepth 100000 in
theorem wrote_S (s : DSt) (i : Nat) (b : List UInt8) : (s.wrote i b).S = s.S.set i b ∧ (s.wrote i b).ws = s.ws ++ [⟨i, s.S[i]?.getD [], b⟩] := by unfold DSt.wrote; exact burnt_S _
set_option maxRecDepth 100000 in
theorem Hist.wrote {S0 : List (List UInt8)} {s : DSt} (h : Hist S0 s) (i : Nat) (hi : i < s.S.length) (b : List UInt8) : Hist S0 (s.wrote i b) := by
  obtain ⟨e1, e2⟩ := wrote_S s i b
  refine ⟨?_, ?_⟩
  · rw [e1, e2, List.reverse_append, List.reverse_singleton, List.singleton_append]
    show undoL ((s.S.set i b).set i (s.S[i]?.getD [])) s.ws.reverse = S0
    rw [List.set_set, List.getElem?_eq_getElem hi, Option.getD_some, List.set_getElem_self, h.undo]
  · rw [e1, e2]
    unfold redoA
    rw [List.foldl_append]
    show ((redoA s.ws S0).set i b) = _
    rw [h.redo]
set_option maxRecDepth 100000 in
theorem Hist.none (s : DSt) (h : s.ws = []) : Hist s.S s := by
  refine ⟨?_, ?_⟩ <;> rw [h] <;> rfl
set_option maxRecDepth 100000 in
theorem redoL_all : ∀ (n : Nat) (ws : List WrR) (S : List (List UInt8)), ws.length ≤ n → redoL (List.replicate n true) ws S = redoA ws S
  | 0, [], S, _ => by simp [redoL, redoA]
  | n + 1, [], S, _ => by simp [List.replicate_succ, redoL, redoA]
  | n + 1, r :: ws, S, h => by
    rw [List.replicate_succ, redoL, redoL_all n ws _ (by simpa using h)]
    simp [redoA]
set_option maxRecDepth 100000 in
theorem redoL_none : ∀ (n : Nat) (ws : List WrR) (S : List (List UInt8)), redoL (List.replicate n false) ws S = S
  | 0, _, S => by simp [redoL]
  | n + 1, [], S => by simp [List.replicate_succ, redoL]
  | n + 1, r :: ws, S => by
    rw [List.replicate_succ, redoL, redoL_none n ws]
    simp
set_option maxRecDepth 100000 in
theorem crash_all {S0 : List (List UInt8)} {s : DSt} (h : Hist S0 s) (n : Nat) (hn : s.ws.length ≤ n) (b : Bool) : (s.crash (List.replicate n b)).S = if b then s.S else S0 := by
  unfold DSt.crash
  rw [h.undo]
  cases b
  · exact redoL_none n _ _
  · show redoL (List.replicate n true) s.ws S0 = s.S
    rw [redoL_all n _ _ hn, h.redo]
set_option maxRecDepth 100000 in
theorem undoL_get (p : Nat) : ∀ (l : List WrR) (S : List (List UInt8)), (∀ r ∈ l, r.place ≠ p) → (undoL S l)[p]? = S[p]?
  | [], _, _ => rfl
  | r :: l, S, h => by
    show (undoL (S.set r.place r.before) l)[p]? = _
    rw [undoL_get p l _ (fun x hx => h x (List.mem_cons_of_mem _ hx)), List.getElem?_set_ne (h r (List.mem_cons_self ..))]
set_option maxRecDepth 100000 in
theorem redoL_get (p : Nat) : ∀ (bs : List Bool) (l : List WrR) (S : List (List UInt8)), (∀ r ∈ l, r.place ≠ p) → (redoL bs l S)[p]? = S[p]?
  | b :: bs, r :: l, S, h => by
    rw [redoL, redoL_get p bs l _ (fun x hx => h x (List.mem_cons_of_mem _ hx))]
    split
    · rw [List.getElem?_set_ne (h r (List.mem_cons_self ..))]
    · rfl
  | [], _, _, _ => by simp [redoL]
  | _ :: _, [], _, _ => by simp [redoL]
set_option maxRecDepth 100000 in
theorem crash_get (s : DSt) (bs : List Bool) (p : Nat) (h : ∀ r ∈ s.ws, r.place ≠ p) : (s.crash bs).S[p]? = s.S[p]? := by
  unfold DSt.crash
  rw [redoL_get p bs _ _ h, undoL_get p _ _ (fun r hr => h r (List.mem_reverse.1 hr))]
set_option maxRecDepth 100000 in
theorem crash_len (s : DSt) (bs : List Bool) : (s.crash bs).S.length = s.S.length := by simp only [DSt.crash, length_redoL, length_undoL]

set_option maxRecDepth 100000 in
/-- sectors of one byte each -/
theorem map_set64 (L : List UInt8) (p : Nat) (c : UInt8) : (L.map sec64).set p (sec64 c) = (L.set p c).map sec64 := by rw [List.map_set]
set_option maxRecDepth 100000 in
theorem new_map : (DSt.new 20).S = (List.replicate 20 (0 : UInt8)).map sec64 := by
  show List.replicate 20 z64 = _
  rw [List.map_replicate]
  rfl
/-- pairs of bytes in memory -/
structure Pairs (w : World) (ad : Option Addr) (g o : Nat) (ps : List (UInt8 × UInt8)) : Prop where
  addr : ps ≠ [] → ad = some ⟨g, o, none⟩
  c0 : ∀ i, (h : i < ps.length) → w.cell? ⟨g, o + i * 2, none⟩ = some (B ps[i].1)
  c1 : ∀ i, (h : i < ps.length) → w.cell? ⟨g, o + i * 2 + 1, none⟩ = some (B ps[i].2)
set_option maxRecDepth 100000 in
theorem Pairs.below {w w' : World} {ad : Option Addr} {g o : Nat} {ps : List (UInt8 × UInt8)} {N : Nat} (h : Pairs w ad g o ps) (hb : Below N w w') (hN : ps ≠ [] → g < N) : Pairs w' ad g o ps := by
  refine ⟨h.addr, fun i hi => ?_, fun i hi => ?_⟩
  · rw [hb.cell (by exact hN (by intro e; rw [e] at hi; cases hi))]; exact h.c0 i hi
  · rw [hb.cell (by exact hN (by intro e; rw [e] at hi; cases hi))]; exact h.c1 i hi
set_option maxRecDepth 100000 in
theorem Pairs.lt {w : World} {ad : Option Addr} {g o : Nat} {ps : List (UInt8 × UInt8)} (h : Pairs w ad g o ps) (hn : ps ≠ []) : g < w.heap.size :=
  block_lt_of_cell (h.c0 0 (List.length_pos_iff.2 hn))
end Go.Proofs.YtlhfdlfbnnfjjaaDoor
namespace Go.Proofs.YtlhfdlfbnnfjjaaDoor
open Go.RowKit

/-! a record's own sectors -/
set_option maxRecDepth 100000 in
theorem numU_numB (n size : Nat) (h : n < 256 ^ size) : numU (numB n size) = n := by
  have key : ∀ size n, numU (numB n size) = n % 256 ^ size := by
    intro size
    induction size with
    | zero => intro n; simp [numB, numU]; omega
    | succ k ih =>
      intro n
      have e : numB n (k + 1) = numB (n / 256) k ++ [UInt8.ofNat n] := by
        apply List.ext_getElem
        · simp [numB]
        · intro i h1 h2
          simp only [numB, List.getElem_map, List.getElem_range]
          rw [List.getElem_append]
          have hi : i < k + 1 := by simpa [numB] using h1
          split
          · rename_i hl
            have hl' : i < k := by simpa [numB] using hl
            simp only [List.getElem_map, List.getElem_range]
            rw [Nat.div_div_eq_div_mul, ← Nat.pow_succ', show k + 1 - 1 - i = (k - 1 - i).succ by omega]
          · rename_i hl
            have hl' : i = k := by simp at hl; omega
            subst hl'
            simp
      rw [e, numU_snoc, ih, Nat.pow_succ']
      have h2 : (UInt8.ofNat n).toNat = n % 256 := by simp
      rw [h2, Nat.mod_mul]
      omega
  rw [key, Nat.mod_eq_of_lt h]
set_option maxRecDepth 100000 in
theorem rdS_encS (h : Hd) (hh : h.Ok) (r : List UInt8) : rdS (encS h r) = (h, r ++ List.replicate (52 - r.length) 0) := by
  obtain ⟨h1, h2, h3, h4, h5⟩ := hh
  have l4 := fun n => numB_length n 4
  have l1 := fun n => numB_length n 1
  have l2 := fun n => numB_length n 2
  unfold rdS
  have e12 : (encS h r).drop 12 = r ++ List.replicate (52 - r.length) 0 := by
    unfold encS
    rw [List.drop_left' (length_encH h)]
  rw [e12]
  congr 1
  have e : encS h r = numB h.n 4 ++ (numB h.g 4 ++ (numB h.p 1 ++ (numB h.c 1 ++ (numB h.l 2 ++ (r ++ List.replicate (52 - r.length) 0))))) := by simp [encS, encH, List.append_assoc]
  unfold rdH
  rw [e]
  have d4 : ∀ X : List UInt8, (numB h.n 4 ++ X).drop 4 = X := fun X => List.drop_left' (l4 _)
  have d8 : ∀ X : List UInt8, (numB h.n 4 ++ (numB h.g 4 ++ X)).drop 8 = X := fun X => by rw [show (8 : Nat) = 4 + 4 from rfl, ← List.drop_drop, d4]; exact List.drop_left' (l4 _)
  have d9 : ∀ X : List UInt8, (numB h.n 4 ++ (numB h.g 4 ++ (numB h.p 1 ++ X))).drop 9 = X := fun X => by rw [show (9 : Nat) = 8 + 1 from rfl, ← List.drop_drop, d8]; exact List.drop_left' (l1 _)
  have d10 : ∀ X : List UInt8, (numB h.n 4 ++ (numB h.g 4 ++ (numB h.p 1 ++ (numB h.c 1 ++ X)))).drop 10 = X := fun X => by rw [show (10 : Nat) = 9 + 1 from rfl, ← List.drop_drop, d9]; exact List.drop_left' (l1 _)
  rw [d4, d8, d9, d10, List.take_left' (l4 _), List.take_left' (l4 _), List.take_left' (l1 _), List.take_left' (l1 _), List.take_left' (l2 _), numU_numB _ _ (by omega), numU_numB _ _ (by omega), numU_numB _ _ (by omega), numU_numB _ _ (by omega), numU_numB _ _ (by omega)]
/-- a part's sector, read -/
def newS (n g k : Nat) (l : List UInt8) : Sec := (cutH n g k l, cutB l k ++ List.replicate (52 - (cutB l k).length) 0)
set_option maxRecDepth 100000 in
theorem rdS_secB (n g k : Nat) (l : List UInt8) (hn : n ≤ 8192) (hg : g < 4294967296) (hk : k ≤ 79) (hl : l.length ≤ 4096) : rdS (secB n g k l) = newS n g k l := rdS_encS _ (cutH_ok n g k l hn hg hk hl) _
def newT (n g : Nat) (l : List UInt8) : List Sec := (List.range (nParts l.length)).map fun k => newS n g k l
set_option maxRecDepth 100000 in
theorem newS_stands (n g k : Nat) (l : List UInt8) (_ : k < nParts l.length) : standsB (newS n g k l).1 (newS n g k l).2 (cutH n g 0 l) k = true := by
  have hlen : (cutB l k).length = min 52 (l.length - k * 52) := by rw [cutB, List.length_take, List.length_drop]
  unfold standsB newS
  simp only [Bool.and_eq_true]
  refine ⟨?_, ?_, ?_⟩
  · unfold belB cutH; simp
  · unfold fitsB cutH
    dsimp only
    unfold nParts
    split
    · rename_i h
      have : (cutB l k).length = 52 := by omega
      simp [this]
    · have : (cutB l k).length ≤ 52 := by omega
      simp; omega
  · unfold noughtsB cutH
    dsimp only
    rw [List.drop_left]
    simp
set_option maxRecDepth 100000 in
theorem newS_part (n g k : Nat) (l : List UInt8) : (newS n g k l).2.take (newS n g k l).1.l = cutB l k := by
  unfold newS cutH
  dsimp only
  rw [List.take_left]
set_option maxRecDepth 100000 in
theorem cut_all (l : List UInt8) (m : Nat) : (List.range m).flatMap (fun k => cutB l k) = l.take (m * 52) := by
  induction m with
  | zero => simp
  | succ m ih =>
    rw [List.range_succ, List.flatMap_append, ih]
    simp only [List.flatMap_cons, List.flatMap_nil, List.append_nil, cutB]
    rw [Nat.add_mul, Nat.one_mul, List.take_add]
set_option maxRecDepth 100000 in
theorem rec_newT (n g : Nat) (l : List UInt8) (X : List Sec) : recOf (newT n g l ++ X) (nParts l.length) = l := by
  unfold recOf
  rw [List.take_left' (by simp [newT])]
  unfold newT
  rw [List.flatMap_map]
  have e : (fun k => (newS n g k l).2.take (newS n g k l).1.l) = fun k => cutB l k := by funext k; exact newS_part n g k l
  rw [e, cut_all, List.take_of_length_le]
  unfold nParts; omega
set_option maxRecDepth 100000 in
theorem newT_get (n g : Nat) (l : List UInt8) (X : List Sec) (i : Nat) (hi : i < nParts l.length) : (newT n g l ++ X)[i]? = some (newS n g i l) := by
  rw [List.getElem?_append_left (by simpa [newT] using hi)]
  simp [newT, hi]
set_option maxRecDepth 100000 in
theorem newT_stands (n g : Nat) (l : List UInt8) (hl : l.length ≤ 4096) (X : List Sec) (least : Nat) (hle : least ≤ g) : Stands (newT n g l ++ X) (n + 1) least (cutH n g 0 l) (nParts l.length) := by
  have hm : 1 ≤ nParts l.length ∧ nParts l.length ≤ 79 := ⟨by unfold nParts; omega, nParts_le _ hl⟩
  refine ⟨⟨_, newT_get n g l X 0 (by omega)⟩, ?_, rfl, by simp [newT], fun i hi x hx => ?_⟩
  · unfold begB cutH
    dsimp only
    simp only [Bool.and_eq_true, beq_iff_eq, decide_eq_true_eq]
    exact ⟨trivial, by omega, by omega, by omega⟩
  · rw [newT_get n g l X i hi] at hx
    cases hx
    exact newS_stands n g i l hi

/-! what is read depends on the first sectors alone -/
set_option maxRecDepth 100000 in
theorem Stands.congr {T U : List Sec} {n l : Nat} {f : Hd} {c : Nat} (h : Stands T n l f c) (he : ∀ i, i < c → U[i]? = T[i]?) (hl : c ≤ U.length) : Stands U n l f c := by
  obtain ⟨r, hr⟩ := h.first
  have hp := h.pos
  exact ⟨⟨r, (he 0 (by omega)).trans hr⟩, h.beg, h.count, hl, fun i hi x hx => h.all i hi x ((he i hi).symm.trans hx)⟩
set_option maxRecDepth 100000 in
theorem recOf_congr {T U : List Sec} {c : Nat} (he : ∀ i, i < c → U[i]? = T[i]?) : recOf U c = recOf T c := by
  unfold recOf
  congr 1
  apply List.ext_getElem?
  intro i
  rw [List.getElem?_take, List.getElem?_take]
  split
  · rename_i h; exact he i h
  · rfl
set_option maxRecDepth 100000 in
theorem Reads.more {T T' : List Sec} {n l l' : Nat} {rs : List (List UInt8)} (h : Reads T n l rs T' l') (X : List Sec) : Reads (T ++ X) n l rs (T' ++ X) l' := by
  induction h with
  | nil T n l => exact .nil _ _ _
  | cons h1 h2 k ih =>
    rename_i T T' n l l' f c rs
    have hr := h1.room
    have he : ∀ i, i < c → (T ++ X)[i]? = T[i]? := fun i hi => List.getElem?_append_left (by omega)
    have e := recOf_congr he
    have k2 := Reads.cons (h1.congr he (by simp; omega)) (by rw [e]; exact h2) (by rw [List.drop_append_of_le_length hr]; exact ih)
    rwa [e] at k2
set_option maxRecDepth 100000 in
theorem Reads.split {T T' : List Sec} {n l l' : Nat} {rs : List (List UInt8)} (h : Reads T n l rs T' l') : ∃ P, T = P ++ T' ∧ Reads P n l rs [] l' := by
  induction h with
  | nil T n l => exact ⟨[], rfl, .nil _ _ _⟩
  | cons h1 h2 k ih =>
    rename_i T T' n l l' f c rs
    obtain ⟨P, hP, hR⟩ := ih
    have hr := h1.room
    have hlen : (T.take c).length = c := by rw [List.length_take]; omega
    have he : ∀ i, i < c → (T.take c ++ P)[i]? = T[i]? := fun i hi => by
      rw [List.getElem?_append_left (by omega), List.getElem?_take, if_pos hi]
    have e := recOf_congr he
    refine ⟨T.take c ++ P, by rw [List.append_assoc, ← hP, List.take_append_drop], ?_⟩
    have k2 := Reads.cons (h1.congr he (by simp; omega)) (by rw [e]; exact h2) (by rw [List.drop_left' hlen]; exact hR)
    rwa [e] at k2
set_option maxRecDepth 100000 in
theorem Reads.bound {T T' : List Sec} {n l l' : Nat} {rs : List (List UInt8)} (h : Reads T n l rs T' l') {G : Nat} (hl : l ≤ G) (hT : ∀ x ∈ T, x.1.g ≤ G) : l' ≤ G := by
  induction h with
  | nil => exact hl
  | cons h1 h2 k ih =>
    obtain ⟨r, hr⟩ := h1.first
    exact ih (hT _ (List.mem_of_getElem? hr)) fun x hx => hT x (List.mem_of_mem_drop hx)
set_option maxRecDepth 100000 in
theorem greatG_le (T : List Sec) : ∀ x ∈ T, x.1.g ≤ greatG T := by
  have key : ∀ (T : List Sec) (m : Nat), (m ≤ T.foldl (fun g x => max g x.1.g) m) ∧ ∀ x ∈ T, x.1.g ≤ T.foldl (fun g x => max g x.1.g) m := by
    intro T
    induction T with
    | nil => intro m; exact ⟨Nat.le_refl _, fun x hx => absurd hx (by simp)⟩
    | cons y T ih =>
      intro m
      obtain ⟨h1, h2⟩ := ih (max m y.1.g)
      refine ⟨by simp only [List.foldl_cons]; omega, fun x hx => ?_⟩
      simp only [List.foldl_cons]
      rcases List.mem_cons.1 hx with rfl | hx
      · omega
      · exact h2 x hx
  exact (key T 0).2
set_option maxRecDepth 100000 in
theorem greatG_bound (T : List Sec) (G : Nat) (h : ∀ x ∈ T, x.1.g ≤ G) : greatG T ≤ G := by
  have key : ∀ (T : List Sec) (m : Nat), m ≤ G → (∀ x ∈ T, x.1.g ≤ G) → T.foldl (fun g x => max g x.1.g) m ≤ G := by
    intro T
    induction T with
    | nil => intro m hm _; exact hm
    | cons y T ih =>
      intro m hm h
      simp only [List.foldl_cons]
      exact ih _ (by have := h y (List.mem_cons_self ..); omega) fun x hx => h x (List.mem_cons_of_mem _ hx)
  exact key T 0 (Nat.zero_le _) h

/-- what a book and its sectors are like, between two calls -/
structure BInv (S : List (List UInt8)) (gen room : Nat) (rs : List (List UInt8)) : Prop where
  ex : ∃ P X L, S.map rdS = P ++ X ∧ X.length = room ∧ Reads P 1 1 rs [] L ∧ Stop X (rs.length + 1) L ∧ L ≤ gen ∧ ∀ x ∈ X, x.1.g < gen
  gens : ∀ x ∈ S.map rdS, x.1.g ≤ gen
  one : 1 ≤ gen
set_option maxRecDepth 100000 in
theorem BInv.opened {S : List (List UInt8)} {rs : List (List UInt8)} {T : List Sec} {l : Nat} (h : Reads (S.map rdS) 1 1 rs T l) (hs : Stop T (rs.length + 1) l) : BInv S (greatG (S.map rdS) + 1) T.length rs := by
  obtain ⟨P, hP, hR⟩ := h.split
  have hg := greatG_le (S.map rdS)
  refine ⟨⟨P, T, l, hP, rfl, hR, hs, h.bound (by omega) fun x hx => by have := hg x hx; omega, fun x hx => ?_⟩, fun x hx => by have := hg x hx; omega, by omega⟩
  have := hg x (by rw [hP]; exact List.mem_append_right _ hx)
  omega
set_option maxRecDepth 100000 in
theorem BInv.room_le {S : List (List UInt8)} {gen room : Nat} {rs : List (List UInt8)} (h : BInv S gen room rs) : room ≤ S.length := by
  obtain ⟨P, X, L, e, hx, _⟩ := h.ex
  have := congrArg List.length e
  simp at this; omega
set_option maxRecDepth 100000 in
theorem stop_less {X : List Sec} {n g : Nat} (h : ∀ x ∈ X, x.1.g < g) : Stop X n g := fun f c hs => by
  obtain ⟨r, hr⟩ := hs.first
  have h1 := h _ (List.mem_of_getElem? hr)
  have h2 := hs.beg
  unfold begB at h2
  simp only [Bool.and_eq_true, decide_eq_true_eq] at h2
  dsimp only at h1
  omega
set_option maxRecDepth 100000 in
/-- sectors of which some are a new record's, but not all of those: they say no more than before -/
theorem stop_part {X Y : List Sec} {n g L : Nat} {l : List UInt8} (hX : ∀ x ∈ X, x.1.g < g) (hst : Stop X (n + 1) L) (hlen : Y.length = X.length) (hY : ∀ i, Y[i]? = X[i]? ∨ (i < nParts l.length ∧ Y[i]? = some (newS n g i l))) (hno : ∃ i, i < nParts l.length ∧ Y[i]? = X[i]?) : Stop Y (n + 1) L := by
  intro f c hs
  obtain ⟨r, hr⟩ := hs.first
  have hp := hs.pos
  have hgen : ∀ i, i < c → ∀ x, Y[i]? = some x → x.1.g = f.g := fun i hi x hx => by
    have := hs.all i hi x hx
    unfold standsB belB at this
    simp only [Bool.and_eq_true, decide_eq_true_eq] at this
    rw [this.1]
  rcases hY 0 with h0 | ⟨h0, h1⟩
  · have hfg : f.g < g := by
      have := hX _ (List.mem_of_getElem? (h0.symm.trans hr))
      exact this
    have he : ∀ i, i < c → X[i]? = Y[i]? := fun i hi => by
      rcases hY i with h | ⟨_, h⟩
      · exact h.symm
      · have := hgen i hi _ h
        unfold newS cutH at this
        dsimp only at this
        omega
    rw [← recOf_congr he]
    exact hst f c (hs.congr he (by have := hs.room; omega))
  · rw [hr] at h1
    have hf : f = cutH n g 0 l := congrArg Prod.fst (Option.some.inj h1)
    have hc : c = nParts l.length := by rw [← hs.count, hf]; rfl
    obtain ⟨i, hi, hix⟩ := hno
    have hroom := hs.room
    have hiY : i < Y.length := by omega
    have hy : Y[i]? = some Y[i] := List.getElem?_eq_getElem hiY
    have h2 := hgen i (by omega) _ hy
    have h3 := hX _ (List.mem_of_getElem? (hix.symm.trans hy))
    have h4 : f.g = g := by rw [hf]; rfl
    omega
end Go.Proofs.YtlhfdlfbnnfjjaaDoor
