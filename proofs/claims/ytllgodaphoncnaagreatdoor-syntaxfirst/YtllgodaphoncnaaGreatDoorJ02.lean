/- A region that draws its order: operations that only read (callees may draw), then a tail in one forced order. One walk of the text's order serves every order; What a byte is; how many bytes are so. -/
import Derived.Deep.Quiet
import Derived.StillTail
import Derived.BigQuiet
import Derived.Deep.MidRow
import Derived.WalkSmall
import Derived.Test.YtllgodaphoncnaaGreatDoorJ01
import Derived.WalkKit
import Derived.WalkSpells
import Derived.WalkLawsBesides
import Derived.Lib.Hide
import Derived.Lib.SmallJoins
import Derived.Laws.Strings
namespace Go.Proofs.YtllgodaphoncnaaGreatDoor
open Go

section
variable {P : Program} {ops : Array Oper} {md : Region.Mode} {C : World → Prop}

/-- whatever order is picked among the first n, and then L -/
def wpHeadQ (P : Program) (md : Region.Mode) (ops : Array Oper) (C : World → Prop) (n : Nat) (L : Array Bool → Act → Prop) : Nat → Array Bool → Act → Prop
  | 0, listed, a => L listed a
  | f + 1, listed, a =>
    Region.ready md ops listed ≠ [] ∧ ∀ i ∈ Region.ready md ops listed, i < n ∧ qOp P ops C i (wpHeadQ P md ops C n L f (listed.setIfInBounds i true)) a

set_option maxRecDepth 100000 in
theorem wpAny_of_headQ {n g : Nat} {L : Array Bool → Act → Prop} {Q' : Exit → Act → World → Prop} (hL : ∀ listed a w, C w → L listed a → wpAny P md ops Q' g listed a w) :
    ∀ (f : Nat) (listed : Array Bool) (a : Act) (w : World), C w → wpHeadQ P md ops C n L f listed a → wpAny P md ops Q' (f + g) listed a w
  | 0, listed, a, w, hw, h => by rw [Nat.zero_add]; exact hL _ _ _ hw h
  | f + 1, listed, a, w, hw, h => by
    rw [show f + 1 + g = (f + g) + 1 by omega]
    exact ⟨fun h0 => absurd h0 h.1, fun i hi => wpOp_of_qOp hw (fun a' w' hw' h' => wpAny_of_headQ hL f _ a' w' hw' h') (h.2 i hi).2⟩

set_option maxRecDepth 100000 in
theorem wpHeadQ_first {n i : Nat} {oi : Oper} {v : Value} {L : Array Bool → Act → Prop} (hi : ops[i]? = some oi) (hsel : ∀ (j : Nat) (o : Oper) cs b, ops[j]? = some o → o.op ≠ .select cs b)
    (hs : Region.sinkB md ops n = true) (hc : Region.chainB md ops n = true) (hn : n < ops.size) (hin : i < n)
    (hdone : ∀ listed a, L listed a → ∀ j ∈ Region.ready md ops listed, n ≤ j) :
    ∀ (f : Nat) (listed : Array Bool) (a : Act), HeadInv md ops n listed →
      (∀ j oj, ops[j]? = some oj → j ≠ i → listed.getD j true = false → (∀ e ∈ oj.after, Region.binds md e = true → e.on ≠ i) → oi.apart ops oj = true) →
      i ∈ Region.ready md ops listed → YieldsIn P ops C oi v a →
      wpHeadQ P md ops C n L f (listed.setIfInBounds i true) (a.put oi.dst v) → wpHeadQ P md ops C n L (f + 1) listed a := by
  intro f
  induction f with
  | zero =>
    intro listed a inv _ hr hy H
    have hun := (mem_ready.1 hr).1
    refine ⟨fun h => (by rw [h] at hr; cases hr), fun j hj => ?_⟩
    have hjn : j < n := (Nat.lt_or_ge j n).elim id fun h => absurd hj (tail_waits hs hc hn inv _ i rfl hin hun j h)
    refine ⟨hjn, ?_⟩
    by_cases hji : j = i
    · subst hji; exact hy.qOp hi H
    · have := hdone _ _ H j (ready_mono hj hji); omega
  | succ f ih =>
    intro listed a inv hfree hr hy H
    have hun := (mem_ready.1 hr).1
    refine ⟨fun h => (by rw [h] at hr; cases hr), fun j hj => ?_⟩
    have hjn : j < n := (Nat.lt_or_ge j n).elim id fun h => absurd hj (tail_waits hs hc hn inv _ i rfl hin hun j h)
    refine ⟨hjn, ?_⟩
    by_cases hji : j = i
    · subst hji; exact hy.qOp hi H
    · have h1 := (H.2 j (ready_mono hj hji)).2
      obtain ⟨hjun, oj, hoj, hall⟩ := mem_ready.1 hj
      have hnot : ∀ e ∈ oj.after, Region.binds md e = true → e.on ≠ i := fun e he hb heq => by
        have h1 := hall e he hb
        rw [heq, getD_both hun] at h1
        cases h1
      have h2 := qOp_put hoj (hfree j oj hoj hji hjun hnot) (fun cs b => hsel i oi cs b hi) (fun cs b => hsel j oj cs b hoj) hy h1
      refine qOp_mono (fun a' h3 => ih (listed.setIfInBounds j true) a' (inv.set hj hjn) (fun k ok hk hki hun' hno => hfree k ok hk hki (by
        by_cases hjk : j = k
        · subst hjk; exact hjun
        · rw [getD_set_ne true hjk] at hun'; exact hun') hno) (ready_mono hr (Ne.symm hji)) h3.1 ?_) h2
      rw [Array.setIfInBounds_comm _ _ hji]
      exact h3.2

set_option maxRecDepth 100000 in
theorem wpHeadQ_lex {n g : Nat} {Lq : Act → Prop} (hsel : Region.noSelect ops = true) (hs : Region.sinkB md ops n = true) (hc : Region.chainB md ops n = true) (hn : n < ops.size) :
    ∀ (l : List Oper) (k : Nat) (listed : Array Bool) (a : Act), (∀ j, j < l.length → l[j]? = ops[k + j]?) → k + l.length = n → HeadInv md ops n listed →
    Region.lexHead md ops g l.length k listed = true → wpQuiet P ops C Lq l a →
    wpHeadQ P md ops C n (fun listed' a' => Region.seqB md ops g n listed' = true ∧ Lq a') l.length listed a
  | [], k, listed, a, _, hk, _, hB, h => by
    obtain rfl : k = n := by simpa using hk
    exact ⟨by simpa [Region.lexHead] using hB, h⟩
  | o :: l, k, listed, a, hl, hk, inv, hB, h => by
    have h0 : ops[k]? = some o := by simpa using (hl 0 (by simp)).symm
    simp only [List.length_cons, Region.lexHead, Bool.and_eq_true] at hB
    obtain ⟨⟨hr, hf⟩, hB'⟩ := hB
    have hkn : k < n := by simp only [List.length_cons] at hk; omega
    have hr' : k ∈ Region.ready md ops listed := by simpa using hr
    obtain ⟨v, hy, hK⟩ := yieldsIn_of_qOp h0 (show qOp P ops C k (wpQuiet P ops C Lq l) a by unfold qOp; simp only [h0]; exact h)
    exact wpHeadQ_first h0 (Region.noSelect_spec hsel) hs hc hn hkn (fun listed' a' hL => seqB_ready hL.1) l.length listed a inv (Region.free_spec h0 hf) hr' hy
      (wpHeadQ_lex hsel hs hc hn l (k + 1) _ _ (fun j hj => by have := hl (j + 1) (by simp; omega); simpa [Nat.add_assoc, Nat.add_comm 1 j] using this) (by simp only [List.length_cons] at hk; omega) (inv.set hr' hkn) hB' hK)

set_option maxRecDepth 100000 in
/-- the first n operations only read, the others come in one order: one walk serves, in every world of a class -/
theorem wp_region_quiet_tailC {id : Nat} {Q : Exit → Act → World → Prop} {a : Act} {w : World} {l : List Oper} (n : Nat) (hm : P.follows .mixedOrders = true) (hB : Region.lexTailB .any l.toArray n = true) (hC : C (w.drewN 1))
    (h : wpQuiet P l.toArray C (fun a' => ∀ w', C w' → wpList P l.toArray Q (l.drop n) a' w') (l.take n) a) : (Code.region id l.toArray true).wp P Q a w := by
  simp only [Region.lexTailB, Bool.and_eq_true, decide_eq_true_eq] at hB
  obtain ⟨⟨⟨⟨hsel, hn⟩, hs⟩, hc⟩, hlex⟩ := hB
  have hn' : n < l.length := by simpa using hn
  have htl : (l.take n).length = n := by simp; omega
  have hdl : (l.drop n).length = l.toArray.size - n := by simp
  have inv0 : HeadInv .any l.toArray n (Array.replicate l.toArray.size false) :=
    ⟨by simp, fun j oj _ hl => (by rw [getD_replicate_false] at hl; cases hl), fun t _ ht => getD_in (by simpa using ht) (getD_replicate_false _ _)⟩
  have H := wpHeadQ_lex (C := C) (md := .any) (g := l.toArray.size - n) hsel hs hc hn (l.take n) 0 _ a (fun j hj => by
    have hj' : j < n := by rw [htl] at hj; exact hj
    simp [hj']) (by simpa using htl) inv0 (by rw [htl]; exact hlex) h
  refine wp_region_any hm ?_
  have := wpAny_of_headQ (Q' := Q) (g := l.toArray.size - n) (fun listed a' w' hw' hL => by
    have := wpAny_of_seq (md := .any) (Q' := Q) (l.drop n) n listed a' w' (fun j => by simp [List.getElem?_drop]) (by rw [hdl]; exact hL.1) (hL.2 w' hw')
    rwa [hdl] at this) _ _ _ (w.drewN 1) hC H
  rw [htl, show n + (l.toArray.size - n) = l.toArray.size by omega] at this
  exact this

set_option maxRecDepth 100000 in
/-- the same, where only draws turn the world -/
theorem wp_region_quiet_tail {id : Nat} {Q : Exit → Act → World → Prop} {a : Act} {w : World} {l : List Oper} (n : Nat) (hm : P.follows .mixedOrders = true) (hB : Region.lexTailB .any l.toArray n = true)
    (h : wpQuiet P l.toArray (fun w' => ∃ m, w' = w.drewN m) (fun a' => ∀ m, wpList P l.toArray Q (l.drop n) a' (w.drewN m)) (l.take n) a) : (Code.region id l.toArray true).wp P Q a w :=
  wp_region_quiet_tailC (C := fun w' => ∃ m, w' = w.drewN m) n hm hB ⟨1, rfl⟩ (by
    have e : (fun a' => ∀ w', (∃ m, w' = w.drewN m) → wpList P l.toArray Q (l.drop n) a' w') = (fun a' => ∀ m, wpList P l.toArray Q (l.drop n) a' (w.drewN m)) := by
      funext a'
      exact propext ⟨fun h m => h _ ⟨m, rfl⟩, fun h w' ⟨m, hm⟩ => hm ▸ h m⟩
    rw [e]; exact h)

/-- a world in which every block of w is as it was -/
structure Bl (w : World) where
  wr : World
  below : RowKit.Below w.heap.size w wr
instance (w : World) : Nonempty (Bl w) := ⟨⟨w, RowKit.Below.refl _ _⟩⟩
set_option maxRecDepth 100000 in
/-- the same, where callees may make memory -/
theorem wp_region_quiet_tailB {id : Nat} {Q : Exit → Act → World → Prop} {a : Act} {w : World} {l : List Oper} (n : Nat) (hm : P.follows .mixedOrders = true) (hB : Region.lexTailB .any l.toArray n = true)
    (h : wpQuiet P l.toArray (fun w' => ∃ m : Bl w, w' = m.wr) (fun a' => ∀ m : Bl w, wpList P l.toArray Q (l.drop n) a' m.wr) (l.take n) a) : (Code.region id l.toArray true).wp P Q a w :=
  wp_region_quiet_tailC (C := fun w' => ∃ m : Bl w, w' = m.wr) n hm hB ⟨⟨w.drewN 1, below_drewN (RowKit.Below.refl _ _) 1⟩, rfl⟩ (by
    have e : (fun a' => ∀ w', (∃ m : Bl w, w' = m.wr) → wpList P l.toArray Q (l.drop n) a' w') = (fun a' => ∀ m : Bl w, wpList P l.toArray Q (l.drop n) a' m.wr) := by
      funext a'
      exact propext ⟨fun h m => h _ ⟨m, rfl⟩, fun h w' ⟨m, hm⟩ => hm ▸ h m⟩
    rw [e]; exact h)
set_option maxRecDepth 100000 in
/-- a region of which all operations read, or call what makes new memory alone -/
theorem wp_region_quietB {id : Nat} {Q : Exit → Act → World → Prop} {a : Act} {w : World} {l : List Oper} (hm : P.follows .mixedOrders = true) (hB : Region.lexB .any l.toArray = true)
    (h : wpQuiet P l.toArray (fun w' => ∃ m : Bl w, w' = m.wr) (fun a' => ∀ m : Bl w, Q .normal a' m.wr) l a) : (Code.region id l.toArray true).wp P Q a w :=
  wp_region_quiet (C := fun w' => ∃ m : Bl w, w' = m.wr) hm hB ⟨⟨w.drewN 1, below_drewN (RowKit.Below.refl _ _) 1⟩, rfl⟩ (by
    have e : (fun a' => ∀ w', (∃ m : Bl w, w' = m.wr) → Q .normal a' w') = (fun a' => ∀ m : Bl w, Q .normal a' m.wr) := by
      funext a'
      exact propext ⟨fun h m => h _ ⟨m, rfl⟩, fun h w' ⟨m, hm⟩ => hm ▸ h m⟩
    rw [e]; simpa using h)
set_option maxRecDepth 100000 in
/-- a callee's contract, met in such a world -/
theorem Calls.quiet_b {f : FuncId} {args : Array Value} {w : World} {m : Bl w} {v : Value}
    (h : Calls P f args m.wr fun e w' => e = .returned v ∧ RowKit.Below m.wr.heap.size m.wr w') : Calls P f args m.wr fun e w'' => e = .returned v ∧ ∃ m : Bl w, w'' = m.wr :=
  h.mono fun _ w' ⟨he, hb⟩ => ⟨he, ⟨w', m.below.trans (hb.mono m.below.size)⟩, rfl⟩

set_option maxRecDepth 100000 in
/-- a whole array's load among operations that only read -/
theorem wpQuiet_load_mid {Q : Act → Prop} {rest : List Oper} {o : Oper} {a : Act} (hgd : o.guard = none) (ty : TypeId) (x : Operand) (ho : o.op = .load ty x)
    (b off : Nat) (hx : a.eval x = .pointer (some ⟨b, off, none⟩)) (cs : List Value) (d : TypeDesc) (hc : ∀ w', C w' → w'.rangeAt b off cs)
    (hu : P.underlying ty = some d) (hd : d.isRow = true) (hi : (P.info? ty).map (·.size) = some cs.length)
    (h : wpQuiet P ops C Q rest (a.put o.dst (.agg cs.toArray))) : wpQuiet P ops C Q (o :: rest) a := by
  refine BigFrame.wpQuiet_want (by simp [Region.wanted, hgd]) fun K hK => ⟨.agg cs.toArray, fun w' hw' => ?_, hK _ h⟩
  unfold Oper.quietAt execOp
  simp only [ho, hx, Instr.loadAt, Instr.sureAddr, Sem.run_bind, Sem.run_pure, Result.andThen_ok, run_loadVar_mid w' b off ty cs d (hc w' hw') hu hd hi]
  exact ⟨rfl, rfl⟩
set_option maxRecDepth 100000 in
/-- one cell's load among operations that only read -/
theorem wpQuiet_of_op {Q : Act → Prop} {rest : List Oper} {o : Oper} {a : Act} (hgd : o.guard = none) (v : Value) (hv : ∀ w', C w' → (execOp a.eval o).run P w' = .ok (.value v) w')
    (h : wpQuiet P ops C Q rest (a.put o.dst v)) : wpQuiet P ops C Q (o :: rest) a := by
  refine BigFrame.wpQuiet_want (by simp [Region.wanted, hgd]) fun K hK => ⟨v, fun w' hw' => ?_, hK _ h⟩
  unfold Oper.quietAt
  rw [hv w' hw']
  exact ⟨rfl, rfl⟩
end
end Go.Proofs.YtllgodaphoncnaaGreatDoor
namespace Go.Proofs.YtllgodaphoncnaaGreatDoor
open Go.RowKit

set_option maxRecDepth 100000 in
theorem dint (a b : Nat) : decide ((a : Int) ≤ (b : Int)) = decide (a ≤ b) := by simp
set_option maxRecDepth 100000 in
theorem isLetter_any (w : World) (b : UInt8) : Calls Tryz.prog 72 #[.int .u8 (b.toNat : Int)] w fun e w' => e = .returned (.bool (letB b)) ∧ w = w' := by
  have e : letB b = (decide ((97 : Int) ≤ (b.toNat : Int)) && decide ((b.toNat : Int) ≤ 122)) := by rw [letB, ← dint, ← dint]; rfl
  rw [e]
  obtain ⟨b1, e1⟩ : ∃ x, decide ((97 : Int) ≤ (b.toNat : Int)) = x := ⟨_, rfl⟩
  obtain ⟨b2, e2⟩ : ∃ x, decide ((b.toNat : Int) ≤ 122) = x := ⟨_, rfl⟩
  rw [e1, e2]
  cases b1 <;> cases b2 <;>
  ( go_enter Tryz.func72, Tryz.ntmps72
    go_wp2
    go_ret
    exact ⟨rfl, rfl⟩)
set_option maxRecDepth 100000 in
theorem isDigit_any (w : World) (b : UInt8) : Calls Tryz.prog 74 #[.int .u8 (b.toNat : Int)] w fun e w' => e = .returned (.bool (digB b)) ∧ w = w' := by
  have e : digB b = (decide ((48 : Int) ≤ (b.toNat : Int)) && decide ((b.toNat : Int) ≤ 57)) := by rw [digB, ← dint, ← dint]; rfl
  rw [e]
  obtain ⟨b1, e1⟩ : ∃ x, decide ((48 : Int) ≤ (b.toNat : Int)) = x := ⟨_, rfl⟩
  obtain ⟨b2, e2⟩ : ∃ x, decide ((b.toNat : Int) ≤ 57) = x := ⟨_, rfl⟩
  rw [e1, e2]
  cases b1 <;> cases b2 <;>
  ( go_enter Tryz.func74, Tryz.ntmps74
    go_wp2
    go_ret
    exact ⟨rfl, rfl⟩)
set_option maxRecDepth 100000 in
theorem isPlain_any (w : World) (b : UInt8) : Calls Tryz.prog 114 #[.int .u8 (b.toNat : Int)] w fun e w' => e = .returned (.bool (plaB b)) ∧ w = w' := by
  have e : plaB b = (decide ((32 : Int) ≤ (b.toNat : Int)) && decide ((b.toNat : Int) ≤ 126)) := by rw [plaB, ← dint, ← dint]; rfl
  rw [e]
  obtain ⟨b1, e1⟩ : ∃ x, decide ((32 : Int) ≤ (b.toNat : Int)) = x := ⟨_, rfl⟩
  obtain ⟨b2, e2⟩ : ∃ x, decide ((b.toNat : Int) ≤ 126) = x := ⟨_, rfl⟩
  rw [e1, e2]
  cases b1 <;> cases b2 <;>
  ( go_enter Tryz.func114, Tryz.ntmps114
    go_wp2
    go_ret
    exact ⟨rfl, rfl⟩)
set_option maxRecDepth 100000 in
theorem deqi (a b : Nat) : ((a : Int) == (b : Int)) = decide (a = b) := by
  by_cases h : a = b
  · subst h; simp
  · rw [decide_eq_false h]; simp; omega
set_option maxRecDepth 100000 in
theorem isMarked_any (w : World) (b : UInt8) : Calls Tryz.prog 112 #[.int .u8 (b.toNat : Int)] w fun e w' => e = .returned (.bool (mrkB b)) ∧ w = w' := by
  have e : mrkB b = (((b.toNat : Int) == 34) || ((b.toNat : Int) == 92)) := by rw [mrkB, ← deqi, ← deqi]; rfl
  rw [e]
  obtain ⟨b1, e1⟩ : ∃ x, ((b.toNat : Int) == 34) = x := ⟨_, rfl⟩
  obtain ⟨b2, e2⟩ : ∃ x, ((b.toNat : Int) == 92) = x := ⟨_, rfl⟩
  rw [e1, e2]
  cases b1 <;> cases b2 <;>
  ( go_enter Tryz.func112, Tryz.ntmps112
    go_wp2
    go_ret
    exact ⟨rfl, rfl⟩)
set_option maxRecDepth 100000 in
theorem isInner_any (w : World) (b : UInt8) : Calls Tryz.prog 109 #[.int .u8 (b.toNat : Int)] w fun e w' => e = .returned (.bool (innB b)) ∧ w = w' := by
  have e : innB b = (letB b || (digB b || ((b.toNat : Int) == 95))) := by rw [innB, ← deqi]; rfl
  have H1 := Lib.hid (isLetter_any w b)
  have H2 := Lib.hid (isDigit_any w b)
  rw [e]
  obtain ⟨b1, e1⟩ : ∃ x, letB b = x := ⟨_, rfl⟩
  obtain ⟨b2, e2⟩ : ∃ x, digB b = x := ⟨_, rfl⟩
  obtain ⟨b3, e3⟩ : ∃ x, ((b.toNat : Int) == 95) = x := ⟨_, rfl⟩
  rw [e1] at H1 ⊢
  rw [e2] at H2 ⊢
  rw [e3]
  clear e e1 e2
  go_enter Tryz.func109, Tryz.ntmps109
  go_wp2_with fail
  refine H1.out.mono ?_
  rintro e w' ⟨rfl, rfl⟩
  cases b1
  · go_wp2_with fail
    refine H2.out.mono ?_
    rintro e w' ⟨rfl, rfl⟩
    cases b2 <;> cases b3 <;>
    ( go_wp2_with fail
      go_ret
      exact ⟨rfl, rfl⟩)
  · go_wp2_with fail
    go_ret
    exact ⟨by simp, rfl⟩
set_option maxRecDepth 100000 in
/-- a byte of a text -/
theorem st_get (l : List UInt8) (k : Nat) (h : k < l.length) : (st l)[k]'(by rw [size_st]; exact h) = l[k] := by
  show l.toArray[k] = l[k]
  simp
set_option maxRecDepth 100000 in
theorem run_index_st (w : World) (l : List UInt8) (k : Nat) (c : UInt8) (hc : l[k]? = some c) : (Instr.index 9 (.string (st l)) (.int .i64 (k : Int))).run Tryz.prog w = .ok (.int .u8 (c.toNat : Int)) w := by
  obtain ⟨h, e⟩ := List.getElem?_eq_some_iff.1 hc
  rw [run_index_string (P := Tryz.prog) w 9 (st l) .i64 k Tryz.underlying9, dif_pos ⟨by omega, by rw [size_st]; omega⟩]
  have e2 : (st l)[(k : Int).toNat]'(by rw [size_st]; omega) = c := by
    have := st_get l k h
    rw [← e, ← this]
    rfl
  rw [e2]
set_option maxRecDepth 100000 in
set_option maxHeartbeats 1000000 in
theorem run_any (w : World) (l : List UInt8) (f : FuncId) (p : UInt8 → Bool) (hf : ∀ w b, Calls Tryz.prog f #[.int .u8 (b.toNat : Int)] w fun e w' => e = .returned (.bool (p b)) ∧ w = w') (hen : ∀ args w, (callFunc f args).run Tryz.prog w = .ok (.enter f args) w) (hl : l.length ≤ 1000000) :
    Calls Tryz.prog 108 #[.string (st l), .func (.func f) #[] #[]] w fun e w' => e = .returned (.int .i64 (runN p l : Int)) ∧ w = w' := by
  have HF := Lib.hid hf
  have hsz := size_st l
  have hidx : ∀ (w : World) (k : Nat) (c : UInt8), l[k]? = some c → (Instr.index 9 (.string (st l)) (.int .i64 (k : Int))).run Tryz.prog w = .ok (.int .u8 (c.toNat : Int)) w := fun w k c h => run_index_st w l k c h
  have HI := Lib.hid hidx
  have hle := runN_le p l
  have HAt := Lib.hid (runN_at p l)
  obtain ⟨s, hs⟩ : ∃ s, st l = s := ⟨_, rfl⟩
  rw [hs] at hsz HI ⊢
  obtain ⟨R, hR⟩ : ∃ R, runN p l = R := ⟨_, rfl⟩
  rw [hR] at hle HAt ⊢
  clear hf hidx hs hR
  go_enter Tryz.func108, Tryz.ntmps108
  go_wp2_with fail
  go_loopw [5] (fun i wr => ∃ k : Nat, k ≤ R ∧ i = .int .i64 (k : Int) ∧ w = wr) (fun i _ => l.length - (intOf i).toNat)
  case atStart => exact ⟨0, by omega, rfl, rfl⟩
  case round =>
    obtain ⟨k, hk, rfl, rfl⟩ := hrel
    by_cases hlt : k < l.length
    · have hd : decide ((k : Int) < (l.length : Int)) = true := by simp; omega
      have hat := HAt.out k hk l[k] (List.getElem?_eq_getElem hlt)
      have hix := HI.out w k l[k] (List.getElem?_eq_getElem hlt)
      generalize l[k] = c at *
      have HC := Lib.hid (HF.out w c)
      obtain ⟨b, hb⟩ : ∃ b, p c = b := ⟨_, rfl⟩
      rw [hb] at HC hat
      have HAt2 := Lib.hid hat
      clear hat hb
      go_wp2_with fail
      refine HC.out.mono ?_
      rintro e w' ⟨rfl, rfl⟩
      cases b with
      | true =>
        have hkR := HAt2.out.1 rfl
        go_wp2_with fail
        go_roundw
        case rel => exact ⟨k + 1, by omega, by go_num, by first | rfl | trivial⟩
        case measure => simp [intOf]; omega
      | false =>
        have hkR : k = R := by
          rcases Nat.lt_or_ge k R with h | h
          · have := HAt2.out.2 h; cases this
          · omega
        subst hkR
        go_wp2_with fail
        go_ret
        exact ⟨rfl, rfl⟩
    · have hd : decide ((k : Int) < (l.length : Int)) = false := by simp; omega
      obtain rfl : k = R := by omega
      go_wp2_with fail
      go_ret
      exact ⟨rfl, rfl⟩
end Go.Proofs.YtllgodaphoncnaaGreatDoor
