/- P8.3, SyntaxKept: the law's walk; What is read, counted: the plain tokens between two places are those of the tree; What is read is formed: every tree that is read with no error is one that tokens can have; The reference: is a text in a list; the ops that bind alike; how strongly an op binds. -/
import Derived.Test.YtllgodaphoncnaaGreatDoorSAwake
import Derived.Test.YtllgodaphoncnaaGreatDoorJ26
namespace Go.Proofs.YtllgodaphoncnaaGreatDoor
open Go.RowKit

set_option maxRecDepth 100000 in
theorem refKept_any (w : World) : Calls Tryz.prog 24 #[] w fun e w' => e = .returned (.slice (some ⟨w.heap.size, 0, none⟩) 29 29) ∧ StrsAt w' (some ⟨w.heap.size, 0, none⟩) w.heap.size 0 keptL ∧ Below w.heap.size w w' := by
  have hst : ∀ (cs : Array Value), cs = (keptL.map fun s => Value.string (st s)).toArray → StrsAt (w.alloc (.cells cs 9 (0, 0))) (some ⟨w.heap.size, 0, none⟩) w.heap.size 0 keptL := fun cs h => strsAt_new (by rw [← h]; exact heap_alloc_new _ _)
  have HST := Lib.hid hst
  clear hst
  go_enter Tryz.func24, Tryz.ntmps24
  go_wp2_with fail
  go_ret
  exact ⟨rfl, HST.out _ rfl, (Below.refl _ _).alloc (Nat.le_refl _) _⟩
set_option maxRecDepth 100000 in
theorem contains_snoc (m : List (List UInt8)) (x a : List UInt8) : (m ++ [x]).contains a = (m.contains a || x == a) := by
  rw [Bool.eq_iff_iff, Bool.or_eq_true, List.contains_iff_mem, List.contains_iff_mem, List.mem_append, List.mem_singleton, beq_iff_eq]
  exact or_congr Iff.rfl ⟨Eq.symm, Eq.symm⟩
set_option maxRecDepth 100000 in
set_option maxHeartbeats 2000000 in
theorem syntaxKept_walk (w : World) (hw : LexW w) (h9 : 9 ≤ w.heap.size) (l : List UInt8) (_ : l.length ≤ maxLen) :
    Calls Tryz.prog 8 #[.string (st l)] w fun e w' => e = .returned (.bool true) ∧ Below w.heap.size w w' := by
  have hl := toList_st l
  obtain ⟨s, hsl⟩ : ∃ s, st l = s := ⟨_, rfl⟩
  rw [hsl] at hl ⊢
  have HAW := Lib.hid (fun W (hb : Below w.heap.size w W) => sawake_any W (hw.below hb) (by have := hb.size; omega))
  have HK := Lib.hid (fun W => kept_any W l)
  have HKI := Lib.hid (fun W (k : Nat) (hk : k < keptL.length) => kept_any W keptL[k])
  rw [hsl] at HK
  have HSL := Lib.hid hsl
  clear hw h9 hsl
  go_enter Tryz.func8, Tryz.ntmps8
  go_wp2_with fail
  refine (refKept_any w).mono ?_
  rintro e w1 ⟨rfl, hst, hb1⟩
  have HST := Lib.hid hst
  have HB1 := Lib.hid hb1
  clear hst hb1
  go_wp2_with fail
  go_loopw [4, 5] (fun v4 v5 wr => ∃ k : Nat, k ≤ 29 ∧ v5 = .int .i64 k ∧ v4 = .bool ((keptL.take k).contains l) ∧ wr = w1) (fun _ v5 _ => 29 - (intOf v5).toNat)
  case atStart => exact ⟨0, by omega, rfl, rfl, rfl⟩
  case round =>
    obtain ⟨k, hk, rfl, rfl, rfl⟩ := hrel
    by_cases hlt : k < 29
    · have hkl : k < keptL.length := hlt
      have c0 := HST.out.cell k hkl 0 (by omega)
      simp only [Nat.mul_one, Nat.add_zero, Nat.zero_add, List.getElem?_cons_zero] at c0
      have HKK := Lib.hid (HKI.out wr k hkl)
      have hsn : (keptL.take (k + 1)).contains l = ((keptL.take k).contains l || keptL[k] == l) := by
        rw [List.take_succ_eq_append_getElem hkl]; exact contains_snoc _ _ _
      have hyes : keptB keptL[k] = true := by
        unfold keptB
        rw [List.contains_iff_mem]
        exact List.getElem_mem _
      rw [hyes] at HKK
      obtain ⟨x, hx⟩ : ∃ x, keptL[k] = x := ⟨_, rfl⟩
      rw [hx] at c0 HKK hsn
      obtain ⟨b, hb⟩ : ∃ b, (keptL.take k).contains l = b := ⟨_, rfl⟩
      rw [hb] at hsn ⊢
      have ex := toList_st x
      obtain ⟨S, hS⟩ : ∃ S, st x = S := ⟨_, rfl⟩
      rw [hS] at c0 HKK ex
      obtain ⟨b2, hb2⟩ : ∃ b, (x == l) = b := ⟨_, rfl⟩
      rw [hb2] at hsn
      have HSN := Lib.hid hsn
      have HLT := Lib.hid hlt
      clear hyes hx hb hS hsn hkl
      cases b with
      | true =>
        go_wp2_with fail
        refine HKK.out.mono ?_
        rintro e w2 ⟨rfl, rfl⟩
        clear c0
        go_wp2_with fail
        go_roundw
        case rel => exact ⟨k + 1, by omega, by go_num, by rw [HSN.out]; rfl, by first | rfl | trivial⟩
        case measure => simp [intOf]; omega
      | false =>
        go_wp2_with fail
        refine HKK.out.mono ?_
        rintro e w2 ⟨rfl, rfl⟩
        clear c0
        go_wp2_with fail
        go_roundw
        case rel => exact ⟨k + 1, by omega, by go_num, by rw [HSN.out]; rfl, by first | rfl | trivial⟩
        case measure => simp [intOf]; omega
    · obtain rfl : k = 29 := by omega
      have hall : (keptL.take 29).contains l = keptB l := rfl
      rw [hall]
      obtain ⟨b, hb⟩ : ∃ b, keptB l = b := ⟨_, rfl⟩
      rw [hb] at HK ⊢
      clear hall hb
      go_wp2_with fail
      refine (HAW.out _ HB1.out).mono ?_
      rintro e w2 ⟨rfl, hb2⟩
      have HB2 := Lib.hid (HB1.out.trans (hb2.mono HB1.out.size))
      clear hb2
      go_wp2_with fail
      refine (HK.out _).mono ?_
      rintro e w3 ⟨rfl, rfl⟩
      cases b with
      | true =>
        go_wp2_with fail
        go_ret
        exact ⟨rfl, HB2.out⟩
      | false =>
        go_wp2_with fail
        go_ret
        exact ⟨rfl, HB2.out⟩
end Go.Proofs.YtllgodaphoncnaaGreatDoor
namespace Go.Proofs.YtllgodaphoncnaaGreatDoor

/-- a word (but for true and false), a point, or one of four signs -/
def plnB (t : Tk) : Bool := t.k == 1 && !(t.s == kTrue) && !(t.s == kFalse) || t.k == 5 && (t.s == kDot || t.s == kPlus || t.s == kStar || t.s == kLt || t.s == kOpen)
def plnS (s : List UInt8) : Bool := if wordB s then !(s == kTrue) && !(s == kFalse) else (s == kDot || s == kPlus || s == kStar || s == kLt || s == kOpen)
def opN (op : List UInt8) : Nat :=
  if op = kHas then 4 else if op = kAttr then 3 else if [kOr, kAnd, kNot, kIn, kLt, kPlus, kStar, kNow, kRole, kSize].contains op then 1 else 0
mutual
def plnT : Tr → Nat
  | .mk op v _ _ ps => (if op = kValue then (if v.k = 5 then 1 else 0) else opN op) + plnL ps
def plnL : List Tr → Nat
  | [] => 0
  | t :: l => plnT t + plnL l
end
set_option maxRecDepth 100000 in
theorem plnB_is {t : Tk} {s : List UInt8} (hf : formB t = true) (h : isP t s = true) (hx : wordB s = true → signB s = false) : plnB t = plnS s := by
  unfold isP at h
  simp only [Bool.and_eq_true, Bool.or_eq_true, beq_iff_eq] at h
  obtain ⟨hk, rfl⟩ := h
  unfold plnB plnS
  rcases hk with hk | hk
  · have hw : wordB t.s = true := by
      unfold formB at hf; rw [if_pos hk] at hf; simp only [Bool.and_eq_true] at hf
      exact hf.2
    simp [hk, hw]
  · have hs : signB t.s = true := by
      unfold formB at hf; simp [hk] at hf
      exact hf.2
    have hw : wordB t.s = false := by
      cases hw : wordB t.s with
      | false => rfl
      | true => rw [hx hw] at hs; cases hs
    simp [hk, hw]
section
variable {T : List Tk}
/-- how many plain tokens there are ahead of a place -/
def cN (T : List Tk) (i : Nat) : Nat := ((T.take i).filter plnB).length
set_option maxRecDepth 100000 in
theorem cN_pass {p : PS} (h : (aheadP T p).k ≠ 0) : cN T (passP p).at' = cN T p.at' + (plnB (aheadP T p)).toNat := by
  obtain ⟨-, hl, ha, -⟩ := ahead_ne h
  unfold cN passP
  simp only
  rw [List.take_succ_eq_append_getElem hl, List.filter_append, List.length_append, ha]
  cases hb : plnB T[p.at'] <;> simp [hb]
/-- from one place to another so many plain tokens are read, if nothing goes wrong -/
def Cn (T : List Tk) (p q : PS) (n : Nat) : Prop := q.err = none → p.err = none ∧ cN T q.at' = cN T p.at' + n
set_option maxRecDepth 100000 in
theorem Cn.refl (p : PS) : Cn T p p 0 := fun h => ⟨h, rfl⟩
set_option maxRecDepth 100000 in
theorem Cn.trans {p q r : PS} {a b : Nat} (h : Cn T p q a) (k : Cn T q r b) : Cn T p r (a + b) := fun he => by
  obtain ⟨h1, h2⟩ := k he
  obtain ⟨h3, h4⟩ := h h1
  exact ⟨h3, by omega⟩
set_option maxRecDepth 100000 in
theorem stop_bad (p : PS) : (stopP p).err ≠ none := by
  unfold stopP failP
  cases h : p.err <;> simp [h]
set_option maxRecDepth 100000 in
theorem cn_stop (p : PS) (n : Nat) : Cn T p (stopP p) n := fun h => absurd h (stop_bad p)
set_option maxRecDepth 100000 in
theorem cn_pass {p : PS} (h : (aheadP T p).k ≠ 0) : Cn T p (passP p) (plnB (aheadP T p)).toNat := fun _ => ⟨(ahead_ne h).1, cN_pass h⟩
set_option maxRecDepth 100000 in
theorem cn_is {p : PS} {s : List UInt8} (h : isP (aheadP T p) s = true) (hx : wordB s = true → signB s = false) : Cn T p (passP p) (plnS s).toNat := by
  have h0 := isP_ne h
  obtain ⟨-, hl, ha, hf⟩ := ahead_ne h0
  rw [← plnB_is (by rw [ha]; exact hf) h hx]
  exact cn_pass h0
set_option maxRecDepth 100000 in
theorem cn_needs {s : List UInt8} (hx : wordB s = true → signB s = false) (p : PS) : Cn T p (needsP T s p) (plnS s).toNat := by
  unfold needsP; split
  · rename_i h; exact cn_is h hx
  · exact cn_stop p _
set_option maxRecDepth 100000 in
theorem cn_name (p : PS) : Cn T p (nameP T p).2 1 := by
  unfold nameP ownP
  by_cases hk : keptB (aheadP T p).s = true
  · rw [if_pos hk]
    have he := ahead_err (T := T) (stop_bad p)
    rw [he]
    exact (cn_stop p 0).trans (cn_stop _ 1)
  · rw [if_neg hk]
    split
    · rename_i h
      have h1 : (aheadP T p).k = 1 := by simpa using h
      have := cn_pass (T := T) (p := p) (by rw [h1]; decide)
      have hb : plnB (aheadP T p) = true := by
        unfold plnB
        have a1 : ((aheadP T p).s == kTrue) = false := by
          cases hh : ((aheadP T p).s == kTrue) with
          | false => rfl
          | true => rw [beq_iff_eq] at hh; rw [hh] at hk; exact absurd (by decide) hk
        have a2 : ((aheadP T p).s == kFalse) = false := by
          cases hh : ((aheadP T p).s == kFalse) with
          | false => rfl
          | true => rw [beq_iff_eq] at hh; rw [hh] at hk; exact absurd (by decide) hk
        simp [h1, a1, a2]
      rw [hb] at this
      exact this
    · exact cn_stop p 1
set_option maxRecDepth 100000 in
theorem cn_text (p : PS) : Cn T p (ownP T 3 p).2 0 := by
  unfold ownP
  split
  · rename_i h
    have h1 : (aheadP T p).k = 3 := by simpa using h
    have := cn_pass (T := T) (p := p) (by rw [h1]; decide)
    have hb : plnB (aheadP T p) = false := by unfold plnB; simp [h1]
    rw [hb] at this
    exact this
  · exact cn_stop p 0
set_option maxRecDepth 100000 in
theorem cn_attribute (p : PS) : Cn T p (attributeP T p).2 3 := by
  unfold attributeP attrTail
  have h2 : ∀ q, Cn T q (nameP T (needsP T kDot q)).2 2 := fun q => (cn_needs (by decide) q).trans (cn_name _)
  rcases takesOne_cases (T := T) whoL p with ⟨h, -⟩ | ⟨s, hs, hi, h⟩
  · rw [h]
    simp only
    rw [if_pos trivial]
    exact (cn_stop p 1).trans (h2 _)
  · rw [h]
    have hne : s ≠ [] := by intro e; subst e; revert hs; decide
    simp only
    rw [if_neg hne]
    have hw : plnS s = true ∧ (wordB s = true → signB s = false) := by
      unfold whoL at hs
      simp only [List.mem_cons, List.not_mem_nil, or_false] at hs
      rcases hs with rfl | rfl | rfl | rfl <;> exact ⟨by decide, by decide⟩
    have := cn_is hi hw.2
    rw [hw.1] at this
    exact this.trans (h2 _)
set_option maxRecDepth 100000 in
theorem lit_pl {t : Tk} {v : Val} (h : litP t = some v) : plnB t = false ∧ v.k ≠ 5 := by
  unfold litP at h
  split at h
  · rename_i hk; rw [beq_iff_eq] at hk; obtain rfl := Option.some.inj h
    exact ⟨by unfold plnB; simp [hk], by simp⟩
  split at h
  · rename_i hk; rw [beq_iff_eq] at hk; obtain rfl := Option.some.inj h
    exact ⟨by unfold plnB; simp [hk], by simp⟩
  split at h
  · rename_i hk; rw [beq_iff_eq] at hk; obtain rfl := Option.some.inj h
    exact ⟨by unfold plnB; simp [hk], by simp⟩
  split at h
  · rename_i hk
    simp only [Bool.and_eq_true, Bool.or_eq_true, beq_iff_eq] at hk
    obtain rfl := Option.some.inj h
    refine ⟨?_, by simp⟩
    unfold plnB
    rcases hk.2 with h2 | h2 <;> simp [hk.1, h2]
  · cases h
set_option maxRecDepth 100000 in
theorem cn_member (p : PS) : Cn T p (memberP T p).2 0 := by
  unfold memberP
  split
  · rename_i h
    have h1 := cn_is h (by decide)
    rw [show (plnS kMinus).toNat = 0 by decide] at h1
    refine h1.trans (b := 0) ?_
    split
    · rename_i h2
      have h3 : (aheadP T (passP p)).k = 2 := by simpa using h2
      have h4 := cn_pass (T := T) (p := passP p) (by rw [h3]; decide)
      rw [show plnB (aheadP T (passP p)) = false by unfold plnB; simp [h3]] at h4
      exact h4
    · exact cn_stop _ 0
  · split
    · rename_i v h
      have h4 := cn_pass (T := T) (litP_ne h)
      rw [(lit_pl h).1] at h4
      exact h4
    · exact cn_stop _ 0
set_option maxRecDepth 100000 in
theorem cn_members : ∀ (n : Nat) (l : List Val) (p : PS), Cn T p (membersP T n (l, p)).2 0
  | 0, _, p => .refl _
  | n + 1, l, p => by
    unfold membersP; simp only; split
    · rename_i h
      have h1 := cn_is h (by decide)
      rw [show (plnS kComma).toNat = 0 by decide] at h1
      exact (h1.trans (cn_member _)).trans (cn_members n _ _)
    · exact .refl _
set_option maxRecDepth 100000 in
theorem cn_bag (p : PS) : (bagP T p).2.err = none → (p.err = none ∧ cN T (bagP T p).2.at' = cN T p.at') ∧ plnT (bagP T p).1 = 1 := by
  intro he
  unfold bagP bagTail at he ⊢
  have h1 : Cn T p (needsP T kClose (membersP T (T.length + 1) ([(memberP T p).1], (memberP T p).2)).2) 0 :=
    ((cn_member p).trans (cn_members _ _ _)).trans (cn_needs (s := kClose) (by decide) _)
  simp only at he ⊢
  generalize hm : membersP T (T.length + 1) ([(memberP T p).1], (memberP T p).2) = x at *
  by_cases hb : bagE x.1 (fun j => x.1[j]!.alone) = 0
  · rw [if_pos hb] at he ⊢
    refine ⟨h1 he, ?_⟩
    unfold bagV; rw [if_pos hb]
    simp [valT, plnT, plnL]
  · rw [if_neg hb] at he
    exfalso
    revert he
    unfold failP
    cases hq : (needsP T kClose x.2).err <;> simp [hq]
/-- a function that reads a tree: what it reads are the tree's plain tokens -/
def CnT (T : List Tk) (f : PS → Tr × PS) : Prop := ∀ p, Cn T p (f p).2 (plnT (f p).1)
set_option maxRecDepth 100000 in
theorem pln_mk1 {op : List UInt8} (h : op ≠ kValue) (a : Tr) : plnT (mk1 op a) = opN op + plnT a := by simp [mk1, plnT, plnL, h]
set_option maxRecDepth 100000 in
theorem pln_mk2 {op : List UInt8} (h : op ≠ kValue) (a b : Tr) : plnT (mk2 op a b) = opN op + (plnT a + plnT b) := by simp [mk2, plnT, plnL, h]
structure OpOk (s : List UInt8) : Prop where
  ne : s ≠ []
  nv : s ≠ kValue
  n : opN s = (plnS s).toNat
  ex : wordB s = true → signB s = false
set_option maxRecDepth 100000 in
theorem cn_loop {part : PS → Tr × PS} (hp : CnT T part) (ops : List (List UInt8)) (ho : ∀ s ∈ ops, OpOk s) : ∀ (n : Nat) (e : Tr) (p : PS), (loopP T part ops n (e, p)).2.err = none → p.err = none ∧ ∀ m, cN T p.at' = m + plnT e → cN T (loopP T part ops n (e, p)).2.at' = m + plnT (loopP T part ops n (e, p)).1
  | 0, _, _ => fun h => ⟨h, fun _ h => h⟩
  | n + 1, e, p => by
    unfold loopP
    rcases takesOne_cases (T := T) ops p with ⟨h, -⟩ | ⟨s, hs, hi, h⟩
    · simp only; rw [h]; simp only; rw [if_pos trivial]
      exact fun h => ⟨h, fun _ h => h⟩
    · have hk := ho s hs
      simp only; rw [h]; simp only; rw [if_neg hk.ne]
      intro he
      obtain ⟨h1, h2⟩ := cn_loop hp ops ho n _ _ he
      obtain ⟨h3, h4⟩ := hp _ h1
      obtain ⟨h5, h6⟩ := cn_is hi hk.ex h3
      refine ⟨h5, fun m hm => h2 m ?_⟩
      rw [pln_mk2 hk.nv, hk.n]
      omega
set_option maxRecDepth 100000 in
theorem cn_call {ex : PS → Tr × PS} (hp : CnT T ex) {op : List UInt8} (ho : op ∈ [kHas, kRole, kSize]) (p : PS) : Cn T p (callP T ex op p).2 (plnT (callP T ex op p).1 - 1) ∧ 1 ≤ plnT (callP T ex op p).1 := by
  simp only [List.mem_cons, List.not_mem_nil, or_false] at ho
  unfold callP
  rcases ho with rfl | rfl | rfl
  · rw [if_pos rfl]
    have e : plnT (attrP T kHas p).1 = 4 := by simp only [attrP, attrT, plnT, plnL]; decide
    rw [e]
    exact ⟨cn_attribute p, by omega⟩
  · rw [if_neg (by decide), if_pos rfl]
    have e : plnT (roleT (ownP T 3 p).1) = 1 := by simp only [roleT, plnT, plnL]; decide
    simp only; rw [e]
    exact ⟨cn_text p, by omega⟩
  · rw [if_neg (by decide), if_neg (by decide)]
    simp only
    rw [pln_mk1 (by decide), show opN kSize = 1 by decide]
    exact ⟨by rw [Nat.add_sub_cancel_left]; exact hp p, by omega⟩
set_option maxRecDepth 100000 in
theorem cn_plain {ex : PS → Tr × PS} (hp : CnT T ex) : CnT T (plainP T ex) := by
  intro p
  unfold plainP
  split
  · rename_i v h
    have h4 := cn_pass (T := T) (litP_ne h)
    obtain ⟨h5, h6⟩ := lit_pl h
    rw [h5] at h4
    have e : plnT (valT (PV.of v)) = 0 := by simp [valT, PV.of, plnT, plnL, h6]
    simp only; rw [e]; exact h4
  · split
    · have e : plnT (attrP T kAttr p).1 = 3 := by simp only [attrP, attrT, plnT, plnL]; decide
      rw [e]; exact cn_attribute p
    · simp only
      rcases takesOne_cases (T := T) plainOps p with ⟨h, -⟩ | ⟨s, hs, hi, h⟩
      · rw [h]
        simp only
        rw [if_neg (by decide), if_neg (by decide), if_neg (by decide), if_pos trivial]
        exact cn_stop p _
      · rw [h]
        simp only
        unfold plainOps at hs
        simp only [List.mem_cons, List.not_mem_nil, or_false] at hs
        rcases hs with rfl | rfl | rfl | rfl | rfl | rfl
        · rw [if_pos rfl]
          have h1 := cn_is hi (by decide)
          rw [show (plnS kNow).toNat = 1 by decide] at h1
          rw [show plnT (leafT kNow) = 1 by simp only [leafT, plnT, plnL]; decide]
          exact h1
        · rw [if_neg (by decide), if_neg (by decide), if_neg (by decide), if_neg (by decide)]
          have h1 := cn_is hi (by decide)
          rw [show (plnS kHas).toNat = 1 by decide] at h1
          have h2 := cn_needs (T := T) (s := kPar) (by decide) (passP p)
          obtain ⟨h3, h4⟩ := cn_call (T := T) hp (op := kHas) (by decide) (needsP T kPar (passP p))
          have h5 := ((h1.trans h2).trans h3).trans (cn_needs (T := T) (s := kEnd) (by decide) _)
          rw [show (plnS kPar).toNat = 0 by decide, show (plnS kEnd).toNat = 0 by decide] at h5
          unfold closedP
          rw [show plnT (callP T ex kHas (needsP T kPar (passP p))).1 = 1 + 0 + (plnT (callP T ex kHas (needsP T kPar (passP p))).1 - 1) + 0 by omega]
          exact h5
        · rw [if_neg (by decide), if_neg (by decide), if_neg (by decide), if_neg (by decide)]
          have h1 := cn_is hi (by decide)
          rw [show (plnS kRole).toNat = 1 by decide] at h1
          have h2 := cn_needs (T := T) (s := kPar) (by decide) (passP p)
          obtain ⟨h3, h4⟩ := cn_call (T := T) hp (op := kRole) (by decide) (needsP T kPar (passP p))
          have h5 := ((h1.trans h2).trans h3).trans (cn_needs (T := T) (s := kEnd) (by decide) _)
          rw [show (plnS kPar).toNat = 0 by decide, show (plnS kEnd).toNat = 0 by decide] at h5
          unfold closedP
          rw [show plnT (callP T ex kRole (needsP T kPar (passP p))).1 = 1 + 0 + (plnT (callP T ex kRole (needsP T kPar (passP p))).1 - 1) + 0 by omega]
          exact h5
        · rw [if_neg (by decide), if_neg (by decide), if_neg (by decide), if_neg (by decide)]
          have h1 := cn_is hi (by decide)
          rw [show (plnS kSize).toNat = 1 by decide] at h1
          have h2 := cn_needs (T := T) (s := kPar) (by decide) (passP p)
          obtain ⟨h3, h4⟩ := cn_call (T := T) hp (op := kSize) (by decide) (needsP T kPar (passP p))
          have h5 := ((h1.trans h2).trans h3).trans (cn_needs (T := T) (s := kEnd) (by decide) _)
          rw [show (plnS kPar).toNat = 0 by decide, show (plnS kEnd).toNat = 0 by decide] at h5
          unfold closedP
          rw [show plnT (callP T ex kSize (needsP T kPar (passP p))).1 = 1 + 0 + (plnT (callP T ex kSize (needsP T kPar (passP p))).1 - 1) + 0 by omega]
          exact h5
        · rw [if_neg (by decide), if_pos rfl]
          intro he
          obtain ⟨⟨h1, h2⟩, h3⟩ := cn_bag _ he
          obtain ⟨h4, h5⟩ := cn_is hi (by decide) h1
          rw [show (plnS kOpen).toNat = 1 by decide] at h5
          exact ⟨h4, by omega⟩
        · rw [if_neg (by decide), if_neg (by decide), if_pos rfl]
          have h1 := cn_is hi (by decide)
          rw [show (plnS kPar).toNat = 0 by decide] at h1
          have h5 := (h1.trans (hp (passP p))).trans (cn_needs (T := T) (s := kEnd) (by decide) _)
          rw [show (plnS kEnd).toNat = 0 by decide, Nat.zero_add, Nat.add_zero] at h5
          exact h5
set_option maxRecDepth 100000 in
theorem opOk_all : ∀ s ∈ [kOr, kAnd, kPlus, kMinus, kStar, kEq, kNe, kLt, kLe, kGt, kGe, kIn], OpOk s := by
  intro s hs
  simp only [List.mem_cons, List.not_mem_nil, or_false] at hs
  rcases hs with rfl | rfl | rfl | rfl | rfl | rfl | rfl | rfl | rfl | rfl | rfl | rfl <;> exact ⟨by decide, by decide, by decide, by decide⟩
set_option maxRecDepth 100000 in
theorem cn_row {part : PS → Tr × PS} (hp : CnT T part) (ops : List (List UInt8)) (ho : ∀ s ∈ ops, OpOk s) (n : Nat) (p : PS) : Cn T p (loopP T part ops n (part p)).2 (plnT (loopP T part ops n (part p)).1) := by
  intro he
  obtain ⟨h1, h2⟩ := cn_loop hp ops ho n (part p).1 (part p).2 he
  obtain ⟨h3, h4⟩ := hp p h1
  exact ⟨h3, h2 _ h4⟩
set_option maxRecDepth 100000 in
theorem cn_step {rec : Lv → PS → Tr × PS} (hr : ∀ lv, CnT T (rec lv)) (lv : Lv) : CnT T (stepP T rec lv) := by
  have hall := opOk_all
  intro p
  cases lv <;> unfold stepP <;> simp only
  · exact cn_row (hr .ands) _ (fun s hs => hall s (by revert s; decide)) _ p
  · exact cn_row (hr .nots) _ (fun s hs => hall s (by revert s; decide)) _ p
  · split
    · rename_i h
      have h1 := (cn_is h (by decide)).trans (hr .nots (passP p))
      rw [show (plnS kNot).toNat = opN kNot by decide] at h1
      rw [pln_mk1 (by decide)]
      exact h1
    · exact hr .cmp p
  · rcases takesOne_cases (T := T) cmpOps (rec .sum p).2 with ⟨h, -⟩ | ⟨s, hs, hi, h⟩
    · rw [h]; simp only; rw [if_pos trivial]
      exact hr .sum p
    · have hk := hall s ((by decide : ∀ s ∈ cmpOps, s ∈ [kOr, kAnd, kPlus, kMinus, kStar, kEq, kNe, kLt, kLe, kGt, kGe, kIn]) s hs)
      rw [h]; simp only; rw [if_neg hk.ne]
      have h1 := ((hr .sum p).trans (cn_is hi hk.ex)).trans (hr .sum _)
      simp only
      rw [pln_mk2 hk.nv, hk.n]
      rw [show plnT (rec .sum p).1 + (plnS s).toNat + plnT (rec .sum (passP (rec .sum p).2)).1 = (plnS s).toNat + (plnT (rec .sum p).1 + plnT (rec .sum (passP (rec .sum p).2)).1) by omega] at h1
      exact h1
  · exact cn_row (hr .prod) _ (fun s hs => hall s (by revert s; decide)) _ p
  · exact cn_row (hr .neg) _ (fun s hs => hall s (by revert s; decide)) _ p
  · split
    · rename_i h
      have h1 := (cn_is h (by decide)).trans (hr .neg (passP p))
      rw [show (plnS kMinus).toNat = opN kNeg by decide] at h1
      rw [pln_mk1 (by decide)]
      exact h1
    · exact hr .plain p
  · exact cn_plain (hr .ors) p
set_option maxRecDepth 100000 in
/-- where fuel is left the count holds (with none nothing is read: the tree that is told then has an op that nothing has) -/
theorem cn_fuel : ∀ (f : Nat) (lv : Lv), CnT T (fuelP T f lv)
  | 0, _ => fun p h => ⟨h, by simp [fuelP, noTr, plnT, plnL, opN, kValue, kHas, kAttr]⟩
  | f + 1, lv => cn_step (cn_fuel f) lv
set_option maxRecDepth 100000 in
theorem cn_expr (lv : Lv) : CnT T (exprP T lv) := cn_fuel _ lv
end
end Go.Proofs.YtllgodaphoncnaaGreatDoor
namespace Go.Proofs.YtllgodaphoncnaaGreatDoor

def nameB (s : List UInt8) : Bool := wordB s && !keptB s
/-- how strongly an op binds -/
def strM (op : List UInt8) : Int :=
  if op = kOr then 0 else if op = kAnd then 1 else if cmpOps.contains op then 3 else if [kPlus, kMinus].contains op then 4 else if op = kStar then 5
  else if op = kNot then 2 else if op = kNeg then 6 else if [kValue, kNow, kAttr, kHas, kRole, kSize].contains op then 7 else -1
def partsN (op : List UInt8) : Nat :=
  if op = kNot ∨ op = kNeg ∨ op = kSize then 1 else if strM op = 0 ∨ strM op = 1 ∨ (3 ≤ strM op ∧ strM op ≤ 5) then 2 else 0
def litB (v : Val) (bag : Bool) : Bool :=
  if v.k = 2 then decide (0 ≤ v.i) || bag && decide (-9223372036854775808 < v.i) else v.k == 1 || v.k == 4 || v.k == 3 && textB v.s.toList
/-- a value that can stand in a tree -/
def valueM (v : PV) : Bool :=
  if v.k = 5 then v.i == 0 && v.s.toList.isEmpty && listB v.l && v.l.all (litB · true) && !v.l.isEmpty
  else aloneB v.k v.i v.s 0 && litB ⟨v.k, v.i, v.s, none, 0, 0⟩ false && v.l.isEmpty
def noPvB (v : PV) : Bool := v.k == 0 && v.i == 0 && v.s.size == 0 && v.l.isEmpty
def hdB (op : List UInt8) (v : PV) (who name : List UInt8) (n : Nat) : Bool :=
  decide (0 ≤ strM op) && decide (n = partsN op) &&
  (if op = kValue then valueM v && who.isEmpty && name.isEmpty
   else noPvB v && (if op = kAttr ∨ op = kHas then whoL.contains who && nameB name else if op = kRole then who.isEmpty && textB name else who.isEmpty && name.isEmpty))
mutual
def fmT : Tr → Bool
  | .mk op v who name ps => hdB op v who name ps.length && fmL ps
def fmL : List Tr → Bool
  | [] => true
  | t :: l => fmT t && fmL l
end
section
variable {T : List Tk}
set_option maxRecDepth 100000 in
theorem adv_none {p q : PS} (h : Adv T p q) (hq : q.err = none) : p.err = none := by
  cases hp : p.err with
  | none => rfl
  | some e =>
    have := h.stay (by rw [hp]; simp)
    subst this
    rw [hp] at hq; cases hq
/-- what is read, if nothing goes wrong, is formed -/
def Gd (x : Tr × PS) : Prop := x.2.err = none → fmT x.1 = true
set_option maxRecDepth 100000 in
theorem fm_mk1 {op : List UInt8} (h : hdB op noPV [] [] 1 = true) {a : Tr} (ha : fmT a = true) : fmT (mk1 op a) = true := by simp [mk1, fmT, fmL, h, ha]
set_option maxRecDepth 100000 in
theorem fm_mk2 {op : List UInt8} (h : hdB op noPV [] [] 2 = true) {a b : Tr} (ha : fmT a = true) (hb : fmT b = true) : fmT (mk2 op a b) = true := by simp [mk2, fmT, fmL, h, ha, hb]
set_option maxRecDepth 100000 in
theorem fm_loop {part : PS → Tr × PS} (hr : Reads1 T part) (m : Nat) (hp : ∀ q, m ≤ q.at' → Gd (part q)) (ops : List (List UInt8)) (ho : ∀ s ∈ ops, s ≠ [] ∧ hdB s noPV [] [] 2 = true) : ∀ (n : Nat) (e : Tr) (p : PS), m ≤ p.at' → Gd (e, p) → Gd (loopP T part ops n (e, p))
  | 0, _, _, _, h => h
  | n + 1, e, p, hm, h => by
    unfold loopP
    rcases takesOne_cases (T := T) ops p with ⟨h1, -⟩ | ⟨s, hs, hi, h1⟩
    · simp only; rw [h1]; simp only; rw [if_pos trivial]
      exact h
    · obtain ⟨hne, hh⟩ := ho s hs
      simp only; rw [h1]; simp only; rw [if_neg hne]
      have hpm : m ≤ (passP p).at' := by simp only [passP]; omega
      refine fm_loop hr m hp ops ho n _ _ (Nat.le_trans hpm (hr _).mono) fun hq => ?_
      refine fm_mk2 hh (h ?_) (hp _ hpm hq)
      exact adv_none ((adv_pass (isP_ne hi)).trans (hr _)) hq
set_option maxRecDepth 100000 in
theorem gd_row {part : PS → Tr × PS} (hr : Reads1 T part) (p : PS) (hp : ∀ q, p.at' ≤ q.at' → Gd (part q)) (ops : List (List UInt8)) (ho : ∀ s ∈ ops, s ≠ [] ∧ hdB s noPV [] [] 2 = true) (n : Nat) : Gd (loopP T part ops n (part p)) :=
  fm_loop hr p.at' hp ops ho n (part p).1 (part p).2 (hr p).mono (hp p (Nat.le_refl _))
set_option maxRecDepth 100000 in
theorem hd_two : ∀ s ∈ [kOr, kAnd, kPlus, kMinus, kStar, kEq, kNe, kLt, kLe, kGt, kGe, kIn], s ≠ [] ∧ hdB s noPV [] [] 2 = true := by decide
set_option maxRecDepth 100000 in
theorem ahead_form {p : PS} (h : (aheadP T p).k ≠ 0) : formB (aheadP T p) = true := by
  obtain ⟨-, hl, ha, hf⟩ := ahead_ne h
  rw [ha]; exact hf
set_option maxRecDepth 100000 in
theorem gd_name (p : PS) : (nameP T p).2.err = none → nameB (nameP T p).1 = true := by
  unfold nameP ownP
  by_cases hk : keptB (aheadP T p).s = true
  · rw [if_pos hk, ahead_err (T := T) (stop_bad p)]
    exact fun h => absurd h (stop_bad _)
  · rw [if_neg hk]
    split
    · rename_i h
      have h1 : (aheadP T p).k = 1 := by simpa using h
      have hf := ahead_form (T := T) (p := p) (by rw [h1]; decide)
      unfold formB at hf
      rw [if_pos h1] at hf
      simp only [Bool.and_eq_true] at hf
      intro _
      unfold nameB
      simp only [Bool.and_eq_true, Bool.not_eq_true']
      exact ⟨hf.2, by simpa using hk⟩
    · exact fun h => absurd h (stop_bad _)
set_option maxRecDepth 100000 in
theorem gd_text (p : PS) : (ownP T 3 p).2.err = none → textB (ownP T 3 p).1 = true := by
  unfold ownP
  split
  · rename_i h
    have h1 : (aheadP T p).k = 3 := by simpa using h
    have hf := ahead_form (T := T) (p := p) (by rw [h1]; decide)
    unfold formB at hf
    simp [h1] at hf
    exact fun _ => hf.2
  · exact fun h => absurd h (stop_bad _)
set_option maxRecDepth 100000 in
theorem gd_attr {op : List UInt8} (ho : op = kAttr ∨ op = kHas) (p : PS) : Gd (attrP T op p) := by
  intro he
  unfold attrP at he ⊢
  have hn : nameB (attributeP T p).1.2 = true := by
    unfold attributeP attrTail at he ⊢
    exact gd_name _ he
  have hw : whoL.contains (attributeP T p).1.1 = true := by
    unfold attributeP attrTail at he ⊢
    rcases takesOne_cases (T := T) whoL p with ⟨h, -⟩ | ⟨s, hs, hi, h⟩
    · rw [h] at he
      simp only at he
      rw [if_pos trivial] at he
      have := adv_none ((adv_needs kDot _).trans (adv_name _)) he
      exact absurd this (stop_bad p)
    · rw [h]; simpa using hs
  have hh : hdB op noPV (attributeP T p).1.1 (attributeP T p).1.2 0 = true := by
    unfold hdB
    rcases ho with rfl | rfl
    · rw [if_neg (by decide), if_pos (Or.inl rfl), hn, hw]; decide
    · rw [if_neg (by decide), if_pos (Or.inr rfl), hn, hw]; decide
  simp only [attrT, fmT, fmL, List.length_nil, hh, Bool.and_true]
set_option maxRecDepth 100000 in
theorem gd_role (p : PS) : Gd (roleT (ownP T 3 p).1, (ownP T 3 p).2) := by
  intro he
  have hx := gd_text p he
  have hh : hdB kRole noPV [] (ownP T 3 p).1 0 = true := by
    unfold hdB
    rw [if_neg (by decide), if_neg (by decide), if_pos rfl, hx]; decide
  simp only [roleT, fmT, fmL, List.length_nil, hh, Bool.and_true]
set_option maxRecDepth 100000 in
theorem gd_step {rec : Lv → PS → Tr × PS} (hr : ∀ lv, Reads1 T (rec lv)) (lv : Lv) (p : PS) (h : ∀ lv' q, lv'.mu T q < lv.mu T p → Gd (rec lv' q)) (hpl : lv = .plain → Gd (plainP T (rec .ors) p)) : Gd (stepP T rec lv p) := by
  have row : ∀ lv' ops, lv'.rank < lv.rank → (∀ s ∈ ops, s ≠ [] ∧ hdB s noPV [] [] 2 = true) → Gd (loopP T (rec lv') ops (T.length + 1) (rec lv' p)) := fun lv' ops hk ho =>
    gd_row (hr lv') p (fun q hq => h lv' q (mono_mu hq _ _ hk)) ops ho _
  cases lv <;> unfold stepP <;> simp only
  · exact row .ands [kOr] (by decide) (by decide)
  · exact row .nots [kAnd] (by decide) (by decide)
  · split
    · rename_i hi
      exact fun he => fm_mk1 (by decide) (h .nots _ (pass_mu (isP_ne hi) _ _) he)
    · exact h .cmp p (mono_mu (Nat.le_refl _) _ _ (by decide))
  · have ha := h .sum p (mono_mu (Nat.le_refl _) _ _ (by decide))
    rcases takesOne_cases (T := T) cmpOps (rec .sum p).2 with ⟨h1, -⟩ | ⟨s, hs, hi, h1⟩
    · rw [h1]; simp only; rw [if_pos trivial]
      exact ha
    · obtain ⟨hne, hh⟩ := (by decide : ∀ s ∈ cmpOps, s ≠ [] ∧ hdB s noPV [] [] 2 = true) s hs
      rw [h1]; simp only; rw [if_neg hne]
      intro he
      have hm : (rec .sum p).2.at' ≤ (passP (rec .sum p).2).at' := by simp only [passP]; omega
      exact fm_mk2 hh (ha (adv_none ((adv_pass (isP_ne hi)).trans (hr .sum _)) he)) (h .sum _ (mono_mu (Nat.le_trans (hr .sum p).mono hm) _ _ (by decide)) he)
  · exact row .prod [kPlus, kMinus] (by decide) (by decide)
  · exact row .neg [kStar] (by decide) (by decide)
  · split
    · rename_i hi
      exact fun he => fm_mk1 (by decide) (h .neg _ (pass_mu (isP_ne hi) _ _) he)
    · exact h .plain p (mono_mu (Nat.le_refl _) _ _ (by decide))
  · exact hpl rfl
set_option maxRecDepth 100000 in
theorem st_list (l : List UInt8) : (st l).toList = l := by rw [ByteArray.toList_eq]; rfl
set_option maxRecDepth 100000 in
theorem nil_toList : (⟨#[]⟩ : ByteArray).toList = [] := st_list []
set_option maxRecDepth 100000 in
theorem gd_lit {p : PS} {v : Val} (h : litP (aheadP T p) = some v) : fmT (valT (PV.of v)) = true := by
  have hf := ahead_form (litP_ne h)
  generalize aheadP T p = t at *
  have key : valueM (PV.of v) = true := by
    unfold litP at h
    unfold formB at hf
    split at h
    · rename_i hk; rw [beq_iff_eq] at hk; obtain rfl := Option.some.inj h
      simp [hk] at hf
      simp [valueM, PV.of, aloneB, litB, hf.2]
    split at h
    · rename_i hk; rw [beq_iff_eq] at hk; obtain rfl := Option.some.inj h
      simp [hk] at hf
      have hs := size_st t.s
      have hl : t.s.length ≤ 64 := by have := hf.2; unfold textB at this; simp only [Bool.and_eq_true, decide_eq_true_eq] at this; exact this.1
      simp [valueM, PV.of, aloneB, litB, st_list, hf.2, hs]
      omega
    split at h
    · rename_i hk; rw [beq_iff_eq] at hk; obtain rfl := Option.some.inj h
      simp [hk] at hf
      simp [valueM, PV.of, aloneB, litB, timeB, hf]
    split at h
    · obtain rfl := Option.some.inj h
      cases (t.s == kTrue) <;> simp [valueM, PV.of, aloneB, litB]
    · cases h
  have hh : hdB kValue (PV.of v) [] [] 0 = true := by
    unfold hdB; rw [if_pos rfl, key]; decide
  simp only [valT, fmT, fmL, List.length_nil, hh, Bool.and_true]
set_option maxRecDepth 100000 in
theorem gd_call {ex : PS → Tr × PS} {op : List UInt8} (ho : op ∈ [kHas, kRole, kSize]) (p : PS) (hp : Gd (ex p)) : Gd (callP T ex op p) := by
  simp only [List.mem_cons, List.not_mem_nil, or_false] at ho
  unfold callP
  rcases ho with rfl | rfl | rfl
  · rw [if_pos rfl]; exact gd_attr (.inr rfl) p
  · rw [if_neg (by decide), if_pos rfl]; exact gd_role p
  · rw [if_neg (by decide), if_neg (by decide)]
    exact fun he => fm_mk1 (by decide) (hp he)
set_option maxRecDepth 100000 in
theorem gd_plain {ex : PS → Tr × PS} (_hr : Reads1 T ex) (p : PS) (hpT : p.at' < T.length → ∀ q, p.at' < q.at' → Gd (ex q)) (hbag : ∀ q, Gd (bagP T q)) : Gd (plainP T ex p) := by
  unfold plainP
  split
  · rename_i v h
    exact fun _ => gd_lit h
  · split
    · exact gd_attr (.inl rfl) p
    · simp only
      rcases takesOne_cases (T := T) plainOps p with ⟨h, -⟩ | ⟨s, hs, hi, h⟩
      · rw [h]
        simp only
        rw [if_neg (by decide), if_neg (by decide), if_neg (by decide), if_pos trivial]
        exact fun he => absurd he (stop_bad p)
      · rw [h]
        simp only
        have hlt : p.at' < (passP p).at' := by simp only [passP]; omega
        obtain ⟨-, hT, -⟩ := ahead_ne (isP_ne hi)
        have hp := hpT hT
        have hcall : ∀ op ∈ [kHas, kRole, kSize], Gd (closedP T (callP T ex op (needsP T kPar (passP p)))) := fun op ho he =>
          gd_call ho _ (hp _ (Nat.lt_of_lt_of_le hlt (adv_needs _ _).mono)) (adv_none (adv_needs kEnd _) he)
        unfold plainOps at hs
        simp only [List.mem_cons, List.not_mem_nil, or_false] at hs
        rcases hs with rfl | rfl | rfl | rfl | rfl | rfl
        · rw [if_pos rfl]
          exact fun _ => (by decide : fmT (leafT kNow) = true)
        · rw [if_neg (by decide), if_neg (by decide), if_neg (by decide), if_neg (by decide)]
          exact hcall _ (by decide)
        · rw [if_neg (by decide), if_neg (by decide), if_neg (by decide), if_neg (by decide)]
          exact hcall _ (by decide)
        · rw [if_neg (by decide), if_neg (by decide), if_neg (by decide), if_neg (by decide)]
          exact hcall _ (by decide)
        · rw [if_neg (by decide), if_pos rfl]
          exact hbag _
        · rw [if_neg (by decide), if_neg (by decide), if_pos rfl]
          exact fun he => hp _ hlt (adv_none (adv_needs kEnd _) he)
set_option maxRecDepth 100000 in
theorem gd_fuel (hbag : ∀ q, Gd (bagP T q)) : ∀ (f : Nat) (lv : Lv) (p : PS), lv.mu T p < f → Gd (fuelP T f lv p)
  | 0, _, _, h => by omega
  | f + 1, lv, p, h => by
    refine gd_step (adv_fuel f) lv p (fun lv' q hm => gd_fuel hbag f lv' q (by omega)) ?_
    intro e
    subst e
    refine gd_plain (adv_fuel f .ors) p (fun hT q hq => gd_fuel hbag f .ors q ?_) hbag
    have : Lv.ors.rank = 7 := rfl
    have : Lv.plain.rank = 0 := rfl
    simp only [Lv.mu] at h ⊢
    omega
set_option maxRecDepth 100000 in
/-- all that is read with no error is formed, if bags are -/
theorem gd_expr (hbag : ∀ q, Gd (bagP T q)) (lv : Lv) (p : PS) : Gd (exprP T lv p) := gd_fuel hbag _ lv p (mu_lt lv p)
end
end Go.Proofs.YtllgodaphoncnaaGreatDoor
namespace Go.Proofs.YtllgodaphoncnaaGreatDoor
open Go.RowKit

set_option maxRecDepth 100000 in
set_option maxHeartbeats 1000000 in
theorem in_any (w : World) (l : List (List UInt8)) (x : List UInt8) (ad : Option Addr) (g o c : Nat) (hl : StrsAt w ad g o l) (hn : l.length ≤ 1000) :
    Calls Tryz.prog 39 #[.slice ad l.length c, .string (st x)] w fun e w' => e = .returned (.bool (l.contains x)) ∧ w' = w := by
  have ex := toList_st x
  obtain ⟨s, hs⟩ : ∃ s, st x = s := ⟨_, rfl⟩
  rw [hs] at ex ⊢
  clear hs
  have HL := Lib.hid hl
  have HN := Lib.hid hn
  obtain ⟨R, hR⟩ : ∃ R, l.contains x = R := ⟨_, rfl⟩
  have HRR := Lib.hid hR
  rw [hR]
  clear hl hn hR
  go_enter Tryz.func39, Tryz.ntmps39
  go_wp2_with fail
  go_loopw [5] (fun v5 wr => ∃ k : Nat, k ≤ l.length ∧ v5 = .int .i64 k ∧ (l.take k).contains x = false ∧ wr = w) (fun v5 _ => l.length - (intOf v5).toNat)
  case atStart => exact ⟨0, by omega, rfl, by simp, rfl⟩
  case round =>
    obtain ⟨k, hk, rfl, hno, rfl⟩ := hrel
    have HNO := Lib.hid hno
    clear hno
    have HN' := HN.out
    by_cases hlt : k < l.length
    · have d1 : decide ((k : Int) < (l.length : Int)) = true := by simp; omega
      have c0 := HL.out.cell k hlt 0 (by omega)
      simp only [Nat.mul_one, Nat.add_zero, List.getElem?_cons_zero] at c0
      have had := HL.out.addr (by intro e; rw [e] at hlt; cases hlt)
      subst had
      have hsn : (l.take (k + 1)).contains x = (l[k] == x) := by
        rw [List.take_succ_eq_append_getElem hlt, contains_snoc, HNO.out, Bool.false_or]
      have hmem : (l[k] == x) = true → R = true := fun h => by
        rw [← HRR.out, List.contains_iff_mem, ← beq_iff_eq.1 h]; exact List.getElem_mem hlt
      have HSN := Lib.hid hsn
      have HMEM := Lib.hid hmem
      have HLT := Lib.hid hlt
      clear hsn hmem
      generalize l[k] = y at *
      have ey := toList_st y
      obtain ⟨S, hS⟩ : ∃ S, st y = S := ⟨_, rfl⟩
      rw [hS] at c0 ey
      clear hS
      obtain ⟨b, hb⟩ : ∃ b, (y == x) = b := ⟨_, rfl⟩
      have hbb : (S.toList == s.toList) = b := by rw [ey, ex]; exact hb
      rw [hb] at HSN HMEM
      clear hb ex ey
      cases b with
      | true =>
        go_wp2_with fail
        go_ret
        obtain rfl := HMEM.out (by first | trivial | rfl)
        exact ⟨rfl, rfl⟩
      | false =>
        go_wp2_with fail
        go_roundw
        case rel => exact ⟨k + 1, by have := HLT.out; omega, by go_num, HSN.out, by first | rfl | trivial⟩
        case measure => simp [intOf]; have := HLT.out; omega
    · obtain rfl : k = l.length := by omega
      have d1 : decide ((l.length : Int) < (l.length : Int)) = false := by simp
      have hno := HNO.out
      rw [List.take_length, HRR.out] at hno
      have HNO2 := Lib.hid hno
      clear hno
      go_wp2_with fail
      go_ret
      obtain rfl := HNO2.out
      exact ⟨rfl, rfl⟩
def pairsL : List (List (List UInt8)) := [[kOr], [kAnd], cmpOps, [kPlus, kMinus], [kStar]]
/-- lists of texts, one behind the other -/
structure PairsAt (w : World) (G : Nat) (gs : Nat → Nat) : Prop where
  cell : ∀ i, (h : i < 5) → w.cell? ⟨G, i, none⟩ = some (.slice (some ⟨gs i, 0, none⟩) pairsL[i].length pairsL[i].length)
  strs : ∀ i, (h : i < 5) → StrsAt w (some ⟨gs i, 0, none⟩) (gs i) 0 pairsL[i]
set_option maxRecDepth 100000 in
theorem pairs_any (w : World) : Calls Tryz.prog 55 #[] w fun e w' => (∃ G gs, e = .returned (.slice (some ⟨G, 0, none⟩) 5 5) ∧ PairsAt w' G gs) ∧ Below w.heap.size w w' := by
  go_enter Tryz.func55, Tryz.ntmps55
  go_wp2_with fail
  go_ret
  have b0 : ∀ (a b c d e f : Obj), ((((((w.alloc a).alloc b).alloc c).alloc d).alloc e).alloc f).heap[w.heap.size]? = some a ∧ ((((((w.alloc a).alloc b).alloc c).alloc d).alloc e).alloc f).heap[w.heap.size + 1]? = some b ∧
      ((((((w.alloc a).alloc b).alloc c).alloc d).alloc e).alloc f).heap[w.heap.size + 1 + 1]? = some c ∧ ((((((w.alloc a).alloc b).alloc c).alloc d).alloc e).alloc f).heap[w.heap.size + 1 + 1 + 1]? = some d ∧
      ((((((w.alloc a).alloc b).alloc c).alloc d).alloc e).alloc f).heap[w.heap.size + 1 + 1 + 1 + 1]? = some e ∧ ((((((w.alloc a).alloc b).alloc c).alloc d).alloc e).alloc f).heap[w.heap.size + 1 + 1 + 1 + 1 + 1]? = some f := by
    intro a b c d e f
    have n0 := heap_alloc_new w a
    have n1 := heap_alloc_new (w.alloc a) b
    have n2 := heap_alloc_new ((w.alloc a).alloc b) c
    have n3 := heap_alloc_new (((w.alloc a).alloc b).alloc c) d
    have n4 := heap_alloc_new ((((w.alloc a).alloc b).alloc c).alloc d) e
    have n5 := heap_alloc_new (((((w.alloc a).alloc b).alloc c).alloc d).alloc e) f
    simp only [World.size_alloc] at n0 n1 n2 n3 n4 n5
    refine ⟨?_, ?_, ?_, ?_, ?_, n5⟩
    · rw [Below.heap_alloc _ _ _ (by simp only [World.size_alloc]; omega), Below.heap_alloc _ _ _ (by simp only [World.size_alloc]; omega), Below.heap_alloc _ _ _ (by simp only [World.size_alloc]; omega), Below.heap_alloc _ _ _ (by simp only [World.size_alloc]; omega), Below.heap_alloc _ _ _ (by simp only [World.size_alloc]; omega), n0]
    · rw [Below.heap_alloc _ _ _ (by simp only [World.size_alloc]; omega), Below.heap_alloc _ _ _ (by simp only [World.size_alloc]; omega), Below.heap_alloc _ _ _ (by simp only [World.size_alloc]; omega), Below.heap_alloc _ _ _ (by simp only [World.size_alloc]; omega), n1]
    · rw [Below.heap_alloc _ _ _ (by simp only [World.size_alloc]; omega), Below.heap_alloc _ _ _ (by simp only [World.size_alloc]; omega), Below.heap_alloc _ _ _ (by simp only [World.size_alloc]; omega), n2]
    · rw [Below.heap_alloc _ _ _ (by simp only [World.size_alloc]; omega), Below.heap_alloc _ _ _ (by simp only [World.size_alloc]; omega), n3]
    · rw [Below.heap_alloc _ _ _ (by simp only [World.size_alloc]; omega), n4]
  obtain ⟨h0, h1, h2, h3, h4, h5⟩ := b0 (.cells #[.string ⟨#[111, 114]⟩] 9 (0, 0)) (.cells #[.string ⟨#[97, 110, 100]⟩] 9 (0, 0))
    (.cells #[.string ⟨#[61, 61]⟩, .string ⟨#[33, 61]⟩, .string ⟨#[60]⟩, .string ⟨#[60, 61]⟩, .string ⟨#[62]⟩, .string ⟨#[62, 61]⟩, .string ⟨#[105, 110]⟩] 9 (0, 0)) (.cells #[.string ⟨#[43]⟩, .string ⟨#[45]⟩] 9 (0, 0)) (.cells #[.string ⟨#[42]⟩] 9 (0, 0))
    (.cells #[.slice (some ⟨w.heap.size, 0, none⟩) 1 1, .slice (some ⟨w.heap.size + 1, 0, none⟩) 1 1, .slice (some ⟨w.heap.size + 1 + 1, 0, none⟩) 7 7, .slice (some ⟨w.heap.size + 1 + 1 + 1, 0, none⟩) 2 2, .slice (some ⟨w.heap.size + 1 + 1 + 1 + 1, 0, none⟩) 1 1] 54 (0, 0))
  refine ⟨⟨_, fun i => w.heap.size + i, rfl, ⟨fun i hi => ?_, fun i hi => ?_⟩⟩, ((((((Below.refl _ _).alloc (Nat.le_refl _) _).alloc (by simp only [World.size_alloc]; omega) _).alloc (by simp only [World.size_alloc]; omega) _).alloc (by simp only [World.size_alloc]; omega) _).alloc (by simp only [World.size_alloc]; omega) _).alloc (by simp only [World.size_alloc]; omega) _⟩
  · rw [cell_block h5]
    rcases i with _ | _ | _ | _ | _ | i
    · rfl
    · rfl
    · rfl
    · rfl
    · rfl
    · omega
  · rcases i with _ | _ | _ | _ | _ | i
    · exact strsAt_new h0
    · exact strsAt_new h1
    · exact strsAt_new h2
    · exact strsAt_new h3
    · exact strsAt_new h4
    · omega
set_option maxRecDepth 100000 in
/-- which of them an op stands in -/
theorem str_pair {op : List UInt8} (k : Nat) (hk : k < 5) (hno : ∀ j, (h : j < 5) → j < k → pairsL[j].contains op = false) (hyes : pairsL[k].contains op = true) : [(0 : Int), 1, 3, 4, 5][k]? = some (strM op) := by
  unfold strM
  have n0 : 0 < k → ¬ op = kOr := fun h e => by have := hno 0 (by decide) h; rw [e] at this; exact absurd this (by decide)
  have n1 : 1 < k → ¬ op = kAnd := fun h e => by have := hno 1 (by decide) h; rw [e] at this; exact absurd this (by decide)
  have n2 : 2 < k → ¬ cmpOps.contains op = true := fun h e => by have this : cmpOps.contains op = false := hno 2 (by decide) h; rw [e] at this; cases this
  have n3 : 3 < k → ¬ [kPlus, kMinus].contains op = true := fun h e => by have this : [kPlus, kMinus].contains op = false := hno 3 (by decide) h; rw [e] at this; cases this
  rcases k with _ | _ | _ | _ | _ | k
  · have : op = kOr := by simpa [pairsL] using hyes
    rw [if_pos this]; rfl
  · have : op = kAnd := by simpa [pairsL] using hyes
    rw [if_neg (n0 (by omega)), if_pos this]; rfl
  · have hy : cmpOps.contains op = true := hyes
    rw [if_neg (n0 (by omega)), if_neg (n1 (by omega)), if_pos hy]; rfl
  · have hy : [kPlus, kMinus].contains op = true := hyes
    rw [if_neg (n0 (by omega)), if_neg (n1 (by omega)), if_neg (n2 (by omega)), if_pos hy]; rfl
  · have : op = kStar := by simpa [pairsL] using hyes
    rw [if_neg (n0 (by omega)), if_neg (n1 (by omega)), if_neg (n2 (by omega)), if_neg (n3 (by omega)), if_pos this]; rfl
  · omega
def restL : List (List UInt8) := [kValue, kNow, kAttr, kHas, kRole, kSize]
set_option maxRecDepth 100000 in
theorem str_rest {op : List UInt8} (hno : ∀ j, (h : j < 5) → pairsL[j].contains op = false) : strM op = if op = kNot then 2 else if op = kNeg then 6 else if restL.contains op then 7 else -1 := by
  unfold strM
  have n0 : ¬ op = kOr := fun e => by have := hno 0 (by decide); rw [e] at this; exact absurd this (by decide)
  have n1 : ¬ op = kAnd := fun e => by have := hno 1 (by decide); rw [e] at this; exact absurd this (by decide)
  have n2 : ¬ cmpOps.contains op = true := fun e => by have this : cmpOps.contains op = false := hno 2 (by decide); rw [e] at this; cases this
  have n3 : ¬ [kPlus, kMinus].contains op = true := fun e => by have this : [kPlus, kMinus].contains op = false := hno 3 (by decide); rw [e] at this; cases this
  have n4 : ¬ op = kStar := fun e => by have := hno 4 (by decide); rw [e] at this; exact absurd this (by decide)
  rw [if_neg n0, if_neg n1, if_neg n2, if_neg n3, if_neg n4]
  rfl
set_option maxRecDepth 100000 in
theorem idx5 (k : Nat) (hk : k < 5) (m : Int) (h : [(0 : Int), 1, 3, 4, 5][k]? = some m) (w : World) :
    (Instr.index 99 (.agg #[.int .i64 0, .int .i64 1, .int .i64 3, .int .i64 4, .int .i64 5]) (.int .i64 k)).run Tryz.prog w = .ok (.int .i64 m) w := by
  rcases k with _ | _ | _ | _ | _ | k
  · obtain rfl := Option.some.inj h; kernel_rfl
  · obtain rfl := Option.some.inj h; kernel_rfl
  · obtain rfl := Option.some.inj h; kernel_rfl
  · obtain rfl := Option.some.inj h; kernel_rfl
  · obtain rfl := Option.some.inj h; kernel_rfl
  · omega
set_option maxRecDepth 100000 in
set_option maxHeartbeats 2000000 in
theorem strength_any (w : World) (op : List UInt8) : Calls Tryz.prog 29 #[.string (st op)] w fun e w' => e = .returned (.int .i64 (strM op)) ∧ Below w.heap.size w w' := by
  have HP := Lib.hid (pairs_any w)
  have ex := toList_st op
  have HSP := Lib.hid (@str_pair op)
  have HSR := Lib.hid (@str_rest op)
  have HI := Lib.hid (fun W (l : List (List UInt8)) g c h hn => in_any W l op (some ⟨g, 0, none⟩) g 0 c h hn)
  have hne : (st op).toList = op := ex
  obtain ⟨m, hm⟩ : ∃ m, strM op = m := ⟨_, rfl⟩
  have HM := Lib.hid hm
  rw [hm]
  clear hm hne
  obtain ⟨s, hs⟩ : ∃ s, st op = s := ⟨_, rfl⟩
  rw [hs] at ex HI ⊢
  have EX := Lib.hid ex
  clear hs ex
  go_enter Tryz.func29, Tryz.ntmps29
  go_wp2_with fail
  refine HP.out.mono ?_
  rintro e w1 ⟨⟨G, gs, rfl, hpa⟩, hb1⟩
  have HPA := Lib.hid hpa
  have HB1 := Lib.hid hb1
  clear hpa hb1 HP
  go_wp2_with fail
  go_loopw [4] (fun v4 wr => ∃ k : Nat, k ≤ 5 ∧ v4 = .int .i64 k ∧ (∀ j, (h : j < 5) → j < k → pairsL[j].contains op = false) ∧ wr = w1) (fun v4 _ => 5 - (intOf v4).toNat)
  case atStart => exact ⟨0, by omega, rfl, fun j _ h => absurd h (by omega), rfl⟩
  case round =>
    obtain ⟨k, hk, rfl, hno, rfl⟩ := hrel
    have HNO := Lib.hid hno
    clear hno
    by_cases hlt : k < 5
    · have d1 : decide ((k : Int) < 5) = true := by simp; omega
      have c0 := HPA.out.cell k hlt
      have hll : (pairsL[k]'hlt).length ≤ 1000 := by
        have : ∀ x ∈ pairsL, x.length ≤ 1000 := by decide
        exact this _ (List.getElem_mem _)
      have HI2 := Lib.hid (HI.out wr (pairsL[k]'hlt) (gs k) (pairsL[k]'hlt).length (HPA.out.strs k hlt) hll)
      have HYES := Lib.hid (HSP.out k hlt HNO.out)
      have HNEXT : Hid ((pairsL[k]'hlt).contains op = false → ∀ j, (h : j < 5) → j < k + 1 → pairsL[j].contains op = false) := Lib.hid (fun hc j h5 h => by
        rcases Nat.lt_or_ge j k with h' | h'
        · exact HNO.out j h5 h'
        · obtain rfl : j = k := by omega
          exact hc)
      obtain ⟨b, hb⟩ : ∃ b, (pairsL[k]'hlt).contains op = b := ⟨_, rfl⟩
      rw [hb] at HI2 HYES HNEXT
      generalize (pairsL[k]'hlt).length = n at *
      clear hb hll
      cases b with
      | false =>
        go_wp2_with fail
        refine HI2.out.mono ?_
        rintro e w2 ⟨rfl, rfl⟩
        go_wp2_with fail
        go_roundw
        case rel => exact ⟨k + 1, by omega, by go_num, HNEXT.out (by first | trivial | rfl), by first | rfl | trivial⟩
        case measure => simp [intOf]; omega
      | true =>
        have hmk := HYES.out rfl
        rw [HM.out] at hmk
        clear HYES HNEXT
        go_wp2_with fail
        refine HI2.out.mono ?_
        rintro e w2 ⟨rfl, rfl⟩
        have hix := fun W => idx5 k hlt m hmk W
        clear hmk c0 HI2 HPA
        go_wp2_with fail
        go_ret
        exact ⟨rfl, HB1.out⟩
    · obtain rfl : k = 5 := by omega
      have HREST := Lib.hid (HSR.out (fun j h => HNO.out j h h))
      rw [HM.out] at HREST
      have hst : StrsAt (wr.alloc (.cells #[.string ⟨#[118, 97, 108, 117, 101]⟩, .string ⟨#[110, 111, 119]⟩, .string ⟨#[97, 116, 116, 114]⟩, .string ⟨#[104, 97, 115]⟩, .string ⟨#[114, 111, 108, 101]⟩, .string ⟨#[115, 105, 122, 101]⟩] 9 (0, 0))) (some ⟨wr.heap.size, 0, none⟩) wr.heap.size 0 restL := strsAt_new (heap_alloc_new _ _)
      have HI2 := Lib.hid (HI.out _ restL _ 6 hst (by decide))
      have hbR : Below w.heap.size w (wr.alloc (.cells #[.string ⟨#[118, 97, 108, 117, 101]⟩, .string ⟨#[110, 111, 119]⟩, .string ⟨#[97, 116, 116, 114]⟩, .string ⟨#[104, 97, 115]⟩, .string ⟨#[114, 111, 108, 101]⟩, .string ⟨#[115, 105, 122, 101]⟩] 9 (0, 0))) := HB1.out.alloc HB1.out.size _
      have HBR := Lib.hid hbR
      clear hst hbR HNO HSP HSR
      by_cases h1 : op = kNot
      · subst h1
        have q1 : (s.toList == [110, 111, 116]) = true := by rw [EX.out]; rfl
        have hm2 := HREST.out
        rw [if_pos rfl] at hm2
        subst hm2
        clear HREST
        go_wp2_with fail
        go_ret
        exact ⟨rfl, HB1.out⟩
      · have q1 : (s.toList == [110, 111, 116]) = false := by rw [EX.out]; simpa using h1
        by_cases h2 : op = kNeg
        · subst h2
          have q2 : (s.toList == [110, 101, 103]) = true := by rw [EX.out]; rfl
          have hm2 := HREST.out
          rw [if_neg h1, if_pos rfl] at hm2
          subst hm2
          clear HREST
          go_wp2_with fail
          go_ret
          exact ⟨rfl, HB1.out⟩
        · have q2 : (s.toList == [110, 101, 103]) = false := by rw [EX.out]; simpa using h2
          have hm2 := HREST.out
          rw [if_neg h1, if_neg h2] at hm2
          obtain ⟨b, hb⟩ : ∃ b, restL.contains op = b := ⟨_, rfl⟩
          rw [hb] at hm2 HI2
          have HM2 := Lib.hid hm2
          clear hb hm2 HREST h1 h2
          go_wp2_with fail
          refine HI2.out.mono ?_
          rintro e w3 ⟨rfl, rfl⟩
          cases b with
          | true =>
            obtain rfl := HM2.out
            go_wp2_with fail
            go_ret
            exact ⟨rfl, HBR.out⟩
          | false =>
            obtain rfl := HM2.out
            go_wp2_with fail
            go_ret
            exact ⟨rfl, HBR.out⟩
end Go.Proofs.YtllgodaphoncnaaGreatDoor
