/- The order of values is total, and of formed ones the document's: plain mathematics; Halving a list of values. -/
import Derived.Test.YtllgodaphoncnaaGreatDoorJ14
namespace Go.Proofs.YtllgodaphoncnaaGreatDoor
open Go.RowKit

def ordK (n : Int) (a b : Val) : Int := if n = 1 ∨ n = 2 ∨ n = 4 then cmpI a.i b.i else if n = 3 then cmpS a.s b.s else 0
set_option maxRecDepth 100000 in
theorem isCmp_S : IsCmp cmpS := isCmp_T.comap fun a : ByteArray => a.data.toList
set_option maxRecDepth 100000 in
theorem isCmp_K (n : Int) : IsCmp (ordK n) := by
  unfold ordK
  by_cases h1 : n = 1 ∨ n = 2 ∨ n = 4
  · simp only [h1, if_true]; exact isCmp_I.comap Val.i
  · simp only [h1, if_false]
    by_cases h3 : n = 3
    · simp only [h3, if_true]; exact isCmp_S.comap Val.s
    · simp only [h3, if_false]; exact isCmp_zero
set_option maxRecDepth 100000 in
theorem ord_kind (a b : Val) : a.ord b = byKind Val.k ordK a b := by
  unfold Val.ord ordA byKind ordK
  by_cases h : a.k = b.k
  · rw [if_neg (by simp [h]), if_pos h]
  · rw [if_pos (by simp [h]), if_neg h]
set_option maxRecDepth 100000 in
theorem isCmp_ord : IsCmp Val.ord := by
  have h : Val.ord = byKind Val.k ordK := by funext a b; exact ord_kind a b
  rw [h]; exact isCmp_kind _ _ isCmp_K
/-- the order of values with their lists -/
def ordP (p q : Val × List Val) : Int := p.1.order p.2 q.1 q.2
def ordPK (n : Int) (p q : Val × List Val) : Int := if n = 5 then lexO Val.ord p.2 q.2 else ordK n p.1 q.1
set_option maxRecDepth 100000 in
theorem isCmp_PK (n : Int) : IsCmp (ordPK n) := by
  unfold ordPK
  by_cases h : n = 5
  · simp only [h, if_true]; exact (isCmp_lex isCmp_ord).comap fun p : Val × List Val => p.2
  · simp only [h, if_false]; exact (isCmp_K n).comap fun p : Val × List Val => p.1
set_option maxRecDepth 100000 in
theorem ordP_kind (p q : Val × List Val) : ordP p q = byKind (fun p : Val × List Val => p.1.k) ordPK p q := by
  unfold ordP Val.order byKind ordPK
  by_cases h : p.1.k = q.1.k
  · rw [if_pos h]
    by_cases h5 : p.1.k = 5
    · rw [if_pos ⟨h5, by omega⟩, if_pos h5]
    · rw [if_neg (fun x => h5 x.1), if_neg h5, ord_kind, byKind, if_pos h]
  · rw [if_neg h, if_neg (fun x => h (by rw [x.1, x.2])), ord_kind, byKind, if_neg h]
set_option maxRecDepth 100000 in
theorem isCmp_P : IsCmp ordP := by
  have h : ordP = byKind (fun p : Val × List Val => p.1.k) ordPK := by funext a b; exact ordP_kind a b
  rw [h]; exact isCmp_kind _ _ isCmp_PK
set_option maxRecDepth 100000 in
theorem cmpI_zero {a b : Int} : cmpI a b = 0 ↔ a = b := by unfold cmpI; constructor <;> intro h <;> ((repeat split at h) <;> (first | omega | ((repeat split) <;> omega)))
set_option maxRecDepth 100000 in
theorem cmpS_zero {a b : ByteArray} (h : cmpS a b = 0) : a.toList == b.toList := by
  rw [ByteArray.toList_eq, ByteArray.toList_eq, eq_cmpT]
  exact decide_eq_true h

set_option maxRecDepth 100000 in
/-- what an alone value has of each kind -/
theorem alone_parts {x : Val} (h : x.alone = true) : x.n = 0 ∧ (x.k = 0 → x.i = 0 ∧ x.s.toList = []) ∧ (x.k = 1 ∨ x.k = 2 ∨ x.k = 4 → x.s.toList = []) ∧ (x.k = 3 → x.i = 0) := by
  have hk := alone_kind h
  unfold Val.alone aloneB at h
  by_cases hn : 0 < x.n
  · simp [hn] at h
  · rw [if_neg hn] at h
    refine ⟨by omega, ?_, ?_, ?_⟩
    · intro e; simp [e] at h; exact h
    · intro e
      rcases e with e | e | e <;> simp [e] at h
      · exact h.2
      · exact h
      · exact h.2
    · intro e; simp [e] at h; exact h.1
set_option maxRecDepth 100000 in
theorem ord_ordS {x y : Val} (hx : x.alone = true) (hy : y.alone = true) : x.ord y = x.ordS y := by
  unfold Val.ord Val.ordS ordA Go.Proofs.YtllgodaphoncnaaGreatDoor.ordS
  by_cases h : x.k = y.k
  · have hb : (x.k != y.k) = false := by simp [h]
    simp only [hb, Bool.false_eq_true, if_false]
    rcases alone_kind hx with e | e | e | e | e
    · have h1 := ((alone_parts hx).2.1 e).1
      have h2 := ((alone_parts hy).2.1 (by omega)).1
      simp [e, h1, h2, cmpI]
    all_goals simp [e]
  · rw [if_pos (by simp [h]), if_pos (by simp [h])]
set_option maxRecDepth 100000 in
theorem lex_congr {α : Type} {f g : α → α → Int} : ∀ (x y : List α), (∀ a ∈ x, ∀ b ∈ y, f a b = g a b) → lexO f x y = lexO g x y
  | [], [], _ => rfl
  | [], _ :: _, _ => rfl
  | _ :: _, [], _ => rfl
  | a :: x, b :: y, h => by
    rw [lexO, lexO, h a (by simp) b (by simp), lex_congr x y fun a ha b hb => h a (by simp [ha]) b (by simp [hb])]
set_option maxRecDepth 100000 in
/-- a formed bag's values -/
theorem listB_all {l : List Val} (h : listB l = true) : ∀ x ∈ l, ¬ x.k = 0 ∧ x.alone = true := by
  unfold listB at h
  rw [Bool.and_eq_true] at h
  intro x hx
  obtain ⟨j, hj, rfl⟩ := List.mem_iff_getElem.1 hx
  have := List.all_eq_true.1 h.2 j (by simpa using hj)
  unfold okA at this
  obtain ⟨h1, _, h3⟩ := okV_parts this
  rw [getElem!_pos l j hj] at h1 h3
  exact ⟨h1, h3⟩
set_option maxRecDepth 100000 in
theorem formed_cases {x : Val} {l : List Val} (h : x.formed l = true) : (x.k = 5 ∧ x.i = 0 ∧ x.s.toList = [] ∧ listB l = true) ∨ (¬ x.k = 5 ∧ x.alone = true) := by
  unfold Val.formed at h
  by_cases h5 : x.k = 5
  · simp [h5] at h; exact .inl ⟨h5, h.1, h.2.1, h.2.2⟩
  · simp [h5] at h; exact .inr ⟨h5, h⟩
set_option maxRecDepth 100000 in
theorem order_is {x y : Val} {lx ly : List Val} (hx : x.formed lx = true) (hy : y.formed ly = true) : x.order lx y ly = x.orderS lx y ly := by
  unfold Val.order Val.orderS
  by_cases h : x.k = 5 ∧ y.k = 5
  · rw [if_pos h, if_pos h]
    rcases formed_cases hx with ⟨_, _, _, h1⟩ | ⟨h1, _⟩
    · rcases formed_cases hy with ⟨_, _, _, h2⟩ | ⟨h2, _⟩
      · exact lex_congr _ _ fun a ha b hb => ord_ordS (listB_all h1 a ha).2 (listB_all h2 b hb).2
      · exact absurd h.2 h2
    · exact absurd h.1 h1
  · rw [if_neg h, if_neg h]
    by_cases hk : x.k = y.k
    · rcases formed_cases hx with ⟨h1, _⟩ | ⟨_, h1⟩
      · exact absurd ⟨h1, by omega⟩ h
      · rcases formed_cases hy with ⟨h2, _⟩ | ⟨_, h2⟩
        · exact absurd ⟨by omega, h2⟩ h
        · exact ord_ordS h1 h2
    · unfold Val.ord Val.ordS ordA Go.Proofs.YtllgodaphoncnaaGreatDoor.ordS
      rw [if_pos (by simp [hk]), if_pos (by simp [hk])]
set_option maxRecDepth 100000 in
/-- two values that are no bags, and alike in order, are the same -/
theorem same_alone {a b : Val} (ha : a.alone = true) (hb : b.alone = true) (h : a.ord b = 0) : a.k = b.k ∧ a.i = b.i ∧ (a.s.toList == b.s.toList) = true ∧ a.n = 0 ∧ b.n = 0 := by
  have pa := alone_parts ha
  have pb := alone_parts hb
  rw [ord_kind] at h
  unfold byKind at h
  by_cases hk : a.k = b.k
  · rw [if_pos hk] at h
    unfold ordK at h
    refine ⟨hk, ?_⟩
    rcases alone_kind ha with e | e | e | e | e
    · have h1 := pa.2.1 e
      have h2 := pb.2.1 (by omega)
      exact ⟨by omega, by rw [h1.2, h2.2]; rfl, pa.1, pb.1⟩
    · simp [e] at h
      have h1 := pa.2.2.1 (.inl e)
      have h2 := pb.2.2.1 (.inl (by omega))
      exact ⟨cmpI_zero.1 h, by rw [h1, h2]; rfl, pa.1, pb.1⟩
    · simp [e] at h
      have h1 := pa.2.2.1 (.inr (.inl e))
      have h2 := pb.2.2.1 (.inr (.inl (by omega)))
      exact ⟨cmpI_zero.1 h, by rw [h1, h2]; rfl, pa.1, pb.1⟩
    · simp [e] at h
      have h1 := pa.2.2.2 e
      have h2 := pb.2.2.2 (by omega)
      exact ⟨by omega, cmpS_zero h, pa.1, pb.1⟩
    · simp [e] at h
      have h1 := pa.2.2.1 (.inr (.inr e))
      have h2 := pb.2.2.1 (.inr (.inr (by omega)))
      exact ⟨cmpI_zero.1 h, by rw [h1, h2]; rfl, pa.1, pb.1⟩
  · rw [if_neg hk] at h
    exact absurd (cmpI_zero.1 h) hk
set_option maxRecDepth 100000 in
theorem lex_zero {f : Val → Val → Int} : ∀ (x y : List Val), lexO f x y = 0 → x.length = y.length ∧ ∀ j, j < x.length → f x[j]! y[j]! = 0
  | [], [], _ => ⟨rfl, fun j hj => by cases hj⟩
  | [], _ :: _, h => by simp [lexO] at h
  | _ :: _, [], h => by simp [lexO] at h
  | a :: x, b :: y, h => by
    unfold lexO at h
    by_cases e : f a b = 0
    · rw [if_pos e] at h
      obtain ⟨h1, h2⟩ := lex_zero x y h
      refine ⟨by simp [h1], fun j hj => ?_⟩
      cases j with
      | zero => simpa using e
      | succ j => have := h2 j (by simpa using hj); simpa using this
    · rw [if_neg e] at h; exact absurd h e
set_option maxRecDepth 100000 in
theorem lex_self {f : Val → Val → Int} (hf : ∀ a b : Val, a.k = b.k → a.i = b.i → (a.s.toList == b.s.toList) = true → f a b = 0) : ∀ (x y : List Val), x.length = y.length → (∀ j, j < x.length → sameE x[j]! y[j]! = true) → lexO f x y = 0
  | [], [], _, _ => rfl
  | [], _ :: _, h, _ => by simp at h
  | _ :: _, [], h, _ => by simp at h
  | a :: x, b :: y, h, hs => by
    have h0 := hs 0 (by simp)
    simp [sameE] at h0
    rw [lexO, if_pos (hf a b h0.1 h0.2.1 (by simpa using h0.2.2.1))]
    exact lex_self hf x y (by simpa using h) fun j hj => by have := hs (j + 1) (by simpa using hj); simpa using this
set_option maxRecDepth 100000 in
theorem ord_zero_of {a b : Val} (hk : a.k = b.k) (hi : a.i = b.i) (hs : (a.s.toList == b.s.toList) = true) : a.ord b = 0 := by
  rw [ord_kind, byKind, if_pos hk, ordK]
  rw [ByteArray.toList_eq, ByteArray.toList_eq, eq_cmpT] at hs
  have hs' : cmpS a.s b.s = 0 := of_decide_eq_true hs
  split
  · exact cmpI_zero.2 hi
  · split
    · exact hs'
    · rfl
set_option maxRecDepth 100000 in
theorem zero_same {x y : Val} {lx ly : List Val} (hx : x.formed lx = true) (hy : y.formed ly = true) (nx : lx.length = x.n) (ny : ly.length = y.n) : (x.order lx y ly == 0) = sameB x lx y ly := by
  rw [Bool.eq_iff_iff]
  constructor
  · intro h
    have h0 : x.order lx y ly = 0 := by simpa using h
    unfold Val.order at h0
    by_cases h5 : x.k = 5 ∧ y.k = 5
    · rw [if_pos h5] at h0
      rcases formed_cases hx with ⟨_, x1, x2, x3⟩ | ⟨h1, _⟩
      · rcases formed_cases hy with ⟨_, y1, y2, y3⟩ | ⟨h2, _⟩
        · obtain ⟨hl, hj⟩ := lex_zero _ _ h0
          unfold sameB headS
          rw [show (x.k == y.k) = true by simp; omega, show (x.i == y.i) = true by simp; omega, x2, y2, show (x.n == y.n) = true by simp; omega]
          simp only [Bool.true_and, BEq.rfl]
          refine List.all_eq_true.2 fun j hj' => ?_
          have hjx : j < lx.length := by simp at hj'; omega
          have hjy : j < ly.length := by omega
          have h1 := (listB_all x3 lx[j] (List.getElem_mem _)).2
          have h2 := (listB_all y3 ly[j] (List.getElem_mem _)).2
          have h3 := hj j hjx
          rw [getElem!_pos lx j hjx, getElem!_pos ly j hjy] at h3 ⊢
          have h4 := same_alone h1 h2 h3
          simp [sameE, h4.1, h4.2.1, h4.2.2.2.1, h4.2.2.2.2]
          simpa using h4.2.2.1
        · exact absurd h5.2 h2
      · exact absurd h5.1 h1
    · rw [if_neg h5] at h0
      have hk : x.k = y.k := by
        rw [ord_kind] at h0; unfold byKind at h0
        by_cases e : x.k = y.k
        · exact e
        · rw [if_neg e] at h0; exact cmpI_zero.1 h0
      rcases formed_cases hx with ⟨h1, _⟩ | ⟨_, h1⟩
      · exact absurd ⟨h1, by omega⟩ h5
      · rcases formed_cases hy with ⟨h2, _⟩ | ⟨_, h2⟩
        · exact absurd ⟨by omega, h2⟩ h5
        · have h4 := same_alone h1 h2 h0
          unfold sameB headS
          rw [h4.2.2.2.1, h4.2.2.2.2]
          simp [h4.1, h4.2.1]
          simpa using h4.2.2.1
  · intro h
    unfold sameB at h
    rw [Bool.and_eq_true] at h
    have hh := h.1
    simp [headS] at hh
    have h0 : x.order lx y ly = 0 := by
      unfold Val.order
      split
      · refine lex_self (fun a b h1 h2 h3 => ord_zero_of h1 h2 h3) lx ly (by omega) fun j hj => ?_
        exact List.all_eq_true.1 h.2 j (by simp; omega)
      · exact ord_zero_of hh.1 hh.2.1 (by simpa using hh.2.2.1)
    simpa using h0
end Go.Proofs.YtllgodaphoncnaaGreatDoor
namespace Go.Proofs.YtllgodaphoncnaaGreatDoor
open Go.RowKit

/-- where a value belongs: all ahead are below it, none behind is -/
structure Spot (l : List Val) (t : Val) (p : Nat) : Prop where
  le : p ≤ l.length
  ahead : ∀ j, (h : j < l.length) → j < p → l[j].ord t < 0
  behind : ∀ j, (h : j < l.length) → p ≤ j → ¬ l[j].ord t < 0
def foundAt (l : List Val) (t : Val) (p : Nat) : Bool := decide (p < l.length) && (l[p]!.ord t == 0)
set_option maxRecDepth 100000 in
set_option maxHeartbeats 1000000 in
theorem search_any (w : World) (l : List Val) (ad : Option Addr) (g o cp : Nat) (t : Val) (p : Nat) (hl : ListAt w ad g o l) (hs : Spot l t p) (hm : l.length ≤ 1000000) :
    Calls Tryz.prog 167 #[.slice ad l.length cp, t.v, .func (.func 168) #[] #[]] w
      fun e w' => e = .returned (.tuple #[.int .i64 (p : Int), .bool (foundAt l t p)]) ∧ Below w.heap.size w w' := by
  have HL := Lib.hid hl
  have HS := Lib.hid hs
  have hp := hs.le
  clear hl hs
  unfold Val.v
  go_enter Tryz.func167, Tryz.ntmps167
  go_wp2_with fail
  generalize hW : World.alloc _ _ = W0
  have hb0 : Below w.heap.size w W0 := by rw [← hW]; exact (Below.refl _ _).alloc (Nat.le_refl _) _
  have hblk : W0.heap[w.heap.size]? = some (.cells #[.int .i64 t.k, .int .i64 t.i, .string t.s, .slice t.a t.n t.c] 24 (0, 0)) := by rw [← hW]; exact heap_alloc_new _ _
  have HB0 := Lib.hid hb0
  have Hblk := Lib.hid hblk
  clear hW hb0 hblk
  go_loopw [9, 10] (fun a b wr => ∃ i j : Nat, i ≤ p ∧ p ≤ j ∧ j ≤ l.length ∧ a = .int .i64 i ∧ b = .int .i64 j ∧ Hid (Below W0.heap.size W0 wr)) (fun a b _ => (intOf b).toNat - (intOf a).toNat)
  case atStart => exact ⟨0, l.length, by omega, by omega, by omega, rfl, rfl, Lib.hid (Below.refl _ _)⟩
  case round =>
    obtain ⟨i, j, hi, hj, hjl, rfl, rfl, HB⟩ := hrel
    have hblk := (HB.out.block _ (lt_block Hblk.out)).trans Hblk.out
    have HBw := Lib.hid (HB0.out.trans (HB.out.mono HB0.out.size))
    by_cases hlt : i < j
    · have hlen : 0 < l.length := by omega
      obtain rfl := HL.out.at' (by intro e; subst e; simp at hlen)
      obtain ⟨h, hh⟩ : ∃ h : Nat, h = (i + j) / 2 := ⟨_, rfl⟩
      have hhl : h < l.length := by omega
      have hij1 : i ≤ h := by omega
      have hij2 : h < j := by omega
      have e2 : ((i : Int) + (j : Int)) / 2 = (h : Int) := by omega
      clear hh
      go_wp2_with fail
      have x0 := fun m : Bl wr => ((HL.out.below HBw.out).below m.below).c0 h hhl
      have x1 := fun m : Bl wr => ((HL.out.below HBw.out).below m.below).c1 h hhl
      have x2 := fun m : Bl wr => ((HL.out.below HBw.out).below m.below).c2 h hhl
      have x3 := fun m : Bl wr => ((HL.out.below HBw.out).below m.below).c3 h hhl
      have t0 := fun m : Bl wr => (cells4 hblk m).1
      have t1 := fun m : Bl wr => (cells4 hblk m).2.1
      have t2 := fun m : Bl wr => (cells4 hblk m).2.2.1
      have t3 := fun m : Bl wr => (cells4 hblk m).2.2.2
      have hah := fun hp' => HS.out.ahead h hhl hp'
      have hbe := fun hp' => HS.out.behind h hhl hp'
      generalize l[h] = x at *
      obtain ⟨od, hod⟩ : ∃ od, x.ord t = od := ⟨_, rfl⟩
      rw [hod] at hah hbe
      have F : Hid (∀ W, Calls Tryz.prog 168 #[V x.k x.i x.s x.a x.n x.c, V t.k t.i t.s t.a t.n t.c] W fun e w' => e = .returned (.int .i64 od) ∧ Below W.heap.size W w') := Lib.hid (by
        intro W; rw [← hod]; exact orderAlone_any x.k x.i x.s x.a x.n x.c t.k t.i t.s t.a t.n t.c W)
      clear hod e2
      have hle : od < 0 → h < p := fun hn => (Nat.lt_or_ge h p).elim id fun hge => absurd hn (hbe hge)
      have hge : ¬ od < 0 → p ≤ h := fun hn => (Nat.lt_or_ge h p).elim (fun hl => absurd (hah hl) hn) id
      clear hah hbe hblk
      refine wp_region_quietB (by kernel_rfl) (by kernel_rfl) ?_
      iterate 8 (go_big_quiet_step ((go_at_call 168; with_reducible exact Calls.quiet_b (F.out _))))
      refine wpQuiet_nil ?_
      intro m
      have HBM := Lib.hid (HB.out.trans (m.below.mono HB.out.size))
      clear x0 x1 x2 x3 t0 t1 t2 t3 F
      by_cases hneg : od < 0
      · have hlp := hle hneg
        clear hle hge
        go_wp2_with fail
        go_roundw
        case rel => exact ⟨h + 1, j, by omega, by omega, by omega, by go_num, rfl, HBM⟩
        case measure => simp [intOf]; omega
      · have hgp := hge hneg
        clear hle hge
        go_wp2_with fail
        go_roundw
        case rel => exact ⟨i, h, by omega, by omega, by omega, rfl, rfl, HBM⟩
        case measure => simp [intOf]; omega
    · obtain rfl : i = p := by omega
      obtain rfl : i = j := by omega
      go_wp2_with fail
      by_cases hpl : i < l.length
      · obtain rfl := HL.out.at' (by intro e; subst e; simp at hpl)
        have x0 := fun m : Bl wr => ((HL.out.below HBw.out).below m.below).c0 i hpl
        have x1 := fun m : Bl wr => ((HL.out.below HBw.out).below m.below).c1 i hpl
        have x2 := fun m : Bl wr => ((HL.out.below HBw.out).below m.below).c2 i hpl
        have x3 := fun m : Bl wr => ((HL.out.below HBw.out).below m.below).c3 i hpl
        have t0 := fun m : Bl wr => (cells4 hblk m).1
        have t1 := fun m : Bl wr => (cells4 hblk m).2.1
        have t2 := fun m : Bl wr => (cells4 hblk m).2.2.1
        have t3 := fun m : Bl wr => (cells4 hblk m).2.2.2
        have hfo : foundAt l t i = (l[i].ord t == 0) := by rw [foundAt, getElem!_pos l i hpl, decide_eq_true hpl, Bool.true_and]
        generalize l[i] = x at *
        obtain ⟨od, hod⟩ : ∃ od, x.ord t = od := ⟨_, rfl⟩
        rw [hod] at hfo
        have F : Hid (∀ W, Calls Tryz.prog 168 #[V x.k x.i x.s x.a x.n x.c, V t.k t.i t.s t.a t.n t.c] W fun e w' => e = .returned (.int .i64 od) ∧ Below W.heap.size W w') := Lib.hid (by
          intro W; rw [← hod]; exact orderAlone_any x.k x.i x.s x.a x.n x.c t.k t.i t.s t.a t.n t.c W)
        have HFO := Lib.hid hfo
        clear hod hblk hfo
        refine wp_region_quietB (by kernel_rfl) (by kernel_rfl) ?_
        iterate 16 (go_big_quiet_step ((go_at_call 168; with_reducible exact Calls.quiet_b (F.out _))))
        refine wpQuiet_nil ?_
        intro m
        have HBM := Lib.hid (HBw.out.trans (m.below.mono HBw.out.size))
        clear x0 x1 x2 x3 t0 t1 t2 t3 F
        go_wp2_with fail
        go_ret2
        exact ⟨by rw [HFO.out]; rfl, HBM.out⟩
      · have hfo : foundAt l t i = false := by rw [foundAt, decide_eq_false hpl, Bool.false_and]
        have HFO := Lib.hid hfo
        clear hblk hfo
        refine wp_region_quietB (by kernel_rfl) (by kernel_rfl) ?_
        iterate 16 (go_big_quiet_step (fail))
        refine wpQuiet_nil ?_
        intro m
        have HBM := Lib.hid (HBw.out.trans (m.below.mono HBw.out.size))
        go_wp2_with fail
        go_ret2
        exact ⟨by rw [HFO.out]; rfl, HBM.out⟩

/-- a rising list -/
def Rising (l : List Val) : Prop := ∀ i j, (hi : i < l.length) → (hj : j < l.length) → i < j → l[i].ord l[j] < 0
set_option maxRecDepth 100000 in
theorem rising_of (l : List Val) (h : ∀ j, (hj : j + 1 < l.length) → l[j].ord l[j + 1] < 0) : Rising l := by
  intro i j hi hj hij
  obtain ⟨d, rfl⟩ := Nat.exists_eq_add_of_lt hij
  clear hij
  induction d with
  | zero => exact h i hj
  | succ d ih => exact isCmp_ord.lt_le (ih (by omega)) (Int.le_of_lt (h (i + d + 1) hj))
set_option maxRecDepth 100000 in
theorem rising_bag {l : List Val} (h : listB l = true) : Rising l := by
  refine rising_of l fun j hj => ?_
  unfold listB at h
  rw [Bool.and_eq_true] at h
  have h1 := List.all_eq_true.1 h.2 (j + 1) (by simpa using hj)
  unfold okA okV at h1
  rw [getElem!_pos l (j + 1) hj, Nat.add_sub_cancel, getElem!_pos l j (by omega)] at h1
  simp at h1
  exact h1.2.2.2
set_option maxRecDepth 100000 in
theorem spot_exists (l : List Val) (t : Val) (hr : Rising l) : ∃ p, Spot l t p := by
  have key : ∀ n, n ≤ l.length → (∀ j, (h : j < l.length) → j < n → l[j].ord t < 0) ∨ ∃ p, p < n ∧ ∃ hp : p < l.length, (∀ j, (h : j < l.length) → j < p → l[j].ord t < 0) ∧ ¬ l[p].ord t < 0 := by
    intro n
    induction n with
    | zero => intro _; exact .inl fun j _ h => absurd h (by omega)
    | succ n ih =>
      intro hn
      rcases ih (by omega) with h | ⟨p, h1, h2⟩
      · by_cases hlt : l[n].ord t < 0
        · refine .inl fun j hj hjn => ?_
          rcases Nat.lt_or_ge j n with h3 | h3
          · exact h j hj h3
          · obtain rfl : j = n := by omega
            exact hlt
        · exact .inr ⟨n, by omega, by omega, fun j hj hjn => h j hj hjn, hlt⟩
      · exact .inr ⟨p, by omega, h2⟩
  rcases key l.length (Nat.le_refl _) with h | ⟨p, h1, h2, h3, h4⟩
  · exact ⟨l.length, Nat.le_refl _, fun j hj _ => h j hj hj, fun j hj hl => absurd hl (by omega)⟩
  · refine ⟨p, by omega, h3, fun j hj hpj hneg => h4 ?_⟩
    rcases Nat.lt_or_ge p j with h5 | h5
    · exact isCmp_ord.lt_le (hr p j h2 hj h5) (Int.le_of_lt hneg)
    · obtain rfl : p = j := by omega
      exact hneg
set_option maxRecDepth 100000 in
/-- found there, or nowhere -/
theorem found_any {l : List Val} {t : Val} {p : Nat} (hr : Rising l) (hs : Spot l t p) : foundAt l t p = l.any (fun x => x.ord t == 0) := by
  rw [Bool.eq_iff_iff, List.any_eq_true]
  constructor
  · intro h
    unfold foundAt at h
    rw [Bool.and_eq_true] at h
    have hp : p < l.length := of_decide_eq_true h.1
    refine ⟨l[p], List.getElem_mem _, ?_⟩
    rw [getElem!_pos l p hp] at h
    exact h.2
  · rintro ⟨x, hx, h⟩
    obtain ⟨j, hj, rfl⟩ := List.mem_iff_getElem.1 hx
    have h0 : l[j].ord t = 0 := by simpa using h
    have hpj : p ≤ j := (Nat.lt_or_ge j p).elim (fun hl => absurd (hs.ahead j hj hl) (by omega)) id
    have hp : p < l.length := by omega
    unfold foundAt
    rw [decide_eq_true hp, Bool.true_and, getElem!_pos l p hp]
    rcases Nat.lt_or_ge p j with h5 | h5
    · have h6 := hr p j hp hj h5
      exact absurd (isCmp_ord.lt_le h6 (by omega : l[j].ord t ≤ 0)) (hs.behind p hp (Nat.le_refl _))
    · obtain rfl : p = j := by omega
      simpa using h0
end Go.Proofs.YtllgodaphoncnaaGreatDoor
