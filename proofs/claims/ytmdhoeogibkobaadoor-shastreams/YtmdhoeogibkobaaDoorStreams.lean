/- P1.1: a stream tells behind each part the fingerprint of all so far, and goes on; a clone goes on by itself: the walk of the law. -/
import Derived.Test.YtmdhoeogibkobaaDoorOfLaw
import Derived.Test.YtmdhoeogibkobaaDoorCuts
import Derived.Laws.StructEq
namespace Go.Proofs.YtmdhoeogibkobaaDoor
open Go.RowKit

theorem neqH (l l' : List UInt8) (w : World) : (binOp .neq 26 (H l) (H l')).run Tryd.prog w = .ok (.bool (!(shaOf l == shaOf l'))) w := by
  unfold H
  rw [run_neq_struct]
  have h := run_equalIn_bytes (P := Tryd.prog) w 9998 26 5 32 Tryd.underlying26 Tryd.underlying5 (fun _ => by kernel_rfl) (shaOf l) (shaOf l') (length_shaOf l) (length_shaOf l')
  have h' : (Op.equalIn 10000 26 (.agg ((shaOf l).map B).toArray) (.agg ((shaOf l').map B).toArray)).run Tryd.prog w = .ok (shaOf l == shaOf l') w := h
  rw [h']; rfl
theorem guardN (l l' : List UInt8) (x y : Operand) (w : World) : (eqGuard .neq 26 x y (H l) (H l')).run Tryd.prog w = .ok () w :=
  run_eqGuard_agg w .neq 26 x y _ _ (by kernel_rfl)
/-- owned bytes lie where they lay -/
theorem own_on {w w' : World} {base : Nat} {v : Value} {n : Nat} {xs : List Value} (h : w.ownsRow base 5 1 v n xs) (hk : ∀ g, base ≤ g → g < w.heap.size → w'.heap[g]? = w.heap[g]?) : w'.ownsRow base 5 1 v n xs := by
  obtain ⟨h1, h2⟩ := h
  refine ⟨h1, ?_⟩
  rcases h2 with h2 | ⟨g, cap, cur, e, hb, hg, hc, hm, hsz, ht⟩
  · exact .inl h2
  · exact .inr ⟨g, cap, cur, e, hb, (hk g hb (lt_block hg)).trans hg, hc, hm, hsz, ht⟩
theorem Holds.low {w w' : World} {b base : Nat} {t : TypeId} {l : List UInt8} (h : Holds w b t l) (hb : Below base w w') (hlt : b < base) : Holds w' b t l := by
  obtain ⟨s, rest, h1, h2⟩ := h.here
  exact ⟨s, rest, h1, ⟨h2.len, (hb.block b hlt).trans h2.blk⟩⟩
/-- what the loop over the parts keeps -/
structure StrRel (w1 : World) (L : List UInt8) (v : Value) (wr : World) : Prop where
  holds : Holds wr w1.heap.size 57 L
  own : wr.ownsRow (w1.heap.size + 1) 5 1 v L.length (L.map B)
  below : Below w1.heap.size w1 wr
  size : w1.heap.size + 1 ≤ wr.heap.size
theorem StrRel.on {w1 : World} {L : List UInt8} {v : Value} {wr wr' : World} (h : StrRel w1 L v wr) (hb : Below wr.heap.size wr wr') : StrRel w1 L v wr' :=
  ⟨h.holds.below hb, own_on h.own fun g _ hg => hb.block g hg, h.below.trans (hb.mono h.below.size), Nat.le_trans h.size hb.size⟩

/-- whether the law looks at these -/
def strF (ps : List Part) (oth : Part) : Bool := (decide ((ps.length : Int) ≤ 100) && decide ((fewS (ps.take 200) : Int) ≤ 500)) && (decide (ps.length ≤ 40) && decide (oth.l.length ≤ 200))
set_option maxRecDepth 100000 in
set_option maxHeartbeats 1000000 in
theorem streams_long (w : World) (ps : List Part) (ap : Option Addr) (gp op cp : Nat) (oth : Part) (hc : Came w ap gp op ps) (ho : oth.l.length ≤ maxLen) (ht : Tab w) (hf : strF ps oth = false) :
    Calls Tryd.prog 4 #[.slice ap ps.length cp, oth.val] w fun e w' => e = .returned (.bool true) ∧ Below w.heap.size w w' := by
  have h0 := ht.size
  have HT := Lib.hid ht
  obtain ⟨f, hff⟩ : ∃ f, (decide ((ps.length : Int) ≤ 100) && decide ((fewS (ps.take 200) : Int) ≤ 500)) = f := ⟨_, rfl⟩
  have F : Hid (∀ W, Below w.heap.size w W → Calls Tryd.prog 9 #[.slice ap ps.length cp, .int .i64 500] W fun e w' => e = .returned (.bool f) ∧ W = w') := Lib.hid (by
    intro W hW; rw [← hff]; exact few_any W ps ap gp op cp 500 (hc.parts.below hW) hc.most hc.each)
  have hm := hc.most
  unfold maxLen at hm ho
  unfold strF at hf
  rw [hff] at hf
  clear hc ht hff
  unfold Part.val
  have fin : Hid (∀ W, Below w.heap.size w W → Calls Tryd.prog 8 #[] W fun e w' => e = .returned (.bool true) ∧ Below w.heap.size w w') := Lib.hid (by
    intro W hW; exact (awake_any W (HT.out.below hW h0)).mono fun e w' ⟨he, hb⟩ => ⟨he, hW.trans (hb.mono hW.size)⟩)
  cases f
  · clear hf
    go_enter Tryd.func4, Tryd.ntmps4
    go_wp2_with fail
    refine (fin.out w (Below.refl _ _)).mono ?_
    rintro e w1 ⟨rfl, hb1⟩
    have HB1 := Lib.hid hb1
    clear hb1
    go_wp2_with fail
    refine (F.out _ HB1.out).mono ?_
    rintro e w' ⟨rfl, rfl⟩
    go_wp2_with fail
    refine (fin.out _ HB1.out).mono ?_
    rintro e w2 ⟨rfl, hb2⟩
    have HB2 := Lib.hid hb2
    clear hb2
    go_wp2_with fail
    go_ret
    exact ⟨rfl, HB2.out⟩
  by_cases h40 : ps.length ≤ 40
  case neg =>
    clear hf
    go_enter Tryd.func4, Tryd.ntmps4
    go_wp2_with fail
    refine (fin.out w (Below.refl _ _)).mono ?_
    rintro e w1 ⟨rfl, hb1⟩
    have HB1 := Lib.hid hb1
    clear hb1
    go_wp2_with fail
    refine (F.out _ HB1.out).mono ?_
    rintro e w' ⟨rfl, rfl⟩
    go_wp2_with fail
    refine (fin.out _ HB1.out).mono ?_
    rintro e w2 ⟨rfl, hb2⟩
    have HB2 := Lib.hid hb2
    clear hb2
    go_wp2_with fail
    go_ret
    exact ⟨rfl, HB2.out⟩
  have h200 : ¬ oth.l.length ≤ 200 := by simp [h40] at hf; omega
  clear hf
  go_enter Tryd.func4, Tryd.ntmps4
  go_wp2_with fail
  refine (fin.out w (Below.refl _ _)).mono ?_
  rintro e w1 ⟨rfl, hb1⟩
  have HB1 := Lib.hid hb1
  clear hb1
  go_wp2_with fail
  refine (F.out _ HB1.out).mono ?_
  rintro e w' ⟨rfl, rfl⟩
  go_wp2_with fail
  refine (fin.out _ HB1.out).mono ?_
  rintro e w2 ⟨rfl, hb2⟩
  have HB2 := Lib.hid hb2
  clear hb2
  go_wp2_with fail
  go_ret
  exact ⟨rfl, HB2.out⟩
end Go.Proofs.YtmdhoeogibkobaaDoor
