/- P3.1: parts of a size that is looked at. -/
import Derived.Test.YtebadbnlihbecaaCPart
namespace Go.Proofs.Ytebadbnlihbecaa
open Go.RowKit

def smallP (p : PartV × List Val) : Bool := !decide (5000 < p.1.s.size) && small p.1.v p.2
theorem listAt_one {w : World} {g : Nat} {x : Val} {t : TypeId} {fr : Nat × Nat} (h : w.heap[g]? = some (.cells #[.int .i64 x.k, .int .i64 x.i, .string x.s, .slice x.a x.n x.c] t fr)) (hs : x.s.size ≤ maxLen) : ListAt w (some ⟨g, 0, none⟩) g 0 [x] := by
  have key : ∀ j, j < [x].length → j = 0 := fun j hj => by simp at hj; exact hj
  refine ⟨fun _ => rfl, fun j hj => ?_, fun j hj => ?_, fun j hj => ?_, fun j hj => ?_, fun y hy => ?_⟩
  · obtain rfl := key j hj; exact cell_block h 0
  · obtain rfl := key j hj; exact cell_block h 1
  · obtain rfl := key j hj; exact cell_block h 2
  · obtain rfl := key j hj; exact cell_block h 3
  · rw [List.mem_singleton.1 hy]; exact hs

set_option maxRecDepth 100000 in
set_option maxHeartbeats 2000000 in
theorem few3_any (w : World) (ps : List (PartV × List Val)) (ad : Option Addr) (g o cp : Nat) (n : Int) (hl : PList w ad g o ps) (hm : ps.length ≤ maxLen) :
    Calls Try.prog 9 #[.slice ad ps.length cp, .int .i64 n] w fun e w' => e = .returned (.bool ((ps.take 100).all smallP && decide ((ps.length : Int) ≤ n))) ∧ Below w.heap.size w w' := by
  have hm' := hm
  unfold maxLen at hm'
  have HL := Lib.hid hl
  clear hl hm
  go_enter Try.func9, Try.ntmps9
  go_wp2_with fail
  go_loopw [5] (fun i wr => ∃ k : Nat, k ≤ ps.length ∧ k ≤ 100 ∧ i = .int .i64 k ∧ Hid ((ps.take k).all smallP = true) ∧ Hid (Below w.heap.size w wr)) (fun i _ => 100 - (intOf i).toNat)
  case atStart => exact ⟨0, by omega, by omega, rfl, Lib.hid rfl, Lib.hid (Below.refl _ _)⟩
  case round =>
    obtain ⟨k, hk, hk100, rfl, HA, HB⟩ := hrel
    by_cases hlt : k < ps.length
    · by_cases h100 : k < 100
      · have hne : ps ≠ [] := by intro e; subst e; simp at hlt
        obtain rfl := HL.out.at' hne
        have HLr := HL.out.below HB.out
        have c2 := HLr.c2 k hlt
        have c3 := HLr.c3 k hlt
        have c4 := HLr.c4 k hlt
        have c5 := HLr.c5 k hlt
        have c6 := HLr.c6 k hlt
        have hfu := HLr.full _ (List.getElem_mem hlt)
        have hsz := (HL.out.ok _ (List.getElem_mem hlt)).s
        have hall := all_snoc smallP ps k hlt HA.out
        have hno := fun h => all_no_take smallP ps k 100 hlt h100 h (decide ((ps.length : Int) ≤ n))
        generalize ps[k] = p at *
        unfold maxLen at hsz
        have HFU := Lib.hid hfu
        have HALL := Lib.hid hall
        have HNO := Lib.hid hno
        have hgw : g < wr.heap.size := block_lt_of_cell c2
        clear HLr hfu hall hno
        by_cases h5 : 5000 < p.1.s.size
        · have h5i : (5000 : Int) < p.1.s.size := by omega
          go_wp2_with fail
          go_ret
          exact ⟨ret_bool (HNO.out (by simp [smallP, h5])), HB.out⟩
        · have h5i : ¬ (5000 : Int) < p.1.s.size := by omega
          obtain ⟨W1, hW1⟩ : ∃ W1, wr.alloc (.cells #[.int .i64 p.1.v.k, .int .i64 p.1.v.i, .string p.1.v.s, .slice p.1.v.a p.1.v.n p.1.v.c] 33) = W1 := ⟨_, rfl⟩
          have hb1 : Below wr.heap.size wr W1 := by rw [← hW1]; exact (Below.refl _ _).alloc (Nat.le_refl _) _
          have hx1 : W1.heap[wr.heap.size]? = some (.cells #[.int .i64 p.1.v.k, .int .i64 p.1.v.i, .string p.1.v.s, .slice p.1.v.a p.1.v.n p.1.v.c] 33 (0, 0)) := by rw [← hW1]; exact heap_alloc_new _ _
          have F := few_any W1 [(p.1.v, p.2)] (some ⟨wr.heap.size, 0, none⟩) wr.heap.size 0 1 1 (listAt_one hx1 HFU.out.size) (fun q hq => by rw [List.mem_singleton.1 hq]; exact HFU.out.below hb1) (by show 1 ≤ maxLen; decide)
          obtain ⟨sm, hsm⟩ : ∃ sm, small p.1.v p.2 = sm := ⟨_, rfl⟩
          have e1 : (([(p.1.v, p.2)].take 100).all (fun p => small p.1 p.2) && decide ((([(p.1.v, p.2)] : List (Val × List Val)).length : Int) ≤ 1)) = sm := by simp [hsm]
          rw [e1] at F
          have HFF := Lib.hid F
          have HW1 := Lib.hid hW1
          have HB1 := Lib.hid (HB.out.trans (hb1.mono HB.out.size))
          have HSM := Lib.hid hsm
          clear F hW1 hb1 hx1 e1 hsm
          go_wp2_with fail
          rw [HW1.out]
          refine HFF.out.mono ?_
          rintro e w2 ⟨rfl, rfl⟩
          clear c2 c3 c4 c5 c6 HFF HW1
          cases sm
          · go_wp2_with fail
            go_ret
            exact ⟨ret_bool (HNO.out (by simp [smallP, HSM.out])), HB1.out⟩
          · go_wp2_with fail
            go_roundw
            case rel => exact ⟨k + 1, by omega, by omega, by go_num, Lib.hid (HALL.out (by simp [smallP, HSM.out]; omega)), HB1⟩
            case measure => simp [intOf]; omega
      · have hk' : k = 100 := by omega
        go_wp2_with fail
        go_ret
        exact ⟨ret_bool (all_end smallP ps k 100 HA.out (.inr hk') (by omega) _), HB.out⟩
    · have hk' : k = ps.length := by omega
      go_wp2_with fail
      go_ret
      exact ⟨ret_bool (all_end smallP ps k 100 HA.out (.inl hk') (by omega) _), HB.out⟩
end Go.Proofs.Ytebadbnlihbecaa
