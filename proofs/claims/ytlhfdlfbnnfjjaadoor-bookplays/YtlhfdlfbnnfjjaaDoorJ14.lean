/- The reference's operations on words: where an odd number is true; Turned right by n, or (not round) moved; Two words added, with carries, going round. -/
import Derived.Test.YtlhfdlfbnnfjjaaDoorJ13
import Derived.Test.YtlhfdlfbnnfjjaaDoorJ03
namespace Go.Proofs.YtlhfdlfbnnfjjaaDoor
open Go.RowKit

set_option maxRecDepth 100000 in
set_option maxHeartbeats 1000000 in
theorem odd_any (x y z : BitVec 32) (w : World) :
    Calls Tryd.prog 72 #[BV x, BV y, BV z] w fun e w' => e = .returned (BV (x ^^^ y ^^^ z)) ∧ Below w.heap.size w w' := by
  unfold BV
  go_enter Tryd.func72, Tryd.ntmps72
  go_wp2_with fail
  generalize hW : World.alloc _ _ = w1
  have R : BitRel w.heap.size [x, y, z] (fun _ => false) w w1 := by
    rw [← hW]
    have hh := heap_allocs [.cells (bitsV x).toArray 108, .cells (bitsV y).toArray 108, .cells (bitsV z).toArray 108, .cells (bitsC fun _ => false).toArray 108, .cells (bitsC fun _ => false).toArray 108] w
    refine ⟨fun i hi => ?_, ⟨fun _ => false, hh 3 (by simp)⟩, hh 4 (by simp), below_allocs [_, _, _, _, _] w (Below.refl _ _) (Nat.le_refl _)⟩
    match i, hi with
    | 0, _ => exact hh 0 (by simp)
    | 1, _ => exact hh 1 (by simp)
    | 2, _ => exact hh 2 (by simp)
  clear hW
  go_loopw [8] (fun i wr => ∃ k : Nat, k ≤ 32 ∧ i = .int .i64 k ∧ BitRel w.heap.size [x, y, z] (fun i => if i < k then (x ^^^ y ^^^ z).getLsbD i else false) w wr) (fun i _ => 32 - (intOf i).toNat)
  case atStart => exact ⟨0, by omega, rfl, R.congr (fun i _ => by simp)⟩
  case round =>
    clear R
    obtain ⟨k, hk, rfl, hr⟩ := hrel
    by_cases hlt : k < 32
    · have hd : decide ((k : Int) < 32) = true := by simp; omega
      have ca : wr.cell? ⟨w.heap.size, k, none⟩ = some (.bool (x.getLsbD k)) := hr.cell 0 (by simp) k hlt
      have cb : wr.cell? ⟨w.heap.size + 1, k, none⟩ = some (.bool (y.getLsbD k)) := hr.cell 1 (by simp) k hlt
      have cc : wr.cell? ⟨w.heap.size + 1 + 1, k, none⟩ = some (.bool (z.getLsbD k)) := hr.cell 2 (by simp) k hlt
      obtain ⟨v, cv⟩ : ∃ v, wr.cell? ⟨w.heap.size + 1 + 1 + 1 + 1, k, none⟩ = some v := ⟨_, hr.outSome k hlt⟩
      have cf : wr.frozen? ⟨w.heap.size + 1 + 1 + 1 + 1, k, none⟩ = false := hr.outFree k
      have Hr := Lib.hid hr
      clear hr
      generalize hxa : x.getLsbD k = xa at *
      generalize hya : y.getLsbD k = ya at *
      generalize hza : z.getLsbD k = za at *
      have Hx := Lib.hid hxa
      have Hy := Lib.hid hya
      have Hz := Lib.hid hza
      clear hxa hya hza
      go_wp2_with fail
      refine wp_region_quiet_tail 13 (by kernel_rfl) (by kernel_rfl) ?_
      simp only [List.take_succ_cons, List.take_zero, List.drop_succ_cons, List.drop_zero]
      iterate 13 (go_big_quiet_step (fail))
      refine wpQuiet_nil ?_
      intro q
      go_wp2_with fail
      go_roundw
      case rel =>
        refine ⟨k + 1, by omega, by go_num, ?_⟩
        have := ((Hr.out.drewN q).set k ((xa != ya) != za)).congr (g := fun i => if i < k + 1 then (x ^^^ y ^^^ z).getLsbD i else false) (fun i _ => by
          by_cases h : i = k
          · subst h; simp [← Hx.out, ← Hy.out, ← Hz.out, BitVec.getLsbD_xor]
          · rw [if_neg h]; by_cases h2 : i < k
            · rw [if_pos h2, if_pos (by omega)]
            · rw [if_neg h2, if_neg (by omega)])
        exact this
      case measure => simp [intOf]; omega
    · have hd : decide ((k : Int) < 32) = false := by simp; omega
      obtain rfl : k = 32 := by omega
      have hr' := hr.congr (g := (x ^^^ y ^^^ z).getLsbD) (fun i hi => by rw [if_pos hi])
      obtain ⟨hrange, hthere, hend, hbel⟩ := hr'.fin rfl
      have Hend := Lib.hid hend
      have Hbel := Lib.hid hbel
      have hlen := length_bitsC (x ^^^ y ^^^ z).getLsbD
      have hone := all_oneCell_toArray (one_bitsC (x ^^^ y ^^^ z).getLsbD)
      have hL : BV (x ^^^ y ^^^ z) = .agg (bitsC (x ^^^ y ^^^ z).getLsbD).toArray := rfl
      generalize bitsC (x ^^^ y ^^^ z).getLsbD = L at *
      have HL := Lib.hid hL
      have hi := infoBitsL _ hlen
      clear hr hr' hend hbel hL
      go_wp2_with (first
        | (refine wpList_load_mid rfl 108 (.tmp 7) rfl (w.heap.size + 1 + 1 + 1 + 1) 0 rfl L _ hrange Tryd.underlying108 rfl hi ?_)
        | (refine wpList_store_mid rfl 108 (.tmp 6) (.tmp 26) rfl (w.heap.size + 1 + 1 + 1) 0 L.toArray rfl rfl (by simpa [hlen] using hthere) (by simpa using hi) hone ?_))
      exact bodyPost_ret (v := .agg L.toArray) (results_cell_row Tryd.results72 _ _ (w.heap.size + 1 + 1 + 1) 108 L.toArray (0, 0) _ rfl Hend.out Tryd.underlying108 rfl (by simpa using hi)) rfl ⟨by rw [← HL.out]; rfl, Hbel.out⟩
end Go.Proofs.YtlhfdlfbnnfjjaaDoor
namespace Go.Proofs.YtlhfdlfbnnfjjaaDoor
open Go.RowKit

/-- turned right, or moved -/
def rgt (x : BitVec 32) (n : Nat) (r : Bool) : BitVec 32 := if r then rotr x n else x >>> n
set_option maxRecDepth 100000 in
theorem rgt_bit (x : BitVec 32) (n : Nat) (r : Bool) (i : Nat) (h1 : 1 ≤ n) (h2 : n ≤ 31) (hi : i < 32) : (rgt x n r).getLsbD i = if i + n < 32 then x.getLsbD (i + n) else if r then x.getLsbD (i + n - 32) else false := by
  cases r
  · simp only [rgt, Bool.false_eq_true, if_false, BitVec.getLsbD_ushiftRight]
    rw [Nat.add_comm n i]
    by_cases h : i + n < 32
    · rw [if_pos h]
    · rw [if_neg h, BitVec.getLsbD_of_ge _ _ (by omega)]
  · simp only [rgt, if_true, rotr, BitVec.getLsbD_or, BitVec.getLsbD_shiftLeft, BitVec.getLsbD_ushiftRight]
    rw [Nat.add_comm n i]
    by_cases h : i + n < 32
    · rw [if_pos h]; simp [show i < 32 - n by omega]
    · rw [if_neg h, BitVec.getLsbD_of_ge x (i + n) (by omega), show i - (32 - n) = i + n - 32 by omega]; simp [show ¬ i < 32 - n by omega, hi]

set_option maxRecDepth 100000 in
set_option maxHeartbeats 2000000 in
theorem right_any (x : BitVec 32) (n : Int) (r : Bool) (w : World) (h1 : 1 ≤ n) (h2 : n ≤ 31) :
    Calls Tryd.prog 73 #[BV x, .int .i64 n, .bool r] w fun e w' => e = .returned (BV (rgt x n.toNat r)) ∧ Below w.heap.size w w' := by
  obtain ⟨n, rfl⟩ := Int.eq_ofNat_of_zero_le (show 0 ≤ n by omega)
  rw [Int.toNat_natCast]
  have hbit := rgt_bit x n r
  have Hbit := Lib.hid hbit
  clear hbit
  unfold BV
  go_enter Tryd.func73, Tryd.ntmps73
  go_wp2_with fail
  generalize hW : World.alloc _ _ = w1
  have R : BitRel w.heap.size [x] (fun _ => false) w w1 := by
    rw [← hW]
    have hh := heap_allocs [.cells (bitsV x).toArray 108, .cells (bitsC fun _ => false).toArray 108, .cells (bitsC fun _ => false).toArray 108] w
    refine ⟨fun i hi => ?_, ⟨fun _ => false, hh 1 (by simp)⟩, hh 2 (by simp), below_allocs [_, _, _] w (Below.refl _ _) (Nat.le_refl _)⟩
    match i, hi with
    | 0, _ => exact hh 0 (by simp)
  clear hW
  go_loopw [8] (fun i wr => ∃ k : Nat, k ≤ 32 ∧ i = .int .i64 k ∧ BitRel w.heap.size [x] (fun i => if i < k then (rgt x n r).getLsbD i else false) w wr) (fun i _ => 32 - (intOf i).toNat)
  case atStart => exact ⟨0, by omega, rfl, R.congr (fun i _ => by simp)⟩
  case round =>
    clear R
    obtain ⟨k, hk, rfl, hr⟩ := hrel
    by_cases hlt : k < 32
    · have hd : decide ((k : Int) < 32) = true := by simp; omega
      obtain ⟨v, cv⟩ : ∃ v, wr.cell? ⟨w.heap.size + 1 + 1, k, none⟩ = some v := ⟨_, hr.outSome k hlt⟩
      have cf : wr.frozen? ⟨w.heap.size + 1 + 1, k, none⟩ = false := hr.outFree k
      have hb := Hbit.out k (by omega) (by omega) hlt
      by_cases hs : k + n < 32
      · have ca : wr.cell? ⟨w.heap.size, k + n, none⟩ = some (.bool (x.getLsbD (k + n))) := hr.cell 0 (by simp) (k + n) hs
        rw [if_pos hs] at hb
        generalize hxa : x.getLsbD (k + n) = xa at *
        have hd2 : decide ((k : Int) + (n : Int) < 32) = true := by simp; omega
        have Hr := Lib.hid hr
        have Hb := Lib.hid hb
        clear hr hb hxa
        go_wp2_with fail
        go_roundw
        case rel =>
          refine ⟨k + 1, by omega, by go_num, ?_⟩
          exact (Hr.out.set k xa).congr (g := fun i => if i < k + 1 then (rgt x n r).getLsbD i else false) (fun i _ => by
          by_cases h : i = k
          · subst h; rw [if_pos rfl, if_pos (by omega), Hb.out]
          · rw [if_neg h]; by_cases h2 : i < k
            · rw [if_pos h2, if_pos (by omega)]
            · rw [if_neg h2, if_neg (by omega)])
        case measure => simp [intOf]; omega
      · rw [if_neg hs] at hb
        have hd2 : decide ((k : Int) + (n : Int) < 32) = false := by simp; omega
        have hn32 : ((k : Int) + (n : Int) - 32).toNat = k + n - 32 := by omega
        cases r
        · simp only [Bool.false_eq_true, if_false] at hb
          have Hr := Lib.hid hr
          have Hb := Lib.hid hb
          clear hr hb
          go_wp2_with fail
          go_roundw
          case rel =>
            refine ⟨k + 1, by omega, by go_num, Hr.out.congr (fun i _ => ?_)⟩
            by_cases h : i = k
            · subst h; rw [if_neg (by omega), if_pos (by omega), Hb.out]
            · by_cases h2 : i < k
              · rw [if_pos h2, if_pos (by omega)]
              · rw [if_neg h2, if_neg (by omega)]
          case measure => simp [intOf]; omega
        · simp only [if_true] at hb
          have ca : wr.cell? ⟨w.heap.size, k + n - 32, none⟩ = some (.bool (x.getLsbD (k + n - 32))) := hr.cell 0 (by simp) (k + n - 32) (by omega)
          generalize hxa : x.getLsbD (k + n - 32) = xa at *
          have Hr := Lib.hid hr
          have Hb := Lib.hid hb
          clear hr hb hxa
          go_wp2_with fail
          go_roundw
          case rel =>
            refine ⟨k + 1, by omega, by go_num, ?_⟩
            exact (Hr.out.set k xa).congr (g := fun i => if i < k + 1 then (rgt x n true).getLsbD i else false) (fun i _ => by
          by_cases h : i = k
          · subst h; rw [if_pos rfl, if_pos (by omega), Hb.out]
          · rw [if_neg h]; by_cases h2 : i < k
            · rw [if_pos h2, if_pos (by omega)]
            · rw [if_neg h2, if_neg (by omega)])
          case measure => simp [intOf]; omega
    · have hd : decide ((k : Int) < 32) = false := by simp; omega
      obtain rfl : k = 32 := by omega
      have hr' := hr.congr (g := (rgt x n r).getLsbD) (fun i hi => by rw [if_pos hi])
      obtain ⟨hrange, hthere, hend, hbel⟩ := hr'.fin rfl
      have Hend := Lib.hid hend
      have Hbel := Lib.hid hbel
      have hlen := length_bitsC (rgt x n r).getLsbD
      have hone := all_oneCell_toArray (one_bitsC (rgt x n r).getLsbD)
      have hL : BV (rgt x n r) = .agg (bitsC (rgt x n r).getLsbD).toArray := rfl
      generalize bitsC (rgt x n r).getLsbD = L at *
      have HL := Lib.hid hL
      have hi := infoBitsL _ hlen
      clear hr hr' hend hbel hL
      go_wp2_with (first
        | (refine wpList_load_mid rfl 108 (.tmp 7) rfl (w.heap.size + 1 + 1) 0 rfl L _ hrange Tryd.underlying108 rfl hi ?_)
        | (refine wpList_store_mid rfl 108 (.tmp 6) (.tmp 33) rfl (w.heap.size + 1) 0 L.toArray rfl rfl (by simpa [hlen] using hthere) (by simpa using hi) hone ?_))
      exact bodyPost_ret (v := .agg L.toArray) (results_cell_row Tryd.results73 _ _ (w.heap.size + 1) 108 L.toArray (0, 0) _ rfl Hend.out Tryd.underlying108 rfl (by simpa using hi)) rfl ⟨by rw [← HL.out]; rfl, Hbel.out⟩
end Go.Proofs.YtlhfdlfbnnfjjaaDoor
namespace Go.Proofs.YtlhfdlfbnnfjjaaDoor
open Go.RowKit

set_option maxRecDepth 100000 in
set_option maxHeartbeats 2000000 in
theorem plus_any (x y : BitVec 32) (w : World) :
    Calls Tryd.prog 74 #[BV x, BV y] w fun e w' => e = .returned (BV (x + y)) ∧ Below w.heap.size w w' := by
  unfold BV
  go_enter Tryd.func74, Tryd.ntmps74
  go_wp2_with fail
  generalize hW : World.alloc _ _ = w1
  have R : BitRel w.heap.size [x, y] (fun _ => false) w w1 := by
    rw [← hW]
    have hh := heap_allocs [.cells (bitsV x).toArray 108, .cells (bitsV y).toArray 108, .cells (bitsC fun _ => false).toArray 108, .cells (bitsC fun _ => false).toArray 108] w
    refine ⟨fun i hi => ?_, ⟨fun _ => false, hh 2 (by simp)⟩, hh 3 (by simp), below_allocs [_, _, _, _] w (Below.refl _ _) (Nat.le_refl _)⟩
    match i, hi with
    | 0, _ => exact hh 0 (by simp)
    | 1, _ => exact hh 1 (by simp)
  clear hW
  go_loopw [6, 7] (fun c i wr => ∃ k : Nat, k ≤ 32 ∧ i = .int .i64 k ∧ c = .bool (BitVec.carry k x y false) ∧ BitRel w.heap.size [x, y] (fun i => if i < k then (x + y).getLsbD i else false) w wr) (fun _ i _ => 32 - (intOf i).toNat)
  case atStart => exact ⟨0, by omega, rfl, by rw [BitVec.carry_zero], R.congr (fun i _ => by simp)⟩
  case round =>
    clear R
    obtain ⟨k, hk, rfl, rfl, hr⟩ := hrel
    by_cases hlt : k < 32
    · have hd : decide ((k : Int) < 32) = true := by simp; omega
      have ca : wr.cell? ⟨w.heap.size, k, none⟩ = some (.bool (x.getLsbD k)) := hr.cell 0 (by simp) k hlt
      have cb : wr.cell? ⟨w.heap.size + 1, k, none⟩ = some (.bool (y.getLsbD k)) := hr.cell 1 (by simp) k hlt
      obtain ⟨v, cv⟩ : ∃ v, wr.cell? ⟨w.heap.size + 1 + 1 + 1, k, none⟩ = some v := ⟨_, hr.outSome k hlt⟩
      have cf : wr.frozen? ⟨w.heap.size + 1 + 1 + 1, k, none⟩ = false := hr.outFree k
      have hcs := BitVec.carry_succ (i := k) (x := x) (y := y) (c := false)
      have hga := BitVec.getLsbD_add (i := k) hlt x y
      have Hr := Lib.hid hr
      clear hr
      cases hxa : x.getLsbD k <;> cases hya : y.getLsbD k <;> cases hza : BitVec.carry k x y false
      all_goals
        rw [hxa] at ca
        rw [hya] at cb
        rw [hxa, hya, hza] at hcs hga
        have Hcs := Lib.hid hcs
        have Hga := Lib.hid hga
        clear hxa hya hza hcs hga
        go_wp2_with fail
        go_roundw
        case rel =>
          refine ⟨k + 1, by omega, by go_num, by rw [Hcs.out]; rfl, ?_⟩
          exact (Hr.out.set k _).congr (g := fun i => if i < k + 1 then (x + y).getLsbD i else false) (fun i _ => by
          by_cases h : i = k
          · subst h; rw [if_pos rfl, if_pos (by omega), Hga.out]; rfl
          · rw [if_neg h]; by_cases h2 : i < k
            · rw [if_pos h2, if_pos (by omega)]
            · rw [if_neg h2, if_neg (by omega)])
        case measure => simp [intOf]; omega
    · have hd : decide ((k : Int) < 32) = false := by simp; omega
      obtain rfl : k = 32 := by omega
      have hr' := hr.congr (g := (x + y).getLsbD) (fun i hi => by rw [if_pos hi])
      obtain ⟨hrange, hthere, hend, hbel⟩ := hr'.fin rfl
      have Hend := Lib.hid hend
      have Hbel := Lib.hid hbel
      have hlen := length_bitsC (x + y).getLsbD
      have hone := all_oneCell_toArray (one_bitsC (x + y).getLsbD)
      have hL : BV (x + y) = .agg (bitsC (x + y).getLsbD).toArray := rfl
      generalize bitsC (x + y).getLsbD = L at *
      have HL := Lib.hid hL
      have hi := infoBitsL _ hlen
      clear hr hr' hend hbel hL
      go_wp2_with (first
        | (refine wpList_load_mid rfl 108 (.tmp 5) rfl (w.heap.size + 1 + 1 + 1) 0 rfl L _ hrange Tryd.underlying108 rfl hi ?_)
        | (refine wpList_store_mid rfl 108 (.tmp 4) (.tmp 33) rfl (w.heap.size + 1 + 1) 0 L.toArray rfl rfl (by simpa [hlen] using hthere) (by simpa using hi) hone ?_))
      exact bodyPost_ret (v := .agg L.toArray) (results_cell_row Tryd.results74 _ _ (w.heap.size + 1 + 1) 108 L.toArray (0, 0) _ rfl Hend.out Tryd.underlying108 rfl (by simpa using hi)) rfl ⟨by rw [← HL.out]; rfl, Hbel.out⟩
end Go.Proofs.YtlhfdlfbnnfjjaaDoor
