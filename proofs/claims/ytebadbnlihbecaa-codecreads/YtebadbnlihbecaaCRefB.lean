/- The reference's bytes of a bag, and of every formed value. -/
import Derived.Test.YtebadbnlihbecaaCRefV
namespace Go.Proofs.Ytebadbnlihbecaa
open Go.RowKit

theorem plainB_most (x : Val) (ha : x.alone = true) : (plainB x).length ≤ 67 := by
  have hk := alone_kind ha
  unfold Val.alone aloneB at ha
  unfold plainB tailB
  simp only [List.length_append, numB_length]
  split
  · simp [numB_length]
  split
  · simp [numB_length]
  split
  · rename_i h3
    simp [h3] at ha
    have := ha.2.2
    simp [numB_length]
    omega
  · simp
theorem plainB_ne (x : Val) : plainB x ≠ [] := fun h => by
  have h1 : (plainB x).length = 0 := by rw [h]; rfl
  unfold plainB at h1
  rw [List.length_append, numB_length] at h1
  omega
theorem flat_most (l : List Val) (h : ∀ x ∈ l, x.alone = true) : (l.flatMap plainB).length ≤ 67 * l.length := by
  induction l with
  | nil => simp
  | cons x l ih =>
    rw [List.flatMap_cons, List.length_append, List.length_cons]
    have h1 := plainB_most x (h x (by simp))
    have h2 := ih fun y hy => h y (by simp [hy])
    omega
/-- what a bag's values are -/
theorem bag_alone {x : Val} {lx : List Val} (hk : x.k = 5) (hf : x.formed lx = true) : ∀ y ∈ lx, y.alone = true := by
  unfold Val.formed at hf
  rw [if_pos (by simpa using hk), Bool.and_eq_true, Bool.and_eq_true] at hf
  have h2 := hf.2.2
  unfold listB at h2
  rw [Bool.and_eq_true, List.all_eq_true] at h2
  intro y hy
  obtain ⟨j, hj, rfl⟩ := List.getElem_of_mem hy
  have h3 := okV_parts (h2.2 j (by simpa using hj))
  rw [getElem!_pos lx j hj] at h3
  exact h3.2.2
theorem bag_most {x : Val} {lx : List Val} (hk : x.k = 5) (hf : x.formed lx = true) : lx.length ≤ 16 := by
  unfold Val.formed at hf
  rw [if_pos (by simpa using hk), Bool.and_eq_true, Bool.and_eq_true] at hf
  have h2 := hf.2.2
  unfold listB at h2
  rw [Bool.and_eq_true] at h2
  exact of_decide_eq_true h2.1
def IOk (x : Val) : Prop := -9223372036854775808 ≤ x.i ∧ x.i ≤ 9223372036854775807
/-- the bytes of a bag as far as its k-th value -/
def bagB (n : Nat) (lx : List Val) (k : Nat) : List UInt8 := [5, UInt8.ofNat n] ++ (lx.take k).flatMap plainB
theorem bagB_step (n : Nat) (lx : List Val) (k : Nat) (h : k < lx.length) : bagB n lx (k + 1) = bagB n lx k ++ plainB lx[k]! := by
  unfold bagB
  rw [List.take_succ_eq_append_getElem h, List.flatMap_append, getElem!_pos lx k h, List.append_assoc]
  simp
theorem bagB_most (n : Nat) (lx : List Val) (k : Nat) (h : ∀ y ∈ lx, y.alone = true) (h16 : lx.length ≤ 16) : (bagB n lx k).length ≤ 2000 := by
  unfold bagB
  have := flat_most (lx.take k) fun y hy => h y (List.mem_of_mem_take hy)
  have h2 : (lx.take k).length ≤ 16 := by rw [List.length_take]; omega
  rw [List.length_append]
  simp only [List.length_cons, List.length_nil]
  omega
theorem bagB_all (x : Val) (lx : List Val) (hk : x.k = 5) (hn : lx.length = x.n) : bagB x.n lx x.n = valB x lx := by
  unfold bagB valB
  rw [if_pos hk, hk, numB_one, numB_one, ← hn, List.take_length]
  rfl
/-- what the loop over a bag's values keeps -/
structure RefRel3 (w : World) (x : Val) (lx : List Val) (k : Nat) (v : Value) (wr : World) : Prop where
  own : OwnB wr (w.heap.size + 1) v (bagB x.n lx k)
  blk : wr.heap[w.heap.size]? = some (.cells #[.int .i64 x.k, .int .i64 x.i, .string x.s, .slice x.a x.n x.c] 33 (0, 0))
  below : Below w.heap.size w wr

set_option maxRecDepth 100000 in
set_option maxHeartbeats 2000000 in
theorem refBag3_any (w : World) (x : Val) (lx : List Val) (hf : Full w x lx) (hk : x.k = 5) (hfo : x.formed lx = true) (hi : ∀ y ∈ lx, IOk y) :
    Calls Try.prog 28 #[.agg #[.int .i64 x.k, .int .i64 x.i, .string x.s, .slice x.a x.n x.c]] w fun e w' => ∃ v, e = .returned v ∧ OwnB w' w.heap.size v (valB x lx) ∧ Below w.heap.size w w' := by
  obtain ⟨g, o, hl⟩ := hf.list
  have hn := hf.len
  have h16 := bag_most hk hfo
  have h16' : x.n ≤ 16 := by omega
  have HL := Lib.hid hl
  have HI := Lib.hid hi
  have HA := Lib.hid (bag_alone hk hfo)
  have HV := Lib.hid (bagB_all x lx hk hn)
  have HBM := Lib.hid fun k => bagB_most x.n lx k (bag_alone hk hfo) h16
  have HK := Lib.hid hk
  have e5 : Value.int .u8 (x.n : Int) = B (UInt8.ofNat x.n) := by
    unfold B
    rw [UInt8.toNat_ofNat', Nat.mod_eq_of_lt (by omega)]
  have HE5 := Lib.hid e5
  clear hl hi hf hfo e5
  have HX0 : Hid (∀ wr : World, wr.heap[w.heap.size]? = some (.cells #[.int .i64 x.k, .int .i64 x.i, .string x.s, .slice x.a x.n x.c] 33 (0, 0)) ↔ wr.heap[w.heap.size]? = some (.cells #[.int .i64 5, .int .i64 x.i, .string x.s, .slice x.a x.n x.c] 33 (0, 0))) := Lib.hid (by intro wr; rw [hk])
  rw [hk]
  go_enter Try.func28, Try.ntmps28
  go_wp2_with (at_builtin; go_loud (refine append_b rfl (.tmp 43) (.tmp 48) rfl (w.heap.size + 1) [5] [UInt8.ofNat x.n] _ rfl (own_at (b := 5) (heap23 _ _ _ _) (Nat.le_refl _)) _ rfl (own_at (base := 0) (b := UInt8.ofNat x.n) (by rw [← HE5.out]; exact heap3 _ _ _ _) (by omega)).src (by simp) (by simp only [List.length_cons, List.length_nil]; omega) (by simp only [World.size_alloc]; omega) [5, UInt8.ofNat x.n] rfl ?_))
  intro v3 w3 hown hb3
  have HR0 : Hid (RefRel3 w x lx 0 v3 w3) := Lib.hid ⟨by unfold bagB; simpa using hown, (HX0.out _).2 ((hb3.block _ (Nat.lt_succ_self _)).trans ((Below.heap_alloc _ _ _ (lt_block ((Below.heap_alloc _ _ _ (lt_block (heap_alloc_new w _))).trans (heap_alloc_new w _)))).trans ((Below.heap_alloc _ _ _ (lt_block (heap_alloc_new w _))).trans (heap_alloc_new w _)))), (below3 w _ _ _).trans (hb3.mono (by omega))⟩
  clear hown hb3 HE5
  go_wp2_with fail
  go_loopw [3, 4] (fun v i wr => ∃ k : Nat, k ≤ x.n ∧ i = .int .i64 k ∧ Hid (RefRel3 w x lx k v wr)) (fun _ i _ => x.n - (intOf i).toNat)
  case atStart => exact ⟨0, by omega, rfl, HR0⟩
  case round =>
    clear HR0
    obtain ⟨k, hkn, rfl, HR⟩ := hrel
    have hb := (HX0.out _).1 HR.out.blk
    have x3 : wr.cell? ⟨w.heap.size, 3, none⟩ = some (.slice x.a x.n x.c) := cell_block hb 3
    have hlw : w.heap.size < wr.heap.size := lt_block hb
    clear hb
    by_cases hlt : k < x.n
    · have hkl : k < lx.length := by omega
      have had := HL.out.at' (by intro e; subst e; simp at hkl)
      obtain ⟨p0, p1, p2, p3⟩ := HL.out.cells HR.out.below k hkl ⟨wr, Below.refl _ _⟩
      dsimp only at p0 p1 p2 p3
      have HST := Lib.hid (bagB_step x.n lx k hkl)
      have hmem : lx[k]! ∈ lx := by rw [getElem!_pos lx k hkl]; exact List.getElem_mem _
      have hyi := HI.out _ hmem
      have hya := HA.out _ hmem
      clear hmem
      have hgw : g < wr.heap.size := block_lt_of_cell p0
      generalize lx[k]! = y at *
      have P := Lib.hid (fun W => refPlain_any W y hya hyi.1 hyi.2)
      have HYM := Lib.hid (plainB_most y hya)
      clear hyi hya
      rw [had] at x3
      clear had
      go_wp2_with fail
      refine (P.out _).mono ?_
      rintro e w4 ⟨v4, rfl, hv4, hb4⟩
      have HS4 := Lib.hid hv4.src
      have HO4 := Lib.hid (HR.out.own.below hb4)
      have HX4 := Lib.hid ((hb4.block _ hlw).trans HR.out.blk)
      have HB4 := Lib.hid (HR.out.below.trans (hb4.mono HR.out.below.size))
      have hl4 : w.heap.size + 1 ≤ w4.heap.size := lt_block HX4.out
      clear hv4 hb4 p0 p1 p2 p3 x3 P HR
      go_wp2_with (at_builtin; go_loud (refine append_b rfl (.tmp 57) (.tmp 63) rfl (w.heap.size + 1) (bagB x.n lx k) (plainB y) _ rfl HO4.out _ rfl HS4.out (plainB_ne y) (by have h1 := HBM.out k; have h2 := HYM.out; omega) hl4 (bagB x.n lx (k + 1)) HST.out ?_))
      intro v5 w5 hown hb5
      have HR5 : Hid (RefRel3 w x lx (k + 1) v5 w5) := Lib.hid ⟨hown, (hb5.block _ (Nat.lt_succ_self _)).trans HX4.out, HB4.out.trans (hb5.mono (by omega))⟩
      clear hown hb5 HO4 HX4 HB4 HS4
      go_wp2_with fail
      go_roundw
      case rel => exact ⟨k + 1, by omega, by go_num, HR5⟩
      case measure => simp [intOf]; omega
    · obtain rfl : k = x.n := by omega
      go_wp2_with fail
      go_ret
      exact ⟨_, rfl, by rw [← HV.out]; exact HR.out.own.mono (by omega), HR.out.below⟩
/-- the bytes of a formed value -/
theorem refValue_any (w : World) (x : Val) (lx : List Val) (hf : Full w x lx) (hfo : x.formed lx = true) (hi : IOk x) (hil : ∀ y ∈ lx, IOk y) :
    Calls Try.prog 28 #[.agg #[.int .i64 x.k, .int .i64 x.i, .string x.s, .slice x.a x.n x.c]] w fun e w' => ∃ v, e = .returned v ∧ OwnB w' w.heap.size v (valB x lx) ∧ Below w.heap.size w w' := by
  by_cases hk : x.k = 5
  · exact refBag3_any w x lx hf hk hfo hil
  · have ha : x.alone = true := by unfold Val.formed at hfo; rwa [if_neg (by simpa using hk)] at hfo
    have := refPlain_any w x ha hi.1 hi.2
    rwa [show plainB x = valB x lx by unfold valB; rw [if_neg hk]] at this
end Go.Proofs.Ytebadbnlihbecaa
