/- P3.3: whatever is decoded is a formed value with these bytes: the law. -/
import Derived.Test.YtebadbnlihbecaaCRefB
import Derived.Test.YtebadbnlihbecaaVSame
import Derived.Deep.RegionWith
namespace Go.Proofs.Ytebadbnlihbecaa
open Go.RowKit

theorem wrap_ok (n : Int) : -9223372036854775808 ≤ wrap64 n ∧ wrap64 n ≤ 9223372036854775807 := by unfold wrap64; omega
theorem plain_ok (st : Option ByteArray) (k : Int) : IOk (inPlainM st k).1 := by
  unfold inPlainM IOk
  repeat' split
  all_goals first | exact wrap_ok _ | (dsimp only; omega) | (dsimp only; decide)
theorem memN_ok (n : Nat) (st : Option ByteArray) : ∀ x ∈ (memN n st).1, IOk x := by
  induction n with
  | zero => intro x hx; cases hx
  | succ n ih =>
    intro x hx
    simp only [memN, List.mem_append, List.mem_singleton] at hx
    rcases hx with hx | rfl
    · exact ih x hx
    · exact plain_ok _ _
theorem memM_ok (st : Option ByteArray) : ∀ x ∈ (memM st).1, IOk x := by
  unfold memM
  split
  · split
    · exact memN_ok _ _
    · intro x hx; cases hx
  · intro x hx; cases hx
theorem raw_ok (st : Option ByteArray) : IOk (rawV st).1.1 ∧ ∀ y ∈ (rawV st).1.2, IOk y := by
  unfold rawV
  split
  · exact ⟨plain_ok _ _, memM_ok _⟩
  · exact ⟨plain_ok _ _, fun y hy => by cases hy⟩
theorem formed_alike {x y : Val} {l : List Val} (hk : x.k = y.k) (hi : x.i = y.i) (hs : x.s = y.s) (hn : x.n = y.n) : x.formed l = y.formed l := by
  unfold Val.formed Val.alone
  rw [hk, hi, hs, hn]
theorem valB_alike {x y : Val} {l : List Val} (hk : x.k = y.k) (hi : x.i = y.i) (hs : x.s = y.s) : valB x l = valB y l := by
  unfold valB plainB tailB
  rw [hk, hi, hs]
/-- what was decoded is formed, and has these bytes -/
theorem dec_good {l : List UInt8} (h : decOk l = true) {y : Val} {ly : List Val} (hn : ly.length = y.n) (hy : y.k = (rawV (some ⟨l.toArray⟩)).1.1.k ∧ y.i = (rawV (some ⟨l.toArray⟩)).1.1.i ∧ y.s = (rawV (some ⟨l.toArray⟩)).1.1.s ∧ ly = (rawV (some ⟨l.toArray⟩)).1.2) :
    y.formed ly = true ∧ valB y ly = l ∧ IOk y ∧ ∀ z ∈ ly, IOk z := by
  obtain ⟨e1, e2, e3, rfl⟩ := hy
  obtain ⟨hb, hf⟩ := dec_bytes h
  obtain ⟨o1, o2⟩ := raw_ok (some ⟨l.toArray⟩)
  refine ⟨?_, ?_, ?_, o2⟩
  · rw [← hf, readF]
    exact formed_alike e1 e2 e3 hn.symm
  · rw [valB_alike e1 e2 e3]
    exact hb.symm
  · unfold IOk at o1 ⊢
    rw [e2]; exact o1

theorem same_zero : sameB ⟨0, 0, ⟨#[]⟩, none, 0, 0⟩ [] ⟨0, 0, ⟨#[]⟩, none, 0, 0⟩ [] = true := by decide +kernel
set_option maxRecDepth 100000 in
set_option maxHeartbeats 4000000 in
theorem decodes_any (w : World) (ab : Option Addr) (cb : Nat) (l : List UInt8) (hv : BSrc w (.slice ab l.length cb) l) (hm : l.length ≤ maxLen) :
    Calls Try.prog 6 #[.slice ab l.length cb] w fun e w' => e = .returned (.bool true) ∧ Below w.heap.size w w' := by
  have HV := Lib.hid hv
  have HM := Lib.hid hm
  unfold maxLen at hm
  clear hv
  go_enter Try.func6, Try.ntmps6
  go_wp2_with fail
  refine (awake_any w).mono ?_
  rintro e w1 ⟨rfl, hb⟩
  have HB1 := Lib.hid hb
  clear hb
  by_cases hle : (1500 : Int) < l.length
  · go_wp2_with fail
    refine (awake_any _).mono ?_
    rintro e w3 ⟨rfl, hb⟩
    have HB3 := Lib.hid (HB1.out.trans (hb.mono HB1.out.size))
    clear hb HB1
    go_wp2_with fail
    go_ret
    exact ⟨rfl, HB3.out⟩
  have D := Lib.hid (decode_any w1 _ l HM.out (HV.out.below HB1.out))
  go_wp2_with fail
  refine D.out.mono ?_
  rintro e w2 ⟨y, ly, rfl, hfl, hok, hno, hb2⟩
  have HB2 := Lib.hid (HB1.out.trans (hb2.mono HB1.out.size))
  have HFL := Lib.hid hfl
  have HOK := Lib.hid hok
  have HNO := Lib.hid hno
  clear hfl hok hno hb2 HB1 D
  have HDE : Hid (decE l = if decOk l = true then 0 else 2) := Lib.hid rfl
  obtain ⟨dk, hdk⟩ : ∃ dk, decOk l = dk := ⟨_, rfl⟩
  rw [hdk] at HOK HNO HDE
  have HDK := Lib.hid hdk
  clear hdk
  generalize decE l = de at *
  unfold Val.v V
  cases dk
  · obtain ⟨rfl, rfl⟩ := HNO.out rfl
    obtain rfl : de = 2 := HDE.out
    have SS := Lib.hid (fun W => same_any W ⟨0, 0, ⟨#[]⟩, none, 0, 0⟩ ⟨0, 0, ⟨#[]⟩, none, 0, 0⟩ [] [] (full_zero _) (full_zero _))
    rw [same_zero] at SS
    unfold Val.v V at SS
    clear HOK HNO HFL HDE
    go_wp2_with fail
    refine (SS.out _).mono ?_
    rintro e w3 ⟨rfl, hb⟩
    have HB3 := Lib.hid ((HB2.out.alloc HB2.out.size _).trans (hb.mono (by rw [World.size_alloc]; have := HB2.out.size; omega)))
    clear hb HB2 SS
    go_wp2_with fail
    go_ret
    exact ⟨rfl, HB3.out⟩
  · obtain rfl : de = 0 := HDE.out
    obtain ⟨hfo, hvb, hio, hil⟩ := dec_good HDK.out HFL.out.len (HOK.out rfl)
    have HVB := Lib.hid hvb
    have F := Lib.hid (fun W (hW : Below w2.heap.size w2 W) => refFormed_any W y ly (HFL.out.below hW))
    rw [hfo] at F
    unfold Val.v V at F
    have R := Lib.hid (fun W (hW : Below w2.heap.size w2 W) => refValue_any W y ly (HFL.out.below hW) hfo hio hil)
    rw [hvb] at R
    have C := Lib.hid (fun W (hW : Below w.heap.size w W) => conv_bytes (HV.out.below hW))
    clear HOK HNO HFL HDE HDK hfo hvb hio hil HVB
    go_wp2_with fail
    generalize hW : World.alloc _ _ = W3
    have hb3 : Below w2.heap.size w2 W3 := by rw [← hW]; exact (Below.refl _ _).alloc (Nat.le_refl _) _
    have hx3 : W3.heap[w2.heap.size]? = some (.cells #[.int .i64 y.k, .int .i64 y.i, .string y.s, .slice y.a y.n y.c] 33 (0, 0)) := by rw [← hW]; exact heap_alloc_new _ _
    clear hW
    obtain ⟨x0, x1, x2, x3⟩ := cells4 hx3 ⟨W3, Below.refl _ _⟩
    dsimp only at x0 x1 x2 x3
    have hl3 : w2.heap.size < W3.heap.size := lt_block hx3
    have HB3 := Lib.hid hb3
    have HX3 := Lib.hid hx3
    clear hb3 hx3
    have HBd : Hid (Below w2.heap.size w2 W3.drew) := Lib.hid HB3.out.drew
    have HBw : Hid (Below w.heap.size w W3.drew) := Lib.hid (HB2.out.trans (HBd.out.mono HB2.out.size))
    go_region_with (first
      | (go_at_call 26
         go_loud (refine (F.out _ HBd.out).mono ?_)
         rintro e w4 ⟨rfl, hb4⟩
         have hx4 := (hb4.block _ (show w2.heap.size < W3.drew.heap.size from hl3)).trans HX3.out
         obtain ⟨z0, z1, z2, z3⟩ := cells4 hx4 ⟨w4, Below.refl _ _⟩
         dsimp only at z0 z1 z2 z3
         have hl4 : w2.heap.size < w4.heap.size := lt_block hx4
         have HB4 := Lib.hid (HBd.out.trans (hb4.mono HBd.out.size))
         have HBw4 := Lib.hid (HBw.out.trans (hb4.mono HBw.out.size))
         have hcb4 := C.out _ HBw4.out
         clear hb4 hx4)
      | (go_at_call 28; 
         go_loud (refine (R.out _ HB4.out).mono ?_)
         rintro e w5 ⟨v5, rfl, hv5, hb5⟩
         have hcv5 := conv_bytes hv5.src
         have HBw5 := Lib.hid (HBw4.out.trans (hb5.mono HBw4.out.size))
         have hcb5 := C.out _ HBw5.out
         clear hb5 hv5))
    all_goals
      go_wp2_with fail
      go_ret
      exact ⟨rfl, HBw5.out⟩
end Go.Proofs.Ytebadbnlihbecaa
