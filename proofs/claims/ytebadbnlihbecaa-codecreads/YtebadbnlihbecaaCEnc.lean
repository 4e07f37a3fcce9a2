/- P3.3: Encode and Decode. -/
import Derived.Test.YtebadbnlihbecaaCInW
namespace Go.Proofs.Ytebadbnlihbecaa
open Go.RowKit

/-- a value's bytes and the error -/
def encE (x : Val) (lx : List Val) : Int := if x.formed lx = true then (if (valueM (some ⟨#[]⟩) x lx).isSome then 0 else 3) else 1
def encB (x : Val) (lx : List Val) : List UInt8 := if x.formed lx = true then (tapeB (valueM (some ⟨#[]⟩) x lx)).data.toList else []

set_option maxRecDepth 100000 in
set_option maxHeartbeats 2000000 in
theorem encode_any (w : World) (x : Val) (lx : List Val) (hf : Full w x lx) :
    Calls Try.prog 25 #[V x.k x.i x.s x.a x.n x.c] w fun e w' => ∃ v, e = .returned (.tuple #[v, .int .i64 (encE x lx)]) ∧ BSrc w' v (encB x lx) ∧ Below w.heap.size w w' := by
  have HF := Lib.hid hf
  clear hf
  unfold V
  go_enter Try.func25, Try.ntmps25
  go_wp2_with fail
  generalize hW : World.alloc _ _ = W0
  have hb0 : Below w.heap.size w W0 := by rw [← hW]; exact (Below.refl _ _).alloc (Nat.le_refl _) _
  have hx0 : W0.heap[w.heap.size]? = some (.cells #[.int .i64 x.k, .int .i64 x.i, .string x.s, .slice x.a x.n x.c] 33 (0, 0)) := by rw [← hW]; exact heap_alloc_new _ _
  have HB0 := Lib.hid hb0
  have HX0 := Lib.hid hx0
  clear hW hb0 hx0
  have F := Lib.hid (formed_any W0 x lx (HF.out.below HB0.out))
  obtain ⟨f, hfx⟩ : ∃ f, x.formed lx = f := ⟨_, rfl⟩
  have HFX := Lib.hid hfx
  rw [hfx] at F
  clear hfx
  refine F.out.mono ?_
  rintro e w1 ⟨rfl, hb1⟩
  have HB1 := Lib.hid (HB0.out.trans (hb1.mono HB0.out.size))
  have hx1 := (hb1.block _ (lt_block HX0.out)).trans HX0.out
  have HX1 := Lib.hid hx1
  have hl1 : w.heap.size < w1.heap.size := lt_block hx1
  obtain ⟨x0, x1, x2, x3⟩ := cells4 hx1 ⟨w1, Below.refl _ _⟩
  dsimp only at x0 x1 x2 x3
  clear hb1 hx1 F HB0 HX0
  cases f
  · go_wp2_with fail
    have e1 : encE x lx = 1 := if_neg (by rw [HFX.out]; decide)
    have e2 : encB x lx = [] := if_neg (by rw [HFX.out]; decide)
    refine bodyPost_ret (v := .tuple #[.slice none 0 0, .int .i64 1]) (by simp [results, Try.results25, go_sem]) rfl ?_
    rw [e1, e2]
    exact ⟨_, rfl, .inl ⟨_, _, rfl, rfl⟩, HB1.out⟩
  · have e1 : encE x lx = if (valueM (some ⟨#[]⟩) x lx).isSome then 0 else 3 := if_pos HFX.out
    have e2 : encB x lx = (tapeB (valueM (some ⟨#[]⟩) x lx)).data.toList := if_pos HFX.out
    have E1 := Lib.hid e1
    have E2 := Lib.hid e2
    clear e1 e2
    obtain ⟨W2, hW2⟩ : ∃ W2, w1.alloc (.cells #[.string ⟨#[]⟩, .bool false] 28) = W2 := ⟨_, rfl⟩
    have hb2 : Below w1.heap.size w1 W2 := by rw [← hW2]; exact (Below.refl _ _).alloc (Nat.le_refl _) _
    have ht2 : Tape W2 w1.heap.size 28 (some ⟨#[]⟩) := ⟨by rw [← hW2]; exact heap_alloc_new _ _, fun s e => by cases e; exact Nat.zero_le _⟩
    have V2 := Lib.hid (outValue_any w W2 w1.heap.size 28 (some ⟨#[]⟩) x lx HF.out (HB1.out.trans (hb2.mono HB1.out.size)) (by omega) ht2)
    have HW2 := Lib.hid hW2
    have HB2 := Lib.hid hb2
    clear hW2 hb2 ht2
    go_wp2_with fail
    rw [HW2.out]
    refine V2.out.mono ?_
    rintro e w3 ⟨rfl, ht3, hk3⟩
    have HB3 : Hid (Below w.heap.size w w3) := Lib.hid (kept_below (HB1.out.trans (HB2.out.mono HB1.out.size)) (by omega) hk3)
    have EN := Lib.hid (end_any w3 w1.heap.size 28 _ ht3)
    clear ht3 hk3 V2 HW2 HB2 x0 x1 x2 x3
    go_wp2_with fail
    refine EN.out.mono ?_
    rintro e w4 ⟨v, rfl, hs, hb4⟩
    have HS := Lib.hid hs
    have HB4 := Lib.hid (HB3.out.trans (hb4.mono HB3.out.size))
    clear hs hb4 EN HB3
    generalize hEE : (if (valueM (some ⟨#[]⟩) x lx).isSome then (0 : Int) else 3) = EE at *
    go_wp2_with fail
    refine bodyPost_ret (v := .tuple #[v, .int .i64 EE]) (by simp [results, Try.results25, go_sem]) rfl ?_
    rw [E1.out, E2.out]
    exact ⟨_, rfl, HS.out, HB4.out⟩
end Go.Proofs.Ytebadbnlihbecaa
