/- Two values of a size that is looked at. -/
import Derived.Test.YtgfnbbclopdapaaVFew
namespace Go.Proofs.Ytgfnbbclopdapaa
open Go.RowKit

theorem listAt_two {w : World} {g : Nat} {x y : Val} {t : TypeId} {fr : Nat × Nat} (h : w.heap[g]? = some (.cells #[.int .i64 x.k, .int .i64 x.i, .string x.s, .slice x.a x.n x.c, .int .i64 y.k, .int .i64 y.i, .string y.s, .slice y.a y.n y.c] t fr))
    (hx : x.s.size ≤ maxLen) (hy : y.s.size ≤ maxLen) : ListAt w (some ⟨g, 0, none⟩) g 0 [x, y] := by
  refine ⟨fun _ => rfl, ?_, ?_, ?_, ?_, ?_⟩
  · rintro (_ | _ | j) hj
    · exact cell_block h 0
    · exact cell_block h 4
    · exact absurd (show j + 1 + 1 < 2 from hj) (by omega)
  · rintro (_ | _ | j) hj
    · exact cell_block h 1
    · exact cell_block h 5
    · exact absurd (show j + 1 + 1 < 2 from hj) (by omega)
  · rintro (_ | _ | j) hj
    · exact cell_block h 2
    · exact cell_block h 6
    · exact absurd (show j + 1 + 1 < 2 from hj) (by omega)
  · rintro (_ | _ | j) hj
    · exact cell_block h 3
    · exact cell_block h 7
    · exact absurd (show j + 1 + 1 < 2 from hj) (by omega)
  · intro z hz
    rcases List.mem_cons.1 hz with rfl | hz
    · exact hx
    rcases List.mem_cons.1 hz with rfl | hz
    · exact hy
    cases hz
set_option maxHeartbeats 400000 in
theorem two_any (w : World) (x y : Val) (lx ly : List Val) (hx : Full w x lx) (hy : Full w y ly) :
    Calls Try.prog 10 #[x.v, y.v] w fun e w' => e = .returned (.bool (small x lx && small y ly)) ∧ Below w.heap.size w w' := by
  have HX := Lib.hid hx
  have HY := Lib.hid hy
  clear hx hy
  unfold Val.v
  go_enter Try.func10, Try.ntmps10
  go_wp2_with fail
  generalize hW : World.alloc _ _ = W
  have hb0 : Below w.heap.size w W := by rw [← hW]; exact (((Below.refl _ _).alloc (Nat.le_refl _) _).alloc (by simp) _).alloc (by simp; omega) _
  have hh : W.heap[w.heap.size + 1 + 1]? = some (.cells #[.int .i64 x.k, .int .i64 x.i, .string x.s, .slice x.a x.n x.c, .int .i64 y.k, .int .i64 y.i, .string y.s, .slice y.a y.n y.c] 24 (0, 0)) := by
    rw [← hW]; have := heap_alloc_new ((w.alloc (Obj.cells #[.int .i64 x.k, .int .i64 x.i, .string x.s, .slice x.a x.n x.c] 24)).alloc (Obj.cells #[.int .i64 y.k, .int .i64 y.i, .string y.s, .slice y.a y.n y.c] 24)) (.cells #[.int .i64 x.k, .int .i64 x.i, .string x.s, .slice x.a x.n x.c, .int .i64 y.k, .int .i64 y.i, .string y.s, .slice y.a y.n y.c] 24 (0, 0))
    rwa [World.size_alloc, World.size_alloc] at this
  have hl := listAt_two hh HX.out.size HY.out.size
  have hc := few_any W [(x, lx), (y, ly)] (some ⟨w.heap.size + 1 + 1, 0, none⟩) (w.heap.size + 1 + 1) 0 2 2 hl (by
    intro p hp
    rcases List.mem_cons.1 hp with rfl | hp
    · exact HX.out.below hb0
    rcases List.mem_cons.1 hp with rfl | hp
    · exact HY.out.below hb0
    cases hp) (by unfold maxLen; simp)
  clear hW hh hl
  refine hc.mono ?_
  rintro e w' ⟨rfl, rfl⟩
  have HB := Lib.hid hb0
  clear hb0 hc
  have he : ((List.take 100 [(x, lx), (y, ly)]).all (fun p => small p.1 p.2) && decide ((([(x, lx), (y, ly)] : List (Val × List Val)).length : Int) ≤ 2)) = (small x lx && small y ly) := by simp
  rw [he]
  clear he
  go_wp2_with fail
  go_ret
  exact ⟨rfl, HB.out⟩
end Go.Proofs.Ytgfnbbclopdapaa
