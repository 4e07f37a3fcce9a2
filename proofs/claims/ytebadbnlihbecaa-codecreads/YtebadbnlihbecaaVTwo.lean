/- Two values of a size that is looked at. -/
import Derived.Test.YtebadbnlihbecaaVFew
namespace Go.Proofs.Ytebadbnlihbecaa
open Go.RowKit

theorem listAt_two {w : World} {g : Nat} {x y : Val} {t : TypeId} {fr : Nat × Nat} (h : w.heap[g]? = some (.cells #[.int .i64 x.k, .int .i64 x.i, .string x.s, .slice x.a x.n x.c, .int .i64 y.k, .int .i64 y.i, .string y.s, .slice y.a y.n y.c] t fr))
    (hx : x.s.size ≤ maxLen) (hy : y.s.size ≤ maxLen) : ListAt w (some ⟨g, 0, none⟩) g 0 [x, y] := by
  refine ⟨fun _ => rfl, ?_, ?_, ?_, ?_, ?_⟩
  · rintro (_ | _ | j) hj
    · exact cell_block h 0
    · exact cell_block h 4
    · exact absurd (show j + 1 + 1 < 2 from hj) (by omega)
  · rintro (_ | _ | j) hj
    · exact cell_block h 1
    · exact cell_block h 5
    · exact absurd (show j + 1 + 1 < 2 from hj) (by omega)
  · rintro (_ | _ | j) hj
    · exact cell_block h 2
    · exact cell_block h 6
    · exact absurd (show j + 1 + 1 < 2 from hj) (by omega)
  · rintro (_ | _ | j) hj
    · exact cell_block h 3
    · exact cell_block h 7
    · exact absurd (show j + 1 + 1 < 2 from hj) (by omega)
  · intro z hz
    rcases List.mem_cons.1 hz with rfl | hz
    · exact hx
    rcases List.mem_cons.1 hz with rfl | hz
    · exact hy
    cases hz
end Go.Proofs.Ytebadbnlihbecaa
