/- Blocks that hold values. -/
import Derived.Test.YtcgbodbjjfngpaaVList
import Derived.Test.YtcgbodbjjfngpaaVSums
namespace Go.Proofs.Ytcgbodbjjfngpaa
open Go.RowKit
/-- blocks that hold values -/
def Blks (w : World) (bs : List (Nat × Val)) : Prop := ∀ p ∈ bs, w.heap[p.1]? = some (.cells #[.int .i64 p.2.k, .int .i64 p.2.i, .string p.2.s, .slice p.2.a p.2.n p.2.c] 24 (0, 0))
theorem Blks.below {w w' : World} {bs : List (Nat × Val)} (h : Blks w bs) (hb : Below w.heap.size w w') : Blks w' bs := fun p hp => below_cells hb (h p hp)
theorem Blks.new {w : World} {bs : List (Nat × Val)} (h : Blks w bs) (v : Val) : Blks (w.alloc (.cells #[.int .i64 v.k, .int .i64 v.i, .string v.s, .slice v.a v.n v.c] 24 (0, 0))) ((w.heap.size, v) :: bs) := fun p hp => by
  rcases List.mem_cons.1 hp with rfl | hp
  · exact heap_alloc_new _ _
  · exact alloc_block rfl (h p hp)
theorem Blks.at {w : World} {bs : List (Nat × Val)} (h : Blks w bs) (i : Nat) {g : Nat} {v : Val} (hi : bs[i]? = some (g, v)) :
    w.cell? ⟨g, 0, none⟩ = some (.int .i64 v.k) ∧ w.cell? ⟨g, 1, none⟩ = some (.int .i64 v.i) ∧ w.cell? ⟨g, 2, none⟩ = some (.string v.s) ∧ w.cell? ⟨g, 3, none⟩ = some (.slice v.a v.n v.c) := by
  have hg := h (g, v) (List.mem_of_getElem? hi)
  exact ⟨cell_block hg 0, cell_block hg 1, cell_block hg 2, cell_block hg 3⟩
theorem blks2 (w : World) (x y : Val) : Blks ((w.alloc (.cells #[.int .i64 x.k, .int .i64 x.i, .string x.s, .slice x.a x.n x.c] 24 (0, 0))).alloc (.cells #[.int .i64 y.k, .int .i64 y.i, .string y.s, .slice y.a y.n y.c] 24 (0, 0))) [(w.heap.size + 1, y), (w.heap.size, x)] := by
  have h1 : Blks w [] := fun p hp => by cases hp
  have h2 := (h1.new x).new y
  rwa [World.size_alloc] at h2
theorem blks3 (w : World) (x y z : Val) : Blks (((w.alloc (.cells #[.int .i64 x.k, .int .i64 x.i, .string x.s, .slice x.a x.n x.c] 24 (0, 0))).alloc (.cells #[.int .i64 y.k, .int .i64 y.i, .string y.s, .slice y.a y.n y.c] 24 (0, 0))).alloc (.cells #[.int .i64 z.k, .int .i64 z.i, .string z.s, .slice z.a z.n z.c] 24 (0, 0))) [(w.heap.size + 1 + 1, z), (w.heap.size + 1, y), (w.heap.size, x)] := by
  have h2 := (blks2 w x y).new z
  rwa [World.size_alloc, World.size_alloc] at h2
end Go.Proofs.Ytcgbodbjjfngpaa
