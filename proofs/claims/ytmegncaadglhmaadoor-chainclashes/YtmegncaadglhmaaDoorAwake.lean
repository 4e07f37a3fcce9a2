/- What a program that does nothing doesn't answer; and fingerprints of one part, or two. -/
import Derived.Test.YtmegncaadglhmaaDoorOf
import Derived.Test.YtmegncaadglhmaaDoorAbc
import Derived.Lib.SlBytesConst
import Derived.Stop.BytesEq
namespace Go.Proofs.YtmegncaadglhmaaDoor
open Go.RowKit

/-- two fingerprints compared -/
theorem eqlH (l l' : List UInt8) (w : World) : (binOp .eql 26 (H l) (H l')).run Tryd.prog w = .ok (.bool (shaOf l == shaOf l')) w :=
  run_eql_bytes w 26 5 32 Tryd.underlying26 Tryd.underlying5 (fun _ => by kernel_rfl) (shaOf l) (shaOf l') (length_shaOf l) (length_shaOf l')
theorem guardH (l l' : List UInt8) (x y : Operand) (w : World) : (eqGuard .eql 26 x y (H l) (H l')).run Tryd.prog w = .ok () w :=
  run_eqGuard_agg w .eql 26 x y _ _ (by kernel_rfl)

/-- fingerprints of parts whose slice is a block of its own -/
theorem of_here (W : World) (G n : Nat) (ps : List Part) (hn : n = ps.length) (hG : W.heap[G]? = some (.cells (ps.map Part.val).toArray 31 (0, 0))) (hp : ∀ p ∈ ps, p.In W) (ht : Tab W)
    (hm : (joined ps).length ≤ 100000000000) (hl : ps.length ≤ 1000000000000) :
    Calls Tryd.prog 29 #[.slice (some ⟨G, 0, none⟩) n n] W fun e w' => e = .returned (H (joined ps)) ∧ Below W.heap.size W w' := by
  subst hn
  exact of_any W ps _ G 0 _ ⟨fun _ => rfl, fun i hi => by rw [cell_block hG]; simp [hi], lt_block hG, hp⟩ ht hm hl

theorem partNew {w : World} {g : Nat} {l : List UInt8} {t : TypeId} {fr : Nat × Nat} (h : w.heap[g]? = some (.cells (l.map B).toArray t fr)) : (Part.mk (some ⟨g, 0, none⟩) g 0 l.length l).In w :=
  ⟨⟨fun _ => rfl, fun j hj => by rw [Nat.zero_add]; exact cellB h j hj⟩, Nat.le_refl _, lt_block h⟩

theorem of_abc (w1 : World) (g1 g2 g3 : Nat) (h1 : w1.heap[g1]? = some (.cells (([97] : List UInt8).map B).toArray 5 (1, 2))) (h2 : w1.heap[g2]? = some (.cells (([98, 99] : List UInt8).map B).toArray 5 (2, 3)))
    (h3 : w1.heap[g3]? = some (.cells #[.slice (some ⟨g1, 0, none⟩) 1 1, .slice (some ⟨g2, 0, none⟩) 2 2] 31 (0, 0))) (ht : Tab w1) :
    Calls Tryd.prog 29 #[.slice (some ⟨g3, 0, none⟩) 2 2] w1 fun e w' => e = .returned (H [97, 98, 99]) ∧ Below w1.heap.size w1 w' := by
  have hj : joined [⟨some ⟨g1, 0, none⟩, g1, 0, 1, [97]⟩, ⟨some ⟨g2, 0, none⟩, g2, 0, 2, [98, 99]⟩] = [97, 98, 99] := rfl
  rw [← hj]
  refine of_here w1 g3 2 [⟨some ⟨g1, 0, none⟩, g1, 0, 1, [97]⟩, ⟨some ⟨g2, 0, none⟩, g2, 0, 2, [98, 99]⟩] rfl h3 ?_ ht (by rw [hj]; decide) (by simp)
  intro p hp
  rcases List.mem_cons.1 hp with rfl | hp
  · exact partNew h1
  · rcases List.mem_cons.1 hp with rfl | hp
    · exact partNew h2
    · cases hp
theorem abc_facts : ∃ L : List Value, H [97, 98, 99] = .agg L.toArray ∧ L.length = 32 ∧ L[0]? = some (B 186) ∧ L[31]? = some (B 173) ∧ ∀ v ∈ L, v.oneCell' = true := by
  refine ⟨(shaOf [97, 98, 99]).map B, rfl, ?_, ?_, ?_, ?_⟩
  · rw [List.length_map, length_shaOf]
  · rw [abc]; rfl
  · rw [abc]; rfl
  · intro v hv; obtain ⟨x, _, rfl⟩ := List.mem_map.1 hv; rfl

end Go.Proofs.YtmegncaadglhmaaDoor
