/- What a call leaves to the next one: the variables listed. -/
import Derived.Test.YtllgodaphoncnaaGreatDoorJ21
namespace Go.Proofs.YtllgodaphoncnaaGreatDoor
open Go.RowKit

set_option maxRecDepth 100000 in
theorem LexW.low {w w' : World} {N : Nat} (h : LexW w) (hb : Below N w w') (hN : 9 ≤ N) : LexW w' := by
  have hv : ∀ (nm : String) (g : Nat) (x : Array Value), Tryz.prog.globalNamed nm = some g → g < 9 → w.var? Tryz.prog nm = some x → w'.var? Tryz.prog nm = some x := fun nm g x h1 h2 h3 => by
    unfold World.var? at h3 ⊢
    rw [h1] at h3 ⊢
    have hblk := hb.block g (by omega)
    simp only [Option.bind_some] at h3 ⊢
    rw [hblk]; exact h3
  obtain ⟨t1, p1, h1⟩ := h.syn
  obtain ⟨t2, p2, h2⟩ := h.ran
  refine ⟨fun j v hv => ?_, ⟨t1, p1, hv _ 4 _ (by kernel_rfl) (by decide) h1⟩, ⟨t2, p2, hv _ 5 _ (by kernel_rfl) (by decide) h2⟩, ?_⟩
  · have h0 := h.sig j v hv
    rw [hb.cell (by show 0 < N; omega)]
    exact h0
  · exact hv _ 6 _ (by kernel_rfl) (by decide) h.pow

end Go.Proofs.YtllgodaphoncnaaGreatDoor
