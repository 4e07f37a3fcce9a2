/- What a program that does nothing doesn't answer; and fingerprints of one part, or two. -/
import Derived.Test.YtmdhoeogibkobaaDoorOf
import Derived.Test.YtmdhoeogibkobaaDoorAbc
import Derived.Lib.SlBytesConst
import Derived.Stop.BytesEq
namespace Go.Proofs.YtmdhoeogibkobaaDoor
open Go.RowKit

/-- two fingerprints compared -/
theorem eqlH (l l' : List UInt8) (w : World) : (binOp .eql 26 (H l) (H l')).run Tryd.prog w = .ok (.bool (shaOf l == shaOf l')) w :=
  run_eql_bytes w 26 5 32 Tryd.underlying26 Tryd.underlying5 (fun _ => by kernel_rfl) (shaOf l) (shaOf l') (length_shaOf l) (length_shaOf l')
theorem guardH (l l' : List UInt8) (x y : Operand) (w : World) : (eqGuard .eql 26 x y (H l) (H l')).run Tryd.prog w = .ok () w :=
  run_eqGuard_agg w .eql 26 x y _ _ (by kernel_rfl)

/-- fingerprints of parts whose slice is a block of its own -/
theorem of_here (W : World) (G n : Nat) (ps : List Part) (hn : n = ps.length) (hG : W.heap[G]? = some (.cells (ps.map Part.val).toArray 29 (0, 0))) (hp : ∀ p ∈ ps, p.In W) (ht : Tab W)
    (hm : (joined ps).length ≤ 100000000000) (hl : ps.length ≤ 1000000000000) :
    Calls Tryd.prog 10 #[.slice (some ⟨G, 0, none⟩) n n] W fun e w' => e = .returned (H (joined ps)) ∧ Below W.heap.size W w' := by
  subst hn
  exact of_any W ps _ G 0 _ ⟨fun _ => rfl, fun i hi => by rw [cell_block hG]; simp [hi], lt_block hG, hp⟩ ht hm hl

theorem partNew {w : World} {g : Nat} {l : List UInt8} {t : TypeId} {fr : Nat × Nat} (h : w.heap[g]? = some (.cells (l.map B).toArray t fr)) : (Part.mk (some ⟨g, 0, none⟩) g 0 l.length l).In w :=
  ⟨⟨fun _ => rfl, fun j hj => by rw [Nat.zero_add]; exact cellB h j hj⟩, Nat.le_refl _, lt_block h⟩

theorem of_abc (w1 : World) (g1 g2 g3 : Nat) (h1 : w1.heap[g1]? = some (.cells (([97] : List UInt8).map B).toArray 5 (1, 2))) (h2 : w1.heap[g2]? = some (.cells (([98, 99] : List UInt8).map B).toArray 5 (2, 3)))
    (h3 : w1.heap[g3]? = some (.cells #[.slice (some ⟨g1, 0, none⟩) 1 1, .slice (some ⟨g2, 0, none⟩) 2 2] 29 (0, 0))) (ht : Tab w1) :
    Calls Tryd.prog 10 #[.slice (some ⟨g3, 0, none⟩) 2 2] w1 fun e w' => e = .returned (H [97, 98, 99]) ∧ Below w1.heap.size w1 w' := by
  have hj : joined [⟨some ⟨g1, 0, none⟩, g1, 0, 1, [97]⟩, ⟨some ⟨g2, 0, none⟩, g2, 0, 2, [98, 99]⟩] = [97, 98, 99] := rfl
  rw [← hj]
  refine of_here w1 g3 2 [⟨some ⟨g1, 0, none⟩, g1, 0, 1, [97]⟩, ⟨some ⟨g2, 0, none⟩, g2, 0, 2, [98, 99]⟩] rfl h3 ?_ ht (by rw [hj]; decide) (by simp)
  intro p hp
  rcases List.mem_cons.1 hp with rfl | hp
  · exact partNew h1
  · rcases List.mem_cons.1 hp with rfl | hp
    · exact partNew h2
    · cases hp
theorem abc_facts : ∃ L : List Value, H [97, 98, 99] = .agg L.toArray ∧ L.length = 32 ∧ L[0]? = some (B 186) ∧ L[31]? = some (B 173) ∧ ∀ v ∈ L, v.oneCell' = true := by
  refine ⟨(shaOf [97, 98, 99]).map B, rfl, ?_, ?_, ?_, ?_⟩
  · rw [List.length_map, length_shaOf]
  · rw [abc]; rfl
  · rw [abc]; rfl
  · intro v hv; obtain ⟨x, _, rfl⟩ := List.mem_map.1 hv; rfl

set_option maxRecDepth 100000 in
set_option maxHeartbeats 400000 in
theorem awake_any (w : World) (ht : Tab w) : Calls Tryd.prog 8 #[] w fun e w' => e = .returned (.bool true) ∧ Below w.heap.size w w' := by
  have h0 := ht.size
  have Ht := Lib.hid ht
  clear ht
  have kc := fun (w : World) (C : Array Value) (n c : Nat) => Lib.run_convert_bytes_const (P := Tryd.prog) w 29 5 C n c Tryd.underlying29 Tryd.underlying5
  have kc2 := fun (A : Obj) (C : Array Value) (n c : Nat) => kc (w.alloc A) C n c
  have hsz : ∀ A : Obj, (w.alloc A).heap.size = w.heap.size + 1 := fun A => by simp
  simp only [hsz] at kc2
  clear hsz
  go_enter Tryd.func8, Tryd.ntmps8
  go_wp2_with fail
  generalize hW : World.alloc _ _ = w1
  have hb1 : Below w.heap.size w w1 := by rw [← hW]; exact (((Below.refl _ _).alloc (Nat.le_refl _) _).alloc (by simp) _).alloc (by simp; omega) _
  have g1 : w1.heap[w.heap.size]? = some (.cells (([97] : List UInt8).map B).toArray 5 (1, 2)) := by
    rw [← hW, Below.heap_alloc _ _ _ (by simp; omega), Below.heap_alloc _ _ _ (by simp)]; exact heap_alloc_new _ _
  have g2 : w1.heap[w.heap.size + 1]? = some (.cells (([98, 99] : List UInt8).map B).toArray 5 (2, 3)) := by
    rw [← hW, Below.heap_alloc _ _ _ (by simp)]; exact heap_alloc2_new _ _ _
  have g3 : w1.heap[w.heap.size + 1 + 1]? = some (.cells #[.slice (some ⟨w.heap.size, 0, none⟩) 1 1, .slice (some ⟨w.heap.size + 1, 0, none⟩) 2 2] 29 (0, 0)) := by
    rw [← hW]; exact heap_alloc3_new _ _ _ _
  clear hW kc kc2
  refine (of_abc w1 _ _ _ g1 g2 g3 (Ht.out.below hb1 h0)).mono ?_
  rintro e w2 ⟨rfl, hb2⟩
  have hbw : Below w.heap.size w w2 := hb1.trans (hb2.mono hb1.size)
  obtain ⟨L, hH, hL32, hL0, hL31, hone⟩ := abc_facts
  rw [hH]
  have hthere : ∀ Z : List Value, Z.length = 32 → (w2.alloc (.cells Z.toArray 26)).there w2.heap.size 0 32 := fun Z hZ => there_block (heap_alloc_new _ _) 0 32 (by omega)
  have hend : ∀ Z : List Value, Z.length = 32 → ((w2.alloc (.cells Z.toArray 26)).setCells w2.heap.size 0 L).heap[w2.heap.size]? = some (.cells L.toArray 26 (0, 0)) := fun Z hZ => by
    rw [heap_setCells _ _ L 0 Z _ (heap_alloc_new _ _) (by omega), over_all _ _ (by omega)]
  have hbel : ∀ Z : List Value, Below w.heap.size w ((w2.alloc (.cells Z.toArray 26)).setCells w2.heap.size 0 L) := fun Z =>
    (Kept1.setCells (b := w2.heap.size) w2.heap.size (Or.inl rfl) L 0 (Kept1.of_below (hbw.alloc hbw.size _) |>.trans (Kept1.refl _ _))).below hbw.size
  have hz : ∀ w, (zeroValue 26).run Tryd.prog w = .ok (.agg (zeros 32).toArray) w := fun _ => by kernel_rfl
  have Hbel := Lib.hid hbel
  have hi : (Tryd.prog.info? 26).map (·.size) = some L.length := by rw [hL32]; kernel_rfl
  have hZ : (zeros 32).length = 32 := rfl
  generalize zeros 32 = Z at *
  have c0 : ((w2.alloc (.cells Z.toArray 26)).setCells w2.heap.size 0 L).cell? ⟨w2.heap.size, 0, none⟩ = some (.int .u8 186) := by rw [cell_block (hend Z hZ), List.getElem?_toArray]; exact hL0
  have c31 : ((w2.alloc (.cells Z.toArray 26)).setCells w2.heap.size 0 L).cell? ⟨w2.heap.size, 31, none⟩ = some (.int .u8 173) := by rw [cell_block (hend Z hZ), List.getElem?_toArray]; exact hL31
  have ht' := hthere Z hZ
  clear hH hbw hb2 hb1 g1 g2 g3 hL0 hL31 hend hbel hthere
  go_wp2_with (refine wpList_store_mid rfl 26 (.tmp 1) (.tmp 7) rfl w2.heap.size 0 L.toArray rfl rfl (by simpa [hL32] using ht') (by simpa using hi) (all_oneCell_toArray hone) ?_)
  go_ret
  exact ⟨rfl, Hbel.out Z⟩
end Go.Proofs.YtmdhoeogibkobaaDoor
