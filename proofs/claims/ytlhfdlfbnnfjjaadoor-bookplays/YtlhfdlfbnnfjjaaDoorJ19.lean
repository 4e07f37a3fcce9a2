/- Bytes that came in, and the table of constants, out of the row's own words; P1.1, P1.3: of all parts the fingerprint is that of their bytes, one behind the other: the walk of the law; parts that came in; Links: the fingerprint of a fingerprint, a length and a record: the program's and the document's. -/
import Derived.Test.YtlhfdlfbnnfjjaaDoorJ11
import Derived.ProofKit
import Derived.OpenShut
import Derived.ShutString
import Derived.ChangeOld
import Derived.Below
import Derived.Deep.DeepHandedRow
import Derived.Lib.LaidTab
import Derived.Test.YtlhfdlfbnnfjjaaDoorJ13
import Derived.Test.YtlhfdlfbnnfjjaaDoorJ18
import Derived.Deep.Slices
namespace Go.Proofs.YtlhfdlfbnnfjjaaDoor
open Go.ChangeShapes Go.WideShapes Go.ChangeAt Go.RowKit

set_option maxRecDepth 100000 in
theorem own : ownKnob Tryd.prog.godebug = none := by kernel_rfl
set_option maxRecDepth 100000 in
theorem laidOut : laidOutB Tryd.prog = true := by kernel_rfl
set_option maxRecDepth 100000 in
theorem gTab : Tryd.prog.globalNamed "gatepost/sha.rounds" = some 0 := by kernel_rfl
set_option maxRecDepth 100000 in
theorem gTabType : (Tryd.prog.globals[0]?).map (·.type) = some 147 := by kernel_rfl
set_option maxRecDepth 100000 in
theorem cellsTab : Tryd.prog.cellsOf 147 = 64 := by kernel_rfl
set_option maxRecDepth 100000 in
theorem cellsU32 : Tryd.prog.cellsOf 121 = 1 := by kernel_rfl
set_option maxRecDepth 100000 in
theorem laid_eq : (Rows.laid_gatepost_sha_rounds : DataW Unit) = Lib.tabData .u32 (consts.map fun x => (x.toNat : Int)) := by kernel_rfl
set_option maxRecDepth 100000 in
/-- what the row's list gives -/
theorem tab_of {W : World} (h : laidMetH Tryd.prog [("gatepost/sha.rounds", Rows.laid_gatepost_sha_rounds)] W) : Tab W := by
  have h' : Lib.TabIs Tryd.prog W "gatepost/sha.rounds" .u32 (consts.map fun x => (x.toNat : Int)) :=
    Lib.tabIs_of_head (rest := []) gTab gTabType Tryd.underlying147 Tryd.underlying121 cellsU32 cellsTab (by rw [← laid_eq]; exact h)
  intro k hk
  have hl : consts.length = 64 := rfl
  rw [h'.cell gTab k (by simpa [hl] using hk)]
  simp [List.getD, hl, hk]

/-- a slice of bytes that came in: nil, or a row of numbers -/
def IsRow (w : World) (a : Option Addr) (len cap : Nat) (zs : List Int) : Prop :=
  (a = none ∧ len = 0 ∧ cap = 0 ∧ zs = []) ∨
  ∃ x, a = some x ∧ len ≤ cap ∧ cap ≤ maxLen ∧ zs.length = cap ∧ (∀ i, i < zs.length → w.cell? (x.add i) = some (.int .u8 (zs.getD i 0))) ∧ ∀ n ∈ zs, (Lit.int .u8 n).wf = true

set_option maxRecDepth 100000 in
theorem part_of_row {w : World} {a : Option Addr} {len cap : Nat} {zs : List Int} (h0 : 0 < w.heap.size) (h : IsRow w a len cap zs) : ∃ p : Part, p.val = .slice a len cap ∧ p.In w ∧ p.l.length = len := by
  rcases h with ⟨rfl, rfl, rfl, rfl⟩ | ⟨x, rfl, hl, hm, hz, hc, hw⟩
  · exact ⟨⟨none, 0, 0, 0, []⟩, rfl, ⟨⟨fun h => absurd rfl h, fun j hj => by cases hj⟩, Nat.le_refl _, h0⟩, rfl⟩
  · rcases Nat.eq_zero_or_pos len with rfl | hpos
    · exact ⟨⟨some x, 0, 0, cap, []⟩, rfl, ⟨⟨fun h => absurd rfl h, fun j hj => by cases hj⟩, hl, h0⟩, rfl⟩
    · obtain ⟨b, off, rfl, hc'⟩ := ints_at hc (by omega)
      have hlen : ((zs.take len).map fun z => UInt8.ofNat z.toNat).length = len := by simp; omega
      refine ⟨⟨some ⟨b, off, none⟩, b, off, cap, (zs.take len).map fun z => UInt8.ofNat z.toNat⟩, by simp only [Part.val, hlen], ⟨⟨fun _ => rfl, fun j hj => ?_⟩, by rw [hlen]; exact hl, block_lt_of_cell (hc' 0 (by omega))⟩, hlen⟩
      have hj' : j < len := by rw [← hlen]; exact hj
      rw [hc' j (by omega)]
      have hb := bounds_u8 (hw zs[j] (List.getElem_mem (by omega)))
      congr 1
      show Value.int .u8 (zs.getD j 0) = Value.int .u8 _
      congr 1
      simp [List.getD, show j < zs.length by omega]
      omega
end Go.Proofs.YtlhfdlfbnnfjjaaDoor
namespace Go.Proofs.YtlhfdlfbnnfjjaaDoor
open Go.ChangeShapes Go.WideShapes Go.ChangeAt Go.RowKit Go.Deep

set_option maxRecDepth 100000 in
theorem fewS_joined : ∀ ps : List Part, fewS ps ≤ 9999 → (joined ps).length = fewS ps
  | [], _ => rfl
  | p :: ps, h => by
    have e : fewS (p :: ps) = min p.l.length 10000 + fewS ps := by simp [fewS]
    rw [e] at h ⊢
    have ih := fewS_joined ps (by omega)
    have ej : (joined (p :: ps)).length = p.l.length + (joined ps).length := by simp [joined]
    rw [ej, ih]; omega
/-- the parts of a law: what came in -/
structure Came (w : World) (ap : Option Addr) (gp op : Nat) (ps : List Part) : Prop where
  parts : PartsIn w ap gp op ps
  nil : ∀ p ∈ ps, p.ad = none → p.cap = 0
  most : ps.length ≤ maxLen
  each : ∀ p ∈ ps, p.l.length ≤ maxLen
instance : Inhabited Part := ⟨⟨none, 0, 0, 0, []⟩⟩
section
variable {H : Type} {enc : TypeId × Value → H} {w : World} {base : Nat} {spare : Nat → Bool} {held : Bool}
set_option maxRecDepth 100000 in
/-- a slice of bytes that is read -/
theorem row_of_trod {fuel : Nat} {v : Value} {d : DataW H × List MemPlace} (h : DataW.trod enc Tryd.prog w base (fun _ => true) held fuel 32 [v] = some d) : ∃ a len cap zs, v = .slice a len cap ∧ IsRow w a len cap zs ∧ len ≤ maxLen := by
  rcases open_ints Tryd.underlying32 Tryd.underlying5 (by kernel_rfl) h with ⟨hcs, _⟩ | ⟨x, l, c, zs, hcs, _, hl, hm, hz, _, hcell, hwz⟩
  · simp only [List.cons.injEq, and_true] at hcs
    exact ⟨none, 0, 0, [], hcs, .inl ⟨rfl, rfl, rfl, rfl⟩, Nat.zero_le _⟩
  · simp only [List.cons.injEq, and_true] at hcs
    exact ⟨some x, l, c, zs, hcs, .inr ⟨_, rfl, hl, hm, by simpa using hz, hcell, hwz⟩, Nat.le_trans hl hm⟩
set_option maxRecDepth 100000 in
theorem came_of_trod {fuel : Nat} {ad : Option Addr} {len cap : Nat} {d : DataW H × List MemPlace} (h0 : 0 < w.heap.size) (h : DataW.trod enc Tryd.prog w base (fun _ => true) held fuel 31 [.slice ad len cap] = some d) :
    ∃ (ps : List Part) (g o : Nat), ps.length = len ∧ Came w ad g o ps := by
  rcases open_slice1 Tryd.underlying31 (by kernel_rfl) h with ⟨e, _⟩ | h'
  · simp only [List.cons.injEq, and_true, Value.slice.injEq] at e
    obtain ⟨rfl, rfl, rfl⟩ := e
    exact ⟨[], 0, 0, rfl, ⟨⟨fun h => absurd rfl h, (fun i hi => absurd hi (by simp)), h0, (fun p hp => by cases hp)⟩, (fun p hp => by cases hp), Nat.zero_le _, (fun p hp => by cases hp)⟩⟩
  · obtain ⟨a, len', cap', m, n, V, D, Pl, e, hb, hl, hm, hmm, _, hi⟩ := h'
    simp only [List.cons.injEq, and_true, Value.slice.injEq] at e
    obtain ⟨rfl, rfl, rfl⟩ := e
    have hlm : len ≤ m := by rw [hmm]; split <;> omega
    have hel : ∀ i, i < len → ∃ p : Part, w.cell? (a.add i) = some p.val ∧ p.In w ∧ (p.ad = none → p.cap = 0) ∧ p.l.length ≤ maxLen := by
      intro i hi'
      obtain ⟨h1, h2⟩ := hi i (by omega)
      obtain ⟨a', l', c', zs, hv, hrow, hml⟩ := row_of_trod h2
      obtain ⟨p, hp, hin, hlen⟩ := part_of_row h0 hrow
      refine ⟨p, by rw [hp, ← hv]; exact h1, hin, fun hnone => ?_, by omega⟩
      unfold Part.val at hp
      injection hp with e1 e2 e3
      rcases hrow with ⟨r1, r2, r3, _⟩ | ⟨x, r1, _⟩
      · rw [e3, r3]
      · rw [e1, r1] at hnone; cases hnone
    obtain ⟨f, hf⟩ := choose_lt hel
    rcases Nat.eq_zero_or_pos len with rfl | hpos
    · exact ⟨[], 0, 0, rfl, ⟨⟨fun h => absurd rfl h, (fun i hi => absurd hi (by simp)), h0, (fun p hp => by cases hp)⟩, (fun p hp => by cases hp), Nat.zero_le _, (fun p hp => by cases hp)⟩⟩
    obtain ⟨b, off, spot⟩ := a
    have hspot : spot = none := by
      have hc := (hf 0 hpos).1
      simpa [Addr.add] using World.cell?_spot hc
    subst hspot
    have hln : ((List.range len).map f).length = len := by simp
    refine ⟨(List.range len).map f, b, off, hln, ⟨⟨fun _ => rfl, ?_, ?_, ?_⟩, ?_, by rw [hln]; omega, ?_⟩⟩
    · intro i hi'
      have := (hf i (by omega)).1
      rw [Go.WideShapes.add_plain] at this
      simpa using this
    · have hc := (hf 0 hpos).1
      exact block_lt_of_cell hc
    · intro p hp
      obtain ⟨i, hi', rfl⟩ := List.mem_map.1 hp
      exact (hf i (by simpa using hi')).2.1
    · intro p hp
      obtain ⟨i, hi', rfl⟩ := List.mem_map.1 hp
      exact (hf i (by simpa using hi')).2.2.1
    · intro p hp
      obtain ⟨i, hi', rfl⟩ := List.mem_map.1 hp
      exact (hf i (by simpa using hi')).2.2.2
end
end Go.Proofs.YtlhfdlfbnnfjjaaDoor
namespace Go.Proofs.YtlhfdlfbnnfjjaaDoor
open Go.RowKit

/-- a length in four bytes -/
def len4 (n : Nat) : List UInt8 := [byteOf (BitVec.ofNat 32 n) 0, byteOf (BitVec.ofNat 32 n) 1, byteOf (BitVec.ofNat 32 n) 2, byteOf (BitVec.ofNat 32 n) 3]
set_option maxRecDepth 100000 in
set_option maxHeartbeats 1000000 in
theorem link_any (w : World) (P : List UInt8) (hP : P.length = 32) (p : Part) (hp : p.In w) (ht : Tab w) (hl : p.l.length ≤ 5000) :
    Calls Tryd.prog 52 #[.agg (P.map B).toArray, p.val] w fun e w' => e = .returned (H (P ++ (len4 p.l.length ++ p.l))) ∧ Below w.heap.size w w' := by
  have h0 := ht.size
  have HT := Lib.hid ht
  have HP := Lib.hid hp
  have hL32 : (P.map B).length = 32 := by simp [hP]
  have hone : ∀ v ∈ P.map B, v.oneCell' = true := by intro v hv; obtain ⟨x, _, rfl⟩ := List.mem_map.1 hv; rfl
  unfold Part.val
  clear hp ht
  have hz : ∀ w, (zeroValue 40).run Tryd.prog w = .ok (.agg (zeros 32).toArray) w := fun _ => by kernel_rfl
  generalize hL : P.map B = L at *
  generalize hZ : zeros 32 = Z at *
  go_enter Tryd.func52, Tryd.ntmps52
  go_wp2_with fail
  have hx : ((BitVec.ofNat 32 p.l.length).toNat : Int) = (p.l.length : Int) := by simp; omega
  generalize hW : World.alloc _ _ = W0 at *
  have hb0 : Below w.heap.size w W0 := by rw [← hW]; exact (((Below.refl _ _).alloc (Nat.le_refl _) _).alloc (by simp) _).alloc (by simp; omega) _
  have gP : W0.heap[w.heap.size]? = some (.cells L.toArray 40 (0, 0)) := by
    rw [← hW, Below.heap_alloc _ _ _ (by simp; omega), Below.heap_alloc _ _ _ (by simp)]; exact heap_alloc_new _ _
  have gR : W0.heap[w.heap.size + 1]? = some (.cells Z.toArray 40 (0, 0)) := by rw [← hW]; exact heap_alloc2_old' _ _ _ _
  have g4 : W0.heap[w.heap.size + 1 + 1]? = some (.cells ([.int .u8 0, .int .u8 0, .int .u8 0, .int .u8 0] : List Value).toArray 119 (0, 0)) := by rw [← hW]; exact heap_alloc3_new _ _ _ _
  clear hW
  rw [← hx]
  refine (put_any (w.heap.size + 1 + 1) 0 4 4 (BitVec.ofNat 32 p.l.length) W0 (by omega) (by omega) _ _ (by simp) g4).mono ?_
  rintro e w' ⟨rfl, rfl⟩
  have hk1 : Kept1 (w.heap.size + 1 + 1) W0 (W0.setCells (w.heap.size + 1 + 1) 0 ((len4 p.l.length).map B)) := Kept1.setCells _ (Or.inl rfl) _ _ (Kept1.refl _ _)
  have e4 := heap_setCells (w.heap.size + 1 + 1) _ ((len4 p.l.length).map B) 0 _ _ g4 (by simp [len4])
  rw [over_all _ _ (by simp [len4])] at e4
  have eP := hk1.heap gP (by omega)
  have eR := hk1.heap gR (by omega)
  have hb1 : Below w.heap.size w (W0.setCells (w.heap.size + 1 + 1) 0 ((len4 p.l.length).map B)) := Kept1.mono hb0 hk1 (by omega)
  rw [show [B (byteOf (BitVec.ofNat 32 p.l.length) 0), B (byteOf (BitVec.ofNat 32 p.l.length) 1), B (byteOf (BitVec.ofNat 32 p.l.length) 2), B (byteOf (BitVec.ofNat 32 p.l.length) 3)] = (len4 p.l.length).map B from rfl, hx]
  generalize W0.setCells (w.heap.size + 1 + 1) 0 ((len4 p.l.length).map B) = W1 at *
  clear gP gR g4 hb0 hk1
  have HO : Hid (∀ (W : World) (G : Nat), Below W1.heap.size W1 W → W.heap[G]? = some (.cells #[.slice (some ⟨w.heap.size, 0, none⟩) 32 32, .slice (some ⟨w.heap.size + 1 + 1, 0, none⟩) 4 4, .slice p.ad p.l.length p.cap] 32 (0, 0)) →
      Calls Tryd.prog 69 #[.slice (some ⟨G, 0, none⟩) 3 3] W fun e w' => e = .returned (H (P ++ (len4 p.l.length ++ p.l))) ∧ Below W.heap.size W w') := Lib.hid (by
    intro W G hW hG
    have hBW : Below w.heap.size w W := hb1.trans (hW.mono hb1.size)
    have hj : joined [⟨some ⟨w.heap.size, 0, none⟩, w.heap.size, 0, 32, P⟩, ⟨some ⟨w.heap.size + 1 + 1, 0, none⟩, w.heap.size + 1 + 1, 0, 4, len4 p.l.length⟩, p] = P ++ (len4 p.l.length ++ p.l) := by simp [joined]
    rw [← hj]
    refine of_here W G 3 [⟨some ⟨w.heap.size, 0, none⟩, w.heap.size, 0, 32, P⟩, ⟨some ⟨w.heap.size + 1 + 1, 0, none⟩, w.heap.size + 1 + 1, 0, 4, len4 p.l.length⟩, p] rfl (by simpa [Part.val, hP, len4] using hG) ?_ (HT.out.below hBW h0) (by rw [hj]; simp [len4, hP]; omega) (by simp)
    intro q hq
    rcases List.mem_cons.1 hq with rfl | hq
    · have := partNew (l := P) ((hW.block _ (lt_block eP)).trans (by rw [hL]; exact eP))
      rwa [hP] at this
    rcases List.mem_cons.1 hq with rfl | hq
    · exact partNew (l := len4 p.l.length) ((hW.block _ (lt_block e4)).trans e4)
    rcases List.mem_cons.1 hq with rfl | hq
    · exact HP.out.below hBW
    cases hq)
  have EP := Lib.hid eP
  have ER := Lib.hid eR
  have HB1 := Lib.hid hb1
  have hlt := lt_block e4
  clear eP eR e4 hb1
  go_wp2_with fail
  refine wp_region_quiet_tailB 3 (by kernel_rfl) (by kernel_rfl) ?_
  simp only [List.take_succ_cons, List.take_zero, List.drop_succ_cons, List.drop_zero]
  iterate 3 (go_big_quiet_step (fail))
  refine wpQuiet_nil ?_
  intro m
  have hbm := m.below
  generalize m.wr = W2 at *
  go_wp2_with fail
  have hbA : Below W1.heap.size W1 (W2.alloc (.cells #[.slice (some ⟨w.heap.size, 0, none⟩) 32 32, .slice (some ⟨w.heap.size + 1 + 1, 0, none⟩) 4 4, .slice p.ad p.l.length p.cap] 32)) := hbm.alloc hbm.size _
  refine (HO.out _ _ hbA (heap_alloc_new _ _)).mono ?_
  rintro e w4 ⟨rfl, hb4⟩
  have hb14 : Below W1.heap.size W1 w4 := hbA.trans (hb4.mono hbA.size)
  have hbw4 : Below w.heap.size w w4 := HB1.out.trans (hb14.mono HB1.out.size)
  have hres4 := (hb14.block _ (lt_block ER.out)).trans ER.out
  clear hbA hb14 HO EP ER HB1 hbm m
  have hZ32 : Z.length = 32 := by rw [← hZ]; rfl
  have hthere := there_block hres4 0 32 (by omega)
  have hl32 : ((shaOf (P ++ (len4 p.l.length ++ p.l))).map B).length = 32 := by simp [length_shaOf]
  have hend := heap_setCells _ _ ((shaOf (P ++ (len4 p.l.length ++ p.l))).map B) 0 _ _ hres4 (by rw [hl32]; omega)
  rw [over_all _ _ (by rw [hl32]; omega)] at hend
  have hkl := (Kept1.setCells (b := w.heap.size + 1) (w.heap.size + 1) (Or.inl rfl) ((shaOf (P ++ (len4 p.l.length ++ p.l))).map B) 0 (Kept1.of_below hbw4)).below (by omega)
  have honeH : ((shaOf (P ++ (len4 p.l.length ++ p.l))).map B).toArray.all (·.oneCell') = true := all_oneCell_toArray (by intro v hv; obtain ⟨x, _, rfl⟩ := List.mem_map.1 hv; rfl)
  have hH : H (P ++ (len4 p.l.length ++ p.l)) = .agg ((shaOf (P ++ (len4 p.l.length ++ p.l))).map B).toArray := rfl
  rw [hH]
  generalize (shaOf (P ++ (len4 p.l.length ++ p.l))).map B = D at *
  have HH := Lib.hid hH
  have Hkl := Lib.hid hkl
  have Hend := Lib.hid hend
  have Hl32 := Lib.hid hl32
  have hi : (Tryd.prog.info? 40).map (·.size) = some D.length := by rw [hl32]; kernel_rfl
  clear hkl hend hl32 hres4 hb4 hbw4 hH
  go_wp2_with (refine wpList_store_mid rfl 40 (.tmp 4) (.tmp 15) rfl (w.heap.size + 1) 0 D.toArray rfl rfl (by simpa [Hl32.out] using hthere) (by simpa using hi) honeH ?_)
  exact bodyPost_ret (v := .agg D.toArray) (results_cell_row Tryd.results52 _ _ (w.heap.size + 1) 40 D.toArray (0, 0) _ rfl Hend.out Tryd.underlying40 rfl (by simpa using hi)) rfl ⟨by rw [HH.out], Hkl.out⟩

set_option maxRecDepth 100000 in
theorem len4_quo (n : Nat) (h : n ≤ 5000) : (len4 n).map B = [.int .u8 ((n : Int) / 16777216), .int .u8 ((n : Int) / 65536), .int .u8 ((n : Int) / 256), .int .u8 ((n : Int) % 256)] := by
  have hx : (BitVec.ofNat 32 n).toNat = n := by simp; omega
  simp only [len4, List.map_cons, List.map_nil, B, List.cons.injEq, Value.int.injEq, true_and, and_true, byteOf, UInt8.toNat_ofNat', hx]
  refine ⟨?_, ?_, ?_, ?_⟩ <;> omega
set_option maxRecDepth 100000 in
set_option maxHeartbeats 1000000 in
theorem refLink_any (w : World) (P : List UInt8) (hP : P.length = 32) (p : Part) (hp : p.In w) (hnil : p.ad = none → p.cap = 0) (ht : 0 < w.heap.size) (hl : p.l.length ≤ 5000) :
    Calls Tryd.prog 30 #[.agg (P.map B).toArray, p.val] w fun e w' => e = .returned (H (P ++ (len4 p.l.length ++ p.l))) ∧ Below w.heap.size w w' := by
  have HP := Lib.hid hp
  have HN := Lib.hid hnil
  have hL32 : (P.map B).length = 32 := by simp [hP]
  have hone : ∀ v ∈ P.map B, v.oneCell' = true := by intro v hv; obtain ⟨x, _, rfl⟩ := List.mem_map.1 hv; rfl
  unfold Part.val
  clear hp hnil
  have hz : ∀ w, (zeroValue 39).run Tryd.prog w = .ok (.agg (zeros 32).toArray) w := fun _ => by kernel_rfl
  generalize hL : P.map B = L at *
  generalize hZ : zeros 32 = Z at *
  go_enter Tryd.func30, Tryd.ntmps30
  go_wp2_with fail
  generalize hW : World.alloc _ _ = W1 at *
  have hb1 : Below w.heap.size w W1 := by rw [← hW]; exact ((((Below.refl _ _).alloc (Nat.le_refl _) _).alloc (by simp) _).alloc (by simp; omega) _).alloc (by simp; omega) _
  have gP : W1.heap[w.heap.size]? = some (.cells L.toArray 39 (0, 0)) := by
    rw [← hW, Below.heap_alloc _ _ _ (by simp; omega), Below.heap_alloc _ _ _ (by simp; omega), Below.heap_alloc _ _ _ (by simp)]; exact heap_alloc_new _ _
  have gR : W1.heap[w.heap.size + 1]? = some (.cells Z.toArray 39 (0, 0)) := by
    rw [← hW, Below.heap_alloc _ _ _ (by simp)]; exact heap_alloc2_old' _ _ _ _
  have g4 : W1.heap[w.heap.size + 1 + 1]? = some (.cells ((len4 p.l.length).map B).toArray 5 (0, 0)) := by
    rw [← hW, Below.heap_alloc _ _ _ (by simp), len4_quo _ hl]; exact heap_alloc3_new _ _ _ _
  have gG : W1.heap[w.heap.size + 1 + 1 + 1]? = some (.cells #[.slice (some ⟨w.heap.size, 0, none⟩) 32 32, .slice (some ⟨w.heap.size + 1 + 1, 0, none⟩) 4 4, .slice p.ad p.l.length p.cap] 32 (0, 0)) := by
    rw [← hW]
    have := heap_alloc_new (((w.alloc (.cells L.toArray 39)).alloc (.cells Z.toArray 39)).alloc (.cells #[.int .u8 ((p.l.length : Int) / 16777216), .int .u8 ((p.l.length : Int) / 65536), .int .u8 ((p.l.length : Int) / 256), .int .u8 ((p.l.length : Int) % 256)] 5)) (.cells #[.slice (some ⟨w.heap.size, 0, none⟩) 32 32, .slice (some ⟨w.heap.size + 1 + 1, 0, none⟩) 4 4, .slice p.ad p.l.length p.cap] 32 (0, 0))
    rwa [World.size_alloc, World.size_alloc, World.size_alloc] at this
  clear hW
  have hj : joined [⟨some ⟨w.heap.size, 0, none⟩, w.heap.size, 0, 32, P⟩, ⟨some ⟨w.heap.size + 1 + 1, 0, none⟩, w.heap.size + 1 + 1, 0, 4, len4 p.l.length⟩, p] = P ++ (len4 p.l.length ++ p.l) := by simp [joined]
  have hjl : (P ++ (len4 p.l.length ++ p.l)).length ≤ 6000 := by simp [len4, hP]; omega
  have HJ : Hid (Calls Tryd.prog 41 #[.slice (some ⟨w.heap.size + 1 + 1 + 1, 0, none⟩) 3 3] W1 fun e w' => ∃ v, e = .returned v ∧ w'.ownsRow W1.heap.size 5 1 v (P ++ (len4 p.l.length ++ p.l)).length ((P ++ (len4 p.l.length ++ p.l)).map B) ∧ Below W1.heap.size W1 w') := Lib.hid (by
    rw [← hj]
    have gG' := gG
    refine joined_any W1 [⟨some ⟨w.heap.size, 0, none⟩, w.heap.size, 0, 32, P⟩, ⟨some ⟨w.heap.size + 1 + 1, 0, none⟩, w.heap.size + 1 + 1, 0, 4, len4 p.l.length⟩, p] (some ⟨w.heap.size + 1 + 1 + 1, 0, none⟩) (w.heap.size + 1 + 1 + 1) 0 3 ⟨fun _ => rfl, ?_, lt_block gG, ?_⟩ ?_ (by rw [hj]; omega) (by simp)
    · intro i hi
      rw [cell_block gG]
      match i, hi with
      | 0, _ => simp [Part.val, hP]
      | 1, _ => simp [Part.val, len4]
      | 2, _ => simp [Part.val]
      | k + 3, hk => exact absurd hk (by simp)
    · intro q hq
      rcases List.mem_cons.1 hq with rfl | hq
      · have := partNew (l := P) (by rw [hL]; exact gP)
        rwa [hP] at this
      rcases List.mem_cons.1 hq with rfl | hq
      · exact partNew (l := len4 p.l.length) g4
      rcases List.mem_cons.1 hq with rfl | hq
      · exact HP.out.below hb1
      cases hq
    · intro q hq hn
      rcases List.mem_cons.1 hq with rfl | hq
      · cases hn
      rcases List.mem_cons.1 hq with rfl | hq
      · cases hn
      rcases List.mem_cons.1 hq with rfl | hq
      · exact HN.out hn
      cases hq)
  have ER := Lib.hid gR
  have HB1 := Lib.hid hb1
  have HJL := Lib.hid hjl
  clear gP gR g4 gG hj hjl hb1
  refine HJ.out.mono ?_
  rintro e w3 ⟨v, rfl, hown, hb3⟩
  obtain ⟨q, rfl, hqin, hql, _, _, _⟩ := part_of_own hown (by have := hb3.size; have := HB1.out.size; omega)
  have HSu : Hid (Calls Tryd.prog 40 #[q.val] w3 fun e w' => e = .returned (H (P ++ (len4 p.l.length ++ p.l))) ∧ Below w3.heap.size w3 w') := Lib.hid (by
    have h := refsum_any w3 q hqin (by rw [hql]; have := HJL.out; omega)
    rwa [hql] at h)
  have HB3 := Lib.hid hb3
  clear hown hb3 HJ hqin hql
  go_wp2_with fail
  refine HSu.out.mono ?_
  rintro e w4 ⟨rfl, hb4⟩
  have hb14 : Below W1.heap.size W1 w4 := HB3.out.trans (hb4.mono HB3.out.size)
  have hbw4 : Below w.heap.size w w4 := HB1.out.trans (hb14.mono HB1.out.size)
  have hres4 := (hb14.block _ (lt_block ER.out)).trans ER.out
  clear hb14 HSu ER HB1 HB3
  have hZ32 : Z.length = 32 := by rw [← hZ]; rfl
  have hthere := there_block hres4 0 32 (by omega)
  have hl32 : ((shaOf (P ++ (len4 p.l.length ++ p.l))).map B).length = 32 := by simp [length_shaOf]
  have hend := heap_setCells _ _ ((shaOf (P ++ (len4 p.l.length ++ p.l))).map B) 0 _ _ hres4 (by rw [hl32]; omega)
  rw [over_all _ _ (by rw [hl32]; omega)] at hend
  have hkl := (Kept1.setCells (b := w.heap.size + 1) (w.heap.size + 1) (Or.inl rfl) ((shaOf (P ++ (len4 p.l.length ++ p.l))).map B) 0 (Kept1.of_below hbw4)).below (by omega)
  have honeH : ((shaOf (P ++ (len4 p.l.length ++ p.l))).map B).toArray.all (·.oneCell') = true := all_oneCell_toArray (by intro v hv; obtain ⟨x, _, rfl⟩ := List.mem_map.1 hv; rfl)
  have hH : H (P ++ (len4 p.l.length ++ p.l)) = .agg ((shaOf (P ++ (len4 p.l.length ++ p.l))).map B).toArray := rfl
  rw [hH]
  generalize (shaOf (P ++ (len4 p.l.length ++ p.l))).map B = D at *
  have HH := Lib.hid hH
  have Hkl := Lib.hid hkl
  have Hend := Lib.hid hend
  have Hl32 := Lib.hid hl32
  have hi : (Tryd.prog.info? 39).map (·.size) = some D.length := by rw [hl32]; kernel_rfl
  clear hkl hend hl32 hres4 hb4 hbw4 hH
  go_wp2_with (refine wpList_store_mid rfl 39 (.tmp 4) (.tmp 26) rfl (w.heap.size + 1) 0 D.toArray rfl rfl (by simpa [Hl32.out] using hthere) (by simpa using hi) honeH ?_)
  exact bodyPost_ret (v := .agg D.toArray) (results_cell_row Tryd.results30 _ _ (w.heap.size + 1) 39 D.toArray (0, 0) _ rfl Hend.out Tryd.underlying39 rfl (by simpa using hi)) rfl ⟨by rw [HH.out], Hkl.out⟩

end Go.Proofs.YtlhfdlfbnnfjjaaDoor
