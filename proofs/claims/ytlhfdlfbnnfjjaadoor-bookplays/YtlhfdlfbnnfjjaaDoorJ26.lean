/- A sector read off bytes; A sector written as bytes; A sector's bytes. -/
import Derived.Test.YtlhfdlfbnnfjjaaDoorJ22
import Derived.Test.YtlhfdlfbnnfjjaaDoorJ23
import Derived.Test.YtlhfdlfbnnfjjaaDoorJ25
import Derived.Test.YtlhfdlfbnnfjjaaDoorJ07
namespace Go.Proofs.YtlhfdlfbnnfjjaaDoor
open Go.RowKit

def bx (l : List UInt8) : ByteArray := ⟨l.toArray⟩
set_option maxRecDepth 100000 in
theorem extract_bx (l : List UInt8) (a b : Nat) : (bx l).extract a b = bx ((l.drop a).take (b - a)) := by
  apply ByteArray.ext
  simp [bx, List.extract]
set_option maxRecDepth 100000 in
theorem size_bx (l : List UInt8) : (bx l).size = l.length := by simp [bx, ByteArray.size]
set_option maxRecDepth 100000 in
theorem toList_bx (l : List UInt8) : (bx l).toList = l := by rw [ByteArray.toList_eq]; rfl
set_option maxRecDepth 100000 in
theorem takeM_bx (l : List UInt8) (n : Nat) (h : n ≤ l.length) : takeM (some (bx l)) (n : Int) = (bx (l.take n), some (bx (l.drop n))) := by
  rw [takeM_yes ⟨by omega, by rw [size_bx]; omega⟩, extract_bx, extract_bx, size_bx]
  simp [List.take_of_length_le]
set_option maxRecDepth 100000 in
theorem numM_bx (l : List UInt8) (n : Nat) (h : n ≤ l.length) : numM (some (bx l)) n = (numU (l.take n), some (bx (l.drop n))) := by
  unfold numM
  rw [takeM_bx l n h, toList_bx]
/-- a sector's head -/
def rdH (l : List UInt8) : Hd := ⟨numU (l.take 4), numU ((l.drop 4).take 4), numU ((l.drop 8).take 1), numU ((l.drop 9).take 1), numU ((l.drop 10).take 2)⟩
set_option maxRecDepth 100000 in
theorem hdM_bx (l : List UInt8) (h : 12 ≤ l.length) : hdM (some (bx l)) = (rdH l, some (bx (l.drop 12))) := by
  unfold hdM rdH
  rw [numM_bx l 4 (by omega)]
  dsimp only
  rw [numM_bx (l.drop 4) 4 (by simp; omega)]
  dsimp only
  rw [List.drop_drop, numM_bx (l.drop (4 + 4)) 1 (by simp; omega)]
  dsimp only
  rw [List.drop_drop, numM_bx (l.drop (4 + 4 + 1)) 1 (by simp; omega)]
  dsimp only
  rw [List.drop_drop, numM_bx (l.drop (4 + 4 + 1 + 1)) 2 (by simp; omega)]
  dsimp only
  rw [List.drop_drop]
set_option maxRecDepth 100000 in
theorem zero_secB : ∀ w, (zeroValue 74).run Tryd.prog w = .ok (.agg #[.int .i64 0, .int .i64 0, .int .i64 0, .int .i64 0, .int .i64 0, .slice none 0 0]) w := fun _ => by kernel_rfl
set_option maxRecDepth 100000 in
theorem info_secB (n : Nat) (h : n = 6) : (Tryd.prog.info? 74).map (·.size) = some n := by subst h; kernel_rfl
def zsec : List Value := [.int .i64 0, .int .i64 0, .int .i64 0, .int .i64 0, .int .i64 0, .slice none 0 0]
set_option maxRecDepth 100000 in
theorem one_secC (h : Hd) (p : Part) : ∀ v ∈ secC h p, v.oneCell' = true := by
  intro v hv
  simp only [secC, Hd.cells, List.cons_append, List.nil_append, List.mem_cons, List.not_mem_nil, or_false] at hv
  rcases hv with rfl | rfl | rfl | rfl | rfl | rfl <;> rfl
set_option maxRecDepth 100000 in
set_option maxHeartbeats 1000000 in
theorem rsec_any (w : World) (p : Part) (hp : p.In w) (h64 : p.l.length = 64) :
    Calls Tryd.prog 31 #[p.val] w fun e w' => ∃ q : Part, e = .returned (.agg (secC (rdH p.l) q).toArray) ∧ q.In w' ∧ q.l = p.l.drop 12 ∧ (q.ad = none → q.cap = 0) ∧ w.heap.size ≤ q.g ∧ Below w.heap.size w w' := by
  have hz := zero_secB
  have HRd : Hid (∀ W, Below w.heap.size w W → Calls Tryd.prog 42 #[p.val] W fun e w' => e = .returned (.pointer (some ⟨W.heap.size, 0, none⟩)) ∧ Tape w' W.heap.size 112 (some (bx p.l)) ∧ Below W.heap.size W w') :=
    Lib.hid fun W hW => read_any W p.val p.l (by unfold maxLen; omega) (bsrc_part (hp.below hW))
  have E12 := Lib.hid (hdM_bx p.l (by omega))
  have E52 : Hid (takeM (some (bx (p.l.drop 12))) 52 = (bx ((p.l.drop 12).take 52), some (bx ((p.l.drop 12).drop 52)))) := Lib.hid (takeM_bx (p.l.drop 12) 52 (by simp; omega))
  have EL : Hid ((p.l.drop 12).take 52 = p.l.drop 12) := Lib.hid (List.take_of_length_le (by simp; omega))
  generalize p.val = v at *
  clear hp
  go_enter Tryd.func31, Tryd.ntmps31
  go_wp2_with fail
  generalize hW : World.alloc _ _ = W0 at *
  have hb0 : Below w.heap.size w W0 := by rw [← hW]; exact ((Below.refl _ _).alloc (Nat.le_refl _) _).alloc (by simp) _
  have g2 : W0.heap[w.heap.size]? = some (.cells zsec.toArray 74 (0, 0)) := by rw [← hW, Below.heap_alloc _ _ _ (by simp)]; exact heap_alloc_new _ _
  have g3 : W0.heap[w.heap.size + 1]? = some (.cells zsec.toArray 74 (0, 0)) := by rw [← hW]; exact heap_alloc2_new _ _ _
  clear hW
  refine (HRd.out _ hb0).mono ?_
  rintro e w1 ⟨rfl, ht1, hb1⟩
  have HB1 := Lib.hid (hb0.trans (hb1.mono hb0.size))
  have G2 := Lib.hid ((hb1.block _ (lt_block g2)).trans g2)
  have g31 := (hb1.block _ (lt_block g3)).trans g3
  have hne : w.heap.size + 1 ≠ W0.heap.size := by have := lt_block g3; omega
  have HH := Lib.hid (hread_any w1 W0.heap.size (w.heap.size + 1) _ ht1 _ _ _ _ _ _ g31 hne)
  rw [E12.out] at HH
  have hlt0 : w.heap.size + 1 < W0.heap.size := lt_block g3
  have hle1 := hb1.size
  clear ht1 hb1 g31 g2 g3 hb0 HRd E12
  generalize hT : W0.heap.size = T at *
  clear hT
  go_wp2_with fail
  refine HH.out.mono ?_
  rintro e w2 ⟨rfl, ht2, hg2, hk2⟩
  have HB2 := Lib.hid (KeptF.mono HB1.out hk2 (Nat.le_refl _) (fun k hk => by rcases hk with rfl | rfl <;> omega))
  have G22 := Lib.hid (hk2.heap G2.out (by intro hk; rcases hk with h | h <;> omega))
  have HRaw := Lib.hid (inRawP_any w2 T 112 _ 52 ht2)
  have hlt2 : T < w2.heap.size := ht2.lt
  have HG2 := Lib.hid hg2
  have e52 := E52.out
  rw [e52] at HRaw
  clear ht2 hk2 HH HB1 G2 e52 E52 hg2
  go_wp2_with fail
  refine HRaw.out.mono ?_
  rintro e w3 ⟨q, rfl, hqi, hql, hqn, hqg, ht3, hk3⟩
  have g3 := (hk3.block _ (lt_block HG2.out) (by omega)).trans HG2.out
  have hD : ∀ v ∈ secC (rdH p.l) q, v.oneCell' = true := one_secC _ _
  have f5 := frozen_of_row w3 (w.heap.size + 1) 5 _ _ g3
  have c5 := cell_in g3 5 (.slice none 0 0) rfl
  have hg3 : (w3.setCell ⟨w.heap.size + 1, 5, none⟩ q.val).heap[w.heap.size + 1]? = some (.cells (secC (rdH p.l) q).toArray 74 (0, 0)) := cell_set_kept g3 5 q.val
  have hk3' : Kept1 (w.heap.size + 1) w3 (w3.setCell ⟨w.heap.size + 1, 5, none⟩ q.val) := (Kept1.refl _ _).setCell ⟨w.heap.size + 1, 5, none⟩ (Or.inl rfl) _
  have G23 := Lib.hid (hk3'.heap (hk3.heap G22.out (by omega)) (by omega))
  have HR3 := Lib.hid (range_block hg3)
  have HB3 := Lib.hid (Kept1.mono (Kept1.mono HB2.out hk3 (by omega)) hk3' (by omega))
  have HQ := Lib.hid (hqi.kept hk3' (fun _ => by have := HB2.out.size; omega))
  have HQL : Hid (q.l = p.l.drop 12) := Lib.hid (by rw [hql, EL.out]; rfl)
  have HQN := Lib.hid hqn
  have HQG : Hid (w.heap.size + 1 < q.g) := Lib.hid (by have := HB2.out.size; omega)
  have hlD := length_secC (rdH p.l) q
  have hend := heap_setCells _ _ (secC (rdH p.l) q) 0 _ _ G23.out (by rw [hlD]; simp [zsec])
  rw [over_all _ _ (by rw [hlD]; rfl)] at hend
  have HTh := Lib.hid (there_block G23.out 0 6 (by simp [zsec]))
  have HKl := Lib.hid (Kept1.mono HB3.out ((Kept1.refl w.heap.size _).setCells w.heap.size (Or.inl rfl) (secC (rdH p.l) q) 0) (Nat.le_refl _))
  have HQ2 := Lib.hid (HQ.out.kept ((Kept1.refl w.heap.size _).setCells w.heap.size (Or.inl rfl) (secC (rdH p.l) q) 0) (fun _ => by have := HQG.out; omega))
  have Hend := Lib.hid hend
  obtain ⟨D, hDD⟩ : ∃ D, secC (rdH p.l) q = D := ⟨_, rfl⟩
  rw [hDD] at Hend HKl HQ2 HR3 hlD hD
  have HDD := Lib.hid hDD
  unfold Part.val at Hend HKl HQ2 HR3 HTh ⊢
  clear hDD g3 hg3 hk3' hk3 ht3 hqi hql hqn hqg hend G22 G23 HG2 HB2 HB3 HQ EL HRaw hne hle1 hlt0 hlt2
  go_wp2_with (first
    | (refine wpList_load_mid rfl 74 (.tmp 3) rfl (w.heap.size + 1) 0 rfl D _ HR3.out Tryd.underlying74 rfl (info_secB _ hlD) ?_)
    | (refine wpList_store_mid rfl 74 (.tmp 2) (.tmp 13) rfl w.heap.size 0 D.toArray rfl rfl (by simpa [hlD] using HTh.out) (info_secB _ (by simpa using hlD)) (all_oneCell_toArray hD) ?_))
  exact bodyPost_ret (v := .agg D.toArray) (results_cell_row Tryd.results31 _ _ w.heap.size 74 D.toArray (0, 0) _ rfl Hend.out Tryd.underlying74 rfl (info_secB _ (by simpa using hlD))) rfl
    ⟨q, by rw [HDD.out], HQ2.out, HQL.out, HQN.out, by have := HQG.out; omega, HKl.out⟩
end Go.Proofs.YtlhfdlfbnnfjjaaDoor
namespace Go.Proofs.YtlhfdlfbnnfjjaaDoor
open Go.RowKit

set_option maxRecDepth 100000 in
theorem bx_append (a b : List UInt8) : bx a ++ bx b = bx (a ++ b) := by
  apply ByteArray.ext
  simp [bx]
set_option maxRecDepth 100000 in
theorem putM_bx (a b : List UInt8) (h : a.length + b.length ≤ 4096) : putM (some (bx a)) (bx b) = some (bx (a ++ b)) := by
  show (if (bx a).size + (bx b).size ≤ 4096 then some (bx a ++ bx b) else none) = _
  rw [size_bx, size_bx, if_pos h, bx_append]
set_option maxRecDepth 100000 in
theorem unsM_bx (l : List UInt8) (n size : Nat) (hn : n < 256 ^ size) (hl : l.length + size ≤ 4096) : unsM (some (bx l)) (n : Int) size = some (bx (l ++ numB n size)) := by
  unfold unsM
  rw [if_pos ⟨by omega, by exact_mod_cast hn⟩, Int.toNat_natCast]
  exact putM_bx l (numB n size) (by rw [numB_length]; exact hl)
/-- what a head is written as -/
def encH (h : Hd) : List UInt8 := numB h.n 4 ++ (numB h.g 4 ++ (numB h.p 1 ++ (numB h.c 1 ++ numB h.l 2)))
set_option maxRecDepth 100000 in
theorem length_encH (h : Hd) : (encH h).length = 12 := by simp [encH, numB_length]
/-- numbers that fit -/
structure Hd.Ok (h : Hd) : Prop where
  n : h.n < 4294967296
  g : h.g < 4294967296
  p : h.p < 256
  c : h.c < 256
  l : h.l < 65536
def hwM (st : Option ByteArray) (h : Hd) : Option ByteArray := unsM (unsM (unsM (unsM (unsM st (h.n : Int) 4) (h.g : Int) 4) (h.p : Int) 1) (h.c : Int) 1) (h.l : Int) 2
set_option maxRecDepth 100000 in
theorem hwM_bx (l : List UInt8) (h : Hd) (hh : h.Ok) (hl : l.length ≤ 4000) : hwM (some (bx l)) h = some (bx (l ++ encH h)) := by
  obtain ⟨h1, h2, h3, h4, h5⟩ := hh
  unfold hwM
  rw [unsM_bx l h.n 4 (by omega) (by omega), unsM_bx _ h.g 4 (by omega) (by simp [numB_length]; omega), unsM_bx _ h.p 1 (by omega) (by simp [numB_length]; omega), unsM_bx _ h.c 1 (by omega) (by simp [numB_length]; omega),
    unsM_bx _ h.l 2 (by omega) (by simp [numB_length]; omega)]
  simp [encH, List.append_assoc]
set_option maxRecDepth 100000 in
set_option maxHeartbeats 1000000 in
theorem hwrite_any (w : World) (t : Nat) (T : TypeId) (st : Option ByteArray) (ht : Tape w t T st) (h : Hd) (hh : h.Ok) :
    Calls Tryd.prog 49 #[.agg h.cells.toArray, .pointer (some ⟨t, 0, none⟩)] w fun e w' => e = .returned (.tuple #[]) ∧ Tape w' t T (hwM st h) ∧ Kept1 t w w' := by
  obtain ⟨h1, h2, h3, h4, h5⟩ := hh
  have hlt := ht.lt
  unfold Hd.cells hwM
  obtain ⟨W0, hW0⟩ : ∃ W0, W0 = w.alloc (.cells #[.int .i64 (h.n : Int), .int .i64 (h.g : Int), .int .i64 (h.p : Int), .int .i64 (h.c : Int), .int .i64 (h.l : Int)] 72) := ⟨_, rfl⟩
  have hg0 : W0.heap[w.heap.size]? = some (.cells [.int .i64 (h.n : Int), .int .i64 (h.g : Int), .int .i64 (h.p : Int), .int .i64 (h.c : Int), .int .i64 (h.l : Int)].toArray 72 (0, 0)) := by rw [hW0]; exact heap_alloc_new _ _
  have hb0 : Below w.heap.size w W0 := by rw [hW0]; exact (Below.refl _ _).alloc (Nat.le_refl _) _
  have HT0 := Lib.hid (ht.below hb0)
  have HK0 := Lib.hid (Kept1.of_below (b := t) hb0)
  have HG0 := Lib.hid hg0
  have HW0 := Lib.hid hW0
  clear ht hg0 hb0 hW0
  obtain ⟨s1, e1⟩ : ∃ s, unsM st (h.n : Int) 4 = s := ⟨_, rfl⟩
  rw [e1]
  have E1 := Lib.hid e1
  clear e1
  obtain ⟨s2, e2⟩ : ∃ s, unsM s1 (h.g : Int) 4 = s := ⟨_, rfl⟩
  rw [e2]
  have E2 := Lib.hid e2
  clear e2
  obtain ⟨s3, e3⟩ : ∃ s, unsM s2 (h.p : Int) 1 = s := ⟨_, rfl⟩
  rw [e3]
  have E3 := Lib.hid e3
  clear e3
  obtain ⟨s4, e4⟩ : ∃ s, unsM s3 (h.c : Int) 1 = s := ⟨_, rfl⟩
  rw [e4]
  have E4 := Lib.hid e4
  clear e4
  obtain ⟨s5, e5⟩ : ∃ s, unsM s4 (h.l : Int) 2 = s := ⟨_, rfl⟩
  rw [e5]
  have E5 := Lib.hid e5
  clear e5
  go_enter Tryd.func49, Tryd.ntmps49
  have c0 := cell_in HG0.out 0 _ rfl
  go_wp2_with fail
  rw [← HW0.out]
  have N0 := Lib.hid (outU32_any W0 t T st (h.n : Int) (by omega) HT0.out)
  rw [E1.out] at N0
  refine N0.out.mono ?_
  rintro e W1 ⟨rfl, ht1, hk1⟩
  have HG1 := Lib.hid ((hk1.block _ (lt_block HG0.out) (by omega)).trans HG0.out)
  have HT1 := Lib.hid ht1
  have HK1 := Lib.hid (HK0.out.trans hk1)
  clear ht1 hk1 N0 HT0 HG0 HK0
  have N1 := Lib.hid (outU32_any W1 t T s1 (h.g : Int) (by omega) HT1.out)
  rw [E2.out] at N1
  clear c0
  have c1 := cell_in HG1.out 1 _ rfl
  go_wp2_with fail
  refine N1.out.mono ?_
  rintro e W2 ⟨rfl, ht2, hk2⟩
  have HG2 := Lib.hid ((hk2.block _ (lt_block HG1.out) (by omega)).trans HG1.out)
  have HT2 := Lib.hid ht2
  have HK2 := Lib.hid (HK1.out.trans hk2)
  clear ht2 hk2 N1 HT1 HG1 HK1
  have N2 := Lib.hid (outU8_any W2 t T s2 (h.p : Int) (by omega) HT2.out)
  rw [E3.out] at N2
  clear c1
  have c2 := cell_in HG2.out 2 _ rfl
  go_wp2_with fail
  refine N2.out.mono ?_
  rintro e W3 ⟨rfl, ht3, hk3⟩
  have HG3 := Lib.hid ((hk3.block _ (lt_block HG2.out) (by omega)).trans HG2.out)
  have HT3 := Lib.hid ht3
  have HK3 := Lib.hid (HK2.out.trans hk3)
  clear ht3 hk3 N2 HT2 HG2 HK2
  have N3 := Lib.hid (outU8_any W3 t T s3 (h.c : Int) (by omega) HT3.out)
  rw [E4.out] at N3
  clear c2
  have c3 := cell_in HG3.out 3 _ rfl
  go_wp2_with fail
  refine N3.out.mono ?_
  rintro e W4 ⟨rfl, ht4, hk4⟩
  have HG4 := Lib.hid ((hk4.block _ (lt_block HG3.out) (by omega)).trans HG3.out)
  have HT4 := Lib.hid ht4
  have HK4 := Lib.hid (HK3.out.trans hk4)
  clear ht4 hk4 N3 HT3 HG3 HK3
  have N4 := Lib.hid (outU16_any W4 t T s4 (h.l : Int) (by omega) HT4.out)
  rw [E5.out] at N4
  clear c3
  have c4 := cell_in HG4.out 4 _ rfl
  go_wp2_with fail
  refine N4.out.mono ?_
  rintro e W5 ⟨rfl, ht5, hk5⟩
  have HG5 := Lib.hid ((hk5.block _ (lt_block HG4.out) (by omega)).trans HG4.out)
  have HT5 := Lib.hid ht5
  have HK5 := Lib.hid (HK4.out.trans hk5)
  clear ht5 hk5 N4 HT4 HG4 HK4
  clear c4
  go_wp2
  go_end0
  exact ⟨rfl, HT5.out, HK5.out⟩
end Go.Proofs.YtlhfdlfbnnfjjaaDoor
namespace Go.Proofs.YtlhfdlfbnnfjjaaDoor
open Go.RowKit

set_option maxRecDepth 100000 in
set_option maxHeartbeats 1000000 in
theorem outRawK_any (w : World) (t : Nat) (T : TypeId) (st : Option ByteArray) (v : Value) (l : List UInt8) (hl : l.length ≤ maxLen) (hv : ∀ w', Kept1 t w w' → BSrc w' v l) (h : Tape w t T st) :
    Calls Tryd.prog 50 #[.pointer (some ⟨t, 0, none⟩), v] w fun e w' => e = .returned (.tuple #[]) ∧ Tape w' t T (putM st ⟨l.toArray⟩) ∧ Kept1 t w w' := by
  obtain ⟨ad, cp, rfl⟩ := (hv w (Kept1.refl _ _)).shape
  have hlt := h.lt
  have H := Lib.hid h
  have HV := Lib.hid hv
  have HLL := Lib.hid hl
  have R : Hid (∀ m : Bl w, Calls Tryd.prog 66 #[.pointer (some ⟨t, 0, none⟩)] m.wr fun e w' => e = .returned (.int .i64 (4096 - ((tapeB st).size : Int))) ∧ m.wr = w') := Lib.hid (fun m => room_any m.wr t T st (h.below m.below))
  unfold maxLen at hl
  clear h hv
  obtain ⟨b, hb⟩ : ∃ b, decide ((l.length : Int) ≤ 4096 - ((tapeB st).size : Int)) = b := ⟨_, rfl⟩
  have E0 : Hid (b = false → putM st ⟨l.toArray⟩ = none) := Lib.hid (fun e => by
    subst e
    have := of_decide_eq_false hb
    cases st with
    | none => rfl
    | some s => exact if_neg (by show ¬ s.size + l.toArray.size ≤ 4096; have e1 : tapeB (some s) = s := rfl; rw [e1] at this; simp; omega))
  go_enter Tryd.func50, Tryd.ntmps50
  go_wp2_with fail
  refine wp_region_quiet_tailB 8 (by kernel_rfl) (by kernel_rfl) ?_
  simp only [List.take_succ_cons, List.take_zero, List.drop_succ_cons, List.drop_zero]
  iterate 8 (go_big_quiet_step ((go_at_call 66; with_reducible exact Calls.quiet_b (.mono (R.out _) fun _ _ ⟨he, hw⟩ => ⟨he, hw ▸ Below.refl _ _⟩))))
  refine wpQuiet_nil ?_
  intro m
  go_wp2_with fail
  refine (must_any m.wr t T st b (H.out.below m.below)).mono ?_
  rintro e w1 ⟨rfl, ht, hk⟩
  have HB := Lib.hid (below_kept m.below hk)
  have HT := Lib.hid ht
  clear hk R ht hb
  cases b
  · go_wp2_with fail
    go_end0
    rw [E0.out (by trivial)]
    exact ⟨rfl, HT.out, HB.out⟩
  · cases st with
    | none =>
      go_wp2_with fail
      go_end0
      exact ⟨rfl, HT.out, HB.out⟩
    | some s =>
      have hcv := conv_bytes (HV.out _ HB.out)
      have P := Lib.hid (cput_any w1 t T (some s) ⟨l.toArray⟩ (by have := HLL.out; exact this) HT.out)
      simp only [Bool.true_and, Option.isSome_some]
      go_wp2_with (simp only [hcv])
      refine P.out.mono ?_
      rintro e w2 ⟨rfl, ht, hk⟩
      have HT2 := Lib.hid ht
      have HK2 := Lib.hid (HB.out.trans hk)
      clear hcv ht hk P
      go_wp2_with fail
      go_end0
      exact ⟨rfl, HT2.out, HK2.out⟩
/-- what a sector is written as -/
def encS (h : Hd) (l : List UInt8) : List UInt8 := encH h ++ (l ++ List.replicate (52 - l.length) 0)
set_option maxRecDepth 100000 in
theorem length_encS (h : Hd) (l : List UInt8) (hl : l.length ≤ 52) : (encS h l).length = 64 := by simp [encS, length_encH]; omega
set_option maxRecDepth 100000 in
theorem bsrc_zeros {w : World} {g z : Nat} (h : w.heap[g]? = some (.cells (czeros z).toArray 5 (0, 0))) : BSrc w (.slice (some ⟨g, 0, none⟩) z z) (List.replicate z 0) := by
  by_cases hz : z = 0
  · subst hz; exact .inl ⟨_, _, rfl, rfl⟩
  · refine .inr ⟨g, 0, z, by simp, fun j hj => ?_⟩
    have hj' : j < z := by simpa using hj
    rw [Nat.zero_add, cell_block h, List.getElem?_toArray]
    simp [czeros, hj', B]
set_option maxRecDepth 100000 in
theorem zero_out : ∀ w, (zeroValue 100).run Tryd.prog w = .ok (.agg #[.string ⟨#[]⟩, .bool false]) w := fun _ => by kernel_rfl
set_option maxRecDepth 100000 in
set_option maxHeartbeats 1000000 in
theorem sbytes_any (w : World) (h : Hd) (hh : h.Ok) (q : Part) (hq : q.In w) (hl : q.l.length ≤ 52) :
    Calls Tryd.prog 35 #[.agg (secC h q).toArray] w fun e w' => ∃ g o cp, e = .returned (.slice (some ⟨g, o, none⟩) 64 cp) ∧ w'.rangeAt g o ((encS h q.l).map B) ∧ g < w'.heap.size ∧ Below w.heap.size w w' := by
  have hz := zero_out
  obtain ⟨z, hzz⟩ : ∃ z, 52 - q.l.length = z := ⟨_, rfl⟩
  obtain ⟨n, hn⟩ : ∃ n, q.l.length = n := ⟨_, rfl⟩
  have HSub : Hid ((52 : Int) - (n : Int) = (z : Int)) := Lib.hid (by omega)
  have hzle : z ≤ 52 := by omega
  have hlq := hq.lt
  have hn52 : n ≤ 52 := by omega
  have HEnc : Hid (bx (encH h ++ (q.l ++ List.replicate z 0)) = bx (encS h q.l)) := Lib.hid (by rw [← hzz]; rfl)
  have HLen : Hid ((encS h q.l).length = 64) := Lib.hid (length_encS h q.l hl)
  have HP0 : Hid (hwM (some (bx [])) h = some (bx (encH h))) := Lib.hid (by have := hwM_bx [] h hh (by simp); simpa using this)
  have HP1 : Hid (putM (some (bx (encH h))) ⟨q.l.toArray⟩ = some (bx (encH h ++ q.l))) := Lib.hid (putM_bx _ _ (by rw [length_encH]; omega))
  have HP2 : Hid (putM (some (bx (encH h ++ q.l))) ⟨(List.replicate z 0).toArray⟩ = some (bx (encS h q.l))) := Lib.hid (by
    rw [← HEnc.out, ← List.append_assoc]
    exact putM_bx _ _ (by simp [length_encH]; omega))
  have HQ := Lib.hid hq
  have HH := Lib.hid hh
  have hsec : ∀ W : World, W.heap[w.heap.size]? = some (.cells (h.cells ++ [q.val]).toArray 74 (0, 0)) → W.rangeAt w.heap.size 0 h.cells ∧ W.cell? ⟨w.heap.size, 5, none⟩ = some (.slice q.ad n q.cap) := fun W hW => ⟨range_pre hW, by
    refine cell_in hW 5 _ ?_
    show some q.val = _
    unfold Part.val; rw [hn]⟩
  have HSec := Lib.hid hsec
  have hval : q.val = .slice q.ad n q.cap := by unfold Part.val; rw [hn]
  have HVal := Lib.hid hval
  have HN := Lib.hid hn
  unfold secC
  obtain ⟨C, hC⟩ : ∃ C, h.cells ++ [q.val] = C := ⟨_, rfl⟩
  have hC6 : C.length = 6 := by rw [← hC]; rfl
  rw [hC] at HSec ⊢
  obtain ⟨HC, hHC⟩ : ∃ HC, h.cells = HC := ⟨_, rfl⟩
  have hHC5 : HC.length = 5 := by rw [← hHC]; rfl
  rw [hHC] at HSec
  have HHC := Lib.hid hHC
  clear hq hh hsec hval hC hHC hl hzz hn
  go_enter Tryd.func35, Tryd.ntmps35
  go_wp2_with (first
    | (refine wpList_load_mid rfl 72 (.tmp 6) rfl w.heap.size 0 rfl HC _ (HSec.out _ ((Below.heap_alloc _ _ _ (by simp)).trans (heap_alloc_new _ _))).1 Tryd.underlying72 rfl (by rw [hHC5]; exact infoHd) ?_))
  generalize hW : World.alloc _ _ = W0 at *
  have hb0 : Below w.heap.size w W0 := by rw [← hW]; exact ((Below.refl _ _).alloc (Nat.le_refl _) _).alloc (by simp) _
  have g1 : W0.heap[w.heap.size]? = some (.cells C.toArray 74 (0, 0)) := by rw [← hW, Below.heap_alloc _ _ _ (by simp)]; exact heap_alloc_new _ _
  have g3 : W0.heap[w.heap.size + 1]? = some (.cells (tapeC (some (bx []))) 100 (0, 0)) := by rw [← hW]; exact heap_alloc2_new _ _ _
  have ht0 : Tape W0 (w.heap.size + 1) 100 (some (bx [])) := ⟨g3, fun s e => by cases e; unfold maxLen; simp [bx, ByteArray.size]⟩
  have hlt1 := lt_block g1
  clear hW g3
  have HW := Lib.hid (hwrite_any W0 (w.heap.size + 1) 100 _ ht0 h HH.out)
  rw [HHC.out, HP0.out] at HW
  have HB0 := Lib.hid hb0
  have G1 := Lib.hid g1
  clear ht0 hb0 g1
  refine HW.out.mono ?_
  rintro e w1 ⟨rfl, ht1, hk1⟩
  have hb1 := Kept1.mono HB0.out hk1 (by omega)
  have G11 := Lib.hid ((hk1.block _ (lt_block G1.out) (by omega)).trans G1.out)
  have HR1 := Lib.hid (outRawK_any w1 (w.heap.size + 1) 100 _ q.val q.l (by unfold maxLen; have := HN.out; omega) (fun w' hk => bsrc_part ((HQ.out.below hb1).kept hk (fun _ => by omega))) ht1)
  rw [HP1.out, HVal.out] at HR1
  have c5 := (HSec.out _ G11.out).2
  have HB1 := Lib.hid hb1
  clear ht1 hk1 hb1 HW HB0 G1 HP0 HP1 HHC
  go_wp2_with fail
  refine HR1.out.mono ?_
  rintro e w2 ⟨rfl, ht2, hk2⟩
  have G12 := Lib.hid ((hk2.block _ (lt_block G11.out) (by omega)).trans G11.out)
  have c52 := (HSec.out _ G12.out).2
  have HB2 := Lib.hid (Kept1.mono HB1.out hk2 (by omega))
  have HT2 := Lib.hid ht2
  clear ht2 hk2 HR1 HB1 G11 c5
  go_wp2_with (refine cwpList_make_bytes rfl (.tmp 15) rfl z _ HSub.out rfl (by omega) ?_)
  have HR2 := Lib.hid (outRawK_any (w2.alloc (.cells (czeros z).toArray 5)) (w.heap.size + 1) 100 _ (.slice (some ⟨w2.heap.size, 0, none⟩) z z) (List.replicate z 0) (by unfold maxLen; simp; omega)
    (fun w' hk => bsrc_zeros (hk.heap (heap_alloc_new _ _) (by have := HT2.out.lt; omega))) (HT2.out.below ((Below.refl _ _).alloc (Nat.le_refl _) _)))
  rw [HP2.out] at HR2
  have HB3 := Lib.hid (HB2.out.alloc HB2.out.size (.cells (czeros z).toArray 5))
  clear HT2 HB2 G12 c52 HP2
  refine HR2.out.mono ?_
  rintro e w3 ⟨rfl, ht3, hk3⟩
  have HB4 := Lib.hid (Kept1.mono HB3.out hk3 (by omega))
  have HE := Lib.hid (end_any w3 (w.heap.size + 1) 100 _ ht3)
  clear ht3 hk3 HR2 HB3
  go_wp2_with fail
  refine HE.out.mono ?_
  rintro e w4 ⟨v, rfl, hv, hb4⟩
  have hv' : ∃ g o cp, v = .slice (some ⟨g, o, none⟩) 64 cp ∧ w4.rangeAt g o ((encS h q.l).map B) ∧ g < w4.heap.size := by
    have e1 : (tapeB (some (bx (encS h q.l)))).data.toList = encS h q.l := rfl
    rw [e1] at hv
    rcases hv with ⟨_, _, _, e⟩ | ⟨g, o, cp, rfl, hc⟩
    · have := HLen.out; rw [e] at this; cases this
    · refine ⟨g, o, cp, by rw [HLen.out], fun j x hj => ?_, block_lt_of_cell (hc 0 (by rw [HLen.out]; decide))⟩
      obtain ⟨hj', e⟩ := List.getElem?_eq_some_iff.1 hj
      have hj2 : j < (encS h q.l).length := by simpa using hj'
      rw [hc j hj2, ← e]; simp
  have HV := Lib.hid hv'
  have HB5 := Lib.hid (HB4.out.trans (hb4.mono HB4.out.size))
  clear hv hv' hb4 HE HB4
  go_wp2
  go_ret
  obtain ⟨g, o, cp, e, hr, hg⟩ := HV.out
  exact ⟨g, o, cp, by rw [e]; rfl, hr, hg, HB5.out⟩
end Go.Proofs.YtlhfdlfbnnfjjaaDoor
