/- The reference: literals, values, names that can stand in a tree; The reference's walks over a tree: how deep it is, whether two are the same; The reference: are two trees the same. -/
import Derived.Test.YtllgodaphoncnaaGreatDoorJ46
import Derived.Test.YtllgodaphoncnaaGreatDoorJ13
import Derived.Test.YtllgodaphoncnaaGreatDoorVSame
import Derived.Test.YtllgodaphoncnaaGreatDoorJ47
import Derived.Test.YtllgodaphoncnaaGreatDoorJ37
namespace Go.Proofs.YtllgodaphoncnaaGreatDoor
open Go.RowKit

set_option maxRecDepth 100000 in
theorem rwho_any (w : World) (x : List UInt8) : Calls Tryz.prog 32 #[.string (st x)] w fun e w' => e = .returned (.bool (whoL.contains x)) ∧ Below w.heap.size w w' := by
  have hst : StrsAt (w.alloc (.cells #[.string ⟨#[115, 117, 98, 106, 101, 99, 116]⟩, .string ⟨#[114, 101, 115, 111, 117, 114, 99, 101]⟩, .string ⟨#[97, 99, 116, 105, 111, 110]⟩, .string ⟨#[101, 110, 118]⟩] 9 (0, 0))) (some ⟨w.heap.size, 0, none⟩) w.heap.size 0 whoL := strsAt_new (heap_alloc_new _ _)
  have HI := Lib.hid (in_any _ whoL x _ _ _ 4 hst (by decide))
  clear hst
  go_enter Tryz.func32, Tryz.ntmps32
  go_wp2_with fail
  refine HI.out.mono ?_
  rintro e w1 ⟨rfl, rfl⟩
  go_wp2_with fail
  go_ret
  exact ⟨by simp, (Below.refl _ _).alloc (Nat.le_refl _) _⟩
set_option maxRecDepth 100000 in
theorem rname_any (w : World) (x : List UInt8) (hx : x.length ≤ 1000000) : Calls Tryz.prog 33 #[.string (st x)] w fun e w' => e = .returned (.bool (nameB x)) ∧ Below w.heap.size w w' := by
  have HF := Lib.hid (lrefFormed_any w ⟨1, x, 0⟩ ⟨by show (-9223372036854775808 : Int) ≤ 1; decide, by show (1 : Int) ≤ 9223372036854775807; decide, by show (-9223372036854775808 : Int) ≤ 0; decide, by show (0 : Int) ≤ 9223372036854775807; decide, hx⟩)
  have e1 : formB ⟨1, x, 0⟩ = wordB x := by simp [formB]
  rw [e1] at HF
  unfold Tk.val at HF
  have HK := Lib.hid (fun W => refKept_any W)
  have HI := Lib.hid (fun W (g : Nat) (h : StrsAt W (some ⟨g, 0, none⟩) g 0 keptL) => in_any W keptL x _ g 0 29 h (by decide))
  clear hx e1
  obtain ⟨b, hb⟩ : ∃ b, wordB x = b := ⟨_, rfl⟩
  rw [hb] at HF
  have hn : nameB x = (b && !keptL.contains x) := by unfold nameB keptB; rw [hb]
  rw [hn]
  obtain ⟨c, hc⟩ : ∃ c, keptL.contains x = c := ⟨_, rfl⟩
  rw [hc]
  simp only [hc] at HI
  clear hb hn hc
  go_enter Tryz.func33, Tryz.ntmps33
  cases b with
  | false =>
    go_wp2_with fail
    refine HF.out.mono ?_
    rintro e w1 ⟨rfl, hb1⟩
    go_wp2_with fail
    go_ret
    exact ⟨rfl, hb1⟩
  | true =>
    go_wp2_with fail
    refine HF.out.mono ?_
    rintro e w1 ⟨rfl, hb1⟩
    have HB1 := Lib.hid hb1
    clear hb1
    go_wp2_with fail
    refine (HK.out _).mono ?_
    rintro e w2 ⟨rfl, hst, hb2⟩
    have HI2 := Lib.hid (HI.out _ _ hst)
    have HB2 := Lib.hid (HB1.out.trans (hb2.mono HB1.out.size))
    clear hst hb2
    go_wp2_with fail
    refine HI2.out.mono ?_
    rintro e w3 ⟨rfl, rfl⟩
    go_wp2_with fail
    go_ret
    exact ⟨by simp, HB2.out⟩
set_option maxRecDepth 100000 in
theorem rtext_any (w : World) (x : List UInt8) (hx : x.length ≤ 1000000) : Calls Tryz.prog 34 #[.agg #[.int .i64 3, .string (st x), .int .i64 0]] w fun e w' => e = .returned (.bool (textB x)) ∧ Below w.heap.size w w' := by
  have h := lrefFormed_any w ⟨3, x, 0⟩ ⟨by show (-9223372036854775808 : Int) ≤ 3; decide, by show (3 : Int) ≤ 9223372036854775807; decide, by show (-9223372036854775808 : Int) ≤ 0; decide, by show (0 : Int) ≤ 9223372036854775807; decide, hx⟩
  rwa [show formB ⟨3, x, 0⟩ = textB x by simp [formB]] at h
set_option maxRecDepth 100000 in
theorem st_toList (s : ByteArray) : st s.toList = s := by
  apply ByteArray.ext
  simp [st, ByteArray.toList_eq]
set_option maxRecDepth 100000 in
set_option maxHeartbeats 1000000 in
theorem rliteral_any (w : World) (y : Val) (bag : Bool) (hs : y.k = 3 → y.s.toList.length ≤ 1000000) :
    Calls Tryz.prog 57 #[y.v, .bool bag] w fun e w' => e = .returned (.bool (litB y bag)) ∧ Below w.heap.size w w' := by
  obtain ⟨k, i, s, a, n, c⟩ := y
  unfold Val.v V
  have HT := Lib.hid (fun (h : k = 3) W => rtext_any W s.toList (hs h))
  simp only [st_toList] at HT
  clear hs
  by_cases h2 : k = 2
  · subst h2
    have e1 : litB ⟨2, i, s, a, n, c⟩ bag = (decide (0 ≤ i) || bag && decide (-9223372036854775808 < i)) := rfl
    rw [e1]
    clear HT e1
    go_enter Tryz.func57, Tryz.ntmps57
    by_cases hi : 0 ≤ i
    · have d1 : decide (0 ≤ i) = true := by simpa using hi
      go_wp2_with fail
      go_ret
      exact ⟨by simp [hi], (Below.refl _ _).alloc (Nat.le_refl _) _⟩
    · have d1 : decide (0 ≤ i) = false := by simpa using hi
      cases bag with
      | false =>
        go_wp2_with fail
        go_ret
        exact ⟨by simp, (Below.refl _ _).alloc (Nat.le_refl _) _⟩
      | true =>
        obtain ⟨b, hb⟩ : ∃ b, decide (-9223372036854775808 < i) = b := ⟨_, rfl⟩
        rw [hb, d1]
        go_wp2_with fail
        go_ret
        exact ⟨by simp, (Below.refl _ _).alloc (Nat.le_refl _) _⟩
  · have e1 : litB ⟨k, i, s, a, n, c⟩ bag = (k == 1 || k == 4 || k == 3 && textB s.toList) := by unfold litB; rw [if_neg h2]
    rw [e1]
    clear e1
    have d2 : (k == 2) = false := by simpa using h2
    have hb0 : Below w.heap.size w (w.alloc (.cells #[.int .i64 k, .int .i64 i, .string s, .slice a n c] 24 (0, 0))) := (Below.refl _ _).alloc (Nat.le_refl _) _
    have HB0 := Lib.hid hb0
    clear hb0
    by_cases h1 : k = 1
    · subst h1
      clear HT d2 h2
      go_enter Tryz.func57, Tryz.ntmps57
      go_wp2_with fail
      go_ret
      exact ⟨by simp, HB0.out⟩
    by_cases h4 : k = 4
    · subst h4
      clear HT d2 h2 h1
      go_enter Tryz.func57, Tryz.ntmps57
      go_wp2_with fail
      go_ret
      exact ⟨by simp, HB0.out⟩
    by_cases h3 : k = 3
    · subst h3
      have HT3 := Lib.hid (HT.out rfl)
      clear HT d2 h2 h1 h4
      obtain ⟨b, hb⟩ : ∃ b, textB s.toList = b := ⟨_, rfl⟩
      rw [hb] at HT3 ⊢
      clear hb
      go_enter Tryz.func57, Tryz.ntmps57
      go_wp2_with fail
      refine (HT3.out _).mono ?_
      rintro e w1 ⟨rfl, hb1⟩
      have HB1 := Lib.hid (HB0.out.trans (hb1.mono HB0.out.size))
      clear hb1
      go_wp2_with fail
      go_ret
      exact ⟨by simp, HB1.out⟩
    · have d1 : (k == 1) = false := by simpa using h1
      have d3 : (k == 3) = false := by simpa using h3
      have d4 : (k == 4) = false := by simpa using h4
      rw [d1, d3, d4]
      clear HT h1 h2 h3 h4
      go_enter Tryz.func57, Tryz.ntmps57
      go_wp2_with fail
      go_ret
      exact ⟨by simp, HB0.out⟩
set_option maxRecDepth 100000 in
theorem valueM_eq {B : Nat → Prop} {w : World} {x : Val} {v : PV} (h : ValIs B w x v) : valueM v = (x.formed v.l && if x.k = 5 then v.l.all (litB · true) && !v.l.isEmpty else litB x false) := by
  obtain ⟨k, i, s, l⟩ := v
  obtain ⟨xk, xi, xs, xa, xn, xc⟩ := x
  obtain ⟨h1, h2, h3, h4, -, -, -⟩ := h
  dsimp only at h1 h2 h3 h4 ⊢
  subst h1 h2 h3 h4
  unfold valueM Val.formed
  by_cases hk : xk = 5
  · subst hk
    rw [if_pos rfl, if_pos rfl, if_pos (by rfl)]
    simp only [Bool.and_assoc]
  · rw [if_neg hk, if_neg hk, if_neg (by simpa using hk)]
    have e : litB ⟨xk, xi, xs, none, 0, 0⟩ false = litB ⟨xk, xi, xs, xa, l.length, xc⟩ false := rfl
    dsimp only
    rw [e]
    unfold Val.alone
    cases l with
    | nil => simp
    | cons y l => simp [aloneB]
set_option maxRecDepth 100000 in
theorem formed_k3 {x : Val} {l : List Val} (h : x.formed l = true) : x.k = 3 → x.s.toList.length ≤ 1000000 := by
  intro hk
  unfold Val.formed at h
  rw [if_neg (by rw [hk]; decide)] at h
  unfold Val.alone aloneB at h
  split at h
  · cases h
  rw [hk] at h
  simp at h
  have := h.2
  rw [ByteArray.toList_eq, Array.length_toList]
  show x.s.size ≤ _
  omega
set_option maxRecDepth 100000 in
theorem list_k3 {l : List Val} (h : listB l = true) : ∀ y ∈ l, y.k = 3 → y.s.toList.length ≤ 1000000 := by
  intro y hy hk
  unfold listB at h
  rw [Bool.and_eq_true, List.all_eq_true] at h
  obtain ⟨j, hj, rfl⟩ := List.mem_iff_getElem.1 hy
  have h1 := h.2 j (by simpa using hj)
  unfold okA okV at h1
  rw [getElem!_pos l j hj] at h1
  simp only [Bool.and_eq_true] at h1
  have h2 := h1.2.2.1
  exact formed_k3 (x := l[j]) (l := []) (by unfold Val.formed; rw [if_neg (by rw [hk]; decide)]; exact h2) hk
set_option maxRecDepth 100000 in
set_option maxHeartbeats 2000000 in
theorem rvalue_any (w : World) (x : Val) (v : PV) (B : Nat → Prop) (h : ValIs B w x v) :
    Calls Tryz.prog 30 #[x.v] w fun e w' => e = .returned (.bool (valueM v)) ∧ Below w.heap.size w w' := by
  have hm := valueM_eq h
  have HF := Lib.hid (fun W (hb : Below w.heap.size w W) => refFormed_any W x v.l (h.kept (.of_below hb)).full)
  have HL := Lib.hid (fun W (hb : Below w.heap.size w W) => rliteral_any W x false)
  obtain ⟨g, o, hla, -⟩ := h.list
  have hlen := h.len
  have hmost := h.most
  have HLA := Lib.hid hla
  have h3 := @formed_k3 x v.l
  have hl3 : x.k = 5 → x.formed v.l = true → listB v.l = true := fun hk hf => by
    unfold Val.formed at hf
    rw [if_pos (by simpa using hk)] at hf
    simp only [Bool.and_eq_true] at hf
    exact hf.2.2
  rw [hm]
  generalize v.l = l at *
  clear hm h hla
  obtain ⟨k, i, s, a, n, c⟩ := x
  dsimp only at *
  subst hlen
  obtain ⟨b, hb⟩ : ∃ b, Val.formed ⟨k, i, s, a, l.length, c⟩ l = b := ⟨_, rfl⟩
  rw [hb] at HF h3 hl3 ⊢
  have HX3 := Lib.hid h3
  have HL3 := Lib.hid hl3
  clear hb h3 hl3
  unfold maxLen at hmost
  obtain ⟨R, hR⟩ : ∃ R, (b && if k = 5 then l.all (litB · true) && !l.isEmpty else litB ⟨k, i, s, a, l.length, c⟩ false) = R := ⟨_, rfl⟩
  have HR0 := Lib.hid hR
  rw [hR]
  clear hR
  unfold Val.v V at *
  dsimp only at *
  go_enter Tryz.func30, Tryz.ntmps30
  go_wp2_with fail
  generalize hW : World.alloc _ _ = W0
  have hb0 : Below w.heap.size w W0 := by rw [← hW]; exact (Below.refl _ _).alloc (Nat.le_refl _) _
  have hg0 : W0.heap[w.heap.size]? = some (.cells #[.int .i64 k, .int .i64 i, .string s, .slice a l.length c] 24 (0, 0)) := by rw [← hW]; exact heap_alloc_new _ _
  clear hW
  refine (HF.out _ hb0).mono ?_
  rintro e w1 ⟨rfl, hb1⟩
  have hg1 := (hb1.block _ (lt_block hg0)).trans hg0
  have hbw := hb0.trans (hb1.mono hb0.size)
  have HB := Lib.hid hbw
  have HG := Lib.hid hg1
  clear hb0 hb1 hg0 HF
  cases b with
  | false =>
    obtain rfl : false = R := by have := HR0.out; rwa [Bool.false_and] at this
    clear hg1 hbw HR0
    go_wp2_with fail
    go_ret
    exact ⟨rfl, HB.out⟩
  | true =>
    have c0 : w1.cell? ⟨w.heap.size, 0, none⟩ = some (.int .i64 k) := by rw [cell_block hg1]; rfl
    have c1 : w1.cell? ⟨w.heap.size, 1, none⟩ = some (.int .i64 i) := by rw [cell_block hg1]; rfl
    have c2 : w1.cell? ⟨w.heap.size, 2, none⟩ = some (.string s) := by rw [cell_block hg1]; rfl
    have c3 : w1.cell? ⟨w.heap.size, 3, none⟩ = some (.slice a l.length c) := by rw [cell_block hg1]; rfl
    clear hg1 hbw
    by_cases hk : k = 5
    · subst hk
      have d5 : ((5 : Int) == 5) = true := rfl
      have hall : listB l = true := HL3.out rfl rfl
      have hk3 := list_k3 hall
      have h16 : l.length ≤ 16 := by unfold listB at hall; simp only [Bool.and_eq_true, decide_eq_true_eq] at hall; exact hall.1
      have HK3 := Lib.hid hk3
      have HRR : Hid ((l.all (litB · true) && !l.isEmpty) = R) := Lib.hid (by have := HR0.out; rwa [Bool.true_and, if_pos rfl] at this)
      clear hall hk3 HX3 HL3 HL HR0 c1 c2
      go_wp2_with fail
      clear c0
      go_loopw [3] (fun v3 wr => ∃ q : Nat, q ≤ l.length ∧ v3 = .int .i64 q ∧ (l.take q).all (litB · true) = true ∧ Below w1.heap.size w1 wr) (fun v3 _ => l.length - (intOf v3).toNat)
      case atStart => exact ⟨0, by omega, rfl, rfl, Below.refl _ _⟩
      case round =>
        obtain ⟨q, hq, rfl, hal, hb⟩ := hrel
        have c3' := (hb.cell (p := ⟨w.heap.size, 3, none⟩) (lt_block HG.out)).trans c3
        have HAL := Lib.hid hal
        have HBq := Lib.hid hb
        have HBw := Lib.hid (HB.out.trans (hb.mono HB.out.size))
        clear hal hb c3
        by_cases hlt : q < l.length
        · have d1 : decide ((q : Int) < (l.length : Int)) = true := by simp; omega
          have had := HLA.out.at' (by intro e; rw [e] at hlt; cases hlt)
          subst had
          have y0 := (HBw.out.cell (p := ⟨g, o + q * 4, none⟩) (block_lt_of_cell (HLA.out.c0 q hlt))).trans (HLA.out.c0 q hlt)
          have y1 := (HBw.out.cell (p := ⟨g, o + q * 4 + 1, none⟩) (block_lt_of_cell (HLA.out.c1 q hlt))).trans (HLA.out.c1 q hlt)
          have y2 := (HBw.out.cell (p := ⟨g, o + q * 4 + 2, none⟩) (block_lt_of_cell (HLA.out.c2 q hlt))).trans (HLA.out.c2 q hlt)
          have y3 := (HBw.out.cell (p := ⟨g, o + q * 4 + 3, none⟩) (block_lt_of_cell (HLA.out.c3 q hlt))).trans (HLA.out.c3 q hlt)
          have HT := Lib.hid (rliteral_any wr l[q] true (HK3.out _ (List.getElem_mem hlt)))
          have hsn : (l.take (q + 1)).all (litB · true) = litB l[q] true := by
            rw [List.take_succ_eq_append_getElem hlt, List.all_append, HAL.out]; simp
          have hno : litB l[q] true = false → R = false := fun h => by
            rw [← HRR.out]
            have : l.all (litB · true) = false := by
              rw [List.all_eq_false]; exact ⟨l[q], List.getElem_mem hlt, by rw [h]; decide⟩
            rw [this]; rfl
          have HSN := Lib.hid hsn
          have HNO := Lib.hid hno
          clear hsn hno
          generalize l[q] = y at *
          unfold Val.v V at HT
          obtain ⟨b, hb⟩ : ∃ b, litB y true = b := ⟨_, rfl⟩
          rw [hb] at HT HSN HNO
          clear hb
          cases b with
          | true =>
            go_wp2_with fail
            refine HT.out.mono ?_
            rintro e w3 ⟨rfl, hb3⟩
            have HB3 := Lib.hid (HBq.out.trans (hb3.mono HBq.out.size))
            clear hb3 y0 y1 y2 y3 c3'
            go_wp2_with fail
            go_roundw
            case rel => exact ⟨q + 1, by omega, by go_num, HSN.out, HB3.out⟩
            case measure => simp [intOf]; omega
          | false =>
            obtain rfl := HNO.out rfl
            go_wp2_with fail
            refine HT.out.mono ?_
            rintro e w3 ⟨rfl, hb3⟩
            have HB3 := Lib.hid (HBw.out.trans (hb3.mono HBw.out.size))
            clear hb3 y0 y1 y2 y3 c3'
            go_wp2_with fail
            go_ret
            exact ⟨rfl, HB3.out⟩
        · obtain rfl : q = l.length := by omega
          have d1 : decide ((l.length : Int) < (l.length : Int)) = false := by simp
          have hR2 : R = decide (0 < l.length) := by
            rw [← HRR.out]
            have h := HAL.out
            rw [List.take_length] at h
            rw [h]
            cases l <;> simp
          have d2 : decide ((0 : Int) < (l.length : Int)) = R := by rw [hR2]; simp
          have HR2 := Lib.hid hR2
          clear hR2 HRR d2
          go_wp2_with fail
          go_ret
          exact ⟨by rw [HR2.out]; rfl, HBw.out⟩
    · have d5 : (k == 5) = false := by simpa using hk
      have hR2 : litB ⟨k, i, s, a, l.length, c⟩ false = R := by have := HR0.out; rwa [Bool.true_and, if_neg hk] at this
      have HL2 := Lib.hid (HL.out w1 HB.out (HX3.out rfl))
      clear HL HX3 HL3
      rw [hR2] at HL2
      clear hR2 HR0 hk
      go_wp2_with fail
      refine HL2.out.mono ?_
      rintro e w2 ⟨rfl, hb2⟩
      have HB2 := Lib.hid (HB.out.trans (hb2.mono HB.out.size))
      clear hb2
      go_wp2_with fail
      go_ret
      exact ⟨rfl, HB2.out⟩
end Go.Proofs.YtllgodaphoncnaaGreatDoor
namespace Go.Proofs.YtllgodaphoncnaaGreatDoor
open Go.RowKit

abbrev Any : Nat → Prop := fun _ => True
set_option maxRecDepth 100000 in
theorem TrAt.any {B : Nat → Prop} {w : World} {t : Tr} {X : XV} (h : TrAt B w t X) : TrAt Any w t X := h.mono fun _ _ _ => trivial
set_option maxRecDepth 100000 in
theorem infoX (n : Nat) (h : n = 8) : (Tryz.prog.info? 27).map (·.size) = some n := by subst h; kernel_rfl
set_option maxRecDepth 100000 in
theorem infoV (n : Nat) (h : n = 4) : (Tryz.prog.info? 24).map (·.size) = some n := by subst h; kernel_rfl
/-- a tree's parts in memory -/
structure PsAt (w : World) (ps : List Tr) (X : XV) (g o : Nat) (Xs : Nat → XV) : Prop where
  len : X.l = ps.length
  addr : ps ≠ [] → X.a = some ⟨g, o, none⟩
  tr : ∀ i, (h : i < ps.length) → TrAt Any w ps[i] (Xs i)
  row : ∀ i, i < ps.length → w.rangeAt g (o + i * 8) (Xs i).cells
set_option maxRecDepth 100000 in
theorem TrAt.parts {w : World} {t : Tr} {X : XV} (h : TrAt Any w t X) : X.o = st t.op ∧ X.w = st t.who ∧ X.n = st t.name ∧ ValIs Any w X.x t.v ∧ ∃ g o Xs, PsAt w t.ps X g o Xs := by
  cases h with
  | mk X ho hw hn hv hl g o Xs had hfr hp hc =>
    refine ⟨ho, hw, hn, hv, g, o, Xs, hl, fun h => (had h).1, hp, fun i hi j v hj => ?_⟩
    have hj8 : j < 8 := (List.getElem?_eq_some_iff.1 hj).1
    rw [hc i hi j hj8]; exact hj
set_option maxRecDepth 100000 in
theorem PsAt.below {w w' : World} {ps : List Tr} {X : XV} {g o : Nat} {Xs : Nat → XV} (h : PsAt w ps X g o Xs) (hb : Below w.heap.size w w') : PsAt w' ps X g o Xs :=
  ⟨h.len, h.addr, fun i hi => (h.tr i hi).low hb, fun i hi => by
    have hr := h.row i hi
    intro j v hj
    have h0 := hr j v hj
    exact (KeptB.of_below (B := Any) hb).cell trivial h0⟩
/-- a tree's root in a box of its own -/
structure BoxAt (w : World) (b : Nat) (X : XV) : Prop where
  blk : w.heap[b]? = some (.cells X.cells.toArray 27 (0, 0))
set_option maxRecDepth 100000 in
theorem BoxAt.below {w w' : World} {b : Nat} {X : XV} (h : BoxAt w b X) (hb : Below w.heap.size w w') : BoxAt w' b X := ⟨(hb.block b (lt_block h.blk)).trans h.blk⟩
set_option maxRecDepth 100000 in
theorem BoxAt.cell {w : World} {b : Nat} {X : XV} (h : BoxAt w b X) (j : Nat) : w.cell? ⟨b, j, none⟩ = X.cells[j]? := by rw [cell_block h.blk]; simp
set_option maxRecDepth 100000 in
theorem BoxAt.row {w : World} {b : Nat} {X : XV} (h : BoxAt w b X) : w.rangeAt b 0 X.cells := fun j v hj => by
  rw [Nat.zero_add, h.cell j]; exact hj
set_option maxRecDepth 100000 in
theorem BoxAt.val {w : World} {b : Nat} {X : XV} (h : BoxAt w b X) : w.rangeAt b 1 X.x.cells := fun j v hj => by
  have hj4 : j < 4 := (List.getElem?_eq_some_iff.1 hj).1
  rw [h.cell (1 + j), ← hj]
  rcases j with _ | _ | _ | _ | j
  · rfl
  · rfl
  · rfl
  · rfl
  · omega
set_option maxRecDepth 100000 in
theorem boxed (w : World) (X : XV) : ∃ W, w.alloc (.cells X.cells.toArray 27 (0, 0)) = W ∧ Below w.heap.size w W ∧ BoxAt W w.heap.size X := ⟨_, rfl, (Below.refl _ _).alloc (Nat.le_refl _) _, ⟨heap_alloc_new _ _⟩⟩
set_option maxRecDepth 100000 in
theorem size_part {t u : Tr} (h : u ∈ t.ps) : sizeT u < sizeT t := by
  cases t with
  | mk op v who name ps =>
    have : ∀ l : List Tr, u ∈ l → sizeT u ≤ sizeL l := by
      intro l
      induction l with
      | nil => intro h; cases h
      | cons a l ih =>
        intro h
        simp only [sizeL]
        rcases List.mem_cons.1 h with rfl | h
        · omega
        · have := ih h; omega
    have h1 := this ps h
    simp only [sizeT]
    omega
set_option maxRecDepth 100000 in
theorem size_parts (t : Tr) : t.ps.length < sizeT t := by
  cases t with
  | mk op v who name ps =>
    have : ∀ l : List Tr, l.length ≤ sizeL l := by
      intro l
      induction l with
      | nil => simp
      | cons a l ih =>
        have : 1 ≤ sizeT a := by cases a; simp only [sizeT]; omega
        simp only [sizeL, List.length_cons]; omega
    have h1 := this ps
    simp only [sizeT, Tr.ps]
    omega
set_option maxRecDepth 100000 in
theorem tr_ind {P : Tr → Prop} (h : ∀ t, (∀ u ∈ t.ps, P u) → P t) (t : Tr) : P t := by
  obtain ⟨n, hn⟩ : ∃ n, sizeT t = n := ⟨_, rfl⟩
  induction n using Nat.strongRecOn generalizing t with
  | ind n ih => exact h t fun u hu => ih (sizeT u) (by have := size_part hu; omega) u rfl
set_option maxRecDepth 100000 in
set_option maxHeartbeats 1000000 in
theorem refDepth_any (t : Tr) : ∀ (w : World) (X : XV), TrAt Any w t X → sizeT t ≤ 1000000 → Calls Tryz.prog 15 #[X.v] w fun e w' => e = .returned (.int .i64 (depthT t : Int)) ∧ Below w.heap.size w w' := by
  refine tr_ind (P := fun t => ∀ (w : World) (X : XV), TrAt Any w t X → sizeT t ≤ 1000000 → Calls Tryz.prog 15 #[X.v] w fun e w' => e = .returned (.int .i64 (depthT t : Int)) ∧ Below w.heap.size w w') (fun t ih w X h hs => ?_) t
  obtain ⟨-, -, -, -, g, o, Xs, hp⟩ := h.parts
  obtain ⟨W0, hW0, hb0, hbox⟩ := boxed w X
  have hp0 := hp.below hb0
  have hn := size_parts t
  have hds := depth_size t
  have hdp := depthT_ps t
  have hsz := fun i (hi : i < t.ps.length) => size_part (List.getElem_mem hi)
  have IH := Lib.hid (fun i (hi : i < t.ps.length) W (hb : Below W0.heap.size W0 W) => ih _ (List.getElem_mem hi) W (Xs i) ((hp0.tr i hi).low hb) (by have := hsz i hi; omega))
  have hdl : ∀ u ∈ t.ps, depthT u ≤ depthL t.ps := fun u hu => depthL_le.1 (Nat.le_refl _) u hu
  have HDL := Lib.hid hdl
  rw [hdp]
  generalize t.ps = ps at *
  generalize hD : depthL ps = D at *
  have hD9 : D ≤ 1000000 := by omega
  have hl9 : ps.length ≤ 1000000 := by omega
  have HXL := Lib.hid hp.len
  have HP := Lib.hid hp0
  have HBX := Lib.hid hbox
  have HB0 := Lib.hid hb0
  have HDD := Lib.hid hD
  clear ih h hs hp hn hds hdp hsz hb0 hbox hp0 hdl hD
  unfold XV.v
  go_enter Tryz.func15, Tryz.ntmps15
  go_wp2_with fail
  generalize hW : World.alloc _ _ = W1
  obtain rfl : W0 = W1 := hW0.symm.trans hW
  clear hW hW0
  go_loopw [3, 4] (fun v3 v4 wr => ∃ k : Nat, k ≤ ps.length ∧ v4 = .int .i64 k ∧ v3 = .int .i64 ((1 + depthL (ps.take k) : Nat) : Int) ∧ Below W0.heap.size W0 wr) (fun _ v4 _ => ps.length - (intOf v4).toNat)
  case atStart => exact ⟨0, by omega, rfl, rfl, Below.refl _ _⟩
  case round =>
    obtain ⟨k, hk, rfl, rfl, hb⟩ := hrel
    have HB := Lib.hid hb
    have c7 : wr.cell? ⟨w.heap.size, 7, none⟩ = some (.slice X.a X.l X.c) := (HBX.out.below hb).cell 7
    rw [HXL.out] at c7
    clear hb
    by_cases hlt : k < ps.length
    · have d1 : decide ((k : Int) < (ps.length : Int)) = true := by simp; omega
      have had := HP.out.addr (by intro e; rw [e] at hlt; cases hlt)
      rw [had] at c7
      clear had
      have HR := Lib.hid ((HP.out.below HB.out).row k hlt)
      have hix : (0 : Int) ≤ k ∧ (k : Int) < (ps.length : Int) := by omega
      have HIH := Lib.hid (IH.out k hlt wr HB.out)
      have hdu := HDL.out _ (List.getElem_mem hlt)
      have hsn : depthL (ps.take (k + 1)) = max (depthL (ps.take k)) (depthT ps[k]) := by
        rw [List.take_succ_eq_append_getElem hlt, depthL_append]; simp [depthL]
      have htk : depthL (ps.take k) ≤ D := by
        rw [depthL_le]; intro u hu; exact HDL.out u (List.mem_of_mem_take hu)
      have HSN := Lib.hid hsn
      clear hsn
      generalize depthL (ps.take k) = M at *
      generalize depthT ps[k] = U at *
      go_wp2_with (refine wpList_load_mid rfl 27 (.tmp 16) rfl g (o + k * 8) rfl (Xs k).cells _ HR.out Tryz.underlying27 rfl (infoX _ rfl) ?_)
      refine HIH.out.mono ?_
      rintro e w2 ⟨rfl, hb2⟩
      have HB2 := Lib.hid (HB.out.trans (hb2.mono HB.out.size))
      have hmx : ((max (1 + M) (1 + U) : Nat) : Int) = max (1 + (M : Int)) (1 + (U : Int)) := by omega
      have hU9 : U ≤ 1000000 := by omega
      have hM9 : M ≤ 1000000 := by omega
      clear hb2 c7 hdu htk hD9
      go_wp2_with fail
      go_roundw
      case rel => exact ⟨k + 1, by omega, by go_num, by rw [HSN.out]; go_num, HB2.out⟩
      case measure => simp [intOf]; omega
    · obtain rfl : k = ps.length := by omega
      have d1 : decide ((ps.length : Int) < (ps.length : Int)) = false := by simp
      have hD2 := HDD.out
      rw [List.take_length, hD2]
      have HBE := Lib.hid (HB0.out.trans (HB.out.mono HB0.out.size))
      clear hD2
      go_wp2_with fail
      go_ret
      exact ⟨rfl, HBE.out⟩
end Go.Proofs.YtllgodaphoncnaaGreatDoor
namespace Go.Proofs.YtllgodaphoncnaaGreatDoor
open Go.RowKit

def sameP (v u : PV) : Bool := (v.k == u.k && (v.i == u.i && (v.s.toList == u.s.toList && v.l.length == u.l.length))) && (List.range v.l.length).all (fun j => sameE v.l[j]! u.l[j]!)
mutual
def sameT : Tr → Tr → Bool
  | .mk op v who name ps, .mk op' v' who' name' ps' => op == op' && (who == who' && (name == name' && (sameP v v' && (ps.length == ps'.length && sameL ps ps'))))
def sameL : List Tr → List Tr → Bool
  | a :: l, b :: m => sameT a b && sameL l m
  | _, _ => true
end
set_option maxRecDepth 100000 in
theorem sameT_eq (t u : Tr) : sameT t u = (t.op == u.op && (t.who == u.who && (t.name == u.name && (sameP t.v u.v && (t.ps.length == u.ps.length && sameL t.ps u.ps))))) := by
  cases t; cases u; rw [sameT]; rfl
set_option maxRecDepth 100000 in
theorem sameL_take : ∀ (l m : List Tr) (k : Nat) (hk : k < l.length) (hm : k < m.length), sameL (l.take (k + 1)) (m.take (k + 1)) = (sameL (l.take k) (m.take k) && sameT l[k] m[k])
  | [], _, _, hk, _ => by cases hk
  | _, [], _, _, hm => by cases hm
  | a :: l, b :: m, 0, _, _ => by simp [sameL]
  | a :: l, b :: m, k + 1, hk, hm => by
    have ih := sameL_take l m k (by simpa using hk) (by simpa using hm)
    simp only [List.take_succ_cons, sameL, List.getElem_cons_succ] at ih ⊢
    rw [ih, Bool.and_assoc]
set_option maxRecDepth 100000 in
theorem sameL_no : ∀ (l m : List Tr) (k : Nat) (hk : k < l.length) (hm : k < m.length), sameT l[k] m[k] = false → sameL l m = false
  | [], _, _, hk, _, _ => by cases hk
  | _, [], _, _, hm, _ => by cases hm
  | a :: l, b :: m, 0, _, _, h => by simp only [List.getElem_cons_zero] at h; simp [sameL, h]
  | a :: l, b :: m, k + 1, hk, hm, h => by
    have ih := sameL_no l m k (by simpa using hk) (by simpa using hm) (by simpa using h)
    simp [sameL, ih]
set_option maxRecDepth 100000 in
theorem sameB_P {B B' : Nat → Prop} {w w' : World} {x y : Val} {v u : PV} (hx : ValIs B w x v) (hy : ValIs B' w' y u) : sameB x v.l y u.l = sameP v u := by
  unfold sameB headS sameP
  rw [hx.k, hx.i, hx.s, hy.k, hy.i, hy.s, ← hx.len, ← hy.len]
set_option maxRecDepth 100000 in
theorem rsameValue_any (w : World) (X Y : XV) (v u : PV) (hx : ValIs Any w X.x v) (hy : ValIs Any w Y.x u) :
    Calls Tryz.prog 42 #[X.v, Y.v] w fun e w' => e = .returned (.bool (sameP v u)) ∧ Below w.heap.size w w' := by
  have hb : ∀ a b : Obj, Below w.heap.size w ((w.alloc a).alloc b) := fun a b => ((Below.refl _ _).alloc (Nat.le_refl _) _).alloc (by simp) _
  have HS := Lib.hid (fun a b => same_any ((w.alloc a).alloc b) X.x Y.x v.l u.l (hx.kept (.of_below (hb a b))).full (hy.kept (.of_below (hb a b))).full)
  rw [← sameB_P hx hy]
  obtain ⟨R, hR⟩ : ∃ R, sameB X.x v.l Y.x u.l = R := ⟨_, rfl⟩
  rw [hR] at HS ⊢
  have HB := Lib.hid hb
  clear hx hy hb hR
  unfold XV.v
  go_enter Tryz.func42, Tryz.ntmps42
  go_wp2_with fail
  refine (HS.out _ _).mono ?_
  rintro e w2 ⟨rfl, hb2⟩
  have HB2 := Lib.hid ((HB.out _ _).trans (hb2.mono (HB.out _ _).size))
  clear hb2
  go_wp2_with fail
  go_ret
  exact ⟨rfl, HB2.out⟩
set_option maxRecDepth 100000 in
set_option maxHeartbeats 4000000 in
theorem sameExpr_any (t : Tr) : ∀ (u : Tr) (w : World) (X Y : XV), TrAt Any w t X → TrAt Any w u Y → sizeT t ≤ 1000000 → Calls Tryz.prog 16 #[X.v, Y.v] w fun e w' => e = .returned (.bool (sameT t u)) ∧ Below w.heap.size w w' := by
  refine tr_ind (P := fun t => ∀ (u : Tr) (w : World) (X Y : XV), TrAt Any w t X → TrAt Any w u Y → sizeT t ≤ 1000000 → Calls Tryz.prog 16 #[X.v, Y.v] w fun e w' => e = .returned (.bool (sameT t u)) ∧ Below w.heap.size w w') (fun t ih u w X Y h k hs => ?_) t
  obtain ⟨x1, x2, x3, x4, g, o, Xs, hp⟩ := h.parts
  obtain ⟨y1, y2, y3, y4, g', o', Ys, hq⟩ := k.parts
  have hbb : ∀ a b : Obj, Below w.heap.size w ((w.alloc a).alloc b) := fun a b => ((Below.refl _ _).alloc (Nat.le_refl _) _).alloc (by simp) _
  have hn := size_parts t
  have hsz := fun i (hi : i < t.ps.length) => size_part (List.getElem_mem hi)
  have IH := Lib.hid (fun i (hi : i < t.ps.length) (hj : i < u.ps.length) W (hb : Below w.heap.size w W) => ih _ (List.getElem_mem hi) u.ps[i] W (Xs i) (Ys i) ((hp.tr i hi).low hb) ((hq.tr i hj).low hb) (by have := hsz i hi; omega))
  have HSV := Lib.hid (fun W (hb : Below w.heap.size w W) => rsameValue_any W X Y t.v u.v (x4.kept (.of_below hb)) (y4.kept (.of_below hb)))
  have HEQ := Lib.hid (sameT_eq t u)
  have HTK := Lib.hid (sameL_take t.ps u.ps)
  have HNO := Lib.hid (sameL_no t.ps u.ps)
  have ex1 : X.o.toList = t.op := by rw [x1]; exact st_list _
  have ex2 : X.w.toList = t.who := by rw [x2]; exact st_list _
  have ex3 : X.n.toList = t.name := by rw [x3]; exact st_list _
  have ey1 : Y.o.toList = u.op := by rw [y1]; exact st_list _
  have ey2 : Y.w.toList = u.who := by rw [y2]; exact st_list _
  have ey3 : Y.n.toList = u.name := by rw [y3]; exact st_list _
  obtain ⟨R, hR⟩ : ∃ R, sameT t u = R := ⟨_, rfl⟩
  rw [hR] at HEQ ⊢
  obtain ⟨q1, e1⟩ : ∃ b, (t.op == u.op) = b := ⟨_, rfl⟩
  obtain ⟨q2, e2⟩ : ∃ b, (t.who == u.who) = b := ⟨_, rfl⟩
  obtain ⟨q3, e3⟩ : ∃ b, (t.name == u.name) = b := ⟨_, rfl⟩
  obtain ⟨q4, e4⟩ : ∃ b, sameP t.v u.v = b := ⟨_, rfl⟩
  rw [e1, e2, e3, e4] at HEQ
  rw [e4] at HSV
  have f1 : (X.o.toList == Y.o.toList) = q1 := by rw [ex1, ey1]; exact e1
  have f2 : (X.w.toList == Y.w.toList) = q2 := by rw [ex2, ey2]; exact e2
  have f3 : (X.n.toList == Y.n.toList) = q3 := by rw [ex3, ey3]; exact e3
  have hXl := hp.len
  have hYl := hq.len
  generalize t.ps = ps at *
  generalize u.ps = qs at *
  have hl9 : ps.length ≤ 1000000 := by omega
  have HP := Lib.hid hp
  have HQ := Lib.hid hq
  have HBB := Lib.hid hbb
  have HXL := Lib.hid hXl
  have HYL := Lib.hid hYl
  clear ih h k hs hp hq hn hsz hbb x1 x2 x3 x4 y1 y2 y3 y4 ex1 ex2 ex3 ey1 ey2 ey3 e1 e2 e3 e4 hR hXl hYl
  unfold XV.v
  go_enter Tryz.func16, Tryz.ntmps16
  cases q1 with
  | false =>
    obtain rfl : R = false := by rw [HEQ.out]; rfl
    go_wp2_with fail
    go_ret
    exact ⟨rfl, HBB.out _ _⟩
  | true =>
  cases q2 with
  | false =>
    obtain rfl : R = false := by rw [HEQ.out]; rfl
    go_wp2_with fail
    go_ret
    exact ⟨rfl, HBB.out _ _⟩
  | true =>
  cases q3 with
  | false =>
    obtain rfl : R = false := by rw [HEQ.out]; rfl
    go_wp2_with fail
    go_ret
    exact ⟨rfl, HBB.out _ _⟩
  | true =>
  go_wp2_with fail
  refine (HSV.out _ (HBB.out _ _)).mono ?_
  rintro e w2 ⟨rfl, hb2⟩
  have hg := two_blocks w (.cells X.cells.toArray 27 (0, 0)) (.cells Y.cells.toArray 27 (0, 0))
  have hb2' : Below ((w.alloc (.cells X.cells.toArray 27 (0, 0))).alloc (.cells Y.cells.toArray 27 (0, 0))).heap.size ((w.alloc (.cells X.cells.toArray 27 (0, 0))).alloc (.cells Y.cells.toArray 27 (0, 0))) w2 := hb2
  have hgx : BoxAt w2 w.heap.size X := BoxAt.below ⟨hg.1⟩ hb2'
  have hgy : BoxAt w2 (w.heap.size + 1) Y := BoxAt.below ⟨hg.2⟩ hb2'
  have HB := Lib.hid ((HBB.out _ _).trans (hb2.mono (HBB.out _ _).size))
  have HGX := Lib.hid hgx
  have HGY := Lib.hid hgy
  have x7 : w2.cell? ⟨w.heap.size, 7, none⟩ = some (.slice X.a X.l X.c) := hgx.cell 7
  have y7 : w2.cell? ⟨w.heap.size + 1, 7, none⟩ = some (.slice Y.a Y.l Y.c) := hgy.cell 7
  clear hg hb2 hb2' hgx hgy HSV f1 f2 f3
  cases q4 with
  | false =>
    obtain rfl : R = false := by rw [HEQ.out]; rfl
    clear x7 y7
    go_wp2_with fail
    go_ret
    exact ⟨rfl, HB.out⟩
  | true =>
    obtain ⟨q5, e5⟩ : ∃ b, (ps.length == qs.length) = b := ⟨_, rfl⟩
    rw [e5] at HEQ
    have f5 : ((X.l : Int) == (Y.l : Int)) = q5 := by
      rw [HXL.out, HYL.out, ← e5]
      cases h : (ps.length == qs.length) with
      | true => rw [beq_iff_eq] at h; simp [h]
      | false => simp at h; simp; omega
    have HE5 := Lib.hid e5
    have f6 : ((X.l : Int) != (Y.l : Int)) = !q5 := by rw [bne, f5]
    clear e5
    cases q5 with
    | false =>
      obtain rfl : R = false := by rw [HEQ.out]; rfl
      have f6 : ((X.l : Int) != (Y.l : Int)) = true := f6
      go_wp2_with fail
      go_ret
      exact ⟨rfl, HB.out⟩
    | true =>
      have HR0 : Hid (R = sameL ps qs) := Lib.hid (by rw [HEQ.out]; rfl)
      have hlen : qs.length = ps.length := by have := HE5.out; rw [beq_iff_eq] at this; exact this.symm
      have HLEN := Lib.hid hlen
      have f6 : ((X.l : Int) != (Y.l : Int)) = false := f6
      clear hlen HEQ HE5
      go_wp2_with fail
      clear x7 y7 f5 f6
      go_loopw [5] (fun v5 wr => ∃ k : Nat, k ≤ ps.length ∧ v5 = .int .i64 k ∧ sameL (ps.take k) (qs.take k) = true ∧ Below w2.heap.size w2 wr) (fun v5 _ => ps.length - (intOf v5).toNat)
      case atStart => exact ⟨0, by omega, rfl, (by simp [sameL]), Below.refl _ _⟩
      case round =>
        obtain ⟨k, hk, rfl, hsm, hb⟩ := hrel
        have HSM := Lib.hid hsm
        have HBk := Lib.hid hb
        have HBw := Lib.hid (HB.out.trans (hb.mono HB.out.size))
        have x7 : wr.cell? ⟨w.heap.size, 7, none⟩ = some (.slice X.a X.l X.c) := (HGX.out.below hb).cell 7
        rw [HXL.out] at x7
        clear hsm hb
        by_cases hlt : k < ps.length
        · have d1 : decide ((k : Int) < (ps.length : Int)) = true := by simp; omega
          have had := HP.out.addr (by intro e; rw [e] at hlt; cases hlt)
          rw [had] at x7
          clear had
          have hix : (0 : Int) ≤ k ∧ (k : Int) < (ps.length : Int) := by omega
          have hkq : k < qs.length := by rw [HLEN.out]; exact hlt
          have HIH := Lib.hid (fun W hb => IH.out k hlt hkq W hb)
          have HSN := Lib.hid (HTK.out k hlt hkq)
          rw [HSM.out, Bool.true_and] at HSN
          have HNK := Lib.hid (HNO.out k hlt hkq)
          have x7m : ∀ m : Bl wr, m.wr.cell? ⟨w.heap.size, 7, none⟩ = some (.slice (some ⟨g, o, none⟩) ps.length X.c) := fun m => (m.below.cell (p := ⟨w.heap.size, 7, none⟩) (block_lt_of_cell x7)).trans x7
          have hady := HQ.out.addr (by intro e; rw [e] at hkq; cases hkq)
          have y7 : wr.cell? ⟨w.heap.size + 1, 7, none⟩ = some (.slice (some ⟨g', o', none⟩) ps.length Y.c) := by
            have := (HGY.out.below HBk.out).cell 7
            rw [this]; show some (Value.slice Y.a Y.l Y.c) = _; rw [hady, HYL.out, HLEN.out]
          have y7m : ∀ m : Bl wr, m.wr.cell? ⟨w.heap.size + 1, 7, none⟩ = some (.slice (some ⟨g', o', none⟩) ps.length Y.c) := fun m => (m.below.cell (p := ⟨w.heap.size + 1, 7, none⟩) (block_lt_of_cell y7)).trans y7
          have HRX := Lib.hid (fun m : Bl wr => (HP.out.below (HBw.out.trans (m.below.mono HBw.out.size))).row k hlt)
          have HRY := Lib.hid (fun m : Bl wr => (HQ.out.below (HBw.out.trans (m.below.mono HBw.out.size))).row k hkq)
          obtain ⟨b, hb⟩ : ∃ b, sameT ps[k] qs[k] = b := ⟨_, rfl⟩
          rw [hb] at HSN HNK
          simp only [hb] at HIH
          have HIH : Hid (∀ (W : World), Below w.heap.size w W → Calls Tryz.prog 16 #[.agg (Xs k).cells.toArray, .agg (Ys k).cells.toArray] W fun e w' => e = .returned (.bool b) ∧ Below W.heap.size W w') := HIH
          clear hb hady y7
          go_wp2_with fail
          clear x7
          refine wp_region_quietB (by kernel_rfl) (by kernel_rfl) ?_
          iterate 4 (go_big_quiet_step (fail))
          refine wpQuiet_load_mid rfl 27 (.tmp 50) rfl g (o + k * 8) rfl (Xs k).cells _ (fun w' ⟨m, hw'⟩ => hw' ▸ HRX.out m) Tryz.underlying27 rfl (infoX _ rfl) ?_
          simp only [Act.put, List.setIfInBounds_toArray, List.set_cons_succ, List.set_cons_zero]
          iterate 4 (go_big_quiet_step (fail))
          refine wpQuiet_load_mid rfl 27 (.tmp 55) rfl g' (o' + k * 8) rfl (Ys k).cells _ (fun w' ⟨m, hw'⟩ => hw' ▸ HRY.out m) Tryz.underlying27 rfl (infoX _ rfl) ?_
          simp only [Act.put, List.setIfInBounds_toArray, List.set_cons_succ, List.set_cons_zero]
          iterate 2 (go_big_quiet_step ((go_at_call 16; with_reducible exact Calls.quiet_b (HIH.out _ (HBw.out.trans ((Bl.below _).mono HBw.out.size))))))
          refine wpQuiet_nil ?_
          intro m
          have HBM := Lib.hid (HBk.out.trans (m.below.mono HBk.out.size))
          have HBMw := Lib.hid (HBw.out.trans (m.below.mono HBw.out.size))
          clear x7m y7m
          cases b with
          | true =>
            go_wp2_with fail
            go_roundw
            case rel => exact ⟨k + 1, by omega, by go_num, HSN.out, HBM.out⟩
            case measure => simp [intOf]; omega
          | false =>
            obtain rfl : R = false := by rw [HR0.out]; exact HNK.out (by first | trivial | rfl)
            go_wp2_with fail
            go_ret
            exact ⟨rfl, HBMw.out⟩
        · obtain rfl : k = ps.length := by omega
          have d1 : decide ((ps.length : Int) < (ps.length : Int)) = false := by simp
          obtain rfl : R = true := by
            rw [HR0.out]
            have h := HSM.out
            rwa [List.take_length, ← HLEN.out, List.take_length] at h
          go_wp2_with fail
          go_ret
          exact ⟨rfl, HBw.out⟩
end Go.Proofs.YtllgodaphoncnaaGreatDoor
