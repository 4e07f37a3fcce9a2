/- DiskKeeps: what was flushed is there behind a crash, whatever was picked of what came behind on other sectors: the walk. -/
import Derived.Test.YtammnjfccjfbhaaDAllLaw
namespace Go.Proofs.Ytammnjfccjfbhaa
open Go.RowKit

/-- which sectors were written -/
def touchL (ps : List (UInt8 × UInt8)) (i : Nat) : List Bool := (ps.take i).foldl (fun L p => L.set (p.1.toNat % 20) true) (List.replicate 20 false)
theorem touchL_succ (ps : List (UInt8 × UInt8)) (i : Nat) (h : i < ps.length) : touchL ps (i + 1) = (touchL ps i).set (ps[i].1.toNat % 20) true := by
  unfold touchL
  rw [List.take_succ_eq_append_getElem h, List.foldl_append]
  rfl
theorem length_touchL (ps : List (UInt8 × UInt8)) (i : Nat) : (touchL ps i).length = 20 := by
  unfold touchL
  generalize ps.take i = l
  have : ∀ (l : List (UInt8 × UInt8)) (L : List Bool), (l.foldl (fun L p => L.set (p.1.toNat % 20) true) L).length = L.length := by
    intro l
    induction l with
    | nil => intro L; rfl
    | cons p l ih => intro L; rw [List.foldl_cons, ih]; simp
  rw [this]; simp
/-- what the second loop keeps of the disk: L lay there, T were written since -/
structure KeepSt (L : List UInt8) (T : List Bool) (i N : Nat) (v : Value) (s : DSt) : Prop where
  len : s.S.length = 20
  ws : s.ws.length = i
  gone : s.gone = false
  fuse : s.fuse = 0
  at' : ∀ r ∈ s.ws, T[r.place]? = some true
  keep : ∀ p : Nat, T[p]? = some false → s.S[p]? = (L[p]?).map sec64
  n2 : v.ownBlock ≠ some (N + 2)
  n3 : v.ownBlock ≠ some (N + 3)
theorem KeepSt.wrote {L : List UInt8} {T : List Bool} {i N : Nat} {v v' : Value} {s : DSt} {M : Nat} (h : KeepSt L T i N v s) (hT : T.length = 20) (p : Nat) (hp : p < 20) (b : List UInt8)
    (hv : ∀ k, v'.ownBlock = some k → v.ownBlock = some k ∨ M ≤ k) (hM : N + 3 < M) : KeepSt L (T.set p true) (i + 1) N v' (s.wrote p b) := by
  obtain ⟨e1, e2⟩ := wrote_S s p b
  have e3 : (s.wrote p b).gone = s.gone ∧ (s.wrote p b).fuse = s.fuse := by
    unfold DSt.wrote DSt.burnt
    rw [if_neg (by show ¬ 0 < s.fuse; rw [h.fuse]; omega)]
    exact ⟨rfl, rfl⟩
  refine ⟨by rw [e1, List.length_set, h.len], by rw [e2, List.length_append, h.ws]; rfl, e3.1.trans h.gone, e3.2.trans h.fuse, fun r hr => ?_, fun q hq => ?_, fun e => ?_, fun e => ?_⟩
  · rw [e2] at hr
    rcases List.mem_append.1 hr with hr | hr
    · have := h.at' r hr
      by_cases hq : p = r.place
      · rw [← hq, List.getElem?_set_self (by omega)]
      · rw [List.getElem?_set_ne hq, this]
    · rw [List.mem_singleton.1 hr]
      show (T.set p true)[p]? = _
      rw [List.getElem?_set_self (by omega)]
  · have hne : p ≠ q := fun e => by
      subst e
      rw [List.getElem?_set_self (by omega)] at hq
      cases hq
    rw [List.getElem?_set_ne hne] at hq
    rw [e1, List.getElem?_set_ne hne, h.keep q hq]
  · rcases hv _ e with e | e
    · exact h.n2 e
    · omega
  · rcases hv _ e with e | e
    · exact h.n3 e
    · omega
structure FirstRel (w1 : World) (ps : List (UInt8 × UInt8)) (i : Nat) (wr : World) : Prop where
  here : ∃ v s, DAt wr w1.heap.size (w1.heap.size + 1) w1.heap.size v s ∧ AllSt ps i w1.heap.size v s
  want : wr.heap[w1.heap.size + 2]? = some (.cells ((lastL ps i).map B).toArray 50 (0, 0))
  touch : wr.heap[w1.heap.size + 3]? = some (.cells ((List.replicate 20 false).map Value.bool).toArray 51 (0, 0))
  below : Below w1.heap.size w1 wr
structure BehindRel (w1 : World) (L : List UInt8) (ps : List (UInt8 × UInt8)) (i : Nat) (wr : World) : Prop where
  here : ∃ v s, DAt wr w1.heap.size (w1.heap.size + 1) w1.heap.size v s ∧ KeepSt L (touchL ps i) i w1.heap.size v s
  want : wr.heap[w1.heap.size + 2]? = some (.cells (L.map B).toArray 50 (0, 0))
  touch : wr.heap[w1.heap.size + 3]? = some (.cells ((touchL ps i).map Value.bool).toArray 51 (0, 0))
  below : Below w1.heap.size w1 wr

set_option maxRecDepth 100000 in
set_option maxHeartbeats 1000000 in
theorem keeps_big (w : World) (a1 a2 a3 : Option Addr) (n1 n2 n3 c1 c2 c3 : Nat) (hb : 40 < n1 ∨ 40 < n2 ∨ 100 < n3) (m1 : n1 ≤ maxLen) (m2 : n2 ≤ maxLen) (m3 : n3 ≤ maxLen) :
    Calls Try.prog 4 #[.slice a1 n1 c1, .slice a2 n2 c2, .slice a3 n3 c3] w fun e w' => e = .returned (.bool true) ∧ Below w.heap.size w w' := by
  unfold maxLen at m1 m2 m3
  have fin : ∀ (x1 x2 x3 : Bool), decide ((40 : Int) < (n1 : Int)) = x1 → decide ((40 : Int) < (n2 : Int)) = x2 → decide ((100 : Int) < (n3 : Int)) = x3 → decide (40 < n1) = x1 → decide (40 < n2) = x2 → decide (100 < n3) = x3 → (x1 || x2 || x3) = true →
      Calls Try.prog 4 #[.slice a1 n1 c1, .slice a2 n2 c2, .slice a3 n3 c3] w fun e w' => e = .returned (.bool true) ∧ Below w.heap.size w w' := by
    intro x1 x2 x3 e1 e2 e3 f1 f2 f3 hx
    clear hb
    cases x1 <;> cases x2 <;> cases x3 <;> (try (cases hx; done)) <;>
    · clear hx
      go_enter Try.func4, Try.ntmps4
      go_wp2_with fail
      refine (awake_any w).mono ?_
      rintro e w1 ⟨rfl, hb1⟩
      have Hb1 := Lib.hid hb1
      clear hb1
      go_wp2_with fail
      refine (awake_any w1).mono ?_
      rintro e w2 ⟨rfl, hb2⟩
      have Hb2 := Lib.hid (Hb1.out.trans (hb2.mono Hb1.out.size))
      clear hb2
      go_wp2_with fail
      go_ret
      exact ⟨rfl, Hb2.out⟩
  refine fin _ _ _ rfl rfl rfl (by rw [decide_eq_decide]; omega) (by rw [decide_eq_decide]; omega) (by rw [decide_eq_decide]; omega) ?_
  simp
  omega
theorem zero20b : ∀ w, (zeroValue 51).run Try.prog w = .ok (.agg ((List.replicate 20 false).map Value.bool).toArray) w := fun _ => by kernel_rfl
/-- a block that lies beside the disk -/
theorem beside {N : Nat} {v : Value} {j : Nat} (h : v.ownBlock ≠ some (N + j)) (hj : 2 ≤ j) : ¬ foot (N + 1) N v (N + j) := fun e => by
  rcases e with e | e | e
  · omega
  · omega
  · exact h e

set_option maxRecDepth 100000 in
set_option maxHeartbeats 8000000 in
theorem keeps_small (w : World) (a1 a2 a3 : Option Addr) (g1 o1 g2 o2 g3 o3 c1 c2 c3 : Nat) (ps qs : List (UInt8 × UInt8)) (bs : List Bool) (h1 : Pairs w a1 g1 o1 ps) (h2 : Pairs w a2 g2 o2 qs)
    (h3 : bs ≠ [] → a3 = some ⟨g3, o3, none⟩) (h4 : ∀ i, (h : i < bs.length) → w.cell? ⟨g3, o3 + i, none⟩ = some (.bool bs[i])) (l1 : ps.length ≤ 40) (l2 : qs.length ≤ 40) (l3 : bs.length ≤ 100) :
    Calls Try.prog 4 #[.slice a1 ps.length c1, .slice a2 qs.length c2, .slice a3 bs.length c3] w fun e w' => e = .returned (.bool true) ∧ Below w.heap.size w w' := by
  have d1 : decide ((40 : Int) < (ps.length : Int)) = false := by simp; omega
  have d1' : decide (40 < ps.length) = false := by simp; omega
  have d2 : decide ((40 : Int) < (qs.length : Int)) = false := by simp; omega
  have d2' : decide (40 < qs.length) = false := by simp; omega
  have d3 : decide ((100 : Int) < (bs.length : Int)) = false := by simp; omega
  have d3' : decide (100 < bs.length) = false := by simp; omega
  have HP := Lib.hid h1
  have HQ := Lib.hid h2
  have H3 := Lib.hid h3
  have H4 := Lib.hid h4
  clear h1 h2 h3 h4
  go_enter Try.func4, Try.ntmps4
  go_wp2_with fail
  refine (awake_any w).mono ?_
  rintro e w1 ⟨rfl, hb1⟩
  have Hb1 := Lib.hid hb1
  have HP1 := Lib.hid (HP.out.below hb1 (fun h => HP.out.lt h))
  have HQ1 := Lib.hid (HQ.out.below hb1 (fun h => HQ.out.lt h))
  have Hg1 : Hid (ps ≠ [] → g1 < w1.heap.size) := Lib.hid fun h => Nat.lt_of_lt_of_le (HP.out.lt h) hb1.size
  have Hg2 : Hid (qs ≠ [] → g2 < w1.heap.size) := Lib.hid fun h => Nat.lt_of_lt_of_le (HQ.out.lt h) hb1.size
  have Hg3 : Hid (bs ≠ [] → g3 < w1.heap.size) := Lib.hid fun h => Nat.lt_of_lt_of_le (block_lt_of_cell (H4.out 0 (List.length_pos_iff.2 h))) hb1.size
  have H41 : Hid (∀ i, (h : i < bs.length) → w1.cell? ⟨g3, o3 + i, none⟩ = some (.bool bs[i])) := Lib.hid fun i hi => by rw [hb1.cell (by exact block_lt_of_cell (H4.out i hi))]; exact H4.out i hi
  clear hb1
  go_wp2_with fail
  refine (new_any w1 20).mono ?_
  rintro e w2 ⟨rfl, D2, b2, z2⟩
  rw [show secN 20 = 20 from rfl] at D2
  have hz20 := zero20
  have hz20b := zero20b
  obtain ⟨Z, hZ⟩ : ∃ Z, z20.map B = Z := ⟨_, rfl⟩
  rw [hZ] at hz20
  obtain ⟨Zb, hZb⟩ : ∃ Z, (List.replicate 20 false).map Value.bool = Z := ⟨_, rfl⟩
  rw [hZb] at hz20b
  have hA : Below w2.heap.size w2 ((w2.alloc (.cells Z.toArray 50)).alloc (.cells Zb.toArray 51)) := ((Below.refl _ _).alloc (Nat.le_refl _) _).alloc (by simp) _
  obtain ⟨x1, x2⟩ := heap2 w2 (.cells Z.toArray 50) (.cells Zb.toArray 51)
  have R0 : FirstRel w1 ps 0 ((w2.alloc (.cells Z.toArray 50)).alloc (.cells Zb.toArray 51)) := by
    refine ⟨⟨_, _, D2.below hA, ⟨by rw [new_map]; rfl, rfl, rfl, rfl, (Hist.none (DSt.new 20) rfl : Hist (DSt.new 20).S (DSt.new 20)), (fun e => by cases e), (fun e => by cases e)⟩⟩, ?_, ?_, b2.trans (hA.mono b2.size)⟩
    · rw [← z2, x1, ← hZ]
      rfl
    · rw [show w1.heap.size + 3 = w2.heap.size + 1 by omega, x2, hZb]
  have HR0 := Lib.hid R0
  clear D2 b2 hA x1 x2 R0 hZ hZb
  go_wp2_with fail
  generalize World.alloc _ _ = w3 at *
  rw [show w1.heap.size + 2 + 1 = w1.heap.size + 3 from rfl]
  clear z2 hz20 hz20b
  go_loopw [10] (fun i wr => ∃ k : Nat, k ≤ ps.length ∧ i = .int .i64 k ∧ FirstRel w1 ps k wr) (fun i _ => ps.length - (intOf i).toNat)
  case atStart => exact ⟨0, by omega, rfl, HR0.out⟩
  case round =>
    obtain ⟨k, hk, rfl, hr⟩ := hrel
    by_cases hlt : k < ps.length
    · obtain ⟨v, s, hD, hS⟩ := hr.here
      have hne : ps ≠ [] := by intro e; rw [e] at hlt; cases hlt
      obtain rfl := HP1.out.addr hne
      have hgl := Hg1.out hne
      have hd1 : decide ((k : Int) < (ps.length : Int)) = true := by simp; omega
      have hd2 : decide (k < ps.length) = true := by simp; omega
      have hlast := lastL_succ ps k hlt
      have q0 := HP1.out.c0 k hlt
      have q1 := HP1.out.c1 k hlt
      generalize ps[k] = pr at *
      obtain ⟨a, b⟩ := pr
      dsimp only at q0 q1 hlast
      have Q00 := Lib.hid q0
      have Q11 := Lib.hid q1
      clear q0 q1
      have q0 : wr.cell? ⟨g1, o1 + k * 2, none⟩ = some (.int .u8 (a.toNat : Int)) := by rw [hr.below.cell (by exact hgl)]; exact Q00.out
      have q1 : wr.cell? ⟨g1, o1 + k * 2 + 1, none⟩ = some (.int .u8 (b.toNat : Int)) := by rw [hr.below.cell (by exact hgl)]; exact Q11.out
      have a255 := a.toNat_lt
      obtain ⟨p, hp20⟩ : ∃ p : Nat, p = a.toNat % 20 := ⟨_, rfl⟩
      have hpi : (a.toNat : Int) % 20 = (p : Int) := by omega
      have hpl : p < 20 := by omega
      have Hlast := Lib.hid hlast
      have HS := Lib.hid hS
      have HD := Lib.hid hD
      have Hr := Lib.hid hr
      have Hp20 := Lib.hid hp20
      have hSl : s.S.length = 20 := by rw [hS.S, List.length_map, length_lastL]
      have HSl := Lib.hid hSl
      have SEC := Lib.hid (sector_any wr b)
      clear hlast hS hD hr hp20 hSl HR0
      go_wp2_with fail
      refine SEC.out.mono ?_
      rintro e w4 ⟨rfl, b4, hx, -⟩
      have HD4 := Lib.hid (HD.out.below b4)
      have HB4 := Lib.hid b4
      have WR := Lib.hid (write_any w4 _ _ _ _ _ HD4.out HS.out.gone p (by rw [HSl.out]; exact hpl) (sec64 b) (length_sec64 b) wr.heap.size 0 64 (range_block0 hx) (lt_block hx) (by rw [HS.out.ws]; omega) (by rw [HS.out.fuse]; omega))
      clear b4 hx SEC q0 q1
      go_wp2_with fail
      refine WR.out.mono ?_
      rintro e w5 ⟨rfl, v', hw⟩
      have hS' := HS.out.wrote p (by rw [HSl.out]; exact hpl) b (by rw [← Hp20.out] at Hlast; exact Hlast.out) hw.own (by have := lt_block Hr.out.touch; have := HB4.out.size; omega)
      have want5 := hw.kept.heap ((HB4.out.block _ (lt_block Hr.out.want)).trans Hr.out.want) (beside HS.out.n2 (by omega))
      have touch5 := hw.kept.heap ((HB4.out.block _ (lt_block Hr.out.touch)).trans Hr.out.touch) (beside HS.out.n3 (by omega))
      have bel5 := hw.below HD4.out (Hr.out.below.trans (HB4.out.mono Hr.out.below.size)) (Nat.le_refl _)
      have q1 : w5.cell? ⟨g1, o1 + k * 2 + 1, none⟩ = some (.int .u8 (b.toNat : Int)) := by rw [bel5.cell (by exact hgl)]; exact Q11.out
      obtain ⟨x2, c2⟩ : ∃ x, w5.cell? ⟨w1.heap.size + 2, p, none⟩ = some x := ⟨_, by rw [cell_block want5, List.getElem?_toArray]; exact List.getElem?_eq_getElem (by rw [List.length_map, length_lastL]; exact hpl)⟩
      have f2 := frozen_of_row w5 (w1.heap.size + 2) p _ _ want5
      have hk7 : Kept1 (w1.heap.size + 2) w5 (w5.setCell ⟨w1.heap.size + 2, p, none⟩ (.int .u8 (b.toNat : Int))) := (Kept1.refl _ w5).setCell ⟨w1.heap.size + 2, p, none⟩ (.inl rfl) _
      have want7 := heap_set want5 p (B b)
      rw [← List.map_set, show (lastL ps k).set p b = lastL ps (k + 1) by rw [Hp20.out]; exact Hlast.out.symm] at want7
      have R7 : Hid (FirstRel w1 ps (k + 1) (w5.setCell ⟨w1.heap.size + 2, p, none⟩ (.int .u8 (b.toNat : Int)))) := Lib.hid ⟨⟨_, _, hw.at'.same fun j hj => hk7.block j (hw.at'.footN hj).2 (fun e => beside hS'.n2 (by omega) (e ▸ hj)), hS'⟩, want7, (hk7.block _ (lt_block touch5) (by omega)).trans touch5, Kept1.mono bel5 hk7 (by omega)⟩
      clear hw hS' want5 touch5 bel5 hk7 want7 WR
      go_wp2_with fail
      go_roundw
      case rel => exact ⟨k + 1, by omega, by go_num, R7.out⟩
      case measure => simp [intOf]; omega
    · obtain rfl : k = ps.length := by omega
      obtain ⟨v, s, hD, hS⟩ := hr.here
      have hd1 : decide ((ps.length : Int) < (ps.length : Int)) = false := by simp
      have FL := Lib.hid (flush_any wr _ _ _ _ _ hD hS.gone)
      have HS := Lib.hid hS
      have Hr := Lib.hid hr
      clear hD hS hr HR0
      go_wp2_with fail
      refine FL.out.mono ?_
      rintro e w4 ⟨rfl, D4, K4⟩
      have R4 : BehindRel w1 (lastL ps ps.length) qs 0 w4 := by
        refine ⟨⟨_, _, D4, ⟨by show s.S.length = 20; rw [HS.out.S, List.length_map, length_lastL], rfl, HS.out.gone, HS.out.fuse, (fun r hr => by cases hr), fun p _ => ?_, (fun e => by cases e), (fun e => by cases e)⟩⟩,
          (K4.block _ (lt_block Hr.out.want) (by omega)).trans Hr.out.want, (K4.block _ (lt_block Hr.out.touch) (by omega)).trans Hr.out.touch, Kept1.mono Hr.out.below K4 (by omega)⟩
        show s.S[p]? = _
        rw [HS.out.S, List.getElem?_map]
      have HR4 := Lib.hid R4
      have hLl := length_lastL ps ps.length
      have HLl := Lib.hid hLl
      generalize lastL ps ps.length = L at *
      clear D4 K4 R4 HS Hr FL hLl
      go_wp2_with fail
      go_loopw [12] (fun i wr => ∃ k : Nat, k ≤ qs.length ∧ i = .int .i64 k ∧ BehindRel w1 L qs k wr) (fun i _ => qs.length - (intOf i).toNat)
      case atStart => exact ⟨0, by omega, rfl, HR4.out⟩
      case round =>
        obtain ⟨k, hk, rfl, hr⟩ := hrel
        by_cases hlt2 : k < qs.length
        · obtain ⟨v, s, hD, hS⟩ := hr.here
          have hne : qs ≠ [] := by intro e; rw [e] at hlt2; cases hlt2
          obtain rfl := HQ1.out.addr hne
          have hgl := Hg2.out hne
          have hd1 : decide ((k : Int) < (qs.length : Int)) = true := by simp; omega
          have hd2 : decide (k < qs.length) = true := by simp; omega
          have htch := touchL_succ qs k hlt2
          have q0 := HQ1.out.c0 k hlt2
          have q1 := HQ1.out.c1 k hlt2
          generalize qs[k] = pr at *
          obtain ⟨a, b⟩ := pr
          dsimp only at q0 q1 htch
          have Q00 := Lib.hid q0
          have Q11 := Lib.hid q1
          clear q0 q1
          have q0 : wr.cell? ⟨g2, o2 + k * 2, none⟩ = some (.int .u8 (a.toNat : Int)) := by rw [hr.below.cell (by exact hgl)]; exact Q00.out
          have a255 := a.toNat_lt
          obtain ⟨p, hp20⟩ : ∃ p : Nat, p = a.toNat % 20 := ⟨_, rfl⟩
          have hpi : (a.toNat : Int) % 20 = (p : Int) := by omega
          have hpl : p < 20 := by omega
          rw [← hp20] at htch
          obtain ⟨x3, c3⟩ : ∃ x, wr.cell? ⟨w1.heap.size + 3, p, none⟩ = some x := ⟨_, by rw [cell_block hr.touch, List.getElem?_toArray]; exact List.getElem?_eq_getElem (by rw [List.length_map, length_touchL]; exact hpl)⟩
          have f3 := frozen_of_row wr (w1.heap.size + 3) p _ _ hr.touch
          have hka : Kept1 (w1.heap.size + 3) wr (wr.setCell ⟨w1.heap.size + 3, p, none⟩ (.bool true)) := (Kept1.refl _ wr).setCell ⟨w1.heap.size + 3, p, none⟩ (.inl rfl) _
          have hta := heap_set hr.touch p (.bool true)
          rw [← List.map_set, ← htch] at hta
          have hDa : DAt (wr.setCell ⟨w1.heap.size + 3, p, none⟩ (.bool true)) w1.heap.size (w1.heap.size + 1) w1.heap.size v s := hD.same fun j hj => hka.block j (hD.footN hj).2 (fun e => beside hS.n3 (by omega) (e ▸ hj))
          have hwa := (hka.block _ (lt_block hr.want) (by omega)).trans hr.want
          have hba := Kept1.mono hr.below hka (by omega)
          have q0a : (wr.setCell ⟨w1.heap.size + 3, p, none⟩ (.bool true)).cell? ⟨g2, o2 + k * 2, none⟩ = some (B a) := by rw [hba.cell (by exact hgl)]; exact Q00.out
          have q1a : (wr.setCell ⟨w1.heap.size + 3, p, none⟩ (.bool true)).cell? ⟨g2, o2 + k * 2 + 1, none⟩ = some (B b) := by rw [hba.cell (by exact hgl)]; exact Q11.out
          have Htch := Lib.hid htch
          have HS := Lib.hid hS
          have HDa := Lib.hid hDa
          have Hwa := Lib.hid hwa
          have Hta := Lib.hid hta
          have Hba := Lib.hid hba
          have Q0 := Lib.hid q0a
          have Q1 := Lib.hid q1a
          clear htch hS hDa hwa hta hba hr hD hka q0a q1a HR4 hp20
          go_wp2_with fail
          generalize World.setCell _ _ _ = wa at *
          clear q0 c3 f3
          have q0 : wa.cell? ⟨g2, o2 + k * 2, none⟩ = some (.int .u8 (a.toNat : Int)) := Q0.out
          have q1 : wa.cell? ⟨g2, o2 + k * 2 + 1, none⟩ = some (.int .u8 (b.toNat : Int)) := Q1.out
          have SEC : Hid (∀ W, Calls Try.prog 22 #[.int .u8 (b.toNat : Int)] W fun e w' => e = .returned (.slice (some ⟨W.heap.size, 0, none⟩) 64 64) ∧ Below W.heap.size W w' ∧
            w'.heap[W.heap.size]? = some (.cells ((sec64 b).map B).toArray 5 (0, 0)) ∧ w'.heap.size = W.heap.size + 1) := Lib.hid fun W => sector_any W b
          have hglt : g2 < wa.heap.size := Nat.lt_of_lt_of_le hgl Hba.out.size
          have C0 : Hid (∀ W4, Below wa.heap.size wa.drew W4 → W4.cell? ⟨g2, o2 + k * 2, none⟩ = some (.int .u8 (a.toNat : Int))) := Lib.hid fun W4 h4 => by rw [h4.cell (by exact hglt)]; exact Q0.out
          have WR : Hid (∀ W4, Below wa.heap.size wa.drew W4 → W4.heap[wa.heap.size]? = some (.cells ((sec64 b).map B).toArray 5 (0, 0)) →
              Calls Try.prog 12 #[.pointer (some ⟨w1.heap.size + 1, 0, none⟩), .int .i64 (p : Int), .slice (some ⟨wa.heap.size, 0, none⟩) 64 64] W4 fun e w' => e = .returned (.int .i64 0) ∧ ∃ v', Wrote W4 w1.heap.size (w1.heap.size + 1) w1.heap.size v (s.wrote p (sec64 b)) v' w') := Lib.hid fun W4 h4 hx =>
            write_any W4 _ _ _ _ _ (HDa.out.below (Below.trans (Below.refl wa.heap.size wa).drew h4)) HS.out.gone p (by rw [HS.out.len]; exact hpl) (sec64 b) (length_sec64 b) wa.heap.size 0 64 (range_block0 hx) (lt_block hx) (by rw [HS.out.ws]; omega) (by rw [HS.out.fuse]; omega)
          apply join (C := fun v' w5 => Hid (∃ W4, Below wa.heap.size wa W4 ∧ Wrote W4 w1.heap.size (w1.heap.size + 1) w1.heap.size v (s.wrote p (sec64 b)) v' w5))
          case main =>
            intro key
            have HKEY := Lib.hid key
            clear key
            have htm : ((a.toNat : Nat) : Int).tmod 20 = (p : Int) := by rw [Int.tmod_eq_emod_of_nonneg (by omega)]; exact hpi
            have hwp : IntKind.i64.wrap (p : Int) = (p : Int) := IntWalk.i64_in _ (by omega)
            refine wp_region_any (by kernel_rfl) ?_
            change wpAny _ _ _ _ _ _ _ (World.drew _)
            refine wpAny_take (i := 0) (v := ?_) rfl (by kernel_rfl) (by kernel_rfl) (by kernel_rfl) (fun _ _ _ h => h) (Or.inl ⟨by rfl, ?_⟩) ?_
            rotate_left 1
            · intro w; go_simp; try with_reducible rfl
            refine wpAny_take (i := 1) (v := ?_) rfl (by kernel_rfl) (by kernel_rfl) (by kernel_rfl) (fun _ _ _ h => h) (Or.inl ⟨by rfl, ?_⟩) ?_
            rotate_left 1
            · intro w; go_simp; try with_reducible rfl
            refine wpAny_take (i := 2) (v := ?_) rfl (by kernel_rfl) (by kernel_rfl) (by kernel_rfl) (fun _ _ _ h => h) (Or.inl ⟨by rfl, ?_⟩) ?_
            rotate_left 1
            · intro w; go_simp; try with_reducible rfl
            refine wpAny_take (i := 3) (v := ?_) rfl (by kernel_rfl) (by kernel_rfl) (by kernel_rfl) (fun _ _ _ h => h) (Or.inl ⟨by rfl, ?_⟩) ?_
            rotate_left 1
            · intro w; go_simp; try with_reducible rfl
            refine wpAny_take (i := 4) (v := ?_) rfl (by kernel_rfl) (by kernel_rfl) (by kernel_rfl) (fun _ _ _ h => h) (Or.inl ⟨by rfl, ?_⟩) ?_
            rotate_left 1
            · intro w; go_simp; try with_reducible rfl
            refine wpAny_take (i := 8) (v := ?_) rfl (by kernel_rfl) (by kernel_rfl) (by kernel_rfl) (fun _ _ _ h => h) (Or.inl ⟨by rfl, ?_⟩) ?_
            rotate_left 1
            · intro w; go_simp; try with_reducible rfl
            refine wpAny_take (i := 9) (v := ?_) rfl (by kernel_rfl) (by kernel_rfl) (by kernel_rfl) (fun _ _ _ h => h) (Or.inl ⟨by rfl, ?_⟩) ?_
            rotate_left 1
            · intro w; go_simp; try with_reducible rfl
            refine wpAny_take (i := 10) (v := ?_) rfl (by kernel_rfl) (by kernel_rfl) (by kernel_rfl) (fun _ _ _ h => h) (Or.inl ⟨by rfl, ?_⟩) ?_
            rotate_left 1
            · intro w; go_simp; try with_reducible rfl
            refine wpAny_take (i := 11) (v := ?_) rfl (by kernel_rfl) (by kernel_rfl) (by kernel_rfl) (fun _ _ _ h => h) (Or.inl ⟨by rfl, ?_⟩) ?_
            rotate_left 1
            · intro w; go_simp; try with_reducible rfl
            refine wpAny_ready (rs := [5, 12]) (by kernel_rfl) (by simp) ?_
            refine AllReady.cons rfl (fun K hK => ?_) ?_
            · go_simp
              refine hK _ _ ?_; clear hK K
              refine wpAny_take (i := 6) (v := ?_) rfl (by kernel_rfl) (by kernel_rfl) (by kernel_rfl) (fun _ _ _ h => h) (Or.inl ⟨by rfl, ?_⟩) ?_
              rotate_left 1
              · intro w; go_simp; try with_reducible rfl
              refine wpAny_take (i := 7) (v := ?_) rfl (by kernel_rfl) (by kernel_rfl) (by kernel_rfl) (fun _ _ _ h => h) (Or.inl ⟨by rfl, ?_⟩) ?_
              rotate_left 1
              · intro w; go_simp; try with_reducible rfl
              refine wpAny_ready (rs := [12]) (by kernel_rfl) (by simp) ?_
              refine AllReady.cons rfl (fun K hK => ?_) ?_
              · go_simp
                refine hK _ _ ?_; clear hK K
                refine wpAny_ready (rs := [13]) (by kernel_rfl) (by simp) ?_
                refine AllReady.cons rfl (fun K hK => ?_) ?_
                · go_simp
                  go_wp2_with (go_at_call 22; refine (SEC.out _).mono ?_; rintro e w4 ⟨rfl, b4, hx, z4⟩; have HB4 := Lib.hid b4; have HX4 := Lib.hid hx; have p0 := C0.out _ b4; clear b4 hx z4)
                  refine wpAny_ready (rs := [14]) (by kernel_rfl) (by simp) ?_
                  refine AllReady.cons rfl (fun K hK => ?_) ?_
                  · go_simp
                    go_wp2_with (go_at_call 12; refine (WR.out _ HB4.out HX4.out).mono ?_; rintro e w5 ⟨rfl, v', hw⟩; have HW5 := Lib.hid hw; clear hw)
                    refine wpAny_done (by kernel_rfl) ?_ _
                    exact HKEY.out v' w5 (Lib.hid ⟨w4, Below.trans (Below.refl wa.heap.size wa).drew HB4.out, HW5.out⟩)
                  exact AllReady.nil
                exact AllReady.nil
              exact AllReady.nil
            refine AllReady.cons rfl (fun K hK => ?_) ?_
            · go_simp
              refine hK _ _ ?_; clear hK K
              refine wpAny_ready (rs := [5, 13]) (by kernel_rfl) (by simp) ?_
              refine AllReady.cons rfl (fun K hK => ?_) ?_
              · go_simp
                refine hK _ _ ?_; clear hK K
                refine wpAny_take (i := 6) (v := ?_) rfl (by kernel_rfl) (by kernel_rfl) (by kernel_rfl) (fun _ _ _ h => h) (Or.inl ⟨by rfl, ?_⟩) ?_
                rotate_left 1
                · intro w; go_simp; try with_reducible rfl
                refine wpAny_take (i := 7) (v := ?_) rfl (by kernel_rfl) (by kernel_rfl) (by kernel_rfl) (fun _ _ _ h => h) (Or.inl ⟨by rfl, ?_⟩) ?_
                rotate_left 1
                · intro w; go_simp; try with_reducible rfl
                refine wpAny_ready (rs := [13]) (by kernel_rfl) (by simp) ?_
                refine AllReady.cons rfl (fun K hK => ?_) ?_
                · go_simp
                  go_wp2_with (go_at_call 22; refine (SEC.out _).mono ?_; rintro e w4 ⟨rfl, b4, hx, z4⟩; have HB4 := Lib.hid b4; have HX4 := Lib.hid hx; have p0 := C0.out _ b4; clear b4 hx z4)
                  refine wpAny_ready (rs := [14]) (by kernel_rfl) (by simp) ?_
                  refine AllReady.cons rfl (fun K hK => ?_) ?_
                  · go_simp
                    go_wp2_with (go_at_call 12; refine (WR.out _ HB4.out HX4.out).mono ?_; rintro e w5 ⟨rfl, v', hw⟩; have HW5 := Lib.hid hw; clear hw)
                    refine wpAny_done (by kernel_rfl) ?_ _
                    exact HKEY.out v' w5 (Lib.hid ⟨w4, Below.trans (Below.refl wa.heap.size wa).drew HB4.out, HW5.out⟩)
                  exact AllReady.nil
                exact AllReady.nil
              refine AllReady.cons rfl (fun K hK => ?_) ?_
              · go_simp
                go_wp2_with (go_at_call 22; refine (SEC.out _).mono ?_; rintro e w4 ⟨rfl, b4, hx, z4⟩; have HB4 := Lib.hid b4; have HX4 := Lib.hid hx; have p0 := C0.out _ b4; clear b4 hx z4)
                refine wpAny_ready (rs := [5]) (by kernel_rfl) (by simp) ?_
                refine AllReady.cons rfl (fun K hK => ?_) ?_
                · go_simp
                  refine hK _ _ ?_; clear hK K
                  refine wpAny_ready (rs := [6]) (by kernel_rfl) (by simp) ?_
                  refine AllReady.cons rfl (fun K hK => ?_) ?_
                  · go_simp
                    refine hK _ _ ?_; clear hK K
                    refine wpAny_ready (rs := [7]) (by kernel_rfl) (by simp) ?_
                    refine AllReady.cons rfl (fun K hK => ?_) ?_
                    · go_simp
                      refine hK _ _ ?_; clear hK K
                      refine wpAny_ready (rs := [14]) (by kernel_rfl) (by simp) ?_
                      refine AllReady.cons rfl (fun K hK => ?_) ?_
                      · go_simp
                        go_wp2_with (go_at_call 12; refine (WR.out _ HB4.out HX4.out).mono ?_; rintro e w5 ⟨rfl, v', hw⟩; have HW5 := Lib.hid hw; clear hw)
                        refine wpAny_done (by kernel_rfl) ?_ _
                        exact HKEY.out v' w5 (Lib.hid ⟨w4, Below.trans (Below.refl wa.heap.size wa).drew HB4.out, HW5.out⟩)
                      exact AllReady.nil
                    exact AllReady.nil
                  exact AllReady.nil
                exact AllReady.nil
              exact AllReady.nil
            exact AllReady.nil
          case rest =>
            intro v' w5 hC
            obtain ⟨W4, b4, hw⟩ := hC.out
            have hS' := HS.out.wrote (length_touchL _ _) p hpl (sec64 b) hw.own (by have := lt_block Hta.out; have := b4.size; omega)
            rw [← Htch.out] at hS'
            have R7 : Hid (BehindRel w1 L qs (k + 1) w5) := Lib.hid ⟨⟨_, _, hw.at', hS'⟩, hw.kept.heap ((b4.block _ (lt_block Hwa.out)).trans Hwa.out) (beside HS.out.n2 (by omega)), hw.kept.heap ((b4.block _ (lt_block Hta.out)).trans Hta.out) (beside HS.out.n3 (by omega)),
              hw.below (HDa.out.below b4) (Hba.out.trans (b4.mono Hba.out.size)) (Nat.le_refl _)⟩
            clear hC b4 hw hS' SEC WR C0 q0 q1 Q0 Q1 HDa Hwa Hta Hba
            go_wp2_with fail
            go_roundw
            case rel => exact ⟨k + 1, by omega, by go_num, R7.out⟩
            case measure => simp [intOf]; omega
        · obtain rfl : k = qs.length := by omega
          obtain ⟨v, s, hD, hS⟩ := hr.here
          have hd1 : decide ((qs.length : Int) < (qs.length : Int)) = false := by simp
          have CR := Lib.hid (crash_any wr _ _ _ _ _ hD (by rw [hS.ws]; omega) a3 g3 o3 c3 bs (by omega) H3.out
            (fun j hj => by rw [hr.below.cell (by exact Hg3.out (by intro e; rw [e] at hj; cases hj))]; exact H41.out j hj)
            (fun hn e => by have := (hD.footN e).1; have := Hg3.out hn; omega))
          have hcS : (s.crash bs).S.length = 20 ∧ ∀ p : Nat, (touchL qs qs.length)[p]? = some false → (s.crash bs).S[p]? = (L[p]?).map sec64 := by
            refine ⟨(crash_len s bs).trans hS.len, fun p hp => ?_⟩
            rw [crash_get s bs p (fun r hr e => ?_), hS.keep p hp]
            have := hS.at' r hr
            rw [e, hp] at this
            cases this
          have HcS := Lib.hid hcS
          have HS := Lib.hid hS
          have Hr := Lib.hid hr
          have HD := Lib.hid hD
          clear hD hS hr HR4 hcS
          go_wp2_with fail
          refine CR.out.mono ?_
          rintro e w6 ⟨rfl, D6, K6⟩
          have want6 := K6.heap Hr.out.want (beside HS.out.n2 (by omega))
          have touch6 := K6.heap Hr.out.touch (beside HS.out.n3 (by omega))
          have bel6 := KeptF.mono Hr.out.below K6 (Nat.le_refl _) fun _ hF => (HD.out.footN hF).1
          have h0 : ∃ s', DAt w6 w1.heap.size (w1.heap.size + 1) w1.heap.size (.slice none 0 0) s' ∧ (s'.S.length = 20 ∧ ∀ p : Nat, (touchL qs qs.length)[p]? = some false → s'.S[p]? = (L[p]?).map sec64) ∧ s'.gone = false ∧ s'.ws = [] := ⟨_, D6, HcS.out, rfl, rfl⟩
          obtain ⟨s', D6', hs', hg', hw'⟩ := h0
          have HD6 := Lib.hid D6'
          have Hs' := Lib.hid hs'
          have Hg' := Lib.hid hg'
          have Hw' := Lib.hid hw'
          have HW6 := Lib.hid want6
          have HT6 := Lib.hid touch6
          have HB6 := Lib.hid bel6
          have hTl := length_touchL qs qs.length
          have HTl := Lib.hid hTl
          clear HcS HS Hr
          generalize touchL qs qs.length = T at *
          clear D6 K6 want6 touch6 bel6 D6' hs' hg' hw' CR hTl
          go_wp2_with fail
          go_loopw [13] (fun i wr => ∃ j : Nat, j ≤ 20 ∧ i = .int .i64 j ∧ Below w6.heap.size w6 wr) (fun i _ => 20 - (intOf i).toNat)
          case atStart => exact ⟨0, by omega, rfl, Below.refl _ _⟩
          case round =>
            obtain ⟨j, hj, rfl, hb7⟩ := hrel
            by_cases hlt3 : j < 20
            · have hd2 : decide ((j : Int) < 20) = true := by simp; omega
              have hd3 : decide (j < 20) = true := by simp; omega
              obtain ⟨c, hc⟩ : ∃ c, L[j]? = some c := ⟨_, List.getElem?_eq_getElem (by rw [HLl.out]; exact hlt3)⟩
              obtain ⟨t, ht⟩ : ∃ t, T[j]? = some t := ⟨_, List.getElem?_eq_getElem (by rw [HTl.out]; exact hlt3)⟩
              obtain ⟨y, hy⟩ : ∃ y, s'.S[j]? = some y := ⟨_, List.getElem?_eq_getElem (by rw [Hs'.out.1]; exact hlt3)⟩
              have hyl : y.length = 64 := HD6.out.ok.len y (List.mem_of_getElem? hy)
              have hyc : t = false → y = sec64 c := fun e => by
                rw [e] at ht
                have := Hs'.out.2 j ht
                rw [hy, hc] at this
                exact Option.some.inj this
              have RD := Lib.hid (read_any wr _ _ _ _ _ (HD6.out.below hb7) Hg'.out j (by rw [Hs'.out.1]; exact hlt3) y hy)
              have Hb7 := Lib.hid hb7
              have Hc := Lib.hid hc
              have Ht := Lib.hid ht
              have Hyl := Lib.hid hyl
              have Hyc := Lib.hid hyc
              clear hb7 hc ht hy hyl hyc
              go_wp2_with fail
              refine RD.out.mono ?_
              rintro e w8 ⟨rfl, b8, hY, z8⟩
              obtain ⟨y9, hy9⟩ : ∃ y9, y[9]? = some y9 := ⟨_, List.getElem?_eq_getElem (by rw [Hyl.out]; omega)⟩
              have yc : w8.cell? ⟨wr.heap.size, 9, none⟩ = some (.int .u8 (y9.toNat : Int)) := by rw [cell_block hY, List.getElem?_toArray, List.getElem?_map, hy9]; rfl
              have bel8 := Hb7.out.trans (b8.mono Hb7.out.size)
              have cw : w8.cell? ⟨w1.heap.size + 2, j, none⟩ = some (.int .u8 (c.toNat : Int)) := by
                rw [cell_block ((bel8.block _ (lt_block HW6.out)).trans HW6.out), List.getElem?_toArray, List.getElem?_map, Hc.out]; rfl
              have ct : w8.cell? ⟨w1.heap.size + 3, j, none⟩ = some (.bool t) := by
                rw [cell_block ((bel8.block _ (lt_block HT6.out)).trans HT6.out), List.getElem?_toArray, List.getElem?_map, Ht.out]; rfl
              have hy9c : t = false → y9 = c := fun e => by
                have := Hyc.out e
                rw [this] at hy9
                rw [sec64, List.getElem?_replicate, if_pos (by omega)] at hy9
                exact (Option.some.inj hy9).symm
              have Hb8 := Lib.hid bel8
              have Hy9c := Lib.hid hy9c
              clear b8 hY z8 bel8 RD hy9 hy9c
              cases t with
              | true =>
                go_wp2_with fail
                go_quiet (fail)
                go_wp2_with fail
                go_roundw
                case rel => exact ⟨j + 1, by omega, by go_num, below_drewN Hb8.out _⟩
                case measure => simp [intOf]; omega
              | false =>
                rw [Hy9c.out rfl] at yc
                go_wp2_with fail
                go_quiet (fail)
                go_wp2_with fail
                go_roundw
                case rel => exact ⟨j + 1, by omega, by go_num, below_drewN Hb8.out _⟩
                case measure => simp [intOf]; omega
            · have hd2 : decide ((j : Int) < 20) = false := by simp; omega
              have hbE := Hb1.out.trans ((HB6.out.trans (hb7.mono HB6.out.size)).mono Hb1.out.size)
              have HbE := Lib.hid hbE
              have WT := waits_any wr _ _ _ _ _ (HD6.out.below hb7)
              rw [Hw'.out] at WT
              have HWT := Lib.hid WT
              clear hb7 hbE WT
              go_wp2_with fail
              refine HWT.out.mono ?_
              rintro e w9 ⟨rfl, rfl⟩
              go_wp2_with fail
              go_ret
              exact ⟨rfl, HbE.out⟩
theorem keeps_any (w : World) (a1 : Option Addr) (g1 o1 c1 : Nat) (ps : List (UInt8 × UInt8)) (h1 : Pairs w a1 g1 o1 ps) (m1 : ps.length ≤ maxLen) (a2 : Option Addr) (g2 o2 c2 : Nat) (qs : List (UInt8 × UInt8)) (h2 : Pairs w a2 g2 o2 qs) (m2 : qs.length ≤ maxLen)
    (a3 : Option Addr) (g3 o3 c3 : Nat) (bs : List Bool) (h3 : bs ≠ [] → a3 = some ⟨g3, o3, none⟩) (h4 : ∀ i, (h : i < bs.length) → w.cell? ⟨g3, o3 + i, none⟩ = some (.bool bs[i])) (m3 : bs.length ≤ maxLen) :
    Calls Try.prog 4 #[.slice a1 ps.length c1, .slice a2 qs.length c2, .slice a3 bs.length c3] w fun e w' => e = .returned (.bool true) ∧ Below w.heap.size w w' := by
  by_cases h : ps.length ≤ 40 ∧ qs.length ≤ 40 ∧ bs.length ≤ 100
  · exact keeps_small w a1 a2 a3 g1 o1 g2 o2 g3 o3 c1 c2 c3 ps qs bs h1 h2 h3 h4 h.1 h.2.1 h.2.2
  · exact keeps_big w a1 a2 a3 _ _ _ c1 c2 c3 (by omega) m1 m2 m3
end Go.Proofs.Ytammnjfccjfbhaa
