/- DiskAll: with all picked a crash changes nothing; with none picked what wasn't flushed never was: the walk. -/
import Derived.Test.YtammnjfccjfbhaaDHist
import Derived.Test.YtammnjfccjfbhaaDOwnLaw
import Derived.BigQuiet
import Derived.IntWalk
namespace Go.Proofs.Ytammnjfccjfbhaa
open Go.RowKit

/-- what was written last -/
def lastL (ps : List (UInt8 × UInt8)) (i : Nat) : List UInt8 := (ps.take i).foldl (fun L p => L.set (p.1.toNat % 20) p.2) (List.replicate 20 0)
theorem lastL_succ (ps : List (UInt8 × UInt8)) (i : Nat) (h : i < ps.length) : lastL ps (i + 1) = (lastL ps i).set (ps[i].1.toNat % 20) ps[i].2 := by
  unfold lastL
  rw [List.take_succ_eq_append_getElem h, List.foldl_append]
  rfl
theorem length_lastL (ps : List (UInt8 × UInt8)) (i : Nat) : (lastL ps i).length = 20 := by
  unfold lastL
  generalize ps.take i = l
  have : ∀ (l : List (UInt8 × UInt8)) (L : List UInt8), (l.foldl (fun L p => L.set (p.1.toNat % 20) p.2) L).length = L.length := by
    intro l
    induction l with
    | nil => intro L; rfl
    | cons p l ih => intro L; rw [List.foldl_cons, ih]; simp
  rw [this]; simp
/-- what the first loop keeps of the disk -/
structure AllSt (ps : List (UInt8 × UInt8)) (i N : Nat) (v : Value) (s : DSt) : Prop where
  S : s.S = (lastL ps i).map sec64
  ws : s.ws.length = i
  gone : s.gone = false
  fuse : s.fuse = 0
  hist : Hist (List.replicate 20 z64) s
  n2 : v.ownBlock ≠ some (N + 2)
  n3 : v.ownBlock ≠ some (N + 3)
theorem AllSt.wrote {ps : List (UInt8 × UInt8)} {i N : Nat} {v v' : Value} {s : DSt} {M : Nat} (h : AllSt ps i N v s) (p : Nat) (hp : p < s.S.length) (b : UInt8) (hl : lastL ps (i + 1) = (lastL ps i).set p b)
    (hv : ∀ k, v'.ownBlock = some k → v.ownBlock = some k ∨ M ≤ k) (hM : N + 3 < M) : AllSt ps (i + 1) N v' (s.wrote p (sec64 b)) := by
  obtain ⟨e1, e2⟩ := wrote_S s p (sec64 b)
  have e3 : (s.wrote p (sec64 b)).gone = s.gone ∧ (s.wrote p (sec64 b)).fuse = s.fuse := by
    unfold DSt.wrote DSt.burnt
    rw [if_neg (by show ¬ 0 < s.fuse; rw [h.fuse]; omega)]
    exact ⟨rfl, rfl⟩
  refine ⟨by rw [e1, h.S, map_set64, hl], by rw [e2, List.length_append, h.ws]; rfl, e3.1.trans h.gone, e3.2.trans h.fuse, h.hist.wrote p hp _, fun e => ?_, fun e => ?_⟩
  · rcases hv _ e with e | e
    · exact h.n2 e
    · omega
  · rcases hv _ e with e | e
    · exact h.n3 e
    · omega
def pickL (n i : Nat) (b : Bool) : List Value := (List.replicate i b ++ List.replicate (n - i) false).map Value.bool
theorem pickL_set (n i : Nat) (b : Bool) (h : i < n) : (pickL n i b).set i (.bool b) = pickL n (i + 1) b := by
  unfold pickL
  rw [← List.map_set]
  congr 1
  apply List.ext_getElem?
  intro j
  simp only [List.getElem?_set, List.getElem?_append, List.getElem?_replicate, List.length_append, List.length_replicate]
  grind
theorem length_pickL (n i : Nat) (b : Bool) (h : i ≤ n) : (pickL n i b).length = n := by simp [pickL]; omega
def wasL (ps : List (UInt8 × UInt8)) (i : Nat) (b : Bool) : List UInt8 := if b then lastL ps i else List.replicate 20 0
theorem length_wasL (ps : List (UInt8 × UInt8)) (i : Nat) (b : Bool) : (wasL ps i b).length = 20 := by
  unfold wasL; split
  · exact length_lastL ps i
  · simp
structure AllRel (w1 : World) (ps : List (UInt8 × UInt8)) (keep : Bool) (i : Nat) (wr : World) : Prop where
  here : ∃ v s, DAt wr w1.heap.size (w1.heap.size + 1) w1.heap.size v s ∧ AllSt ps i w1.heap.size v s
  was : wr.heap[w1.heap.size + 2]? = some (.cells ((wasL ps i keep).map B).toArray 50 (0, 0))
  pick : wr.heap[w1.heap.size + 3]? = some (.cells (pickL ps.length i keep).toArray 4 (0, 0))
  below : Below w1.heap.size w1 wr

set_option maxRecDepth 100000 in
set_option maxHeartbeats 1000000 in
theorem all_long (w : World) (ad : Option Addr) (len cap : Nat) (b : Bool) (hl : 40 < len) (hm : len ≤ maxLen) :
    Calls Try.prog 7 #[.slice ad len cap, .bool b] w fun e w' => e = .returned (.bool true) ∧ Below w.heap.size w w' := by
  unfold maxLen at hm
  have hd : decide ((40 : Int) < (len : Int)) = true := by simp; omega
  have hd' : decide (40 < len) = true := by simp; omega
  go_enter Try.func7, Try.ntmps7
  go_wp2_with fail
  refine (awake_any w).mono ?_
  rintro e w1 ⟨rfl, hb1⟩
  have Hb1 := Lib.hid hb1
  clear hb1
  go_wp2_with fail
  refine (awake_any w1).mono ?_
  rintro e w2 ⟨rfl, hb2⟩
  have Hb2 := Lib.hid (Hb1.out.trans (hb2.mono Hb1.out.size))
  clear hb2
  go_wp2_with fail
  go_ret
  exact ⟨rfl, Hb2.out⟩

theorem run_make_bools (w : World) (n : Nat) (h : n ≤ 1000) : (Instr.makeSlice 31 (.int .i64 (n : Int)) (.int .i64 (n : Int))).run Try.prog w = .ok (.slice (some ⟨w.heap.size, 0, none⟩) n n) (w.alloc (.cells (pickL n 0 false).toArray 4)) := by
  have := run_make_row' (P := Try.prog) 31 4 (.bool false) 1 Try.underlying31 (by kernel_rfl) rfl .i64 .i64 n (by omega) (by omega) w
  have e : madeCells #[.bool false] n = (pickL n 0 false).toArray := by
    have := toList_madeCells_one (.bool false) n
    rw [show pickL n 0 false = List.replicate n (.bool false) by simp [pickL], ← this]
  rw [e] at this
  exact this
/-- 20 noughts -/
def z20 : List UInt8 := List.replicate 20 0
theorem zero20 : ∀ w, (zeroValue 50).run Try.prog w = .ok (.agg (z20.map B).toArray) w := fun _ => by kernel_rfl

set_option maxRecDepth 100000 in
set_option maxHeartbeats 4000000 in
theorem all_short (w : World) (ad : Option Addr) (g o cap : Nat) (ps : List (UInt8 × UInt8)) (keep : Bool) (hp : Pairs w ad g o ps) (hl : ps.length ≤ 40) :
    Calls Try.prog 7 #[.slice ad ps.length cap, .bool keep] w fun e w' => e = .returned (.bool true) ∧ Below w.heap.size w w' := by
  have hd : decide ((40 : Int) < (ps.length : Int)) = false := by simp; omega
  have hd' : decide (40 < ps.length) = false := by simp; omega
  have Hp := Lib.hid hp
  clear hp
  go_enter Try.func7, Try.ntmps7
  go_wp2_with fail
  refine (awake_any w).mono ?_
  rintro e w1 ⟨rfl, hb1⟩
  have Hb1 := Lib.hid hb1
  have Hp1 := Lib.hid (Hp.out.below hb1 (fun h => Hp.out.lt h))
  have hg1 : ps ≠ [] → g < w1.heap.size := fun h => Nat.lt_of_lt_of_le (Hp.out.lt h) hb1.size
  have Hg1 := Lib.hid hg1
  clear hb1 hg1
  go_wp2_with fail
  refine (new_any w1 20).mono ?_
  rintro e w2 ⟨rfl, D2, b2, z2⟩
  rw [show secN 20 = 20 from rfl] at D2
  have hz20 := zero20
  have hmk := run_make_bools
  obtain ⟨Z, hZ⟩ : ∃ Z, z20.map B = Z := ⟨_, rfl⟩
  rw [hZ] at hz20
  have hA : Below w2.heap.size w2 ((w2.alloc (.cells Z.toArray 50)).alloc (.cells (pickL ps.length 0 false).toArray 4)) := ((Below.refl _ _).alloc (Nat.le_refl _) _).alloc (by simp) _
  obtain ⟨x1, x2⟩ := heap2 w2 (.cells Z.toArray 50) (.cells (pickL ps.length 0 false).toArray 4)
  have R0 : AllRel w1 ps keep 0 ((w2.alloc (.cells Z.toArray 50)).alloc (.cells (pickL ps.length 0 false).toArray 4)) := by
    refine ⟨⟨_, _, D2.below hA, ⟨by rw [new_map]; rfl, rfl, rfl, rfl, (Hist.none (DSt.new 20) rfl : Hist (DSt.new 20).S (DSt.new 20)), (fun e => by cases e), (fun e => by cases e)⟩⟩, ?_, ?_, b2.trans (hA.mono b2.size)⟩
    · rw [← z2, x1, ← hZ]
      cases keep <;> rfl
    · rw [show w1.heap.size + 3 = w2.heap.size + 1 by omega, x2]
      simp [pickL]
  have HR0 := Lib.hid R0
  have Hz2 := Lib.hid z2
  clear D2 b2 hA x1 x2 R0 hZ
  have hmk2 := fun w => run_make_bools w ps.length (by omega)
  clear hmk
  go_wp2_with fail
  generalize World.alloc _ _ = w3 at *
  rw [show w1.heap.size + 2 + 1 = w1.heap.size + 3 from rfl]
  clear z2 hmk2 hz20
  go_loopw [8] (fun i wr => ∃ k : Nat, k ≤ ps.length ∧ i = .int .i64 k ∧ AllRel w1 ps keep k wr) (fun i _ => ps.length - (intOf i).toNat)
  case atStart => exact ⟨0, by omega, rfl, HR0.out⟩
  case round =>
    obtain ⟨k, hk, rfl, hr⟩ := hrel
    by_cases hlt : k < ps.length
    · obtain ⟨v, s, hD, hS⟩ := hr.here
      have hne : ps ≠ [] := by intro e; rw [e] at hlt; cases hlt
      obtain rfl := Hp1.out.addr hne
      have hgl := Hg1.out hne
      have hd1 : decide ((k : Int) < (ps.length : Int)) = true := by simp; omega
      have hd2 : decide (k < ps.length) = true := by simp; omega
      have hlast := lastL_succ ps k hlt
      have q0 := Hp1.out.c0 k hlt
      have q1 := Hp1.out.c1 k hlt
      generalize ps[k] = pr at *
      obtain ⟨a, b⟩ := pr
      dsimp only at q0 q1 hlast
      have hpk := hr.pick
      obtain ⟨x3, c3⟩ : ∃ x, wr.cell? ⟨w1.heap.size + 3, k, none⟩ = some x := ⟨_, by rw [cell_block hpk, List.getElem?_toArray]; exact List.getElem?_eq_getElem (by rw [length_pickL _ _ _ hk]; exact hlt)⟩
      have f3 := frozen_of_row wr (w1.heap.size + 3) k _ _ hpk
      have hka : Kept1 (w1.heap.size + 3) wr (wr.setCell ⟨w1.heap.size + 3, k, none⟩ (.bool keep)) := (Kept1.refl _ wr).setCell ⟨w1.heap.size + 3, k, none⟩ (.inl rfl) _
      have hpa := heap_set hpk k (.bool keep)
      rw [pickL_set _ _ _ hlt] at hpa
      have hDa : DAt (wr.setCell ⟨w1.heap.size + 3, k, none⟩ (.bool keep)) w1.heap.size (w1.heap.size + 1) w1.heap.size v s := hD.same fun j hj => hka.block j (hD.footN hj).2 (fun e => by
        subst e
        rcases hj with hj | hj | hj
        · omega
        · omega
        · exact hS.n3 hj)
      have hwa := (hka.block _ (lt_block hr.was) (by omega)).trans hr.was
      have hba := Kept1.mono hr.below hka (by omega)
      have q0a : (wr.setCell ⟨w1.heap.size + 3, k, none⟩ (.bool keep)).cell? ⟨g, o + k * 2, none⟩ = some (B a) := by rw [hba.cell (by exact hgl)]; exact q0
      have q1a : (wr.setCell ⟨w1.heap.size + 3, k, none⟩ (.bool keep)).cell? ⟨g, o + k * 2 + 1, none⟩ = some (B b) := by rw [hba.cell (by exact hgl)]; exact q1
      have Hlast := Lib.hid hlast
      have HS := Lib.hid hS
      have HDa := Lib.hid hDa
      have Hwa := Lib.hid hwa
      have Hpa := Lib.hid hpa
      have Hba := Lib.hid hba
      have Q0 := Lib.hid q0a
      have Q1 := Lib.hid q1a
      have Q00 := Lib.hid q0
      have Q11 := Lib.hid q1
      clear hlast hS hDa hwa hpa hba q0 q1 hpk hr hD hka q0a q1a HR0
      go_wp2_with fail
      generalize World.setCell _ _ _ = wa at *
      have q0 : wa.cell? ⟨g, o + k * 2, none⟩ = some (.int .u8 (a.toNat : Int)) := Q0.out
      have q1 : wa.cell? ⟨g, o + k * 2 + 1, none⟩ = some (.int .u8 (b.toNat : Int)) := Q1.out
      have a255 := a.toNat_lt
      obtain ⟨p, hp20⟩ : ∃ p : Nat, p = a.toNat % 20 := ⟨_, rfl⟩
      have hpi : (a.toNat : Int) % 20 = (p : Int) := by omega
      have hpl : p < 20 := by omega
      have hSl : s.S.length = 20 := by rw [HS.out.S, List.length_map, length_lastL]
      have HSl := Lib.hid hSl
      have Hp20 := Lib.hid hp20
      have SEC : Hid (∀ W, Calls Try.prog 22 #[.int .u8 (b.toNat : Int)] W fun e w' => e = .returned (.slice (some ⟨W.heap.size, 0, none⟩) 64 64) ∧ Below W.heap.size W w' ∧
        w'.heap[W.heap.size]? = some (.cells ((sec64 b).map B).toArray 5 (0, 0)) ∧ w'.heap.size = W.heap.size + 1) := Lib.hid fun W => sector_any W b
      have hglt : g < wa.heap.size := Nat.lt_of_lt_of_le hgl Hba.out.size
      have C0 : Hid (∀ W4, Below wa.heap.size wa.drew W4 → W4.cell? ⟨g, o + k * 2, none⟩ = some (.int .u8 (a.toNat : Int))) := Lib.hid fun W4 h4 => by rw [h4.cell (by exact hglt)]; exact Q0.out
      have WR : Hid (∀ W4, Below wa.heap.size wa.drew W4 → W4.heap[wa.heap.size]? = some (.cells ((sec64 b).map B).toArray 5 (0, 0)) →
          Calls Try.prog 12 #[.pointer (some ⟨w1.heap.size + 1, 0, none⟩), .int .i64 (p : Int), .slice (some ⟨wa.heap.size, 0, none⟩) 64 64] W4 fun e w' => e = .returned (.int .i64 0) ∧ ∃ v', Wrote W4 w1.heap.size (w1.heap.size + 1) w1.heap.size v (s.wrote p (sec64 b)) v' w') := Lib.hid fun W4 h4 hx =>
        write_any W4 _ _ _ _ _ (HDa.out.below (Below.trans (Below.refl wa.heap.size wa).drew h4)) HS.out.gone p (by rw [HSl.out]; exact hpl) (sec64 b) (length_sec64 b) wa.heap.size 0 64 (range_block0 hx) (lt_block hx) (by rw [HS.out.ws]; omega) (by rw [HS.out.fuse]; omega)
      clear hp20 hSl
      apply join (C := fun v' w5 => Hid (∃ W4, Below wa.heap.size wa W4 ∧ Wrote W4 w1.heap.size (w1.heap.size + 1) w1.heap.size v (s.wrote p (sec64 b)) v' w5))
      case main =>
        intro key
        have HKEY := Lib.hid key
        clear key
        have htm : ((a.toNat : Nat) : Int).tmod 20 = (p : Int) := by rw [Int.tmod_eq_emod_of_nonneg (by omega)]; exact hpi
        have hwp : IntKind.i64.wrap (p : Int) = (p : Int) := IntWalk.i64_in _ (by omega)
        refine wp_region_any (by kernel_rfl) ?_
        change wpAny _ _ _ _ _ _ _ (World.drew _)
        refine wpAny_take (i := 0) (v := ?_) rfl (by kernel_rfl) (by kernel_rfl) (by kernel_rfl) (fun _ _ _ h => h) (Or.inl ⟨by rfl, ?_⟩) ?_
        rotate_left 1
        · intro w; go_simp; try with_reducible rfl
        refine wpAny_take (i := 1) (v := ?_) rfl (by kernel_rfl) (by kernel_rfl) (by kernel_rfl) (fun _ _ _ h => h) (Or.inl ⟨by rfl, ?_⟩) ?_
        rotate_left 1
        · intro w; go_simp; try with_reducible rfl
        refine wpAny_take (i := 2) (v := ?_) rfl (by kernel_rfl) (by kernel_rfl) (by kernel_rfl) (fun _ _ _ h => h) (Or.inl ⟨by rfl, ?_⟩) ?_
        rotate_left 1
        · intro w; go_simp; try with_reducible rfl
        refine wpAny_take (i := 3) (v := ?_) rfl (by kernel_rfl) (by kernel_rfl) (by kernel_rfl) (fun _ _ _ h => h) (Or.inl ⟨by rfl, ?_⟩) ?_
        rotate_left 1
        · intro w; go_simp; try with_reducible rfl
        refine wpAny_take (i := 4) (v := ?_) rfl (by kernel_rfl) (by kernel_rfl) (by kernel_rfl) (fun _ _ _ h => h) (Or.inl ⟨by rfl, ?_⟩) ?_
        rotate_left 1
        · intro w; go_simp; try with_reducible rfl
        refine wpAny_take (i := 8) (v := ?_) rfl (by kernel_rfl) (by kernel_rfl) (by kernel_rfl) (fun _ _ _ h => h) (Or.inl ⟨by rfl, ?_⟩) ?_
        rotate_left 1
        · intro w; go_simp; try with_reducible rfl
        refine wpAny_take (i := 9) (v := ?_) rfl (by kernel_rfl) (by kernel_rfl) (by kernel_rfl) (fun _ _ _ h => h) (Or.inl ⟨by rfl, ?_⟩) ?_
        rotate_left 1
        · intro w; go_simp; try with_reducible rfl
        refine wpAny_take (i := 10) (v := ?_) rfl (by kernel_rfl) (by kernel_rfl) (by kernel_rfl) (fun _ _ _ h => h) (Or.inl ⟨by rfl, ?_⟩) ?_
        rotate_left 1
        · intro w; go_simp; try with_reducible rfl
        refine wpAny_take (i := 11) (v := ?_) rfl (by kernel_rfl) (by kernel_rfl) (by kernel_rfl) (fun _ _ _ h => h) (Or.inl ⟨by rfl, ?_⟩) ?_
        rotate_left 1
        · intro w; go_simp; try with_reducible rfl
        refine wpAny_ready (rs := [5, 12]) (by kernel_rfl) (by simp) ?_
        refine AllReady.cons rfl (fun K hK => ?_) ?_
        · go_simp
          refine hK _ _ ?_; clear hK K
          refine wpAny_take (i := 6) (v := ?_) rfl (by kernel_rfl) (by kernel_rfl) (by kernel_rfl) (fun _ _ _ h => h) (Or.inl ⟨by rfl, ?_⟩) ?_
          rotate_left 1
          · intro w; go_simp; try with_reducible rfl
          refine wpAny_take (i := 7) (v := ?_) rfl (by kernel_rfl) (by kernel_rfl) (by kernel_rfl) (fun _ _ _ h => h) (Or.inl ⟨by rfl, ?_⟩) ?_
          rotate_left 1
          · intro w; go_simp; try with_reducible rfl
          refine wpAny_ready (rs := [12]) (by kernel_rfl) (by simp) ?_
          refine AllReady.cons rfl (fun K hK => ?_) ?_
          · go_simp
            refine hK _ _ ?_; clear hK K
            refine wpAny_ready (rs := [13]) (by kernel_rfl) (by simp) ?_
            refine AllReady.cons rfl (fun K hK => ?_) ?_
            · go_simp
              go_wp2_with (go_at_call 22; refine (SEC.out _).mono ?_; rintro e w4 ⟨rfl, b4, hx, z4⟩; have HB4 := Lib.hid b4; have HX4 := Lib.hid hx; have p0 := C0.out _ b4; clear b4 hx z4)
              refine wpAny_ready (rs := [14]) (by kernel_rfl) (by simp) ?_
              refine AllReady.cons rfl (fun K hK => ?_) ?_
              · go_simp
                go_wp2_with (go_at_call 12; refine (WR.out _ HB4.out HX4.out).mono ?_; rintro e w5 ⟨rfl, v', hw⟩; have HW5 := Lib.hid hw; clear hw)
                refine wpAny_done (by kernel_rfl) ?_ _
                exact HKEY.out v' w5 (Lib.hid ⟨w4, Below.trans (Below.refl wa.heap.size wa).drew HB4.out, HW5.out⟩)
              exact AllReady.nil
            exact AllReady.nil
          exact AllReady.nil
        refine AllReady.cons rfl (fun K hK => ?_) ?_
        · go_simp
          refine hK _ _ ?_; clear hK K
          refine wpAny_ready (rs := [5, 13]) (by kernel_rfl) (by simp) ?_
          refine AllReady.cons rfl (fun K hK => ?_) ?_
          · go_simp
            refine hK _ _ ?_; clear hK K
            refine wpAny_take (i := 6) (v := ?_) rfl (by kernel_rfl) (by kernel_rfl) (by kernel_rfl) (fun _ _ _ h => h) (Or.inl ⟨by rfl, ?_⟩) ?_
            rotate_left 1
            · intro w; go_simp; try with_reducible rfl
            refine wpAny_take (i := 7) (v := ?_) rfl (by kernel_rfl) (by kernel_rfl) (by kernel_rfl) (fun _ _ _ h => h) (Or.inl ⟨by rfl, ?_⟩) ?_
            rotate_left 1
            · intro w; go_simp; try with_reducible rfl
            refine wpAny_ready (rs := [13]) (by kernel_rfl) (by simp) ?_
            refine AllReady.cons rfl (fun K hK => ?_) ?_
            · go_simp
              go_wp2_with (go_at_call 22; refine (SEC.out _).mono ?_; rintro e w4 ⟨rfl, b4, hx, z4⟩; have HB4 := Lib.hid b4; have HX4 := Lib.hid hx; have p0 := C0.out _ b4; clear b4 hx z4)
              refine wpAny_ready (rs := [14]) (by kernel_rfl) (by simp) ?_
              refine AllReady.cons rfl (fun K hK => ?_) ?_
              · go_simp
                go_wp2_with (go_at_call 12; refine (WR.out _ HB4.out HX4.out).mono ?_; rintro e w5 ⟨rfl, v', hw⟩; have HW5 := Lib.hid hw; clear hw)
                refine wpAny_done (by kernel_rfl) ?_ _
                exact HKEY.out v' w5 (Lib.hid ⟨w4, Below.trans (Below.refl wa.heap.size wa).drew HB4.out, HW5.out⟩)
              exact AllReady.nil
            exact AllReady.nil
          refine AllReady.cons rfl (fun K hK => ?_) ?_
          · go_simp
            go_wp2_with (go_at_call 22; refine (SEC.out _).mono ?_; rintro e w4 ⟨rfl, b4, hx, z4⟩; have HB4 := Lib.hid b4; have HX4 := Lib.hid hx; have p0 := C0.out _ b4; clear b4 hx z4)
            refine wpAny_ready (rs := [5]) (by kernel_rfl) (by simp) ?_
            refine AllReady.cons rfl (fun K hK => ?_) ?_
            · go_simp
              refine hK _ _ ?_; clear hK K
              refine wpAny_ready (rs := [6]) (by kernel_rfl) (by simp) ?_
              refine AllReady.cons rfl (fun K hK => ?_) ?_
              · go_simp
                refine hK _ _ ?_; clear hK K
                refine wpAny_ready (rs := [7]) (by kernel_rfl) (by simp) ?_
                refine AllReady.cons rfl (fun K hK => ?_) ?_
                · go_simp
                  refine hK _ _ ?_; clear hK K
                  refine wpAny_ready (rs := [14]) (by kernel_rfl) (by simp) ?_
                  refine AllReady.cons rfl (fun K hK => ?_) ?_
                  · go_simp
                    go_wp2_with (go_at_call 12; refine (WR.out _ HB4.out HX4.out).mono ?_; rintro e w5 ⟨rfl, v', hw⟩; have HW5 := Lib.hid hw; clear hw)
                    refine wpAny_done (by kernel_rfl) ?_ _
                    exact HKEY.out v' w5 (Lib.hid ⟨w4, Below.trans (Below.refl wa.heap.size wa).drew HB4.out, HW5.out⟩)
                  exact AllReady.nil
                exact AllReady.nil
              exact AllReady.nil
            exact AllReady.nil
          exact AllReady.nil
        exact AllReady.nil
      case rest =>
        intro v' w5 hC
        obtain ⟨W4, b4, hw⟩ := hC.out
        have hS' := HS.out.wrote p (by rw [HSl.out]; exact hpl) b (by rw [← Hp20.out] at Hlast; exact Hlast.out) hw.own (by have := lt_block Hpa.out; have := b4.size; omega)
        have hf2 : ¬ foot (w1.heap.size + 1) w1.heap.size v (w1.heap.size + 2) := fun e => by
          rcases e with e | e | e
          · omega
          · omega
          · exact HS.out.n2 e
        have hf3 : ¬ foot (w1.heap.size + 1) w1.heap.size v (w1.heap.size + 3) := fun e => by
          rcases e with e | e | e
          · omega
          · omega
          · exact HS.out.n3 e
        have was5 := hw.kept.heap ((b4.block _ (lt_block Hwa.out)).trans Hwa.out) hf2
        have pick5 := hw.kept.heap ((b4.block _ (lt_block Hpa.out)).trans Hpa.out) hf3
        have bel5 := hw.below (HDa.out.below b4) (Hba.out.trans (b4.mono Hba.out.size)) (Nat.le_refl _)
        have HD5 := Lib.hid hw.at'
        have HS5 := Lib.hid hS'
        have HW5 := Lib.hid was5
        have HP5 := Lib.hid pick5
        have HB5 := Lib.hid bel5
        clear hC b4 hw hS' hf2 hf3 was5 pick5 bel5 SEC WR C0 q0 q1 Q0 Q1 HDa Hwa Hpa Hba
        have q0 : w5.cell? ⟨g, o + k * 2, none⟩ = some (.int .u8 (a.toNat : Int)) := by rw [HB5.out.cell (by exact hgl)]; exact Q00.out
        have q1 : w5.cell? ⟨g, o + k * 2 + 1, none⟩ = some (.int .u8 (b.toNat : Int)) := by rw [HB5.out.cell (by exact hgl)]; exact Q11.out
        have l5 : g < w5.heap.size := Nat.lt_of_lt_of_le hgl HB5.out.size
        cases keep with
        | false =>
          go_wp2_with fail
          go_roundw
          case rel => exact ⟨k + 1, by omega, by go_num, ⟨⟨_, _, HD5.out, HS5.out⟩, HW5.out, HP5.out, HB5.out⟩⟩
          case measure => simp [intOf]; omega
        | true =>
          go_wp2_with fail
          refine wp_region_fresh 11 [.calm, .calm, .calm, .calm, .calm, .calm, .calm, .calm, .calm, .calm, .calm] (fun _ => .cells #[] 0) (fun _ => .cells #[] 0) (fun _ _ => undef) (by kernel_rfl) (by kernel_rfl) (by kernel_rfl) ?_
          intro R hR
          have hne := hR.nonempty
          simp only [List.take_succ_cons, List.take_zero, List.drop_succ_cons, List.drop_zero, calmL]
          have htm : ((a.toNat : Nat) : Int).tmod 20 = (p : Int) := by rw [Int.tmod_eq_emod_of_nonneg (by omega)]; exact hpi
          have cm0 : ∀ m : BlR w5 R, m.wr.cell? ⟨g, o + k * 2, none⟩ = some (.int .u8 (a.toNat : Int)) := fun m => by rw [m.below.cell (by exact l5)]; exact q0
          have cm1 : ∀ m : BlR w5 R, m.wr.cell? ⟨g, o + k * 2 + 1, none⟩ = some (.int .u8 (b.toNat : Int)) := fun m => by rw [m.below.cell (by exact l5)]; exact q1
          iterate 11 (go_big_quiet_step (fail))
          refine wpQuiet_nil ?_
          refine ⟨by simp only [obF], ?_⟩
          intro γ w6 hf6
          clear cm0 cm1 hR hne R q0 q1 htm
          simp only [putF]
          have hb6 := hf6.below
          clear hf6
          have was6 := (hb6.block _ (lt_block HW5.out)).trans HW5.out
          obtain ⟨x2, c2⟩ : ∃ x, w6.cell? ⟨w1.heap.size + 2, p, none⟩ = some x := ⟨_, by rw [cell_block was6, List.getElem?_toArray]; exact List.getElem?_eq_getElem (by rw [List.length_map, length_wasL]; exact hpl)⟩
          have f2 := frozen_of_row w6 (w1.heap.size + 2) p _ _ was6
          have hk7 : Kept1 (w1.heap.size + 2) w6 (w6.setCell ⟨w1.heap.size + 2, p, none⟩ (.int .u8 (b.toNat : Int))) := (Kept1.refl _ w6).setCell ⟨w1.heap.size + 2, p, none⟩ (.inl rfl) _
          have was7 := heap_set was6 p (B b)
          rw [← List.map_set, show (wasL ps k true).set p b = wasL ps (k + 1) true by rw [Hp20.out]; exact Hlast.out.symm] at was7
          have D6 := HD5.out.below hb6
          have R7 : Hid (AllRel w1 ps true (k + 1) (w6.setCell ⟨w1.heap.size + 2, p, none⟩ (.int .u8 (b.toNat : Int)))) := Lib.hid ⟨⟨_, _, D6.same fun j hj => hk7.block j (D6.footN hj).2 (fun e => by
              subst e
              rcases hj with hj | hj | hj
              · omega
              · omega
              · exact HS5.out.n2 hj), HS5.out⟩, was7, (hk7.block _ (by have := lt_block HP5.out; have := hb6.size; omega) (by omega)).trans ((hb6.block _ (lt_block HP5.out)).trans HP5.out), Kept1.mono (HB5.out.trans (hb6.mono HB5.out.size)) hk7 (by omega)⟩
          clear was6 hk7 was7 D6 hb6
          go_wp2_with fail
          go_roundw
          case rel => exact ⟨k + 1, by omega, by go_num, R7.out⟩
          case measure => simp [intOf]; omega
    · obtain rfl : k = ps.length := by omega
      obtain ⟨v, s, hD, hS⟩ := hr.here
      have hd1 : decide ((ps.length : Int) < (ps.length : Int)) = false := by simp
      have hpk := hr.pick
      have hbl : (List.replicate ps.length keep).length = ps.length := by simp
      have hpe : pickL ps.length ps.length keep = (List.replicate ps.length keep).map Value.bool := by simp [pickL]
      rw [hpe] at hpk
      have CR := crash_any wr _ _ _ _ _ hD (by rw [hS.ws]; omega) (some ⟨w1.heap.size + 3, 0, none⟩) (w1.heap.size + 3) 0 ps.length (List.replicate ps.length keep) (by simp; omega) (fun _ => rfl)
        (fun j hj => by rw [cell_block hpk, List.getElem?_toArray, Nat.zero_add, List.getElem?_map, List.getElem?_eq_getElem hj]; rfl)
        (fun _ e => by
          rcases e with e | e | e
          · omega
          · omega
          · exact hS.n3 e)
      rw [hbl] at CR
      have hf2 : ¬ foot (w1.heap.size + 1) w1.heap.size v (w1.heap.size + 2) := fun e => by
        rcases e with e | e | e
        · omega
        · omega
        · exact hS.n2 e
      have hcS : (s.crash (List.replicate ps.length keep)).S = (wasL ps ps.length keep).map sec64 := by
        rw [crash_all hS.hist _ (by rw [hS.ws]; omega)]
        cases keep
        · exact new_map
        · exact hS.S
      have HCR := Lib.hid CR
      have Hf2 := Lib.hid hf2
      have HcS := Lib.hid hcS
      have HW := Lib.hid hr.was
      have HB := Lib.hid hr.below
      have HD := Lib.hid hD
      clear hD hS hpk hbl hpe CR hf2 hcS hr HR0
      go_wp2_with fail
      refine HCR.out.mono ?_
      rintro e w6 ⟨rfl, D6, K6⟩
      have was6 := K6.heap HW.out Hf2.out
      have bel6 := KeptF.mono HB.out K6 (Nat.le_refl _) fun _ hF => (HD.out.footN hF).1
      have h0 : ∃ s', DAt w6 w1.heap.size (w1.heap.size + 1) w1.heap.size (.slice none 0 0) s' ∧ s'.S = (wasL ps ps.length keep).map sec64 ∧ s'.gone = false := ⟨_, D6, HcS.out, rfl⟩
      obtain ⟨s', D6', hs', hg'⟩ := h0
      have HD6 := Lib.hid D6'
      have Hs' := Lib.hid hs'
      have Hg' := Lib.hid hg'
      have HW6 := Lib.hid was6
      have HB6 := Lib.hid bel6
      have hwl := length_wasL ps ps.length keep
      have Hwl := Lib.hid hwl
      generalize wasL ps ps.length keep = WL at *
      clear D6 K6 was6 bel6 D6' hs' hg' HCR hwl
      go_wp2_with fail
      go_loopw [9] (fun i wr => ∃ j : Nat, j ≤ 20 ∧ i = .int .i64 j ∧ Below w6.heap.size w6 wr) (fun i _ => 20 - (intOf i).toNat)
      case atStart => exact ⟨0, by omega, rfl, Below.refl _ _⟩
      case round =>
        obtain ⟨j, hj, rfl, hb7⟩ := hrel
        by_cases hlt2 : j < 20
        · have hd2 : decide ((j : Int) < 20) = true := by simp; omega
          have hd3 : decide (j < 20) = true := by simp; omega
          obtain ⟨c, hc⟩ : ∃ c, WL[j]? = some c := ⟨_, List.getElem?_eq_getElem (by rw [Hwl.out]; exact hlt2)⟩
          have RD := Lib.hid (read_any wr _ _ _ _ _ (HD6.out.below hb7) Hg'.out j (by rw [Hs'.out, List.length_map, Hwl.out]; exact hlt2) (sec64 c) (by rw [Hs'.out, List.getElem?_map, hc]; rfl))
          have Hb7 := Lib.hid hb7
          have Hc := Lib.hid hc
          clear hb7 hc
          go_wp2_with fail
          refine RD.out.mono ?_
          rintro e w8 ⟨rfl, b8, hy, z8⟩
          have y0 := cell_sec hy 0 (by omega)
          have y63 := cell_sec hy 63 (by omega)
          have bel8 := Hb7.out.trans (b8.mono Hb7.out.size)
          have cw : w8.cell? ⟨w1.heap.size + 2, j, none⟩ = some (.int .u8 (c.toNat : Int)) := by
            rw [cell_block ((bel8.block _ (lt_block HW6.out)).trans HW6.out), List.getElem?_toArray, List.getElem?_map, Hc.out]; rfl
          simp only [B] at y0 y63
          have Hb8 := Lib.hid bel8
          clear b8 hy z8 bel8 RD
          go_wp2_with fail
          go_quiet (fail)
          go_wp2_with fail
          go_roundw
          case rel => exact ⟨j + 1, by omega, by go_num, below_drewN Hb8.out _⟩
          case measure => simp [intOf]; omega
        · have hd2 : decide ((j : Int) < 20) = false := by simp; omega
          have hbE := Hb1.out.trans ((HB6.out.trans (hb7.mono HB6.out.size)).mono Hb1.out.size)
          have HbE := Lib.hid hbE
          clear hb7 hbE
          go_wp2_with fail
          go_ret
          exact ⟨rfl, HbE.out⟩
theorem all_any (w : World) (ad : Option Addr) (g o cap : Nat) (ps : List (UInt8 × UInt8)) (hp : Pairs w ad g o ps) (hm : ps.length ≤ maxLen) (keep : Bool) :
    Calls Try.prog 7 #[.slice ad ps.length cap, .bool keep] w fun e w' => e = .returned (.bool true) ∧ Below w.heap.size w w' := by
  rcases Nat.lt_or_ge 40 ps.length with h | h
  · exact all_long w ad ps.length cap keep h hm
  · exact all_short w ad g o cap ps keep hp h
end Go.Proofs.Ytammnjfccjfbhaa
