/- The document's crash. -/
import Derived.Test.YtammnjfccjfbhaaDDo3
import Derived.Deep.DeepAppendWide
namespace Go.Proofs.Ytammnjfccjfbhaa
open Go.RowKit

/-- cells of a block that was just laid -/
theorem newsV (w : World) (L : List Value) {t : TypeId} {n : Nat} (hn : w.heap.size = n) : ∀ j u, L[j]? = some u → (w.alloc (.cells L.toArray t)).cell? ((⟨n, 0, none⟩ : Addr).add j) = some u := fun j u hu => by
  subst hn
  rw [Addr.add_mid, cell_block (heap_alloc_new w _), Nat.zero_add, List.getElem?_toArray, hu]
theorem infoW3 : (Try.prog.info? 71).map (fun i => (i.zero, i.size, i.bytes)) = some (some (.agg #[.int .i64 0, .string ⟨#[]⟩, .bool false]), 3, 32) := by kernel_rfl
set_option maxRecDepth 100000 in
set_option maxHeartbeats 4000000 in
theorem do_crash (w : World) (N d : Nat) (v : Value) (t : RSt) (h : RAt w N d v t) (x : OpR) (hq : x.k.toNat % 5 = 4) (hin : OpIn w x) (hL : t.L.length ≤ 100000) (_ : x.bs.length ≤ 100000) :
    Calls Try.prog 17 #[.pointer (some ⟨d, 0, none⟩), x.val] w fun e w' => e = .returned (.tuple #[noS, .int .i64 0]) ∧ ∃ v', Did w N d v ⟨t.n, keptK x.bs t.L t.L.length, -1⟩ v' w' := by
  obtain ⟨c0, c1, c2⟩ := h.cell
  have hd := lt_block h.blk
  have hk := x.k.toNat_lt
  have f1 := h.frozen 1
  have f2 := h.frozen 2
  obtain ⟨ad, cp, rfl⟩ := h.slice
  unfold OpR.val
  try unfold noS
  obtain ⟨W, hW⟩ : ∃ W, w.alloc (.cells #[.int .u8 (x.k.toNat : Int), .int .i64 x.i, .int .i64 x.n, .slice x.ba x.l.length x.bc, .slice x.pa x.bs.length x.pc] 33) = W := ⟨_, rfl⟩
  have hB : Below w.heap.size w W := by rw [← hW]; exact (Below.refl _ _).alloc (Nat.le_refl _) _
  have hO : W.heap[w.heap.size]? = some (.cells #[.int .u8 (x.k.toNat : Int), .int .i64 x.i, .int .i64 x.n, .slice x.ba x.l.length x.bc, .slice x.pa x.bs.length x.pc] 33 (0, 0)) := by rw [← hW]; exact heap_alloc_new _ _
  have HR := Lib.hid (h.below hB)
  have H := Lib.hid h
  have HB := Lib.hid hB
  have HO := Lib.hid hO
  clear h c0 c1 c2 f1 f2
  obtain ⟨c0, c1, c2⟩ := HR.out.cell
  have f1 := HR.out.frozen 1
  have f2 := HR.out.frozen 2
  have o0 : W.cell? ⟨w.heap.size, 0, none⟩ = some (.int .u8 (x.k.toNat : Int)) := cell_block hO 0
  have o1 : W.cell? ⟨w.heap.size, 1, none⟩ = some (.int .i64 x.i) := cell_block hO 1
  have o2 : W.cell? ⟨w.heap.size, 2, none⟩ = some (.int .i64 x.n) := cell_block hO 2
  have o3 : W.cell? ⟨w.heap.size, 3, none⟩ = some (.slice x.ba x.l.length x.bc) := cell_block hO 3
  have o4 : W.cell? ⟨w.heap.size, 4, none⟩ = some (.slice x.pa x.bs.length x.pc) := cell_block hO 4
  have ldW : d < W.heap.size := lt_block HR.out.blk
  have loW : w.heap.size < W.heap.size := lt_block hO
  clear hB hO
  have hqi : (x.k.toNat : Int) % 5 = 4 := by omega
  clear hq
  have HI := Lib.hid (hin.below HB.out)
  obtain ⟨i0, hi0, hz0, hz1, hz2⟩ := info_parts infoW3
  have Hi0 := Lib.hid hi0
  have Hz0 := Lib.hid hz0
  have Hz1 := Lib.hid hz1
  have Hz2 := Lib.hid hz2
  clear hin hi0 hz0 hz1 hz2
  go_enter Try.func17, Try.ntmps17
  go_wp2_with fail
  go_quiet (fail)
  go_wp2_with fail
  clear c0 c1 c2 f1 f2 o0 o1 o2 o3
  rw [hqi]
  clear hqi
  go_loopw [8, 9, 10] (fun kv n i wr => ∃ k : Nat, k ≤ t.L.length ∧ i = .int .i64 k ∧ n = .int .i64 ((waitN (t.L.take k) : Nat) : Int) ∧ wr.ownsRow W.heap.size 71 3 kv (keptK x.bs t.L k).length (cellsR (keptK x.bs t.L k)) ∧ Below W.heap.size W wr) (fun _ _ i _ => t.L.length - (intOf i).toNat)
  case atStart => exact ⟨0, by omega, rfl, rfl, World.ownsRow_nil _ _ _ _, below_drewN (Below.refl _ _) _⟩
  case round =>
    obtain ⟨k, hk, rfl, rfl, hown, hb⟩ := hrel
    obtain ⟨-, c1, -⟩ := (HR.out.below hb).cell
    have o4 : wr.cell? ⟨w.heap.size, 4, none⟩ = some (.slice x.pa x.bs.length x.pc) := by rw [hb.cell (by exact loW)]; exact cell_block HO.out 4
    by_cases hlt : k < t.L.length
    · have hd1 : decide ((k : Int) < (t.L.length : Int)) = true := by simp; omega
      have hd2 : decide (k < t.L.length) = true := by simp; omega
      obtain ⟨g, rfl, he⟩ := (HR.out.below hb).entry (by intro e; rw [e] at hlt; cases hlt)
      obtain ⟨e0, e1, e2⟩ := he k hlt
      have hsucc := keptK_succ x.bs t.L k hlt
      have hwt := waitN_take t.L k hlt
      have hkl := length_keptK x.bs t.L k
      have hwl := waitN_le (t.L.take k)
      rw [List.length_take] at hwl
      have hml : waitN (t.L.take k) ≤ 100000 := by omega
      generalize t.L[k] = r at *
      generalize waitN (t.L.take k) = m at *
      generalize keptK x.bs t.L k = KL at *
      have Hs := Lib.hid hsucc
      have Hw := Lib.hid hwt
      have Hown := Lib.hid hown
      have Hb := Lib.hid hb
      have lw : W.heap.size ≤ wr.heap.size := hb.size
      have Hkl := Lib.hid hkl
      obtain ⟨at', bb, dn⟩ := r
      dsimp only at e0 e1 e2
      clear he hsucc hwt hkl hwl hown hb
      have OWN5 : Hid (∀ W5, Below wr.heap.size wr W5 → W5.ownsRow W.heap.size 71 3 u8 KL.length (cellsR KL)) := Lib.hid fun W5 h5 => own_same Hown.out fun g hg => h5.block g (Hown.out.lt g hg).2
      cases dn with
      | true =>
        rw [if_pos rfl] at Hs Hw
        go_wp2_with (at_builtin; refine wpList_append_own _ rfl (.tmp 149) (.tmp 151) 44 rfl W.heap.size 71 i0 _ 3 32 Try.underlying44 Hi0.out Hz0.out Hz1.out Hz2.out rfl (by decide) _ KL.length (cellsR KL) rfl (OWN5.out _ (((Below.refl _ _).alloc (Nat.le_refl _) _).alloc (by simp) _)) ⟨wr.heap.size + 1, 0, none⟩ 1 1 [.int .i64 at', .string ⟨bb.toArray⟩, .bool true] rfl rfl (newsV _ _ (by simp)) (one_R ⟨at', bb, true⟩) (by have := Hkl.out; unfold maxLen; omega) (by have := Hkl.out; omega) (by simp; omega) ?_)
        intro v' w' hown' hgrow _
        have R1 : Hid (w'.ownsRow W.heap.size 71 3 v' (keptK x.bs t.L (k + 1)).length (cellsR (keptK x.bs t.L (k + 1))) ∧ Below W.heap.size W w') := Lib.hid ⟨by rw [Hs.out, cellsR_snoc, List.length_append]; exact hown', (Hb.out.trans (Below.mono (((Below.refl _ _).alloc (Nat.le_refl _) _).alloc (by simp) _) lw)).grown hgrow (by simp; omega) (fun b hb => (Hown.out.lt b hb).1)⟩
        clear hown' hgrow
        go_wp2_with fail
        go_roundw
        case rel => exact ⟨k + 1, by omega, by go_num, by rw [Hw.out]; rfl, R1.out.1, R1.out.2⟩
        case measure => simp [intOf]; omega
      | false =>
        rw [if_neg (by simp)] at Hs Hw
        by_cases hp : m < x.bs.length
        · have hpb : x.bs ≠ [] := by intro e; rw [e] at hp; cases hp
          have hpa := HI.out.pad hpb
          have hpc0 := HI.out.pcell m hp
          have hpgl : x.pg < W.heap.size := block_lt_of_cell hpc0
          have hpgl2 : x.pg < wr.heap.size := by omega
          have hpc : wr.cell? ⟨x.pg, x.po + m, none⟩ = some (.bool x.bs[m]) := by rw [Hb.out.cell (by exact hpgl)]; exact hpc0
          have hgd : x.bs.getD m false = x.bs[m] := by simp [List.getD, hp]
          rw [hgd] at Hs
          rw [hpa] at o4
          clear hpa
          have hd3 : decide ((m : Int) < (x.bs.length : Int)) = true := by simp; omega
          have hd4 : decide (m < x.bs.length) = true := by simp; omega
          have low : w.heap.size < wr.heap.size := by omega
          clear hpc0 hgd
          generalize x.bs[m] = bm at *
          cases bm with
          | true =>
            rw [if_pos rfl, show RWr.mark ⟨at', bb, false⟩ = ⟨at', bb, true⟩ from rfl] at Hs
            go_wp2_with (at_builtin; refine wpList_append_own _ rfl (.tmp 149) (.tmp 151) 44 rfl W.heap.size 71 i0 _ 3 32 Try.underlying44 Hi0.out Hz0.out Hz1.out Hz2.out rfl (by decide) _ KL.length (cellsR KL) rfl (OWN5.out _ (((Below.refl _ _).alloc (Nat.le_refl _) _).alloc (by simp) _)) ⟨wr.heap.size + 1, 0, none⟩ 1 1 [.int .i64 at', .string ⟨bb.toArray⟩, .bool true] rfl rfl (newsV _ _ (by simp)) (one_R ⟨at', bb, true⟩) (by have := Hkl.out; unfold maxLen; omega) (by have := Hkl.out; omega) (by simp; omega) ?_)
            intro v' w' hown' hgrow _
            have R1 : Hid (w'.ownsRow W.heap.size 71 3 v' (keptK x.bs t.L (k + 1)).length (cellsR (keptK x.bs t.L (k + 1))) ∧ Below W.heap.size W w') := Lib.hid ⟨by rw [Hs.out, cellsR_snoc, List.length_append]; exact hown', (Hb.out.trans (Below.mono (((Below.refl _ _).alloc (Nat.le_refl _) _).alloc (by simp) _) lw)).grown hgrow (by simp; omega) (fun b hb => (Hown.out.lt b hb).1)⟩
            clear hown' hgrow
            go_wp2_with fail
            go_roundw
            case rel => exact ⟨k + 1, by omega, by go_num, by rw [Hw.out]; rfl, R1.out.1, R1.out.2⟩
            case measure => simp [intOf]; omega
          | false =>
            rw [if_neg (by simp)] at Hs
            go_wp2_with fail
            go_roundw
            case rel => exact ⟨k + 1, by omega, by go_num, by rw [Hw.out]; rfl, by rw [Hs.out, List.append_nil]; exact OWN5.out _ ((Below.refl _ _).alloc (Nat.le_refl _) _), Hb.out.trans (Below.mono ((Below.refl _ _).alloc (Nat.le_refl _) _) lw)⟩
            case measure => simp [intOf]; omega
        · have hgd : x.bs.getD m false = false := by simp [List.getD, hp]
          rw [hgd, if_neg (by simp)] at Hs
          have hd3 : decide ((m : Int) < (x.bs.length : Int)) = false := by simp; omega
          have hd4 : decide (m < x.bs.length) = false := by simp; omega
          have low : w.heap.size < wr.heap.size := by omega
          clear hgd
          go_wp2_with fail
          go_roundw
          case rel => exact ⟨k + 1, by omega, by go_num, by rw [Hw.out]; rfl, by rw [Hs.out, List.append_nil]; exact OWN5.out _ ((Below.refl _ _).alloc (Nat.le_refl _) _), Hb.out.trans (Below.mono ((Below.refl _ _).alloc (Nat.le_refl _) _) lw)⟩
          case measure => simp [intOf]; omega
    · obtain rfl : k = t.L.length := by omega
      have hd1 : decide ((t.L.length : Int) < (t.L.length : Int)) = false := by simp
      have hRr := HR.out.below hb
      have f1 := hRr.frozen 1
      have f2 := hRr.frozen 2
      obtain ⟨-, -, c2⟩ := hRr.cell
      have hbk := heap_set (heap_set hRr.blk 1 u8) 2 (.int .i64 (-1))
      have k1 : Kept1 d wr ((wr.setCell ⟨d, 1, none⟩ u8).setCell ⟨d, 2, none⟩ (.int .i64 (-1))) := ((Kept1.refl d wr).setCell ⟨d, 1, none⟩ (.inl rfl) _).setCell ⟨d, 2, none⟩ (.inl rfl) _
      have hnd : u8.ownBlock ≠ some d := fun e => by have := (hown.lt d e).1; omega
      have key : Hid (Did w N d (.slice ad t.L.length cp) ⟨t.n, keptK x.bs t.L t.L.length, -1⟩ u8 ((wr.setCell ⟨d, 1, none⟩ u8).setCell ⟨d, 2, none⟩ (.int .i64 (-1)))) := Lib.hid (by
        refine ⟨⟨hbk, ?_, hnd, H.out.dN⟩, ?_, fun k hk => .inr ?_⟩
        · have := own_same (w' := (wr.setCell ⟨d, 1, none⟩ u8).setCell ⟨d, 2, none⟩ (.int .i64 (-1))) hown fun g hg => k1.block g (hown.lt g hg).2 (fun e => hnd (by rw [hg, e]))
          obtain ⟨h1, h2⟩ := this
          refine ⟨h1, h2.imp id fun ⟨g, cap, cur, e, hb', hg, hc, hm, hsz, ht⟩ => ⟨g, cap, cur, e, ?_, hg, hc, hm, hsz, ht⟩⟩
          have := H.out.dN
          omega
        · exact ((KeptF.of_below (F := footR d (.slice ad t.L.length cp)) HB.out).trans (KeptF.of_below hb) fun _ _ h => h).trans (KeptF.of_kept1 (F := footR d (.slice ad t.L.length cp)) k1 fun _ => .inl rfl) fun _ _ h => h
        · have := (hown.lt k hk).1
          omega)
      obtain ⟨au, nu, cu, hu⟩ : ∃ a n c, u8 = .slice a n c := by
        rcases hown.2 with ⟨e, _⟩ | ⟨g, cap, cur, e, _⟩
        · exact ⟨_, _, _, e⟩
        · exact ⟨_, _, _, e⟩
      subst hu
      clear hRr hbk k1 hnd hown hb
      go_wp2_with fail
      go_ret2
      exact ⟨rfl, _, key.out⟩
end Go.Proofs.Ytammnjfccjfbhaa
