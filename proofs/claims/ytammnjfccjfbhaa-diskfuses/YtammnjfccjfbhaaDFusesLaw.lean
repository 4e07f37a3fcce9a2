/- DiskFuses: with a fuse just so many writes are done, then none, and nothing is read, till a crash: the walk. -/
import Derived.Test.YtammnjfccjfbhaaDCrash
import Derived.Test.YtammnjfccjfbhaaDOwnLaw
namespace Go.Proofs.Ytammnjfccjfbhaa
open Go.RowKit

/-- a disk of one sector with a fuse of f, i writes tried -/
structure FuseSt (f i : Nat) (s : DSt) : Prop where
  one : s.S.length = 1
  ws : s.ws.length = min i f
  fuse : s.fuse = ((f - min i f : Nat) : Int)
  gone : s.gone = decide (f ≤ i)
theorem FuseSt.wrote {f i : Nat} {s : DSt} (h : FuseSt f i s) (hi : i < f) (b : List UInt8) : FuseSt f (i + 1) (s.wrote 0 b) := by
  obtain ⟨h1, h2, h3, h4⟩ := h
  have hp : 0 < s.fuse := by omega
  unfold DSt.wrote DSt.burnt
  rw [if_pos (by exact hp)]
  refine ⟨by simpa using h1, ?_, ?_, ?_⟩
  · simp only [List.length_append, List.length_singleton, h2]; omega
  · show s.fuse - 1 = _
    omega
  · show (s.fuse - 1 == 0) = _
    rw [Bool.eq_iff_iff]
    simp
    omega
theorem FuseSt.stay {f i : Nat} {s : DSt} (h : FuseSt f i s) (hi : f ≤ i) : FuseSt f (i + 1) s := by
  obtain ⟨h1, h2, h3, h4⟩ := h
  refine ⟨h1, by omega, by omega, ?_⟩
  rw [h4, decide_eq_decide]
  omega
/-- what the loop keeps -/
structure FuseRel (w : World) (f i : Nat) (wr : World) : Prop where
  here : ∃ v s, DAt wr w.heap.size (w.heap.size + 1) w.heap.size v s ∧ FuseSt f i s
  below : Below w.heap.size w wr
set_option maxRecDepth 100000 in
set_option maxHeartbeats 2000000 in
theorem fuses_any (w : World) (c c' : UInt8) : Calls Try.prog 5 #[B c, B c'] w fun e w' => e = .returned (.bool true) ∧ Below w.heap.size w w' := by
  obtain ⟨f, hf⟩ : ∃ f : Nat, f = c.toNat % 50 := ⟨_, rfl⟩
  obtain ⟨q, hq⟩ : ∃ q : Nat, q = c'.toNat % 9 := ⟨_, rfl⟩
  have hfi : (c.toNat : Int) % 50 = (f : Int) := by omega
  have hqi : (c'.toNat : Int) % 9 = (q : Int) := by omega
  have hf50 : f < 50 := by omega
  have hq9 : q < 9 := by omega
  have hc := c.toNat_lt
  have hc' := c'.toNat_lt
  clear hf hq
  go_enter Try.func5, Try.ntmps5
  go_wp2_with fail
  refine (new_any w 1).mono ?_
  rintro e w1 ⟨rfl, D1, b1, -⟩
  rw [show secN 1 = 1 from rfl] at D1
  have HD := Lib.hid D1
  have HB := Lib.hid b1
  clear D1 b1
  go_wp2_with fail
  refine (awake_any w1).mono ?_
  rintro e w2 ⟨rfl, b2⟩
  have HD2 := Lib.hid (HD.out.below b2)
  have HB2 := Lib.hid (HB.out.trans (b2.mono HB.out.size))
  clear b2 HD HB
  go_wp2_with fail
  refine (fuse_any w2 _ _ _ _ _ HD2.out rfl (f : Int)).mono ?_
  rintro e w3 ⟨rfl, D3, k3⟩
  have R3 : FuseRel w f 0 w3 := ⟨⟨_, _, D3, ⟨rfl, by simp [DSt.new], by simp, by rw [show ((f : Int) == 0) = (f == 0) by rw [Bool.eq_iff_iff, beq_iff_eq, beq_iff_eq]; omega]; cases f <;> rfl⟩⟩, Kept1.mono HB2.out k3 (by omega)⟩
  have HR3 := Lib.hid R3
  clear D3 k3 R3 HD2 HB2
  go_wp2_with fail
  go_loopw [6, 7] (fun dn i wr => ∃ k : Nat, k ≤ f + 1 + q ∧ i = .int .i64 k ∧ dn = .int .i64 ((min k f : Nat) : Int) ∧ FuseRel w f k wr) (fun _ i _ => f + 1 + q - (intOf i).toNat)
  case atStart => exact ⟨0, by omega, rfl, by simp, HR3.out⟩
  case round =>
    obtain ⟨k, hk, rfl, rfl, hr⟩ := hrel
    obtain ⟨v, s, hD, hS⟩ := hr.here
    have HD := Lib.hid hD
    have HS := Lib.hid hS
    have Hb := Lib.hid hr.below
    have hg := hS.gone
    have hws := hS.ws
    have Hws := Lib.hid hws
    clear hr hD hS HR3 hws
    by_cases hlt : k < f + 1 + q
    · have hd : decide ((k : Int) < (f : Int) + 1 + (q : Int)) = true := by simp; omega
      by_cases hkf : k < f
      · rw [show decide (f ≤ k) = false by simp; omega] at hg
        have Hg := Lib.hid hg
        have hmn : min k f = k := by omega
        rw [hmn]
        clear hg hmn
        go_wp2_with fail
        refine (sector_any wr c').mono ?_
        rintro e w4 ⟨rfl, b4, hx, -⟩
        have HD4 := Lib.hid (HD.out.below b4)
        have HB4 := Lib.hid (Hb.out.trans (b4.mono Hb.out.size))
        have HW := Lib.hid (write_any w4 _ _ _ _ _ HD4.out Hg.out 0 (by rw [HS.out.one]; omega) (sec64 c') (length_sec64 c') wr.heap.size 0 64 (range_block0 hx) (lt_block hx) (by rw [Hws.out]; omega) (by rw [HS.out.fuse]; omega))
        clear b4 hx
        go_wp2_with fail
        refine HW.out.mono ?_
        rintro e w5 ⟨rfl, v', hw⟩
        have HR5 : Hid (FuseRel w f (k + 1) w5) := Lib.hid ⟨⟨_, _, hw.at', HS.out.wrote hkf _⟩, hw.below HD4.out HB4.out (Nat.le_refl _)⟩
        clear hw HW
        go_wp2_with fail
        go_roundw
        case rel => exact ⟨k + 1, by omega, by go_num, by congr 1; omega, HR5.out⟩
        case measure => simp [intOf]; omega
      · rw [show decide (f ≤ k) = true by simp; omega] at hg
        have Hg := Lib.hid hg
        have hmn : min k f = f := by omega
        rw [hmn]
        clear hg hmn
        go_wp2_with fail
        refine (sector_any wr c').mono ?_
        rintro e w4 ⟨rfl, b4, hx, -⟩
        have HD4 := Lib.hid (HD.out.below b4)
        have HB4 := Lib.hid (Hb.out.trans (b4.mono Hb.out.size))
        have HW := Lib.hid (write_gone w4 _ _ _ _ _ HD4.out Hg.out 0 (.slice (some ⟨wr.heap.size, 0, none⟩) 64 64))
        have HR5 : Hid (FuseRel w f (k + 1) w4) := Lib.hid ⟨⟨_, _, HD4.out, HS.out.stay (by omega)⟩, HB4.out⟩
        clear b4 hx
        go_wp2_with fail
        refine HW.out.mono ?_
        rintro e w5 ⟨rfl, rfl⟩
        clear HW
        go_wp2_with fail
        go_roundw
        case rel => exact ⟨k + 1, by omega, by go_num, by congr 1; omega, HR5.out⟩
        case measure => simp [intOf]; omega
    · obtain rfl : k = f + 1 + q := by omega
      have hd : decide (((f + 1 + q : Nat) : Int) < (f : Int) + 1 + (q : Int)) = false := decide_eq_false (by omega)
      have hd2 : ((f + 1 + q : Nat) : Int) = (f : Int) + 1 + (q : Int) := by omega
      rw [decide_eq_true (by omega : f ≤ f + 1 + q)] at hg
      have hmn : min (f + 1 + q) f = f := by omega
      rw [hmn, hd2]
      have Hg := Lib.hid hg
      have R1 := Lib.hid (read_gone wr _ _ _ _ _ HD.out Hg.out 0)
      have R2 := Lib.hid (flush_gone wr _ _ _ _ _ HD.out Hg.out)
      have R3 := waits_any wr _ _ _ _ _ HD.out
      rw [Hws.out, hmn] at R3
      have HR3 := Lib.hid R3
      have R4 := Lib.hid (crash_any wr _ _ _ _ _ HD.out (by rw [Hws.out]; omega) none 0 0 0 [] (by simp) (fun h => absurd rfl h) (fun j hj => by cases hj) (fun h => absurd rfl h))
      clear hg hd hd2 hmn R3
      go_wp2_with fail
      refine R1.out.mono ?_
      rintro e w' ⟨rfl, rfl⟩
      go_wp2_with fail
      refine R2.out.mono ?_
      rintro e w' ⟨rfl, rfl⟩
      go_wp2_with fail
      refine HR3.out.mono ?_
      rintro e w' ⟨rfl, rfl⟩
      go_wp2_with fail
      refine R4.out.mono ?_
      rintro e w5 ⟨rfl, D5, K5⟩
      have h1 : (s.crash []).S.length = 1 := by simp only [DSt.crash, length_redoL, length_undoL]; exact HS.out.one
      have B5 := KeptF.mono Hb.out K5 (Nat.le_refl _) fun _ hF => (HD.out.footN hF).1
      have HB5 := Lib.hid B5
      have HD5 := Lib.hid D5
      have H1 := Lib.hid h1
      obtain ⟨b0, hb0⟩ : ∃ b, (s.crash []).S[0]? = some b := ⟨_, List.getElem?_eq_getElem (by rw [h1]; omega)⟩
      have R6 := Lib.hid (read_any w5 _ _ _ _ _ D5 rfl 0 (by rw [h1]; omega) b0 hb0)
      clear D5 K5 h1 B5 R1 R2 HR3 R4 hb0
      go_wp2_with fail
      refine R6.out.mono ?_
      rintro e w6 ⟨rfl, b6, -, -⟩
      have HD6 := Lib.hid (HD5.out.below b6)
      have HB6 := Lib.hid (HB5.out.trans (b6.mono HB5.out.size))
      clear b6 R6
      have S6 := Lib.hid (sector_any w6 1)
      rw [show B 1 = .int .u8 1 from rfl] at S6
      go_wp2_with fail
      refine S6.out.mono ?_
      rintro e w7 ⟨rfl, b7, hx, -⟩
      have HD7 := Lib.hid (HD6.out.below b7)
      have HB7 := Lib.hid (HB6.out.trans (b7.mono HB6.out.size))
      have HW := Lib.hid (write_any w7 _ _ _ _ _ HD7.out rfl 0 (by rw [H1.out]; omega) (sec64 1) (length_sec64 1) w6.heap.size 0 64 (range_block0 hx) (lt_block hx) (by simp [DSt.crash]) (by simp [DSt.crash]))
      clear b7 hx
      go_wp2_with fail
      refine HW.out.mono ?_
      rintro e w8 ⟨rfl, v', hw⟩
      have HB8 := Lib.hid (hw.below HD7.out HB7.out (Nat.le_refl _))
      clear hw HW
      go_wp2_with fail
      go_ret
      exact ⟨rfl, HB8.out⟩
end Go.Proofs.Ytammnjfccjfbhaa
