/- Bytes put behind the rest, and each block that gets whole mixed. -/
import Derived.Test.YtmegncaadglhmaaDoorHash
import Derived.Laws.CopyOwn
namespace Go.Proofs.YtmegncaadglhmaaDoor
open Go.RowKit

/-- a slice value whose bytes are l; where there are any they lie in block g -/
structure BytesAt (w : World) (ad : Option Addr) (g o : Nat) (l : List UInt8) : Prop where
  at' : l ≠ [] → ad = some ⟨g, o, none⟩
  cell : ∀ j, (h : j < l.length) → w.cell? ⟨g, o + j, none⟩ = some (B (l[j]))
theorem BytesAt.kept {w w' : World} {ad : Option Addr} {g o c : Nat} {l : List UInt8} (h : BytesAt w ad g o l) (hk : Kept1 c w w') (hg : g ≠ c) : BytesAt w' ad g o l :=
  ⟨h.at', fun j hj => by rw [hk.cell (block_lt_of_cell (h.cell j hj)) hg]; exact h.cell j hj⟩

/-- 'b[n:]' -/
theorem slice_from (ad : Option Addr) (g o len cap n : Nat) (hn : n ≤ len) (hc : len ≤ cap) (had : ad = some ⟨g, o, none⟩) : ∃ ad', (n < len → ad' = some ⟨g, o + n, none⟩) ∧
    ∀ w, (Instr.sliceAt 31 (.slice ad len cap) (some (.int .i64 (n : Int))) none none).run Tryd.prog w = .ok (.slice ad' (len - n) (cap - n)) w := by
  refine ⟨if cap = n then ad else some ⟨g, o + n, none⟩, fun h => by rw [if_neg (by omega)], fun w => ?_⟩
  have e3 : ∀ w, (sizeOf 5).run Tryd.prog w = .ok 1 w := fun _ => by kernel_rfl
  have e1 : Tryd.prog.elem 31 = 5 := by kernel_rfl
  rw [run_sliceAt_slice (P := Tryd.prog) w 31 _ _ _ _ (by kernel_rfl), run_slice_l (P := Tryd.prog) w 31 ad len cap (by kernel_rfl) .i64 n (by omega) (by omega), e1, e3]
  subst had
  simp [sliced, Result.andThen, Addr.add_mid]

theorem slice64u (g o l : Nat) (x : Int) (hx : x = l) (hl : l < 64) (w : World) : (Instr.sliceAt 81 (.pointer (some ⟨g, o, none⟩)) (some (.int .u64 x)) none none).run Tryd.prog w = .ok (.slice (some ⟨g, o + l, none⟩) (64 - l) (64 - l)) w := by
  subst hx
  rw [run_sliceAt_array_l (P := Tryd.prog) w 81 ⟨g, o, none⟩ (by kernel_rfl) .u64 l (by omega) (by show (l : Int) ≤ 64; omega)]
  have e1 : Tryd.prog.elem 81 = 5 := by kernel_rfl
  have e2 : Tryd.prog.arrayLen 81 = 64 := by kernel_rfl
  have e3 : ∀ w, (sizeOf 5).run Tryd.prog w = .ok 1 w := fun _ => by kernel_rfl
  rw [e1, e2, e3]
  simp [slicedAt, Result.andThen, Addr.add_mid, show ¬ 64 = l by omega]
theorem info5 : (Tryd.prog.info? 5).map (·.size) = some 1 := by kernel_rfl

def sliceLen : Value → Nat | .slice _ n _ => n | _ => 0
theorem mix_any (w : World) (b : Nat) (t : TypeId) (s : St8) (rest : List UInt8) (n : Nat) (hd : DgAt w b t s rest n) (ht : Tab w) (hbn : b ≠ 0) :
    Calls Tryd.prog 46 #[.pointer (some ⟨b, 0, none⟩)] w fun e w' => e = .returned (.tuple #[]) ∧ DgAt w' b t (mixW (if n = 64 then start8 else s) rest) rest n ∧ Kept1 b w w' := by
  by_cases hn : n = 64
  · subst hn; rw [if_pos rfl]; exact mix_first w b t s rest hd ht hbn
  · rw [if_neg hn]; exact mix_some w b t s rest n hd ht (by simp; omega)
theorem slice_val {a b : Option Addr} {n n' c c' : Nat} (h1 : a = b) (h2 : n = n') (h3 : c = c') : Value.slice a n c = Value.slice b n' c' := by subst h1 h2 h3; rfl

set_option maxHeartbeats 1000000 in
theorem take_any (w : World) (b : Nat) (t : TypeId) (l0 l1 : List UInt8) (ad : Option Addr) (g o cap : Nat) (hh : Holds w b t l0) (ht : Tab w) (hbn : b ≠ 0)
    (hs : BytesAt w ad g o l1) (hg : g ≠ b) (hc : l1.length ≤ cap) (hm : l0.length + l1.length ≤ 1000000000000) :
    Calls Tryd.prog 43 #[.pointer (some ⟨b, 0, none⟩), .slice ad l1.length cap] w fun e w' => e = .returned (.tuple #[]) ∧ Holds w' b t (l0 ++ l1) ∧ Kept1 b w w' := by
  go_enter Tryd.func43, Tryd.ntmps43
  go_wp2_with fail
  go_loopw [1] (fun v wr => ∃ (j : Nat) (ad' : Option Addr), j ≤ l1.length ∧ v = .slice ad' (l1.length - j) (cap - j) ∧ (j < l1.length → ad' = some ⟨g, o + j, none⟩) ∧ Holds wr b t (l0 ++ l1.take j) ∧ Kept1 b w wr) (fun v _ => sliceLen v)
  case atStart => exact ⟨0, ad, by omega, rfl, fun h => hs.at' (by intro e; simp [e] at h), by simpa using hh, Kept1.refl _ _⟩
  case round =>
    obtain ⟨j, ad', hj, rfl, had, hr, hk⟩ := hrel
    by_cases hlt : j < l1.length
    · obtain ⟨s, rest, htk, hdg⟩ := hr.here
      have hlen : (l0 ++ l1.take j).length = l0.length + j := by simp; omega
      rw [hlen] at hdg
      obtain rfl := had hlt
      obtain ⟨n, hn⟩ : ∃ n, n = l0.length + j := ⟨_, rfl⟩
      rw [← hn] at hdg hlen
      obtain ⟨rem, hrem⟩ : ∃ rem, rem = l1.length - j := ⟨_, rfl⟩
      obtain ⟨cr, hcr⟩ : ∃ cr, cr = cap - j := ⟨_, rfl⟩
      rw [← hrem, ← hcr]
      obtain ⟨k, hk64⟩ : ∃ k, k = n % 64 := ⟨_, rfl⟩
      have hkl : k < 64 := by omega
      obtain ⟨m, hmm⟩ : ∃ m, m = Nat.min rem (64 - k) := ⟨_, rfl⟩
      have hm0 : 0 < m := by rw [hmm]; simp [Nat.min_def]; split <;> omega
      have hm1 : m ≤ rem := by rw [hmm]; exact Nat.min_le_left _ _
      have hm2 : m ≤ 64 - k := by rw [hmm]; exact Nat.min_le_right _ _
      obtain ⟨bs, hbs⟩ : ∃ bs, bs = (l1.drop j).take m := ⟨_, rfl⟩
      have hbl : bs.length = m := by rw [hbs]; simp; omega
      have hsrc : ∀ i v, (bs.map B)[i]? = some v → wr.cell? ((⟨g, o + j, none⟩ : Addr).add i) = some v := by
        intro i v hv
        obtain ⟨hi, rfl⟩ := List.getElem?_eq_some_iff.1 hv
        have hi' : i < m := by simpa [hbl] using hi
        have := hs.cell (j + i) (by omega)
        rw [Addr.add_mid, hk.cell (by rw [show o + j + i = o + (j + i) by omega]; exact block_lt_of_cell this) hg, Nat.add_assoc, this]
        simp [hbs]
      have hsz := hdg.size
      have hpos : decide ((0 : Int) < (rem : Int)) = true := by simp; omega
      have hsl := slice64u b 8 k (((n : Int) % 64)) (by omega)  hkl
      have hw1 : n ≤ 1000000000000 := by omega
      have hw2 : rem ≤ 1000000000000 := by omega
      have Htk := Lib.hid htk
      have Hdg := Lib.hid hdg
      have Hlen := Lib.hid hlen
      have Hn := Lib.hid hn
      have Hrem := Lib.hid hrem
      have Hcr := Lib.hid hcr
      have Hk64 := Lib.hid hk64
      have Hmm := Lib.hid hmm
      have Hbs := Lib.hid hbs
      have Hbl := Lib.hid hbl
      have Hk := Lib.hid hk
      have Hr := Lib.hid hr
      have Hsrc := Lib.hid hsrc
      clear htk hdg hlen hn hrem hcr hk64 hmm hbs hbl hk hr hsrc had
      go_wp2_with fail
      refine wp_region_quiet_tail 10 (by kernel_rfl) (by kernel_rfl) ?_
      simp only [List.take_succ_cons, List.take_zero, List.drop_succ_cons, List.drop_zero]
      iterate 10 (go_big_quiet_step (fail))
      refine wpQuiet_nil ?_
      intro q
      have hblk : (wr.drewN q).heap[b]? = some (.cells (dg s rest n).toArray t (0, 0)) := Hdg.out.blk
      refine wpList_copy_own rfl (.tmp 16) (.tmp 17) 31 31 rfl 5 Tryd.underlying31 info5 b (8 + k) (64 - k) (64 - k) ⟨g, o + j, none⟩ rem cr rfl rfl (dg s rest n).toArray t hblk (bs.map B) (by simp [Hbl.out, Hmm.out]) Hsrc.out (by simp [length_dg _ _ _ Hdg.out.len, Hbl.out]; omega) (by intro v hv; obtain ⟨x, _, rfl⟩ := List.mem_map.1 hv; rfl) ?_
      have hd2 := (DgAt.copy (w := wr.drewN q) ⟨Hdg.out.len, hblk⟩ k bs (by rw [Hbl.out]; omega))
      have hk2 : Kept1 b wr ((wr.drewN q).setRow b ((dg s rest n).toArray.toList.take (8 + k) ++ (bs.map B ++ (dg s rest n).toArray.toList.drop (8 + k + (bs.map B).length))).toArray) := Kept1.setRow ((Kept1.refl _ _).drewN q) b (Or.inl rfl) _
      rw [show goInt (bs.map B).length = .int .i64 (m : Int) by simp [goInt, Hbl.out]]
      generalize (wr.drewN q).setRow b ((dg s rest n).toArray.toList.take (8 + k) ++ (bs.map B ++ (dg s rest n).toArray.toList.drop (8 + k + (bs.map B).length))).toArray = w2 at *
      generalize hR : setR rest k bs = rest2 at *
      have HR := Lib.hid hR
      have hsz2 := hd2.size
      have hfr2 := frozen_of_row w2 b 72 _ _ hd2.blk
      obtain ⟨ad2, had2, hsl2⟩ := slice_from (some ⟨g, o + j, none⟩) g (o + j) rem cr m hm1 (by have := Hrem.out; have := Hcr.out; omega) rfl
      have Hd2 := Lib.hid hd2
      have Hk2 := Lib.hid hk2
      have Had2 := Lib.hid had2
      clear hR hd2 hk2 had2 hblk hsl hsz
      have hd3 : DgAt (w2.setCell ⟨b, 72, none⟩ (.int .u64 ((n : Int) + (m : Int)))) b t s rest2 (n + m) := Hd2.out.setSize (n + m)
      have hk3 : Kept1 b w (w2.setCell ⟨b, 72, none⟩ (.int .u64 ((n : Int) + (m : Int)))) := (Hk.out.trans Hk2.out).setCell _ (Or.inl rfl) _
      have Hd3 := Lib.hid hd3
      have Hk3 := Lib.hid hk3
      clear hd3 hk3
      have hsplit : l0 ++ l1.take (j + m) = (l0 ++ l1.take j) ++ bs := by rw [Hbs.out, List.take_add, List.append_assoc]
      have Hsplit := Lib.hid hsplit
      clear hsplit
      by_cases hfull : (n + m) % 64 = 0
      · have hB : ((((n : Int) + (m : Int)) % 64) == 0) = true := by simp; omega
        go_wp2_with fail
        refine (mix_any _ b t s rest2 (n + m) Hd3.out (ht.kept Hk3.out (Ne.symm hbn)) hbn).mono ?_
        rintro e w4 ⟨rfl, hd4, hk4⟩
        have Hd4 := Lib.hid hd4
        have Hk4 := Lib.hid hk4
        clear hd4 hk4
        go_wp2_with fail
        go_roundw
        case rel =>
          refine ⟨j + m, ad2, ?_, slice_val rfl ?_ ?_, ?_, ?_, Hk3.out.trans Hk4.out⟩
          · have := Hrem.out; omega
          · have := Hrem.out; omega
          · have := Hcr.out; omega
          · intro h; rw [Had2.out (by have := Hrem.out; omega)]; congr 2; omega
          · have htf := took_full Htk.out bs (by rw [Hlen.out, Hbl.out]; have := Hk64.out; omega)
            rw [Hlen.out, ← Hk64.out, Hbl.out, HR.out, ← Hsplit.out] at htf
            refine ⟨_, _, htf, ?_⟩
            rw [Hsplit.out, List.length_append, Hlen.out, Hbl.out]
            exact Hd4.out
        case measure => simp only [sliceLen]; omega
      · have hB : ((((n : Int) + (m : Int)) % 64) == 0) = false := by simp; omega
        go_wp2_with fail
        go_roundw
        case rel =>
          refine ⟨j + m, ad2, ?_, slice_val rfl ?_ ?_, ?_, ?_, Hk3.out⟩
          · have := Hrem.out; omega
          · have := Hrem.out; omega
          · have := Hcr.out; omega
          · intro h; rw [Had2.out (by have := Hrem.out; omega)]; congr 2; omega
          · have htp := took_part Htk.out bs (by rw [Hlen.out, Hbl.out]; have := Hk64.out; omega)
            rw [Hlen.out, ← Hk64.out, HR.out, ← Hsplit.out] at htp
            refine ⟨_, _, htp, ?_⟩
            rw [Hsplit.out, List.length_append, Hlen.out, Hbl.out]
            exact Hd3.out
        case measure => simp only [sliceLen]; omega
    · obtain rfl : j = l1.length := by omega
      have hpos : decide ((0 : Int) < ((l1.length - l1.length : Nat) : Int)) = false := by simp
      rw [List.take_length] at hr
      have Hr := Lib.hid hr
      have Hk := Lib.hid hk
      clear hr hk had hlt hj
      go_wp2_with fail
      go_end0
      exact ⟨rfl, Hr.out, Hk.out⟩
end Go.Proofs.YtmegncaadglhmaaDoor
