/- Bytes read off a tape, and bytes of one's own, as parts; the small functions of a sector that ask its bytes; Whether nothing else stands behind a part; More of it. -/
import Derived.Test.YtlhfdlfbnnfjjaaDoorJ08
import Derived.Test.YtlhfdlfbnnfjjaaDoorJ11
import Derived.Laws.AppendOwn
namespace Go.Proofs.YtlhfdlfbnnfjjaaDoor
open Go.RowKit

set_option maxRecDepth 100000 in
theorem bsrc_part {w : World} {p : Part} (h : p.In w) : BSrc w p.val p.l := by
  by_cases hl : p.l = []
  · refine .inl ⟨p.ad, p.cap, ?_, hl⟩
    unfold Part.val; rw [hl]; rfl
  · refine .inr ⟨p.g, p.o, p.cap, ?_, fun j hj => h.bytes.cell j hj⟩
    unfold Part.val; rw [h.bytes.at' hl]
set_option maxRecDepth 100000 in
/-- a text's bytes are new -/
theorem conv_stringP (w : World) (s : ByteArray) : ∃ (p : Part) (w' : World), (convert 9 32 (.string s)).run Tryd.prog w = .ok p.val w' ∧ p.In w' ∧ p.l = s.data.toList ∧ (∃ cp, p = ⟨some ⟨w.heap.size, 0, none⟩, w.heap.size, 0, cp, s.data.toList⟩) ∧ Below w.heap.size w w' ∧ w'.heap.size = w.heap.size + 1 := by
  have h := run_bytes_of_string (P := Tryd.prog) w 9 32 5 s Tryd.underlying9 Tryd.underlying32 Tryd.underlying5
  refine ⟨⟨some ⟨w.heap.size, 0, none⟩, w.heap.size, 0, grownCap w s.size 0 5, s.data.toList⟩, _, by rw [h]; rfl, ⟨⟨fun _ => rfl, fun j hj => ?_⟩, ?_, by simp⟩, rfl, ⟨_, rfl⟩, ((Below.refl _ _).drew.alloc (Nat.le_refl _) _), by simp⟩
  · dsimp only at hj ⊢
    rw [Nat.zero_add]
    refine (cell_block (g := w.heap.size) (heap_alloc_new w.drew _) j).trans ?_
    have hj' : j < s.size := by simpa using hj
    have := grownCap_ge w s.size 0 5
    unfold bytesRow
    rw [Array.getElem?_append_left (by simpa using hj'), Array.getElem?_map, Array.getElem?_eq_getElem (by simpa using hj')]
    rfl
  · simpa using grownCap_ge w s.size 0 5
set_option maxRecDepth 100000 in
/-- 'b[:k]' -/
theorem slice_hiP (p : Part) (k : Nat) (hk : k ≤ p.l.length) (hc : p.l.length ≤ p.cap) : ∃ q : Part, q.l = p.l.take k ∧ q.g = p.g ∧ q.o = p.o ∧ (∀ w, p.In w → q.In w) ∧ ((p.ad = none → p.cap = 0) → q.ad = none → q.cap = 0) ∧ q.cap = p.cap ∧
    ∀ w, (Instr.sliceAt 32 (.slice p.ad p.l.length p.cap) none (some (.int .i64 (k : Int))) none).run Tryd.prog w = .ok (.slice q.ad q.l.length q.cap) w := by
  refine ⟨⟨p.ad, p.g, p.o, p.cap, p.l.take k⟩, rfl, rfl, rfl, fun w h => ⟨⟨fun hn => h.bytes.at' (by intro e; rw [e] at hn; simp at hn), fun j hj => ?_⟩, ?_, h.lt⟩, fun h => h, rfl, fun w => ?_⟩
  · have := h.bytes.cell j (by simp at hj; omega); simpa using this
  · have := h.cap; simp; omega
  · have e3 : ∀ w, (sizeOf 5).run Tryd.prog w = .ok 1 w := fun _ => by kernel_rfl
    have e1 : Tryd.prog.elem 32 = 5 := by kernel_rfl
    rw [run_sliceAt_slice (P := Tryd.prog) w 32 _ _ _ _ (by kernel_rfl), run_slice_h (P := Tryd.prog) w 32 p.ad p.l.length p.cap (by kernel_rfl) .i64 k (by omega) (by omega), e1, e3]
    have em : min k p.l.length = k := by omega
    cases p.ad <;> simp [sliced, Result.andThen, em, Addr.add]
set_option maxRecDepth 100000 in
/-- 'b[k:]' -/
theorem slice_loP (p : Part) (k : Nat) (hk : k ≤ p.l.length) (hc : p.l.length ≤ p.cap) (hat : p.l ≠ [] → p.ad = some ⟨p.g, p.o, none⟩) : ∃ q : Part, q.l = p.l.drop k ∧ q.g = p.g ∧ (∀ w, p.In w → q.In w) ∧ ((p.ad = none → p.cap = 0) → q.ad = none → q.cap = 0) ∧ q.cap = p.cap - k ∧
    ∀ w, (Instr.sliceAt 32 (.slice p.ad p.l.length p.cap) (some (.int .i64 (k : Int))) none none).run Tryd.prog w = .ok (.slice q.ad q.l.length q.cap) w := by
  refine ⟨⟨if p.cap = k then p.ad else p.ad.map (·.add k), p.g, p.o + k, p.cap - k, p.l.drop k⟩, rfl, rfl, fun w h => ⟨⟨fun hn => ?_, fun j hj => ?_⟩, ?_, h.lt⟩, fun h hn => ?_, rfl, fun w => ?_⟩
  · dsimp only at hn ⊢
    have hkl : k < p.l.length := by
      rcases Nat.lt_or_ge k p.l.length with h | h
      · exact h
      · exact absurd (List.drop_eq_nil_of_le h) hn
    rw [if_neg (by omega), hat (by intro e; rw [e] at hkl; cases hkl)]
    simp [Addr.add_mid]
  · have hj' : k + j < p.l.length := by simp at hj; omega
    have := h.bytes.cell (k + j) hj'
    dsimp only
    rw [show p.o + k + j = p.o + (k + j) by omega, this]
    simp
  · have := h.cap; simp; omega
  · dsimp only at hn ⊢
    split at hn
    · rw [h hn]; omega
    · have : p.ad = none := by simpa using hn
      rw [h this]; omega
  · have e3 : ∀ w, (sizeOf 5).run Tryd.prog w = .ok 1 w := fun _ => by kernel_rfl
    have e1 : Tryd.prog.elem 32 = 5 := by kernel_rfl
    rw [run_sliceAt_slice (P := Tryd.prog) w 32 _ _ _ _ (by kernel_rfl), run_slice_l (P := Tryd.prog) w 32 p.ad p.l.length p.cap (by kernel_rfl) .i64 k (by omega) (by omega), e1, e3]
    simp [sliced, Result.andThen]
set_option maxRecDepth 100000 in
set_option maxHeartbeats 1000000 in
theorem inRawP_any (w : World) (t : Nat) (T : TypeId) (st : Option ByteArray) (n : Int) (h : Tape w t T st) :
    Calls Tryd.prog 44 #[.pointer (some ⟨t, 0, none⟩), .int .i64 n] w fun e w' => ∃ p : Part, e = .returned p.val ∧ p.In w' ∧ p.l = (takeM st n).1.data.toList ∧ (p.ad = none → p.cap = 0) ∧ w.heap.size ≤ p.g ∧ Tape w' t T (takeM st n).2 ∧ Kept1 t w w' := by
  have N := Lib.hid (ctake_any w t T st n h)
  have hlt := h.lt
  clear h
  generalize takeM st n = r at *
  go_enter Tryd.func44, Tryd.ntmps44
  go_wp2_with fail
  refine N.out.mono ?_
  rintro e w2 ⟨rfl, ht, hk⟩
  obtain ⟨p, w3, hcv, hin, hpl, ⟨cp, hp⟩, hb, _⟩ := conv_stringP w2 r.1
  have HT := Lib.hid (ht.below hb)
  have HK := Lib.hid (hk.trans (Kept1.of_below hb))
  have HS := Lib.hid hin
  have HL := Lib.hid hpl
  have HG : Hid ((p.ad = none → p.cap = 0) ∧ w.heap.size ≤ p.g) := Lib.hid (by subst hp; exact ⟨(fun e => by cases e), hk.size⟩)
  clear ht hk N hb hin hpl hp
  obtain ⟨v, hv⟩ : ∃ v, p.val = v := ⟨_, rfl⟩
  rw [hv] at hcv
  have HV := Lib.hid hv
  clear hv
  go_wp2_with fail
  go_ret
  exact ⟨p, by rw [HV.out]; rfl, HS.out, HL.out, HG.out.1, HG.out.2, HT.out, HK.out⟩
end Go.Proofs.YtlhfdlfbnnfjjaaDoor
namespace Go.Proofs.YtlhfdlfbnnfjjaaDoor
open Go.RowKit

def noughtsB (l : List UInt8) : Bool := l.all (· == 0)
set_option maxRecDepth 100000 in
theorem noughts_any (w : World) (p : Part) (hp : p.In w) (hm : p.l.length ≤ 1000) :
    Calls Tryd.prog 61 #[.slice p.ad p.l.length p.cap] w fun e w' => e = .returned (.bool (noughtsB p.l)) ∧ w = w' := by
  have HP := Lib.hid hp
  clear hp
  go_enter Tryd.func61, Tryd.ntmps61
  go_wp2
  go_loopw [4, 7] (fun _ i wr => ∃ k : Nat, k ≤ p.l.length ∧ i = .int .i64 k ∧ noughtsB (p.l.take k) = true ∧ w = wr) (fun _ i _ => p.l.length - (intOf i).toNat)
  case atStart => exact ⟨0, by omega, rfl, rfl, rfl⟩
  case round =>
    obtain ⟨k, hk, rfl, hz, rfl⟩ := hrel
    by_cases hlt : k < p.l.length
    · have hd : decide ((k : Int) < (p.l.length : Int)) = true := by simp; omega
      have hat := HP.out.bytes.at' (by intro e; rw [e] at hlt; cases hlt)
      have hcell := HP.out.bytes.cell k hlt
      have e0 : p.l.take (k + 1) = p.l.take k ++ [p.l[k]] := List.take_succ_eq_append_getElem hlt
      have hall : noughtsB p.l = (noughtsB (p.l.take k) && ((p.l[k] == 0) && noughtsB (p.l.drop (k + 1)))) := by
        have e : p.l = p.l.take k ++ (p.l[k] :: p.l.drop (k + 1)) := by rw [← List.drop_eq_getElem_cons hlt, List.take_append_drop]
        exact (congrArg noughtsB e).trans (by simp only [noughtsB, List.all_append, List.all_cons])
      rw [hz, Bool.true_and] at hall
      by_cases hc : p.l[k] = 0
      · have hb : (((p.l[k]).toNat : Int) != 0) = false := by rw [hc]; rfl
        have HZ : Hid (noughtsB (p.l.take (k + 1)) = true) := Lib.hid (by rw [e0]; simp only [noughtsB, List.all_append] at hz ⊢; rw [hz, hc]; rfl)
        generalize p.l[k] = c at *
        clear hz hall e0 hc
        go_wp2
        go_roundw
        case rel => exact ⟨k + 1, by omega, by go_num, HZ.out, trivial⟩
        case measure => simp [intOf]; omega
      · have hb : (((p.l[k]).toNat : Int) != 0) = true := by
          have : ((p.l[k]).toNat : Int) ≠ 0 := fun e => hc (UInt8.toNat_inj.1 (by simpa using e))
          simpa using this
        have hf : (p.l[k] == 0) = false := by simpa using hc
        rw [hf, Bool.false_and] at hall
        have HA := Lib.hid hall
        generalize p.l[k] = c at *
        clear hz hall e0 hc hf
        go_wp2
        go_ret
        exact ⟨by rw [HA.out]; rfl, rfl⟩
    · have hd : decide ((k : Int) < (p.l.length : Int)) = false := by simp; omega
      obtain rfl : k = p.l.length := by omega
      rw [List.take_length] at hz
      have HZ := Lib.hid hz
      clear hz
      go_wp2
      go_ret
      exact ⟨by rw [HZ.out]; rfl, rfl⟩
end Go.Proofs.YtlhfdlfbnnfjjaaDoor
namespace Go.Proofs.YtlhfdlfbnnfjjaaDoor
set_option maxRecDepth 100000 in
theorem abc : shaOf [97, 98, 99] = [0xba, 0x78, 0x16, 0xbf, 0x8f, 0x01, 0xcf, 0xea, 0x41, 0x41, 0x40, 0xde, 0x5d, 0xae, 0x22, 0x23, 0xb0, 0x03, 0x61, 0xa3, 0x96, 0x17, 0x7a, 0x9c, 0xb4, 0x10, 0xff, 0x61, 0xf2, 0x00, 0x15, 0xad] := by decide +kernel
end Go.Proofs.YtlhfdlfbnnfjjaaDoor
