/- The reference's texts one behind the other. -/
import Derived.Test.YtmegncaadglhmaaDoorRefSum
import Derived.Laws.AppendOwnNone
namespace Go.Proofs.YtmegncaadglhmaaDoor
open Go.RowKit

/-- a part laid behind owned bytes -/
theorem wpList_append_part {ops : Array Oper} {rest : List Oper} {o : Oper} {a : Act} {w : World} {Q : Exit → Act → World → Prop} (hgd : o.guard = none) (s x : Operand)
    (ho : o.op = .call { callee := .builtin .append, args := #[s, x], argTypes := #[31, 31] }) (base : Nat) (v : Value) (n : Nat) (L : List UInt8) (hs : a.eval s = v) (hown : w.ownsRow base 5 1 v n (L.map B))
    (p : Part) (hp : p.In w) (hnil : p.ad = none → p.cap = 0) (hx : a.eval x = .slice p.ad p.l.length p.cap) (hlen : n + p.l.length ≤ 1000000) (hbase : base ≤ w.heap.size)
    (h : ∀ v' w', w'.ownsRow base 5 1 v' (n + p.l.length) ((L ++ p.l).map B) → Below base w w' → wpList Tryd.prog ops Q rest (a.put o.dst v') w') : wpList Tryd.prog ops Q (o :: rest) a w := by
  obtain ⟨i, hi, hz, hsz, hby⟩ := info_parts (show (Tryd.prog.info? 5).map (fun i => (i.zero, i.size, i.bytes)) = some (some (.int .u8 0), 1, 1) by kernel_rfl)
  cases had : p.ad with
  | none =>
    have hl : p.l = [] := by
      by_cases hl : p.l = []
      · exact hl
      · have := hp.bytes.at' hl
        rw [had] at this; cases this
    rw [had, hl, hnil had] at hx
    refine wpList_append_own_none hgd s x 31 ho base 5 i 1 Tryd.underlying31 hi v n (L.map B) hs hown hx ?_
    have := h v w (by rw [hl]; simpa using hown) (Below.refl _ _)
    exact this
  | some ad =>
    rw [had] at hx
    refine wpList_append_own _ hgd s x 31 ho base 5 i (.int .u8 0) 1 1 Tryd.underlying31 hi hz hsz hby rfl (by omega) v n (L.map B) hs hown ad p.l.length p.cap (p.l.map B) hx (by simp) (fun j u hu => ?_) (by intro v hv; obtain ⟨y, _, rfl⟩ := List.mem_map.1 hv; rfl) (by unfold maxLen; omega) (by omega) hbase ?_
    · obtain ⟨hj, e⟩ := List.getElem?_eq_some_iff.1 hu
      have hne : p.l ≠ [] := by intro e; simp [e] at hj
      have h1 := hp.bytes.at' hne
      rw [had] at h1
      cases h1
      rw [Addr.add_mid, hp.bytes.cell j (by simpa using hj), ← e]; simp
    · intro v' w' hown' hg _
      refine h v' w' (by rw [List.map_append]; exact hown') ?_
      exact (Below.refl base w).grown hg hbase (fun b hb => (hown.lt b hb).1)

/-- owned bytes, as a part -/
theorem part_of_own {w : World} {base : Nat} {v : Value} {n : Nat} {L : List UInt8} (h : w.ownsRow base 5 1 v n (L.map B)) (hw : 0 < w.heap.size) : ∃ p : Part, p.val = v ∧ p.In w ∧ p.l = L ∧ (p.ad = none → p.cap = 0) ∧ p.o = 0 ∧ ∀ g, v.ownBlock = some g → p.g = g := by
  have hn : L.length = n := by have := h.1; simpa using this
  obtain ⟨_, h2⟩ := h
  rcases h2 with ⟨rfl, rfl⟩ | ⟨g, cap, cur, rfl, hb, hg, hc, hm, hsz, ht⟩
  · have : L = [] := by cases L with | nil => rfl | cons => simp at hn
    subst this
    exact ⟨⟨none, 0, 0, 0, []⟩, rfl, ⟨⟨fun h => absurd rfl h, fun j hj => by cases hj⟩, Nat.le_refl _, hw⟩, rfl, fun _ => rfl, rfl, fun g hg => by simp [Value.ownBlock] at hg⟩
  · refine ⟨⟨some ⟨g, 0, none⟩, g, 0, cap, L⟩, by unfold Part.val; rw [hn], ⟨⟨fun _ => rfl, fun j hj => ?_⟩, by show L.length ≤ cap; omega, lt_block hg⟩, rfl, (fun h => by simp at h), rfl, fun g' hg' => by simpa [Value.ownBlock] using hg'⟩
    dsimp only at hj ⊢
    rw [Nat.zero_add, cell_of_row w g j cur 5 (0, 0) hg]
    have := congrArg (fun l => l[j]?) ht
    simp only [List.getElem?_take, List.getElem?_map] at this
    rw [if_pos (by omega)] at this
    simpa [hj] using this

theorem joined_snoc (ps : List Part) (k : Nat) (hk : k < ps.length) : joined (ps.take (k + 1)) = joined (ps.take k) ++ ps[k].l := by
  simp only [joined, List.take_succ_eq_append_getElem hk, List.flatMap_append, List.flatMap_cons, List.flatMap_nil, List.append_nil]
theorem length_joined_take (ps : List Part) (k : Nat) : (joined (ps.take k)).length ≤ (joined ps).length := by
  have : joined ps = joined (ps.take k) ++ joined (ps.drop k) := by rw [joined, joined, joined, ← List.flatMap_append, List.take_append_drop]
  rw [this, List.length_append]; omega

set_option maxRecDepth 100000 in
set_option maxHeartbeats 1000000 in
theorem joined_any (w : World) (ps : List Part) (ap : Option Addr) (gp op cp : Nat) (hp : PartsIn w ap gp op ps) (hnil : ∀ p ∈ ps, p.ad = none → p.cap = 0) (hm : (joined ps).length ≤ 100000) (hl : ps.length ≤ 1000) :
    Calls Tryd.prog 24 #[.slice ap ps.length cp] w fun e w' => ∃ v, e = .returned v ∧ w'.ownsRow w.heap.size 5 1 v (joined ps).length ((joined ps).map B) ∧ Below w.heap.size w w' := by
  have R0 : w.ownsRow w.heap.size 5 1 (.slice none 0 0) (joined (ps.take 0)).length ((joined (ps.take 0)).map B) := World.ownsRow_nil _ _ _ _
  have Hp := Lib.hid hp
  have Hnil := Lib.hid hnil
  have Hm := Lib.hid hm
  clear hp hnil hm
  go_enter Tryd.func24, Tryd.ntmps24
  go_wp2_with fail
  go_loopw [3, 4] (fun v i wr => ∃ k : Nat, k ≤ ps.length ∧ i = .int .i64 k ∧ wr.ownsRow w.heap.size 5 1 v (joined (ps.take k)).length ((joined (ps.take k)).map B) ∧ Below w.heap.size w wr) (fun _ i _ => ps.length - (intOf i).toNat)
  case atStart => exact ⟨0, by omega, rfl, R0, Below.refl _ _⟩
  case round =>
    clear R0
    obtain ⟨k, hk, rfl, hown, hb⟩ := hrel
    by_cases hlt : k < ps.length
    · have hd : decide ((k : Int) < (ps.length : Int)) = true := by simp; omega
      have hin : ps[k].In wr := (Hp.out.parts ps[k] (List.getElem_mem hlt)).below hb
      obtain rfl := Hp.out.at' (by intro e; rw [e] at hlt; cases hlt)
      have hcell : wr.cell? ⟨gp, op + k, none⟩ = some (.slice ps[k].ad ps[k].l.length ps[k].cap) := by
        rw [hb.cell (by exact Hp.out.lt), Hp.out.cell k hlt]; rfl
      have hbd := length_joined_take ps (k + 1)
      rw [joined_snoc ps k hlt, List.length_append] at hbd
      have hsn := joined_snoc ps k hlt
      have hnk := Hnil.out ps[k] (List.getElem_mem hlt)
      have Hmo := Hm.out
      have Hin := Lib.hid hin
      have Hown := Lib.hid hown
      have Hb := Lib.hid hb
      have Hsn := Lib.hid hsn
      have Hnk := Lib.hid hnk
      generalize ps[k] = q at *
      have hbs : w.heap.size ≤ wr.heap.size := hb.size
      clear hin hown hb hsn hnk
      go_wp2_with (at_builtin; refine wpList_append_part rfl (.tmp 11) (.tmp 15) rfl w.heap.size _ _ (joined (ps.take k)) rfl Hown.out q Hin.out Hnk.out rfl (by omega) hbs ?_)
      intro v' w' hown' hb'
      have hown2 : w'.ownsRow w.heap.size 5 1 v' (joined (ps.take (k + 1))).length ((joined (ps.take (k + 1))).map B) := by rw [Hsn.out, List.length_append, List.map_append]; exact hown'
      have hb2 := Hb.out.trans hb'
      have Hown2 := Lib.hid hown2
      have Hb2 := Lib.hid hb2
      clear hown' hb' hown2 hb2 Hown Hb
      go_wp2_with fail
      go_roundw
      case rel => exact ⟨k + 1, by omega, by go_num, Hown2.out, Hb2.out⟩
      case measure => simp [intOf]; omega
    · have hd : decide ((k : Int) < (ps.length : Int)) = false := by simp; omega
      have hkl : k = ps.length := by omega
      rw [hkl, List.take_length] at hown
      have Hown := Lib.hid hown
      have Hb := Lib.hid hb
      clear hown hb hkl
      go_wp2_with fail
      go_ret
      exact ⟨_, rfl, Hown.out, Hb.out⟩
end Go.Proofs.YtmegncaadglhmaaDoor
