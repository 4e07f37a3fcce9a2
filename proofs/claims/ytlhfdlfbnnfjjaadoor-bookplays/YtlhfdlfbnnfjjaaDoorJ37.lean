/- A book beside a row of records that are wanted; Calls that came in: how few they are; What appends leave of a book on a disk without a fuse. -/
import Derived.Test.YtlhfdlfbnnfjjaaDoorJ35
import Derived.Test.YtlhfdlfbnnfjjaaDoorJ32
import Derived.Test.YtlhfdlfbnnfjjaaDoorJ24
import Derived.Test.YtlhfdlfbnnfjjaaDoorJ36
namespace Go.Proofs.YtlhfdlfbnnfjjaaDoor
open Go.RowKit

structure CrM (w : World) (N d gs : Nat) (v : Value) (s : DSt) (b : Nat) (ra : Value) (ps : List Part) (room gen : Nat) (o : Bool) (ws : List Part) (wv : Value) (wr : World) : Prop where
  both : Both wr N d gs v s b ra ps room gen o
  row : wr.ownsRow N 32 1 wv ws.length (ws.map Part.val)
  wins : ∀ p ∈ ws, p.In w
  wnil : ∀ p ∈ ws, p.ad = none → p.cap = 0
  wlen : ∀ p ∈ ws, p.l.length ≤ 4096
  ap1 : ∀ g, wv.ownBlock = some g → ¬ J b ra d gs v g
  ap2 : ∀ p ∈ ps, p.l ≠ [] → wv.ownBlock ≠ some p.g
  below : Below w.heap.size w wr
  wN : w.heap.size ≤ N
set_option maxRecDepth 100000 in
theorem CrM.more {w : World} {N d gs : Nat} {v : Value} {s : DSt} {b : Nat} {ra : Value} {ps : List Part} {room gen : Nat} {o : Bool} {ws : List Part} {wv : Value} {wr w' : World} (h : CrM w N d gs v s b ra ps room gen o ws wv wr) (hb : Below wr.heap.size wr w') : CrM w N d gs v s b ra ps room gen o ws wv w' :=
  ⟨h.both.below hb, own_same h.row fun g hg => hb.block g (h.row.lt g hg).2, h.wins, h.wnil, h.wlen, h.ap1, h.ap2, h.below.trans (hb.mono h.below.size), h.wN⟩
set_option maxRecDepth 100000 in
/-- a call on the book: what it turns is the book's and the disk's -/
theorem CrM.call {w : World} {N d gs : Nat} {v : Value} {s : DSt} {b : Nat} {ra : Value} {ps : List Part} {room gen : Nat} {o : Bool} {ws : List Part} {wv : Value} {wr w' : World} (h : CrM w N d gs v s b ra ps room gen o ws wv wr)
    {v' : Value} {s' : DSt} {b' : Nat} {ra' : Value} {ps' : List Part} {room' gen' : Nat} {o' : Bool} (hbo : Both w' N d gs v' s' b' ra' ps' room' gen' o') (hk : KeptF (J b ra d gs v) wr w') (hj : ∀ j, J b' ra' d gs v' j → J b ra d gs v j ∨ wr.heap.size ≤ j) (hp : ∀ x ∈ ps', x.l ≠ [] → x ∈ ps ∨ wr.heap.size ≤ x.g) :
    CrM w N d gs v' s' b' ra' ps' room' gen' o' ws wv w' := by
  refine ⟨hbo, own_same h.row fun g hg => hk.block g (h.row.lt g hg).2 (h.ap1 g hg), h.wins, h.wnil, h.wlen, fun g hg hj' => ?_, fun p hp' hne e => ?_, KeptF.mono h.below hk (Nat.le_refl _) (fun k hk' => by have := (h.both.jlt hk').1; have := h.wN; omega), h.wN⟩
  · rcases hj g hj' with h1 | h1
    · exact h.ap1 g hg h1
    · have := (h.row.lt g hg).2; omega
  · rcases hp p hp' hne with h1 | h1
    · exact h.ap2 p h1 hne e
    · have := (h.row.lt _ e).2; omega
set_option maxRecDepth 100000 in
/-- one more record is wanted -/
theorem CrM.want {w : World} {N d gs : Nat} {v : Value} {s : DSt} {b : Nat} {ra : Value} {ps : List Part} {room gen : Nat} {o : Bool} {ws : List Part} {wv : Value} {wr w1 : World} (h : CrM w N d gs v s b ra ps room gen o ws wv wr) (p : Part) (hp : p.In w) (hpn : p.ad = none → p.cap = 0) (hpl : p.l.length ≤ 4096)
    {C : Array Value} {t : TypeId} {g c : Nat} (hown : w1.ownsRow N 32 1 (.slice (some ⟨g, 0, none⟩) (ws.length + 1) c) (ws.length + 1) (ws.map Part.val ++ [p.val])) (hgrow : (wr.alloc (.cells C t)).grownBy w1 wv.ownBlock) (hg : wv.ownBlock = some g ∨ g = wr.heap.size + 1) :
    CrM w N d gs v s b ra ps room gen o (ws ++ [p]) (.slice (some ⟨g, 0, none⟩) (ws.length + 1) c) w1 := by
  have hk : KeptF (fun k => wv.ownBlock = some k) wr w1 := (KeptF.of_below ((Below.refl wr.heap.size wr).alloc (Nat.le_refl _) _)).trans (KeptF.of_grown (F := fun k => wv.ownBlock = some k) hgrow fun k hk => hk) fun _ _ h => h
  refine ⟨h.both.kept hk (fun k hj hw => h.ap1 k hw hj) (fun q hq hne hw => h.ap2 q hq hne hw), ?_, ?_, ?_, ?_, fun q hq hj => ?_, fun q hq hne e => ?_, KeptF.mono h.below hk (Nat.le_refl _) (fun k hk' => by have := (h.row.lt k hk').1; have := h.wN; omega), h.wN⟩
  · rw [List.length_append, List.length_singleton, List.map_append]; exact hown
  · intro x hx
    rcases List.mem_append.1 hx with hx | hx
    · exact h.wins x hx
    · obtain rfl := List.mem_singleton.1 hx; exact hp
  · intro x hx
    rcases List.mem_append.1 hx with hx | hx
    · exact h.wnil x hx
    · obtain rfl := List.mem_singleton.1 hx; exact hpn
  · intro x hx
    rcases List.mem_append.1 hx with hx | hx
    · exact h.wlen x hx
    · obtain rfl := List.mem_singleton.1 hx; exact hpl
  · obtain rfl : g = q := Option.some.inj hq
    rcases hg with hg | hg
    · exact h.ap1 g hg hj
    · have := (h.both.jlt hj).2; omega
  · obtain rfl : g = q.g := Option.some.inj e
    rcases hg with hg | hg
    · exact h.ap2 q hq hne hg
    · have := (h.both.ins q hq).lt; omega
set_option maxRecDepth 100000 in
/-- the wanted records as a slice -/
theorem CrM.wslice {w : World} {N d gs : Nat} {v : Value} {s : DSt} {b : Nat} {ra : Value} {ps : List Part} {room gen : Nat} {o : Bool} {ws : List Part} {wv : Value} {wr : World} (h : CrM w N d gs v s b ra ps room gen o ws wv wr) :
    ∃ ap gp cp, wv = .slice ap ws.length cp ∧ PartsIn wr ap gp 0 ws := parts_of_row h.row (fun p hp => (h.wins p hp).below h.below) (by have := lt_block h.both.blk; omega)
set_option maxRecDepth 100000 in
theorem folded_txs (ps qs : List Part) (P : List UInt8) (h : txs ps = txs qs) : folded P ps = folded P qs := by
  have e : ∀ (ps : List Part) (P : List UInt8), folded P ps = (txs ps).foldl (fun Q l => lnk Q l) P := by
    intro ps
    induction ps with
    | nil => intro P; rfl
    | cons p ps ih => intro P; exact ih _
  rw [e, e, h]
/-- what was cut off -/
structure Cut (w : World) (s : DSt) (room gen : Nat) (rs : List (List UInt8)) (cv : Value) : Prop where
  ex : ∃ (c : Part) (s0 : DSt) (k : Nat), cv = c.val ∧ c.In w ∧ (c.ad = none → c.cap = 0) ∧ c.l.length ≤ 4096 ∧ s0.ws = [] ∧ BInv s0.S gen room rs ∧ nParts c.l.length ≤ room ∧ k ≤ nParts c.l.length ∧ s = wrN s0 (s0.S.length - room) rs.length gen c.l k ∧ s.gone = true
/-- between two calls -/
structure CrP (w : World) (k : Nat) (s : DSt) (room gen : Nat) (o : Bool) (rs : List (List UInt8)) (cv : Value) : Prop where
  clean : o = false → s.ws = [] ∧ BInv s.S gen room rs
  cut : o = true → Cut w s room gen rs cv
  hg : gen ≤ k + 1
  hr : rs.length ≤ k
  h300 : s.S.length = 300
  fu : s.fuse ≤ 9223372036854775807
set_option maxRecDepth 100000 in
theorem CrP.waits {w : World} {k : Nat} {s : DSt} {room gen : Nat} {o : Bool} {rs : List (List UInt8)} {cv : Value} (h : CrP w k s room gen o rs cv) : s.ws.length ≤ 100 := by
  cases o with
  | false => rw [(h.clean rfl).1]; simp
  | true =>
    obtain ⟨c, s0, j, _, _, _, hl, h0, _, _, hj, e, _⟩ := (h.cut rfl).ex
    have h1 := (wrN_len s0 (s0.S.length - room) rs.length gen c.l j).2.1
    have h2 := nParts_le _ hl
    rw [e, h1, h0]
    simp; omega
set_option maxRecDepth 100000 in
theorem CrP.room_le {w : World} {k : Nat} {s : DSt} {room gen : Nat} {o : Bool} {rs : List (List UInt8)} {cv : Value} (h : CrP w k s room gen o rs cv) : room ≤ s.S.length := by
  cases o with
  | false => exact (h.clean rfl).2.room_le
  | true =>
    obtain ⟨c, s0, j, _, _, _, hl, h0, hb, _, hj, e, _⟩ := (h.cut rfl).ex
    have h1 := (wrN_len s0 (s0.S.length - room) rs.length gen c.l j).1
    rw [e, h1]
    exact hb.room_le
set_option maxRecDepth 100000 in
/-- behind an Append -/
theorem CrP.append {w : World} {k : Nat} {s : DSt} {room gen : Nat} {o : Bool} {rs : List (List UInt8)} {cv : Value} (h : CrP w k s room gen o rs cv) (hk : k ≤ 100) (p : Part) (hp : p.In w) (hpn : p.ad = none → p.cap = 0) {c : Int} {s' : DSt} {rs' : List (List UInt8)} {room' : Nat} {o' : Bool}
    (ha : AppP s rs room gen o p.l c s' rs' room' o') : CrP w (k + 1) s' room' gen o' rs' (if o then cv else p.val) ∧ ((c = 0 ∧ rs' = rs ++ [p.l] ∧ o = false ∧ o' = false ∧ p.l.length ≤ 4096) ∨ (c ≠ 0 ∧ c ≠ 5 ∧ rs' = rs ∧ o = false ∧ o' = false) ∨ (c = 5 ∧ rs' = rs ∧ o' = true)) := by
  have hg := h.hg
  have hr := h.hr
  cases ha with
  | over ho =>
    subst ho
    exact ⟨⟨(fun e => by cases e), fun _ => h.cut rfl, by omega, by omega, h.h300, h.fu⟩, .inr (.inr ⟨rfl, rfl, rfl⟩)⟩
  | long ho _ =>
    subst ho
    exact ⟨⟨fun _ => h.clean rfl, (fun e => by cases e), by omega, by omega, h.h300, h.fu⟩, .inr (.inl ⟨by omega, by omega, rfl, rfl, rfl⟩)⟩
  | full ho _ _ =>
    subst ho
    exact ⟨⟨fun _ => h.clean rfl, (fun e => by cases e), by omega, by omega, h.h300, h.fu⟩, .inr (.inl ⟨by omega, by omega, rfl, rfl, rfl⟩)⟩
  | done ho hl hrm hgo =>
    subst ho
    have h1 := (h.clean rfl).2.append hl hrm (by omega) (by omega)
    obtain ⟨e1, _, e3⟩ := wrN_len s (s.S.length - room) rs.length gen p.l (nParts p.l.length)
    have hfu := h.fu
    exact ⟨⟨fun _ => ⟨rfl, h1⟩, (fun e => by cases e), by omega, by rw [List.length_append, List.length_singleton]; omega, e1.trans h.h300, by show (wrN _ _ _ _ _ _).fuse ≤ _; omega⟩, .inl ⟨rfl, rfl, rfl, rfl, hl⟩⟩
  | lost ho hl hrm j hj hgo =>
    subst ho
    obtain ⟨e1, _, e3⟩ := wrN_len s (s.S.length - room) rs.length gen p.l j
    have hfu := h.fu
    exact ⟨⟨(fun e => by cases e), fun _ => ⟨⟨p, s, j, rfl, hp, hpn, hl, (h.clean rfl).1, (h.clean rfl).2, hrm, hj, rfl, hgo⟩⟩, by omega, by omega, e1.trans h.h300, by omega⟩, .inr (.inr ⟨rfl, rfl, rfl⟩)⟩
set_option maxRecDepth 100000 in
/-- an Append that was refused leaves what was cut off as it was -/
theorem CrP.refuse {w : World} {k : Nat} {s s' : DSt} {room gen room' : Nat} {rs rs' : List (List UInt8)} {cv cv' : Value} (_ : CrP w k s room gen false rs cv) (h : CrP w (k + 1) s' room' gen false rs' cv') (_ : rs' = rs) : CrP w (k + 1) s' room' gen false rs' cv :=
  ⟨h.clean, (fun e => by cases e), h.hg, h.hr, h.h300, h.fu⟩
set_option maxRecDepth 100000 in
/-- behind a Fuse -/
theorem CrP.fuse {w : World} {k : Nat} {s : DSt} {room gen : Nat} {o : Bool} {rs : List (List UInt8)} {cv : Value} (h : CrP w k s room gen o rs cv) (n : Int) (hn : n ≤ 9223372036854775807) (hgo : s.gone = false) : CrP w (k + 1) { s with fuse := max n 0, gone := n == 0 } room gen o rs cv := by
  have hg := h.hg
  have hr := h.hr
  cases o with
  | false => exact ⟨fun _ => h.clean rfl, (fun e => by cases e), by omega, by omega, h.h300, by show max n 0 ≤ _; omega⟩
  | true =>
    obtain ⟨c, s0, j, _, _, _, _, _, _, _, _, _, hgt⟩ := (h.cut rfl).ex
    rw [hgo] at hgt; cases hgt
set_option maxRecDepth 100000 in
theorem CrP.later {w : World} {k : Nat} {s : DSt} {room gen : Nat} {o : Bool} {rs : List (List UInt8)} {cv : Value} (h : CrP w k s room gen o rs cv) : CrP w (k + 1) s room gen o rs cv :=
  ⟨h.clean, h.cut, by have := h.hg; omega, by have := h.hr; omega, h.h300, h.fu⟩
set_option maxRecDepth 100000 in
/-- behind a Crash, and Open -/
theorem CrP.crash {w : World} {k : Nat} {s : DSt} {room gen : Nat} {o : Bool} {rs : List (List UInt8)} {cv : Value} (h : CrP w k s room gen o rs cv) (hk : k ≤ 100) (bs : List Bool) :
    greatG ((s.crash bs).S.map rdS) ≤ gen ∧ ∀ rs' T l', Reads ((s.crash bs).S.map rdS) 1 1 rs' T l' → Stop T (rs'.length + 1) l' → (rs' = rs ∨ (o = true ∧ ∃ c : Part, cv = c.val ∧ c.In w ∧ (c.ad = none → c.cap = 0) ∧ c.l.length ≤ 4096 ∧ rs' = rs ++ [c.l])) ∧ CrP w (k + 1) (s.crash bs) T.length (greatG ((s.crash bs).S.map rdS) + 1) false rs' cv := by
  have hg := h.hg
  have hr := h.hr
  have hlen : (s.crash bs).S.length = 300 := (crash_len s bs).trans h.h300
  have key : (∀ x ∈ (s.crash bs).S.map rdS, x.1.g ≤ gen) ∧ ∀ rs' T l', Reads ((s.crash bs).S.map rdS) 1 1 rs' T l' → Stop T (rs'.length + 1) l' → (rs' = rs ∨ (o = true ∧ ∃ c : Part, cv = c.val ∧ c.In w ∧ (c.ad = none → c.cap = 0) ∧ c.l.length ≤ 4096 ∧ rs' = rs ++ [c.l])) := by
    cases o with
    | false =>
      obtain ⟨hws, hb⟩ := h.clean rfl
      have e : (s.crash bs).S = s.S := by
        unfold DSt.crash
        rw [hws]
        cases bs <;> simp [redoL, undoL]
      rw [e]
      exact ⟨hb.gens, fun rs' T l' h1 h2 => .inl (hb.same h1 h2)⟩
    | true =>
      obtain ⟨c, s0, j, hcv, hci, hcn, hl, h0, hb, hrm, hj, e, _⟩ := (h.cut rfl).ex
      have h1 := hb.crash (bs := bs) h0 hl hrm hj (by omega) (by omega)
      rw [← e] at h1
      refine ⟨h1.1, fun rs' T l' h2 h3 => ?_⟩
      rcases h1.2 rs' T l' h2 h3 with h4 | h4
      · exact .inl h4
      · exact .inr ⟨rfl, c, hcv, hci, hcn, hl, h4⟩
  have hgr := greatG_bound _ _ key.1
  refine ⟨hgr, fun rs' T l' h1 h2 => ⟨key.2 rs' T l' h1 h2, ⟨fun _ => ⟨rfl, BInv.opened h1 h2⟩, (fun e => by cases e), by omega, ?_, hlen, by show (0 : Int) ≤ _; omega⟩⟩⟩
  rcases key.2 rs' T l' h1 h2 with h3 | ⟨_, c, _, _, _, _, h3⟩
  · rw [h3]; omega
  · rw [h3, List.length_append, List.length_singleton]; omega
end Go.Proofs.YtlhfdlfbnnfjjaaDoor
namespace Go.Proofs.YtlhfdlfbnnfjjaaDoor
open Go.RowKit

/-- a call: its kind, its number, its bytes, its pick -/
structure COp where
  kc : Int
  n : Int
  p : Part
  pa : Option Addr
  pg : Nat
  po : Nat
  pc : Nat
  bs : List Bool
def COp.cells (x : COp) : List Value := [.int .u8 x.kc, .int .i64 x.n, x.p.val, .slice x.pa x.bs.length x.pc]
structure COpOk (w : World) (x : COp) : Prop where
  k0 : 0 ≤ x.kc
  k1 : x.kc < 256
  n1 : x.n ≤ 9223372036854775807
  inn : x.p.In w
  nil : x.p.ad = none → x.p.cap = 0
  most : x.p.l.length ≤ maxLen
  pmost : x.bs.length ≤ maxLen
  pad : x.bs ≠ [] → x.pa = some ⟨x.pg, x.po, none⟩
  pcell : ∀ j, (h : j < x.bs.length) → w.cell? ⟨x.pg, x.po + j, none⟩ = some (.bool x.bs[j])
structure OpsAt (w : World) (ad : Option Addr) (g o : Nat) (l : List COp) : Prop where
  addr : l ≠ [] → ad = some ⟨g, o, none⟩
  cell : ∀ i, (h : i < l.length) → ∀ j, j < 4 → w.cell? ⟨g, o + i * 4 + j, none⟩ = (l[i].cells)[j]?
set_option maxRecDepth 100000 in
theorem OpsAt.below {w w' : World} {ad : Option Addr} {g o : Nat} {l : List COp} (h : OpsAt w ad g o l) (hb : Below w.heap.size w w') : OpsAt w' ad g o l :=
  ⟨h.addr, fun i hi j hj => by
    have h1 := h.cell i hi j hj
    have h2 : ∃ v, (l[i].cells)[j]? = some v := ⟨_, List.getElem?_eq_getElem (by simpa [COp.cells] using hj)⟩
    obtain ⟨v, hv⟩ := h2
    rw [hv] at h1 ⊢
    rw [hb.cell (by exact block_lt_of_cell h1)]
    exact h1⟩
set_option maxRecDepth 100000 in
set_option maxHeartbeats 1000000 in
theorem few6_any (w : World) (ad : Option Addr) (g o cap : Nat) (l : List COp) (h : OpsAt w ad g o l) (hm : l.length ≤ maxLen) (hok : ∀ x ∈ l, x.p.l.length ≤ maxLen ∧ x.bs.length ≤ maxLen) :
    Calls Tryd.prog 5 #[.slice ad l.length cap, .int .i64 30] w fun e w' => ∃ r : Bool, e = .returned (.bool r) ∧ w = w' ∧ (r = true → l.length ≤ 30 ∧ ∀ x ∈ l, x.p.l.length ≤ 5000 ∧ x.bs.length ≤ 200) := by
  have H := Lib.hid h
  have HM := Lib.hid hok
  unfold maxLen at hm
  have s4 : ∀ w, (sizeOf 35).run Tryd.prog w = .ok 4 w := fun _ => by kernel_rfl
  clear h hok
  go_enter Tryd.func5, Tryd.ntmps5
  go_wp2_with fail
  go_loopw [5] (fun i wr => ∃ k : Nat, k ≤ l.length ∧ k ≤ 100 ∧ i = .int .i64 k ∧ (∀ j, (h : j < l.length) → j < k → l[j].p.l.length ≤ 5000 ∧ l[j].bs.length ≤ 200) ∧ w = wr) (fun i _ => l.length - (intOf i).toNat)
  case atStart => exact ⟨0, by omega, by omega, rfl, fun j _ h => by omega, rfl⟩
  case round =>
    obtain ⟨k, hk, hk100, rfl, hall, rfl⟩ := hrel
    have HAll := Lib.hid hall
    clear hall
    by_cases hlt : k < l.length
    · have hd : decide ((k : Int) < (l.length : Int)) = true := by simp; omega
      have hdn : decide (k < l.length) = true := by simpa using hlt
      by_cases h100 : k < 100
      · have hd2 : decide ((k : Int) < 100) = true := by simp; omega
        obtain rfl := H.out.addr (by intro e; rw [e] at hlt; cases hlt)
        have c2 := H.out.cell k hlt 2 (by omega)
        have c3 := H.out.cell k hlt 3 (by omega)
        have hmx := HM.out l[k] (List.getElem_mem hlt)
        have HS : Hid (l[k].p.l.length ≤ 5000 → l[k].bs.length ≤ 200 → ∀ j, (h : j < l.length) → j < k + 1 → l[j].p.l.length ≤ 5000 ∧ l[j].bs.length ≤ 200) := Lib.hid fun h1 h2 j hj hjk => by
          rcases Nat.lt_or_ge j k with h | h
          · exact HAll.out j hj h
          · obtain rfl : j = k := by omega
            exact ⟨h1, h2⟩
        unfold COp.cells Part.val at c2 c3
        simp only [List.getElem?_cons_succ, List.getElem?_cons_zero] at c2 c3
        generalize l[k] = x at *
        obtain ⟨a, ha⟩ : ∃ a, x.p.l.length = a := ⟨_, rfl⟩
        obtain ⟨bb, hbb⟩ : ∃ a, x.bs.length = a := ⟨_, rfl⟩
        rw [ha] at c2 hmx HS
        rw [hbb] at c3 hmx HS
        unfold maxLen at hmx
        clear ha hbb
        by_cases h1 : 5000 < a
        · have hd3 : decide ((5000 : Int) < (a : Int)) = true := by simp; omega
          go_wp2_with fail
          go_ret
          exact ⟨false, rfl, rfl, fun e => by cases e⟩
        · have hd3 : decide ((5000 : Int) < (a : Int)) = false := by simp; omega
          by_cases h2 : 200 < bb
          · have hd4 : decide ((200 : Int) < (bb : Int)) = true := by simp; omega
            go_wp2_with fail
            go_ret
            exact ⟨false, rfl, rfl, fun e => by cases e⟩
          · have hd4 : decide ((200 : Int) < (bb : Int)) = false := by simp; omega
            have HS2 := Lib.hid (HS.out (by omega) (by omega))
            go_wp2_with fail
            go_roundw
            case rel => exact ⟨k + 1, by omega, by omega, by go_num, HS2.out, trivial⟩
            case measure => simp [intOf]; omega
      · have hd2 : decide ((k : Int) < 100) = false := by simp; omega
        have hd5 : decide ((l.length : Int) ≤ 30) = false := by simp; omega
        go_wp2_with fail
        go_ret
        exact ⟨false, rfl, rfl, fun e => by cases e⟩
    · have hd : decide ((k : Int) < (l.length : Int)) = false := by simp; omega
      have hdn : decide (k < l.length) = false := by simpa using hlt
      obtain rfl : k = l.length := by omega
      obtain ⟨r, hr⟩ : ∃ r, decide ((l.length : Int) ≤ 30) = r := ⟨_, rfl⟩
      have HR := Lib.hid hr
      go_wp2_with fail
      go_ret
      refine ⟨r, rfl, rfl, fun e => ?_⟩
      subst e
      have := of_decide_eq_true HR.out
      refine ⟨by omega, fun x hx => ?_⟩
      obtain ⟨j, hj, rfl⟩ := List.getElem_of_mem hx
      exact HAll.out j hj hj
end Go.Proofs.YtlhfdlfbnnfjjaaDoor
namespace Go.Proofs.YtlhfdlfbnnfjjaaDoor
open Go.RowKit

set_option maxRecDepth 100000 in
theorem fieldHash1 (R : List UInt8) (k : Int) (hR : R.length = 32) (w : World) : (Instr.field 42 (.agg (HC R k).toArray) 0).run Tryd.prog w = .ok (.agg (R.map B).toArray) w := by
  have h := partHash R k hR w
  unfold Instr.field
  simp only [Sem.run_bind, run_underlying Tryd.underlying42, Result.andThen_ok]
  simp [asAgg, h]
set_option maxRecDepth 100000 in
theorem fieldCount1 (R : List UInt8) (k : Int) (hR : R.length = 32) (w : World) : (Instr.field 42 (.agg (HC R k).toArray) 1).run Tryd.prog w = .ok (.int .i64 k) w := by
  have h := partCount R k hR w
  unfold Instr.field
  simp only [Sem.run_bind, run_underlying Tryd.underlying42, Result.andThen_ok]
  simp [asAgg, h]
/-- a disk that holds those records, and nothing else -/
structure PlP (k room : Nat) (s : DSt) (rs : List (List UInt8)) : Prop where
  secs : s.S = allS 0 rs ++ List.replicate room z64
  ws : s.ws = []
  gone : s.gone = false
  fu : s.fuse ≤ 0
  hr : rs.length ≤ k
set_option maxRecDepth 100000 in
theorem PlP.start (n : Nat) : PlP 0 n (DSt.new n) [] := ⟨by simp [allS, DSt.new], rfl, rfl, by simp [DSt.new], by simp⟩
set_option maxRecDepth 100000 in
theorem PlP.len {k room : Nat} {s : DSt} {rs : List (List UInt8)} (h : PlP k room s rs) : s.S.length = (allS 0 rs).length + room := by rw [h.secs]; simp
set_option maxRecDepth 100000 in
theorem PlP.append {k room room' : Nat} {s s' : DSt} {rs rs' : List (List UInt8)} {l : List UInt8} {c : Int} {o' : Bool} (h : PlP k room s rs) (ha : AppP s rs room 1 false l c s' rs' room' o') :
    (c = 3 ∧ 4096 < l.length ∧ rs' = rs ∧ room' = room ∧ o' = false ∧ PlP (k + 1) room s' rs) ∨ (c = 4 ∧ l.length ≤ 4096 ∧ room < nParts l.length ∧ rs' = rs ∧ room' = room ∧ o' = false ∧ PlP (k + 1) room s' rs) ∨
    (c = 0 ∧ l.length ≤ 4096 ∧ nParts l.length ≤ room ∧ rs' = rs ++ [l] ∧ room' = room - nParts l.length ∧ o' = false ∧ PlP (k + 1) (room - nParts l.length) s' (rs ++ [l])) := by
  have hk : PlP (k + 1) room s rs := ⟨h.secs, h.ws, h.gone, h.fu, by have := h.hr; omega⟩
  cases ha with
  | over ho => cases ho
  | long _ hl => exact .inl ⟨rfl, hl, rfl, rfl, rfl, hk⟩
  | full _ hl hr => exact .inr (.inl ⟨rfl, hl, hr, rfl, rfl, rfl, hk⟩)
  | lost _ _ _ j hj hg => rw [(wrN_gone _ _ _ _ _ _ h.fu).1, h.gone] at hg; cases hg
  | done _ hl hr hg =>
    refine .inr (.inr ⟨rfl, hl, hr, rfl, rfl, rfl, ?_, rfl, hg, ?_, ?_⟩)
    · have hlen := h.len
      have hA : s.S.length - room = (allS 0 rs).length := by omega
      show (wrN s (s.S.length - room) rs.length 1 l (nParts l.length)).S = _
      rw [hA, allS_append, Nat.zero_add]
      have e1 : allS rs.length [l] = secsOf rs.length l := by simp [allS]
      rw [e1]
      apply List.ext_getElem?
      intro j
      rw [wrN_get]
      have ls := length_secsOf rs.length l
      split
      · rename_i hc
        rw [List.append_assoc, List.getElem?_append_right (by omega), List.getElem?_append_left (by omega)]
        simp only [secsOf, List.getElem?_map]
        rw [List.getElem?_range (by omega)]
        rfl
      · rename_i hc
        rw [h.secs, List.append_assoc]
        rcases Nat.lt_or_ge j (allS 0 rs).length with hj | hj
        · rw [List.getElem?_append_left hj, List.getElem?_append_left hj]
        · rw [List.getElem?_append_right hj, List.getElem?_append_right hj]
          rcases Nat.lt_or_ge (j - (allS 0 rs).length) (nParts l.length) with h2 | h2
          · omega
          · rw [List.getElem?_append_right (by omega), List.getElem?_replicate, List.getElem?_replicate, ls]
            congr 1
            exact propext ⟨fun _ => by omega, fun _ => by omega⟩
    · have := (wrN_gone s (s.S.length - room) rs.length 1 l (nParts l.length) h.fu).2
      show (wrN _ _ _ _ _ _).fuse ≤ 0
      rw [this]; exact h.fu
    · have := h.hr
      rw [List.length_append, List.length_singleton]; omega
set_option maxRecDepth 100000 in
theorem PlP.lies {k room : Nat} {s : DSt} {rs : List (List UInt8)} (h : PlP k room s rs) (ss : List Part) (hs : ss.map Part.l = s.S) : Lies ss rs room := ⟨hs.trans h.secs⟩
set_option maxRecDepth 100000 in
theorem AppP.len {s s' : DSt} {rs rs' : List (List UInt8)} {room gen room' : Nat} {o o' : Bool} {l : List UInt8} {c : Int} (h : AppP s rs room gen o l c s' rs' room' o') : s'.S.length = s.S.length := by
  cases h with
  | over => rfl
  | long => rfl
  | full => rfl
  | done => exact (wrN_len s (s.S.length - room) rs.length gen l (nParts l.length)).1
  | lost _ _ _ j => exact (wrN_len s (s.S.length - room) rs.length gen l j).1
end Go.Proofs.YtlhfdlfbnnfjjaaDoor
