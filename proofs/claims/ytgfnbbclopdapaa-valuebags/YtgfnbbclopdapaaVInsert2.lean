/- slices.Insert of one value: behind the last; in room; without room. -/
import Derived.Test.YtgfnbbclopdapaaVInsert
namespace Go.Proofs.Ytgfnbbclopdapaa
open Go.RowKit

set_option maxRecDepth 100000 in
set_option maxHeartbeats 1000000 in
theorem insert_end (w : World) (base : Nat) (v : Value) (l : List Val) (hl : l.length ≤ 1000) (hown : w.ownsRow base 24 4 v l.length (cellsL l)) (G : Nat) (x : Val) (hG : w.heap[G]? = some (.cells x.cells.toArray 24 (0, 0))) (hbase : base ≤ w.heap.size) :
    Calls Try.prog 40 #[v, .int .i64 l.length, .slice (some ⟨G, 0, none⟩) 1 1] w fun e w' => ∃ v', e = .returned v' ∧ w'.ownsRow base 24 4 v' (l.length + 1) (cellsL (l ++ [x])) ∧ Below base w w' := by
  obtain ⟨i, hi, hz, hsz, hby⟩ := info_parts (show (Try.prog.info? 24).map (fun i => (i.zero, i.size, i.bytes)) = some (some (.agg zeroCells.toArray), 4, 56) by kernel_rfl)
  have hc4 : x.cells.length = 4 := rfl
  have hsrc : Hid (∀ W : World, W.heap[G]? = some (.cells x.cells.toArray 24 (0, 0)) → ∀ j u, x.cells[j]? = some u → W.cell? ((⟨G, 0, none⟩ : Addr).add j) = some u) := Lib.hid (by
    intro W hW j u hu
    rw [Addr.add_mid, Nat.zero_add, cell_block hW j]; simpa using hu)
  have H1 := Lib.hid (one_cells x)
  have HO := Lib.hid hown
  have HG := Lib.hid hG
  have HGl := Lib.hid (Below.refl base w)
  rcases hown.2 with ⟨rfl, hn⟩ | ⟨g, cap, cur, rfl, hb, hg, hc, hm, hcs, ht⟩
  · rw [hn] at HO ⊢
    clear hown hG
    go_enter Try.func40, Try.ntmps40
    go_wp2_with (at_builtin; refine wpList_append_own_wide _ rfl (.tmp 23) (.tmp 24) 22 rfl base 24 i _ 4 56 Try.underlying22 hi hz hsz hby rfl (by omega) _ 0 (cellsL l) rfl HO.out ⟨G, 0, none⟩ 1 1 x.cells rfl hc4 (hsrc.out _ HG.out) H1.out (by unfold maxLen; omega) (by omega) hbase ?_)
    intro v' w' hown' hgr _
    have HO' := Lib.hid hown'
    have HB' := Lib.hid ((Below.refl base w).grown hgr hbase (fun b hb => (HO.out.lt b hb).1))
    clear hown' hgr
    go_wp2_with fail
    go_ret
    exact ⟨v', rfl, by rw [cellsL_append, show cellsL [x] = x.cells by simp [cellsL]]; exact HO'.out, HB'.out⟩
  · clear hown hG
    unfold maxLen at hm
    go_enter Try.func40, Try.ntmps40
    go_wp2_with (at_builtin; refine wpList_append_own_wide _ rfl (.tmp 23) (.tmp 24) 22 rfl base 24 i _ 4 56 Try.underlying22 hi hz hsz hby rfl (by omega) _ l.length (cellsL l) rfl HO.out ⟨G, 0, none⟩ 1 1 x.cells rfl hc4 (hsrc.out _ HG.out) H1.out (by unfold maxLen; omega) (by omega) hbase ?_)
    all_goals
      intro v' w' hown' hgr _
      have HO' := Lib.hid hown'
      have HB' := Lib.hid ((Below.refl base w).grown hgr hbase (fun b hb => (HO.out.lt b hb).1))
      clear hown' hgr
      go_wp2_with fail
      go_ret
      exact ⟨v', rfl, by rw [cellsL_append, show cellsL [x] = x.cells by simp [cellsL]]; exact HO'.out, HB'.out⟩
end Go.Proofs.Ytgfnbbclopdapaa
