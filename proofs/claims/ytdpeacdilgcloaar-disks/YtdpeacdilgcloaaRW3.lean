/- The program's fuse: how a Write or a Sync spends it, how it is set; Restart. Own text. -/
import Derived.Test.YtdpeacdilgcloaaRW2
namespace Go.Proofs.YtdpeacdilgcloaaR
open Go.RowKit

theorem Keeps.undrew {f g : List Nat} {a b : World} (x : Keeps f g a.drew b) : Keeps f g a b := ⟨x.os, x.tape, x.output, x.size, x.block, x.new⟩

theorem PDx.fblock {w : World} {bi bs bn : Nat} {U : Value} {bf : Nat} {s : DS} (h : PDx w bi bs bn U (.pointer (some ⟨bf, 0, none⟩)) s) : bi ≠ bf ∧ bs ≠ bf ∧ bn ≠ bf ∧ U.ownBlock ≠ some bf := by
  have := h.nd
  simp only [fpP, ptrB, List.nodup_cons, List.mem_cons, List.mem_append, not_or, List.not_mem_nil] at this
  refine ⟨this.1.2.2.2.1, this.2.1.2.2.1, this.2.2.1.2.1, ?_⟩
  have k := this.2.2.2
  intro e
  rw [e] at k
  simp at k

theorem PDx.upd {w w' : World} {bi bs bn : Nat} {U F F' : Value} {s s' : DS} (h : PDx w bi bs bn U F s) (hn : s'.n = s.n) (hl : s'.last = s.last) (ho : s'.opn = s.opn)
    (hbi : w'.heap[bi]? = some (.cells #[.slice (some ⟨bs, 0, none⟩) s.n s.n, .slice (some ⟨bn, 0, none⟩) s.n s.n, U, F', .bool s'.on, .int .i64 s'.writes, .int .i64 s'.claim] 67 (0, 0)))
    (hk : ∀ k, k = bs ∨ k = bn ∨ U.ownBlock = some k → w'.heap[k]? = w.heap[k]?) (hF : FuseAt w' F' s'.fuse) (hwf : s'.Wf) (hnd : (fpP bi bs bn U F').Nodup) : PDx w' bi bs bn U F' s' := by
  have hnow : s'.now = s.now := by unfold DS.now syncTo; rw [hl, ho]
  refine ⟨by rw [hn]; exact hbi, ?_, ?_, ?_, hF, hwf, hnd⟩
  · rw [hk bs (by simp), hl]; exact h.hbs
  · rw [hk bn (by simp), hnow]; exact h.hbn
  · rw [ho]; exact own_of_block h.hU (fun g hg => hk g (by simp [hg]))

theorem PDx.dec {w : World} {bi bs bn : Nat} {U : Value} {bf : Nat} {s : DS} (h : PDx w bi bs bn U (.pointer (some ⟨bf, 0, none⟩)) s) (l m t l' : Int)
    (hb : w.heap[bf]? = some (.cells #[.int .i64 l, .int .i64 m, .int .i64 t] 83 (0, 0))) (hwf : ({ s with fuse := some (l', m, t) } : DS).Wf) :
    PDx (w.setCell ⟨bf, 0, none⟩ (.int .i64 l')) bi bs bn U (.pointer (some ⟨bf, 0, none⟩)) { s with fuse := some (l', m, t) } := by
  obtain ⟨f1, f2, f3, f4⟩ := h.fblock
  refine h.upd rfl rfl rfl ?_ ?_ ⟨bf, rfl, ?_⟩ hwf h.nd
  · rw [heap_setCell_other _ _ _ _ f1]; exact h.hbi
  · intro k hk
    refine heap_setCell_other _ _ _ _ ?_
    show k ≠ bf
    rcases hk with rfl | rfl | hk
    · exact f2
    · exact f3
    · intro e; rw [e] at hk; exact f4 hk
  · rw [heap_setCell_same _ _ _ _ _ _ hb]; rfl

set_option maxRecDepth 100000 in
set_option maxHeartbeats 1000000 in
theorem spend_any (w : World) (bi bs bn : Nat) (U F : Value) (s : DS) (h : PDx w bi bs bn U F s) (hw : s.writes ≤ 4000000000000) :
    Calls Try.prog 46 #[.pointer (some ⟨bi, 0, none⟩)] w fun e w' => e = .returned (.bool s.spend.2) ∧ ∃ U' F',
      PDx w' bi bs bn U' F' s.spend.1 ∧ Keeps (fpP bi bs bn U F) (fpP bi bs bn U' F') w w' := by
  have c3 := h.c3
  have c4 := h.c4
  have hF := h.hF
  cases hf : s.fuse with
  | none =>
    rw [hf] at hF
    have hF' : F = .pointer none := hF
    subst hF'
    have e1 : s.spend = (s, s.on) := by unfold DS.spend; rw [hf]
    rw [e1]
    go_enter Try.func46, Try.ntmps46
    go_wp2
    go_ret
    exact ⟨rfl, U, _, h, Keeps.refl _ _⟩
  | some x =>
    obtain ⟨l, m, t⟩ := x
    have hfl := h.wf.fl l m t hf
    rw [hf] at hF
    obtain ⟨bf, rfl, hbf⟩ := hF
    have f0 : w.cell? ⟨bf, 0, none⟩ = some (.int .i64 l) := by rw [cell_of_row w bf 0 _ _ _ hbf]; rfl
    have f1 : w.cell? ⟨bf, 1, none⟩ = some (.int .i64 m) := by rw [cell_of_row w bf 1 _ _ _ hbf]; rfl
    have f2 : w.cell? ⟨bf, 2, none⟩ = some (.int .i64 t) := by rw [cell_of_row w bf 2 _ _ _ hbf]; rfl
    have fz := frozen_of_row w bf 0 _ _ hbf
    obtain ⟨l0, l1, m0, m1, t0, t1⟩ := hfl
    by_cases hl : l = 0
    · have e1 : s.spend = (s.fails m t, false) := by unfold DS.spend; rw [hf]; simp [hl]
      rw [e1]
      subst hl
      have Hfc := hidden (fail_any w.drew bi bs bn U _ s (h.frame (fun _ _ => rfl)) m t t0 t1 hw)
      clear h hf e1 hbf
      go_enter Try.func46, Try.ntmps46
      go_wp2
      go_region_with (go_at_call 40; refine Hfc.out.mono ?_; rintro e w' ⟨rfl, hP, hK⟩)
      all_goals
        go_wp2
        go_ret
        exact ⟨rfl, _, _, hP, hK.undrew⟩
    · have e1 : s.spend = ({ s with fuse := some (l - 1, m, t) }, true) := by unfold DS.spend; rw [hf]; simp [hl]
      rw [e1]
      have hwf : ({ s with fuse := some (l - 1, m, t) } : DS).Wf := by
        have := Wf.spend h.wf
        rw [e1] at this
        exact this
      have HP := hidden (h.dec l m t (l - 1) hbf hwf)
      clear h hf e1 hbf
      go_enter Try.func46, Try.ntmps46
      go_wp2
      go_ret
      exact ⟨rfl, U, _, HP.out, (Keeps.refl _ _).setCell (.inl (by simp [fpP, ptrB])) _⟩

end Go.Proofs.YtdpeacdilgcloaaR
