/- The document's disk: a deed, Restart, Sync. Own text. -/
import Derived.Test.YtdpeacdilgcloaaRR3
namespace Go.Proofs.YtdpeacdilgcloaaR
open Go.RowKit

theorem RD.wf {w : World} {br : Nat} {fp : List Nat} {s : DS} (h : RD w br fp s) : s.Wf := by
  obtain ⟨L, O, l, m, t, h, rfl⟩ := h
  exact h.wf

theorem rfails_rd (w : World) (br : Nat) (fp : List Nat) (s : DS) (h : RD w br fp s) (M t : Int) (ht : 0 ≤ t) (ht2 : t ≤ 9223372036854775807) (hw : s.writes ≤ 4000000000000) :
    Calls Try.prog 29 #[.pointer (some ⟨br, 0, none⟩), .int .i64 (M % 65536), .int .i64 t] w fun e w' => e = .returned (.tuple #[]) ∧ ∃ fp', RD w' br fp' (s.fails M t) ∧ Keeps fp fp' w w' := by
  obtain ⟨L, O, l, m, t', h, rfl⟩ := h
  refine (rfails_any w br L O l m t' s h M t ht ht2 hw).mono ?_
  rintro e w' ⟨rfl, hR, hK⟩
  exact ⟨rfl, _, ⟨_, _, _, _, _, hR, rfl⟩, hK.sub (fun k hk => by simpa [Value.ownBlock] using hk)⟩


set_option maxRecDepth 100000 in
set_option maxHeartbeats 1000000 in
theorem rdeed_any (w : World) (br : Nat) (fp : List Nat) (s : DS) (h : RD w br fp s) (hw : s.writes ≤ 4000000000000) :
    Calls Try.prog 34 #[.pointer (some ⟨br, 0, none⟩)] w fun e w' => e = .returned (.bool s.spend.2) ∧ ∃ fp', RD w' br fp' s.spend.1 ∧ Keeps fp fp' w w' := by
  have hR := h
  obtain ⟨L, O, l, m, t, h, rfl⟩ := h
  have c2 := h.c2
  have c3 := h.c3
  have c4 := h.c4
  have c5 := h.c5
  have c6 := h.c6
  have z := h.fz
  cases hf : s.fuse with
  | none =>
    have e1 : s.spend = (s, s.on) := by unfold DS.spend; rw [hf]
    rw [e1]
    rw [hf] at c3
    simp only [Option.isSome_none] at c3
    cases hon : s.on with
    | false =>
      rw [hon] at c2
      go_enter Try.func34, Try.ntmps34
      go_wp2
      go_ret
      exact ⟨rfl, _, hR, Keeps.refl _ _⟩
    | true =>
      rw [hon] at c2
      go_enter Try.func34, Try.ntmps34
      go_wp2
      go_ret
      exact ⟨rfl, _, hR, Keeps.refl _ _⟩
  | some x =>
    obtain ⟨l', m', t'⟩ := x
    obtain ⟨rfl, hme, rfl⟩ := h.hf l' m' t' hf
    obtain ⟨l0, l1, _, _, t0, t1⟩ := h.wf.fl _ _ _ hf
    have hon : s.on = true := h.wf.fon (by rw [hf]; rfl)
    rw [hf] at c3
    simp only [Option.isSome_some] at c3
    rw [hon] at c2
    by_cases hl : l = 0
    · have e1 : s.spend = (s.fails m' t, false) := by unfold DS.spend; rw [hf]; simp [hl]
      rw [e1]
      subst hl
      have Hfc := hidden (rfails_rd w.drew br _ s (hR.frame (fun _ _ => rfl)) m' t t0 t1 hw)
      rw [← hme] at Hfc
      clear h hf e1 hR hme hon
      go_enter Try.func34, Try.ntmps34
      go_wp2
      go_region_with (go_at_call 29; refine Hfc.out.mono ?_; rintro e w' ⟨rfl, fp', hP, hK⟩)
      all_goals
        obtain ⟨L', O', l2, m2, t2, hx, rfl⟩ := hP
        have d2 : w'.cell? ⟨br, 2, none⟩ = some (.bool false) := hx.c2
        have d3 : w'.cell? ⟨br, 3, none⟩ = some (.bool false) := hx.c3
        have HX := hidden hx
        have HK := hidden hK.undrew
        clear hx hK
        go_wp2
        go_ret
        exact ⟨rfl, _, ⟨_, _, _, _, _, HX.out, rfl⟩, HK.out⟩
    · have e1 : s.spend = ({ s with fuse := some (l - 1, m', t) }, true) := by unfold DS.spend; rw [hf]; simp [hl]
      rw [e1]
      have hwf : ({ s with fuse := some (l - 1, m', t) } : DS).Wf := by
        have := Wf.spend h.wf
        rw [e1] at this
        exact this
      have HP : Hid (RDx (w.setCell ⟨br, 4, none⟩ (.int .i64 (l - 1))) br L O (l - 1) m t { s with fuse := some (l - 1, m', t) }) := by
        refine h.upd rfl rfl rfl ?_ ?_ ?_ hwf
        · rw [heap_setCell_same _ _ _ _ _ _ h.hbr]
          rw [hf]
          rfl
        · intro x hx
          exact heap_setCell_other _ _ _ _ (h.far x hx).1
        · intro l1 m1 t1 e
          injection e with e
          injection e with e1 e2
          injection e2 with e2 e3
          subst e1; subst e2; subst e3
          exact ⟨rfl, hme, rfl⟩
      clear h hf e1 hR hme hon hwf
      go_enter Try.func34, Try.ntmps34
      go_wp2
      go_ret
      exact ⟨rfl, _, ⟨_, _, _, _, _, HP.out, rfl⟩, (Keeps.refl _ _).setCell (.inl (by simp)) _⟩

end Go.Proofs.YtdpeacdilgcloaaR
