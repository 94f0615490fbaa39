/- The program's Fuse and Restart. Own text. -/
import Derived.Test.YtdpeacdilgcloaaRW3
namespace Go.Proofs.YtdpeacdilgcloaaR
open Go.RowKit

theorem PDx.newFuse {w w' : World} {bi bs bn : Nat} {U F : Value} {s : DS} (h : PDx w bi bs bn U F s) (l m t : Int) (hwf : ({ s with fuse := some (l, m, t) } : DS).Wf)
    (hw' : w' = (w.alloc (.cells #[.int .i64 l, .int .i64 m, .int .i64 t] 83)).setCell ⟨bi, 3, none⟩ (.pointer (some ⟨w.heap.size, 0, none⟩))) :
    PDx w' bi bs bn U (.pointer (some ⟨w.heap.size, 0, none⟩)) { s with fuse := some (l, m, t) } ∧ Keeps (fpP bi bs bn U F) (fpP bi bs bn U (.pointer (some ⟨w.heap.size, 0, none⟩))) w w' := by
  subst hw'
  obtain ⟨n1, n2, n3⟩ := h.ne
  have hlt := h.lt
  have hu := own_lt h.hU
  have b1 := lt_of_block h.hbi
  have b2 := lt_of_block h.hbs
  have b3 := lt_of_block h.hbn
  refine ⟨h.upd rfl rfl rfl ?_ ?_ ⟨w.heap.size, rfl, ?_⟩ hwf ?_, ?_⟩
  · rw [heap_setCell_same _ _ _ _ _ _ ((oldB _ _ _ b1).trans h.hbi)]; rfl
  · intro k hk
    have hkl : k < w.heap.size ∧ k ≠ bi := by
      rcases hk with rfl | rfl | hk
      · exact ⟨b2, Ne.symm n1⟩
      · exact ⟨b3, Ne.symm n2⟩
      · refine ⟨hu k hk, fun e => ?_⟩
        have := h.nd
        simp only [fpP, List.nodup_cons, List.mem_cons, List.mem_append, Option.mem_toList, not_or] at this
        exact this.1.2.2.1 (by rw [← e]; exact hk)
    rw [heap_setCell_other _ _ _ _ hkl.2, oldB _ _ _ hkl.1]
  · rw [heap_setCell_other _ _ _ _ (by show w.heap.size ≠ bi; omega), newB]
  · have := h.nd
    simp only [fpP, ptrB, List.nodup_cons, List.mem_cons, List.mem_append, Option.mem_toList, not_or, List.not_mem_nil] at this ⊢
    refine ⟨⟨this.1.1, this.1.2.1, this.1.2.2.1, by omega, not_false⟩, ⟨this.2.1.1, this.2.1.2.1, by omega, not_false⟩, ⟨this.2.2.1.1, by omega, not_false⟩, ?_⟩
    cases hU : U.ownBlock with
    | none => simp
    | some g =>
      have := hu g hU
      simp; omega
  · have k0 := ((Keeps.refl (fpP bi bs bn U F) w).allocNew (.cells #[.int .i64 l, .int .i64 m, .int .i64 t] 83)).setCell (p := ⟨bi, 3, none⟩) (.inl (by simp [fpP])) (.pointer (some ⟨w.heap.size, 0, none⟩))
    refine k0.sub ?_
    intro k hk
    simp only [fpP, ptrB, List.mem_cons, List.mem_append, List.not_mem_nil, or_false] at hk ⊢
    rcases hk with h | h | h | h | h
    · simp [h]
    · simp [h]
    · simp [h]
    · simp only [h]; simp
    · exact .inl h

theorem fuse_world (w : World) (bi : Nat) (a m t a' t' : Int) (hbl : bi < w.heap.size) (ha : a' = max a 0) (ht : t' = max t 0) :
    (w.setCell ⟨bi, 3, none⟩ (.pointer (some ⟨w.heap.size, 0, none⟩))).alloc (.cells #[.int .i64 a', .int .i64 m, .int .i64 t'] 83) = (w.alloc (.cells #[.int .i64 (max a 0), .int .i64 m, .int .i64 (max t 0)] 83)).setCell ⟨bi, 3, none⟩ (.pointer (some ⟨w.heap.size, 0, none⟩)) := by
  rw [ha, ht, World.setCell_alloc_past _ _ _ _ hbl]

set_option maxRecDepth 100000 in
set_option maxHeartbeats 1000000 in
theorem ifuse_any (w : World) (bi bs bn : Nat) (U F : Value) (s : DS) (h : PDx w bi bs bn U F s) (a m t : Int) (ha : a ≤ 9223372036854775807) (hm : -9223372036854775808 ≤ m ∧ m ≤ 9223372036854775807) (ht : t ≤ 9223372036854775807) :
    Calls Try.prog 37 #[.pointer (some ⟨bi, 0, none⟩), .int .i64 a, .int .i64 m, .int .i64 t] w fun e w' => e = .returned (.tuple #[]) ∧ ∃ F',
      PDx w' bi bs bn U F' (s.setFuse a m t) ∧ Keeps (fpP bi bs bn U F) (fpP bi bs bn U F') w w' := by
  have c3 := h.c3
  have c4 := h.c4
  have z3 := h.fz 3
  have hwf := Wf.setFuse h.wf a m t ha hm ht
  have hbl := lt_of_block h.hbi
  cases hon : s.on with
  | false =>
    have e1 : s.setFuse a m t = s := by unfold DS.setFuse; rw [if_neg (by rw [hon]; simp)]
    rw [e1]
    rw [hon] at c4
    go_enter Try.func37, Try.ntmps37
    go_wp2
    refine bodyPost_ret (results_none rfl _ _ _) rfl ?_
    exact ⟨rfl, F, h, Keeps.refl _ _⟩
  | true =>
    have e1 : s.setFuse a m t = { s with fuse := some (max a 0, m, max t 0) } := by unfold DS.setFuse; rw [if_pos hon]
    rw [e1] at hwf ⊢
    rw [hon] at c4
    have HN := hidden (fun w' => h.newFuse (w' := w') (max a 0) m (max t 0) hwf)
    clear h e1 hwf hon
    go_enter Try.func37, Try.ntmps37
    go_wp2
    all_goals
      go_end0
      exact ⟨rfl, _, HN.out _ (fuse_world w bi a m t _ _ hbl (by omega) (by omega))⟩

/-- power again: a claim more -/
theorem PDx.again {w : World} {bi bs bn : Nat} {U F : Value} {s : DS} (h : PDx w bi bs bn U F s) (hwf : ({ s with on := true, claim := wrap64 (s.claim + 1) } : DS).Wf) :
    PDx ((w.setCell ⟨bi, 4, none⟩ (.bool true)).setCell ⟨bi, 6, none⟩ (.int .i64 (wrap64 (s.claim + 1)))) bi bs bn U F { s with on := true, claim := wrap64 (s.claim + 1) } ∧
    Keeps (fpP bi bs bn U F) (fpP bi bs bn U F) w ((w.setCell ⟨bi, 4, none⟩ (.bool true)).setCell ⟨bi, 6, none⟩ (.int .i64 (wrap64 (s.claim + 1)))) := by
  obtain ⟨n1, n2, n3⟩ := h.ne
  have hnd := h.nd
  simp only [fpP, List.nodup_cons, List.mem_cons, List.mem_append, Option.mem_toList, not_or] at hnd
  have hoth : ∀ k, k ≠ bi → ((w.setCell ⟨bi, 4, none⟩ (.bool true)).setCell ⟨bi, 6, none⟩ (.int .i64 (wrap64 (s.claim + 1)))).heap[k]? = w.heap[k]? := fun k hk => by
    rw [heap_setCell_other _ _ _ _ hk, heap_setCell_other _ _ _ _ hk]
  refine ⟨h.upd rfl rfl rfl ?_ ?_ (h.hF.of_block ?_) hwf h.nd, ((Keeps.refl _ _).setCell (.inl (by simp [fpP])) _).setCell (.inl (by simp [fpP])) _⟩
  · rw [heap_setCell_same _ bi 6 _ _ _ (heap_setCell_same w bi 4 _ _ _ h.hbi)]; rfl
  · intro k hk
    refine hoth k ?_
    rcases hk with rfl | rfl | hk
    · exact Ne.symm n1
    · exact Ne.symm n2
    · intro e; exact hnd.1.2.2.1 (by rw [← e]; exact hk)
  · intro k hk
    refine hoth k ?_
    intro e
    exact hnd.1.2.2.2 (by rw [← e]; exact hk)

set_option maxRecDepth 100000 in
set_option maxHeartbeats 1000000 in
theorem irestart_any (w : World) (bi bs bn : Nat) (U F : Value) (s : DS) (h : PDx w bi bs bn U F s) (hw : s.writes ≤ 4000000000000) :
    Calls Try.prog 28 #[.pointer (some ⟨bi, 0, none⟩)] w fun e w' => e = .returned (.tuple #[]) ∧ ∃ U' F',
      PDx w' bi bs bn U' F' s.restart ∧ Keeps (fpP bi bs bn U F) (fpP bi bs bn U' F') w w' := by
  have c4 := h.c4
  have hwf := Wf.restart h.wf
  cases hon : s.on with
  | false =>
    have e1 : s.restart = { s with on := true, claim := wrap64 (s.claim + 1) } := by unfold DS.restart; rw [if_neg (by rw [hon]; simp)]
    rw [e1] at hwf ⊢
    rw [hon] at c4
    have z4 := h.fz
    have c6 := h.c6
    have HP := hidden (h.again hwf)
    clear h e1 hwf hon
    go_enter Try.func28, Try.ntmps28
    go_wp2
    go_end0
    exact ⟨rfl, U, F, HP.out.1, HP.out.2⟩
  | true =>
    have e1 : s.restart = { s.fails 0 0 with on := true, claim := wrap64 (s.claim + 1) } := by unfold DS.restart; rw [if_pos hon]
    rw [e1] at hwf ⊢
    rw [hon] at c4
    have Hfc := hidden (fail_any w bi bs bn U F s h 0 0 (by omega) (by omega) hw)
    clear h e1 hon
    go_enter Try.func28, Try.ntmps28
    go_wp2_with fail
    refine Hfc.out.mono ?_
    rintro e w' ⟨rfl, hP, hK⟩
    have c4' := hP.c4
    have z4 := hP.fz
    have c6 : w'.cell? ⟨bi, 6, none⟩ = some (.int .i64 s.claim) := hP.c6
    have HP : Hid (PDx _ bi bs bn (.slice none 0 0) (.pointer none) { s.fails 0 0 with on := true, claim := wrap64 (s.claim + 1) } ∧ _) := hP.again hwf
    have HK := hidden hK
    clear hP hK hwf
    go_wp2
    go_end0
    exact ⟨rfl, _, _, HP.out.1, HK.out.trans HP.out.2⟩

end Go.Proofs.YtdpeacdilgcloaaR
