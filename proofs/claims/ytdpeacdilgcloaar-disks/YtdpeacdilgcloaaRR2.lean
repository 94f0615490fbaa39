/- The document's disk: Fuse, and what a failing power leaves. Own text. -/
import Derived.Test.YtdpeacdilgcloaaRR1
namespace Go.Proofs.YtdpeacdilgcloaaR
open Go.RowKit

theorem RDx.upd {w w' : World} {br : Nat} {L O : Value} {l m t l' m' t' : Int} {s s' : DS} (h : RDx w br L O l m t s) (hn : s'.n = s.n) (hl : s'.last = s.last) (ho : s'.opn = s.opn)
    (hbr : w'.heap[br]? = some (.cells #[L, O, .bool s'.on, .bool s'.fuse.isSome, .int .i64 l', .int .i64 m', .int .i64 t', .int .i64 s'.writes] 45 (0, 0)))
    (hk : ∀ k, L.ownBlock = some k ∨ O.ownBlock = some k → w'.heap[k]? = w.heap[k]?) (hf : ∀ l1 m1 t1, s'.fuse = some (l1, m1, t1) → l' = l1 ∧ m' = m1 % 65536 ∧ t' = t1) (hwf : s'.Wf) : RDx w' br L O l' m' t' s' := by
  refine ⟨hbr, ?_, ?_, hf, hwf, h.nd⟩
  · rw [hn, hl]; exact own_of_block h.hL (fun g hg => hk g (.inl hg))
  · rw [ho]; exact own_of_block h.hO (fun g hg => hk g (.inr hg))

theorem RDx.far {w : World} {br : Nat} {L O : Value} {l m t : Int} {s : DS} (h : RDx w br L O l m t s) : ∀ k, L.ownBlock = some k ∨ O.ownBlock = some k → k ≠ br ∧ k < w.heap.size := by
  intro k hk
  have hnd := h.nd
  simp only [List.nodup_cons, List.mem_append, Option.mem_toList, not_or] at hnd
  rcases hk with hk | hk
  · exact ⟨fun e => hnd.1.1 (by rw [← e]; exact hk), own_lt h.hL k hk⟩
  · exact ⟨fun e => hnd.1.2 (by rw [← e]; exact hk), own_lt h.hO k hk⟩

theorem mask_norm (m : Int) : (m.tmod 65536 + 65536).tmod 65536 = m % 65536 := by
  rcases Int.le_total 0 m with h | h
  · rw [Int.tmod_eq_emod_of_nonneg h, Int.tmod_eq_emod_of_nonneg (by omega)]; omega
  · have e : m.tmod 65536 = -((-m) % 65536) := by rw [← Int.neg_neg m, Int.neg_tmod, Int.tmod_eq_emod_of_nonneg (by omega)]; simp
    rw [e, Int.tmod_eq_emod_of_nonneg (by omega)]; omega

theorem mask_wrap (m : Int) : (wrap64 (m.tmod 65536 + 65536)).tmod 65536 = m % 65536 := by
  have h1 : -65536 < m.tmod 65536 ∧ m.tmod 65536 < 65536 := by
    rcases Int.le_total 0 m with h | h
    · rw [Int.tmod_eq_emod_of_nonneg h]; omega
    · rw [show m.tmod 65536 = -((-m) % 65536) by rw [← Int.neg_neg m, Int.neg_tmod, Int.tmod_eq_emod_of_nonneg (by omega)]; simp]; omega
  have h2 : wrap64 (m.tmod 65536 + 65536) = m.tmod 65536 + 65536 := by
    generalize m.tmod 65536 = x at *
    unfold wrap64
    omega
  rw [h2, mask_norm]

set_option maxRecDepth 100000 in
set_option maxHeartbeats 1000000 in
theorem rfuse_any (w : World) (br : Nat) (L O : Value) (l m t : Int) (s : DS) (h : RDx w br L O l m t s) (a k c : Int) (ha : a ≤ 9223372036854775807) (hm : -9223372036854775808 ≤ k ∧ k ≤ 9223372036854775807) (hc : c ≤ 9223372036854775807) :
    Calls Try.prog 22 #[.pointer (some ⟨br, 0, none⟩), .int .i64 a, .int .i64 k, .int .i64 c] w fun e w' => e = .returned (.tuple #[]) ∧ (∃ l' m' t', RDx w' br L O l' m' t' (s.setFuse a k c)) ∧ Keeps (br :: (L.ownBlock.toList ++ O.ownBlock.toList)) (br :: (L.ownBlock.toList ++ O.ownBlock.toList)) w w' := by
  have c2 := h.c2
  have c3 := h.c3
  have c4 := h.c4
  have c5 := h.c5
  have c6 := h.c6
  have z := h.fz
  have hwf := Wf.setFuse h.wf a k c ha hm hc
  cases hon : s.on with
  | false =>
    have e1 : s.setFuse a k c = s := by unfold DS.setFuse; rw [if_neg (by rw [hon]; simp)]
    rw [e1]
    rw [hon] at c2
    go_enter Try.func22, Try.ntmps22
    go_wp2
    go_end0
    exact ⟨rfl, ⟨l, m, t, h⟩, Keeps.refl _ _⟩
  | true =>
    have e1 : s.setFuse a k c = { s with fuse := some (max a 0, k, max c 0) } := by unfold DS.setFuse; rw [if_pos hon]
    rw [e1] at hwf ⊢
    rw [hon] at c2
    have HC : Hid (∀ a' k' c', a' = max a 0 → k' = k % 65536 → c' = max c 0 → RDx ((((w.setCell ⟨br, 3, none⟩ (.bool true)).setCell ⟨br, 4, none⟩ (.int .i64 a')).setCell ⟨br, 5, none⟩ (.int .i64 k')).setCell ⟨br, 6, none⟩ (.int .i64 c')) br L O a' k' c' { s with fuse := some (max a 0, k, max c 0) }) := by
      intro a' k' c' ea ek ec
      refine h.upd rfl rfl rfl ?_ ?_ ?_ hwf
      · rw [heap_setCell_same _ _ _ _ _ _ (heap_setCell_same _ _ _ _ _ _ (heap_setCell_same _ _ _ _ _ _ (heap_setCell_same _ _ _ _ _ _ h.hbr)))]
        rfl
      · intro x hx
        have hne := (h.far x hx).1
        rw [heap_setCell_other _ _ _ _ hne, heap_setCell_other _ _ _ _ hne, heap_setCell_other _ _ _ _ hne, heap_setCell_other _ _ _ _ hne]
      · intro l1 m1 t1 e
        injection e with e
        injection e with e1 e2
        injection e2 with e2 e3
        subst e1; subst e2; subst e3
        exact ⟨ea, ek, ec⟩
    have HM := hidden (mask_wrap k)
    clear h e1 hwf hon
    go_enter Try.func22, Try.ntmps22
    go_wp2
    all_goals
      go_end0
      exact ⟨rfl, ⟨_, _, _, HC.out _ _ _ (by omega) HM.out (by omega)⟩, ((((Keeps.refl _ _).setCell (.inl (by simp)) _).setCell (.inl (by simp)) _).setCell (.inl (by simp)) _).setCell (.inl (by simp)) _⟩

end Go.Proofs.YtdpeacdilgcloaaR
