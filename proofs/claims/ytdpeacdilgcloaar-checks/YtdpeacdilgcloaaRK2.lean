/- The program's adds, size and fits. Own text. -/
import Derived.Test.YtdpeacdilgcloaaRK1
namespace Go.Proofs.YtdpeacdilgcloaaR
open Go.RowKit

def addsP (k : Nat) : Nat :=
  if k = 1 then 2 else if k = 13 ∨ k = 14 ∨ k = 15 then 3 else if k = 17 ∨ k = 18 then 4 else if k = 21 ∨ k = 22 ∨ k = 23 ∨ k = 24 then 5 else if k ≤ 24 then 1 else 0
def sizeP (k : Nat) : Nat := if addsP k = 1 then 1 else 2

theorem adds_zero (k : Nat) : addsP k = 0 ↔ longP k = 0 := by
  unfold addsP longP
  repeat' split
  all_goals omega
theorem size_long (k : Nat) (h : longP k ≠ 0) : sizeP k = longP k := by
  unfold sizeP addsP
  unfold longP at h ⊢
  repeat' split
  all_goals first | omega | rfl | simp_all

set_option maxRecDepth 100000 in
set_option maxHeartbeats 1000000 in
theorem adds_any (k : Nat) (w : World) : Calls Try.prog 48 #[.int .u8 k] w fun e w' => e = .returned (.int .i64 (addsP k)) ∧ w = w' := by
  by_cases h : k = 1 ∨ k = 13 ∨ k = 14 ∨ k = 15 ∨ k = 17 ∨ k = 18 ∨ k = 21 ∨ k = 22 ∨ k = 23 ∨ k = 24
  · rcases h with rfl | rfl | rfl | rfl | rfl | rfl | rfl | rfl | rfl | rfl
    all_goals
      go_enter Try.func48, Try.ntmps48
      go_wp2
      go_ret
      exact ⟨rfl, rfl⟩
  · have n1 : ((k : Int) == 1) = false := by simp; omega
    have n2 : ((k : Int) == 13) = false := by simp; omega
    have n3 : ((k : Int) == 14) = false := by simp; omega
    have n4 : ((k : Int) == 15) = false := by simp; omega
    have n5 : ((k : Int) == 17) = false := by simp; omega
    have n6 : ((k : Int) == 18) = false := by simp; omega
    have n7 : ((k : Int) == 21) = false := by simp; omega
    have n8 : ((k : Int) == 22) = false := by simp; omega
    have n9 : ((k : Int) == 23) = false := by simp; omega
    have n10 : ((k : Int) == 24) = false := by simp; omega
    by_cases h2 : k ≤ 24
    · have e : addsP k = 1 := by unfold addsP; rw [if_neg (by omega), if_neg (by omega), if_neg (by omega), if_neg (by omega), if_pos h2]
      rw [e]
      have h3 : (k : Int) ≤ 24 := by omega
      clear h h2 e
      go_enter Try.func48, Try.ntmps48
      go_wp2
      go_ret
      exact ⟨rfl, rfl⟩
    · have e : addsP k = 0 := by unfold addsP; rw [if_neg (by omega), if_neg (by omega), if_neg (by omega), if_neg (by omega), if_neg h2]
      rw [e]
      have h3 : ¬ (k : Int) ≤ 24 := by omega
      clear h h2 e
      go_enter Try.func48, Try.ntmps48
      go_wp2
      go_ret
      exact ⟨rfl, rfl⟩

set_option maxRecDepth 100000 in
theorem size_any (k : Nat) (w : World) : Calls Try.prog 42 #[.int .u8 k] w fun e w' => e = .returned (.int .i64 (sizeP k)) ∧ w = w' := by
  by_cases h : addsP k = 1
  · have e : sizeP k = 1 := if_pos h
    rw [e]
    have hb : ((addsP k : Int) == 1) = true := by simp [h]
    clear e h
    go_enter Try.func42, Try.ntmps42
    go_wp2_with fail
    refine (adds_any k _).mono ?_
    rintro e w5 ⟨rfl, rfl⟩
    go_wp2
    go_ret
    exact ⟨rfl, rfl⟩
  · have e : sizeP k = 2 := if_neg h
    rw [e]
    have hb : ((addsP k : Int) == 1) = false := by simp; omega
    clear e h
    go_enter Try.func42, Try.ntmps42
    go_wp2_with fail
    refine (adds_any k _).mono ?_
    rintro e w5 ⟨rfl, rfl⟩
    go_wp2
    go_ret
    exact ⟨rfl, rfl⟩

theorem begins_one (w : World) (f : Nat → Bool) (n : Nat) (h : n < 201) : (w.alloc (.cells (marksV f).toArray 71)).cell? ⟨w.heap.size, n, none⟩ = some (.bool (f n)) := by
  rw [cell_of_row _ _ n _ _ _ (newB w _)]
  simpa using marksV_get f n h

set_option maxRecDepth 100000 in
set_option maxHeartbeats 1000000 in
theorem fits_any (k n : Nat) (f : Nat → Bool) (w : World) : Calls Try.prog 43 #[.int .u8 k, .int .i64 n, .agg (marksV f).toArray] w fun e w' =>
    e = .returned (.bool (fitP f k n)) ∧ w' = w.alloc (.cells (marksV f).toArray 71) := by
  have hs : (marksV f).toArray.size = 201 := by simp [marksV_len]
  have hc := begins_one w f n
  generalize (marksV f).toArray = M at *
  by_cases hA : k = 13 ∨ k = 14 ∨ k = 15
  · have e1 : fitP f k n = (decide (n < 201) && f n) := by unfold fitP; rw [if_pos hA]
    have e2 : addsP k = 3 := by unfold addsP; rw [if_neg (by omega), if_pos hA]
    rw [e1]
    by_cases hn : n < 201
    · have hc' := hc hn
      have hn' : (n : Int) < 201 := by omega
      have e3 : (decide (n < 201) && f n) = f n := by simp [hn]
      rw [e3]
      clear hc hA e1 e3
      go_enter Try.func43, Try.ntmps43
      go_wp2_with fail
      refine (adds_any k _).mono ?_
      rintro e w5 ⟨rfl, rfl⟩
      rw [e2]
      go_wp2
      go_ret
      exact ⟨rfl, rfl⟩
    · have hn' : ¬ (n : Int) < 201 := by omega
      have e3 : (decide (n < 201) && f n) = false := by simp [hn]
      rw [e3]
      clear hc hA e1 e3
      go_enter Try.func43, Try.ntmps43
      go_wp2_with fail
      refine (adds_any k _).mono ?_
      rintro e w5 ⟨rfl, rfl⟩
      rw [e2]
      go_wp2
      go_ret
      exact ⟨rfl, rfl⟩
  · clear hc
    by_cases hB : k = 17 ∨ k = 18
    · have e1 : fitP f k n = decide (n < 16) := by unfold fitP; rw [if_neg hA, if_pos hB]
      have e2 : addsP k = 4 := by unfold addsP; rw [if_neg (by omega), if_neg hA, if_pos hB]
      have e3 : decide (n < 16) = decide ((n : Int) < 16) := by simp; omega
      rw [e1, e3]
      clear hA hB e1 e3
      go_enter Try.func43, Try.ntmps43
      go_wp2_with fail
      refine (adds_any k _).mono ?_
      rintro e w5 ⟨rfl, rfl⟩
      rw [e2]
      go_wp2
      go_ret
      exact ⟨rfl, rfl⟩
    · by_cases hC : k = 21 ∨ k = 22 ∨ k = 23 ∨ k = 24
      · have e1 : fitP f k n = decide (n < 4) := by unfold fitP; rw [if_neg hA, if_neg hB, if_pos hC]
        have e2 : addsP k = 5 := by unfold addsP; rw [if_neg (by omega), if_neg hA, if_neg hB, if_pos hC]
        have e3 : decide (n < 4) = decide ((n : Int) < 4) := by simp; omega
        rw [e1, e3]
        clear hA hB hC e1 e3
        go_enter Try.func43, Try.ntmps43
        go_wp2_with fail
        refine (adds_any k _).mono ?_
        rintro e w5 ⟨rfl, rfl⟩
        rw [e2]
        go_wp2
        go_ret
        exact ⟨rfl, rfl⟩
      · have e1 : fitP f k n = true := by unfold fitP; rw [if_neg hA, if_neg hB, if_neg hC]
        rw [e1]
        have h3 : addsP k ≠ 3 ∧ addsP k ≠ 4 ∧ addsP k ≠ 5 := by unfold addsP; rw [if_neg hA, if_neg hB, if_neg hC]; split; omega; split <;> omega
        have n1 : ((addsP k : Int) == 3) = false := by simp; omega
        have n2 : ((addsP k : Int) == 4) = false := by simp; omega
        have n3 : ((addsP k : Int) == 5) = false := by simp; omega
        clear hA hB hC e1 h3
        go_enter Try.func43, Try.ntmps43
        go_wp2_with fail
        refine (adds_any k _).mono ?_
        rintro e w5 ⟨rfl, rfl⟩
        go_wp2
        go_ret
        exact ⟨rfl, rfl⟩

end Go.Proofs.YtdpeacdilgcloaaR
