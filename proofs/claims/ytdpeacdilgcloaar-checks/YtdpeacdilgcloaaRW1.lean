/- Contracts of the small functions of the program's disk: each returns what the plain disk says and changes nothing. Own text. -/
import Derived.Test.YtdpeacdilgcloaaRPlain
import Derived.WalkSpells
import Derived.WalkLawsBesides
namespace Go.Proofs.YtdpeacdilgcloaaR
open Go.RowKit

theorem and_one_i64 (x : Int) : bits BinOp.and IntKind.i64 x 1 = x % 2 := by
  have h : ((BitVec.ofInt 64 x &&& BitVec.ofInt 64 1).toNat : Int) = x % 2 := by
    rw [BitVec.toNat_and, show (BitVec.ofInt 64 1).toNat = 1 from rfl, Nat.and_one_is_mod, BitVec.toNat_ofInt]
    omega
  show IntKind.wrap .i64 ((BitVec.ofInt 64 x &&& BitVec.ofInt 64 1).toNat : Int) = x % 2
  rw [h]
  unfold IntKind.wrap
  simp only [IntKind.bits, IntKind.signed]
  have := Int.emod_two_eq x
  rcases this with e | e <;> rw [e] <;> decide

theorem ret_int {k : IntKind} {a b : Int} (h : a = b) : Ending.returned (.int k a) = .returned (.int k b) := by rw [h]
theorem ret_bool {a b : Bool} (h : a = b) : Ending.returned (.bool a) = .returned (.bool b) := by rw [h]

theorem lastN_tear {i c : Nat} {m t : Int} (h : ((i : Int) == t % (c : Int)) = true) : ((lastN i c m t : Nat) : Int) = max (min (t / 16) 64) 0 := by
  unfold lastN
  rw [if_pos (by simpa using h)]
  omega
theorem lastN_bit {i c : Nat} {m t : Int} (h : ((i : Int) == t % (c : Int)) = false) (h' : (bits BinOp.and IntKind.i64 (m / 2 ^ (i % 16)) 1 == 1) = true) : ((lastN i c m t : Nat) : Int) = 64 := by
  unfold lastN
  rw [and_one_i64] at h'
  rw [if_neg (by simpa using h), if_pos (by unfold bitOf; simpa using h')]
  rfl
theorem lastN_none {i c : Nat} {m t : Int} (h : ((i : Int) == t % (c : Int)) = false) (h' : (bits BinOp.and IntKind.i64 (m / 2 ^ (i % 16)) 1 == 1) = false) : ((lastN i c m t : Nat) : Int) = 0 := by
  unfold lastN
  rw [and_one_i64] at h'
  rw [if_neg (by simpa using h), if_neg (by unfold bitOf; simpa using h')]
  rfl

set_option maxHeartbeats 400000 in
theorem lasting_any (i c : Nat) (m t : Int) (w : World) (hi : i < c) (ht : 0 ≤ t) (ht2 : t ≤ 9223372036854775807) :
    Calls Try.prog 47 #[.int .i64 i, .int .i64 c, .int .i64 m, .int .i64 t] w fun e w' => e = .returned (.int .i64 (lastN i c m t)) ∧ w = w' := by
  go_enter Try.func47, Try.ntmps47
  go_wp2
  · go_ret
    exact ⟨ret_int (by rw [lastN_tear ‹_›]; omega), rfl⟩
  · go_ret
    exact ⟨ret_int (by rw [lastN_tear ‹_›]; omega), rfl⟩
  · go_ret
    exact ⟨ret_int (by rw [lastN_bit ‹_› ‹_›]), rfl⟩
  · go_ret
    exact ⟨ret_int (by rw [lastN_none ‹_› ‹_›]), rfl⟩

theorem has_any (bi n : Nat) (at_ : Int) (a : Option Addr) (w : World)
    (h1 : w.cell? ⟨bi, 1, none⟩ = some (.slice a n n)) :
    Calls Try.prog 45 #[.pointer (some ⟨bi, 0, none⟩), .int .i64 at_] w fun e w' => e = .returned (.bool (decide (0 ≤ at_ ∧ at_ < n))) ∧ w = w' := by
  by_cases h0 : 0 ≤ at_
  · by_cases hl : at_ < n
    · go_enter Try.func45, Try.ntmps45
      go_wp2
      go_ret
      exact ⟨by simp [h0, hl], rfl⟩
    · go_enter Try.func45, Try.ntmps45
      go_wp2
      go_ret
      exact ⟨ret_bool (by simp; omega), rfl⟩
  · go_enter Try.func45, Try.ntmps45
    go_wp2
    go_ret
    exact ⟨ret_bool (by simp; omega), rfl⟩

theorem ion_any (bi : Nat) (b : Bool) (w : World) (h1 : w.cell? ⟨bi, 4, none⟩ = some (.bool b)) :
    Calls Try.prog 38 #[.pointer (some ⟨bi, 0, none⟩)] w fun e w' => e = .returned (.bool b) ∧ w = w' := by
  go_enter Try.func38, Try.ntmps38
  go_wp2
  go_ret
  exact ⟨rfl, rfl⟩

theorem iwrites_any (bi : Nat) (n : Int) (w : World) (h1 : w.cell? ⟨bi, 5, none⟩ = some (.int .i64 n)) :
    Calls Try.prog 39 #[.pointer (some ⟨bi, 0, none⟩)] w fun e w' => e = .returned (.int .i64 n) ∧ w = w' := by
  go_enter Try.func39, Try.ntmps39
  go_wp2
  go_ret
  exact ⟨rfl, rfl⟩

theorem inside_any (bo bi : Nat) (w : World) (h1 : w.cell? ⟨bo, 0, none⟩ = some (.pointer (some ⟨bi, 0, none⟩))) :
    Calls Try.prog 27 #[.pointer (some ⟨bo, 0, none⟩)] w fun e w' => e = .returned (.pointer (some ⟨bi, 0, none⟩)) ∧ w = w' := by
  go_enter Try.func27, Try.ntmps27
  go_wp2
  go_ret
  exact ⟨rfl, rfl⟩

end Go.Proofs.YtdpeacdilgcloaaR
