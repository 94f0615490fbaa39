/- Checks: the law walked. Own text. -/
import Derived.Test.YtdpeacdilgcloaaRC4
namespace Go.Proofs.YtdpeacdilgcloaaR
open Go.RowKit

def counterS : ByteArray := ⟨#[17, 0, 1, 1, 5, 2, 18, 0, 20]⟩
def oneS : ByteArray := ⟨#[1]⟩
theorem check_counter : checkP counterS.data.toList = 0 := by decide +kernel
theorem check_one : checkP oneS.data.toList = 5 := by decide +kernel

set_option maxRecDepth 100000 in
theorem counter_any (w : World) : Calls Try.prog 11 #[] w fun e w' => e = .returned (.string counterS) ∧ w = w' := by
  go_enter Try.func11, Try.ntmps11
  go_wp2
  go_ret
  exact ⟨rfl, rfl⟩

set_option maxRecDepth 100000 in
set_option maxHeartbeats 1000000 in
theorem checks_walk (w : World) (sa : Option Addr) (len cap : Nat) (hlen : len < 1000000000000)
    (hs : 0 < len → ∃ b off, sa = some ⟨b, off, none⟩ ∧ b < w.heap.size ∧ ∀ i, i < len → ∃ S : ByteArray, w.cell? ⟨b, off + i, none⟩ = some (.string S) ∧ S.size ≤ 1000000000000) :
    Calls Try.prog 4 #[.slice sa len cap] w fun e w' => e = .returned (.bool true) ∧ Keeps [] [] w w' := by
  have Hs := hidden hs
  clear hs
  go_enter Try.func4, Try.ntmps4
  go_wp2_with fail
  refine (counter_any w).mono ?_
  rintro e w1 ⟨rfl, rfl⟩
  go_wp2_with fail
  refine (pcheck_any w counterS (by decide)).mono ?_
  rintro e w2 ⟨rfl, hk2⟩
  rw [check_counter]
  have HK2 := hidden hk2
  clear hk2
  go_wp2_with fail
  refine (pcheck_any w2 oneS (by decide)).mono ?_
  rintro e w3 ⟨rfl, hk3⟩
  rw [check_one]
  have HK3 := hidden (HK2.out.trans hk3)
  clear hk3 HK2
  go_wp2
  go_loopw [5, 6] (fun i _ wr => ∃ k : Nat, k ≤ len ∧ i = .int .i64 k ∧ Keeps [] [] w wr) (fun i _ _ => len - (intOf i).toNat)
  case atStart => exact ⟨0, Nat.zero_le _, rfl, HK3.out⟩
  case round =>
    obtain ⟨k, hk, rfl, hkp⟩ := hrel
    have HKp := hidden hkp
    clear hkp
    by_cases hlt : k < len
    · obtain ⟨b, off, rfl, hb, hcs⟩ := Hs.out (by omega)
      obtain ⟨S, hc, hS⟩ := hcs k hlt
      have hc1 : wr.cell? ⟨b, off + k, none⟩ = some (.string S) := by rw [← hc]; exact World.cell?_of_block (HKp.out.block b hb (by simp))
      have HC := hidden hc
      clear hcs hc
      go_wp2_with fail
      refine (pcheck_any _ S hS).mono ?_
      rintro e w6 ⟨rfl, hk6⟩
      have HK6 := hidden (HKp.out.trans hk6)
      have hc2 : w6.cell? ⟨b, off + k, none⟩ = some (.string S) := by rw [← HC.out]; exact World.cell?_of_block (HK6.out.block b hb (by simp))
      clear hk6
      go_wp2_with fail
      refine (rcheck_any _ S hS).mono ?_
      rintro e w7 ⟨rfl, hk7⟩
      have HK7 := hidden (HK6.out.trans hk7)
      clear hk7
      have hbb : (!(checkP S.data.toList == checkP S.data.toList)) = false := by simp
      go_wp2
      go_roundw
      case rel => exact ⟨k + 1, by omega, by go_num, HK7.out⟩
      case measure => simp [intOf]; omega
    · go_wp2
      go_ret
      exact ⟨rfl, HKp.out⟩

end Go.Proofs.YtdpeacdilgcloaaR
