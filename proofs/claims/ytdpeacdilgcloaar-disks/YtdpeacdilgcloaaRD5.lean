/- The statement Disks, walked where the number of sectors is refused. Own text. -/
import Derived.Test.YtdpeacdilgcloaaRD4
namespace Go.Proofs.YtdpeacdilgcloaaR
open Go.RowKit

theorem Runs1.mono {w0 w : World} {bo br n m : Nat} (h : Runs1 w0 w bo br n) (hm : n ≤ m) : Runs1 w0 w bo br m := by
  obtain ⟨⟨fp, s, hP, h1, h3⟩, hk⟩ := h
  exact ⟨⟨fp, s, hP, by omega, h3⟩, hk⟩

set_option maxRecDepth 100000 in
set_option maxHeartbeats 4000000 in
theorem disks_no (w : World) (n : Int) (hn : n < 48 ∨ 128 < n) (sa : Option Addr) (len cap : Nat) (hlen : len < 2932031008000)
    (hs : 0 < len → ∃ b off, sa = some ⟨b, off, none⟩ ∧ b < w.heap.size ∧ ∀ i, i < len → DeedAt w b (off + i * 5)) :
    Calls Try.prog 3 #[.int .i64 n, .slice sa len cap] w fun e w' => e = .returned (.bool true) ∧ Keeps [] [] w w' := by
  have H1 := hidden (onew_no w n hn)
  have H2 := hidden (rnew_no w n hn)
  have Hs := hidden hs
  clear hs hn
  go_enter Try.func3, Try.ntmps3
  go_wp2_with fail
  refine H1.out.mono ?_
  rintro e w1 ⟨rfl, rfl⟩
  go_wp2_with fail
  refine H2.out.mono ?_
  rintro e w1 ⟨rfl, rfl⟩
  clear H1 H2
  go_wp2_with fail
  refine (onew_48 w).mono ?_
  rintro e w3 ⟨bo, fo, rfl, hO1, hK1⟩
  have HO1 := hidden hO1
  have HK1 := hidden hK1
  clear hO1 hK1
  go_wp2_with fail
  refine (rnew_48 w3).mono ?_
  rintro e w4 ⟨br, rfl, fr, hR1, hK2⟩
  obtain ⟨fp, hP, hKP⟩ := pair_new HO1.out HK1.out hR1 hK2
  have HR := hidden (runs1_new hP hKP)
  clear hR1 hK2 hP hKP HO1 HK1
  go_wp2_with fail
  go_loopw [13, 14] (fun i ok wr => ∃ k : Nat, k ≤ len ∧ i = .int .i64 k ∧ Runs1 w wr bo br k) (fun i _ _ => len - (intOf i).toNat)
  case atStart => exact ⟨0, Nat.zero_le _, rfl, HR.out⟩
  case round =>
    clear HR
    obtain ⟨k, hk, rfl, hR⟩ := hrel
    by_cases hlt : k < len
    · obtain ⟨b, off, hsa, hb, hD⟩ := Hs.out (by omega)
      obtain ⟨K, A, B, C, S, e0, e1, e2, e3, e4, hA, hB, hC, hS⟩ := (hD k hlt).keep hb hR.k
      subst hsa
      have HL := hidden (runs1_act hR (by omega) K A B C S hS hA hB hC)
      clear hR hD hA hB hC hS Hs
      go_wp2_with fail
      refine HL.out.mono ?_
      rintro e w5 ⟨rfl, hR5⟩
      have HR5 := hidden hR5
      clear hR5 HL e0 e1 e2 e3 e4
      go_wp2
      go_roundw
      case rel => exact ⟨k + 1, by omega, by go_num, HR5.out⟩
      case measure => simp [intOf]; omega
    · have hke : k = len := by omega
      subst hke
      have HR5 := hidden hR
      clear hR Hs
      go_wp2_with fail
      go_loopw [15, 16, 17] (fun c _ _ wr => ∃ c' : Nat, c' ≤ 2 ∧ c = .int .i64 c' ∧ Runs1 w wr bo br (k + 300 * c')) (fun c _ _ _ => 2 - (intOf c).toNat)
      case atStart => exact ⟨0, by omega, rfl, HR5.out⟩
      case round =>
        clear HR5
        obtain ⟨c, hc, rfl, hR⟩ := hrel
        by_cases hc2 : c < 2
        · have HR6 := hidden hR
          have hc2b : decide ((c : Int) < 2) = true := by simp; omega
          clear hR
          go_wp2_with fail
          go_loopw [16, 17] (fun i _ wr => ∃ i' : Nat, i' ≤ 128 ∧ i = .int .i64 i' ∧ Runs1 w wr bo br (k + 300 * c + 2 * i')) (fun i _ _ => 128 - (intOf i).toNat)
          case atStart => exact ⟨0, by omega, rfl, HR6.out⟩
          case round =>
            clear HR6
            obtain ⟨i, hi, rfl, hR⟩ := hrel
            by_cases hi2 : i < 128
            · have HRt := hidden (runs1_act hR (by omega) 3 i 0 0 ⟨#[]⟩ (by unfold maxLen; simp [ByteArray.size]) (by omega) (by omega) (by omega))
              clear hR
              go_wp2_with fail
              refine HRt.out.mono ?_
              rintro e w6 ⟨rfl, hR6⟩
              have HR6 := hidden (hR6.mono (m := k + 300 * c + 2 * (i + 1)) (by omega))
              clear hR6 HRt
              go_wp2
              go_roundw
              case rel => exact ⟨i + 1, by omega, by go_num, HR6.out⟩
              case measure => simp [intOf]; omega
            · have hie : i = 128 := by omega
              subst hie
              have HA := hidden (runs1_restart hR (by omega))
              clear hR
              go_wp2_with fail
              refine HA.out.mono ?_
              rintro e w5 ⟨rfl, hB5⟩
              have HB5 := hidden hB5
              clear hB5 HA
              go_wp2_with fail
              refine HB5.out.mono ?_
              rintro e w8 ⟨rfl, hR8⟩
              have HR8 := hidden (hR8.mono (m := k + 300 * (c + 1)) (by omega))
              clear hR8 HB5
              go_wp2
              go_roundw
              case rel => exact ⟨c + 1, by omega, by go_num, HR8.out⟩
              case measure => simp [intOf]; omega
        · have hce : c = 2 := by omega
          subst hce
          have HR6 := hidden hR.k
          clear hR
          go_wp2
          go_ret
          exact ⟨rfl, HR6.out⟩

end Go.Proofs.YtdpeacdilgcloaaR
