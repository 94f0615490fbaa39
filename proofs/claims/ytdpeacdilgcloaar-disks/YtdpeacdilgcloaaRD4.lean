/- The statement Disks, walked: for every number of sectors and every script that is not too long it returns true and leaves all that was there. Own text. -/
import Derived.Test.YtdpeacdilgcloaaRD3
namespace Go.Proofs.YtdpeacdilgcloaaR
open Go.RowKit

def DeedAt (w : World) (b o : Nat) : Prop := ∃ (K A B C : Int) (S : ByteArray), w.cell? ⟨b, o, none⟩ = some (.int .i64 K) ∧ w.cell? ⟨b, o + 1, none⟩ = some (.int .i64 A) ∧ w.cell? ⟨b, o + 2, none⟩ = some (.int .i64 B) ∧
  w.cell? ⟨b, o + 3, none⟩ = some (.int .i64 C) ∧ w.cell? ⟨b, o + 4, none⟩ = some (.string S) ∧ A ≤ 9223372036854775807 ∧ (-9223372036854775808 ≤ B ∧ B ≤ 9223372036854775807) ∧ C ≤ 9223372036854775807 ∧ S.size ≤ maxLen

theorem DeedAt.keep {w w' : World} {b o : Nat} (h : DeedAt w b o) (hb : b < w.heap.size) (hK : Keeps [] [] w w') : DeedAt w' b o := by
  obtain ⟨K, A, B, C, S, h⟩ := h
  refine ⟨K, A, B, C, S, ?_⟩
  have e : ∀ j, w'.cell? ⟨b, j, none⟩ = w.cell? ⟨b, j, none⟩ := fun j => World.cell?_of_block (hK.block b hb (by simp))
  simp only [e]
  exact h

theorem onew_48 (w : World) : Calls Try.prog 5 #[.int .i64 48] w fun e w' => ∃ bo fp, e = .returned (.tuple #[.pointer (some ⟨bo, 0, none⟩), .int .i64 0]) ∧ OD w' bo fp (DS.born 48) ∧ Keeps [] fp w w' :=
  onew_ok w 48 (by omega) (by omega)
theorem rnew_48 (w : World) : Calls Try.prog 6 #[.int .i64 48] w fun e w' => ∃ br, e = .returned (.tuple #[.pointer (some ⟨br, 0, none⟩), .int .i64 0]) ∧ ∃ fp, RD w' br fp (DS.born 48) ∧ Keeps [] fp w w' :=
  rnew_ok w 48 (by omega) (by omega)

set_option maxRecDepth 100000 in
set_option maxHeartbeats 4000000 in
theorem disks_ok (w : World) (n : Nat) (h1 : 48 ≤ n) (h2 : n ≤ 128) (sa : Option Addr) (len cap : Nat) (hlen : len < 2932031008000)
    (hs : 0 < len → ∃ b off, sa = some ⟨b, off, none⟩ ∧ b < w.heap.size ∧ ∀ i, i < len → DeedAt w b (off + i * 5)) :
    Calls Try.prog 3 #[.int .i64 n, .slice sa len cap] w fun e w' => e = .returned (.bool true) ∧ Keeps [] [] w w' := by
  have H1 := hidden (onew_ok w n h1 h2)
  have H2 := hidden (fun w1 => rnew_ok w1 n h1 h2)
  have Hs := hidden hs
  clear hs h1 h2
  go_enter Try.func3, Try.ntmps3
  go_wp2_with fail
  refine H1.out.mono ?_
  rintro e w1 ⟨bo, fo, rfl, hO1, hK1⟩
  have HO1 := hidden hO1
  have HK1 := hidden hK1
  clear hO1 hK1
  go_wp2_with fail
  refine (H2.out w1).mono ?_
  rintro e w2 ⟨br, rfl, fr, hR1, hK2⟩
  obtain ⟨fp, hP, hKP⟩ := pair_new HO1.out HK1.out hR1 hK2
  have HP := hidden hP
  have HKP := hidden hKP
  clear hR1 hK2 hP hKP HO1 HK1 H1 H2
  go_wp2_with fail
  refine (onew_48 w2).mono ?_
  rintro e w3 ⟨bo', fo', rfl, hO1, hK1⟩
  have HO1 := hidden hO1
  have HK1 := hidden hK1
  clear hO1 hK1
  go_wp2_with fail
  refine (rnew_48 w3).mono ?_
  rintro e w4 ⟨br', rfl, fr', hR1, hK2⟩
  obtain ⟨fp', hP, hKP⟩ := pair_new HO1.out HK1.out hR1 hK2
  have HR := hidden (runs_new HP.out HKP.out hP hKP)
  clear hR1 hK2 hP hKP HO1 HK1 HP HKP
  go_wp2_with fail
  go_loopw [13, 14] (fun i ok wr => ∃ k : Nat, k ≤ len ∧ i = .int .i64 k ∧ Runs w wr bo br bo' br' k) (fun i _ _ => len - (intOf i).toNat)
  case atStart => exact ⟨0, Nat.zero_le _, rfl, HR.out⟩
  case round =>
    clear HR
    obtain ⟨k, hk, rfl, hR⟩ := hrel
    by_cases hlt : k < len
    · obtain ⟨b, off, hsa, hb, hD⟩ := Hs.out (by omega)
      obtain ⟨K, A, B, C, S, e0, e1, e2, e3, e4, hA, hB, hC, hS⟩ := (hD k hlt).keep hb hR.k
      subst hsa
      have HL := hidden (runs_left hR (by omega) K A B C S hS hA hB hC)
      have HRt := hidden (runs_right hR (by omega) K A B C S hS hA hB hC)
      clear hR hD hA hB hC hS Hs
      by_cases h4 : (k : Int) % 4 = 3
      · have h4b : ((k : Int) % 4 == 3) = true := by simpa using h4
        clear h4
        go_wp2_with fail
        refine HRt.out.mono ?_
        rintro e w5 ⟨rfl, hR5⟩
        have HR5 := hidden hR5
        clear hR5 HL HRt e0 e1 e2 e3 e4
        go_wp2
        go_roundw
        case rel => exact ⟨k + 1, by omega, by go_num, HR5.out⟩
        case measure => simp [intOf]; omega
      · have h4b : ((k : Int) % 4 == 3) = false := by simpa using h4
        clear h4
        go_wp2_with fail
        refine HL.out.mono ?_
        rintro e w5 ⟨rfl, hR5⟩
        have HR5 := hidden hR5
        clear hR5 HL HRt e0 e1 e2 e3 e4
        go_wp2
        go_roundw
        case rel => exact ⟨k + 1, by omega, by go_num, HR5.out⟩
        case measure => simp [intOf]; omega
    · have hke : k = len := by omega
      subst hke
      have HR5 := hidden hR
      clear hR Hs
      go_wp2_with fail
      go_loopw [15, 16, 17] (fun c _ _ wr => ∃ c' : Nat, c' ≤ 2 ∧ c = .int .i64 c' ∧ Runs w wr bo br bo' br' (k + 300 * c')) (fun c _ _ _ => 2 - (intOf c).toNat)
      case atStart => exact ⟨0, by omega, rfl, HR5.out⟩
      case round =>
        clear HR5
        obtain ⟨c, hc, rfl, hR⟩ := hrel
        by_cases hc2 : c < 2
        · have HR6 := hidden hR
          have hc2b : decide ((c : Int) < 2) = true := by simp; omega
          clear hR
          go_wp2_with fail
          go_loopw [16, 17] (fun i _ wr => ∃ i' : Nat, i' ≤ 128 ∧ i = .int .i64 i' ∧ Runs w wr bo br bo' br' (k + 300 * c + 2 * i')) (fun i _ _ => 128 - (intOf i).toNat)
          case atStart => exact ⟨0, by omega, rfl, HR6.out⟩
          case round =>
            clear HR6
            obtain ⟨i, hi, rfl, hR⟩ := hrel
            by_cases hi2 : i < 128
            · have HRt := hidden (runs_right hR (by omega) 3 i 0 0 ⟨#[]⟩ (by unfold maxLen; simp [ByteArray.size]) (by omega) (by omega) (by omega))
              clear hR
              go_wp2_with fail
              refine HRt.out.mono ?_
              rintro e w5 ⟨rfl, hR5⟩
              have HL := hidden (runs_left hR5 (by omega) 3 i 0 0 ⟨#[]⟩ (by unfold maxLen; simp [ByteArray.size]) (by omega) (by omega) (by omega))
              clear hR5 HRt
              go_wp2_with fail
              refine HL.out.mono ?_
              rintro e w6 ⟨rfl, hR6⟩
              have HR6 := hidden hR6
              clear hR6 HL
              go_wp2
              go_roundw
              case rel => exact ⟨i + 1, by omega, by go_num, HR6.out⟩
              case measure => simp [intOf]; omega
            · have hie : i = 128 := by omega
              subst hie
              have HA := hidden (runs_restart_right hR (by omega))
              clear hR
              go_wp2_with fail
              refine HA.out.mono ?_
              rintro e w5 ⟨rfl, hB5⟩
              have HB5 := hidden hB5
              clear hB5 HA
              go_wp2_with fail
              refine HB5.out.mono ?_
              rintro e w6 ⟨rfl, hR6⟩
              have HA := hidden (runs_restart_left hR6 (by omega))
              clear hR6 HB5
              go_wp2_with fail
              refine HA.out.mono ?_
              rintro e w7 ⟨rfl, hB7⟩
              have HB7 := hidden hB7
              clear hB7 HA
              go_wp2_with fail
              refine HB7.out.mono ?_
              rintro e w8 ⟨rfl, hR8⟩
              have HR8 := hidden (hR8.mono (m := k + 300 * (c + 1)) (by omega))
              clear hR8 HB7
              go_wp2
              go_roundw
              case rel => exact ⟨c + 1, by omega, by go_num, HR8.out⟩
              case measure => simp [intOf]; omega
        · have hce : c = 2 := by omega
          subst hce
          have HR6 := hidden hR.k
          clear hR
          go_wp2
          go_ret
          exact ⟨rfl, HR6.out⟩

end Go.Proofs.YtdpeacdilgcloaaR
