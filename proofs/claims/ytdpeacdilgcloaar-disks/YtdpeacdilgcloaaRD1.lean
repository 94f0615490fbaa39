/- The statement's own helper 'full': it gives some bytes, 64 of them, and changes nothing that was there. Own text. -/
import Derived.Test.YtdpeacdilgcloaaRR7
namespace Go.Proofs.YtdpeacdilgcloaaR
open Go.RowKit

structure Fills (w : World) (wr : World) : Prop where
  hB : ∃ bs : List UInt8, bs.length = 64 ∧ wr.heap[w.heap.size]? = some (.cells (cellsB bs).toArray 5 (0, 0))
  hK : Keeps [] [] w wr

theorem Fills.set {w wr : World} (h : Fills w wr) (i : Nat) (x : UInt8) (v : Value) (hv : v = byteV x) : Fills w (wr.setCell ⟨w.heap.size, i, none⟩ v) := by
  subst hv
  obtain ⟨bs, hl, hb⟩ := h.hB
  refine ⟨⟨bs.set i x, by simpa using hl, ?_⟩, h.hK.setCell (.inr (Nat.le_refl _)) _⟩
  rw [heap_setCell_same _ _ _ _ _ _ hb]
  simp [cellsB]
theorem Fills.cell {w wr : World} (h : Fills w wr) (i : Nat) (hi : i < 64) : ∃ v, wr.cell? ⟨w.heap.size, i, none⟩ = some v := by
  obtain ⟨bs, hl, hb⟩ := h.hB
  rw [cell_of_row _ _ i _ _ _ hb]
  have hx : i < (cellsB bs).length := by rw [cellsB_len, hl]; exact hi
  exact ⟨(cellsB bs)[i], by simp [hx]⟩
theorem Fills.fz {w wr : World} (h : Fills w wr) (i : Nat) : wr.frozen? ⟨w.heap.size, i, none⟩ = false := by
  obtain ⟨bs, hl, hb⟩ := h.hB
  exact frozen_of_row _ _ i _ _ hb
theorem Fills.conv {w wr : World} (h : Fills w wr) : ∃ T : ByteArray, T.size = 64 ∧ (convert 46 9 (.slice (some ⟨w.heap.size, 0, none⟩) 64 64)).run Try.prog wr = .ok (.string T) wr := by
  obtain ⟨bs, hl, hb⟩ := h.hB
  refine ⟨⟨bs.toArray⟩, by simpa [ByteArray.size] using hl, ?_⟩
  have := run_conv wr w.heap.size 0 64 bs (range_block hb 0 _ (fun j v hv => by rw [Nat.zero_add]; exact hv))
  rw [hl] at this
  exact this

theorem u8_of (n : Int) (h0 : 0 ≤ n) (h1 : n < 256) : Value.int .u8 n = byteV (UInt8.ofNat n.toNat) := by
  unfold byteV
  congr 1
  rw [UInt8.toNat_ofNat']
  omega

set_option maxRecDepth 100000 in
set_option maxHeartbeats 1000000 in
theorem full_any (w : World) (S : ByteArray) (b : Int) (_hS : S.size ≤ maxLen) :
    Calls Try.prog 16 #[.string S, .int .i64 b] w fun e w' => ∃ T : ByteArray, e = .returned (.string T) ∧ T.size = 64 ∧ Keeps [] [] w w' := by
  have hmk := make_bytes
  unfold maxLen at _hS
  go_enter Try.func16, Try.ntmps16
  go_wp2
  clear hmk
  go_loopw [6] (fun i wr => ∃ j : Nat, j ≤ 64 ∧ i = .int .i64 j ∧ Fills w wr) (fun i _ => 64 - (intOf i).toNat)
  case atStart => exact ⟨0, by omega, rfl, ⟨blank, rfl, newB _ _⟩, (Keeps.refl [] w).alloc _⟩
  case round =>
    obtain ⟨j, hj, rfl, hF⟩ := hrel
    by_cases hlt : j < 64
    · obtain ⟨v, hc⟩ := hF.cell j hlt
      have hz := hF.fz j
      have HF := hidden hF
      clear hF
      by_cases hlen : j < S.size
      · go_wp2
        go_roundw
        case rel => exact ⟨j + 1, by omega, by go_num, (HF.out.set j _ _ (u8_of (b % 256) (by omega) (by omega))).set j _ _ rfl⟩
        case measure => simp [intOf]; omega
      · go_wp2
        go_roundw
        case rel => exact ⟨j + 1, by omega, by go_num, HF.out.set j _ _ (u8_of (b % 256) (by omega) (by omega))⟩
        case measure => simp [intOf]; omega
    · obtain ⟨T, hT, hcv⟩ := hF.conv
      have HF := hidden hF
      have HT := hidden hT
      clear hF hT
      go_wp2
      go_ret
      exact ⟨T, rfl, HT.out, HF.out.hK⟩

end Go.Proofs.YtdpeacdilgcloaaR
