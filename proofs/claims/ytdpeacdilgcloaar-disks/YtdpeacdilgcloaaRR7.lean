/- The document's disk: NewDisk. Own text. -/
import Derived.Test.YtdpeacdilgcloaaRR6
namespace Go.Proofs.YtdpeacdilgcloaaR
open Go.RowKit

theorem make_bytes (w : World) : (Instr.makeSlice 46 (.int .i64 64) (.int .i64 64)).run Try.prog w = .ok (.slice (some ⟨w.heap.size, 0, none⟩) 64 64) (w.alloc (.cells (cellsB blank).toArray 5)) := by kernel_rfl

theorem rnew_no (w : World) (n : Int) (h : n < 48 ∨ 128 < n) :
    Calls Try.prog 6 #[.int .i64 n] w fun e w' => e = .returned (.tuple #[.pointer none, .int .i64 1]) ∧ w = w' := by
  rcases h with h | h
  · go_enter Try.func6, Try.ntmps6
    go_wp2
    go_ret2
    exact ⟨rfl, rfl⟩
  · have h' : ¬ n < 48 := by omega
    go_enter Try.func6, Try.ntmps6
    go_wp2
    go_ret2
    exact ⟨rfl, rfl⟩

def rbox (L : Value) : Array Value := #[L, .slice none 0 0, .bool true, .bool false, .int .i64 0, .int .i64 0, .int .i64 0, .int .i64 0]

structure Born (w : World) (B j : Nat) (L : Value) (wr : World) : Prop where
  hB : wr.heap[B]? = some (.cells (rbox L) 45 (0, 0))
  hL : wr.ownsRow 0 9 1 L j (List.replicate j (str blank))
  hne : L.ownBlock ≠ some B
  hge : ∀ x, L.ownBlock = some x → w.heap.size ≤ x
  hK : Keeps [] [] w wr

theorem born_step {w wr w2 : World} {B j : Nat} {L : Value} (h : Born w B j L wr) (hB : B = w.heap.size) (X : Obj) (g cap : Nat) (hown : w2.ownsRow 0 9 1 (.slice (some ⟨g, 0, none⟩) (j + 1) cap) (j + 1) (List.replicate j (str blank) ++ [str blank]))
    (hG : (wr.alloc X).grownBy w2 L.ownBlock) (hat : L.ownBlock = some g ∨ g = wr.heap.size + 1) : Born w B (j + 1) (.slice (some ⟨g, 0, none⟩) (j + 1) cap) (w2.setCell ⟨B, 0, none⟩ (.slice (some ⟨g, 0, none⟩) (j + 1) cap)) := by
  have hBl := lt_of_block h.hB
  have hG2 : wr.grownBy w2 L.ownBlock := (World.grownBy_alloc wr X _).trans hG
  have hsz := h.hK.size
  have gB : g ≠ B := by
    rcases hat with e | e
    · exact fun x => h.hne (by rw [e, x])
    · omega
  have hge : w.heap.size ≤ g := by
    rcases hat with e | e
    · exact h.hge g e
    · omega
  refine ⟨?_, ?_, ?_, ?_, ?_⟩
  · rw [heap_setCell_same _ _ _ _ _ _ ((hG2.block B hBl (Ne.symm h.hne)).trans h.hB)]
    rfl
  · rw [List.replicate_succ']
    refine own_of_block hown ?_
    intro x hx
    have : g = x := by simpa [Value.ownBlock] using hx
    subst this
    exact heap_setCell_other _ _ _ _ gB
  · simpa [Value.ownBlock] using gB
  · intro x hx
    have : g = x := by simpa [Value.ownBlock] using hx
    omega
  · exact (h.hK.grown hG2 (fun x hx => .inr (h.hge x hx))).setCell (.inr (by show w.heap.size ≤ B; omega)) _

theorem born_done {w wr : World} {B k : Nat} {L : Value} (h : Born w B k L wr) (hB : B = w.heap.size) (h1 : 48 ≤ k) (h2 : k ≤ 128) : ∃ fp, RD wr B fp (DS.born k) ∧ Keeps [] fp w wr := by
  refine ⟨_, ⟨L, .slice none 0 0, 0, 0, 0, ⟨h.hB, ?_, World.ownsRow_nil _ _ _ _, fun _ _ _ e => (by cases e), Wf.born h1 h2, ?_⟩, rfl⟩, ?_⟩
  · show wr.ownsRow 0 _ 1 L k ((List.replicate k blank).map str)
    rw [List.map_replicate]
    exact h.hL
  · show (B :: (L.ownBlock.toList ++ [])).Nodup
    rw [List.append_nil, List.nodup_cons]
    refine ⟨by simpa using h.hne, ?_⟩
    cases L.ownBlock <;> simp
  · refine h.hK.newer ?_
    intro x hx
    right
    rcases List.mem_cons.1 hx with rfl | hx
    · omega
    · rcases List.mem_append.1 hx with hx | hx
      · exact h.hge x (by simpa using hx)
      · cases hx

set_option maxRecDepth 100000 in
set_option maxHeartbeats 1000000 in
theorem rnew_ok (w : World) (k : Nat) (h1 : 48 ≤ k) (h2 : k ≤ 128) :
    Calls Try.prog 6 #[.int .i64 k] w fun e w' => ∃ br, e = .returned (.tuple #[.pointer (some ⟨br, 0, none⟩), .int .i64 0]) ∧ ∃ fp, RD w' br fp (DS.born k) ∧ Keeps [] fp w w' := by
  have hmk := make_bytes
  obtain ⟨Z, hZ⟩ : ∃ Z : ByteArray, Z = ⟨blank.toArray⟩ := ⟨_, rfl⟩
  have hcv : (convert 46 9 (.slice (some ⟨w.heap.size + 1, 0, none⟩) 64 64)).run Try.prog ((w.alloc (.cells #[.slice none 0 0, .slice none 0 0, .bool true, .bool false, .int .i64 0, .int .i64 0, .int .i64 0, .int .i64 0] 45)).alloc (.cells (cellsB blank).toArray 5)) =
      .ok (.string Z) ((w.alloc (.cells #[.slice none 0 0, .slice none 0 0, .bool true, .bool false, .int .i64 0, .int .i64 0, .int .i64 0, .int .i64 0] 45)).alloc (.cells (cellsB blank).toArray 5)) := by
    have hb := newB (w.alloc (.cells #[.slice none 0 0, .slice none 0 0, .bool true, .bool false, .int .i64 0, .int .i64 0, .int .i64 0, .int .i64 0] 45)) (.cells (cellsB blank).toArray 5)
    rw [World.size_alloc] at hb
    have := run_conv _ (w.heap.size + 1) 0 64 blank (range_block hb 0 _ (fun j v hv => by rw [Nat.zero_add]; exact hv))
    rw [hZ]
    exact this
  have HZ := hidden hZ
  clear hZ
  obtain ⟨i0, hi, hz0, hz1, hz2⟩ := info_parts Try.info_string
  have t1 : decide ((k : Int) < 48) = false := by simp; omega
  have t2 : decide ((128 : Int) < (k : Int)) = false := by simp; omega
  go_enter Try.func6, Try.ntmps6
  go_wp2
  clear hcv hmk
  go_loopw [6] (fun i wr => ∃ (j : Nat) (L : Value), j ≤ k ∧ i = .int .i64 j ∧ Born w w.heap.size j L wr) (fun i _ => k - (intOf i).toNat)
  case atStart =>
    refine ⟨0, .slice none 0 0, Nat.zero_le _, rfl, ?_, World.ownsRow_nil _ _ _ _, (by simp [Value.ownBlock]), (fun x hx => by cases hx), ((Keeps.refl [] w).alloc _).alloc _⟩
    rw [oldB _ _ _ (by simp), newB]
    rfl
  case round =>
    obtain ⟨j, L, hj, rfl, hB⟩ := hrel
    by_cases hlt : j < k
    · have bl := lt_of_block hB.hB
      have c0 : wr.cell? ⟨w.heap.size, 0, none⟩ = some L := by rw [cell_of_row wr w.heap.size 0 _ _ _ hB.hB]; rfl
      have z0 := frozen_of_row wr w.heap.size 0 _ _ hB.hB
      have hown : (wr.alloc (.cells #[.string Z] 9)).ownsRow 0 9 1 L j (List.replicate j (str blank)) := hB.hL.alloc _
      have HB := hidden hB
      have Hown := hidden hown
      clear hB hown
      generalize hN : w.heap.size = N at *
      have HN := hidden hN
      clear hN
      go_wp2_with (first | (at_builtin; refine wpList_append_lies _ rfl (.tmp 26) (.tmp 28) 34 rfl 0 9 i0 (.string ⟨#[]⟩) 1 16 Try.underlying34 hi hz0 hz1 hz2 rfl (by decide) L j (List.replicate j (str blank)) (by rfl) Hown.out ⟨wr.heap.size, 0, none⟩ 1 1 [.string Z] (by rfl) rfl (cell_one_new _ _ _) (by intro u hu; rw [List.mem_singleton.1 hu]; rfl) (by decide) (by unfold maxLen; omega) (by omega) (Nat.zero_le _) _ rfl ?_))
      intro g cap w2 hown2 hgrow hat hlt2
      have e0 : w2.cell? ⟨N, 0, none⟩ = some L := (hgrow.cell_far ⟨N, 0, none⟩ (by simp; omega) (Ne.symm HB.out.hne)).trans (by rw [World.cell?_alloc_lt _ _ _ bl]; exact c0)
      have ez : w2.frozen? ⟨N, 0, none⟩ = false := (hgrow.frozen_far ⟨N, 0, none⟩ (by simp; omega) (Ne.symm HB.out.hne)).trans (by rw [World.frozen?_alloc_past _ _ _ bl]; exact z0)
      have hZs : Value.string Z = str blank := by rw [HZ.out]; rfl
      rw [hZs] at hown2
      have HC := hidden (born_step HB.out HN.out.symm _ g cap hown2 hgrow hat)
      clear hown2 hgrow hat hlt2 c0 z0 hZs
      go_wp2
      go_roundw
      case rel => exact ⟨j + 1, _, by omega, by go_num, HC.out⟩
      case measure => simp [intOf]; omega
    · have hje : j = k := by omega
      subst hje
      have HB := hidden hB
      clear hB
      go_wp2
      go_ret2
      exact ⟨_, rfl, born_done HB.out rfl h1 h2⟩

end Go.Proofs.YtdpeacdilgcloaaR
