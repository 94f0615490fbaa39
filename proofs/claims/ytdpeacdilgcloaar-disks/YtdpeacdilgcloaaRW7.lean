/- A new disk of the program's; the calls of package dayspring on a disk, each by the plain disk. Own text. -/
import Derived.Test.YtdpeacdilgcloaaRW6
namespace Go.Proofs.YtdpeacdilgcloaaR
open Go.RowKit

def bornCells (n : Nat) : List Value := flat (List.replicate n blank)

theorem flat_born (n : Nat) : bornCells n = List.replicate (n * 64) (byteV 0) := by
  unfold bornCells
  induction n with
  | zero => rfl
  | succ n ih =>
    rw [List.replicate_succ, show flat (blank :: List.replicate n blank) = cellsB blank ++ flat (List.replicate n blank) from rfl, ih]
    rw [cellsB, blank, List.map_replicate, List.replicate_append_replicate]
    congr 1; omega

def zeroSector : Array Value := (cellsB blank).toArray
theorem Try.info_sector : (Try.prog.info? 79).map (fun i => (i.zero, i.size, i.bytes)) = some (some (.agg zeroSector), 64, 64) := by kernel_rfl

theorem made_born (n : Nat) : madeCells zeroSector (n * 64) = (bornCells n).toArray := by
  rw [flat_born]
  refine Array.ext (by simp [madeCells]) ?_
  intro i hi hi'
  simp only [madeCells, Array.getElem_map, Array.getElem_range, List.getElem_toArray, List.getElem_replicate]
  have hz : zeroSector = (List.replicate 64 (byteV 0)).toArray := by unfold zeroSector cellsB blank; rw [List.map_replicate]
  have hs : zeroSector.size = 64 := rfl
  have hm : i % 64 < 64 := Nat.mod_lt _ (by omega)
  rw [hs, hz]
  rw [getElem!_pos _ _ (by rw [List.size_toArray, List.length_replicate]; exact hm), List.getElem_toArray, List.getElem_replicate]

/-- a slice of so many sectors is made, under a name of its own -/
def makeS (l c : Value) : Sem Value := Instr.makeSlice 63 l c
theorem makeS_eq (l c : Value) : Instr.makeSlice 63 l c = makeS l c := rfl
attribute [local go_sem ↓] makeS_eq
theorem makeS_run (n : Nat) (hn : n ≤ 128) (w : World) : (makeS (.int .i64 n) (.int .i64 n)).run Try.prog w =
    .ok (.slice (some ⟨w.heap.size, 0, none⟩) n n) (w.alloc (.cells (bornCells n).toArray 79)) := by
  obtain ⟨i0, hi, hz0, hz1, hz2⟩ := info_parts Try.info_sector
  have := run_make (P := Try.prog) w 63 79 i0 (.agg zeroSector) Try.underlying63 hi hz0 .i64 .i64 n n (by omega) (by omega) (by rw [hz2]; omega) (by omega)
  rw [Int.toNat_natCast, hz1, show (Value.agg zeroSector).cells = zeroSector from rfl, made_born] at this
  exact this

theorem born_close (w w' : World) (n : Nat) (h48 : 48 ≤ n) (h128 : n ≤ 128) (bs bn : Nat) (hne : bs ≠ bn)
    (h1 : w.heap.size ≤ bs ∧ bs < w.heap.size + 2) (h2 : w.heap.size ≤ bn ∧ bn < w.heap.size + 2)
    (hw : w' = ((w.alloc (.cells (bornCells n).toArray 79)).alloc (.cells (bornCells n).toArray 79)).alloc
      (.cells #[.slice (some ⟨bs, 0, none⟩) n n, .slice (some ⟨bn, 0, none⟩) n n, .slice none 0 0, .pointer none, .bool true, .int .i64 0, .int .i64 0] 67)) :
    PDx w' (w.heap.size + 2) bs bn (.slice none 0 0) (.pointer none) (DS.born n) ∧ Keeps [] (fpP (w.heap.size + 2) bs bn (.slice none 0 0) (.pointer none)) w w' := by
  subst hw
  have hs2 : ∀ A B : Obj, ((w.alloc A).alloc B).heap.size = w.heap.size + 2 := fun A B => by simp
  have hb : ∀ (A C : Obj) (b : Nat), w.heap.size ≤ b ∧ b < w.heap.size + 2 → (((w.alloc A).alloc A).alloc C).heap[b]? = some A := by
    intro A C b hb
    rw [oldB _ _ _ (by rw [hs2]; omega)]
    by_cases e : b = w.heap.size
    · subst e
      rw [oldB _ _ _ (by simp), newB]
    · have e2 : b = (w.alloc A).heap.size := by simp; omega
      rw [e2, newB]
  refine ⟨⟨?_, hb _ _ bs h1, hb _ _ bn h2, World.ownsRow_nil _ _ _ _, rfl, Wf.born h48 h128, ?_⟩, ?_⟩
  · have := newB ((w.alloc (.cells (bornCells n).toArray 79)).alloc (.cells (bornCells n).toArray 79))
      (.cells #[.slice (some ⟨bs, 0, none⟩) n n, .slice (some ⟨bn, 0, none⟩) n n, .slice none 0 0, .pointer none, .bool true, .int .i64 0, .int .i64 0] 67)
    rw [hs2] at this
    exact this
  · simp only [fpP, Value.ownBlock, ptrB, List.nodup_cons, List.mem_cons, not_or]
    refine ⟨⟨by omega, by omega, by simp⟩, ⟨hne, by simp⟩, by simp, by simp⟩
  · refine Keeps.newer (g := []) ((((Keeps.refl [] w).alloc _).alloc _).alloc _) ?_
    intro k hk
    simp only [fpP, Value.ownBlock, ptrB, List.mem_cons, Option.toList, List.append_nil, List.not_mem_nil, or_false] at hk
    right
    omega

set_option maxRecDepth 100000 in
set_option maxHeartbeats 1000000 in
theorem inew_ok (w : World) (k : Nat) (h1 : 48 ≤ k) (h2 : k ≤ 128) :
    Calls Try.prog 13 #[.int .i64 k] w fun e w' => ∃ bi bs bn, e = .returned (.tuple #[.pointer (some ⟨bi, 0, none⟩), .int .i64 0]) ∧
      PDx w' bi bs bn (.slice none 0 0) (.pointer none) (DS.born k) ∧ Keeps [] (fpP bi bs bn (.slice none 0 0) (.pointer none)) w w' := by
  have hm := makeS_run k h2
  have HC := hidden (fun w' bs bn => born_close w w' k h1 h2 bs bn)
  go_enter Try.func13, Try.ntmps13
  go_wp2
  go_region
  · go_wp2
    go_ret2
    have c := HC.out _ (w.heap.size) (w.heap.size + 1) (by omega) (by omega) (by omega) rfl
    exact ⟨_, _, _, rfl, c.1.frame (fun _ _ => rfl), c.2.drew⟩
  · go_wp2
    go_ret2
    have c := HC.out _ (w.heap.size + 1) (w.heap.size) (by omega) (by omega) (by omega) rfl
    exact ⟨_, _, _, rfl, c.1.frame (fun _ _ => rfl), c.2.drew⟩

theorem inew_no (w : World) (n : Int) (h : n < 48 ∨ 128 < n) :
    Calls Try.prog 13 #[.int .i64 n] w fun e w' => e = .returned (.tuple #[.pointer none, .int .i64 1]) ∧ w = w' := by
  rcases h with h | h
  · go_enter Try.func13, Try.ntmps13
    go_wp2
    go_ret2
    exact ⟨rfl, rfl⟩
  · have h' : ¬ n < 48 := by omega
    go_enter Try.func13, Try.ntmps13
    go_wp2
    go_ret2
    exact ⟨rfl, rfl⟩

/-! ### The disk of package dayspring -/
def OD (w : World) (bo : Nat) (fp : List Nat) (s : DS) : Prop :=
  ∃ bi bs bn U F, w.heap[bo]? = some (.cells #[.pointer (some ⟨bi, 0, none⟩)] 42 (0, 0)) ∧ PDx w bi bs bn U F s ∧ bo ∉ fpP bi bs bn U F ∧ fp = bo :: fpP bi bs bn U F

theorem OD.wf {w : World} {bo : Nat} {fp : List Nat} {s : DS} (h : OD w bo fp s) : s.Wf := by
  obtain ⟨bi, bs, bn, U, F, _, hP, _, _⟩ := h
  exact hP.wf
theorem OD.lt {w : World} {bo : Nat} {fp : List Nat} {s : DS} (h : OD w bo fp s) : ∀ k ∈ fp, k < w.heap.size := by
  obtain ⟨bi, bs, bn, U, F, hb, hP, _, rfl⟩ := h
  intro k hk
  rcases List.mem_cons.1 hk with rfl | hk
  · exact lt_of_block hb
  · exact hP.lt k hk
theorem OD.frame {w w' : World} {bo : Nat} {fp : List Nat} {s : DS} (h : OD w bo fp s) (hk : ∀ k ∈ fp, w'.heap[k]? = w.heap[k]?) : OD w' bo fp s := by
  obtain ⟨bi, bs, bn, U, F, hb, hP, hn, rfl⟩ := h
  exact ⟨bi, bs, bn, U, F, by rw [hk bo (by simp)]; exact hb, hP.frame (fun k hk' => hk k (by simp [hk'])), hn, rfl⟩

theorem OD.step {w w' : World} {bo bi bs bn : Nat} {U F U' F' : Value} {s' : DS} (hb : w.heap[bo]? = some (.cells #[.pointer (some ⟨bi, 0, none⟩)] 42 (0, 0))) (hn : bo ∉ fpP bi bs bn U F)
    (hP : PDx w' bi bs bn U' F' s') (hK : Keeps (fpP bi bs bn U F) (fpP bi bs bn U' F') w w') :
    ∃ fp', OD w' bo fp' s' ∧ Keeps (bo :: fpP bi bs bn U F) fp' w w' := by
  have hl := lt_of_block hb
  refine ⟨bo :: fpP bi bs bn U' F', ⟨bi, bs, bn, U', F', (hK.block bo hl hn).trans hb, hP, ?_, rfl⟩, ?_⟩
  · intro hx
    rcases hK.new bo hx with h | h
    · exact hn h
    · omega
  · have k1 := hK.wide (f' := bo :: fpP bi bs bn U F) (fun k hk => by simp [hk])
    refine k1.newer ?_
    intro k hk
    rcases List.mem_cons.1 hk with rfl | hk
    · exact .inl (by simp)
    · exact k1.new k hk

theorem owrite_any (w : World) (bo : Nat) (fp : List Nat) (s : DS) (h : OD w bo fp s) (at_ : Int) (S : ByteArray) (hS : S.size ≤ maxLen) (hw : s.writes < 2932031100000) :
    Calls Try.prog 14 #[.pointer (some ⟨bo, 0, none⟩), .int .i64 at_, .string S] w fun e w' => e = .returned (.int .i64 (s.write at_ S.data.toList).2) ∧ ∃ fp', OD w' bo fp' (s.write at_ S.data.toList).1 ∧ Keeps fp fp' w w' := by
  obtain ⟨bi, bs, bn, U, F, hb, hP, hn, rfl⟩ := h
  have c0 : w.cell? ⟨bo, 0, none⟩ = some (.pointer (some ⟨bi, 0, none⟩)) := by rw [cell_of_row w bo 0 _ _ _ hb]; rfl
  have HC := hidden (iwrite_any w bi bs bn U F s hP at_ S hS hw)
  have HS := hidden (fun w' U' F' s' => OD.step (w' := w') (U' := U') (F' := F') (s' := s') hb hn)
  clear hP hb hS
  go_enter Try.func14, Try.ntmps14
  go_wp2_with (first | (go_at_call 27; refine (inside_any bo bi _ c0).mono ?_; rintro e w' ⟨rfl, rfl⟩))
  refine HC.out.mono ?_
  rintro e w' ⟨rfl, U', F', hP', hK⟩
  have HR := hidden (HS.out w' U' F' _ hP' hK)
  clear hP' hK HS HC
  go_wp2
  go_ret
  exact ⟨rfl, HR.out⟩

theorem oread_any (w : World) (bo : Nat) (fp : List Nat) (s : DS) (h : OD w bo fp s) (at_ : Int) :
    Calls Try.prog 17 #[.pointer (some ⟨bo, 0, none⟩), .int .i64 at_] w fun e w' => e = .returned (.tuple #[str (s.read at_).1, .int .i64 (s.read at_).2]) ∧ w = w' := by
  obtain ⟨bi, bs, bn, U, F, hb, hP, hn, rfl⟩ := h
  have c0 : w.cell? ⟨bo, 0, none⟩ = some (.pointer (some ⟨bi, 0, none⟩)) := by rw [cell_of_row w bo 0 _ _ _ hb]; rfl
  have HC := hidden (iread_any w bi bs bn U F s hP at_)
  clear hP hb
  go_enter Try.func17, Try.ntmps17
  go_wp2_with (first | (go_at_call 27; refine (inside_any bo bi _ c0).mono ?_; rintro e w' ⟨rfl, rfl⟩))
  refine HC.out.mono ?_
  rintro e w' ⟨rfl, rfl⟩
  go_wp2
  go_ret2
  exact ⟨rfl, rfl⟩

theorem osync_any (w : World) (bo : Nat) (fp : List Nat) (s : DS) (h : OD w bo fp s) (hw : s.writes ≤ 4000000000000) :
    Calls Try.prog 19 #[.pointer (some ⟨bo, 0, none⟩)] w fun e w' => e = .returned (.int .i64 s.sync.2) ∧ ∃ fp', OD w' bo fp' s.sync.1 ∧ Keeps fp fp' w w' := by
  obtain ⟨bi, bs, bn, U, F, hb, hP, hn, rfl⟩ := h
  have c0 : w.cell? ⟨bo, 0, none⟩ = some (.pointer (some ⟨bi, 0, none⟩)) := by rw [cell_of_row w bo 0 _ _ _ hb]; rfl
  have HC := hidden (isync_any w bi bs bn U F s hP hw)
  have HS := hidden (fun w' U' F' s' => OD.step (w' := w') (U' := U') (F' := F') (s' := s') hb hn)
  clear hP hb
  go_enter Try.func19, Try.ntmps19
  go_wp2_with (first | (go_at_call 27; refine (inside_any bo bi _ c0).mono ?_; rintro e w' ⟨rfl, rfl⟩))
  refine HC.out.mono ?_
  rintro e w' ⟨rfl, U', F', hP', hK⟩
  have HR := hidden (HS.out w' U' F' _ hP' hK)
  clear hP' hK HS HC
  go_wp2
  go_ret
  exact ⟨rfl, HR.out⟩

theorem ofuse_any (w : World) (bo : Nat) (fp : List Nat) (s : DS) (h : OD w bo fp s) (a m t : Int) (ha : a ≤ 9223372036854775807) (hm : -9223372036854775808 ≤ m ∧ m ≤ 9223372036854775807) (ht : t ≤ 9223372036854775807) :
    Calls Try.prog 21 #[.pointer (some ⟨bo, 0, none⟩), .int .i64 a, .int .i64 m, .int .i64 t] w fun e w' => e = .returned (.tuple #[]) ∧ ∃ fp', OD w' bo fp' (s.setFuse a m t) ∧ Keeps fp fp' w w' := by
  obtain ⟨bi, bs, bn, U, F, hb, hP, hn, rfl⟩ := h
  have c0 : w.cell? ⟨bo, 0, none⟩ = some (.pointer (some ⟨bi, 0, none⟩)) := by rw [cell_of_row w bo 0 _ _ _ hb]; rfl
  have HC := hidden (ifuse_any w bi bs bn U F s hP a m t ha hm ht)
  have HS := hidden (fun w' U' F' s' => OD.step (w' := w') (U' := U') (F' := F') (s' := s') hb hn)
  clear hP hb
  go_enter Try.func21, Try.ntmps21
  go_wp2_with (first | (go_at_call 27; refine (inside_any bo bi _ c0).mono ?_; rintro e w' ⟨rfl, rfl⟩))
  refine HC.out.mono ?_
  rintro e w' ⟨rfl, F', hP', hK⟩
  have HR := hidden (HS.out w' U F' _ hP' hK)
  clear hP' hK HS HC
  go_wp2
  go_end0
  exact ⟨rfl, HR.out⟩

theorem orestart_any (w : World) (bo : Nat) (fp : List Nat) (s : DS) (h : OD w bo fp s) (hw : s.writes ≤ 4000000000000) :
    Calls Try.prog 8 #[.pointer (some ⟨bo, 0, none⟩)] w fun e w' => e = .returned (.tuple #[]) ∧ ∃ fp', OD w' bo fp' s.restart ∧ Keeps fp fp' w w' := by
  obtain ⟨bi, bs, bn, U, F, hb, hP, hn, rfl⟩ := h
  have c0 : w.cell? ⟨bo, 0, none⟩ = some (.pointer (some ⟨bi, 0, none⟩)) := by rw [cell_of_row w bo 0 _ _ _ hb]; rfl
  have HC := hidden (irestart_any w bi bs bn U F s hP hw)
  have HS := hidden (fun w' U' F' s' => OD.step (w' := w') (U' := U') (F' := F') (s' := s') hb hn)
  clear hP hb
  go_enter Try.func8, Try.ntmps8
  go_wp2_with (first | (go_at_call 27; refine (inside_any bo bi _ c0).mono ?_; rintro e w' ⟨rfl, rfl⟩))
  refine HC.out.mono ?_
  rintro e w' ⟨rfl, U', F', hP', hK⟩
  have HR := hidden (HS.out w' U' F' _ hP' hK)
  clear hP' hK HS HC
  go_wp2
  go_end0
  exact ⟨rfl, HR.out⟩

theorem oon_any (w : World) (bo : Nat) (fp : List Nat) (s : DS) (h : OD w bo fp s) :
    Calls Try.prog 23 #[.pointer (some ⟨bo, 0, none⟩)] w fun e w' => e = .returned (.bool s.on) ∧ w = w' := by
  obtain ⟨bi, bs, bn, U, F, hb, hP, hn, rfl⟩ := h
  have c0 : w.cell? ⟨bo, 0, none⟩ = some (.pointer (some ⟨bi, 0, none⟩)) := by rw [cell_of_row w bo 0 _ _ _ hb]; rfl
  have HC := hidden (ion_any bi s.on w hP.c4)
  clear hP hb
  go_enter Try.func23, Try.ntmps23
  go_wp2_with (first | (go_at_call 27; refine (inside_any bo bi _ c0).mono ?_; rintro e w' ⟨rfl, rfl⟩))
  refine HC.out.mono ?_
  rintro e w' ⟨rfl, rfl⟩
  go_wp2
  go_ret
  exact ⟨rfl, rfl⟩

theorem owrites_any (w : World) (bo : Nat) (fp : List Nat) (s : DS) (h : OD w bo fp s) :
    Calls Try.prog 25 #[.pointer (some ⟨bo, 0, none⟩)] w fun e w' => e = .returned (.int .i64 s.writes) ∧ w = w' := by
  obtain ⟨bi, bs, bn, U, F, hb, hP, hn, rfl⟩ := h
  have c0 : w.cell? ⟨bo, 0, none⟩ = some (.pointer (some ⟨bi, 0, none⟩)) := by rw [cell_of_row w bo 0 _ _ _ hb]; rfl
  have HC := hidden (iwrites_any bi s.writes w hP.c5)
  clear hP hb
  go_enter Try.func25, Try.ntmps25
  go_wp2_with (first | (go_at_call 27; refine (inside_any bo bi _ c0).mono ?_; rintro e w' ⟨rfl, rfl⟩))
  refine HC.out.mono ?_
  rintro e w' ⟨rfl, rfl⟩
  go_wp2
  go_ret
  exact ⟨rfl, rfl⟩

theorem onew_no (w : World) (n : Int) (h : n < 48 ∨ 128 < n) :
    Calls Try.prog 5 #[.int .i64 n] w fun e w' => e = .returned (.tuple #[.pointer none, .int .i64 1]) ∧ w = w' := by
  have HC := hidden (inew_no w n h)
  clear h
  go_enter Try.func5, Try.ntmps5
  go_wp2_with fail
  refine HC.out.mono ?_
  rintro e w' ⟨rfl, rfl⟩
  go_wp2
  go_ret2
  exact ⟨rfl, rfl⟩

theorem onew_ok (w : World) (k : Nat) (h1 : 48 ≤ k) (h2 : k ≤ 128) :
    Calls Try.prog 5 #[.int .i64 k] w fun e w' => ∃ bo fp, e = .returned (.tuple #[.pointer (some ⟨bo, 0, none⟩), .int .i64 0]) ∧ OD w' bo fp (DS.born k) ∧ Keeps [] fp w w' := by
  have HC := hidden (inew_ok w k h1 h2)
  clear h1 h2
  go_enter Try.func5, Try.ntmps5
  go_wp2_with fail
  refine HC.out.mono ?_
  rintro e w' ⟨bi, bs, bn, rfl, hP, hK⟩
  have HP := hidden hP
  have HK := hidden hK
  clear hP hK HC
  go_wp2
  go_ret2
  refine ⟨w'.heap.size, w'.heap.size :: fpP bi bs bn (.slice none 0 0) (.pointer none), rfl, ⟨bi, bs, bn, _, _, newB _ _, ?_, ?_, rfl⟩, ?_⟩
  · exact HP.out.frame (fun k hk => oldB _ _ _ (HP.out.lt k hk))
  · intro hx
    have := HP.out.lt _ hx
    omega
  · exact HK.out.allocNew _

end Go.Proofs.YtdpeacdilgcloaaR
