/- The program's Sync. Own text. -/
import Derived.Test.YtdpeacdilgcloaaRW4
namespace Go.Proofs.YtdpeacdilgcloaaR
open Go.RowKit

theorem sync_close {w wr : World} {bi bs bn : Nat} {U F : Value} {s : DS} (h : PDx w bi bs bn U F s) (hK : Keeps [bs] [] w wr) (hS : wr.heap[bs]? = some (.cells (flat (syncTo s s.opn.length)).toArray 79 (0, 0))) :
    PDx (wr.setCell ⟨bi, 2, none⟩ (.slice none 0 0)) bi bs bn (.slice none 0 0) F s.synced ∧
    Keeps (fpP bi bs bn U F) (fpP bi bs bn (.slice none 0 0) F) w (wr.setCell ⟨bi, 2, none⟩ (.slice none 0 0)) := by
  obtain ⟨n1, n2, n3⟩ := h.ne
  have hbi : wr.heap[bi]? = _ := (hK.block bi (lt_of_block h.hbi) (by simp [n1])).trans h.hbi
  have hbn : wr.heap[bn]? = _ := (hK.block bn (lt_of_block h.hbn) (by simp; exact fun e => n3 e.symm)).trans h.hbn
  have hnd := h.nd
  simp only [fpP, List.nodup_cons, List.mem_cons, List.mem_append, Option.mem_toList, not_or] at hnd
  refine ⟨⟨?_, ?_, ?_, ?_, ?_, Wf.synced h.wf, ?_⟩, ?_⟩
  · rw [heap_setCell_same _ _ _ _ _ _ hbi]
    rfl
  · rw [heap_setCell_other _ _ _ _ (Ne.symm n1), hS]
    rfl
  · rw [heap_setCell_other _ _ _ _ (Ne.symm n2), hbn]
    rfl
  · exact World.ownsRow_nil _ _ _ _
  · refine h.hF.of_block ?_
    intro k hk
    have hkl : k < w.heap.size := h.lt k (by simp [fpP, hk])
    rw [heap_setCell_other _ _ _ _ (fun e => hnd.1.2.2.2 (by rw [← show k = bi from e]; exact hk))]
    exact hK.block k hkl (by simp; exact fun e => hnd.2.1.2.2 (by rw [← e]; exact hk))
  · simp only [fpP, Value.ownBlock, List.nodup_cons, List.mem_cons, List.mem_append, Option.mem_toList, not_or]
    refine ⟨⟨n1, n2, by simp, hnd.1.2.2.2⟩, ⟨n3, by simp, hnd.2.1.2.2⟩, ⟨by simp, hnd.2.2.1.2⟩, ?_⟩
    have := List.nodup_append.1 hnd.2.2.2
    simpa using this.2.1
  · have k1 : Keeps (fpP bi bs bn U F) [] w wr := hK.wide (fun k hk => by rw [List.mem_singleton.1 hk]; simp [fpP])
    refine Keeps.newer (g := []) (k1.setCell (.inl (by simp [fpP])) _) ?_
    intro k hk
    left
    simp only [fpP, Value.ownBlock, List.mem_cons, List.mem_append, Option.mem_toList] at hk ⊢
    rcases hk with h | h | h | h | h
    · simp [h]
    · simp [h]
    · simp [h]
    · cases h
    · simp [h]

set_option maxRecDepth 100000 in
set_option maxHeartbeats 1000000 in
theorem isync_any (w : World) (bi bs bn : Nat) (U F : Value) (s : DS) (h : PDx w bi bs bn U F s) (hw : s.writes ≤ 4000000000000) :
    Calls Try.prog 36 #[.pointer (some ⟨bi, 0, none⟩)] w fun e w' => e = .returned (.int .i64 s.sync.2) ∧ ∃ U' F',
      PDx w' bi bs bn U' F' s.sync.1 ∧ Keeps (fpP bi bs bn U F) (fpP bi bs bn U' F') w w' := by
  have Hsp := hidden (spend_any w bi bs bn U F s h hw)
  have hw1 : s.spend.1.writes ≤ 4000000000000 := by rw [spend_writes]; exact hw
  unfold DS.sync
  clear h
  generalize s.spend = r at *
  obtain ⟨s1, b⟩ := r
  dsimp only at hw1 Hsp ⊢
  cases b with
  | false =>
    go_enter Try.func36, Try.ntmps36
    go_wp2_with fail
    refine Hsp.out.mono ?_
    rintro e w1 ⟨rfl, U1, F1, hP, hK⟩
    clear Hsp
    have HP := hidden hP
    have HK := hidden hK
    clear hP hK
    go_wp2
    go_ret
    exact ⟨rfl, U1, F1, HP.out, HK.out⟩
  | true =>
    go_enter Try.func36, Try.ntmps36
    go_wp2_with fail
    refine Hsp.out.mono ?_
    rintro e w1 ⟨rfl, U1, F1, hP, hK0⟩
    clear Hsp
    have HK0 := hidden hK0
    have c2 := hP.c2
    obtain ⟨ua, ucap, hUe⟩ := hP.uform
    subst hUe
    have hcnt := hP.wf.cnt
    have hn128 := hP.wf.n128
    obtain ⟨n1, n2, n3⟩ := hP.ne
    have Hh := hidden hP
    clear hP hK0
    go_wp2_with fail
    go_loopw [4, 13] (fun p k wr => ∃ j : Nat, j ≤ s1.opn.length ∧ k = .int .i64 j ∧ Keeps [bs] [] w1 wr ∧ wr.heap[bs]? = some (.cells (flat (syncTo s1 j)).toArray 79 (0, 0))) (fun _ k _ => s1.opn.length - (intOf k).toNat)
    case atStart => exact ⟨0, Nat.zero_le _, rfl, (Keeps.refl _ _).sub (fun _ h => by cases h), Hh.out.hbs⟩
    case round =>
      obtain ⟨j, hj, rfl, hK, hS⟩ := hrel
      by_cases hlt : j < s1.opn.length
      · obtain ⟨g, rfl, g1, g2, g3, gl⟩ := Hh.out.ublock (by omega)
        have hbi0 : wr.heap[bi]? = w1.heap[bi]? := hK.block bi (lt_of_block Hh.out.hbi) (by simp [n1])
        have hrow : wr.rangeAt g (j * 65) (wcells s1.opn[j]) :=
          range_own (own_of_block Hh.out.hU (fun k hk => by
            have : g = k := by simpa [Value.ownBlock] using hk
            subst this
            exact hK.block g gl (by simp [g2]))) j hlt (fun x hx => by rw [wcells_len, (Hh.out.wf.opn x hx).2])
        have c0 : wr.cell? ⟨bi, 0, none⟩ = some (.slice (some ⟨bs, 0, none⟩) s1.n s1.n) := (World.cell?_of_block (w := w1) hbi0).trans Hh.out.c0
        have hx := Hh.out.wf.opn _ (List.getElem_mem hlt)
        have hsec := syncTo_sec Hh.out.wf j (by omega)
        have hsl : (syncTo s1 j).length = s1.n := by rw [syncTo_len, Hh.out.wf.len]
        have hsz : w1.heap.size ≤ wr.heap.size := hK.size
        have hbsl := lt_of_block hS
        have hbil : bi < wr.heap.size := Nat.lt_of_lt_of_le (lt_of_block Hh.out.hbi) hsz
        have hthere : ∀ a, a < s1.n → wr.there bs (a * 64) 64 := fun a ha => there_flat hS hsec a (by omega)
        have HS := hidden hS
        have HK := hidden hK
        have HR := hidden (syncTo_succ s1 j hlt)
        have HSec := hidden hsec
        generalize hxe : s1.opn[j] = x at *
        clear hxe
        obtain ⟨a, d⟩ := x
        obtain ⟨ha, hd⟩ := hx
        have hl65 : (wcells (a, d)).length = 65 := by rw [wcells_len, hd]
        have hi65 : (Try.prog.info? 81).map (·.size) = some (wcells (a, d)).length := by rw [hl65]; exact Try.size_write
        have hone := wcells_one (a, d)
        have hzl : (wcells (0, List.replicate 64 0)).length = (wcells (a, d)).length := by rw [hl65]; rfl
        have hzero := zero_write
        have ha0 : (0 : Int) ≤ (a : Int) := Int.natCast_nonneg _
        have han : (a : Int) < (s1.n : Int) := by omega
        have k0 : (wr.alloc (.cells (wcells (a, d)).toArray 81)).cell? ⟨bi, 0, none⟩ = some (.slice (some ⟨bs, 0, none⟩) s1.n s1.n) := by rw [World.cell?_alloc_lt _ _ _ hbil]; exact c0
        have k1 : (wr.alloc (.cells (wcells (a, d)).toArray 81)).cell? ⟨wr.heap.size, 0, none⟩ = some (.int .i64 a) := by rw [cell_of_row _ _ 0 _ _ _ (newB wr _)]; rfl
        have k2 : (wr.alloc (.cells (wcells (a, d)).toArray 81)).rangeAt wr.heap.size 1 (cellsB d) := by
          refine range_block (newB wr _) 1 _ ?_
          intro i v hv
          rw [wcells, show 1 + i = i + 1 by omega, List.getElem?_cons_succ]
          exact hv
        have k3 : (wr.alloc (.cells (wcells (a, d)).toArray 81)).there bs (a * 64) 64 := World.there_alloc (hthere a ha) _
        have hBbs : wr.heap.size ≠ bs := by omega
        clear hS hK hsec hthere
        go_wp2_with (first | (refine wpList_load_mid rfl 81 (.tmp 15) rfl g (j * 65) (by rfl) (wcells (a, d)) _ hrow Try.underlying81 rfl hi65 ?_) | (refine wpList_store_new rfl 81 (.tmp 4) (.tmp 16) rfl (wcells (0, List.replicate 64 0)) (wcells (a, d)) 81 (by rfl) (by rfl) hzl hi65 hone ?_))
        clear c0 hrow hi65 hone hzl hzero hl65 c2
        have hu63 := Try.underlying79
        have hcl : (cellsB d).length = 64 := by rw [cellsB_len, hd]
        have hi63 : (Try.prog.info? 79).map (·.size) = some (cellsB d).length := by rw [hcl]; exact Try.size_sector
        have hco : ∀ v ∈ cellsB d, v.oneCell' = true := cellsB_one d
        have HB : Hid (wr.heap.size = wr.heap.size) := rfl
        generalize hW : wr.alloc (.cells (wcells (a, d)).toArray 81) = W at *
        have HW := hidden hW
        clear hW
        generalize wr.heap.size = B at *
        have HD := hidden (show cellsB d = cellsB d from rfl)
        generalize hD : cellsB d = D at *
        have HDe := hidden hD
        clear hD
        go_region_held3 (fun w' => w'.cell? ⟨bi, 0, none⟩ = some (.slice (some ⟨bs, 0, none⟩) s1.n s1.n) ∧ w'.cell? ⟨B, 0, none⟩ = some (.int .i64 a) ∧ w'.rangeAt B 1 D ∧ w'.there bs (a * 64) 64) ((go_split_ands; (simp only [World.cell?_drew, World.rangeAt_drew, World.there_drew] at *); refine ⟨?_, ?_, ?_, ?_⟩ <;> first | assumption | (rw [World.cell?_setCells_out _ _ _ _ _ (fun e => absurd e (by assumption))]; assumption) | (apply World.there_setCells; assumption) | (refine World.rangeAt_setCells_apart (by assumption) _ _ _ (Or.inl (by assumption))))) (fail)
        go_wp2
        go_roundw
        case rel =>
          refine ⟨j + 1, by omega, by go_num, ?_, ?_⟩
          · rw [← HW.out]
            exact ((HK.out.alloc _).drew).setCells (.inl (by simp)) _ _
          · rw [HR.out, ← HW.out, ← HDe.out]
            refine flat_setCells (t := 79) ?_ HSec.out a (by omega) d hd
            show (wr.alloc _).heap[bs]? = _
            rw [oldB _ _ _ (lt_of_block HS.out)]
            exact HS.out
        case measure => simp [intOf]; omega
      · have hje : j = s1.opn.length := by omega
        subst hje
        have HC := hidden (sync_close Hh.out hK hS)
        have hbi : wr.heap[bi]? = _ := (hK.block bi (lt_of_block Hh.out.hbi) (by simp [n1])).trans Hh.out.hbi
        have hc2 : wr.cell? ⟨bi, 2, none⟩ = some (.slice ua s1.opn.length ucap) := by rw [cell_of_row wr bi 2 _ _ _ hbi]; rfl
        have hz2 := frozen_of_row wr bi 2 _ _ hbi
        clear hS hK hbi c2
        go_wp2
        go_ret
        exact ⟨rfl, _, F1, HC.out.1, HK0.out.trans HC.out.2⟩

end Go.Proofs.YtdpeacdilgcloaaR
