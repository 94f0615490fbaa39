/- The program's Read and its power failure ('fail'): what they return and what they leave, by the plain disk. Own text. -/
import Derived.Test.YtdpeacdilgcloaaRLaws
namespace Go.Proofs.YtdpeacdilgcloaaR
open Go.RowKit

theorem PDx.c0 {w : World} {bi bs bn : Nat} {U F : Value} {s : DS} (h : PDx w bi bs bn U F s) : w.cell? ⟨bi, 0, none⟩ = some (.slice (some ⟨bs, 0, none⟩) s.n s.n) := by rw [cell_of_row w bi 0 _ _ _ h.hbi]; rfl
theorem PDx.c1 {w : World} {bi bs bn : Nat} {U F : Value} {s : DS} (h : PDx w bi bs bn U F s) : w.cell? ⟨bi, 1, none⟩ = some (.slice (some ⟨bn, 0, none⟩) s.n s.n) := by rw [cell_of_row w bi 1 _ _ _ h.hbi]; rfl
theorem PDx.c2 {w : World} {bi bs bn : Nat} {U F : Value} {s : DS} (h : PDx w bi bs bn U F s) : w.cell? ⟨bi, 2, none⟩ = some U := by rw [cell_of_row w bi 2 _ _ _ h.hbi]; rfl
theorem PDx.c3 {w : World} {bi bs bn : Nat} {U F : Value} {s : DS} (h : PDx w bi bs bn U F s) : w.cell? ⟨bi, 3, none⟩ = some F := by rw [cell_of_row w bi 3 _ _ _ h.hbi]; rfl
theorem PDx.c4 {w : World} {bi bs bn : Nat} {U F : Value} {s : DS} (h : PDx w bi bs bn U F s) : w.cell? ⟨bi, 4, none⟩ = some (.bool s.on) := by rw [cell_of_row w bi 4 _ _ _ h.hbi]; rfl
theorem PDx.c5 {w : World} {bi bs bn : Nat} {U F : Value} {s : DS} (h : PDx w bi bs bn U F s) : w.cell? ⟨bi, 5, none⟩ = some (.int .i64 s.writes) := by rw [cell_of_row w bi 5 _ _ _ h.hbi]; rfl
theorem PDx.c6 {w : World} {bi bs bn : Nat} {U F : Value} {s : DS} (h : PDx w bi bs bn U F s) : w.cell? ⟨bi, 6, none⟩ = some (.int .i64 s.claim) := by rw [cell_of_row w bi 6 _ _ _ h.hbi]; rfl
theorem PDx.fz {w : World} {bi bs bn : Nat} {U F : Value} {s : DS} (h : PDx w bi bs bn U F s) (k : Nat) : w.frozen? ⟨bi, k, none⟩ = false := frozen_of_row w bi k _ _ h.hbi
theorem PDx.ne {w : World} {bi bs bn : Nat} {U F : Value} {s : DS} (h : PDx w bi bs bn U F s) : bi ≠ bs ∧ bi ≠ bn ∧ bs ≠ bn := by
  have := h.nd
  simp only [fpP, List.nodup_cons, List.mem_cons, not_or] at this
  exact ⟨this.1.1, this.1.2.1, this.2.1.1⟩
theorem PDx.uform {w : World} {bi bs bn : Nat} {U F : Value} {s : DS} (h : PDx w bi bs bn U F s) : ∃ ua ucap, U = .slice ua s.opn.length ucap := by
  rcases h.hU.2 with ⟨h1, h2⟩ | ⟨g, cap, cur, h1, _⟩
  · exact ⟨none, 0, by rw [h1, h2]⟩
  · exact ⟨_, cap, h1⟩
theorem PDx.ublock {w : World} {bi bs bn : Nat} {ua : Option Addr} {ucap : Nat} {F : Value} {s : DS} (h : PDx w bi bs bn (.slice ua s.opn.length ucap) F s) (hp : 0 < s.opn.length) : ∃ g, ua = some ⟨g, 0, none⟩ ∧ g ≠ bi ∧ g ≠ bs ∧ g ≠ bn ∧ g < w.heap.size := by
  rcases h.hU.2 with ⟨h1, h2⟩ | ⟨g, cap, cur, h1, _, hg, _⟩
  · omega
  · injection h1 with h1
    subst h1
    have := h.nd
    simp only [fpP, List.nodup_cons, List.mem_cons, List.mem_append, Option.mem_toList, Value.ownBlock, not_or] at this
    refine ⟨g, rfl, fun e => ?_, fun e => ?_, fun e => ?_, lt_of_block hg⟩
    · exact this.1.2.2.1 (by rw [e])
    · exact this.2.1.2.1 (by rw [e])
    · exact this.2.2.1.1 (by rw [e])

set_option maxHeartbeats 400000 in
theorem iread_any (w : World) (bi bs bn : Nat) (U F : Value) (s : DS) (h : PDx w bi bs bn U F s) (at_ : Int) :
    Calls Try.prog 35 #[.pointer (some ⟨bi, 0, none⟩), .int .i64 at_] w fun e w' => e = .returned (.tuple #[str (s.read at_).1, .int .i64 (s.read at_).2]) ∧ w = w' := by
  have c1 := h.c1
  have c4 := h.c4
  by_cases hin : 0 ≤ at_ ∧ at_ < s.n
  · obtain ⟨k, rfl⟩ := Int.eq_ofNat_of_zero_le hin.1
    have hk : k < s.n := by omega
    cases hon : s.on with
    | false =>
      have hrd : s.read (k : Int) = ([], 4) := by unfold DS.read; rw [if_pos hin, if_neg (by rw [hon]; simp)]
      rw [hrd]
      rw [hon] at c4
      go_enter Try.func35, Try.ntmps35
      go_wp2_with (go_at_call 45; refine (has_any bi s.n _ _ _ c1).mono ?_; rintro e w' ⟨rfl, rfl⟩)
      go_ret2
      exact ⟨rfl, rfl⟩
    | true =>
      rw [hon] at c4
      have hlt : k < s.now.length := by rw [now_len, h.wf.len]; exact hk
      have hd : (s.now[k]).length = 64 := now_sec h.wf _ (List.getElem_mem _)
      have hr := run_conv w bn (k * 64) 64 (s.now[k]) (range_flat h.hbn (now_sec h.wf) k hlt)
      rw [hd] at hr
      have hrd : s.read (k : Int) = (s.now[k], 0) := by unfold DS.read; rw [if_pos hin, if_pos hon, Int.toNat_natCast, List.getD_eq_getElem?_getD, List.getElem?_eq_getElem hlt]; rfl
      rw [hrd]
      clear hd hrd
      generalize s.now[k] = D at *
      go_enter Try.func35, Try.ntmps35
      go_wp2_with (go_at_call 45; refine (has_any bi s.n _ _ _ c1).mono ?_; rintro e w' ⟨rfl, rfl⟩)
      go_ret2
      exact ⟨rfl, rfl⟩
  · have hrd : s.read at_ = ([], 2) := by unfold DS.read; rw [if_neg hin]
    rw [hrd]
    go_enter Try.func35, Try.ntmps35
    go_wp2_with (go_at_call 45; refine (has_any bi s.n _ _ _ c1).mono ?_; rintro e w' ⟨rfl, rfl⟩)
    go_ret2
    exact ⟨rfl, rfl⟩

/-! ### fail -/
theorem fail_close {w wr : World} {bi bs bn : Nat} {U F : Value} {s : DS} (h : PDx w bi bs bn U F s) (m t : Int) (hK : Keeps [bs] [] w wr) (hS : wr.heap[bs]? = some (.cells (flat (failTo s m t s.opn.length)).toArray 79 (0, 0))) :
    PDx ((((wr.setCells bn 0 (flat (failTo s m t s.opn.length))).setCell ⟨bi, 2, none⟩ (.slice none 0 0)).setCell ⟨bi, 3, none⟩ (.pointer none)).setCell ⟨bi, 4, none⟩ (.bool false)) bi bs bn (.slice none 0 0) (.pointer none) (s.fails m t) ∧
    Keeps (fpP bi bs bn U F) (fpP bi bs bn (.slice none 0 0) (.pointer none)) w ((((wr.setCells bn 0 (flat (failTo s m t s.opn.length))).setCell ⟨bi, 2, none⟩ (.slice none 0 0)).setCell ⟨bi, 3, none⟩ (.pointer none)).setCell ⟨bi, 4, none⟩ (.bool false)) := by
  obtain ⟨n1, n2, n3⟩ := h.ne
  have hbi : wr.heap[bi]? = _ := (hK.block bi (lt_of_block h.hbi) (by simp [n1])).trans h.hbi
  have hbn : wr.heap[bn]? = _ := (hK.block bn (lt_of_block h.hbn) (by simp; exact fun e => n3 e.symm)).trans h.hbn
  have hsl : (failTo s m t s.opn.length).length = s.n := by rw [failTo_len, h.wf.len]
  have hfl : (flat (failTo s m t s.opn.length)).length = s.n * 64 := by rw [flat_len (failTo_sec h.wf m t _ (Nat.le_refl _)), hsl]
  have hnl : (flat s.now).length = s.n * 64 := by rw [flat_len (now_sec h.wf), now_len, h.wf.len]
  refine ⟨⟨?_, ?_, ?_, ?_, rfl, Wf.fails h.wf m t, ?_⟩, ?_⟩
  · show (World.setCell _ _ _).heap[bi]? = _
    rw [heap_setCell_same _ _ _ _ _ _ (heap_setCell_same _ _ _ _ _ _ (heap_setCell_same _ _ _ _ _ _ ((other_setCells bn bi n2 _ _ _).trans hbi)))]
    rfl
  · show (World.setCell _ _ _).heap[bs]? = _
    rw [heap_setCell_other _ _ _ _ (Ne.symm n1), heap_setCell_other _ _ _ _ (Ne.symm n1), heap_setCell_other _ _ _ _ (Ne.symm n1), other_setCells bn bs n3, hS]
    rfl
  · show (World.setCell _ _ _).heap[bn]? = _
    rw [heap_setCell_other _ _ _ _ (Ne.symm n2), heap_setCell_other _ _ _ _ (Ne.symm n2), heap_setCell_other _ _ _ _ (Ne.symm n2), block_setCells bn _ _ _ _ _ hbn (by rw [hfl, hnl]; omega)]
    rw [List.take_zero, List.nil_append, Nat.zero_add, List.drop_of_length_le (by rw [hfl, hnl]; omega), List.append_nil]
    rfl
  · exact World.ownsRow_nil _ _ _ _
  · simp [fpP, Value.ownBlock, ptrB, n1, n2, n3]
  · have k1 : Keeps (fpP bi bs bn U F) [] w wr := hK.wide (fun k hk => by rw [List.mem_singleton.1 hk]; simp [fpP])
    refine Keeps.newer (g := []) ?_ ?_
    · exact (((k1.setCells (.inl (by simp [fpP])) _ _).setCell (.inl (by simp [fpP])) _).setCell (.inl (by simp [fpP])) _).setCell (.inl (by simp [fpP])) _
    · intro k hk
      simp only [fpP, Value.ownBlock, ptrB, List.mem_cons, Option.toList, List.append_nil, List.not_mem_nil, or_false] at hk
      left
      rcases hk with rfl | rfl | rfl <;> simp [fpP]

set_option maxRecDepth 100000 in
set_option maxHeartbeats 1000000 in
theorem fail_any (w : World) (bi bs bn : Nat) (U F : Value) (s : DS) (h : PDx w bi bs bn U F s) (m t : Int) (ht : 0 ≤ t) (ht2 : t ≤ 9223372036854775807) (hw : s.writes ≤ 4000000000000) :
    Calls Try.prog 40 #[.pointer (some ⟨bi, 0, none⟩), .int .i64 m, .int .i64 t] w fun e w' => e = .returned (.tuple #[]) ∧
      PDx w' bi bs bn (.slice none 0 0) (.pointer none) (s.fails m t) ∧ Keeps (fpP bi bs bn U F) (fpP bi bs bn (.slice none 0 0) (.pointer none)) w w' := by
  have c2 := h.c2
  obtain ⟨ua, ucap, hUe⟩ := h.uform
  subst hUe
  have hcnt := h.wf.cnt
  have hn128 := h.wf.n128
  obtain ⟨n1, n2, n3⟩ := h.ne
  have Hh := hidden h
  clear h
  go_enter Try.func40, Try.ntmps40
  go_wp2_with fail
  go_loopw [7, 8, 19] (fun i p k wr => ∃ j : Nat, j ≤ s.opn.length ∧ k = .int .i64 j ∧ Keeps [bs] [] w wr ∧ wr.heap[bs]? = some (.cells (flat (failTo s m t j)).toArray 79 (0, 0))) (fun _ _ k _ => s.opn.length - (intOf k).toNat)
  case atStart => exact ⟨0, Nat.zero_le _, rfl, (Keeps.refl _ _).sub (fun _ h => by cases h), Hh.out.hbs⟩
  case round =>
    obtain ⟨j, hj, rfl, hK, hS⟩ := hrel
    by_cases hlt : j < s.opn.length
    · obtain ⟨g, rfl, g1, g2, g3, gl⟩ := Hh.out.ublock (by omega)
      have hbi0 : wr.heap[bi]? = w.heap[bi]? := hK.block bi (lt_of_block Hh.out.hbi) (by simp [n1])
      have hrow : wr.rangeAt g (j * 65) (wcells s.opn[j]) :=
        range_own (own_of_block Hh.out.hU (fun k hk => by
          have : g = k := by simpa [Value.ownBlock] using hk
          subst this
          exact hK.block g gl (by simp [g2]))) j hlt (fun x hx => by rw [wcells_len, (Hh.out.wf.opn x hx).2])
      have c0 : wr.cell? ⟨bi, 0, none⟩ = some (.slice (some ⟨bs, 0, none⟩) s.n s.n) := (World.cell?_of_block (w := w) hbi0).trans Hh.out.c0
      have hx := Hh.out.wf.opn _ (List.getElem_mem hlt)
      have hsec := failTo_sec Hh.out.wf m t j (by omega)
      have hsl : (failTo s m t j).length = s.n := by rw [failTo_len, Hh.out.wf.len]
      have hsz : w.heap.size ≤ wr.heap.size := hK.size
      have hbsl := lt_of_block hS
      have hbil : bi < wr.heap.size := Nat.lt_of_lt_of_le (lt_of_block Hh.out.hbi) hsz
      have hthere : ∀ a, a < s.n → wr.there bs (a * 64) 64 := fun a ha => there_flat hS hsec a (by omega)
      have HS := hidden hS
      have HK := hidden hK
      have HR := hidden (failTo_succ s m t j hlt)
      have HSec := hidden hsec
      generalize hxe : s.opn[j] = x at *
      clear hxe
      obtain ⟨a, d⟩ := x
      obtain ⟨ha, hd⟩ := hx
      have hl65 : (wcells (a, d)).length = 65 := by rw [wcells_len, hd]
      have hi65 : (Try.prog.info? 81).map (·.size) = some (wcells (a, d)).length := by rw [hl65]; exact Try.size_write
      have hone := wcells_one (a, d)
      have hzl : (wcells (0, List.replicate 64 0)).length = (wcells (a, d)).length := by rw [hl65]; rfl
      have hzero := zero_write
      have ha0 : (0 : Int) ≤ (a : Int) := Int.natCast_nonneg _
      have han : (a : Int) < (s.n : Int) := by omega
      have L64 := lastN_le j s.opn.length m t
      have hL := fun w => lasting_any j s.opn.length m t w hlt ht ht2
      generalize hLe : lastN j s.opn.length m t = L at *
      clear hLe
      have k0 : (wr.alloc (.cells (wcells (a, d)).toArray 81)).cell? ⟨bi, 0, none⟩ = some (.slice (some ⟨bs, 0, none⟩) s.n s.n) := by rw [World.cell?_alloc_lt _ _ _ hbil]; exact c0
      have k1 : (wr.alloc (.cells (wcells (a, d)).toArray 81)).cell? ⟨wr.heap.size, 0, none⟩ = some (.int .i64 a) := by rw [cell_of_row _ _ 0 _ _ _ (newB wr _)]; rfl
      have k2 : (wr.alloc (.cells (wcells (a, d)).toArray 81)).rangeAt wr.heap.size 1 (cellsB (d.take L)) := by
        refine range_block (newB wr _) 1 _ ?_
        intro i v hv
        rw [wcells, show 1 + i = i + 1 by omega, List.getElem?_cons_succ]
        simp only [cellsB, List.map_take, List.getElem?_take] at hv ⊢
        split at hv
        · exact hv
        · cases hv
      have k3 : (wr.alloc (.cells (wcells (a, d)).toArray 81)).there bs (a * 64) L := World.there_alloc (fun i hi => hthere a ha i (by omega)) _
      have hcl : (cellsB (d.take L)).length = L := by rw [cellsB_len, List.length_take, hd]; omega
      have hmin : Nat.min L 64 = L := Nat.min_eq_left L64
      have hco := cellsB_one (d.take L)
      have l0 : (0 : Int) ≤ (L : Int) := Int.natCast_nonneg _
      have l64 : (L : Int) ≤ 64 := by omega
      have hBbs : wr.heap.size ≠ bs := by omega
      have HLs := hidden hL
      clear hS hK hsec hthere hL
      have Hmin := hidden hmin
      have Hcl := hidden hcl
      clear hmin hcl
      go_wp2_with (first | (refine wpList_load_mid rfl 81 (.tmp 22) rfl g (j * 65) (by rfl) (wcells (a, d)) _ hrow Try.underlying81 rfl hi65 ?_) | (refine wpList_store_new rfl 81 (.tmp 8) (.tmp 23) rfl (wcells (0, List.replicate 64 0)) (wcells (a, d)) 81 (by rfl) (by rfl) hzl hi65 hone ?_))
      clear c0 hrow hi65 hone hzl hzero hl65 c2
      have HB : Hid (wr.heap.size = wr.heap.size) := rfl
      generalize hW : wr.alloc (.cells (wcells (a, d)).toArray 81) = W at *
      have HW := hidden hW
      clear hW
      generalize wr.heap.size = B at *
      go_region_held3 (fun w' => w'.cell? ⟨bi, 0, none⟩ = some (.slice (some ⟨bs, 0, none⟩) s.n s.n) ∧ w'.cell? ⟨B, 0, none⟩ = some (.int .i64 a) ∧ w'.rangeAt B 1 (cellsB (d.take L)) ∧ w'.there bs (a * 64) L) ((go_split_ands; (simp only [World.cell?_drew, World.rangeAt_drew, World.there_drew] at *); refine ⟨?_, ?_, ?_, ?_⟩ <;> first | assumption | (rw [World.cell?_setCells_out _ _ _ _ _ (fun e => absurd e (by assumption))]; assumption) | (apply World.there_setCells; assumption) | (refine World.rangeAt_setCells_apart (by assumption) _ _ _ (Or.inl (by assumption))))) (first | (go_at_call 47; refine (HLs.out _).mono ?_; rintro e w' ⟨rfl, rfl⟩) | (refine step_copy_cells rfl (.tmp 31) (.tmp 38) 46 46 rfl 5 Try.underlying46 Try.size_u8 bs (a * 64) 64 64 B 1 L 64 (by rfl) (by rfl) (cellsB (d.take L)) (by rw [Hcl.out, Hmin.out]) (by assumption) (by rw [Hcl.out]; assumption) hco ?_))
      go_wp2
      go_roundw
      case rel =>
        refine ⟨j + 1, by omega, by go_num, ?_, ?_⟩
        · rw [← HW.out]
          exact ((HK.out.alloc _).drew).setCells (.inl (by simp)) _ _
        · rw [HR.out, ← HW.out]
          refine flat_lay (t := 79) ?_ HSec.out a (by omega) d hd L L64
          show (wr.alloc _).heap[bs]? = _
          rw [oldB _ _ _ (lt_of_block HS.out)]
          exact HS.out
      case measure => simp [intOf]; omega
    · have hje : j = s.opn.length := by omega
      subst hje
      have HC := hidden (fail_close Hh.out m t hK.drew (wr := wr.drew) hS)
      have hbi : wr.heap[bi]? = _ := (hK.block bi (lt_of_block Hh.out.hbi) (by simp [n1])).trans Hh.out.hbi
      have hbn : wr.heap[bn]? = _ := (hK.block bn (lt_of_block Hh.out.hbn) (by simp; exact fun e => n3 e.symm)).trans Hh.out.hbn
      have hsl : (failTo s m t s.opn.length).length = s.n := by rw [failTo_len, Hh.out.wf.len]
      have hfl : (flat (failTo s m t s.opn.length)).length = s.n * 64 := by rw [flat_len (failTo_sec Hh.out.wf m t _ (Nat.le_refl _)), hsl]
      have hnl : (flat s.now).length = s.n * 64 := by rw [flat_len (now_sec Hh.out.wf), now_len, Hh.out.wf.len]
      have hc0 : wr.cell? ⟨bi, 0, none⟩ = some (.slice (some ⟨bs, 0, none⟩) s.n s.n) := by rw [cell_of_row wr bi 0 _ _ _ hbi]; rfl
      have hc1 : wr.cell? ⟨bi, 1, none⟩ = some (.slice (some ⟨bn, 0, none⟩) s.n s.n) := by rw [cell_of_row wr bi 1 _ _ _ hbi]; rfl
      have hr : wr.rangeAt bs 0 (flat (failTo s m t s.opn.length)) := range_block hS 0 _ (fun i v hv => by rw [Nat.zero_add]; exact hv)
      have hth : wr.there bn 0 (flat (failTo s m t s.opn.length)).length := there_block hbn 0 _ (by omega)
      have hone := flat_one (failTo s m t s.opn.length)
      have d2 : ((wr.drew.setCells bn 0 (flat (failTo s m t s.opn.length))).cell? ⟨bi, 2, none⟩) = some (.slice ua s.opn.length ucap) := by
        rw [World.cell?_setCells_out _ _ _ _ _ (fun e => absurd e n2), World.cell?_drew, cell_of_row wr bi 2 _ _ _ hbi]; rfl
      have d3 : ((wr.drew.setCells bn 0 (flat (failTo s m t s.opn.length))).cell? ⟨bi, 3, none⟩) = some F := by
        rw [World.cell?_setCells_out _ _ _ _ _ (fun e => absurd e n2), World.cell?_drew, cell_of_row wr bi 3 _ _ _ hbi]; rfl
      have d4 : ((wr.drew.setCells bn 0 (flat (failTo s m t s.opn.length))).cell? ⟨bi, 4, none⟩) = some (.bool s.on) := by
        rw [World.cell?_setCells_out _ _ _ _ _ (fun e => absurd e n2), World.cell?_drew, cell_of_row wr bi 4 _ _ _ hbi]; rfl
      have dz : ∀ k, (wr.drew.setCells bn 0 (flat (failTo s m t s.opn.length))).frozen? ⟨bi, k, none⟩ = false := by
        intro k
        rw [World.frozen?_setCells, World.frozen?_drew, frozen_of_row wr bi k _ _ hbi]
      clear hS hK hbi hbn hnl hsl c2
      generalize hC : flat (failTo s m t s.opn.length) = C at *
      clear hC
      go_wp2
      go_region_held3 (fun w' => w'.cell? ⟨bi, 0, none⟩ = some (.slice (some ⟨bs, 0, none⟩) s.n s.n) ∧ w'.cell? ⟨bi, 1, none⟩ = some (.slice (some ⟨bn, 0, none⟩) s.n s.n) ∧ w'.rangeAt bs 0 C ∧ w'.there bn 0 C.length) ((go_split_ands; (simp only [World.cell?_drew, World.rangeAt_drew, World.there_drew] at *); refine ⟨?_, ?_, ?_, ?_⟩ <;> first | assumption | (rw [World.cell?_setCells_out _ _ _ _ _ (fun e => absurd e (by assumption))]; assumption) | (apply World.there_setCells; assumption) | (refine World.rangeAt_setCells_apart (by assumption) _ _ _ (Or.inl (by assumption))))) (first | (refine step_copy_wide rfl (.tmp 44) (.tmp 48) 63 63 rfl 79 Try.underlying63 64 Try.size_sector bn 0 s.n s.n bs 0 s.n (by rfl) (by rfl) C hfl (by assumption) (by assumption) hone ?_))
      go_wp2
      go_end0
      exact ⟨rfl, HC.out⟩

end Go.Proofs.YtdpeacdilgcloaaR
