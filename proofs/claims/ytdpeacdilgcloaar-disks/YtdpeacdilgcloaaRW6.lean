/- The program's Write. Own text. -/
import Derived.Test.YtdpeacdilgcloaaRW5
import Derived.Test.YtdpeacdilgcloaaRLaws3
namespace Go.Proofs.YtdpeacdilgcloaaR
open Go.RowKit

theorem Try.info_write : (Try.prog.info? 81).map (fun i => (i.zero, i.size, i.bytes)) = some (some (.agg zeroWrite), 65, 72) := by kernel_rfl

/-- the load of a whole write, under a name of its own -/
def loadW (v : Value) : Sem Value := Instr.loadAt 81 v
theorem loadW_eq (v : Value) : Instr.loadAt 81 v = loadW v := rfl
/-- a slice of one write, likewise -/
def sliceW (p : Array (Nat × Value)) : Sem Value := Instr.buildSlice 64 1 p
theorem sliceW_eq (p : Array (Nat × Value)) : Instr.buildSlice 64 1 p = sliceW p := rfl
attribute [local go_sem ↓] loadW_eq sliceW_eq
theorem sliceW_run (x : Nat × List UInt8) (hx : x.2.length = 64) (w : World) : (sliceW #[(0, .agg (wcells x).toArray)]).run Try.prog w = .ok (.slice (some ⟨w.heap.size, 0, none⟩) 1 1) (w.alloc (.cells (wcells x).toArray 81)) := buildSlice_write x hx w

theorem write_close {w1 w2 w4 : World} {bi bs bn : Nat} {U1 F1 : Value} {s1 : DS} (h : PDx w1 bi bs bn U1 F1 s1) (hon : s1.on = true) (k : Nat) (hk : k < s1.n) (d : List UInt8) (hd : d.length = 64)
    (hG : w1.grownBy w2 U1.ownBlock) (g cap : Nat) (hown : w2.ownsRow 0 81 65 (.slice (some ⟨g, 0, none⟩) (s1.opn.length + 1) cap) (s1.opn.length + 1) (wflat s1.opn ++ wcells (k, d))) (hat : U1.ownBlock = some g ∨ w1.heap.size ≤ g)
    (hw4 : w4 = ((w2.setCell ⟨bi, 2, none⟩ (.slice (some ⟨g, 0, none⟩) (s1.opn.length + 1) cap)).drew.setCells bn (k * 64) (cellsB d)).setCell ⟨bi, 5, none⟩ (.int .i64 ((s1.writes : Int) + 1))) :
    PDx w4 bi bs bn (.slice (some ⟨g, 0, none⟩) (s1.opn.length + 1) cap) F1 (s1.add k d) ∧ Keeps (fpP bi bs bn U1 F1) (fpP bi bs bn (.slice (some ⟨g, 0, none⟩) (s1.opn.length + 1) cap) F1) w1 w4 := by
  subst hw4
  obtain ⟨n1, n2, n3⟩ := h.ne
  have hnd := h.nd
  simp only [fpP, List.nodup_cons, List.mem_cons, List.mem_append, Option.mem_toList, not_or] at hnd
  have l1 := lt_of_block h.hbi
  have l2 := lt_of_block h.hbs
  have l3 := lt_of_block h.hbn
  have kb : ∀ k, k < w1.heap.size → U1.ownBlock ≠ some k → w2.heap[k]? = w1.heap[k]? := fun k hk hne => hG.block k hk (fun e => hne e.symm)
  have b1 : w2.heap[bi]? = _ := (kb bi l1 hnd.1.2.2.1).trans h.hbi
  have b2 : w2.heap[bs]? = _ := (kb bs l2 hnd.2.1.2.1).trans h.hbs
  have b3 : w2.heap[bn]? = _ := (kb bn l3 hnd.2.2.1.1).trans h.hbn
  have gbi : g ≠ bi := by rcases hat with e | e; exact fun x => hnd.1.2.2.1 (by rw [e, x]); omega
  have gbs : g ≠ bs := by rcases hat with e | e; exact fun x => hnd.2.1.2.1 (by rw [e, x]); omega
  have gbn : g ≠ bn := by rcases hat with e | e; exact fun x => hnd.2.2.1.1 (by rw [e, x]); omega
  have hfl : ∀ x, x ∈ ptrB F1 → x < w1.heap.size ∧ x ≠ bi ∧ x ≠ bs ∧ x ≠ bn ∧ U1.ownBlock ≠ some x := by
    intro x hx
    refine ⟨h.lt x (by simp [fpP, hx]), fun e => hnd.1.2.2.2 (e ▸ hx), fun e => hnd.2.1.2.2 (e ▸ hx), fun e => hnd.2.2.1.2 (e ▸ hx), fun e => ?_⟩
    have := List.nodup_append.1 hnd.2.2.2
    exact this.2.2 x (by simp [e]) x hx rfl
  have gF : g ∉ ptrB F1 := fun hx => by
    obtain ⟨a1, _, _, _, a5⟩ := hfl g hx
    rcases hat with e | e
    · exact a5 e
    · omega
  refine ⟨⟨?_, ?_, ?_, ?_, ?_, Wf.add h.wf hon k d hk hd, ?_⟩, ?_⟩
  · have e2 : (((w2.setCell ⟨bi, 2, none⟩ (.slice (some ⟨g, 0, none⟩) (s1.opn.length + 1) cap)).drew).setCells bn (k * 64) (cellsB d)).heap[bi]? = _ := (other_setCells bn bi n2 _ _ _).trans (heap_setCell_same _ _ _ _ _ _ b1)
    rw [heap_setCell_same _ _ _ _ _ _ e2]
    rfl
  · rw [heap_setCell_other _ _ _ _ (Ne.symm n1), other_setCells bn bs n3]
    show (w2.setCell _ _).heap[bs]? = _
    rw [heap_setCell_other _ _ _ _ (Ne.symm n1), b2]
    rfl
  · rw [heap_setCell_other _ _ _ _ (Ne.symm n2), now_add]
    refine flat_setCells ?_ (now_sec h.wf) k (by rw [now_len, h.wf.len]; exact hk) d hd
    show (w2.setCell _ _).heap[bn]? = _
    rw [heap_setCell_other _ _ _ _ (Ne.symm n2), b3]
  · have e : wflat (s1.add k d).opn = wflat s1.opn ++ wcells (k, d) := by
      show wflat (s1.opn ++ [(k, d)]) = _
      simp [wflat]
    rw [e, show (s1.add k d).opn.length = s1.opn.length + 1 by show (s1.opn ++ [(k, d)]).length = _; simp]
    refine own_of_block hown ?_
    intro g' hg'
    have : g = g' := by simpa [Value.ownBlock] using hg'
    subst this
    rw [heap_setCell_other _ _ _ _ gbi, other_setCells bn g gbn]
    show (w2.setCell _ _).heap[g]? = _
    rw [heap_setCell_other _ _ _ _ gbi]
  · refine h.hF.of_block ?_
    intro x hx
    obtain ⟨a1, a2, a3, a4, a5⟩ := hfl x hx
    rw [heap_setCell_other _ _ _ _ a2, other_setCells bn x a4]
    show (w2.setCell _ _).heap[x]? = _
    rw [heap_setCell_other _ _ _ _ a2, kb x a1 a5]
  · simp only [fpP, Value.ownBlock, List.nodup_cons, List.mem_cons, List.mem_append, Option.mem_toList, not_or]
    refine ⟨⟨n1, n2, by simpa using gbi, hnd.1.2.2.2⟩, ⟨n3, by simpa using gbs, hnd.2.1.2.2⟩, ⟨by simpa using gbn, hnd.2.2.1.2⟩, ?_⟩
    have := List.nodup_append.1 hnd.2.2.2
    show (g :: ptrB F1).Nodup
    rw [List.nodup_cons]
    exact ⟨gF, this.2.1⟩
  · have k0 : Keeps (fpP bi bs bn U1 F1) [] w1 w2 := ((Keeps.refl (fpP bi bs bn U1 F1) w1).sub (fun _ h => by cases h)).grown hG (fun x hx => .inl (by simp [fpP, hx]))
    refine Keeps.newer (g := []) ((((k0.setCell (.inl (by simp [fpP])) _).drew).setCells (.inl (by simp [fpP])) _ _).setCell (.inl (by simp [fpP])) _) ?_
    intro x hx
    simp only [fpP, Value.ownBlock, List.mem_cons, List.mem_append, Option.mem_toList] at hx ⊢
    rcases hx with e | e | e | e | e
    · simp [e]
    · simp [e]
    · simp [e]
    · have : g = x := by simpa using e
      subst this
      rcases hat with e | e
      · exact .inl (.inr (.inr (.inr (.inl e))))
      · exact .inr e
    · exact .inl (.inr (.inr (.inr (.inr e))))

theorem write_mid {w1 w2 : World} {bi bs bn : Nat} {U1 F1 : Value} {s1 : DS} (h : PDx w1 bi bs bn U1 F1 s1) (k : Nat) (hk : k < s1.n) (d : List UInt8)
    (hG : w1.grownBy w2 U1.ownBlock) (B : Nat) (hB : w1.heap.size = B) (hWB : w2.heap[B]? = some (.cells (wcells (k, d)).toArray 81 (0, 0))) (U2 : Value) :
    (w2.setCell ⟨bi, 2, none⟩ U2).cell? ⟨bi, 1, none⟩ = some (.slice (some ⟨bn, 0, none⟩) s1.n s1.n) ∧ (w2.setCell ⟨bi, 2, none⟩ U2).rangeAt B 1 (cellsB d) ∧ (w2.setCell ⟨bi, 2, none⟩ U2).there bn (k * 64) 64 ∧
    (∀ vs, ((w2.setCell ⟨bi, 2, none⟩ U2).drew.setCells bn (k * 64) vs).cell? ⟨bi, 5, none⟩ = some (.int .i64 s1.writes)) ∧ (∀ vs, ((w2.setCell ⟨bi, 2, none⟩ U2).drew.setCells bn (k * 64) vs).frozen? ⟨bi, 5, none⟩ = false) := by
  obtain ⟨n1, n2, n3⟩ := h.ne
  have hnd := h.nd
  simp only [fpP, List.nodup_cons, List.mem_cons, List.mem_append, Option.mem_toList, not_or] at hnd
  have l1 := lt_of_block h.hbi
  have l3 := lt_of_block h.hbn
  have kb : ∀ k, k < w1.heap.size → U1.ownBlock ≠ some k → w2.heap[k]? = w1.heap[k]? := fun k hk hne => hG.block k hk (fun e => hne e.symm)
  have b1 : w2.heap[bi]? = _ := (kb bi l1 hnd.1.2.2.1).trans h.hbi
  have b3 : w2.heap[bn]? = _ := (kb bn l3 hnd.2.2.1.1).trans h.hbn
  have b1' := heap_setCell_same w2 bi 2 _ _ U2 b1
  have b3' : (w2.setCell ⟨bi, 2, none⟩ U2).heap[bn]? = _ := (heap_setCell_other w2 ⟨bi, 2, none⟩ bn U2 (Ne.symm n2)).trans b3
  have hBbi : B ≠ bi := by omega
  have bB : (w2.setCell ⟨bi, 2, none⟩ U2).heap[B]? = _ := (heap_setCell_other w2 ⟨bi, 2, none⟩ B U2 hBbi).trans hWB
  refine ⟨?_, ?_, ?_, ?_, ?_⟩
  · rw [cell_of_row _ bi 1 _ _ _ b1']; rfl
  · refine range_block bB 1 _ ?_
    intro i v hv
    rw [wcells, show 1 + i = i + 1 by omega, List.getElem?_cons_succ]
    exact hv
  · exact there_flat b3' (now_sec h.wf) k (by rw [now_len, h.wf.len]; exact hk)
  · intro vs
    rw [World.cell?_setCells_out _ _ _ _ _ (fun e => absurd e n2), World.cell?_drew, cell_of_row _ bi 5 _ _ _ b1']; rfl
  · intro vs
    rw [World.frozen?_setCells, World.frozen?_drew, frozen_of_row _ bi 5 _ _ b1']

set_option maxRecDepth 100000 in
set_option maxHeartbeats 2000000 in
theorem iwrite_any (w : World) (bi bs bn : Nat) (U F : Value) (s : DS) (h : PDx w bi bs bn U F s) (at_ : Int) (S : ByteArray) (hS : S.size ≤ maxLen) (hw : s.writes < 2932031100000) :
    Calls Try.prog 33 #[.pointer (some ⟨bi, 0, none⟩), .int .i64 at_, .string S] w fun e w' => e = .returned (.int .i64 (s.write at_ S.data.toList).2) ∧ ∃ U' F',
      PDx w' bi bs bn U' F' (s.write at_ S.data.toList).1 ∧ Keeps (fpP bi bs bn U F) (fpP bi bs bn U' F') w w' := by
  have c1 := h.c1
  unfold maxLen at hS
  obtain ⟨d, rfl⟩ : ∃ d : List UInt8, S = ⟨d.toArray⟩ := ⟨S.data.toList, rfl⟩
  have hds : (⟨d.toArray⟩ : ByteArray).size = d.length := by simp [ByteArray.size]
  rw [show (⟨d.toArray⟩ : ByteArray).data.toList = d from rfl]
  rw [hds] at hS
  by_cases hin : 0 ≤ at_ ∧ at_ < s.n
  · obtain ⟨k, rfl⟩ := Int.eq_ofNat_of_zero_le hin.1
    have hk : k < s.n := by omega
    by_cases h64 : d.length = 64
    · have Hsp := hidden (spend_any w bi bs bn U F s h (by omega))
      have hw1 : s.spend.1.writes < 2932031100000 := by rw [spend_writes]; exact hw
      have hn1 : s.spend.1.n = s.n := spend_n s
      have hon := spend_on h.wf
      have ewr : s.write (k : Int) d = if s.spend.2 then (s.spend.1.add k d, 0) else (s.spend.1, 4) := by
        unfold DS.write
        rw [if_pos hin, if_pos h64, Int.toNat_natCast]
      rw [ewr]
      have h64b : ((d.length : Int) != 64) = false := by rw [h64]; rfl
      clear h ewr
      have H64 := hidden h64
      clear h64
      generalize s.spend = r at *
      obtain ⟨s1, b⟩ := r
      dsimp only at hw1 hn1 Hsp hon ⊢
      clear hds
      cases b with
      | false =>
        rw [if_neg (by simp)]
        go_enter Try.func33, Try.ntmps33
        go_wp2_with (first | (go_at_call 45; refine (has_any bi s.n _ _ _ c1).mono ?_; rintro e w' ⟨rfl, rfl⟩) | (go_at_call 46; refine Hsp.out.mono ?_; rintro e w1 ⟨rfl, U1, F1, hP, hK⟩))
        go_ret
        exact ⟨rfl, U1, F1, hP, hK⟩
      | true =>
        rw [if_pos rfl]
        have hon1 := hon rfl
        clear hon
        go_enter Try.func33, Try.ntmps33
        go_wp2_with (first | (go_at_call 45; refine (has_any bi s.n _ _ _ c1).mono ?_; rintro e w' ⟨rfl, rfl⟩))
        refine Hsp.out.mono ?_
        rintro e w1 ⟨rfl, U1, F1, hP, hK⟩
        clear Hsp c1
        have HK := hidden hK
        clear hK
        have hd : d.length = 64 := H64.out
        clear H64 h64b hS
        have c1 := hP.c1
        have c2 := hP.c2
        have c5 := hP.c5
        have z2 := hP.fz 2
        have z5 := hP.fz 5
        have bl := lt_of_block hP.hbi
        have hbw := build_write k
        have hz65 := zero_write
        have hl65 : (wcells (k, d)).length = 65 := by rw [wcells_len, hd]
        have hl65' : (wcells (k, List.replicate 64 0)).length = 65 := by rw [wcells_len]; rfl
        have hi65 : (Try.prog.info? 81).map (·.size) = some (wcells (k, List.replicate 64 0)).length := by rw [hl65']; exact Try.size_write
        have hone := wcells_one (k, List.replicate 64 0)
        have HP := hidden hP
        clear hP
        go_wp2_with (first | (refine wpList_store_new rfl 81 (.tmp 7) (.tmp 19) rfl (wcells (0, List.replicate 64 0)) (wcells (k, List.replicate 64 0)) 81 (by rfl) (by rfl) rfl hi65 hone ?_) | (refine wpList_copy_new rfl (.tmp 21) (.tmp 22) 46 9 rfl 5 Try.underlying46 Try.size_u8 81 k (List.replicate 64 0) d (by rfl) hd (by rfl) (by rfl) ?_))
        simp only [Act.put, List.setIfInBounds_toArray, List.set_cons_zero, List.set_cons_succ, goInt]
        obtain ⟨i0, hi, hz0, hz1, hz2⟩ := info_parts Try.info_write
        have hsl := sliceW_run (k, d) hd
        have hX1 := wcells_one (k, d)
        have hcnt := HP.out.wf.cnt
        have hWo : ∀ b, b < w1.heap.size → (w1.alloc (.cells (wcells (k, d)).toArray 81)).heap[b]? = w1.heap[b]? := fun b hb => oldB _ _ b hb
        have hWs : w1.heap.size < (w1.alloc (.cells (wcells (k, d)).toArray 81)).heap.size := by simp
        have hWb := newB w1 (.cells (wcells (k, d)).toArray 81)
        have hGW : w1.grownBy (w1.alloc (.cells (wcells (k, d)).toArray 81)) U1.ownBlock := World.grownBy_alloc _ _ _
        clear hbw hz65 hl65' hi65 hone hin
        generalize hB : w1.heap.size = B at *
        generalize w1.alloc (.cells (wcells (k, d)).toArray 81) = W at *
        have d2 : W.cell? ⟨bi, 2, none⟩ = some U1 := (World.cell?_of_block (hWo bi bl)).trans c2
        have zW : W.frozen? ⟨bi, 2, none⟩ = false := (World.frozen?_of_block (hWo bi bl)).trans z2
        have blW : bi < W.heap.size := by omega
        have hload : (loadW (.pointer (some ⟨B, 0, none⟩))).run Try.prog W.drew = .ok (.agg (wcells (k, d)).toArray) W.drew :=
          run_loadAt_mid W.drew B 0 81 (wcells (k, d)) _ (range_block hWb 0 _ (fun j v hv => by rw [Nat.zero_add]; exact hv)) Try.underlying81 rfl (by rw [hl65]; exact Try.size_write)
        have hown : (W.alloc (.cells (wcells (k, d)).toArray 81)).drew.ownsRow 0 81 i0.size U1 s1.opn.length (wflat s1.opn) := by
          rw [hz1]
          refine own_of_block HP.out.hU ?_
          intro g hg
          have hgl := own_lt HP.out.hU g hg
          show (W.alloc _).heap[g]? = _
          rw [oldB _ _ _ (by omega), hWo g (by omega)]
        have hnews : ∀ j u, (wcells (k, d))[j]? = some u → (W.alloc (.cells (wcells (k, d)).toArray 81)).drew.cell? ((⟨W.heap.size, 0, none⟩ : Addr).add j) = some u :=
          World.news_of_block (cs := (wcells (k, d)).toArray) (newB W _)
        have hUbi : U1.ownBlock ≠ some bi := by
          have := HP.out.nd
          simp only [fpP, List.nodup_cons, List.mem_cons, List.mem_append, Option.mem_toList, not_or] at this
          exact this.1.2.2.1
        have hGW2 : w1.grownBy (W.alloc (.cells (wcells (k, d)).toArray 81)).drew U1.ownBlock := hGW.trans ⟨rfl, rfl, rfl, by simp, fun k' hk' _ => oldB _ _ k' hk'⟩
        have Hown := hidden hown
        have Hnews := hidden hnews
        have HG := hidden hGW2
        have HWo := hidden hWo
        have HWb := hidden hWb
        have HB := hidden hB
        clear hown hnews hGW hGW2 hWo hWb hB
        go_region_law (refine step_append_one (by rfl) (.tmp 28) (.tmp 30) 64 (by rfl) 81 i0 (.agg zeroWrite) Try.underlying64 hi hz0 (by rw [hz1]; rfl) U1 s1.opn.length (wflat s1.opn) (by rfl) Hown.out ⟨W.heap.size, 0, none⟩ 1 (wcells (k, d)) (by rfl) (by rw [hl65, hz1]) Hnews.out hX1 (by unfold maxLen; omega) (by rw [hz2]; omega) ?_; intro g cap w2 hown2 hgrow hat; rw [hz1] at hown2; have e2 : w2.cell? ⟨bi, 2, none⟩ = some U1 := (hgrow.cell_far ⟨bi, 2, none⟩ (by show bi < (W.alloc _).heap.size; simp; omega) (Ne.symm hUbi)).trans (by rw [World.cell?_drew, World.cell?_alloc_lt _ _ _ blW]; exact d2); have z2' : w2.frozen? ⟨bi, 2, none⟩ = false := (hgrow.frozen_far ⟨bi, 2, none⟩ (by show bi < (W.alloc _).heap.size; simp; omega) (Ne.symm hUbi)).trans (by rw [World.frozen?_drew, World.frozen?_alloc_past _ _ _ blW]; exact zW))
        all_goals
          have hG2 := HG.out.trans hgrow
          have hUB : U1.ownBlock ≠ some B := fun e => by have := own_lt HP.out.hU B e; have := HB.out; omega
          have hWB : w2.heap[B]? = some (.cells (wcells (k, d)).toArray 81 (0, 0)) :=
            (hgrow.block B (by show B < (W.alloc _).heap.size; simp; omega) (Ne.symm hUB)).trans ((oldB W _ B (by omega)).trans HWb.out)
          have hat2 : U1.ownBlock = some g ∨ w1.heap.size ≤ g := either hat id (fun e => by rw [e, HB.out]; show B ≤ (W.alloc _).heap.size; simp; omega)
          have HC := hidden (fun w4 => write_close (w4 := w4) HP.out hon1 k (by omega) d hd hG2 g cap hown2 hat2)
          obtain ⟨m1, m2, m3, m4, m5⟩ := write_mid HP.out k (by omega) d hG2 B HB.out hWB (.slice (some ⟨g, 0, none⟩) (s1.opn.length + 1) cap)
          have m4' := m4 (cellsB d)
          have m5' := m5 (cellsB d)
          have hu63 := Try.underlying79
          have hcl : (cellsB d).length = 64 := by rw [cellsB_len, hd]
          have hi63 : (Try.prog.info? 79).map (·.size) = some (cellsB d).length := by rw [hcl]; exact Try.size_sector
          have hco : ∀ v ∈ cellsB d, v.oneCell' = true := cellsB_one d
          obtain ⟨n1, n2, n3⟩ := HP.out.ne
          have hBbn : B ≠ bn := by have := lt_of_block HP.out.hbn; have := HB.out; omega
          have hk0 : (0 : Int) ≤ (k : Int) := Int.natCast_nonneg _
          have hkn : (k : Int) < (s1.n : Int) := by omega
          have hn128 := HP.out.wf.n128
          clear hG2 hUB hWB hat2 hown2 hgrow hat e2 z2' m4 m5 hload hsl hX1 hl65 c1 c2 c5 z2 z5 d2 hWs blW zW
          generalize hW3 : w2.setCell ⟨bi, 2, none⟩ (.slice (some ⟨g, 0, none⟩) (s1.opn.length + 1) cap) = W3 at *
          have HW3 := hidden hW3
          clear hW3
          generalize hD : cellsB d = D at *
          have HD := hidden hD
          clear hD
          go_wp2
          go_region_held3 (fun w' => w'.cell? ⟨bi, 1, none⟩ = some (.slice (some ⟨bn, 0, none⟩) s1.n s1.n) ∧ w'.rangeAt B 1 D ∧ w'.there bn (k * 64) 64) ((go_split_ands; (simp only [World.cell?_drew, World.rangeAt_drew, World.there_drew] at *); refine ⟨?_, ?_, ?_⟩ <;> first | assumption | (rw [World.cell?_setCells_out _ _ _ _ _ (fun e => absurd e (by assumption))]; assumption) | (apply World.there_setCells; assumption) | (refine World.rangeAt_setCells_apart (by assumption) _ _ _ (Or.inl (by assumption))))) (fail)
          go_wp2
          go_ret
          exact ⟨rfl, _, F1, (HC.out _ rfl).1, HK.out.trans (HC.out _ rfl).2⟩
    · have ewr : s.write (k : Int) d = (s, 3) := by unfold DS.write; rw [if_pos hin, if_neg h64]
      rw [ewr]
      have h64b : ((d.length : Int) != 64) = true := by simp; omega
      clear hds
      go_enter Try.func33, Try.ntmps33
      go_wp2_with (first | (go_at_call 45; refine (has_any bi s.n _ _ _ c1).mono ?_; rintro e w' ⟨rfl, rfl⟩))
      go_ret
      exact ⟨rfl, U, F, h, Keeps.refl _ _⟩
  · have ewr : s.write at_ d = (s, 2) := by unfold DS.write; rw [if_neg hin]
    rw [ewr]
    go_enter Try.func33, Try.ntmps33
    go_wp2_with (first | (go_at_call 45; refine (has_any bi s.n _ _ _ c1).mono ?_; rintro e w' ⟨rfl, rfl⟩))
    go_ret
    exact ⟨rfl, U, F, h, Keeps.refl _ _⟩

end Go.Proofs.YtdpeacdilgcloaaR
