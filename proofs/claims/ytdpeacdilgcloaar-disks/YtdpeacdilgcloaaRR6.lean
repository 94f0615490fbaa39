/- The document's disk: Write, NewDisk. Own text. -/
import Derived.Test.YtdpeacdilgcloaaRR5
namespace Go.Proofs.YtdpeacdilgcloaaR
open Go.RowKit

def zeroWritten : Value := .agg #[.int .i64 0, .string ⟨#[]⟩]
theorem Try.info_Written : (Try.prog.info? 69).map (fun i => (i.zero, i.size, i.bytes)) = some (some zeroWritten, 2, 24) := by kernel_rfl
theorem Try.info_string : (Try.prog.info? 9).map (fun i => (i.zero, i.size, i.bytes)) = some (some (.string ⟨#[]⟩), 1, 16) := by kernel_rfl

theorem rwrite_close {w1 w2 : World} {br : Nat} {L O : Value} {l m t : Int} {s1 : DS} (h : RDx w1 br L O l m t s1) (hon : s1.on = true) (a : Nat) (ha : a < s1.n) (d : List UInt8) (hd : d.length = 64)
    (hG : w1.grownBy w2 O.ownBlock) (g cap : Nat) (hown : w2.ownsRow 0 69 2 (.slice (some ⟨g, 0, none⟩) (s1.opn.length + 1) cap) (s1.opn.length + 1) (rflat s1.opn ++ rcells (a, d))) (hat : O.ownBlock = some g ∨ w1.heap.size ≤ g) :
    RDx ((w2.setCell ⟨br, 1, none⟩ (.slice (some ⟨g, 0, none⟩) (s1.opn.length + 1) cap)).setCell ⟨br, 7, none⟩ (.int .i64 ((s1.writes : Int) + 1))) br L (.slice (some ⟨g, 0, none⟩) (s1.opn.length + 1) cap) l m t (s1.add a d) ∧
    Keeps (br :: (L.ownBlock.toList ++ O.ownBlock.toList)) (br :: (L.ownBlock.toList ++ (Value.slice (some ⟨g, 0, none⟩) (s1.opn.length + 1) cap).ownBlock.toList)) w1 ((w2.setCell ⟨br, 1, none⟩ (.slice (some ⟨g, 0, none⟩) (s1.opn.length + 1) cap)).setCell ⟨br, 7, none⟩ (.int .i64 ((s1.writes : Int) + 1))) := by
  have hnd := h.nd
  simp only [List.nodup_cons, List.mem_append, Option.mem_toList, not_or] at hnd
  have hdis := (List.nodup_append.1 hnd.2).2.2
  have l1 := lt_of_block h.hbr
  have kb : ∀ k, k < w1.heap.size → O.ownBlock ≠ some k → w2.heap[k]? = w1.heap[k]? := fun k hk hne => hG.block k hk (fun e => hne e.symm)
  have b1 : w2.heap[br]? = _ := (kb br l1 hnd.1.2).trans h.hbr
  have gbr : g ≠ br := by rcases hat with e | e; exact fun x => hnd.1.2 (by rw [e, x]); omega
  have hLl : ∀ x, L.ownBlock = some x → x < w1.heap.size ∧ x ≠ br ∧ O.ownBlock ≠ some x ∧ x ≠ g := by
    intro x hx
    have hxl := own_lt h.hL x hx
    have hO : O.ownBlock ≠ some x := fun e => hdis x (by simp [hx]) x (by simp [e]) rfl
    refine ⟨hxl, fun e => hnd.1.1 (by rw [← e]; exact hx), hO, ?_⟩
    rcases hat with e | e
    · intro ex; exact hO (by rw [ex]; exact e)
    · omega
  refine ⟨⟨?_, ?_, ?_, h.hf, Wf.add h.wf hon a d ha hd, ?_⟩, ?_⟩
  · rw [heap_setCell_same _ _ _ _ _ _ (heap_setCell_same _ _ _ _ _ _ b1)]
    rfl
  · refine own_of_block h.hL ?_
    intro x hx
    obtain ⟨x1, x2, x3, _⟩ := hLl x hx
    rw [heap_setCell_other _ _ _ _ x2, heap_setCell_other _ _ _ _ x2, kb x x1 x3]
  · have e : rflat (s1.add a d).opn = rflat s1.opn ++ rcells (a, d) := by
      show rflat (s1.opn ++ [(a, d)]) = _
      simp [rflat]
    rw [e, show (s1.add a d).opn.length = s1.opn.length + 1 by show (s1.opn ++ [(a, d)]).length = _; simp]
    refine own_of_block hown ?_
    intro x hx
    have : g = x := by simpa [Value.ownBlock] using hx
    subst this
    rw [heap_setCell_other _ _ _ _ gbr, heap_setCell_other _ _ _ _ gbr]
  · show (br :: (L.ownBlock.toList ++ [g])).Nodup
    rw [List.nodup_cons]
    refine ⟨?_, ?_⟩
    · simp only [List.mem_append, Option.mem_toList, List.mem_singleton, not_or]
      exact ⟨hnd.1.1, Ne.symm gbr⟩
    · rw [List.nodup_append]
      refine ⟨(List.nodup_append.1 hnd.2).1, by simp, ?_⟩
      intro x hx y hy
      rw [List.mem_singleton.1 hy]
      exact (hLl x (by simpa using hx)).2.2.2
  · have k0 : Keeps (br :: (L.ownBlock.toList ++ O.ownBlock.toList)) [] w1 w2 := ((Keeps.refl _ w1).sub (fun _ h => by cases h)).grown hG (fun x hx => .inl (by simp [hx]))
    refine Keeps.newer (g := []) ((k0.setCell (.inl (by simp)) _).setCell (.inl (by simp)) _) ?_
    intro x hx
    rcases List.mem_cons.1 hx with rfl | hx
    · simp
    · rcases List.mem_append.1 hx with hx | hx
      · exact .inl (List.mem_cons_of_mem _ (List.mem_append_left _ hx))
      · have : x = g := by simpa [Value.ownBlock] using hx
        subst this
        rcases hat with e | e
        · exact .inl (List.mem_cons_of_mem _ (List.mem_append_right _ (by simp [e])))
        · exact .inr e

set_option maxRecDepth 100000 in
set_option maxHeartbeats 1000000 in
theorem rwrite_any (w : World) (br : Nat) (fp : List Nat) (s : DS) (h : RD w br fp s) (at_ : Int) (S : ByteArray) (_hS : S.size ≤ maxLen) (hw : s.writes < 2932031100000) :
    Calls Try.prog 15 #[.pointer (some ⟨br, 0, none⟩), .int .i64 at_, .string S] w fun e w' => e = .returned (.int .i64 (s.write at_ S.data.toList).2) ∧ ∃ fp', RD w' br fp' (s.write at_ S.data.toList).1 ∧ Keeps fp fp' w w' := by
  have hR := h
  obtain ⟨L, O, l, m, t, h, hfp⟩ := h
  unfold maxLen at _hS
  have c0 := h.c0
  have hn128 := h.wf.n128
  obtain ⟨gl, lcap, hLe, gl1, gl2, gl3, _⟩ := h.lform
  subst hLe
  have hszl : S.data.toList.length = S.size := by rw [Array.length_toList]; rfl
  by_cases hin : 0 ≤ at_ ∧ at_ < s.n
  · obtain ⟨a, rfl⟩ := Int.eq_ofNat_of_zero_le hin.1
    have ha : a < s.n := by omega
    have hge : ¬ (s.n : Int) ≤ (a : Int) := by omega
    by_cases h64 : S.size = 64
    · have Hsp := hidden (rdeed_any w br fp s hR (by omega))
      have hw1 : s.spend.1.writes < 2932031100000 := by rw [spend_writes]; exact hw
      have hn1 : s.spend.1.n = s.n := spend_n s
      have hon := spend_on h.wf
      have ewr : s.write (a : Int) S.data.toList = if s.spend.2 then (s.spend.1.add a S.data.toList, 0) else (s.spend.1, 4) := by
        unfold DS.write
        rw [if_pos hin, if_pos (by rw [hszl]; exact h64), Int.toNat_natCast]
      rw [ewr]
      have h64b : ((S.size : Int) != 64) = false := by rw [h64]; rfl
      have hd64 : S.data.toList.length = 64 := by rw [hszl]; exact h64
      clear h ewr hR hszl hfp
      have H64 := hidden h64
      clear h64
      generalize s.spend = r at *
      obtain ⟨s1, b⟩ := r
      dsimp only at hw1 hn1 Hsp hon ⊢
      cases b with
      | false =>
        rw [if_neg (by simp)]
        go_enter Try.func15, Try.ntmps15
        go_wp2_with fail
        refine Hsp.out.mono ?_
        rintro e w1 ⟨rfl, fp', hP, hK⟩
        go_wp2
        go_ret
        exact ⟨rfl, fp', hP, hK⟩
      | true =>
        rw [if_pos rfl]
        have hon1 := hon rfl
        clear hon
        go_enter Try.func15, Try.ntmps15
        go_wp2_with fail
        refine Hsp.out.mono ?_
        rintro e w1 ⟨rfl, fp', hP, hK⟩
        clear Hsp c0 h64b
        obtain ⟨L1, O1, l1, m1, t1, hP, rfl⟩ := hP
        have HK := hidden hK
        have c1 := hP.c1
        have c7 := hP.c7
        have z1 := hP.fz 1
        have z7 := hP.fz 7
        have bl := lt_of_block hP.hbr
        have hcnt := hP.wf.cnt
        obtain ⟨i0, hi, hz0, hz1, hz2⟩ := info_parts Try.info_Written
        have hown : (w1.alloc (.cells #[.int .i64 a, .string S] 69)).ownsRow 0 69 2 O1 s1.opn.length (rflat s1.opn) := hP.hO.alloc _
        have hnews : ∀ j u, [Value.int .i64 a, .string S][j]? = some u → (w1.alloc (.cells #[.int .i64 a, .string S] 69)).cell? ((⟨w1.heap.size, 0, none⟩ : Addr).add j) = some u :=
          World.news_of_block (cs := #[.int .i64 a, .string S]) (newB w1 _)
        have hone : ∀ u ∈ [Value.int .i64 a, .string S], u.oneCell' = true := by
          intro u hu
          rcases List.mem_cons.1 hu with rfl | hu
          · rfl
          · rw [List.mem_singleton.1 hu]; rfl
        have hObr : O1.ownBlock ≠ some br := by
          have := hP.nd
          simp only [List.nodup_cons, List.mem_append, Option.mem_toList, not_or] at this
          exact this.1.2
        have HP := hidden hP
        have Hown := hidden hown
        have Hnews := hidden hnews
        clear hP hK hown hnews
        go_wp2_with (first | (at_builtin; refine wpList_append_lies _ rfl (.tmp 30) (.tmp 34) 43 rfl 0 69 i0 zeroWritten 2 24 Try.underlying43 hi hz0 hz1 hz2 rfl (by decide) O1 s1.opn.length (rflat s1.opn) (by rfl) Hown.out ⟨w1.heap.size, 0, none⟩ 1 1 [.int .i64 a, .string S] (by rfl) rfl Hnews.out hone (by decide) (by unfold maxLen; omega) (by omega) (Nat.zero_le _) _ rfl ?_))
        intro g cap w2 hown2 hgrow hat hlt
        have e1 : w2.cell? ⟨br, 1, none⟩ = some O1 := (hgrow.cell_far ⟨br, 1, none⟩ (by simp; omega) (Ne.symm hObr)).trans (by rw [World.cell?_alloc_lt _ _ _ bl]; exact c1)
        have e7 : w2.cell? ⟨br, 7, none⟩ = some (.int .i64 s1.writes) := (hgrow.cell_far ⟨br, 7, none⟩ (by simp; omega) (Ne.symm hObr)).trans (by rw [World.cell?_alloc_lt _ _ _ bl]; exact c7)
        have ez1 : w2.frozen? ⟨br, 1, none⟩ = false := (hgrow.frozen_far ⟨br, 1, none⟩ (by simp; omega) (Ne.symm hObr)).trans (by rw [World.frozen?_alloc_past _ _ _ bl]; exact z1)
        have ez7 : w2.frozen? ⟨br, 7, none⟩ = false := (hgrow.frozen_far ⟨br, 7, none⟩ (by simp; omega) (Ne.symm hObr)).trans (by rw [World.frozen?_alloc_past _ _ _ bl]; exact z7)
        have hG2 : w1.grownBy w2 O1.ownBlock := (World.grownBy_alloc w1 _ _).trans hgrow
        have HC := hidden (rwrite_close HP.out hon1 a (by omega) S.data.toList hd64 hG2 g cap hown2 (either hat id (fun e => by rw [e]; simp)))
        clear hown2 hgrow hat hlt hG2 c1 c7 z1 z7 hi hz0 hz1 hz2
        go_wp2
        go_ret
        exact ⟨rfl, _, ⟨_, _, _, _, _, HC.out.1, rfl⟩, HK.out.trans HC.out.2⟩
    · have ewr : s.write (a : Int) S.data.toList = (s, 3) := by unfold DS.write; rw [if_pos hin, if_neg (by rw [hszl]; exact h64)]
      rw [ewr]
      have h64b : ((S.size : Int) != 64) = true := by simp; omega
      clear hszl hfp h64
      go_enter Try.func15, Try.ntmps15
      go_wp2
      go_ret
      exact ⟨rfl, fp, hR, Keeps.refl _ _⟩
  · have ewr : s.write at_ S.data.toList = (s, 2) := by unfold DS.write; rw [if_neg hin]
    rw [ewr]
    clear hszl hfp
    by_cases h0 : at_ < 0
    · go_enter Try.func15, Try.ntmps15
      go_wp2
      go_ret
      exact ⟨rfl, fp, hR, Keeps.refl _ _⟩
    · have hge : (s.n : Int) ≤ at_ := by omega
      go_enter Try.func15, Try.ntmps15
      go_wp2
      go_ret
      exact ⟨rfl, fp, hR, Keeps.refl _ _⟩

end Go.Proofs.YtdpeacdilgcloaaR
