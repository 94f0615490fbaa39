/- The program's Check. Own text. -/
import Derived.Test.YtdpeacdilgcloaaRK3
import Derived.Deep.QuietTactic
import Derived.BigQuiet
namespace Go.Proofs.YtdpeacdilgcloaaR
open Go.RowKit

theorem checkP_over {S : List UInt8} (h : 200 < S.length) : checkP S = 5 := by
  cases hc : cutP S with
  | none => exact checkP_none hc
  | some l => exact checkP_long hc h

attribute [local go_sem ↓] allocM_eq loadM_eq storeM_eq

theorem good_short {s : List UInt8} {l : List InsP} {len k : Nat} (h : longP (byteAt s k) ≠ 2) : goodP l len (insAt s k) = true := by
  unfold goodP insAt
  unfold longP at h
  dsimp only
  split
  · simp_all
  · split
    · simp_all
    · split
      · simp_all
      · rfl
theorem Keeps.drewN' (w : World) : ∀ n, Keeps [] [] w (w.drewN n)
  | 0 => Keeps.refl _ _
  | n + 1 => (Keeps.drewN' w n).drew

/-- what holds as the instructions are looked at -/
structure Looked (w wr : World) (b : Nat) (s : List UInt8) (l : List InsP) (k : Nat) : Prop where
  at_ : ∃ j, j ≤ l.length ∧ k = placeOf l s.length j ∧ ∀ j', j' < j → ∀ hj : j' < l.length, goodP l s.length l[j'] = true
  ms : wr.heap[b]? = some (.cells (marksV (fun n => markAt l n || n == s.length)).toArray 71 (0, 0))
  kp : Keeps [] [] w wr

set_option maxRecDepth 100000 in
set_option maxHeartbeats 4000000 in
theorem scheck_any (w : World) (S : ByteArray) :
    Calls Try.prog 30 #[.string S] w fun e w' => e = .returned (.int .i64 (checkP S.data.toList)) ∧ Keeps [] [] w w' := by
  have hszl : S.data.toList.length = S.size := by rw [Array.length_toList]; rfl
  by_cases hlong : 200 < S.size
  · have HC := hidden (checkP_over (S := S.data.toList) (by rw [hszl]; exact hlong))
    have hlong' : (200 : Int) < (S.size : Int) := by omega
    clear hszl
    go_enter Try.func30, Try.ntmps30
    go_wp2
    go_ret
    exact ⟨ret_int HC.out.symm, Keeps.refl _ _⟩
  · have hlong' : ¬ (200 : Int) < (S.size : Int) := by omega
    have Hszl := hidden hszl
    clear hszl
    have ha := allocM_run
    go_enter Try.func30, Try.ntmps30
    go_wp2_with fail
    refine (parts_any w S (by omega)).mono ?_
    rintro e w5 (⟨hcut, rfl, hk5⟩ | ⟨l, hcut, rfl, hk5⟩)
    · have HC := hidden (checkP_none hcut)
      have HK := hidden hk5
      have hst := storeM_run (f := noMarks) (g := noMarks) (newB w5 (.cells (marksV noMarks).toArray 71))
      clear hcut hk5
      go_wp2
      go_ret
      exact ⟨ret_int HC.out.symm, (HK.out.alloc _).setCells (.inr HK.out.size) _ _⟩
    · have hch := chain_cut hcut
      have HAll := hidden (fun h => checkP_all Hszl.out hcut hlong h)
      have HBad := hidden (fun j hj h => checkP_bad Hszl.out hcut hlong (j := j) hj h)
      have hst := storeM_run (f := noMarks) (g := fun n => markAt l n || n == S.size) (newB w5 (.cells (marksV noMarks).toArray 71))
      have HK5 := hidden hk5
      have HF := hidden hch.facts
      have HG := hidden (fun x => fit_good hch (by rw [Hszl.out]; omega) x)
      rw [Hszl.out] at HF HG
      clear hcut hk5 hch
      go_wp2
      go_loopw [5] (fun i wr => ∃ k : Nat, i = .int .i64 k ∧ Looked w wr w5.heap.size S.data.toList l k) (fun i _ => S.size - (intOf i).toNat)
      case atStart =>
        refine ⟨0, rfl, ⟨⟨0, Nat.zero_le _, by rw [Hszl.out]; exact HF.out.1.symm, fun j' hj' => by omega⟩, ?_, (HK5.out.alloc _).setCells (.inr HK5.out.size) _ _⟩⟩
        rw [Hszl.out]
        exact whole_setCells' (newB w5 _) (by simp [marksV_len])
      case round =>
        obtain ⟨k, rfl, ⟨⟨j, hj, hkj, hgood⟩, hm, kp⟩⟩ := hrel
        rw [Hszl.out] at hkj hgood hm
        have HM := hidden hm
        have HKp := hidden kp
        have HGood := hidden hgood
        have hld := loadM_run hm
        clear hm kp hgood
        by_cases hlt : k < S.size
        · have hjl : j < l.length := by
            rcases Nat.lt_or_ge j l.length with h | h
            · exact h
            · rw [placeOf_end h] at hkj; omega
          obtain ⟨h1, h2, h3, h4⟩ := HF.out.2 j hjl
          rw [← hkj] at h1 h2 h3 h4
          have Hby := hidden (byte_of S k hlt)
          have HBadj := hidden (HBad.out j hjl)
          have HNext : Hid (∀ W n, goodP l S.size l[j] = true → W.heap[w5.heap.size]? = wr.heap[w5.heap.size]? → Keeps [] [] wr W → n = longP (byteAt S.data.toList k) → ∃ k' : Nat, Value.int .i64 ((k : Int) + (n : Int)) = .int .i64 k' ∧ Looked w W w5.heap.size S.data.toList l k') := by
            intro W n hg hW hKW hn
            subst hn
            refine ⟨k + longP (byteAt S.data.toList k), by simp, ⟨⟨j + 1, hjl, by rw [Hszl.out]; exact h4.symm, ?_⟩, by rw [hW, Hszl.out]; exact HM.out, HKp.out.trans hKW⟩⟩
            rw [Hszl.out]
            intro j' hj' hj2
            by_cases e : j' = j
            · subst e; exact hg
            · exact HGood.out j' (by omega) hj2
          have HFit := hidden (HG.out l[j])
          have hle : k + longP (byteAt S.data.toList k) ≤ S.size := by
            rw [← h4]
            rcases Nat.lt_or_ge (j + 1) l.length with h | h
            · have := (HF.out.2 (j + 1) h).2.2.1; omega
            · rw [placeOf_end h]; exact Nat.le_refl _
          have hsz := size_long _ h2
          rw [h1] at HFit HBadj HNext
          clear h1 h3 h4 HGood HBad HAll HF HG hkj
          by_cases hl2 : longP (byteAt S.data.toList k) = 2
          · have hk1 : k + 1 < S.size := by omega
            have hwr : IntKind.i64.wrap ((k : Int) + 1) = ((k + 1 : Nat) : Int) := by rw [IntKind.wrap_i64]; omega
            have HSz : Hid (∀ W, Calls Try.prog 42 #[.int .u8 (S[k].toNat : Int)] W fun e w' => e = .returned (.int .i64 2) ∧ W = w') := by
              intro W
              rw [Hby.out]
              have := size_any (byteAt S.data.toList k) W
              rw [hsz, hl2] at this
              exact this
            have hb2 := byte_of S (k + 1) hk1
            have hb2l := byte_lt S.data.toList (k + 1)
            have hwr2 : IntKind.i64.wrap (S[k + 1].toNat : Int) = (S[k + 1].toNat : Int) := by rw [IntKind.wrap_i64]; omega
            have hld' : (loadM (.pointer (some ⟨w5.heap.size, 0, none⟩))).run Try.prog wr.drew = _ := loadM_run (w := wr.drew) HM.out
            have hwh : (insAt S.data.toList k).what = byteAt S.data.toList k := rfl
            have hin : (insAt S.data.toList k).n = byteAt S.data.toList (k + 1) := by show (if _ then _ else _) = _; rw [if_pos hl2]
            have HFits : Hid (Calls Try.prog 43 #[.int .u8 (S[k].toNat : Int), .int .i64 (S[k + 1].toNat : Int), .agg (marksV (fun n => markAt l n || n == S.size)).toArray] wr.drew fun e w' =>
                e = .returned (.bool (goodP l S.size (insAt S.data.toList k))) ∧ w' = wr.drew.alloc (.cells (marksV (fun n => markAt l n || n == S.size)).toArray 71)) := by
              have := fits_any (byteAt S.data.toList k) (byteAt S.data.toList (k + 1)) (fun n => markAt l n || n == S.size) wr.drew
              rw [← hwh, ← hin, HFit.out, hwh, hin, ← Hby.out, ← hb2] at this
              exact this
            have Hl2 := hidden hl2
            clear hst hb2 hb2l hwh hin HFit hl2 hle hsz h2
            cases hg : goodP l S.size (insAt S.data.toList k) with
            | true =>
              have Hg := hidden hg
              rw [hg] at HFits
              clear HBadj hg
              go_wp2
              go_region_with (first | (go_at_call 42; refine (HSz.out _).mono ?_; rintro e w6 ⟨rfl, rfl⟩) | (go_at_call 43; refine HFits.out.mono ?_; rintro e w6 ⟨rfl, rfl⟩))
              all_goals
                go_wp2_with fail
                refine (HSz.out _).mono ?_
                rintro e w6 ⟨rfl, rfl⟩
                go_wp2
                go_roundw
                case rel => exact HNext.out _ 2 Hg.out (oldB wr _ _ (lt_of_block HM.out)) ((Keeps.refl _ _).alloc _).drew Hl2.out.symm
                case measure => simp [intOf]; omega
            | false =>
              have HC := hidden (HBadj.out hg)
              rw [hg] at HFits
              clear HNext HBadj hg
              go_wp2
              go_region_with (first | (go_at_call 42; refine (HSz.out _).mono ?_; rintro e w6 ⟨rfl, rfl⟩) | (go_at_call 43; refine HFits.out.mono ?_; rintro e w6 ⟨rfl, rfl⟩))
              all_goals
                go_wp2
                go_ret
                exact ⟨ret_int HC.out.symm, HKp.out.drew.alloc _⟩
          · have hlp := longP_le (byteAt S.data.toList k)
            have HSz : Hid (∀ W, Calls Try.prog 42 #[.int .u8 (S[k].toNat : Int)] W fun e w' => e = .returned (.int .i64 1) ∧ w' = W) := by
              intro W
              rw [Hby.out]
              have := size_any (byteAt S.data.toList k) W
              have h3 := longP_le (byteAt S.data.toList k)
              rw [hsz, show longP (byteAt S.data.toList k) = 1 by omega] at this
              exact this.mono fun _ _ h => ⟨h.1, h.2.symm⟩
            clear hst
            go_wp2
            go_quiet ((go_at_call 42; exact Calls.quiet_of_same (HSz.out _)))
            go_wp2_with fail
            refine (HSz.out _).mono ?_
            rintro e w6 ⟨rfl, rfl⟩
            go_wp2
            go_roundw
            case rel => exact HNext.out _ 1 (good_short hl2) rfl (Keeps.drewN' _ _) (by omega)
            case measure => simp [intOf]; omega
        · have hje : j = l.length := by
            rcases Nat.lt_or_ge j l.length with h | h
            · have := (HF.out.2 j h).2.2.1
              rw [← hkj] at this
              omega
            · omega
          have HA := hidden (HAll.out (fun j' hj' => HGood.out j' (by omega) hj'))
          have hlt' : ¬ (k : Int) < (S.size : Int) := by omega
          clear HBad HF HG hkj hst HGood
          go_wp2
          go_ret
          exact ⟨ret_int HA.out.symm, HKp.out⟩

set_option maxRecDepth 100000 in
theorem pcheck_any (w : World) (S : ByteArray) (_hS : S.size ≤ 1000000000000) :
    Calls Try.prog 10 #[.string S] w fun e w' => e = .returned (.int .i64 (checkP S.data.toList)) ∧ Keeps [] [] w w' := by
  go_enter Try.func10, Try.ntmps10
  go_wp2_with fail
  refine (scheck_any w S).mono ?_
  rintro e w5 ⟨rfl, hk⟩
  go_wp2
  go_ret
  exact ⟨rfl, hk⟩

end Go.Proofs.YtdpeacdilgcloaaR
