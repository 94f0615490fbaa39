/- The document's Check walked. Own text. -/
import Derived.Test.YtdpeacdilgcloaaRC2
namespace Go.Proofs.YtdpeacdilgcloaaR
open Go.RowKit

theorem checkP_none {S : List UInt8} (h : cutP S = none) : checkP S = 5 := by unfold checkP; rw [h]
theorem checkP_long {S : List UInt8} {l : List InsP} (h : cutP S = some l) (h2 : 200 < S.length) : checkP S = 5 := by unfold checkP; rw [h]; exact if_pos h2
theorem checkP_all {S : List UInt8} {l : List InsP} {m : Nat} (hm : S.length = m) (h : cutP S = some l) (h2 : ¬ 200 < m) (h3 : ∀ j (hj : j < l.length), goodP l m l[j] = true) : checkP S = 0 := by
  subst hm
  unfold checkP; rw [h]
  simp only [if_neg h2]
  rw [if_pos]
  rw [List.all_eq_true]
  intro x hx
  obtain ⟨j, hj, rfl⟩ := List.getElem_of_mem hx
  exact h3 j hj
theorem checkP_bad {S : List UInt8} {l : List InsP} {m : Nat} (hm : S.length = m) (h : cutP S = some l) (h2 : ¬ 200 < m) {j : Nat} (hj : j < l.length) (h3 : goodP l m l[j] = false) : checkP S = 5 := by
  subst hm
  unfold checkP; rw [h]
  simp only [if_neg h2]
  rw [if_neg]
  rw [List.all_eq_true]
  intro hall
  rw [hall _ (List.getElem_mem hj)] at h3
  cases h3

set_option maxRecDepth 100000 in
set_option maxHeartbeats 1000000 in
theorem rcheck_any (w : World) (S : ByteArray) (hS : S.size ≤ 1000000000000) :
    Calls Try.prog 12 #[.string S] w fun e w' => e = .returned (.int .i64 (checkP S.data.toList)) ∧ Keeps [] [] w w' := by
  have hszl : S.data.toList.length = S.size := by rw [Array.length_toList]; rfl
  have Hszl := hidden hszl
  clear hszl
  go_enter Try.func12, Try.ntmps12
  go_wp2_with fail
  refine (rcut_any w S hS).mono ?_
  rintro e w5 (⟨hcut, rfl, hk5⟩ | ⟨l, v, hcut, rfl, hown5, hlen, hk5⟩)
  · have HC := hidden (checkP_none hcut)
    have HK := hidden hk5
    clear hcut hk5
    by_cases hlong : 200 < S.size
    · have hlong' : (200 : Int) < (S.size : Int) := by omega
      go_wp2
      go_ret
      exact ⟨ret_int HC.out.symm, HK.out⟩
    · have hlong' : ¬ (200 : Int) < (S.size : Int) := by omega
      go_wp2
      go_ret
      exact ⟨ret_int HC.out.symm, HK.out⟩
  · by_cases hlong : 200 < S.size
    · have HC := hidden (checkP_long hcut (by rw [Hszl.out]; exact hlong))
      have HK := hidden (hk5.sub (fun _ h => by cases h) : Keeps [] [] w w5)
      have hlong' : (200 : Int) < (S.size : Int) := by omega
      clear hcut hk5 hown5
      go_wp2
      go_ret
      exact ⟨ret_int HC.out.symm, HK.out⟩
    · have hlong' : ¬ (200 : Int) < (S.size : Int) := by omega
      have HAll := hidden (fun h => checkP_all Hszl.out hcut hlong h)
      have HBad := hidden (fun j hj h => checkP_bad Hszl.out hcut hlong (j := j) hj h)
      obtain ⟨a, cap, rfl, _, _, ha⟩ := own_form hown5
      have HOwn5 := hidden hown5
      have HK5 := hidden hk5
      clear hcut hown5 hk5
      go_wp2
      go_loopw [5, 6, 7] (fun i _ _ wr => ∃ k : Nat, k ≤ l.length ∧ i = .int .i64 k ∧ (∀ j, j < k → ∀ hj : j < l.length, goodP l S.size l[j] = true) ∧ wr.ownsRow 0 61 3 (.slice a l.length cap) l.length (iflat l) ∧ Keeps [] [] w wr) (fun i _ _ _ => l.length - (intOf i).toNat)
      case atStart => exact ⟨0, Nat.zero_le _, rfl, fun j hj => by omega, HOwn5.out, HK5.out.sub (fun _ h => by cases h)⟩
      case round =>
        obtain ⟨k, hk, rfl, hgood, hown, hkp⟩ := hrel
        have HGood := hidden hgood
        have HOwn := hidden hown
        have HKp := hidden hkp
        clear hgood hown hkp
        by_cases hlt : k < l.length
        · obtain ⟨g, rfl⟩ := ha (by omega)
          obtain ⟨e0, e1, e2⟩ := own_ins HOwn.out k hlt
          have HBadk := hidden (HBad.out k hlt)
          have HNext : ∀ X, goodP l S.size l[k] = true → ∃ k' : Nat, k' ≤ l.length ∧ Value.int .i64 ((k : Int) + 1) = .int .i64 k' ∧ (∀ j, j < k' → ∀ hj : j < l.length, goodP l S.size l[j] = true) ∧ (wr.alloc X).ownsRow 0 61 3 (.slice (some ⟨g, 0, none⟩) l.length cap) l.length (iflat l) ∧ Keeps [] [] w (wr.alloc X) := by
            intro X hgk
            refine ⟨k + 1, by omega, rfl, ?_, HOwn.out.alloc X, (HKp.out.alloc X)⟩
            intro j hj hj2
            by_cases hjk : j = k
            · subst hjk; exact hgk
            · exact HGood.out j (by omega) hj2
          have HNextk := hidden HNext
          clear HNext
          have hfind : ∀ W' p, W'.ownsRow 0 61 3 (.slice (some ⟨g, 0, none⟩) l.length cap) l.length (iflat l) → Calls Try.prog 32 #[.slice (some ⟨g, 0, none⟩) l.length cap, .string S, .int .i64 p] W' fun e w' => e = .returned (.int .i64 (findP l S.size p)) ∧ W' = w' := fun W' p h => rfind_any W' _ l h S p (by omega)
          have HFind := hidden hfind
          clear hfind
          generalize hx : l[k] = x at *
          clear hx
          obtain ⟨what, place, n⟩ := x
          have e0' : wr.cell? ⟨g, k * 3, none⟩ = some (.int .i64 what) := e0
          have e1' : wr.cell? ⟨g, k * 3 + 1, none⟩ = some (.int .i64 place) := e1
          have e2' : wr.cell? ⟨g, k * 3 + 2, none⟩ = some (.int .i64 n) := e2
          clear e0 e1 e2
          by_cases hA : what = 13 ∨ what = 14 ∨ what = 15
          · have hg : goodP l S.size ⟨what, place, n⟩ = decide (0 ≤ findP l S.size n) := by unfold goodP; rw [if_pos hA]
            rw [hg] at HBadk HNextk
            clear hg
            by_cases hf : 0 ≤ findP l S.size n
            · rcases hA with rfl | rfl | rfl
              all_goals
                go_wp2_with fail
                refine (HFind.out _ _ (HOwn.out.alloc _)).mono ?_
                rintro e w6 ⟨rfl, rfl⟩
                go_wp2
                go_roundw
                case rel => exact HNextk.out _ (decide_eq_true hf)
                case measure => simp [intOf]; omega
            · have HF := hidden (decide_eq_false hf)
              have hfb : (!decide (0 ≤ findP l S.size n)) = true := by simpa using hf
              clear hf
              rcases hA with rfl | rfl | rfl
              all_goals
                go_wp2_with fail
                refine (HFind.out _ _ (HOwn.out.alloc _)).mono ?_
                rintro e w6 ⟨rfl, rfl⟩
                go_wp2
                go_ret
                exact ⟨ret_int (HBadk.out HF.out).symm, HKp.out.alloc _⟩
          · by_cases hB : what = 17 ∨ what = 18
            · have hg : goodP l S.size ⟨what, place, n⟩ = decide (n < 16) := by unfold goodP; rw [if_neg hA, if_pos hB]
              rw [hg] at HBadk HNextk
              clear hg hA
              by_cases hf : n < 16
              · have hf' : (n : Int) < 16 := by omega
                rcases hB with rfl | rfl
                all_goals
                  go_wp2
                  go_roundw
                  case rel => exact HNextk.out _ (decide_eq_true hf)
                  case measure => simp [intOf]; omega
              · have hf' : ¬ (n : Int) < 16 := by omega
                rcases hB with rfl | rfl
                all_goals
                  go_wp2
                  go_ret
                  exact ⟨ret_int (HBadk.out (decide_eq_false hf)).symm, HKp.out.alloc _⟩
            · by_cases hC : what = 21 ∨ what = 22 ∨ what = 23 ∨ what = 24
              · have hg : goodP l S.size ⟨what, place, n⟩ = decide (n < 4) := by unfold goodP; rw [if_neg hA, if_neg hB, if_pos hC]
                rw [hg] at HBadk HNextk
                clear hg hA hB
                by_cases hf : n < 4
                · have hf' : (n : Int) < 4 := by omega
                  rcases hC with rfl | rfl | rfl | rfl
                  all_goals
                    go_wp2
                    go_roundw
                    case rel => exact HNextk.out _ (decide_eq_true hf)
                    case measure => simp [intOf]; omega
                · have hf' : ¬ (n : Int) < 4 := by omega
                  rcases hC with rfl | rfl | rfl | rfl
                  all_goals
                    go_wp2
                    go_ret
                    exact ⟨ret_int (HBadk.out (decide_eq_false hf)).symm, HKp.out.alloc _⟩
              · have hg : goodP l S.size ⟨what, place, n⟩ = true := by unfold goodP; rw [if_neg hA, if_neg hB, if_neg hC]
                have n1 : ((what : Int) == 13) = false := by simp; omega
                have n2 : ((what : Int) == 14) = false := by simp; omega
                have n3 : ((what : Int) == 15) = false := by simp; omega
                have n4 : ((what : Int) == 17) = false := by simp; omega
                have n5 : ((what : Int) == 18) = false := by simp; omega
                have n6 : ((what : Int) == 21) = false := by simp; omega
                have n7 : ((what : Int) == 22) = false := by simp; omega
                have n8 : ((what : Int) == 23) = false := by simp; omega
                have n9 : ((what : Int) == 24) = false := by simp; omega
                have Hg := hidden hg
                clear hA hB hC hg
                go_wp2
                go_roundw
                case rel => exact HNextk.out _ Hg.out
                case measure => simp [intOf]; omega
        · have HA := hidden (HAll.out (fun j hj => HGood.out j (by omega) hj))
          go_wp2
          go_ret
          exact ⟨ret_int HA.out.symm, HKp.out⟩

end Go.Proofs.YtdpeacdilgcloaaR
