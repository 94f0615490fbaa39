/- The document's disk: its parts in memory; On, Writes, Read, Fuse. Own text. -/
import Derived.Test.YtdpeacdilgcloaaRLaws2
import Derived.Test.YtdpeacdilgcloaaRW3
namespace Go.Proofs.YtdpeacdilgcloaaR
open Go.RowKit

section
variable {w : World} {br : Nat} {L O : Value} {l m t : Int} {s : DS}
theorem RDx.c0 (h : RDx w br L O l m t s) : w.cell? ⟨br, 0, none⟩ = some L := by rw [cell_of_row w br 0 _ _ _ h.hbr]; rfl
theorem RDx.c1 (h : RDx w br L O l m t s) : w.cell? ⟨br, 1, none⟩ = some O := by rw [cell_of_row w br 1 _ _ _ h.hbr]; rfl
theorem RDx.c2 (h : RDx w br L O l m t s) : w.cell? ⟨br, 2, none⟩ = some (.bool s.on) := by rw [cell_of_row w br 2 _ _ _ h.hbr]; rfl
theorem RDx.c3 (h : RDx w br L O l m t s) : w.cell? ⟨br, 3, none⟩ = some (.bool s.fuse.isSome) := by rw [cell_of_row w br 3 _ _ _ h.hbr]; rfl
theorem RDx.c4 (h : RDx w br L O l m t s) : w.cell? ⟨br, 4, none⟩ = some (.int .i64 l) := by rw [cell_of_row w br 4 _ _ _ h.hbr]; rfl
theorem RDx.c5 (h : RDx w br L O l m t s) : w.cell? ⟨br, 5, none⟩ = some (.int .i64 m) := by rw [cell_of_row w br 5 _ _ _ h.hbr]; rfl
theorem RDx.c6 (h : RDx w br L O l m t s) : w.cell? ⟨br, 6, none⟩ = some (.int .i64 t) := by rw [cell_of_row w br 6 _ _ _ h.hbr]; rfl
theorem RDx.c7 (h : RDx w br L O l m t s) : w.cell? ⟨br, 7, none⟩ = some (.int .i64 s.writes) := by rw [cell_of_row w br 7 _ _ _ h.hbr]; rfl
theorem RDx.fz (h : RDx w br L O l m t s) (k : Nat) : w.frozen? ⟨br, k, none⟩ = false := frozen_of_row w br k _ _ h.hbr

theorem RDx.lform (h : RDx w br L O l m t s) : ∃ gl cap, L = .slice (some ⟨gl, 0, none⟩) s.n cap ∧ gl ≠ br ∧ O.ownBlock ≠ some gl ∧ gl < w.heap.size ∧ w.frozen? ⟨gl, 0, none⟩ = false := by
  have := h.wf.n48
  rcases h.hL.2 with ⟨h1, h2⟩ | ⟨g, cap, cur, h1, _, hg, _⟩
  · omega
  · subst h1
    have hnd := h.nd
    rw [show (Value.slice (some ⟨g, 0, none⟩) s.n cap).ownBlock = some g from rfl] at hnd
    simp only [List.nodup_cons, List.mem_append, Option.mem_toList, not_or] at hnd
    refine ⟨g, cap, rfl, fun e => hnd.1.1 (by rw [e]), fun e => ?_, lt_of_block hg, frozen_of_row w g 0 _ _ hg⟩
    have := (List.nodup_append.1 hnd.2).2.2
    exact this g (by simp) g (by simp [e]) rfl
theorem RDx.oform (h : RDx w br L O l m t s) : ∃ oa cap, O = .slice oa s.opn.length cap := by
  rcases h.hO.2 with ⟨h1, h2⟩ | ⟨g, cap, cur, h1, _⟩
  · exact ⟨none, 0, by rw [h1, h2]⟩
  · exact ⟨_, cap, h1⟩
theorem RDx.oblock {oa : Option Addr} {cap : Nat} (h : RDx w br L (.slice oa s.opn.length cap) l m t s) (hp : 0 < s.opn.length) : ∃ g, oa = some ⟨g, 0, none⟩ ∧ g ≠ br ∧ g < w.heap.size := by
  rcases h.hO.2 with ⟨h1, h2⟩ | ⟨g, cap, cur, h1, _, hg, _⟩
  · omega
  · injection h1 with h1
    subst h1
    have hnd := h.nd
    simp only [List.nodup_cons, List.mem_append, Option.mem_toList, Value.ownBlock, not_or] at hnd
    exact ⟨g, rfl, fun e => hnd.1.2 (by rw [e]), lt_of_block hg⟩
end

theorem own_strs {w : World} {g n cap : Nat} {base : Nat} {e : TypeId} {ls : List (List UInt8)} (h : w.ownsRow base e 1 (.slice (some ⟨g, 0, none⟩) n cap) n (ls.map str)) (k : Nat) (hk : k < ls.length) : w.cell? ⟨g, k, none⟩ = some (str ls[k]) := by
  have hc := h.cells (g := g) rfl k (str ls[k]) (by simp [hk])
  rw [Addr.add_mid] at hc
  simpa using hc
theorem own_fz {w : World} {g n cap : Nat} {base : Nat} {e : TypeId} {size : Nat} {xs : List Value} (h : w.ownsRow base e size (.slice (some ⟨g, 0, none⟩) n cap) n xs) (k : Nat) : w.frozen? ⟨g, k, none⟩ = false := by
  rcases h.2 with ⟨h1, _⟩ | ⟨g', cap', cur, h1, _, hg, _⟩
  · cases h1
  · injection h1 with h1 _ _
    injection h1 with h1
    injection h1 with h1
    subst h1
    exact frozen_of_row w g k _ _ hg
theorem rcells_len (x : Nat × List UInt8) : (rcells x).length = 2 := rfl
theorem own_pairs {w : World} {g n cap : Nat} {base : Nat} {e : TypeId} {ls : List (Nat × List UInt8)} (h : w.ownsRow base e 2 (.slice (some ⟨g, 0, none⟩) n cap) n (rflat ls)) (k : Nat) (hk : k < ls.length) :
    w.cell? ⟨g, k * 2, none⟩ = some (.int .i64 ls[k].1) ∧ w.cell? ⟨g, k * 2 + 1, none⟩ = some (str ls[k].2) := by
  have hr := range_own (f := rcells) h k hk (fun _ _ => rfl)
  exact ⟨hr 0 _ rfl, hr 1 _ rfl⟩

/-- a cell of a row of strings is written -/
theorem own_set {w : World} {g n cap : Nat} {base : Nat} {e : TypeId} {ls : List (List UInt8)} (h : w.ownsRow base e 1 (.slice (some ⟨g, 0, none⟩) n cap) n (ls.map str)) (k : Nat) (d : List UInt8) :
    (w.setCell ⟨g, k, none⟩ (str d)).ownsRow base e 1 (.slice (some ⟨g, 0, none⟩) n cap) n ((ls.set k d).map str) := by
  have hl := h.1
  refine ⟨by simpa using hl, ?_⟩
  rcases h.2 with ⟨h1, _⟩ | ⟨g', cap', cur, h1, hb, hg, hn, hc, hs, ht⟩
  · cases h1
  · injection h1 with h1 _ h3
    injection h1 with h1
    injection h1 with h1
    subst h1; subst h3
    by_cases hk : k < n
    · refine .inr ⟨g, cap, cur.setIfInBounds k (str d), rfl, hb, heap_setCell_same _ _ _ _ _ _ hg, hn, hc, by simpa using hs, ?_⟩
      rw [Nat.mul_one] at ht ⊢
      rw [Array.toList_setIfInBounds, List.take_set, ht, List.map_set]
    · refine .inr ⟨g, cap, cur.setIfInBounds k (str d), rfl, hb, heap_setCell_same _ _ _ _ _ _ hg, hn, hc, by simpa using hs, ?_⟩
      rw [Nat.mul_one] at ht ⊢
      rw [Array.toList_setIfInBounds, List.take_set, ht, List.map_set]

theorem ron_any (w : World) (br : Nat) (b : Bool) (h : w.cell? ⟨br, 2, none⟩ = some (.bool b)) :
    Calls Try.prog 24 #[.pointer (some ⟨br, 0, none⟩)] w fun e w' => e = .returned (.bool b) ∧ w = w' := by
  go_enter Try.func24, Try.ntmps24
  go_wp2
  go_ret
  exact ⟨rfl, rfl⟩

theorem rwrites_any (w : World) (br : Nat) (n : Int) (h : w.cell? ⟨br, 7, none⟩ = some (.int .i64 n)) :
    Calls Try.prog 26 #[.pointer (some ⟨br, 0, none⟩)] w fun e w' => e = .returned (.int .i64 n) ∧ w = w' := by
  go_enter Try.func26, Try.ntmps26
  go_wp2
  go_ret
  exact ⟨rfl, rfl⟩

theorem rread_step (s : DS) (a k : Nat) (hk : k < s.opn.length) (ha : a < (syncTo s k).length) : (syncTo s (k + 1)).getD a [] = if s.opn[k].1 = a then s.opn[k].2 else (syncTo s k).getD a [] := by
  rw [syncTo_succ s k hk, List.getD_eq_getElem?_getD, List.getElem?_set]
  by_cases h : s.opn[k].1 = a
  · simp [h, ha]
  · simp [h]

set_option maxRecDepth 100000 in
set_option maxHeartbeats 1000000 in
theorem rread_any (w : World) (br : Nat) (L O : Value) (l m t : Int) (s : DS) (h : RDx w br L O l m t s) (at_ : Int) (hw : s.writes ≤ 4000000000000) :
    Calls Try.prog 18 #[.pointer (some ⟨br, 0, none⟩), .int .i64 at_] w fun e w' => e = .returned (.tuple #[str (s.read at_).1, .int .i64 (s.read at_).2]) ∧ w = w' := by
  have c0 := h.c0
  have c1 := h.c1
  have c2 := h.c2
  have hn128 := h.wf.n128
  have hcnt := h.wf.cnt
  obtain ⟨gl, lcap, hLe, _⟩ := h.lform
  subst hLe
  by_cases hin : 0 ≤ at_ ∧ at_ < s.n
  · obtain ⟨a, rfl⟩ := Int.eq_ofNat_of_zero_le hin.1
    have ha : a < s.n := by omega
    have hge : ¬ (s.n : Int) ≤ (a : Int) := by omega
    cases hon : s.on with
    | false =>
      have hrd : s.read (a : Int) = ([], 4) := by unfold DS.read; rw [if_pos hin, if_neg (by rw [hon]; simp)]
      rw [hrd]
      rw [hon] at c2
      go_enter Try.func18, Try.ntmps18
      go_wp2
      go_ret2
      exact ⟨rfl, rfl⟩
    | true =>
      rw [hon] at c2
      have hrd : s.read (a : Int) = ((syncTo s s.opn.length).getD a [], 0) := by unfold DS.read; rw [if_pos hin, if_pos hon, Int.toNat_natCast]; rfl
      rw [hrd]
      obtain ⟨oa, ocap, hOe⟩ := h.oform
      subst hOe
      have hll : a < s.last.length := by rw [h.wf.len]; exact ha
      have cl := own_strs h.hL a hll
      have HR := hidden (fun k hk => rread_step s a k hk (by rw [syncTo_len]; exact hll))
      have H0 : Hid ((syncTo s 0).getD a [] = s.last[a]) := by
        show s.last.getD a [] = _
        rw [List.getD_eq_getElem?_getD, List.getElem?_eq_getElem hll]; rfl
      have HO := hidden h.hO
      have Hb := hidden h
      clear h hrd hon
      generalize s.last[a] = d0 at *
      go_enter Try.func18, Try.ntmps18
      go_wp2
      go_loop [6, 7] (fun v i => ∃ k : Nat, k ≤ s.opn.length ∧ i = .int .i64 k ∧ v = str ((syncTo s k).getD a [])) (fun _ i => s.opn.length - (intOf i).toNat)
      case atStart => exact ⟨0, Nat.zero_le _, rfl, by rw [H0.out]⟩
      case round =>
        obtain ⟨k, hk, rfl, rfl⟩ := hrel
        by_cases hlt : k < s.opn.length
        · obtain ⟨g, rfl, g1, g2⟩ := Hb.out.oblock (by omega)
          obtain ⟨e1, e2⟩ := own_pairs HO.out k hlt
          have HRk := hidden (HR.out k hlt)
          generalize s.opn[k] = x at *
          obtain ⟨x1, x2⟩ := x
          dsimp only at e1 e2 HRk
          by_cases hx : x1 = a
          · have hxb : ((x1 : Int) == (a : Int)) = true := by simp [hx]
            have HX := hidden hx
            clear hx
            go_wp2
            go_round
            case rel => exact ⟨k + 1, by omega, by go_num, by rw [HRk.out, if_pos HX.out]⟩
            case measure => simp [intOf]; omega
          · have hxb : ((x1 : Int) == (a : Int)) = false := by simp; omega
            have HX := hidden hx
            clear hx
            go_wp2
            go_round
            case rel => exact ⟨k + 1, by omega, by go_num, by rw [HRk.out, if_neg HX.out]⟩
            case measure => simp [intOf]; omega
        · have hke : k = s.opn.length := by omega
          subst hke
          go_wp2
          go_ret2
          exact ⟨rfl, rfl⟩
  · have hrd : s.read at_ = ([], 2) := by unfold DS.read; rw [if_neg hin]
    rw [hrd]
    by_cases h0 : at_ < 0
    · go_enter Try.func18, Try.ntmps18
      go_wp2
      go_ret2
      exact ⟨rfl, rfl⟩
    · have hge : (s.n : Int) ≤ at_ := by omega
      go_enter Try.func18, Try.ntmps18
      go_wp2
      go_ret2
      exact ⟨rfl, rfl⟩

end Go.Proofs.YtdpeacdilgcloaaR
