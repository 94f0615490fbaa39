/- One element more for a row that a slice owns: what Go's append comes to, up to the room that it asks for. Own text. -/
import Derived.Test.YtdpeacdilgcloaaRLaws2
import Derived.Deep.RegionLaw
namespace Go.Proofs.YtdpeacdilgcloaaR
open Go.RowKit

/-- how much room Go asks for when one element more no longer fits -/
theorem next_one (cap : Nat) : Builtin.nextslicecap (cap + 1) cap ≤ cap + (cap + 768) / 4 + 256 := by
  unfold Builtin.nextslicecap
  split
  · omega
  · split
    · omega
    · unfold Builtin.growBy
      rw [if_neg (by omega)]
      unfold Builtin.growBy
      rw [if_pos (by omega)]
      omega

/-- one element is appended to a row that a slice owns, however long (so long as the room that Go asks for is below 2^48 bytes) -/
theorem run_append_one {P : Program} (w : World) (t ty e : TypeId) (i : TypeInfo) (z : Value) (ht : P.underlying t = some (.slice e)) (hi : P.info? e = some i) (hz : i.zero = some z) (hzs : z.cells.size = i.size)
    (v : Value) (n : Nat) (xs : List Value) (hown : w.ownsRow 0 e i.size v n xs) (ad : Addr) (c : Nat) (news : List Value) (hl : news.length = i.size)
    (hnews : ∀ j u, news[j]? = some u → w.cell? (ad.add j) = some u) (h1 : ∀ u ∈ news, u.oneCell' = true) (hn : n + 1 ≤ maxLen) (hroom : (n + (n + 768) / 4 + 256) * i.bytes ≤ 281474976710656) :
    ∃ g cap w', (Builtin.append_ #[t, t] ty #[v, .slice (some ad) 1 c]).run P w = .ok (.slice (some ⟨g, 0, none⟩) (n + 1) cap) w' ∧
      w'.ownsRow 0 e i.size (.slice (some ⟨g, 0, none⟩) (n + 1) cap) (n + 1) (xs ++ news) ∧ w.grownBy w' v.ownBlock ∧ (v.ownBlock = some g ∨ g = w.heap.size) := by
  have hl1 : news.length = 1 * i.size := by rw [Nat.one_mul]; exact hl
  have hnm : n + 1 ≤ 9223372036854775807 := by unfold maxLen at hn; omega
  have hlen : (xs ++ news).length = (n + 1) * i.size := by rw [List.length_append, hown.1, hl, Nat.add_mul, Nat.one_mul]
  have hbig : 1 * i.bytes ≤ 281474976710656 := Nat.le_trans (Nat.mul_le_mul_right _ (by omega)) hroom
  -- what a new row comes to
  have new : ∀ old, ∃ cap w', w' = w.drew.alloc (.cells (xs.toArray ++ news.toArray ++ Builtin.zeroCells z.cells (grownCap w (n + 1) old e - (n + 1))) e) ∧ cap = grownCap w (n + 1) old e ∧
      w'.ownsRow 0 e i.size (.slice (some ⟨w.heap.size, 0, none⟩) (n + 1) cap) (n + 1) (xs ++ news) ∧ ∀ row, w.grownBy w' row := by
    intro old
    refine ⟨_, _, rfl, rfl, ⟨hlen, .inr ⟨w.heap.size, _, _, rfl, Nat.zero_le _, newB w.drew _, grownCap_ge w (n + 1) old e, grownCap_le_maxLen w (n + 1) old e hn, ?_, ?_⟩⟩, fun row => ⟨rfl, rfl, rfl, by simp, fun k hk _ => oldB w.drew _ k hk⟩⟩
    · have hge := grownCap_ge w (n + 1) old e
      simp only [Array.size_append, List.size_toArray, size_zeroCells, hzs]
      rw [← List.length_append, hlen, ← Nat.add_mul]
      congr 1
      omega
    · rw [Array.toList_append, Array.toList_append, ← hlen]
      exact List.take_left
  rcases hown.2 with ⟨rfl, rfl⟩ | ⟨g, cap, cur, rfl, _, hg, hnc, hcm, hcs, htake⟩
  · obtain ⟨cap, w', rfl, rfl, a1, a2⟩ := new 0
    have hx : xs = [] := List.eq_nil_of_length_eq_zero (by rw [hown.1, Nat.zero_mul])
    subst hx
    have hr := run_append_nil (P := P) w t ty e i z ht hi hz ad 1 c news hl1 hnews (by omega) (by omega) hbig
    exact ⟨w.heap.size, _, _, by simpa using hr, a1, a2 _, .inr rfl⟩
  · by_cases hfit : n + 1 ≤ cap
    · have hsz : n * i.size + news.length ≤ cur.size := by
        rw [hl, hcs]
        have := Nat.mul_le_mul_right i.size hfit
        rw [Nat.add_mul, Nat.one_mul] at this
        exact this
      have hr := run_append_room (P := P) w t ty e i ht hi g n cap cur hg ad 1 c news hl1 hnews h1 hfit hsz
      refine ⟨g, cap, _, hr, ⟨hlen, .inr ⟨g, cap, _, rfl, Nat.zero_le _, setRow_heap w g cur _ e _ hg, hfit, hcm, ?_, ?_⟩⟩, ⟨rfl, rfl, rfl, by simp, fun k _ hk => setRow_other w g k _ (fun e => hk (by rw [e]; rfl))⟩, .inl rfl⟩
      · rw [← hcs]
        simp only [List.size_toArray, List.length_append, List.length_take, List.length_drop, Array.length_toList]
        omega
      · rw [htake, ← hlen]
        exact List.take_left
    · have hce : cap = n := by omega
      subst hce
      obtain ⟨cap', w', rfl, rfl, a1, a2⟩ := new cap
      have hr := run_append_grow (P := P) w t ty e i z ht hi hz ⟨g, 0, none⟩ cap cap xs hown.1 (hown.cells (g := g) rfl) ad 1 c news hl1 hnews (by omega) (by omega) (Nat.le_trans (Nat.mul_le_mul_right _ (next_one cap)) hroom)
      exact ⟨w.heap.size, _, _, hr, a1, a2 _, .inr rfl⟩

/-- .. at a step of a region that draws its order -/
theorem step_append_one {P : Program} {ops : Array Oper} {o : Oper} {a : Act} {w : World} {K : Act → World → Prop} {Q : Exit → Act → World → Prop} {E : Prop} (hgd : o.guard = none) (s x : Operand) (t : TypeId)
    (ho : o.op = .call { callee := .builtin .append, args := #[s, x], argTypes := #[t, t] }) (e : TypeId) (i : TypeInfo) (z : Value) (ht : P.underlying t = some (.slice e)) (hi : P.info? e = some i) (hz : i.zero = some z) (hzs : z.cells.size = i.size)
    (v : Value) (n : Nat) (xs : List Value) (hs : a.eval s = v) (hown : w.ownsRow 0 e i.size v n xs) (ad : Addr) (c : Nat) (news : List Value) (hx : a.eval x = .slice (some ad) 1 c) (hl : news.length = i.size)
    (hnews : ∀ j u, news[j]? = some u → w.cell? (ad.add j) = some u) (h1 : ∀ u ∈ news, u.oneCell' = true) (hn : n + 1 ≤ maxLen) (hroom : (n + (n + 768) / 4 + 256) * i.bytes ≤ 281474976710656)
    (h : ∀ g cap w', w'.ownsRow 0 e i.size (.slice (some ⟨g, 0, none⟩) (n + 1) cap) (n + 1) (xs ++ news) → w.grownBy w' v.ownBlock → (v.ownBlock = some g ∨ g = w.heap.size) → K (a.put o.dst (.slice (some ⟨g, 0, none⟩) (n + 1) cap)) w') :
    if Region.wanted o (yielded ops a.tmps) = true then Oper.wp P o a w K Q else E := by
  have hw : Region.wanted o (yielded ops a.tmps) = true := by simp [Region.wanted, hgd]
  rw [if_pos hw]
  obtain ⟨g, cap, w', hr, h2, h3, h4⟩ := run_append_one (P := P) w t o.type e i z ht hi hz hzs v n xs hown ad c news hl hnews h1 hn hroom
  unfold Oper.wp
  simp only [execOp, ho, resolve, invoke, builtin, Sem.run_bind, Sem.run_pure, Result.andThen_ok, List.map_toArray, List.map_cons, List.map_nil, hs, hx, hr]
  exact h g cap w' h2 h3 h4
end Go.Proofs.YtdpeacdilgcloaaR
