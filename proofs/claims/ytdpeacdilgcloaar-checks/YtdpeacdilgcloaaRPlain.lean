/- Plain facts on rows of equal parts, on blocks that are known whole, and on the plain disk. Own text. -/
import Derived.Test.YtdpeacdilgcloaaRBase
namespace Go.Proofs.YtdpeacdilgcloaaR
open Go.RowKit

/-! ### Rows of equal parts -/
section
variable {α : Type} {f : α → List Value} {m : Nat}

theorem chunk_len : ∀ (L : List α), (∀ x ∈ L, (f x).length = m) → (L.flatMap f).length = L.length * m
  | [], _ => by simp
  | x :: L, h => by
    rw [List.flatMap_cons, List.length_append, h x (by simp), chunk_len L (fun y hy => h y (by simp [hy])), List.length_cons, Nat.add_mul]
    omega

theorem chunk_take : ∀ (L : List α) (k : Nat), (∀ x ∈ L, (f x).length = m) → (L.flatMap f).take (k * m) = (L.take k).flatMap f
  | [], k, _ => by simp
  | x :: L, 0, _ => by simp
  | x :: L, k + 1, h => by
    have hx := h x (by simp)
    rw [List.flatMap_cons, List.take_succ_cons, List.flatMap_cons, ← chunk_take L k (fun y hy => h y (by simp [hy])), List.take_append, hx,
      List.take_of_length_le (by rw [hx, Nat.add_mul]; omega), show (k + 1) * m - m = k * m by rw [Nat.add_mul]; omega]

theorem chunk_drop : ∀ (L : List α) (k : Nat), (∀ x ∈ L, (f x).length = m) → (L.flatMap f).drop (k * m) = (L.drop k).flatMap f
  | [], k, _ => by simp
  | x :: L, 0, _ => by simp
  | x :: L, k + 1, h => by
    have hx := h x (by simp)
    rw [List.flatMap_cons, List.drop_succ_cons, ← chunk_drop L k (fun y hy => h y (by simp [hy])), List.drop_append, hx,
      List.drop_of_length_le (by rw [hx, Nat.add_mul]; omega), show (k + 1) * m - m = k * m by rw [Nat.add_mul]; omega, List.nil_append]

theorem chunk_get (L : List α) (k : Nat) (hk : k < L.length) (h : ∀ x ∈ L, (f x).length = m) (j : Nat) (hj : j < m) : (L.flatMap f)[k * m + j]? = (f L[k])[j]? := by
  have h1 : (L.flatMap f)[k * m + j]? = ((L.flatMap f).drop (k * m))[j]? := by rw [List.getElem?_drop]
  rw [h1, chunk_drop L k h, List.drop_eq_getElem_cons hk, List.flatMap_cons, List.getElem?_append_left (by rw [h _ (List.getElem_mem hk)]; exact hj)]

theorem chunk_set (L : List α) (k : Nat) (hk : k < L.length) (h : ∀ x ∈ L, (f x).length = m) (y : α) :
    (L.set k y).flatMap f = (L.flatMap f).take (k * m) ++ (f y ++ (L.flatMap f).drop (k * m + m)) := by
  rw [List.set_eq_take_append_cons_drop, if_pos hk, List.flatMap_append, List.flatMap_cons, chunk_take L k h, show k * m + m = (k + 1) * m by rw [Nat.add_mul]; omega, chunk_drop L (k + 1) h]
end

theorem cellsB_len (d : List UInt8) : (cellsB d).length = d.length := by simp [cellsB]
theorem wcells_len (x : Nat × List UInt8) : (wcells x).length = x.2.length + 1 := by simp [wcells, cellsB_len]

/-! ### Blocks that are known whole -/
theorem range_block {w : World} {b : Nat} {C : List Value} {t : TypeId} {fr : Nat × Nat} (hb : w.heap[b]? = some (.cells C.toArray t fr)) (o : Nat) (cs : List Value)
    (h : ∀ j v, cs[j]? = some v → C[o + j]? = some v) : w.rangeAt b o cs := fun j v hv => by
  rw [cell_of_row w b (o + j) C.toArray t fr hb]
  simpa using h j v hv

theorem there_block {w : World} {b : Nat} {C : List Value} {t : TypeId} (hb : w.heap[b]? = some (.cells C.toArray t (0, 0))) (o n : Nat) (h : o + n ≤ C.length) : w.there b o n := fun j hj => by
  rw [cell_of_row w b (o + j) C.toArray t (0, 0) hb, frozen_of_row w b (o + j) C.toArray t hb]
  refine ⟨?_, rfl⟩
  simp; omega

theorem block_setCells (b : Nat) (t : TypeId) : ∀ (vs : List Value) (o : Nat) (C : List Value) (w : World), w.heap[b]? = some (.cells C.toArray t (0, 0)) → o + vs.length ≤ C.length →
    (w.setCells b o vs).heap[b]? = some (.cells (C.take o ++ (vs ++ C.drop (o + vs.length))).toArray t (0, 0))
  | [], o, C, w, h, _ => by simpa [World.setCells] using h
  | v :: r, o, C, w, h, hl => by
    simp only [List.length_cons] at hl
    rw [World.setCells, block_setCells b t r (o + 1) (C.set o v) _ (by rw [heap_setCell_same w b o C.toArray t v h]; simp) (by simp; omega)]
    congr 2
    congr 1
    rw [List.set_eq_take_append_cons_drop, if_pos (by omega)]
    have h1 : (C.take o ++ v :: C.drop (o + 1)).take (o + 1) = C.take o ++ [v] := by
      rw [List.take_append, List.take_of_length_le (by simp; omega)]
      simp [Nat.min_eq_left (show o ≤ C.length by omega), show o + 1 - o = 1 by omega]
    have h2 : (C.take o ++ v :: C.drop (o + 1)).drop (o + 1 + r.length) = C.drop (o + (r.length + 1)) := by
      rw [List.drop_append, List.drop_of_length_le (by simp; omega)]
      simp only [List.length_take, Nat.min_eq_left (show o ≤ C.length by omega), List.nil_append]
      rw [show o + 1 + r.length - o = r.length + 1 by omega, List.drop_succ_cons, List.drop_drop]
      congr 1; omega
    rw [h1, h2]
    simp

theorem block_setCells_chunk {α : Type} {f : α → List Value} {m : Nat} (w : World) (b : Nat) (t : TypeId) (L : List α) (k : Nat) (hk : k < L.length) (h : ∀ x ∈ L, (f x).length = m) (y : α) (hy : (f y).length = m)
    (hb : w.heap[b]? = some (.cells (L.flatMap f).toArray t (0, 0))) : (w.setCells b (k * m) (f y)).heap[b]? = some (.cells ((L.set k y).flatMap f).toArray t (0, 0)) := by
  have hl := chunk_len L h
  have hkm : k * m + m ≤ L.length * m := by
    have := Nat.mul_le_mul_right m (show k + 1 ≤ L.length by omega)
    rw [Nat.add_mul] at this; omega
  rw [block_setCells b t (f y) (k * m) _ w hb (by rw [hl, hy]; exact hkm), chunk_set L k hk h y, hy]

theorem range_chunk {α : Type} {f : α → List Value} {m : Nat} {w : World} {b : Nat} {t : TypeId} {fr : Nat × Nat} {L : List α} (hb : w.heap[b]? = some (.cells (L.flatMap f).toArray t fr)) (k : Nat) (hk : k < L.length)
    (h : ∀ x ∈ L, (f x).length = m) : w.rangeAt b (k * m) (f L[k]) :=
  range_block hb _ _ fun j v hv => by
    have hj : j < m := by rw [← h _ (List.getElem_mem hk)]; exact (List.getElem?_eq_some_iff.1 hv).1
    rw [chunk_get L k hk h j hj]; exact hv

/-- a part of a row that a slice owns -/
theorem range_own {α : Type} {f : α → List Value} {m : Nat} {w : World} {base : Nat} {e : TypeId} {g n cap : Nat} {L : List α} (ho : w.ownsRow base e m (.slice (some ⟨g, 0, none⟩) n cap) n (L.flatMap f)) (k : Nat) (hk : k < L.length)
    (h : ∀ x ∈ L, (f x).length = m) : w.rangeAt g (k * m) (f L[k]) := fun j v hv => by
  have hj : j < m := by rw [← h _ (List.getElem_mem hk)]; exact (List.getElem?_eq_some_iff.1 hv).1
  have hc := ho.cells (g := g) rfl (k * m + j) v (by rw [chunk_get L k hk h j hj]; exact hv)
  rw [Addr.add_mid] at hc
  simpa using hc

/-! ### What the writes come to -/
theorem goTo_len (f : Nat → Nat × List UInt8 → List (List UInt8) → List (List UInt8)) (hf : ∀ i x l, (f i x l).length = l.length) (o : List (Nat × List UInt8)) (l : List (List UInt8)) : ∀ k, (goTo f o l k).length = l.length
  | 0 => rfl
  | k + 1 => by rw [goTo, hf, goTo_len f hf o l k]

theorem goTo_sec (f : Nat → Nat × List UInt8 → List (List UInt8) → List (List UInt8)) (o : List (Nat × List UInt8)) (l : List (List UInt8)) (hl : ∀ d ∈ l, d.length = 64)
    (hf : ∀ i x l, x ∈ o → (∀ d ∈ l, d.length = 64) → ∀ d ∈ f i x l, d.length = 64) : ∀ k, k ≤ o.length → ∀ d ∈ goTo f o l k, d.length = 64
  | 0, _ => hl
  | k + 1, h => by
    rw [goTo]
    refine hf k _ _ ?_ (goTo_sec f o l hl hf k (by omega))
    rw [List.getD_eq_getElem?_getD, List.getElem?_eq_getElem (by omega)]
    exact List.getElem_mem _

theorem goTo_app (f : Nat → Nat × List UInt8 → List (List UInt8) → List (List UInt8)) (o : List (Nat × List UInt8)) (x : Nat × List UInt8) (l : List (List UInt8)) : ∀ k, k ≤ o.length → goTo f (o ++ [x]) l k = goTo f o l k
  | 0, _ => rfl
  | k + 1, h => by
    rw [goTo, goTo, goTo_app f o x l k (by omega)]
    congr 1
    rw [List.getD_eq_getElem?_getD, List.getD_eq_getElem?_getD, List.getElem?_append_left (by omega)]

theorem syncTo_len (s : DS) (k : Nat) : (syncTo s k).length = s.last.length := goTo_len _ (fun _ _ _ => by simp) _ _ k
theorem failTo_len (s : DS) (m t : Int) (k : Nat) : (failTo s m t k).length = s.last.length := goTo_len _ (fun _ _ _ => by simp [lay]) _ _ k
theorem now_len (s : DS) : s.now.length = s.last.length := syncTo_len s _

theorem syncTo_sec {s : DS} (h : s.Wf) (k : Nat) (hk : k ≤ s.opn.length) : ∀ d ∈ syncTo s k, d.length = 64 :=
  goTo_sec _ _ _ h.sec (fun i x l hx hl d hd => by
    rcases List.mem_or_eq_of_mem_set hd with hd | rfl
    · exact hl d hd
    · exact (h.opn x hx).2) k hk

theorem now_sec {s : DS} (h : s.Wf) : ∀ d ∈ s.now, d.length = 64 := syncTo_sec h _ (Nat.le_refl _)

theorem lastN_le (i c : Nat) (m t : Int) : lastN i c m t ≤ 64 := by
  unfold lastN
  split
  · omega
  · split <;> omega

theorem lay_sec (x : Nat × List UInt8) (k : Nat) (l : List (List UInt8)) (hx : x.2.length = 64) (ha : x.1 < l.length) (hk : k ≤ 64) (hl : ∀ d ∈ l, d.length = 64) : ∀ d ∈ lay x.1 x.2 k l, d.length = 64 := fun d hd => by
  rcases List.mem_or_eq_of_mem_set hd with hd | rfl
  · exact hl d hd
  · rw [List.length_append, List.length_take, List.length_drop, hx, List.getD_eq_getElem?_getD, List.getElem?_eq_getElem ha]
    simp only [Option.getD_some]
    rw [hl _ (List.getElem_mem ha)]
    omega

theorem failTo_sec {s : DS} (h : s.Wf) (m t : Int) : ∀ k, k ≤ s.opn.length → ∀ d ∈ failTo s m t k, d.length = 64
  | 0, _ => h.sec
  | k + 1, hk => by
    have hm : s.opn.getD k (0, []) ∈ s.opn := by
      rw [List.getD_eq_getElem?_getD, List.getElem?_eq_getElem (by omega)]
      exact List.getElem_mem _
    show ∀ d ∈ lay (s.opn.getD k (0, [])).1 (s.opn.getD k (0, [])).2 (lastN k s.opn.length m t) (failTo s m t k), d.length = 64
    exact lay_sec _ _ _ (h.opn _ hm).2 (by rw [failTo_len, h.len]; exact (h.opn _ hm).1) (lastN_le ..) (failTo_sec h m t k (by omega))

theorem failTo_succ (s : DS) (m t : Int) (k : Nat) (hk : k < s.opn.length) : failTo s m t (k + 1) = lay s.opn[k].1 s.opn[k].2 (lastN k s.opn.length m t) (failTo s m t k) := by
  show lay (s.opn.getD k (0, [])).1 (s.opn.getD k (0, [])).2 (lastN k s.opn.length m t) (failTo s m t k) = _
  rw [List.getD_eq_getElem?_getD, List.getElem?_eq_getElem hk]
  rfl
theorem syncTo_succ (s : DS) (k : Nat) (hk : k < s.opn.length) : syncTo s (k + 1) = (syncTo s k).set s.opn[k].1 s.opn[k].2 := by
  show (syncTo s k).set (s.opn.getD k (0, [])).1 (s.opn.getD k (0, [])).2 = _
  rw [List.getD_eq_getElem?_getD, List.getElem?_eq_getElem hk]
  rfl

/-! ### The plain disk stays well formed -/
theorem Wf.fails {s : DS} (h : s.Wf) (m t : Int) : (s.fails m t).Wf :=
  ⟨h.n48, h.n128, by show (failTo s m t s.opn.length).length = s.n; rw [failTo_len, h.len], failTo_sec h m t _ (Nat.le_refl _), fun x hx => (by cases hx), fun hx => (by cases hx), fun _ => rfl, fun _ _ _ hx => (by cases hx), Nat.zero_le _⟩

theorem Wf.spend {s : DS} (h : s.Wf) : s.spend.1.Wf := by
  unfold DS.spend
  cases hf : s.fuse with
  | none => exact h
  | some x =>
    obtain ⟨l, m, t⟩ := x
    have hb := h.fl l m t hf
    dsimp only
    split
    · exact Wf.fails h m t
    · refine ⟨h.n48, h.n128, h.len, h.sec, h.opn, fun _ => h.fon (by rw [hf]; rfl), h.off, ?_, h.cnt⟩
      intro l' m' t' e
      injection e with e
      injection e with e1 e2
      injection e2 with e2 e3
      subst e1; subst e2; subst e3
      omega

theorem spend_n (s : DS) : s.spend.1.n = s.n := by
  unfold DS.spend
  cases s.fuse with
  | none => rfl
  | some x => dsimp only; split <;> rfl
theorem spend_writes (s : DS) : s.spend.1.writes = s.writes := by
  unfold DS.spend
  cases s.fuse with
  | none => rfl
  | some x => dsimp only; split <;> rfl

theorem Wf.synced {s : DS} (h : s.Wf) : s.synced.Wf :=
  ⟨h.n48, h.n128, by show s.now.length = s.n; rw [now_len, h.len], syncTo_sec h _ (Nat.le_refl _), fun x hx => (by cases hx), h.fon, fun _ => rfl, h.fl, Nat.zero_le _⟩

theorem spend_on {s : DS} (h : s.Wf) (hs : s.spend.2 = true) : s.spend.1.on = true := by
  unfold DS.spend at hs ⊢
  cases hf : s.fuse with
  | none => rw [hf] at hs; exact hs
  | some x =>
    obtain ⟨l, m, t⟩ := x
    rw [hf] at hs
    dsimp only at hs ⊢
    split
    · rw [if_pos ‹_›] at hs; cases hs
    · exact h.fon (by rw [hf]; rfl)

theorem Wf.add {s : DS} (h : s.Wf) (hon : s.on = true) (a : Nat) (d : List UInt8) (ha : a < s.n) (hd : d.length = 64) : (s.add a d).Wf := by
  refine ⟨h.n48, h.n128, h.len, h.sec, ?_, h.fon, fun e => ?_, h.fl, ?_⟩
  · intro x hx
    rcases List.mem_append.1 hx with hx | hx
    · exact h.opn x hx
    · rw [List.mem_singleton.1 hx]; exact ⟨ha, hd⟩
  · rw [show (s.add a d).on = s.on from rfl, hon] at e; cases e
  · show (s.opn ++ [(a, d)]).length ≤ s.writes + 1
    have := h.cnt
    simp; omega

theorem now_add (s : DS) (a : Nat) (d : List UInt8) : (s.add a d).now = s.now.set a d := by
  show syncTo (s.add a d) (s.opn ++ [(a, d)]).length = _
  rw [List.length_append, List.length_singleton, syncTo_succ _ _ (by show s.opn.length < (s.opn ++ [(a, d)]).length; simp)]
  have e : (s.add a d).opn[s.opn.length]'(by show s.opn.length < (s.opn ++ [(a, d)]).length; simp) = (a, d) := by
    show (s.opn ++ [(a, d)])[s.opn.length]'_ = _
    simp
  rw [e]
  congr 1
  exact goTo_app _ _ _ _ _ (Nat.le_refl _)

theorem Wf.write {s : DS} (h : s.Wf) (at_ : Int) (d : List UInt8) : (s.write at_ d).1.Wf := by
  unfold DS.write
  split
  · split
    · split
      · refine Wf.add (Wf.spend h) (spend_on h ‹_›) _ _ ?_ ‹_›
        rw [spend_n]; omega
      · exact Wf.spend h
    · exact h
  · exact h

theorem Wf.sync {s : DS} (h : s.Wf) : s.sync.1.Wf := by
  unfold DS.sync
  split
  · exact Wf.synced (Wf.spend h)
  · exact Wf.spend h

theorem Wf.setFuse {s : DS} (h : s.Wf) (a m t : Int) (ha : a ≤ 9223372036854775807) (hm : -9223372036854775808 ≤ m ∧ m ≤ 9223372036854775807) (ht : t ≤ 9223372036854775807) : (s.setFuse a m t).Wf := by
  unfold DS.setFuse
  split
  · refine ⟨h.n48, h.n128, h.len, h.sec, h.opn, fun _ => ‹_›, h.off, ?_, h.cnt⟩
    intro l' m' t' e
    injection e with e
    injection e with e1 e2
    injection e2 with e2 e3
    subst e1; subst e2; subst e3
    omega
  · exact h

theorem Wf.restart {s : DS} (h : s.Wf) : s.restart.Wf := by
  unfold DS.restart
  split
  · have k := Wf.fails h 0 0
    exact ⟨k.n48, k.n128, k.len, k.sec, k.opn, fun _ => rfl, fun e => (by cases e), k.fl, k.cnt⟩
  · refine ⟨h.n48, h.n128, h.len, h.sec, h.opn, fun _ => rfl, fun e => (by cases e), h.fl, h.cnt⟩

theorem Wf.born {n : Nat} (h : 48 ≤ n) (h' : n ≤ 128) : (DS.born n).Wf :=
  ⟨h, h', List.length_replicate, fun d hd => by rw [List.eq_of_mem_replicate hd]; rfl, fun x hx => (by cases hx), fun hx => (by cases hx), fun _ => rfl, fun _ _ _ hx => (by cases hx), Nat.zero_le _⟩

/-! ### The parts of the flat rows -/
theorem flat_len {l : List (List UInt8)} (h : ∀ d ∈ l, d.length = 64) : (flat l).length = l.length * 64 := chunk_len l fun x hx => by rw [cellsB_len, h x hx]

theorem range_flat {w : World} {b : Nat} {t : TypeId} {fr : Nat × Nat} {l : List (List UInt8)} (hb : w.heap[b]? = some (.cells (flat l).toArray t fr)) (h : ∀ d ∈ l, d.length = 64) (k : Nat) (hk : k < l.length) : w.rangeAt b (k * 64) (cellsB l[k]) :=
  range_chunk hb k hk fun x hx => by rw [cellsB_len, h x hx]

theorem there_flat {w : World} {b : Nat} {t : TypeId} {l : List (List UInt8)} (hb : w.heap[b]? = some (.cells (flat l).toArray t (0, 0))) (h : ∀ d ∈ l, d.length = 64) (k : Nat) (hk : k < l.length) : w.there b (k * 64) 64 :=
  there_block hb _ _ (by rw [flat_len h]; omega)

theorem flat_setCells {w : World} {b : Nat} {t : TypeId} {l : List (List UInt8)} (hb : w.heap[b]? = some (.cells (flat l).toArray t (0, 0))) (h : ∀ d ∈ l, d.length = 64) (k : Nat) (hk : k < l.length) (d : List UInt8) (hd : d.length = 64) :
    (w.setCells b (k * 64) (cellsB d)).heap[b]? = some (.cells (flat (l.set k d)).toArray t (0, 0)) :=
  block_setCells_chunk w b t l k hk (fun x hx => by rw [cellsB_len, h x hx]) d (by rw [cellsB_len, hd]) hb

theorem take_add' {α : Type} (L : List α) (a b : Nat) : L.take (a + b) = L.take a ++ (L.drop a).take b := by
  rw [List.take_add]

/-- a part of a sector is laid over it -/
theorem flat_lay {w : World} {b : Nat} {t : TypeId} {l : List (List UInt8)} (hb : w.heap[b]? = some (.cells (flat l).toArray t (0, 0))) (h : ∀ d ∈ l, d.length = 64) (k : Nat) (hk : k < l.length) (d : List UInt8) (hd : d.length = 64) (n : Nat) (hn : n ≤ 64) :
    (w.setCells b (k * 64) (cellsB (d.take n))).heap[b]? = some (.cells (flat (lay k d n l)).toArray t (0, 0)) := by
  have hlk : l[k].length = 64 := h _ (List.getElem_mem hk)
  have hfl := flat_len h
  rw [block_setCells b t _ _ _ _ hb (by rw [cellsB_len, List.length_take, hfl]; omega)]
  congr 2
  unfold lay
  rw [show flat (l.set k (d.take n ++ (l.getD k []).drop n)) = _ from chunk_set (m := 64) l k hk (fun x hx => by rw [cellsB_len, h x hx]) _]
  have e1 : l.getD k [] = l[k] := by rw [List.getD_eq_getElem?_getD, List.getElem?_eq_getElem hk]; rfl
  rw [e1, cellsB_len, List.length_take, hd, Nat.min_eq_left hn]
  congr 1
  show _ = (flat l).take (k * 64) ++ (cellsB (d.take n ++ l[k].drop n) ++ (flat l).drop (k * 64 + 64))
  congr 1
  have e2 : cellsB (d.take n ++ l[k].drop n) = cellsB (d.take n) ++ (cellsB l[k]).drop n := by simp [cellsB, List.map_append, List.map_drop]
  rw [e2, List.append_assoc]
  congr 1
  have e3 : (flat l).drop (k * 64) = cellsB l[k] ++ (flat l).drop (k * 64 + 64) := by
    rw [show k * 64 + 64 = (k + 1) * 64 by omega, show (flat l).drop (k * 64) = _ from chunk_drop (m := 64) l k (fun x hx => by rw [cellsB_len, h x hx]),
      show (flat l).drop ((k + 1) * 64) = _ from chunk_drop (m := 64) l (k + 1) (fun x hx => by rw [cellsB_len, h x hx]), List.drop_eq_getElem_cons hk, List.flatMap_cons]
  rw [← List.drop_drop, e3, List.drop_append, cellsB_len, hlk, show n - 64 = 0 by omega, List.drop_zero]

end Go.Proofs.YtdpeacdilgcloaaR
