/- More laws on single operations: a write is made, its bytes copied out of a string, laid into a slice of one. Own text. -/
import Derived.Test.YtdpeacdilgcloaaRLaws
namespace Go.Proofs.YtdpeacdilgcloaaR
open Go.RowKit

theorem build_write (k : Nat) (w : World) : (Instr.build 81 #[(0, .int .i64 k)]).run Try.prog w = .ok (.agg (wcells (k, List.replicate 64 0)).toArray) w := by kernel_rfl

theorem setCells_newAt (w : World) (C vs : List Value) (t : TypeId) (o : Nat) (h : o + vs.length ≤ C.length) :
    (w.alloc (.cells C.toArray t)).setCells w.heap.size o vs = w.alloc (.cells (C.take o ++ (vs ++ C.drop (o + vs.length))).toArray t) := by
  obtain ⟨h1, h2, h3⟩ := streams_setCells w.heap.size vs o (w.alloc (.cells C.toArray t))
  refine World.ext_heap ?_ h2 (drawn_setCells _ _ _ _) h1 h3
  refine Array.ext (by rw [size_setCells]; simp) ?_
  intro i hi hi'
  have hi2 : i < w.heap.size + 1 := by simpa using hi'
  have e1 : ((w.alloc (.cells C.toArray t)).setCells w.heap.size o vs).heap[i]? = (w.alloc (.cells (C.take o ++ (vs ++ C.drop (o + vs.length))).toArray t)).heap[i]? := by
    by_cases hh : i = w.heap.size
    · subst hh
      rw [block_setCells w.heap.size t vs o C _ (newB _ _) h, newB]
    · rw [other_setCells _ _ hh, oldB _ _ _ (by omega), oldB _ _ _ (by omega)]
  rw [Array.getElem?_eq_getElem hi, Array.getElem?_eq_getElem hi'] at e1
  exact Option.some.inj e1

theorem run_copy_str {P : Program} (w : World) (dT sT ty elem : TypeId) (b o dCap : Nat) (d : List UInt8) 
    (hu : P.underlying dT = some (.slice elem)) (hs : (P.info? elem).map (·.size) = some 1) (hth : w.there b o d.length) :
    (Builtin.copy_ #[dT, sT] ty #[.slice (some ⟨b, o, none⟩) d.length dCap, str d]).run P w = .ok (goInt d.length) (w.setCells b o (cellsB d)) := by
  have hst := run_storeCells_cells (P := P) b o (cellsB d) 0 w (by rw [cellsB_len]; simpa using fun j hj => (hth j hj).1) (by rw [cellsB_len]; simpa using fun j hj => (hth j hj).2) (cellsB_one d)
  cases hq : P.info? elem with
  | none => simp [hq] at hs
  | some i =>
    have hi : i.size = 1 := by simpa [hq] using hs
    have hfc : (Builtin.firstCells 1 d.length (.string ⟨d.toArray⟩)).run P w = .ok (cellsB d).toArray w := by
      simp [Builtin.firstCells, cellsB, byteV]
    have hsz : (⟨d.toArray⟩ : ByteArray).size = d.length := by simp [ByteArray.size]
    simp only [Nat.add_zero] at hst
    simp [Builtin.copy_, run_underlying hu, str, Builtin.lenOf, sizeOf, typeInfo, hq, hi, hsz, hfc, hst]

theorem zipset : ∀ (l : List Value) (k : Nat) (C : Array Value), k + l.length ≤ C.size → ((l.zipIdx k).foldl (fun cs (x : Value × Nat) => cs.setIfInBounds (0 + x.2) x.1) C).toList = C.toList.take k ++ (l ++ C.toList.drop (k + l.length))
  | [], k, C, _ => by simp
  | v :: l, k, C, h => by
    simp only [List.length_cons] at h
    rw [List.zipIdx_cons, List.foldl_cons, zipset l (k + 1) _ (by simp; omega)]
    simp only [Nat.zero_add, Array.toList_setIfInBounds, List.length_cons]
    have e := list_seg_step C.toList k v l (by simp; omega)
    simp only [List.append_assoc] at e
    simpa using e

theorem buildSlice_write (x : Nat × List UInt8) (hx : x.2.length = 64) (w : World) : (Instr.buildSlice 64 1 #[(0, .agg (wcells x).toArray)]).run Try.prog w = .ok (.slice (some ⟨w.heap.size, 0, none⟩) 1 1) (w.alloc (.cells (wcells x).toArray 81)) := by
  have hl : (wcells x).length = 65 := by rw [wcells_len, hx]
  have hz := zero_write
  have hs : ∀ w, (sizeOf 81).run Try.prog w = .ok 65 w := fun w => by kernel_rfl
  unfold Instr.buildSlice
  have hfill : ∀ (C : Array Value), C.size = 65 → Instr.fill (fun i => some (i * 65, 65)) C [(0, Value.agg (wcells x).toArray)] = some (wcells x).toArray := by
    intro C hC
    unfold Instr.fill
    simp only [Value.cells, List.size_toArray, hl, hC, Nat.zero_mul]
    simp only [ne_eq, not_true_eq_false, decide_false, Nat.zero_add, gt_iff_lt, Nat.lt_irrefl, Bool.or_self, Bool.false_eq_true, if_false]
    unfold Instr.fill
    congr 1
    apply Array.toList_inj.1
    have e := zipset (wcells x) 0 C (by omega)
    rw [List.take_zero, List.nil_append, List.drop_of_length_le (by rw [Array.length_toList]; omega), List.append_nil] at e
    refine Eq.trans ?_ e
    simp
  simp [run_underlying Try.underlying64, hs, hz]
  rw [hfill _ (by simp)]
  simp [newRow]


/-- 'copy' out of a string into an array of the block that was made just now, behind its first cell -/
theorem wpList_copy_new {P : Program} {ops : Array Oper} {rest : List Oper} {o : Oper} {a : Act} {w : World} {Q : Exit → Act → World → Prop} (hgd : o.guard = none) (x y : Operand) (dT sT : TypeId)
    (ho : o.op = .call { callee := .builtin .copy, args := #[x, y], argTypes := #[dT, sT] }) (elem : TypeId) (hu : P.underlying dT = some (.slice elem)) (hsz : (P.info? elem).map (·.size) = some 1)
    (t : TypeId) (k : Nat) (d0 d : List UInt8) (hd0 : d0.length = 64) (hd : d.length = 64) (hx : a.eval x = .slice (some ⟨w.heap.size, 1, none⟩) 64 64) (hy : a.eval y = str d)
    (h : wpList P ops Q rest (a.put o.dst (goInt 64)) (w.alloc (.cells (wcells (k, d)).toArray t))) : wpList P ops Q (o :: rest) a (w.alloc (.cells (wcells (k, d0)).toArray t)) := by
  refine wpList_plain hgd fun K hK => ?_
  have hth : (w.alloc (.cells (wcells (k, d0)).toArray t)).there w.heap.size 1 d.length := there_block (newB _ _) 1 _ (by rw [wcells_len, hd, hd0]; omega)
  have hrun := run_copy_str (P := P) (w.alloc (.cells (wcells (k, d0)).toArray t)) dT sT o.type elem w.heap.size 1 64 d hu hsz hth
  rw [setCells_newAt w (wcells (k, d0)) (cellsB d) t 1 (by rw [wcells_len, cellsB_len, hd, hd0]; omega)] at hrun
  have e : (wcells (k, d0)).take 1 ++ (cellsB d ++ (wcells (k, d0)).drop (1 + (cellsB d).length)) = wcells (k, d) := by
    rw [List.drop_of_length_le (by rw [wcells_len, cellsB_len, hd, hd0]; omega), List.append_nil]
    rfl
  rw [e, hd] at hrun
  unfold Oper.wp
  simp only [execOp, ho, resolve, invoke, builtin, Sem.run_bind, Sem.run_pure, Result.andThen_ok, List.map_toArray, List.map_cons, List.map_nil, hx, hy, hrun]
  exact hK _ _ h

end Go.Proofs.YtdpeacdilgcloaaR
