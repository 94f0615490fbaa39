/- Laws on single operations that the walks of the disks meet: a whole array stored into a new block; copy of many cells; bytes turned into a string; what a type's zero value is. Own text. -/
import Derived.Test.YtdpeacdilgcloaaRW1
import Derived.Deep.RegionHeld3
namespace Go.Proofs.YtdpeacdilgcloaaR
open Go.RowKit

theorem Try.size_write : (Try.prog.info? 81).map (·.size) = some 65 := by kernel_rfl
theorem Try.size_sector : (Try.prog.info? 79).map (·.size) = some 64 := by kernel_rfl
theorem Try.size_u8 : (Try.prog.info? 5).map (·.size) = some 1 := by kernel_rfl
theorem Try.size_string : (Try.prog.info? 9).map (·.size) = some 1 := by kernel_rfl

theorem zero_of {P : Program} {ty : TypeId} {z : Value} {n : Nat} (h : (P.info? ty).map (fun i => (i.zero, i.size)) = some (some z, n)) : ∀ w, (zeroValue ty).run P w = .ok z w := by
  intro w
  cases hq : P.info? ty with
  | none => simp [hq] at h
  | some i =>
    simp [hq] at h
    simp [zeroValue, typeInfo, hq, h.1]

def zeroWrite : Array Value := (wcells (0, List.replicate 64 0)).toArray
theorem zeroWrite_size : zeroWrite.size = 65 := rfl
theorem zero_write : ∀ w, (zeroValue 81).run Try.prog w = .ok (.agg zeroWrite) w :=
  zero_of (n := 65) (by kernel_rfl)

theorem wcells_one (x : Nat × List UInt8) : ∀ v ∈ wcells x, v.oneCell' = true := by
  intro v hv
  simp only [wcells, cellsB, List.mem_cons, List.mem_map] at hv
  rcases hv with rfl | ⟨b, _, rfl⟩ <;> rfl
theorem cellsB_one (d : List UInt8) : ∀ v ∈ cellsB d, v.oneCell' = true := by
  intro v hv
  simp only [cellsB, List.mem_map] at hv
  obtain ⟨b, _, rfl⟩ := hv
  rfl
theorem flat_one (l : List (List UInt8)) : ∀ v ∈ flat l, v.oneCell' = true := by
  intro v hv
  simp only [flat, List.mem_flatMap] at hv
  obtain ⟨d, _, hv⟩ := hv
  exact cellsB_one d v hv

theorem World.ext_heap {w w' : World} (h : w.heap = w'.heap) (h1 : w.tape = w'.tape) (h2 : w.drawn = w'.drawn) (h3 : w.os = w'.os) (h4 : w.output = w'.output) : w = w' := by
  cases w; cases w'; simp_all
theorem drawn_setCells (b : Nat) : ∀ (vs : List Value) (o : Nat) (w : World), (w.setCells b o vs).drawn = w.drawn
  | [], _, _ => rfl
  | v :: r, o, w => by rw [World.setCells]; exact drawn_setCells b r (o + 1) (w.setCell ⟨b, o, none⟩ v)

theorem setCells_new (w : World) (C cells : List Value) (t : TypeId) (h : C.length = cells.length) :
    (w.alloc (.cells C.toArray t)).setCells w.heap.size 0 cells = w.alloc (.cells cells.toArray t) := by
  obtain ⟨h1, h2, h3⟩ := streams_setCells w.heap.size cells 0 (w.alloc (.cells C.toArray t))
  refine World.ext_heap ?_ h2 (drawn_setCells _ _ _ _) h1 h3
  refine Array.ext (by rw [size_setCells]; simp) ?_
  intro i hi hi'
  have hi2 : i < w.heap.size + 1 := by simpa using hi'
  have e1 : ((w.alloc (.cells C.toArray t)).setCells w.heap.size 0 cells).heap[i]? = (w.alloc (.cells cells.toArray t)).heap[i]? := by
    by_cases hh : i = w.heap.size
    · subst hh
      rw [block_setCells w.heap.size t cells 0 C _ (newB _ _) (by omega), newB]
      simp [h]
    · rw [other_setCells _ _ hh, oldB _ _ _ (by omega), oldB _ _ _ (by omega)]
  rw [Array.getElem?_eq_getElem hi, Array.getElem?_eq_getElem hi'] at e1
  exact Option.some.inj e1

/-- a whole struct goes into the block that was made for it just now -/
theorem wpList_store_new {P : Program} {ops : Array Oper} {rest : List Oper} {op : Oper} {a : Act} {w : World} {Q : Exit → Act → World → Prop} (hgd : op.guard = none) (ty : TypeId) (x y : Operand) (ho : op.op = .store ty x y)
    (C cells : List Value) (t : TypeId) (hx : a.eval x = .pointer (some ⟨w.heap.size, 0, none⟩)) (hy : a.eval y = .agg cells.toArray)
    (hC : C.length = cells.length) (hi : (P.info? ty).map (·.size) = some cells.length) (h1 : ∀ v ∈ cells, v.oneCell' = true)
    (h : wpList P ops Q rest (a.put op.dst undef) (w.alloc (.cells cells.toArray t))) : wpList P ops Q (op :: rest) a (w.alloc (.cells C.toArray t)) := by
  refine wpList_store_mid hgd ty x y ho w.heap.size 0 cells.toArray hx hy ?_ (by simpa using hi) (all_oneCell_toArray h1) ?_
  · exact there_block (newB _ _) 0 _ (by simp; omega)
  · rw [show cells.toArray.toList = cells from rfl, setCells_new w C cells t hC]
    exact h

/-- 'copy' of many cells, at a step of a region that draws its order -/
theorem step_copy_cells {P : Program} {ops : Array Oper} {o : Oper} {a : Act} {w : World} {K : Act → World → Prop} {Q : Exit → Act → World → Prop} {E : Prop} (hgd : o.guard = none) (d s : Operand) (dT sT : TypeId)
    (ho : o.op = .call { callee := .builtin .copy, args := #[d, s], argTypes := #[dT, sT] }) (elem : TypeId) (hu : P.underlying dT = some (.slice elem)) (hsz : (P.info? elem).map (·.size) = some 1)
    (b off dLen dCap : Nat) (sb so sLen sCap : Nat) (hd : a.eval d = .slice (some ⟨b, off, none⟩) dLen dCap) (hs : a.eval s = .slice (some ⟨sb, so, none⟩) sLen sCap)
    (cs : List Value) (hn : cs.length = Nat.min sLen dLen) (hsrc : w.rangeAt sb so cs) (hth : w.there b off cs.length) (h1 : ∀ v ∈ cs, v.oneCell' = true)
    (h : K (a.put o.dst (goInt cs.length)) (w.setCells b off cs)) :
    if Region.wanted o (yielded ops a.tmps) = true then Oper.wp P o a w K Q else E := by
  have hw : Region.wanted o (yielded ops a.tmps) = true := by simp [Region.wanted, hgd]
  rw [if_pos hw]
  have hrun := run_copy_cells (P := P) w dT sT o.type elem b off dLen dCap ⟨sb, so, none⟩ sLen sCap cs hu hsz hn (fun j v hv => by rw [Addr.add_mid]; exact hsrc j v hv) (fun j hj => (hth j hj).1) (fun j hj => (hth j hj).2) h1
  unfold Oper.wp
  simp only [execOp, ho, resolve, invoke, builtin, Sem.run_bind, Sem.run_pure, Result.andThen_ok, List.map_toArray, List.map_cons, List.map_nil, hd, hs, hrun]
  exact h

/-- 'copy' of whole rows (of elements of whatever size), at such a step -/
theorem run_copy_wide {P : Program} (w : World) (dT sT ty elem : TypeId) (b o n dCap : Nat) (a : Addr) (sCap size : Nat) (cs : List Value)
    (hu : P.underlying dT = some (.slice elem)) (hs : (P.info? elem).map (·.size) = some size) (hn : cs.length = n * size)
    (hsrc : ∀ j v, cs[j]? = some v → w.cell? (a.add j) = some v) (hth : w.there b o cs.length) (h1 : ∀ v ∈ cs, v.oneCell' = true) :
    (Builtin.copy_ #[dT, sT] ty #[.slice (some ⟨b, o, none⟩) n dCap, .slice (some a) n sCap]).run P w = .ok (goInt n) (w.setCells b o cs) := by
  have hl := run_loadCells_list (P := P) w a cs hsrc
  have hst := run_storeCells_cells (P := P) b o cs 0 w (by simpa using fun j hj => (hth j hj).1) (by simpa using fun j hj => (hth j hj).2) h1
  cases hq : P.info? elem with
  | none => simp [hq] at hs
  | some i =>
    have hi : i.size = size := by simpa [hq] using hs
    simp [Builtin.copy_, run_underlying hu, Builtin.lenOf, Builtin.firstCells, sizeOf, typeInfo, hq, hi, ← hn, hl, hst]

theorem step_copy_wide {P : Program} {ops : Array Oper} {o : Oper} {a : Act} {w : World} {K : Act → World → Prop} {Q : Exit → Act → World → Prop} {E : Prop} (hgd : o.guard = none) (d s : Operand) (dT sT : TypeId)
    (ho : o.op = .call { callee := .builtin .copy, args := #[d, s], argTypes := #[dT, sT] }) (elem : TypeId) (hu : P.underlying dT = some (.slice elem)) (size : Nat) (hsz : (P.info? elem).map (·.size) = some size)
    (b off n dCap : Nat) (sb so sCap : Nat) (hd : a.eval d = .slice (some ⟨b, off, none⟩) n dCap) (hs : a.eval s = .slice (some ⟨sb, so, none⟩) n sCap)
    (cs : List Value) (hn : cs.length = n * size) (hsrc : w.rangeAt sb so cs) (hth : w.there b off cs.length) (h1 : ∀ v ∈ cs, v.oneCell' = true)
    (h : K (a.put o.dst (goInt n)) (w.setCells b off cs)) :
    if Region.wanted o (yielded ops a.tmps) = true then Oper.wp P o a w K Q else E := by
  have hw : Region.wanted o (yielded ops a.tmps) = true := by simp [Region.wanted, hgd]
  rw [if_pos hw]
  have hrun := run_copy_wide (P := P) w dT sT o.type elem b off n dCap ⟨sb, so, none⟩ sCap size cs hu hsz hn (fun j v hv => by rw [Addr.add_mid]; exact hsrc j v hv) hth h1
  unfold Oper.wp
  simp only [execOp, ho, resolve, invoke, builtin, Sem.run_bind, Sem.run_pure, Result.andThen_ok, List.map_toArray, List.map_cons, List.map_nil, hd, hs, hrun]
  exact h

theorem foldl_push (d : List UInt8) : ∀ (acc : ByteArray), (d.map (fun b => (b.toNat : Int))).foldl (fun r n => r.push (UInt8.ofNat n.toNat)) acc = ⟨acc.data ++ d.toArray⟩ := by
  induction d with
  | nil => intro acc; simp
  | cons b d ih =>
    intro acc
    rw [List.map_cons, List.foldl_cons, ih]
    simp [ByteArray.push]

theorem run_conv (w : World) (b o c : Nat) (d : List UInt8) (h : w.rangeAt b o (cellsB d)) : (convert 46 9 (.slice (some ⟨b, o, none⟩) d.length c)).run Try.prog w = .ok (str d) w := by
  rw [run_convert_bytes_string w 46 9 5 _ _ _ Try.underlying46 Try.underlying5 Try.underlying9]
  have hl : (loadCells ⟨b, o, none⟩ (cellsB d).length).run Try.prog w = .ok (cellsB d).toArray w := run_loadCells_list (P := Try.prog) w ⟨b, o, none⟩ (cellsB d) (fun j v hv => by rw [Addr.add_mid]; exact h j v hv)
  rw [cellsB_len] at hl
  rw [run_bytesToString w ⟨b, o, none⟩ d.length c (d.map (fun b => (b.toNat : Int))) (by rw [hl]; simp [cellsB, byteV])]
  rw [foldl_push]
  simp [str]

end Go.Proofs.YtdpeacdilgcloaaR
