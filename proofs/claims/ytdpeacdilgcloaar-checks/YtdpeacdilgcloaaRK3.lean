/- The program's parts: where instructions begin, and whether they are whole. Own text. -/
import Derived.Test.YtdpeacdilgcloaaRK2
namespace Go.Proofs.YtdpeacdilgcloaaR
open Go.RowKit

def noMarks : Nat → Bool := fun _ => false
theorem zero_begins : ∀ w, (zeroValue 71).run Try.prog w = .ok (.agg (marksV noMarks).toArray) w := zero_of (n := 201) (by kernel_rfl)
theorem Try.size_begins : (Try.prog.info? 71).map (·.size) = some 201 := by kernel_rfl

def allocM : Sem Value := Instr.alloc 71 true (.tuple #[])
theorem allocM_eq : Instr.alloc 71 true (.tuple #[]) = allocM := rfl
theorem allocM_run (w : World) : allocM.run Try.prog w = .ok (.pointer (some ⟨w.heap.size, 0, none⟩)) (w.alloc (.cells (marksV noMarks).toArray 71)) := by
  unfold allocM
  simp [Instr.alloc, zero_begins, newVar, newRow, Value.cells]
def loadM (v : Value) : Sem Value := Instr.loadAt 71 v
theorem loadM_eq (v : Value) : Instr.loadAt 71 v = loadM v := rfl
def storeM (a v : Value) : Sem Unit := Instr.storeAt 71 a v
theorem storeM_eq (a v : Value) : Instr.storeAt 71 a v = storeM a v := rfl

theorem loadM_run {w : World} {b : Nat} {f : Nat → Bool} {t : TypeId} {fr : Nat × Nat} (h : w.heap[b]? = some (.cells (marksV f).toArray t fr)) : (loadM (.pointer (some ⟨b, 0, none⟩))).run Try.prog w = .ok (.agg (marksV f).toArray) w :=
  run_loadAt_mid w b 0 71 (marksV f) _ (range_block h 0 _ (fun j u hu => by rw [Nat.zero_add]; exact hu)) Try.underlying71 rfl (by rw [marksV_len]; exact Try.size_begins)
theorem storeM_run {w : World} {b : Nat} {f g : Nat → Bool} {t : TypeId} (h : w.heap[b]? = some (.cells (marksV f).toArray t (0, 0))) : (storeM (.pointer (some ⟨b, 0, none⟩)) (.agg (marksV g).toArray)).run Try.prog w = .ok () (w.setCells b 0 (marksV g)) :=
  run_storeAt_mid w b 0 71 (marksV g).toArray (there_block h 0 _ (by simp [marksV_len])) (by rw [Try.size_begins]; simp [marksV_len]) (by simpa using marksV_one g)

theorem results_cell_tmp {P : Program} {fn : Func} {p1 t2 : Tmp} {t1 : TypeId} (h : fn.results = #[.cell p1 t1, .tmp t2]) (tmps : Array Value) (w : World) (g1 : Nat) (u1 : TypeId) (cs1 : Array Value) (f1 : Nat × Nat) (d1 : TypeDesc) (v2 : Value)
    (hp1 : tmps.getD p1 undef = .pointer (some ⟨g1, 0, none⟩)) (hp2 : tmps.getD t2 undef = v2) (hg1 : w.heap[g1]? = some (.cells cs1 u1 f1))
    (hu1 : P.underlying t1 = some d1) (hd1 : (match d1 with | .struct _ | .array _ _ => true | _ => false) = true)
    (hi1 : (P.info? t1).map (·.size) = some cs1.size) : (results fn tmps).run P w = .ok (.tuple #[.agg cs1, v2]) w := by
  have hp2' : tmps[t2]?.getD undef = v2 := by simpa using hp2
  have hp1' : tmps[p1]?.getD undef = .pointer (some ⟨g1, 0, none⟩) := by simpa using hp1
  simp [results, h, hp1', hp2', asAddr, run_loadVar_row w g1 u1 t1 cs1 f1 d1 hg1 hu1 hd1 hi1]

theorem whole_setCells' {W : World} {b : Nat} {C vs : List Value} {t : TypeId} (h : W.heap[b]? = some (.cells C.toArray t (0, 0))) (hl : vs.length = C.length) : (W.setCells b 0 vs).heap[b]? = some (.cells vs.toArray t (0, 0)) := by
  rw [block_setCells b t vs 0 C W h (by omega)]
  simp [hl]

attribute [local go_sem ↓] allocM_eq loadM_eq storeM_eq

/-- what holds as the parts are looked at -/
structure Parted (w wr : World) (s : List UInt8) (k : Nat) : Prop where
  rest : (k ≤ s.length ∧ ∃ acc f, Chain s acc k ∧ s.length ≤ k + f ∧ cutFrom s f k acc = cutP s ∧ wr.heap[w.heap.size + 1]? = some (.cells (marksV (markAt acc)).toArray 71 (0, 0))) ∨ (s.length < k ∧ k ≤ s.length + 1 ∧ cutP s = none)
  rs : wr.heap[w.heap.size]? = some (.cells (marksV noMarks).toArray 71 (0, 0))
  kp : Keeps [] [] w wr

theorem Parted.go {w wr : World} {s : List UInt8} {k f : Nat} {acc : List InsP} (hc : Chain s acc k) (hf : s.length ≤ k + f) (hr : cutFrom s f k acc = cutP s) (hm : wr.heap[w.heap.size + 1]? = some (.cells (marksV (markAt acc)).toArray 71 (0, 0)))
    (rs : wr.heap[w.heap.size]? = some (.cells (marksV noMarks).toArray 71 (0, 0))) (kp : Keeps [] [] w wr) (hk : k < s.length) (hl : longP (byteAt s k) ≠ 0) : Parted w (wr.setCell ⟨w.heap.size + 1, k, none⟩ (.bool true)) s (k + longP (byteAt s k)) := by
  have hl2 := longP_le (byteAt s k)
  refine ⟨?_, by rw [heap_setCell_other _ _ _ _ (by simp)]; exact rs, kp.setCell (.inr (by simp)) _⟩
  by_cases ho : s.length < k + longP (byteAt s k)
  · exact .inr ⟨ho, by omega, hr.symm.trans (cut_stop hf hk (.inr ho))⟩
  · obtain ⟨f', h1, h2⟩ := cut_next (acc := acc) hf hk (by simp only [not_or]; exact ⟨hl, ho⟩)
    refine .inl ⟨by omega, _, f', .snoc hc hk hl, h1, h2.trans hr, ?_⟩
    rw [heap_setCell_same _ _ _ _ _ _ hm, List.setIfInBounds_toArray, marksV_set]
    congr 3
    exact marksV_congr fun n => markAt_snoc acc (insAt s k) n

theorem mark_end (l : List InsP) (len : Nat) (w : World) (b : Nat) (h : w.heap[b]? = some (.cells (marksV (markAt l)).toArray 71 (0, 0))) :
    (w.setCell ⟨b, len, none⟩ (.bool true)).heap[b]? = some (.cells (marksV (fun n => markAt l n || n == len)).toArray 71 (0, 0)) := by
  rw [heap_setCell_same _ _ _ _ _ _ h, List.setIfInBounds_toArray, marksV_set]

set_option maxRecDepth 100000 in
set_option maxHeartbeats 1000000 in
theorem parts_any (w : World) (S : ByteArray) (hS : S.size ≤ 200) :
    Calls Try.prog 41 #[.string S] w fun e w' => (cutP S.data.toList = none ∧ e = .returned (.tuple #[.agg (marksV noMarks).toArray, .bool false]) ∧ Keeps [] [] w w') ∨
      ∃ l, cutP S.data.toList = some l ∧ e = .returned (.tuple #[.agg (marksV (fun n => markAt l n || n == S.size)).toArray, .bool true]) ∧ Keeps [] [] w w' := by
  have hszl : S.data.toList.length = S.size := by rw [Array.length_toList]; rfl
  have Hszl := hidden hszl
  clear hszl
  have ha := allocM_run
  have hbm := zero_begins
  go_enter Try.func41, Try.ntmps41
  go_wp2
  go_loopw [5] (fun i wr => ∃ k : Nat, i = .int .i64 k ∧ Parted w wr S.data.toList k) (fun i _ => 201 - (intOf i).toNat)
  case atStart =>
    refine ⟨0, rfl, ⟨.inl ⟨Nat.zero_le _, [], _, .nil, by omega, rfl, ?_⟩, ?_, ((Keeps.refl _ _).alloc _).alloc _⟩⟩
    · have := newB (w.alloc (.cells (marksV noMarks).toArray 71)) (.cells (marksV noMarks).toArray 71)
      rw [World.size_alloc] at this
      exact this
    · rw [oldB _ _ _ (by simp), newB]
  case round =>
    obtain ⟨k, rfl, hP⟩ := hrel
    by_cases hlt : k < S.size
    · have hltl : k < S.data.toList.length := by rw [Hszl.out]; exact hlt
      obtain ⟨hrest, rs, kp⟩ := hP
      rcases hrest with ⟨_, acc, f, hc, hf, hr, hm⟩ | ⟨h1, _⟩
      · have hby := byte_of S k hlt
        have HBy := hidden hby
        have HStop := hidden (fun hb => hr.symm.trans (cut_stop (acc := acc) hf hltl hb))
        have HGo := hidden (fun hl => Parted.go hc hf hr hm rs kp hltl hl)
        have hst := @storeM_run wr w.heap.size noMarks noMarks _ rs
        have hcm : ∃ u, wr.cell? ⟨w.heap.size + 1, k, none⟩ = some u := ⟨_, (cell_of_row _ _ k _ _ _ hm).trans (by simpa using marksV_get (markAt acc) k (by omega))⟩
        have hfz : wr.frozen? ⟨w.heap.size + 1, k, none⟩ = false := frozen_of_row _ _ _ _ _ hm
        obtain ⟨u, hcm⟩ := hcm
        have Hrs := hidden rs
        have Hkp := hidden kp
        clear hby hc hf hr hm rs kp
        go_wp2_with fail
        rw [HBy.out]
        refine (adds_any _ _).mono ?_
        rintro e w5 ⟨rfl, rfl⟩
        generalize hb : byteAt S.data.toList k = b at *
        clear hb
        by_cases hz : addsP b = 0
        · have HS := hidden (HStop.out (.inl ((adds_zero b).1 hz)))
          have hzb : ((addsP b : Int) == 0) = true := by simp [hz]
          clear HStop HGo hz
          go_wp2
          refine bodyPost_ret (results_cell_tmp rfl _ _ w.heap.size 71 (marksV noMarks).toArray (0, 0) _ (.bool false) rfl rfl (whole_setCells' Hrs.out (by simp [marksV_len])) Try.underlying71 rfl (by rw [Try.size_begins]; simp [marksV_len])) rfl ?_
          exact .inl ⟨HS.out, rfl, Hkp.out.setCells (.inr (Nat.le_refl _)) _ _⟩
        · have hl : longP b ≠ 0 := fun e => hz ((adds_zero b).2 e)
          have hzb : ((addsP b : Int) == 0) = false := by simp; omega
          have HG := hidden (HGo.out hl)
          have hl2 := longP_le b
          rw [← size_long b hl] at HG hl2
          have hl3 : 1 ≤ sizeP b := by unfold sizeP; split <;> omega
          have hk200 : k < 201 := by omega
          clear HStop HGo hz hl
          go_wp2_with fail
          rw [HBy.out]
          refine (size_any _ _).mono ?_
          rintro e w6 ⟨rfl, rfl⟩
          go_wp2
          go_roundw
          case rel => exact ⟨k + sizeP b, by go_num, HG.out⟩
          case measure => simp [intOf]; omega
      · omega
    · obtain ⟨hrest, rs, kp⟩ := hP
      have hst := @storeM_run wr w.heap.size noMarks noMarks _ rs
      have Hrs := hidden rs
      have Hkp := hidden kp
      rcases hrest with ⟨hk, acc, f, hc, hf, hr, hm⟩ | ⟨h1, h2, h3⟩
      · rw [Hszl.out] at hk
        have hke : k = S.size := by omega
        subst hke
        have HE := hidden (hr.symm.trans (cut_end (by rw [Hszl.out]; omega)))
        have hcm : wr.cell? ⟨w.heap.size + 1, S.size, none⟩ = some _ := (cell_of_row _ _ S.size _ _ _ hm).trans (by simpa using marksV_get (markAt acc) S.size (by omega))
        have hfz : wr.frozen? ⟨w.heap.size + 1, S.size, none⟩ = false := frozen_of_row _ _ _ _ _ hm
        have hm2 := mark_end acc S.size wr _ hm
        have hld := loadM_run hm2
        have hrs2 : (wr.setCell ⟨w.heap.size + 1, S.size, none⟩ (.bool true)).heap[w.heap.size]? = some (.cells (marksV noMarks).toArray 71 (0, 0)) := by rw [heap_setCell_other _ _ _ _ (by simp)]; exact rs
        have hst2 := @storeM_run _ w.heap.size noMarks (fun n => markAt acc n || n == S.size) _ hrs2
        have Hrs2 := hidden hrs2
        clear hc hf hr hm rs kp hm2 hrs2 hst
        go_wp2
        refine bodyPost_ret (results_cell_tmp rfl _ _ w.heap.size 71 (marksV (fun n => markAt acc n || n == S.size)).toArray (0, 0) _ (.bool true) rfl rfl (whole_setCells' Hrs2.out (by simp [marksV_len])) Try.underlying71 rfl (by rw [Try.size_begins]; simp [marksV_len])) rfl ?_
        exact .inr ⟨acc, HE.out, rfl, (Hkp.out.setCell (.inr (by simp)) _).setCells (.inr (Nat.le_refl _)) _ _⟩
      · rw [Hszl.out] at h1
        have h1' : (S.size : Int) < (k : Int) := by omega
        have H3 := hidden h3
        clear rs kp h2 h3
        go_wp2
        refine bodyPost_ret (results_cell_tmp rfl _ _ w.heap.size 71 (marksV noMarks).toArray (0, 0) _ (.bool false) rfl rfl (whole_setCells' Hrs.out (by simp [marksV_len])) Try.underlying71 rfl (by rw [Try.size_begins]; simp [marksV_len])) rfl ?_
        exact .inl ⟨H3.out, rfl, Hkp.out.setCells (.inr (Nat.le_refl _)) _ _⟩

end Go.Proofs.YtdpeacdilgcloaaR
