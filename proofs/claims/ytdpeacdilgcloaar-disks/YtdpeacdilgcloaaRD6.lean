/- PROVED HERE: whatever number of sectors and whatever list of deeds it is given, the statement Disks returns true, and its arguments read as they did. No condition beyond the form's own (a slice that comes in takes fewer than 2^47 bytes: so there are fewer than 2932031008000 deeds, and the program's list of unsynced writes, 72 bytes a write, asks for less than 2^48 bytes whenever it grows). -/
import Derived.Test.YtdpeacdilgcloaaRD5
import Derived.Test.YtdpeacdilgcloaaRRow0
namespace Go.Proofs.YtdpeacdilgcloaaR
open Go.ChangeShapes Go.WideShapes Go.ChangeAt Go.RowKit

theorem Try.cells_Deed : Try.prog.cellsOf 32 = 5 := by kernel_rfl
theorem Try.bytes_Deed : Try.prog.bytesOf 32 = 48 := by kernel_rfl
theorem Try.cells_int : Try.prog.cellsOf 3 = 1 := by kernel_rfl


set_option maxRecDepth 100000 in
/-- a deed that can be read lies there, cell by cell -/
theorem deed_of {H : Type} {enc : TypeId × Value → H} {w : World} {base : Nat} {spare : Nat → Bool} {held : Bool} {n : Nat} {b o : Nat} {cs : List Value} {x : DataW H × List MemPlace}
    (hc : w.cells? base ⟨b, o, none⟩ 5 = some cs) (h : DataW.trod enc Try.prog w base spare held n 32 cs = some x) : DeedAt w b o := by
  obtain ⟨_, hlen, hcell⟩ := World.cells?_some hc
  obtain ⟨xs, m, _, _, _, hxl, hf⟩ := DataW.trod_struct Try.underlying32 h
  match xs, hxl with
  | [y0, y1, y2, y3, y4], _ =>
    match cs, hlen with
    | [v0, v1, v2, v3, v4], _ =>
      have g0 : DataW.trod enc Try.prog w base spare held m 3 [v0] = some y0 := hf 0 _ rfl
      have g1 : DataW.trod enc Try.prog w base spare held m 3 [v1] = some y1 := hf 1 _ rfl
      have g2 : DataW.trod enc Try.prog w base spare held m 3 [v2] = some y2 := hf 2 _ rfl
      have g3 : DataW.trod enc Try.prog w base spare held m 3 [v3] = some y3 := hf 3 _ rfl
      have g4 : DataW.trod enc Try.prog w base spare held m 9 [v4] = some y4 := hf 4 _ rfl
      obtain ⟨K, e0, _, w0⟩ := DataW.trod_int Try.underlying3 g0
      obtain ⟨A, e1, _, w1⟩ := DataW.trod_int Try.underlying3 g1
      obtain ⟨B, e2, _, w2⟩ := DataW.trod_int Try.underlying3 g2
      obtain ⟨C, e3, _, w3⟩ := DataW.trod_int Try.underlying3 g3
      obtain ⟨S, e4, _, w4⟩ := DataW.trod_string Try.underlying9 g4
      have c : ∀ j, j < 5 → w.cell? ⟨b, o + j, none⟩ = [v0, v1, v2, v3, v4][j]? := fun j hj => by have := hcell j hj; rwa [Addr.add_mid] at this
      simp only [List.cons.injEq, and_true] at e0 e1 e2 e3 e4
      subst e0 e1 e2 e3 e4
      exact ⟨K, A, B, C, S, by simpa using c 0 (by omega), by simpa using c 1 (by omega), by simpa using c 2 (by omega), by simpa using c 3 (by omega), by simpa using c 4 (by omega), (bounds_i64 w1).2, bounds_i64 w2, (bounds_i64 w3).2, w4⟩

theorem walk (w : World) (n : Int) (sa : Option Addr) (len cap : Nat) (hlen : len < 2932031008000)
    (hs : 0 < len → ∃ b off, sa = some ⟨b, off, none⟩ ∧ b < w.heap.size ∧ ∀ i, i < len → DeedAt w b (off + i * 5)) :
    Calls Try.prog 3 #[.int .i64 n, .slice sa len cap] w fun e w' => e = .returned (.bool true) ∧ Below w.heap.size w w' := by
  by_cases h : 48 ≤ n ∧ n ≤ 128
  · obtain ⟨k, rfl⟩ := Int.eq_ofNat_of_zero_le (show 0 ≤ n by omega)
    exact (disks_ok w k (by omega) (by omega) sa len cap hlen hs).mono fun e w' ⟨he, hk⟩ => ⟨he, hk.below⟩
  · exact (disks_no w n (by omega) sa len cap hlen hs).mono fun e w' ⟨he, hk⟩ => ⟨he, hk.below⟩

set_option maxRecDepth 100000 in
theorem contract (H : Type) (enc : TypeId × Value → H) (W : World) (base : Nat) (args : Array Value) (ds gs : List (DataW H)) (before : List MemPlace)
    (hval : ∀ (j : Nat) t v, Try.f3.params[j]? = some t → args[j]? = some v → Value.okWide Try.prog W .any base t v)
    (hW : DataW.Whole enc Try.prog Try.f3.params.toList Rows.disksSpec.vars false W args.toList ds gs before)
    (hsz : (DataW.weightsEach Try.prog (Try.f3.params.toList ++ Rows.disksSpec.plain.varTypes Try.prog) (ds ++ gs)).all (· ≤ reachBytes) = true) :
    Calls Try.prog 3 args W fun e W' => ∃ v, e = .returned v ∧ Rows.disksSpec.post enc Try.prog Try.f3 false true false false W args v W' := by
  have hW' := hW
  obtain ⟨p, q, hA0, hV, rfl, hfz, hnd⟩ := hW
  have hA : DataW.TrodAll enc Try.prog W 0 (fun _ => true) true Try.f3.params.toList args.toList ds p := hA0
  rw [Try.params3] at hA hval hsz
  obtain ⟨v0, vs0, d0, ds0, p0, q0, hargs, rfl, rfl, h0, r0⟩ := trodAll_cons hA
  obtain ⟨v1, vs1, d1, ds1, p1, q1, rfl, rfl, rfl, h1, r1⟩ := trodAll_cons r0
  obtain ⟨rfl, rfl, rfl⟩ := trodAll_nil r1
  obtain rfl : args = #[v0, v1] := by cases args; simp_all
  obtain ⟨rfl, rfl⟩ := trodVars_none hV
  obtain ⟨n, rfl, rfl, rfl, wn⟩ := open_int Try.underlying3 (hval 0 3 v0 rfl rfl) h0
  obtain ⟨sa, len, cap, rfl⟩ := okWide_slice Try.underlying22 (hval 1 22 v1 rfl rfl)
  have k1 := h1
  have lt1 : ∀ x ∈ p1, x.block < W.heap.size := by obtain ⟨m, hm⟩ := k1; exact DataW.trod_lt m _ _ _ hm
  have hs : len < 2932031008000 ∧ (0 < len → ∃ b off, sa = some ⟨b, off, none⟩ ∧ b < W.heap.size ∧ ∀ i, i < len → DeedAt W b (off + i * 5)) := by
    obtain ⟨fuel, hf⟩ := h1
    rcases Go.Deep.open_slice Try.underlying22 hf with ⟨hcs, _⟩ | ⟨a, l, c, m, nn, D, Pl, hcs, _, hl, hm, hmm, hx, hel⟩
    · simp [Value.cells] at hcs
      obtain ⟨rfl, rfl, rfl⟩ := hcs
      exact ⟨by omega, fun h => absurd h (by omega)⟩
    · simp [Value.cells] at hcs
      obtain ⟨rfl, rfl, rfl⟩ := hcs
      have hml : m = cap := by simpa using hmm
      subst hml
      refine ⟨?_, fun hpos => ?_⟩
      · simp only [Prod.mk.injEq] at hx
        have hb := sized_slice hsz (j := 1) (t := 22) (e := 32) rfl (by rw [hx.1]; rfl) Try.underlying22
        rw [Try.bytes_Deed] at hb
        simp only [List.length_map, List.length_range, reachBytes] at hb
        omega
      · rw [Try.cells_Deed] at hel
        obtain ⟨b, off, spot⟩ := a
        have hsp : spot = none := by
          obtain ⟨cs, hc, _⟩ := hel 0 (by omega)
          obtain ⟨_, hlen, hcell⟩ := World.cells?_some hc
          have := hcell 0 (by omega)
          rw [List.getElem?_eq_getElem (by omega)] at this
          simpa [Addr.add] using World.cell?_spot this
        subst hsp
        refine ⟨b, off, rfl, ?_, ?_⟩
        · obtain ⟨cs, hc, _⟩ := hel 0 (by omega)
          obtain ⟨_, hlen, hcell⟩ := World.cells?_some hc
          have := hcell 0 (by omega)
          rw [List.getElem?_eq_getElem (by omega)] at this
          exact World.block_lt_of_cell? W _ (by simpa [Addr.add] using this)
        · intro i hi
          obtain ⟨cs, hc, ht⟩ := hel i (by omega)
          rw [Addr.add_mid] at hc
          exact deed_of hc ht
  refine (walk W n sa len cap hs.1 hs.2).mono fun e W' ⟨he, bel⟩ => ?_
  subst he
  exact ⟨_, rfl, _, _, _, [], _, [], hW', trodAll_mk1 (shut_bool Try.underlying4 _), (trodAll_cons_mk (shut_int Try.underlying3 wn) (trodAll_cons_mk (Below.trod laid_out (by kernel_rfl) (of_decide_eq_true (by kernel_rfl)) k1 bel lt1) trodAll_mk0)), rfl, bel.frame _, fun h => by cases h⟩

set_option maxRecDepth 100000 in
theorem lifted (os : Os) (started : os.Started) (H : Type) (enc : TypeId × Value → H) :
    ReturnsInHanded {} Try.checked os 3 .any (Rows.disksSpec.pre6 enc Try.prog Try.f3 Rows.disksRow.domain false) (Rows.disksSpec.post enc Try.prog Try.f3 false true false false) := by
  refine returnsInHanded_of_change_sized (C := Try.checked) own_knob started (by kernel_rfl) Try.func3
    (ChangeSpec.witness6 (enc := enc) (C := Try.checked) false ⟨#[], #[.int .i64 0, .slice none 0 0], []⟩ 8 (by kernel_rfl) (by kernel_rfl) (by kernel_rfl) (by kernel_rfl)) ?_
  intro W base args ds gs before hval hW _ hsz _
  exact contract H enc W base args ds gs before hval hW hsz

/-- THE STATEMENT -/
theorem disks_holds : Rows.DisksSaid :=
  OpenClaim.holds_of_wide 3 Try.f3 rfl rfl rfl rfl rfl rfl rfl ⟨rfl, rfl, rfl, rfl, rfl⟩ rfl rfl rfl rfl rfl (by kernel_rfl) Try.func3 (by kernel_rfl)
    (of_decide_eq_true (by kernel_rfl)) (by unfold Func.isWrapper; first | (rw [if_pos (by decide +kernel)]; kernel_rfl) | (rw [if_neg (by decide +kernel)]; exact ⟨rfl, rfl⟩))
    (fun os started H enc _ => lifted os started H enc)

#print axioms disks_holds

end Go.Proofs.YtdpeacdilgcloaaR
