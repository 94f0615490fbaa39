/- The document's 'cut': a script's instructions, in memory of its own. Own text. -/
import Derived.Test.YtdpeacdilgcloaaRC1
namespace Go.Proofs.YtdpeacdilgcloaaR
open Go.RowKit

def zeroIns : Value := .agg #[.int .i64 0, .int .i64 0, .int .i64 0]
theorem Try.info_Ins : (Try.prog.info? 61).map (fun i => (i.zero, i.size, i.bytes)) = some (some zeroIns, 3, 24) := by kernel_rfl

theorem wrap_small (x : Int) (h0 : 0 ≤ x) (h1 : x ≤ 9223372036854775807) : wrap64 x = x := by unfold wrap64; omega

theorem byte_of (S : ByteArray) (i : Nat) (h : i < S.size) : (S[i].toNat : Int) = (byteAt S.data.toList i : Int) := by
  unfold byteAt
  rw [List.getD_eq_getElem?_getD, List.getElem?_eq_getElem (by simpa using h)]
  rfl
theorem byte_lt (s : List UInt8) (i : Nat) : byteAt s i < 256 := UInt8.toNat_lt _
theorem longP_le (k : Nat) : longP k ≤ 2 := by unfold longP; split; omega; split <;> omega

/-- all that holds as the cutting goes on -/
structure Cuts (w wr : World) (s : List UInt8) (i : Nat) (v : Value) (acc : List InsP) : Prop where
  rest : ∃ f, s.length ≤ i + f ∧ cutFrom s f i acc = cutP s
  own : wr.ownsRow 0 61 3 v acc.length (iflat acc)
  few : acc.length ≤ i
  k : Keeps [] v.ownBlock.toList w wr

theorem cut_stop {s : List UInt8} {f i : Nat} {acc : List InsP} (h : s.length ≤ i + f) (hi : i < s.length) (hb : longP (byteAt s i) = 0 ∨ s.length < i + longP (byteAt s i)) : cutFrom s f i acc = none := by
  cases f with
  | zero => omega
  | succ f => unfold cutFrom; rw [if_pos hi, if_pos hb]
theorem cut_next {s : List UInt8} {f i : Nat} {acc : List InsP} (h : s.length ≤ i + f) (hi : i < s.length) (hb : ¬ (longP (byteAt s i) = 0 ∨ s.length < i + longP (byteAt s i))) :
    ∃ f', s.length ≤ i + longP (byteAt s i) + f' ∧ cutFrom s f' (i + longP (byteAt s i)) (acc ++ [insAt s i]) = cutFrom s f i acc := by
  cases f with
  | zero => omega
  | succ f =>
    refine ⟨f, by omega, ?_⟩
    rw [show cutFrom s (f + 1) i acc = _ from rfl]
    unfold cutFrom
    rw [if_pos hi, if_neg hb]
    cases f <;> rfl
theorem cut_end {s : List UInt8} {f i : Nat} {acc : List InsP} (hi : ¬ i < s.length) : cutFrom s f i acc = some acc := by
  cases f <;> (unfold cutFrom; rw [if_neg hi])

theorem cuts_step {w wr w2 : World} {s : List UInt8} {k n : Nat} {v : Value} {acc : List InsP} {c : List Value} (X X' : Obj) (hkp : Keeps [] v.ownBlock.toList w wr) (hfew : acc.length ≤ k) (hn : 1 ≤ n) (g cap : Nat)
    (hnext : ∃ f', s.length ≤ k + n + f' ∧ cutFrom s f' (k + n) (acc ++ [insAt s k]) = cutP s) (hc : icells (insAt s k) = c)
    (hown : w2.ownsRow 0 61 3 (.slice (some ⟨g, 0, none⟩) (acc.length + 1) cap) (acc.length + 1) (iflat acc ++ c)) (hgrow : ((wr.alloc X).alloc X').grownBy w2 v.ownBlock) (hat : v.ownBlock = some g ∨ g = wr.heap.size + 1 + 1) :
    Cuts w w2 s (k + n) (.slice (some ⟨g, 0, none⟩) (acc.length + 1) cap) (acc ++ [insAt s k]) := by
  have hnew : ∀ x, v.ownBlock = some x → w.heap.size ≤ x := fun x hx => (hkp.new x (by simp [hx])).elim (fun h => by cases h) id
  refine ⟨hnext, ?_, by simp; omega, ?_⟩
  · have e : iflat (acc ++ [insAt s k]) = iflat acc ++ c := by rw [← hc]; simp [iflat]
    rw [e, List.length_append, List.length_singleton]
    exact hown
  · have k0 : Keeps [] [] w wr := hkp.sub (fun _ h => by cases h)
    refine Keeps.newer (g := []) (((k0.alloc X).alloc X').grown hgrow (fun x hx => .inr (hnew x hx))) ?_
    intro x hx
    right
    have : x = g := by simpa [Value.ownBlock] using hx
    subst this
    rcases hat with e | e
    · exact hnew x e
    · have := hkp.size; omega

set_option maxRecDepth 100000 in
set_option maxHeartbeats 1000000 in
theorem rcut_any (w : World) (S : ByteArray) (hS : S.size ≤ 1000000000000) :
    Calls Try.prog 31 #[.string S] w fun e w' => (cutP S.data.toList = none ∧ e = .returned (.tuple #[.slice none 0 0, .bool false]) ∧ Keeps [] [] w w') ∨
      ∃ l v, cutP S.data.toList = some l ∧ e = .returned (.tuple #[v, .bool true]) ∧ w'.ownsRow 0 61 3 v l.length (iflat l) ∧ l.length ≤ S.size ∧ Keeps [] v.ownBlock.toList w w' := by
  have hszl : S.data.toList.length = S.size := by rw [Array.length_toList]; rfl
  have Hszl := hidden hszl
  clear hszl
  obtain ⟨i0, hi0, hz0, hz1, hz2⟩ := info_parts Try.info_Ins
  go_enter Try.func31, Try.ntmps31
  go_wp2
  go_loopw [4, 5, 6, 7] (fun v i _ _ wr => ∃ (k : Nat) (acc : List InsP), k ≤ S.size ∧ i = .int .i64 k ∧ Cuts w wr S.data.toList k v acc) (fun _ i _ _ _ => S.size - (intOf i).toNat)
  case atStart => exact ⟨0, [], Nat.zero_le _, rfl, ⟨⟨_, by omega, rfl⟩, World.ownsRow_nil _ _ _ _, Nat.le_refl _, Keeps.refl _ _⟩⟩
  case round =>
    obtain ⟨k, acc, hk, rfl, hC⟩ := hrel
    by_cases hlt : k < S.size
    · have hwb : wrap64 ((S[k].toNat : Nat) : Int) = ((byteAt S.data.toList k : Nat) : Int) := by
        rw [byte_of S k hlt]
        have := byte_lt S.data.toList k
        exact wrap_small _ (by omega) (by omega)
      have Hwb := hidden hwb
      clear hwb
      have hltl : k < S.data.toList.length := by rw [Hszl.out]; exact hlt
      have hcs := @cut_stop S.data.toList
      have hcn := @cut_next S.data.toList
      obtain ⟨⟨f, hf, hrest⟩, hown, hfew, hkp⟩ := hC
      have HStop := hidden (fun hb => (hrest.symm.trans (hcs (acc := acc) hf hltl hb)))
      have HNext := hidden (fun hb => hcn (acc := acc) hf hltl hb)
      have HRest := hidden hrest
      have hbl := byte_lt S.data.toList k
      have HI : Hid (icells (insAt S.data.toList k) = [.int .i64 (byteAt S.data.toList k), .int .i64 k, .int .i64 ((if longP (byteAt S.data.toList k) = 2 then byteAt S.data.toList (k + 1) else 0 : Nat) : Int)]) := rfl
      have HOwn := hidden hown
      have HKp := hidden hkp
      clear hcs hcn hrest hown hkp hf hltl
      have hb2 : k + 1 < S.size → wrap64 ((S[k + 1]!.toNat : Nat) : Int) = ((byteAt S.data.toList (k + 1) : Nat) : Int) := by
        intro h2
        have h3 := byte_of S (k + 1) h2
        rw [getElem!_pos S (k + 1) h2, h3]
        have := byte_lt S.data.toList (k + 1)
        exact wrap_small _ (by omega) (by omega)
      have Hb2 := hidden hb2
      clear hb2
      go_wp2_with fail
      rw [Hwb.out]
      clear Hwb
      generalize byteAt S.data.toList k = b at *
      refine (rlong_any b _).mono ?_
      rintro e w5 ⟨rfl, rfl⟩
      have hn2 := longP_le b
      generalize longP b = n at *
      by_cases hn0 : n = 0
      · have HS := hidden (HStop.out (.inl hn0))
        subst hn0
        clear HStop HNext HI
        go_wp2
        go_ret2
        exact .inl ⟨HS.out, rfl, (HKp.out.alloc _).sub (fun _ h => by cases h)⟩
      · have hnb : ((n : Int) == 0) = false := by simp; omega
        by_cases hover : S.size < k + n
        · have HS := hidden (HStop.out (.inr (by rw [Hszl.out]; exact hover)))
          clear HStop HNext HI
          go_wp2
          go_ret2
          exact .inl ⟨HS.out, rfl, (HKp.out.alloc _).sub (fun _ h => by cases h)⟩
        · have HN := hidden (HNext.out (by rw [Hszl.out]; omega))
          clear HStop HNext
          have hover' : ¬ (S.size : Int) < (k : Int) + (n : Int) := by omega
          by_cases h2 : n = 2
          · have h2b : ((n : Int) == 2) = true := by simp [h2]
            have hk1 : k + 1 < S.size := by omega
            have hwb := Hb2.out hk1
            rw [getElem!_pos S (k + 1) hk1] at hwb
            have H2 := hidden h2
            have HI2 : Hid (icells (insAt S.data.toList k) = [.int .i64 b, .int .i64 k, .int .i64 (byteAt S.data.toList (k + 1))]) := by
              show _ = _
              rw [HI.out, if_pos h2]
            have hb2l := byte_lt S.data.toList (k + 1)
            have hn1 : 1 ≤ n := by omega
            clear h2 hn0 Hb2 HI
            generalize byteAt S.data.toList (k + 1) = b2 at *
            have hown2 : ((wr.alloc (.cells #[.int .i64 b, .int .i64 k, .int .i64 b2] 61)).alloc (.cells #[.int .i64 b, .int .i64 k, .int .i64 b2] 61)).ownsRow 0 61 3 u4 acc.length (iflat acc) := (HOwn.out.alloc _).alloc _
            have hnews : ∀ j u, [Value.int .i64 b, .int .i64 k, .int .i64 b2][j]? = some u → ((wr.alloc (.cells #[.int .i64 b, .int .i64 k, .int .i64 b2] 61)).alloc (.cells #[.int .i64 b, .int .i64 k, .int .i64 b2] 61)).cell? ((⟨wr.heap.size + 1, 0, none⟩ : Addr).add j) = some u :=
              World.news_of_block (cs := #[.int .i64 b, .int .i64 k, .int .i64 b2]) (by have := newB (wr.alloc (.cells #[.int .i64 b, .int .i64 k, .int .i64 b2] 61)) (.cells #[.int .i64 b, .int .i64 k, .int .i64 b2] 61); rw [World.size_alloc] at this; exact this)
            have hone : ∀ u ∈ [Value.int .i64 b, .int .i64 k, .int .i64 b2], u.oneCell' = true := by
              intro u hu
              simp only [List.mem_cons, List.not_mem_nil, or_false] at hu
              rcases hu with rfl | rfl | rfl <;> rfl
            have Hown2 := hidden hown2
            have Hnews := hidden hnews
            clear hown2 hnews
            go_wp2_with (first | (at_builtin; refine wpList_append_lies _ rfl (.tmp 39) (.tmp 41) 57 rfl 0 61 i0 zeroIns 3 24 Try.underlying57 hi0 hz0 hz1 hz2 rfl (by decide) u4 acc.length (iflat acc) (by rfl) Hown2.out ⟨wr.heap.size + 1, 0, none⟩ 1 1 [.int .i64 b, .int .i64 k, .int .i64 b2] (by rfl) rfl Hnews.out hone (by decide) (by unfold maxLen; omega) (by omega) (Nat.zero_le _) _ rfl ?_))
            intro g cap w6 hown6 hgrow hat hlt6
            have HC := hidden (cuts_step _ _ HKp.out hfew (by omega) g cap ⟨HN.out.choose, HN.out.choose_spec.1, HN.out.choose_spec.2.trans HRest.out⟩ HI2.out hown6 hgrow hat)
            clear hown6 hgrow hat hlt6
            go_wp2
            go_roundw
            case rel => exact ⟨k + n, _, by omega, by go_num, HC.out⟩
            case measure => simp [intOf]; omega
          · have h2b : ((n : Int) == 2) = false := by simp; omega
            have HI2 : Hid (icells (insAt S.data.toList k) = [.int .i64 b, .int .i64 k, .int .i64 0]) := by
              show _ = _
              rw [HI.out, if_neg h2]
              rfl
            clear h2 Hb2 HI
            have hown2 : ((wr.alloc (.cells #[.int .i64 b, .int .i64 k, .int .i64 0] 61)).alloc (.cells #[.int .i64 b, .int .i64 k, .int .i64 0] 61)).ownsRow 0 61 3 u4 acc.length (iflat acc) := (HOwn.out.alloc _).alloc _
            have hnews : ∀ j u, [Value.int .i64 b, .int .i64 k, .int .i64 0][j]? = some u → ((wr.alloc (.cells #[.int .i64 b, .int .i64 k, .int .i64 0] 61)).alloc (.cells #[.int .i64 b, .int .i64 k, .int .i64 0] 61)).cell? ((⟨wr.heap.size + 1, 0, none⟩ : Addr).add j) = some u :=
              World.news_of_block (cs := #[.int .i64 b, .int .i64 k, .int .i64 0]) (by have := newB (wr.alloc (.cells #[.int .i64 b, .int .i64 k, .int .i64 0] 61)) (.cells #[.int .i64 b, .int .i64 k, .int .i64 0] 61); rw [World.size_alloc] at this; exact this)
            have hone : ∀ u ∈ [Value.int .i64 b, .int .i64 k, .int .i64 0], u.oneCell' = true := by
              intro u hu
              simp only [List.mem_cons, List.not_mem_nil, or_false] at hu
              rcases hu with rfl | rfl | rfl <;> rfl
            have Hown2 := hidden hown2
            have Hnews := hidden hnews
            clear hown2 hnews
            go_wp2_with (first | (at_builtin; refine wpList_append_lies _ rfl (.tmp 39) (.tmp 41) 57 rfl 0 61 i0 zeroIns 3 24 Try.underlying57 hi0 hz0 hz1 hz2 rfl (by decide) u4 acc.length (iflat acc) (by rfl) Hown2.out ⟨wr.heap.size + 1, 0, none⟩ 1 1 [.int .i64 b, .int .i64 k, .int .i64 0] (by rfl) rfl Hnews.out hone (by decide) (by unfold maxLen; omega) (by omega) (Nat.zero_le _) _ rfl ?_))
            intro g cap w6 hown6 hgrow hat hlt6
            have HC := hidden (cuts_step _ _ HKp.out hfew (by omega) g cap ⟨HN.out.choose, HN.out.choose_spec.1, HN.out.choose_spec.2.trans HRest.out⟩ HI2.out hown6 hgrow hat)
            clear hown6 hgrow hat hlt6
            go_wp2
            go_roundw
            case rel => exact ⟨k + n, _, by omega, by go_num, HC.out⟩
            case measure => simp [intOf]; omega
    · have hke : k = S.size := by omega
      obtain ⟨⟨f, hf, hrest⟩, hown, hfew, hkp⟩ := hC
      have HE := hidden (hrest.symm.trans (cut_end (s := S.data.toList) (f := f) (i := k) (acc := acc) (by rw [Hszl.out]; omega)))
      have HOwn := hidden hown
      have HKp := hidden hkp
      clear hrest hown hkp hf
      go_wp2
      go_ret2
      exact .inr ⟨acc, u4, HE.out, rfl, HOwn.out, by omega, HKp.out⟩

end Go.Proofs.YtdpeacdilgcloaaR
