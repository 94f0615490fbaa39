/- The plain state of a disk and what it means that a program's disk, or the document's, lies in memory: definitions and frames. Own text. -/
import Derived.Test.YtdpeacdilgcloaaRRows
import Derived.WalkKit
import Derived.Deep.MidRow
import Derived.Deep.AppendLies
namespace Go.Proofs.YtdpeacdilgcloaaR
open Go.RowKit

theorem hidden {p : Prop} (h : p) : Hid p := h

theorem either {a b c d : Prop} (h : a ∨ b) (f : a → c) (g : b → d) : c ∨ d := by
  rcases h with h | h
  · exact .inl (f h)
  · exact .inr (g h)

/-! ### The state of a disk, in plain words -/
structure DS where
  n : Nat
  last : List (List UInt8)
  opn : List (Nat × List UInt8)
  on : Bool
  fuse : Option (Int × Int × Int)
  writes : Nat
  claim : Int

/-- what comes of so many of the writes, one behind the other -/
def goTo (f : Nat → Nat × List UInt8 → List (List UInt8) → List (List UInt8)) (o : List (Nat × List UInt8)) (l : List (List UInt8)) : Nat → List (List UInt8)
  | 0 => l
  | k + 1 => f k (o.getD k (0, [])) (goTo f o l k)

/-- the first k bytes of d, laid over sector a -/
def lay (a : Nat) (d : List UInt8) (k : Nat) (l : List (List UInt8)) : List (List UInt8) := l.set a (d.take k ++ (l.getD a []).drop k)

def bitOf (mask : Int) (i : Nat) : Bool := decide (mask / 2 ^ (i % 16) % 2 = 1)

/-- how many bytes of the write i last -/
def lastN (i count : Nat) (mask tear : Int) : Nat :=
  if (i : Int) = tear % count then (min (tear / 16) 64).toNat else if bitOf mask i then 64 else 0

def failTo (s : DS) (mask tear : Int) : Nat → List (List UInt8) :=
  goTo (fun i x l => lay x.1 x.2 (lastN i s.opn.length mask tear) l) s.opn s.last
def syncTo (s : DS) : Nat → List (List UInt8) := goTo (fun _ x l => l.set x.1 x.2) s.opn s.last
def DS.now (s : DS) : List (List UInt8) := syncTo s s.opn.length
def DS.fails (s : DS) (mask tear : Int) : DS := { s with last := failTo s mask tear s.opn.length, opn := [], on := false, fuse := none }

/-- a Write or a Sync is to be done -/
def DS.spend (s : DS) : DS × Bool :=
  match s.fuse with
  | none => (s, s.on)
  | some (l, m, t) => if l = 0 then (s.fails m t, false) else ({ s with fuse := some (l - 1, m, t) }, true)

def DS.synced (s : DS) : DS := { s with last := s.now, opn := [] }
def DS.sync (s : DS) : DS × Int := if s.spend.2 then (s.spend.1.synced, 0) else (s.spend.1, 4)
def DS.add (s : DS) (a : Nat) (d : List UInt8) : DS := { s with opn := s.opn ++ [(a, d)], writes := s.writes + 1 }
def DS.write (s : DS) (at_ : Int) (d : List UInt8) : DS × Int :=
  if 0 ≤ at_ ∧ at_ < s.n then
    if d.length = 64 then
      if s.spend.2 then (s.spend.1.add at_.toNat d, 0) else (s.spend.1, 4)
    else (s, 3)
  else (s, 2)
def DS.read (s : DS) (at_ : Int) : List UInt8 × Int :=
  if 0 ≤ at_ ∧ at_ < s.n then (if s.on then (s.now.getD at_.toNat [], 0) else ([], 4)) else ([], 2)
def DS.setFuse (s : DS) (a m t : Int) : DS := if s.on then { s with fuse := some (max a 0, m, max t 0) } else s
def DS.restart (s : DS) : DS := if s.on then { s.fails 0 0 with on := true, claim := wrap64 (s.claim + 1) } else { s with on := true, claim := wrap64 (s.claim + 1) }
/-- a sector at first -/
def blank : List UInt8 := List.replicate 64 0
def DS.born (n : Nat) : DS := { n := n, last := List.replicate n blank, opn := [], on := true, fuse := none, writes := 0, claim := 0 }

structure DS.Wf (s : DS) : Prop where
  n48 : 48 ≤ s.n
  n128 : s.n ≤ 128
  len : s.last.length = s.n
  sec : ∀ d ∈ s.last, d.length = 64
  opn : ∀ x ∈ s.opn, x.1 < s.n ∧ x.2.length = 64
  fon : s.fuse.isSome = true → s.on = true
  off : s.on = false → s.opn = []
  fl : ∀ l m t, s.fuse = some (l, m, t) → 0 ≤ l ∧ l ≤ 9223372036854775807 ∧ -9223372036854775808 ≤ m ∧ m ≤ 9223372036854775807 ∧ 0 ≤ t ∧ t ≤ 9223372036854775807
  cnt : s.opn.length ≤ s.writes

/-! ### Values -/
def byteV (b : UInt8) : Value := .int .u8 b.toNat
def cellsB (d : List UInt8) : List Value := d.map byteV
def flat (l : List (List UInt8)) : List Value := l.flatMap cellsB
def wcells (x : Nat × List UInt8) : List Value := .int .i64 x.1 :: cellsB x.2
def wflat (l : List (Nat × List UInt8)) : List Value := l.flatMap wcells
def str (d : List UInt8) : Value := .string ⟨d.toArray⟩
def rcells (x : Nat × List UInt8) : List Value := [.int .i64 x.1, str x.2]
def rflat (l : List (Nat × List UInt8)) : List Value := l.flatMap rcells

def ptrB : Value → List Nat
  | .pointer (some a) => [a.block]
  | _ => []

def FuseAt (w : World) (F : Value) : Option (Int × Int × Int) → Prop
  | none => F = .pointer none
  | some (l, m, t) => ∃ bf, F = .pointer (some ⟨bf, 0, none⟩) ∧ w.heap[bf]? = some (.cells #[.int .i64 l, .int .i64 m, .int .i64 t] 83 (0, 0))

def fpP (bi bs bn : Nat) (U F : Value) : List Nat := bi :: bs :: bn :: (U.ownBlock.toList ++ ptrB F)

/-- the program's inner disk, its parts by name -/
structure PDx (w : World) (bi bs bn : Nat) (U F : Value) (s : DS) : Prop where
  hbi : w.heap[bi]? = some (.cells #[.slice (some ⟨bs, 0, none⟩) s.n s.n, .slice (some ⟨bn, 0, none⟩) s.n s.n, U, F, .bool s.on, .int .i64 s.writes, .int .i64 s.claim] 67 (0, 0))
  hbs : w.heap[bs]? = some (.cells (flat s.last).toArray 79 (0, 0))
  hbn : w.heap[bn]? = some (.cells (flat s.now).toArray 79 (0, 0))
  hU : w.ownsRow 0 81 65 U s.opn.length (wflat s.opn)
  hF : FuseAt w F s.fuse
  wf : s.Wf
  nd : (fpP bi bs bn U F).Nodup

def PD (w : World) (bi : Nat) (fp : List Nat) (s : DS) : Prop := ∃ bs bn U F, PDx w bi bs bn U F s ∧ fp = fpP bi bs bn U F

/-- the document's disk -/
structure RDx (w : World) (br : Nat) (L O : Value) (l m t : Int) (s : DS) : Prop where
  hbr : w.heap[br]? = some (.cells #[L, O, .bool s.on, .bool s.fuse.isSome, .int .i64 l, .int .i64 m, .int .i64 t, .int .i64 s.writes] 45 (0, 0))
  hL : w.ownsRow 0 9 1 L s.n (s.last.map str)
  hO : w.ownsRow 0 69 2 O s.opn.length (rflat s.opn)
  hf : ∀ l' m' t', s.fuse = some (l', m', t') → l = l' ∧ m = m' % 65536 ∧ t = t'
  wf : s.Wf
  nd : (br :: (L.ownBlock.toList ++ O.ownBlock.toList)).Nodup

def RD (w : World) (br : Nat) (fp : List Nat) (s : DS) : Prop := ∃ L O l m t, RDx w br L O l m t s ∧ fp = br :: (L.ownBlock.toList ++ O.ownBlock.toList)

/-! ### Frames -/
/-- w' is w but for the blocks fp, and new ones; fp' are of fp or new -/
structure Keeps (fp fp' : List Nat) (w w' : World) : Prop where
  os : w'.os = w.os
  tape : w'.tape = w.tape
  output : w'.output = w.output
  size : w.heap.size ≤ w'.heap.size
  block : ∀ k, k < w.heap.size → k ∉ fp → w'.heap[k]? = w.heap[k]?
  new : ∀ k, k ∈ fp' → k ∈ fp ∨ w.heap.size ≤ k

theorem Keeps.refl (fp : List Nat) (w : World) : Keeps fp fp w w := ⟨rfl, rfl, rfl, Nat.le_refl _, fun _ _ _ => rfl, fun _ h => .inl h⟩

theorem Keeps.trans {f g h : List Nat} {a b c : World} (x : Keeps f g a b) (y : Keeps g h b c) : Keeps f h a c := by
  refine ⟨y.os.trans x.os, y.tape.trans x.tape, y.output.trans x.output, Nat.le_trans x.size y.size, ?_, ?_⟩
  · intro k hk hn
    refine (y.block k (Nat.lt_of_lt_of_le hk x.size) ?_).trans (x.block k hk hn)
    intro hg
    rcases x.new k hg with h | h
    · exact hn h
    · omega
  · intro k hk
    rcases y.new k hk with h | h
    · exact x.new k h
    · exact .inr (Nat.le_trans x.size h)

theorem Keeps.sub {f g g' : List Nat} {a b : World} (x : Keeps f g a b) (h : ∀ k ∈ g', k ∈ g) : Keeps f g' a b := ⟨x.os, x.tape, x.output, x.size, x.block, fun k hk => x.new k (h k hk)⟩

theorem Keeps.wide {f f' g : List Nat} {a b : World} (x : Keeps f g a b) (h : ∀ k ∈ f, k ∈ f') : Keeps f' g a b :=
  ⟨x.os, x.tape, x.output, x.size, fun k hk hn => x.block k hk (fun e => hn (h k e)), fun k hk => either (x.new k hk) (h k) id⟩

theorem Keeps.drew {f g : List Nat} {a b : World} (x : Keeps f g a b) : Keeps f g a b.drew := ⟨x.os, x.tape, x.output, x.size, x.block, x.new⟩

theorem oldB (w : World) (o : Obj) (i : Nat) (h : i < w.heap.size) : (w.alloc o).heap[i]? = w.heap[i]? := by
  show (w.heap.push o)[i]? = w.heap[i]?
  rw [Array.getElem?_push, if_neg (Nat.ne_of_lt h)]
theorem newB (w : World) (o : Obj) : (w.alloc o).heap[w.heap.size]? = some o := by
  show (w.heap.push o)[w.heap.size]? = some o
  simp

theorem Keeps.alloc {f g : List Nat} {a b : World} (x : Keeps f g a b) (o : Obj) : Keeps f g a (b.alloc o) := by
  refine ⟨x.os, x.tape, x.output, by simp; have := x.size; omega, ?_, x.new⟩
  intro k hk hn
  rw [oldB b o k (Nat.lt_of_lt_of_le hk x.size)]
  exact x.block k hk hn

theorem Keeps.allocNew {f g : List Nat} {a b : World} (x : Keeps f g a b) (o : Obj) : Keeps f (b.heap.size :: g) a (b.alloc o) := by
  refine ⟨x.os, x.tape, x.output, by simp; have := x.size; omega, ?_, ?_⟩
  · intro k hk hn
    rw [oldB b o k (Nat.lt_of_lt_of_le hk x.size)]
    exact x.block k hk hn
  · intro k hk
    rcases List.mem_cons.1 hk with rfl | h
    · exact .inr x.size
    · exact x.new k h

theorem Keeps.setCell {f g : List Nat} {a b : World} (x : Keeps f g a b) {p : Addr} (hp : p.block ∈ f ∨ a.heap.size ≤ p.block) (v : Value) : Keeps f g a (b.setCell p v) := by
  refine ⟨x.os, x.tape, x.output, by simp; exact x.size, ?_, x.new⟩
  intro k hk hn
  rw [heap_setCell_other b p k v (fun e => by rcases hp with h | h; exact hn (e ▸ h); omega)]
  exact x.block k hk hn

theorem Keeps.setRow {f g : List Nat} {a b : World} (x : Keeps f g a b) {r : Nat} (hp : r ∈ f ∨ a.heap.size ≤ r) (cs : Array Value) : Keeps f g a (b.setRow r cs) := by
  refine ⟨x.os, x.tape, x.output, by simp; exact x.size, ?_, x.new⟩
  intro k hk hn
  rw [setRow_other b r k cs (fun e => by rcases hp with h | h; exact hn (e ▸ h); omega)]
  exact x.block k hk hn

theorem size_setCells (b : Nat) : ∀ (vs : List Value) (o : Nat) (w : World), (w.setCells b o vs).heap.size = w.heap.size
  | [], _, _ => rfl
  | v :: r, o, w => by rw [World.setCells, size_setCells b r (o + 1)]; simp
theorem other_setCells (b k : Nat) (hk : k ≠ b) : ∀ (vs : List Value) (o : Nat) (w : World), (w.setCells b o vs).heap[k]? = w.heap[k]?
  | [], _, _ => rfl
  | v :: r, o, w => by rw [World.setCells, other_setCells b k hk r (o + 1), heap_setCell_other _ _ _ _ hk]
theorem streams_setCells (b : Nat) : ∀ (vs : List Value) (o : Nat) (w : World), (w.setCells b o vs).os = w.os ∧ (w.setCells b o vs).tape = w.tape ∧ (w.setCells b o vs).output = w.output
  | [], _, _ => ⟨rfl, rfl, rfl⟩
  | v :: r, o, w => by rw [World.setCells]; exact streams_setCells b r (o + 1) (w.setCell ⟨b, o, none⟩ v)

theorem Keeps.setCells {f g : List Nat} {a b : World} (x : Keeps f g a b) {r : Nat} (hp : r ∈ f ∨ a.heap.size ≤ r) (o : Nat) (vs : List Value) : Keeps f g a (b.setCells r o vs) := by
  obtain ⟨h1, h2, h3⟩ := streams_setCells r vs o b
  refine ⟨h1.trans x.os, h2.trans x.tape, h3.trans x.output, by rw [size_setCells]; exact x.size, ?_, x.new⟩
  intro k hk hn
  rw [other_setCells r k (fun e => by rcases hp with h | h; exact hn (e ▸ h); omega)]
  exact x.block k hk hn

theorem Keeps.grown {f g : List Nat} {a b c : World} {row : Option Nat} (x : Keeps f g a b) (y : b.grownBy c row) (h : ∀ k, row = some k → k ∈ f ∨ a.heap.size ≤ k) : Keeps f g a c := by
  refine ⟨y.os.trans x.os, y.tape.trans x.tape, y.output.trans x.output, Nat.le_trans x.size y.size, ?_, x.new⟩
  intro k hk hn
  rw [y.block k (Nat.lt_of_lt_of_le hk x.size) (fun e => by rcases h k e.symm with h | h; exact hn h; omega)]
  exact x.block k hk hn

theorem Keeps.newer {f g g' : List Nat} {a b : World} (x : Keeps f g a b) (h : ∀ k ∈ g', k ∈ f ∨ a.heap.size ≤ k) : Keeps f g' a b := ⟨x.os, x.tape, x.output, x.size, x.block, h⟩

theorem own_of_block {w w' : World} {base : Nat} {e : TypeId} {size : Nat} {v : Value} {n : Nat} {xs : List Value} (h : w.ownsRow base e size v n xs)
    (hb : ∀ g, v.ownBlock = some g → w'.heap[g]? = w.heap[g]?) : w'.ownsRow base e size v n xs := by
  refine ⟨h.1, ?_⟩
  rcases h.2 with h | ⟨g, cap, cur, hv, h1, hg, h2⟩
  · exact .inl h
  · refine .inr ⟨g, cap, cur, hv, h1, ?_, h2⟩
    rw [hb g (by rw [hv]; rfl)]
    exact hg

theorem own_lt {w : World} {base : Nat} {e : TypeId} {size : Nat} {v : Value} {n : Nat} {xs : List Value} (h : w.ownsRow base e size v n xs) : ∀ g, v.ownBlock = some g → g < w.heap.size := by
  intro g hg
  rcases h.2 with ⟨h, _⟩ | ⟨g', cap, cur, hv, h1, hh, h2⟩
  · rw [h] at hg; cases hg
  · rw [hv] at hg
    have : g' = g := by simpa [Value.ownBlock] using hg
    subst this
    rcases Nat.lt_or_ge g' w.heap.size with hlt | hge
    · exact hlt
    · rw [Array.getElem?_eq_none hge] at hh; cases hh

theorem FuseAt.of_block {w w' : World} {F : Value} : ∀ {f : Option (Int × Int × Int)}, FuseAt w F f → (∀ g, g ∈ ptrB F → w'.heap[g]? = w.heap[g]?) → FuseAt w' F f
  | none, h, _ => h
  | some (l, m, t), ⟨bf, hF, hb⟩, hk => ⟨bf, hF, by rw [hk bf (by rw [hF]; exact List.mem_singleton.2 rfl)]; exact hb⟩

theorem lt_of_block {w : World} {b : Nat} {o : Obj} (h : w.heap[b]? = some o) : b < w.heap.size := by
  rcases Nat.lt_or_ge b w.heap.size with hlt | hge
  · exact hlt
  · rw [Array.getElem?_eq_none hge] at h; cases h

theorem PDx.lt {w : World} {bi bs bn : Nat} {U F : Value} {s : DS} (h : PDx w bi bs bn U F s) : ∀ k ∈ fpP bi bs bn U F, k < w.heap.size := by
  intro k hk
  simp only [fpP, List.mem_cons, List.mem_append, Option.mem_toList] at hk
  rcases hk with rfl | rfl | rfl | hk | hk
  · exact lt_of_block h.hbi
  · exact lt_of_block h.hbs
  · exact lt_of_block h.hbn
  · exact own_lt h.hU k hk
  · have hF := h.hF
    cases hf : s.fuse with
    | none => rw [hf] at hF; rw [show F = _ from hF] at hk; cases hk
    | some x =>
      obtain ⟨l, m, t⟩ := x
      rw [hf] at hF
      obtain ⟨bf, rfl, hb⟩ := hF
      simp only [ptrB, List.mem_singleton] at hk
      subst hk
      exact lt_of_block hb

theorem PD.lt {w : World} {bi : Nat} {fp : List Nat} {s : DS} (h : PD w bi fp s) : ∀ k ∈ fp, k < w.heap.size := by
  obtain ⟨bs, bn, U, F, h, rfl⟩ := h
  exact h.lt

theorem PDx.frame {w w' : World} {bi bs bn : Nat} {U F : Value} {s : DS} (h : PDx w bi bs bn U F s) (hk : ∀ k ∈ fpP bi bs bn U F, w'.heap[k]? = w.heap[k]?) : PDx w' bi bs bn U F s := by
  have m : ∀ k, k = bi ∨ k = bs ∨ k = bn ∨ U.ownBlock = some k ∨ k ∈ ptrB F → w'.heap[k]? = w.heap[k]? := fun k h => hk k (by simpa [fpP] using h)
  exact ⟨by rw [m bi (by simp)]; exact h.hbi, by rw [m bs (by simp)]; exact h.hbs, by rw [m bn (by simp)]; exact h.hbn, own_of_block h.hU (fun g hg => m g (by simp [hg])),
    h.hF.of_block (fun g hg => m g (by simp [hg])), h.wf, h.nd⟩

theorem PD.frame {w w' : World} {bi : Nat} {fp : List Nat} {s : DS} (h : PD w bi fp s) (hk : ∀ k ∈ fp, w'.heap[k]? = w.heap[k]?) : PD w' bi fp s := by
  obtain ⟨bs, bn, U, F, h, rfl⟩ := h
  exact ⟨bs, bn, U, F, h.frame hk, rfl⟩

theorem RDx.lt {w : World} {br : Nat} {L O : Value} {l m t : Int} {s : DS} (h : RDx w br L O l m t s) : ∀ k ∈ br :: (L.ownBlock.toList ++ O.ownBlock.toList), k < w.heap.size := by
  intro k hk
  simp only [List.mem_cons, List.mem_append, Option.mem_toList] at hk
  rcases hk with rfl | hk | hk
  · exact lt_of_block h.hbr
  · exact own_lt h.hL k hk
  · exact own_lt h.hO k hk

theorem RD.lt {w : World} {br : Nat} {fp : List Nat} {s : DS} (h : RD w br fp s) : ∀ k ∈ fp, k < w.heap.size := by
  obtain ⟨L, O, l, m, t, h, rfl⟩ := h
  exact h.lt

theorem RDx.frame {w w' : World} {br : Nat} {L O : Value} {l m t : Int} {s : DS} (h : RDx w br L O l m t s) (hk : ∀ k ∈ br :: (L.ownBlock.toList ++ O.ownBlock.toList), w'.heap[k]? = w.heap[k]?) : RDx w' br L O l m t s := by
  have g : ∀ k, k = br ∨ L.ownBlock = some k ∨ O.ownBlock = some k → w'.heap[k]? = w.heap[k]? := fun k h => hk k (by simpa using h)
  exact ⟨by rw [g br (by simp)]; exact h.hbr, own_of_block h.hL (fun k hk => g k (by simp [hk])), own_of_block h.hO (fun k hk => g k (by simp [hk])), h.hf, h.wf, h.nd⟩

theorem RD.frame {w w' : World} {br : Nat} {fp : List Nat} {s : DS} (h : RD w br fp s) (hk : ∀ k ∈ fp, w'.heap[k]? = w.heap[k]?) : RD w' br fp s := by
  obtain ⟨L, O, l, m, t, h, rfl⟩ := h
  exact ⟨L, O, l, m, t, h.frame hk, rfl⟩

end Go.Proofs.YtdpeacdilgcloaaR
