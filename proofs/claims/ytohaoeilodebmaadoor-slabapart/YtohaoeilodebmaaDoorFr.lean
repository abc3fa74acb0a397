/- What came in as a list of acts; the table of math/bits as the rows list it, and a world that holds both tables; Take and Give of whatever number. -/
import Derived.Test.YtohaoeilodebmaaDoorCv
import Derived.ProofKit
import Derived.OpenShut
import Derived.ShutString
import Derived.ChangeOld
import Derived.Deep.DeepHandedRow
import Derived.Lib.LaidTab
import Derived.Deep.Slices
import Derived.Stop.LaidErr
namespace Go.Proofs.YtohaoeilodebmaaDoor
open Go.ChangeShapes Go.WideShapes Go.ChangeAt Go.RowKit

/-- The slice has so many acts, in memory that was there. -/
def Acts (w : World) (a : Option Addr) (len : Nat) : Prop :=
  len = 0 ∨ ∃ s o, a = some ⟨s, o, none⟩ ∧ s < w.heap.size ∧ ∀ i : Nat, i < len → ∃ kd n : Int, w.cell? ⟨s, o + i * 2, none⟩ = some (.int .i64 kd) ∧ w.cell? ⟨s, o + i * 2 + 1, none⟩ = some (.int .i64 n) ∧ (Lit.int .i64 kd).wf = true ∧ (Lit.int .i64 n).wf = true

theorem Acts.at {w w' : World} {Bd : Nat} {a : Option Addr} {len : Nat} (h : Acts w a len) (hb : Below Bd w w') (hB : w.heap.size ≤ Bd) {i : Nat} (hi : i < len) :
    ∃ s o, ∃ kd n : Int, a = some ⟨s, o, none⟩ ∧ s < w.heap.size ∧ w'.cell? ⟨s, o + i * 2, none⟩ = some (.int .i64 kd) ∧ w'.cell? ⟨s, o + i * 2 + 1, none⟩ = some (.int .i64 n) ∧ (Lit.int .i64 kd).wf = true ∧ (Lit.int .i64 n).wf = true := by
  rcases h with h | ⟨s, o, rfl, hs, hc⟩
  · omega
  · obtain ⟨kd, n, h0, h1, h2, h3⟩ := hc i hi
    exact ⟨s, o, kd, n, rfl, hs, (hb.cell (p := ⟨s, o + i * 2, none⟩) (show s < Bd by omega)).trans h0, (hb.cell (p := ⟨s, o + i * 2 + 1, none⟩) (show s < Bd by omega)).trans h1, h2, h3⟩

theorem cells3 : Tryd.prog.cellsOf 3 = 1 := by kernel_rfl
theorem cells38 : Tryd.prog.cellsOf 38 = 2 := by kernel_rfl

set_option maxRecDepth 1000000 in
theorem act_of {H : Type} {enc : TypeId × Value → H} {w : World} {fuel : Nat} {cs : List Value} {x : DataW H × List MemPlace} {s p : Nat} (h : DataW.trod enc Tryd.prog w 0 (fun _ => true) true fuel 38 cs = some x) (hc : ∀ j, j < 2 → w.cell? ⟨s, p + j, none⟩ = cs[j]?) :
    ∃ kd n : Int, w.cell? ⟨s, p, none⟩ = some (.int .i64 kd) ∧ w.cell? ⟨s, p + 1, none⟩ = some (.int .i64 n) ∧ (Lit.int .i64 kd).wf = true ∧ (Lit.int .i64 n).wf = true := by
  obtain ⟨xs, n, _, _, hl, hlen, hf⟩ := DataW.trod_struct Tryd.underlying38 h
  rw [cells38] at hl
  match cs, hl with
  | [v0, v1], _ =>
    match xs, hlen with
    | [y0, y1], _ =>
      have f0 : DataW.trod enc Tryd.prog w 0 (fun _ => true) true n 3 (([v0, v1].drop 0).take (Tryd.prog.cellsOf 3)) = some y0 := hf 0 _ rfl
      have f1 : DataW.trod enc Tryd.prog w 0 (fun _ => true) true n 3 (([v0, v1].drop 1).take (Tryd.prog.cellsOf 3)) = some y1 := hf 1 _ rfl
      rw [cells3] at f0 f1
      obtain ⟨a0, e0, _, w0⟩ := DataW.trod_int Tryd.underlying3 f0
      obtain ⟨a1, e1, _, w1⟩ := DataW.trod_int Tryd.underlying3 f1
      simp at e0 e1
      subst e0 e1
      exact ⟨a0, a1, hc 0 (by omega), hc 1 (by omega), w0, w1⟩

theorem acts_of {H : Type} {enc : TypeId × Value → H} {w : World} {fuel : Nat} {a : Option Addr} {len cap : Nat} {x : DataW H × List MemPlace} (h : DataW.trod enc Tryd.prog w 0 (fun _ => true) true fuel 22 [.slice a len cap] = some x) : Acts w a len := by
  rcases Deep.open_slice Tryd.underlying22 h with ⟨hcs, _⟩ | ⟨b, l, c, m, n, D, Pl, hcs, _, hl, hm, hmm, _, hx⟩
  · obtain ⟨rfl, rfl, rfl⟩ : a = none ∧ len = 0 ∧ cap = 0 := by simpa using hcs
    exact .inl rfl
  · obtain ⟨rfl, rfl, rfl⟩ : a = some b ∧ len = l ∧ cap = c := by simpa using hcs
    simp only [if_true] at hmm
    subst hmm
    by_cases h0 : len = 0
    · exact .inl h0
    rw [cells38] at hx
    obtain ⟨cs0, hc0, ht0⟩ := hx 0 (by omega)
    obtain ⟨_, hl0, hcell0⟩ := World.cells?_some hc0
    obtain ⟨s, o, spot⟩ := b
    have hsp : spot = none := by
      have h1 := hcell0 0 (by omega)
      rw [List.getElem?_eq_getElem (by omega)] at h1
      have := World.cell?_spot h1
      simpa [Addr.add] using this
    subst hsp
    refine .inr ⟨s, o, rfl, ?_, ?_⟩
    · have h1 := hcell0 0 (by omega)
      rw [List.getElem?_eq_getElem (by omega), Nat.zero_mul, addr_add, addr_add] at h1
      exact block_lt_of_cell h1
    · intro i hi
      obtain ⟨cs, hc, ht⟩ := hx i (by omega)
      obtain ⟨_, hl1, hcell⟩ := World.cells?_some hc
      refine act_of ht (fun j hj => ?_)
      have := hcell j hj
      rw [addr_add, addr_add] at this
      exact this

theorem own : ownKnob Tryd.prog.godebug = none := by kernel_rfl
theorem laidOut : laidOutB Tryd.prog = true := by kernel_rfl
theorem gTab : Tryd.prog.globalNamed "math/bits.deBruijn64tab" = some 1 := by kernel_rfl
theorem gTabType : (Tryd.prog.globals[1]?).map (·.type) = some 118 := by kernel_rfl
theorem cells118 : Tryd.prog.cellsOf 118 = 64 := by kernel_rfl
theorem cells5 : Tryd.prog.cellsOf 5 = 1 := by kernel_rfl

def tabInts : List Int := Lib.deBruijn64tab.map (fun x : Nat => (x : Int))
def tabInts32 : List Int := Lib.deBruijn32tab.map (fun x : Nat => (x : Int))
theorem table {W : World} (h : laidMetH Tryd.prog [("math/bits.deBruijn32tab", Rows.laid_math_bits_deBruijn32tab), ("math/bits.deBruijn64tab", Rows.laid_math_bits_deBruijn64tab)] W) : Lib.TabIs Tryd.prog W "math/bits.deBruijn64tab" .u8 tabInts :=
  Lib.tabIs_of_head (rest := []) gTab gTabType Tryd.underlying118 Tryd.underlying5 cells5 cells118 (laidMet.tail h)
theorem tab_val : ∀ j : Fin 64, tabInts.getD j.val 0 = ((Lib.deBruijn64tab.getD j.val 0 : Nat) : Int) := by decide +kernel
theorem tab_of {W : World} (h : laidMetH Tryd.prog [("math/bits.deBruijn32tab", Rows.laid_math_bits_deBruijn32tab), ("math/bits.deBruijn64tab", Rows.laid_math_bits_deBruijn64tab)] W) : Tab W := by
  intro j hj
  have := (table h).cell gTab j (by show j < _; exact hj)
  rw [this, tab_val ⟨j, hj⟩]

def lays (xs : List Int) : Obj → Obj
  | .cells _ t frozen => .cells (xs.map (Value.int .u8)).toArray t frozen
  | o => o
/-- A world for the witness: the settled one, the tables (blocks 0 and 1) holding what their initialisers lay. -/
def LaidWorld (os : Os) (W : World) : Prop :=
  W = { World.holding Tryd.prog os ⟨#[], #[], []⟩ with heap := ((World.holding Tryd.prog os ⟨#[], #[], []⟩).heap.modify 0 (lays tabInts32)).modify 1 (lays tabInts) }

/-- The allocator, as it may be. -/
def Good (w : World) (p m K : Nat) (bf gf : Nat → Nat) (B : St) (c : Nat) : Prop := Inv K B ∧ NoHeld B ∧ Mem w p m K bf gf B c

/-- What Take of whatever number comes to. -/
def Took (w : World) (p m K : Nat) (bf gf : Nat → Nat) (B : St) (c : Nat) (N : Int) (e : Ending) (w' : World) : Prop :=
  ∃ (at_ er : Int) (B' : St), e = .returned (.tuple #[.int .i64 at_, .int .i64 er]) ∧ Turn (Own m K gf) w w' ∧ Good w' p m K bf gf B' (c + 1) ∧
    ((at_ = 0 ∧ B' = B ∧ ((er = 1 ∧ (N < 0 ∨ (K : Int) < N)) ∨ er = 4 ∧ ∃ o : Nat, N = (o : Int) ∧ o ≤ K ∧ ∀ k j, o ≤ k → B k j ≠ .free)) ∨
     er = 0 ∧ ∃ o k i n : Nat, N = (o : Int) ∧ o ≤ K ∧ Least B o k i ∧ at_ = addr k i ∧ addr o n = addr k i ∧ B o n ≠ .used ∧ Plus B B' o n)
theorem took_any (w : World) (p m K : Nat) (bf gf : Nat → Nat) (B : St) (c : Nat) (N : Int) (hG : Good w p m K bf gf B c) (hT : Tab w) (hc : c ≤ 1000000) :
    Calls Tryd.prog 10 #[.pointer (some ⟨p, 0, none⟩), .int .i64 N] w (Took w p m K bf gf B c N) := by
  by_cases h : 0 ≤ N ∧ N ≤ (K : Int)
  · obtain ⟨o, rfl⟩ := Int.eq_ofNat_of_zero_le h.1
    refine (take_any w p m K bf gf B c o hG.2.2 hG.1 hG.2.1 hT (by omega) hc).mono ?_
    rintro e w' ⟨a, er, rfl, ht, ⟨rfl, rfl, hno, hm⟩ | ⟨k, i, n, B', rfl, hl, rfl, hn, hu, hp, hi', hn', hm'⟩⟩
    · exact ⟨_, _, B, rfl, ht, ⟨hG.1, hG.2.1, hm.more (by omega)⟩, .inl ⟨rfl, rfl, .inr ⟨rfl, o, rfl, by omega, hno⟩⟩⟩
    · exact ⟨_, _, B', rfl, ht, ⟨hi', hn', hm'⟩, .inr ⟨rfl, o, k, i, n, rfl, by omega, hl, rfl, hn, hu, hp⟩⟩
  · refine (take_bad w p K N hG.2.2.cK (by omega)).mono ?_
    rintro e w' ⟨rfl, rfl⟩
    exact ⟨_, _, B, rfl, Turn.refl _ _, ⟨hG.1, hG.2.1, hG.2.2.more (by omega)⟩, .inl ⟨rfl, rfl, .inl ⟨rfl, by omega⟩⟩⟩

/-- What Give of a used block comes to. -/
def Gave (w : World) (p m K : Nat) (bf gf : Nat → Nat) (B : St) (c k i : Nat) (e : Ending) (w' : World) : Prop :=
  ∃ B' : St, e = .returned (.int .i64 0) ∧ Turn (Own m K gf) w w' ∧ Good w' p m K bf gf B' c ∧ Less B B' k i
theorem gave_any (w : World) (p m K : Nat) (bf gf : Nat → Nat) (B : St) (c k i : Nat) (a : Int) (hG : Good w p m K bf gf B c) (hb : B k i = .used) (ha : a = addr k i) :
    Calls Tryd.prog 11 #[.pointer (some ⟨p, 0, none⟩), .int .i64 a] w (Gave w p m K bf gf B c k i) := by
  subst ha
  refine (give_some w p m K bf gf B c k i hG.2.2 hG.1 hG.2.1 hb).mono ?_
  rintro e w' ⟨er, rfl, ht, ⟨rfl, hno, _⟩ | ⟨k', i', B', rfl, hb', ha', hl, hi', hn', hm'⟩⟩
  · exact (hno k i hb rfl).elim
  · obtain ⟨rfl, rfl⟩ := addr_inj hG.1 (by rw [hb]; simp) (by rw [hb']; simp) ha'
    exact ⟨B', rfl, ht, ⟨hi', hn', hm'⟩, hl⟩

/-- A list of blocks that came from Used or Free. -/
def Got (B : St) (x : Kind) (w : World) (e : Ending) (w' : World) : Prop :=
  ∃ a cap L, e = .returned (.slice a (L.length : Nat) cap) ∧ Lst B x L ∧ L.length ≤ 100000000 ∧ Rd w' w.heap.size a L ∧ Below w.heap.size w w'
theorem got_free (w : World) (p m K : Nat) (bf gf : Nat → Nat) (B : St) (c : Nat) (hG : Good w p m K bf gf B c) (hT : Tab w) : Calls Tryd.prog 13 #[.pointer (some ⟨p, 0, none⟩)] w (Got B .free w) := by
  refine (free_any w p m K bf gf B c hG.2.2 hG.1 hT).mono ?_
  rintro e w' ⟨v, L, rfl, hL, hl, ho, hb⟩
  obtain ⟨a, cap, rfl, hr⟩ := rd_of ho
  exact ⟨a, cap, L, rfl, hL, hl, hr, hb⟩
theorem got_used (w : World) (p m K : Nat) (bf gf : Nat → Nat) (B : St) (c : Nat) (hG : Good w p m K bf gf B c) (hc : c ≤ 1000000) : Calls Tryd.prog 14 #[.pointer (some ⟨p, 0, none⟩)] w (Got B .used w) := by
  refine (used_any w p m K bf gf B c hG.2.2 hG.1 hc).mono ?_
  rintro e w' ⟨v, L, rfl, hL, hl, ho, hb⟩
  obtain ⟨a, cap, rfl, hr⟩ := rd_of ho
  exact ⟨a, cap, L, rfl, hL, hl, hr, hb⟩
theorem Good.below {w w' : World} {p m K : Nat} {bf gf : Nat → Nat} {B : St} {c : Nat} (h : Good w p m K bf gf B c) (hb : Below w.heap.size w w') : Good w' p m K bf gf B c := ⟨h.1, h.2.1, h.2.2.below hb⟩
theorem Good.more {w : World} {p m K : Nat} {bf gf : Nat → Nat} {B : St} {c c' : Nat} (h : Good w p m K bf gf B c) (hc : c ≤ c') : Good w p m K bf gf B c' := ⟨h.1, h.2.1, h.2.2.more hc⟩
theorem Good.lown {w : World} {p m K : Nat} {bf gf : Nat → Nat} {B : St} {c : Nat} (h : Good w p m K bf gf B c) : ∀ x, Own m K gf x → x < w.heap.size := fun _ hx => h.2.2.lown hx

/-- An element of a list of blocks is a block of that kind. -/
theorem Lst.blk {B : St} {x : Kind} {L : List (Nat × Nat)} (h : Lst B x L) {j p k : Nat} (hj : L[j]? = some (p, k)) : ∃ i, B k i = x ∧ ((p * 1024 : Nat) : Int) = addr k i := by
  obtain ⟨i, rfl, hb⟩ := (h.mem p k).1 (List.mem_of_getElem? hj)
  exact ⟨i, hb, rfl⟩

theorem newG (w : World) (hT : Tab w) : Calls Tryd.prog 8 #[.int .i64 131072] w fun e w' => ∃ p m bf gf, e = .returned (.pointer (some ⟨p, 0, none⟩)) ∧ Good w' p m 7 bf gf (begin_ 7) 0 ∧ (∀ x, Own m 7 gf x → w.heap.size ≤ x) ∧ Below w.heap.size w w' := by
  refine (newB_any 7 w hT (by omega) (by omega)).mono ?_
  rintro e w' ⟨p, m, bf, gf, rfl, hm, hn, hb⟩
  refine ⟨p, m, bf, gf, rfl, ⟨begin_inv 7, begin_noheld 7, hm⟩, ?_, hb⟩
  rintro x (rfl | ⟨k, hk, rfl⟩)
  · exact hn.2.1
  · exact (hn.2.2 k hk).2
end Go.Proofs.YtohaoeilodebmaaDoor
