/- An allocator in memory, and the contracts of package buddy's small functions. -/
import Derived.Test.YtohaoeilodebmaaDoorD
import Derived.Test.YtohaoeilodebmaaDoorM2
import Derived.Maps.OwnSet
import Derived.Maps.RangeWalk
namespace Go.Proofs.YtohaoeilodebmaaDoor
open Go.RowKit Go.Maps

/-- All blocks that were there, but for some, are as they were. -/
structure Turn (S : Nat → Prop) (w w' : World) : Prop where
  os : w'.os = w.os
  tape : w'.tape = w.tape
  output : w'.output = w.output
  size : w.heap.size ≤ w'.heap.size
  block : ∀ k, k < w.heap.size → ¬ S k → w'.heap[k]? = w.heap[k]?
theorem Turn.refl (S : Nat → Prop) (w : World) : Turn S w w := ⟨rfl, rfl, rfl, Nat.le_refl _, fun _ _ _ => rfl⟩
theorem Turn.trans {S : Nat → Prop} {a b c : World} (h : Turn S a b) (k : Turn S b c) : Turn S a c :=
  ⟨k.os.trans h.os, k.tape.trans h.tape, k.output.trans h.output, Nat.le_trans h.size k.size, fun i hi hg => (k.block i (Nat.lt_of_lt_of_le hi h.size) hg).trans (h.block i hi hg)⟩
theorem Turn.of_below {S : Nat → Prop} {w w' : World} (h : Below w.heap.size w w') : Turn S w w' := ⟨h.os, h.tape, h.output, h.size, fun k hk _ => h.block k hk⟩
theorem Turn.of_but {S : Nat → Prop} {w w' : World} {g : Nat} (h : But g w w') (hS : S g ∨ w.heap.size ≤ g) : Turn S w w' :=
  ⟨h.os, h.tape, h.output, h.size, fun k hk hn => h.block k hk (fun e => by subst e; rcases hS with h1 | h1; exact hn h1; omega)⟩
theorem Turn.drewN {S : Nat → Prop} {a w : World} (h : Turn S a w) (k : Nat) : Turn S a (w.drewN k) := ⟨h.os, h.tape, h.output, h.size, h.block⟩
theorem Turn.drew {S : Nat → Prop} {a w : World} (h : Turn S a w) : Turn S a w.drew := ⟨h.os, h.tape, h.output, h.size, h.block⟩
theorem Turn.alloc {S : Nat → Prop} {a w : World} (h : Turn S a w) (o : Obj) : Turn S a (w.alloc o) := h.trans (Turn.of_below ((Below.refl _ _).alloc (Nat.le_refl _) _))
theorem Turn.then {S : Nat → Prop} {a w w' : World} {g : Nat} (h : Turn S a w) (k : But g w w') (hS : S g ∨ w.heap.size ≤ g) : Turn S a w' := h.trans (Turn.of_but k hS)
theorem Below.of_turn {S : Nat → Prop} {Bd : Nat} {w0 w w' : World} (hb : Below Bd w0 w) (hB : Bd ≤ w.heap.size) (h : Turn S w w') (hS : ∀ k, S k → Bd ≤ k) : Below Bd w0 w' :=
  ⟨h.os.trans hb.os, h.tape.trans hb.tape, h.output.trans hb.output, Nat.le_trans hb.size h.size, fun k hk => (h.block k (by omega) (fun hs => by have := hS k hs; omega)).trans (hb.block k hk)⟩
theorem Turn.of_grown {S : Nat → Prop} {w w' : World} {r : Option Nat} (h : w.grownBy w' r) (hS : ∀ j, r = some j → S j ∨ w.heap.size ≤ j) : Turn S w w' :=
  ⟨h.os, h.tape, h.output, h.size, fun k hk hn => h.block k hk (fun e => by rcases hS k (by rw [← e]) with h1 | h1; exact hn h1; omega)⟩

theorem ownsMap_block {H : Type} {P : Program} {k : TypeId} {R : Value → Option (DataW H × List MemPlace)} {w w' : World} {b n : Nat} {D : DataW H} (h : w.ownsMap P k R b n D) (e : w'.heap[b]? = w.heap[b]?) : w'.ownsMap P k R b n D := by
  obtain ⟨es, clock, hb, r⟩ := h
  exact ⟨es, clock, by rw [e]; exact hb, r⟩

abbrev Umap (w : World) (m n : Nat) (D : DataW Unit) : Prop := w.ownsMap Tryd.prog 3 (plainElem (H := Unit) Tryd.prog 3) m n D
theorem law3 : Keyed Tryd.prog 3 := int_keyed Tryd.underlying3
theorem zero3 (w : World) : (zeroValue 3).run Tryd.prog w = .ok (.int .i64 0) w := by kernel_rfl

/-- Where a block begins. -/
def addr (k i : Nat) : Int := ((i * 2 ^ k * 1024 : Nat) : Int)
/-- The map has just the used blocks. -/
structure Has (D : DataW Unit) (B : St) : Prop where
  key : ∀ a : Int, Maps.has D (.int .i64 a) = true ↔ ∃ k i, B k i = .used ∧ a = addr k i
  val : ∀ k i, B k i = .used → ∀ z, D.atKey (.int .i64 (addr k i)) z = .lit (.int .i64 (k : Int))

def ptrOf (n : Nat) (bf : Nat → Nat) (k : Nat) : Value := if k < n then .pointer (some ⟨bf k, 0, none⟩) else .pointer none
def ptrs (n : Nat) (bf : Nat → Nat) : Array Value := Array.ofFn fun k : Fin 21 => ptrOf n bf k.val
def budCells (K n : Nat) (bf : Nat → Nat) (m : Nat) : Array Value := #[.int .i64 (K : Int)] ++ ptrs n bf ++ #[.map (some m)]

/-- The allocator of the order K at block p: its maps of free ones, its map of used ones at block m, of at most c. -/
structure Mem (w : World) (p m K : Nat) (bf gf : Nat → Nat) (B : St) (c : Nat) : Prop where
  head : w.heap[p]? = some (.cells (budCells K (K + 1) bf m) 66)
  maps : ∀ k, k ≤ K → ∃ ws, Bits w (bf k) (gf k) (2 ^ (K - k)) ws ∧ ∀ j, j < 2 ^ (K - k) → (bit ws j = true ↔ B k j = .free)
  used : ∃ n D, n ≤ c ∧ Umap w m n D ∧ Has D B
  small : K ≤ 20
  pm : p ≠ m
  bg : ∀ k k', k ≤ K → k' ≤ K → bf k ≠ gf k'
  gg : ∀ k k', k ≤ K → k' ≤ K → gf k = gf k' → k = k'
  gp : ∀ k, k ≤ K → gf k ≠ p
  gm : ∀ k, k ≤ K → gf k ≠ m
  bm : ∀ k, k ≤ K → bf k ≠ m

/-- What the allocator's calls may turn. -/
def Own (m K : Nat) (gf : Nat → Nat) : Nat → Prop := fun x => x = m ∨ ∃ k, k ≤ K ∧ x = gf k

theorem ptrs_size (n : Nat) (bf : Nat → Nat) : (ptrs n bf).size = 21 := by simp [ptrs]
theorem ptrs_get (n : Nat) (bf : Nat → Nat) (k : Nat) (h : k < 21) : (ptrs n bf)[k]? = some (ptrOf n bf k) := by simp [ptrs, h]
theorem budCells_size (K n : Nat) (bf : Nat → Nat) (m : Nat) : (budCells K n bf m).size = 23 := by simp [budCells, ptrs]
theorem budCells_ptr (K n : Nat) (bf : Nat → Nat) (m k : Nat) (h : k < 21) : (budCells K n bf m)[1 + k]? = some (ptrOf n bf k) := by
  unfold budCells
  rw [Array.getElem?_append_left (by simp [ptrs]; omega), Array.getElem?_append_right (by simp)]
  simp only [List.size_toArray, List.length_cons, List.length_nil, Nat.zero_add, Nat.add_sub_cancel_left]
  exact ptrs_get n bf k h
theorem budCells_map (K n : Nat) (bf : Nat → Nat) (m : Nat) : (budCells K n bf m)[22]? = some (.map (some m)) := by
  unfold budCells
  rw [Array.getElem?_append_right (by simp [ptrs])]
  simp [ptrs]

section
variable {w w' : World} {p m K : Nat} {bf gf : Nat → Nat} {B : St} {c : Nat}
theorem Mem.cK (h : Mem w p m K bf gf B c) : w.cell? ⟨p, 0, none⟩ = some (.int .i64 (K : Int)) := by
  rw [cell_of_row w p 0 _ _ _ h.head]
  unfold budCells
  rw [Array.getElem?_append_left (by simp [ptrs]), Array.getElem?_append_left (by simp)]
  rfl
theorem Mem.cptr (h : Mem w p m K bf gf B c) (k : Nat) (hk : k ≤ K) : w.cell? ⟨p, 1 + k, none⟩ = some (.pointer (some ⟨bf k, 0, none⟩)) := by
  rw [cell_of_row w p (1 + k) _ _ _ h.head, budCells_ptr _ _ _ _ _ (by have := h.small; omega), ptrOf, if_pos (by omega)]
theorem Mem.cmap (h : Mem w p m K bf gf B c) : w.cell? ⟨p, 22, none⟩ = some (.map (some m)) := by
  rw [cell_of_row w p 22 _ _ _ h.head, budCells_map]
theorem Mem.lp (h : Mem w p m K bf gf B c) : p < w.heap.size := (Array.getElem?_eq_some_iff.1 h.head).1
theorem Mem.lm (h : Mem w p m K bf gf B c) : m < w.heap.size := by
  obtain ⟨n, D, _, hU, _⟩ := h.used
  exact hU.lt
theorem Mem.lb (h : Mem w p m K bf gf B c) (k : Nat) (hk : k ≤ K) : bf k < w.heap.size ∧ gf k < w.heap.size := by
  obtain ⟨ws, hB, _⟩ := h.maps k hk
  exact hB.lt
theorem Mem.lown (h : Mem w p m K bf gf B c) {x : Nat} (hx : Own m K gf x) : x < w.heap.size := by
  rcases hx with rfl | ⟨k, hk, rfl⟩
  · exact h.lm
  · exact (h.lb k hk).2

/-- Other blocks may turn. -/
theorem Mem.other (h : Mem w p m K bf gf B c) (hb : ∀ x, x < w.heap.size → (x = p ∨ x = m ∨ ∃ k, k ≤ K ∧ (x = bf k ∨ x = gf k)) → w'.heap[x]? = w.heap[x]?) : Mem w' p m K bf gf B c := by
  refine ⟨by rw [hb p h.lp (.inl rfl)]; exact h.head, fun k hk => ?_, ?_, h.small, h.pm, h.bg, h.gg, h.gp, h.gm, h.bm⟩
  · obtain ⟨ws, hB, hw⟩ := h.maps k hk
    exact ⟨ws, ⟨by rw [hb _ hB.lt.1 (.inr (.inr ⟨k, hk, .inl rfl⟩))]; exact hB.head, by rw [hb _ hB.lt.2 (.inr (.inr ⟨k, hk, .inr rfl⟩))]; exact hB.body, hB.unlike, hB.small, hB.ok⟩, hw⟩
  · obtain ⟨n, D, hn, hU, hD⟩ := h.used
    exact ⟨n, D, hn, ownsMap_block hU (hb m hU.lt (.inr (.inl rfl))), hD⟩
theorem Mem.below (h : Mem w p m K bf gf B c) (hb : Below w.heap.size w w') : Mem w' p m K bf gf B c := h.other fun x hx _ => hb.block x hx
theorem Mem.drewN (h : Mem w p m K bf gf B c) (k : Nat) : Mem (w.drewN k) p m K bf gf B c := h.other fun _ _ _ => rfl
theorem Mem.drew (h : Mem w p m K bf gf B c) : Mem w.drew p m K bf gf B c := h.other fun _ _ _ => rfl
theorem Mem.alloc (h : Mem w p m K bf gf B c) (o : Obj) : Mem (w.alloc o) p m K bf gf B c := h.below ((Below.refl _ _).alloc (Nat.le_refl _) _)
theorem Mem.turn {S : Nat → Prop} (h : Mem w p m K bf gf B c) (hb : Turn S w w') (hS : ∀ x, S x → w.heap.size ≤ x ∨ (x ≠ p ∧ x ≠ m ∧ ∀ k, k ≤ K → x ≠ bf k ∧ x ≠ gf k)) : Mem w' p m K bf gf B c :=
  h.other fun x hx hc => hb.block x hx fun hs => by
    rcases hS x hs with h1 | ⟨h1, h2, h3⟩
    · omega
    · rcases hc with h4 | h4 | ⟨k, hk, h4 | h4⟩
      · exact h1 h4
      · exact h2 h4
      · exact (h3 k hk).1 h4
      · exact (h3 k hk).2 h4
theorem Has.congr {D : DataW Unit} {B B' : St} (h : Has D B) (hu : SameUsed B B') : Has D B' :=
  ⟨fun a => (h.key a).trans (exists_congr fun k => exists_congr fun i => and_congr_left fun _ => hu k i), fun k i hk => h.val k i ((hu k i).2 hk)⟩
theorem Mem.congr {B' : St} (h : Mem w p m K bf gf B c) (hf : ∀ k i, B k i = .free ↔ B' k i = .free) (hu : SameUsed B B') : Mem w p m K bf gf B' c := by
  refine ⟨h.head, fun k hk => ?_, ?_, h.small, h.pm, h.bg, h.gg, h.gp, h.gm, h.bm⟩
  · obtain ⟨ws, hB, hw⟩ := h.maps k hk
    exact ⟨ws, hB, fun j hj => (hw j hj).trans (hf k j)⟩
  · obtain ⟨n, D, hn, hU, hD⟩ := h.used
    exact ⟨n, D, hn, hU, hD.congr hu⟩
theorem Mem.more (h : Mem w p m K bf gf B c) {c' : Nat} (hc : c ≤ c') : Mem w p m K bf gf B c' := by
  obtain ⟨n, D, hn, r⟩ := h.used
  exact ⟨h.head, h.maps, ⟨n, D, by omega, r⟩, h.small, h.pm, h.bg, h.gg, h.gp, h.gm, h.bm⟩
end

theorem setAll_one {n : Nat} {ws : List Nat} (h : Okm n ws) (on : Bool) (j : Nat) (hj : j < n) (i : Nat) : bit (setAll n on ws [(j : Int)]).1 i = if i = j then on else bit ws i := by
  rw [setAll_bit on h]
  by_cases e : i = j
  · subst e; simp [hj]
  · rw [if_neg e, if_neg]
    rintro ⟨_, h2⟩
    simp at h2; omega

/-- Set of one bit of one of the maps. -/
theorem mem_set {w : World} {p m K : Nat} {bf gf : Nat → Nat} {B : St} {c : Nat} (h : Mem w p m K bf gf B c) (on : Bool) (k j s : Nat) (hk : k ≤ K) (hj : j < 2 ^ (K - k)) (hs : w.heap[s]? = some (.cells #[.int .i64 (j : Int)] 3)) (hsg : s ≠ gf k) :
    Calls Tryd.prog 36 #[.pointer (some ⟨bf k, 0, none⟩), .bool on, .slice (some ⟨s, 0, none⟩) 1 1] w fun e w' => (∃ t : Int, e = .returned (.int .i64 t)) ∧ But (gf k) w w' ∧
      ∀ B' : St, (∀ k' i, B' k' i = .free ↔ if k' = k ∧ i = j then on = true else B k' i = .free) → SameUsed B B' → Mem w' p m K bf gf B' c := by
  obtain ⟨ws, hB, hw⟩ := h.maps k hk
  refine (set_any (bf k) (gf k) (2 ^ (K - k)) ws on [(j : Int)] (some ⟨s, 0, none⟩) 1 w hB (.inr ⟨s, 0, rfl, hsg, (Array.getElem?_eq_some_iff.1 hs).1, fun i hi => ?_⟩) (by simp)).mono ?_
  · obtain rfl : i = 0 := by simpa using hi
    rw [cell_of_row w s _ _ _ _ hs]; rfl
  · rintro e w' ⟨rfl, hB', hb⟩
    refine ⟨⟨_, rfl⟩, hb, fun B' hf hu => ?_⟩
    have ho := h.lb k hk
    refine ⟨?_, fun k' hk' => ?_, ?_, h.small, h.pm, h.bg, h.gg, h.gp, h.gm, h.bm⟩
    · rw [hb.block p h.lp (h.gp k hk).symm]; exact h.head
    · by_cases e : k' = k
      · subst e
        refine ⟨_, hB', fun i hi => ?_⟩
        rw [setAll_one hB.ok on j hj, hf]
        by_cases ei : i = j
        · rw [if_pos ei, if_pos ⟨rfl, ei⟩]
        · rw [if_neg ei, if_neg (fun h => ei h.2)]; exact hw i hi
      · obtain ⟨ws2, hB2, hw2⟩ := h.maps k' hk'
        refine ⟨ws2, hB2.but hb (h.bg k' k hk' hk) (fun e2 => e (h.gg k' k hk' hk e2)), fun i hi => ?_⟩
        rw [hf, if_neg (fun h => e h.1)]; exact hw2 i hi
    · obtain ⟨n, D, hn, hU, hD⟩ := h.used
      exact ⟨n, D, hn, ownsMap_block hU (hb.block m hU.lt (h.gm k hk).symm), hD.congr hu⟩

theorem two_cast (k : Nat) : (2 : Int) ^ k = ((2 ^ k : Nat) : Int) := by simp
theorem pow_le20 {k : Nat} (h : k ≤ 20) : 2 ^ k ≤ 1048576 := by
  have : 2 ^ k ≤ 2 ^ 20 := Nat.pow_le_pow_right (by omega) h
  omega

theorem bytesOf_any (k : Nat) (w : World) (h : k ≤ 20) :
    Calls Tryd.prog 35 #[.int .i64 (k : Int)] w fun e w' => e = .returned (.int .i64 ((1024 * 2 ^ k : Nat) : Int)) ∧ w' = w := by
  have hp := pow_le20 h
  obtain ⟨q, hq⟩ : ∃ q, 2 ^ k = q := ⟨_, rfl⟩
  rw [hq] at hp ⊢
  have hc : (2 : Int) ^ k = (q : Int) := by rw [two_cast, hq]
  go_enter Tryd.func35, Tryd.ntmps35
  go_wp2
  go_ret
  exact ⟨ret_int (by omega), rfl⟩
end Go.Proofs.YtohaoeilodebmaaDoor
